import Derived.Test.YtajakaadgagejaaGreatDoorA22
import Derived.Test.YtajakaadgagejaaGreatDoorA18
set_option maxRecDepth 100000
set_option maxHeartbeats 8000000
set_option linter.unusedVariables false
set_option linter.unusedSimpArgs false
set_option linter.unusedSectionVars false
namespace Go.Proofs.YtajakaadgagejaaGreatDoor
open Go.Value renaming int→I,slice→Y,string→Z,pointer→Zp
open Go.Ending renaming returned→Zr
open _root_.ByteArray renaming empty→Ze
open Go.IntKind renaming i64→J
open Option renaming none→O
open Go.RowKit
section
variable {N:Nat} {w w':World} {g:Nat} {K K':Kw} {V V':Kv}
theorem KAt.setO (h:KAt N w g K V) {b cap:Nat} (hv:V.vO=Y (some ⟨b,0,O⟩) K.opn.length cap) (k:Nat) (x:Int):Kst N w (w.setCell ⟨b,k,O⟩ (I J x)) g K V { K with opn:=K.opn.set k x } V :=
 h.setRow (i:=5) (r:=⟨3,1,V.vO,K.opn.length,K.opn.map (Value.int .i64)⟩) rfl hv k (I J x) rfl (by unfold dX;simp only[List.length_set,List.map_set];rfl) rfl
theorem KAt.setB (h:KAt N w g K V) {b cap:Nat} (hv:V.vB=Y (some ⟨b,0,O⟩) K.begun.length cap) (k:Nat) (x:Int):Kst N w (w.setCell ⟨b,k,O⟩ (I J x)) g K V { K with begun:=K.begun.set k x } V :=
 h.setRow (i:=2) (r:=⟨3,1,V.vB,K.begun.length,K.begun.map (Value.int .i64)⟩) rfl hv k (I J x) rfl (by unfold dX;simp only[List.length_set,List.map_set];rfl) rfl
theorem KAt.setD (h:KAt N w g K V) {b cap:Nat} (hv:V.vD=Y (some ⟨b,0,O⟩) K.down.length cap) (k:Nat) (x:Bool):Kst N w (w.setCell ⟨b,k,O⟩ (.bool x)) g K V { K with down:=K.down.set k x } V :=
 h.setRow (i:=1) (r:=⟨4,1,V.vD,K.down.length,K.down.map Value.bool⟩) rfl hv k (.bool x) rfl (by unfold dX;simp only[List.length_set,List.map_set];rfl) rfl
theorem KI.down (h:KI K) (k:Nat) (x:Bool):KI { K with down:=K.down.set k x }:=⟨⟨h.sz.n3,h.sz.n7,h.sz.nds,by simpa using h.sz.down,h.sz.begun,h.sz.opn⟩,h.part,h.nod,h.net,h.wish,h.opn,h.list,h.grps,h.li,h.gl⟩
theorem KI.begun (h:KI K) (k:Nat) (x:Int):KI { K with begun:=K.begun.set k x }:=⟨⟨h.sz.n3,h.sz.n7,h.sz.nds,h.sz.down,by simpa using h.sz.begun,h.sz.opn⟩,h.part,h.nod,h.net,h.wish,h.opn,h.list,h.grps,h.li,h.gl⟩
theorem KI.opnf (h:KI K) (k:Nat) (f:Int):KI { K with opn:=K.opn.set k (-1),floor:=f }:=⟨⟨h.sz.n3,h.sz.n7,h.sz.nds,h.sz.down,h.sz.begun,by simpa using h.sz.opn⟩,h.part,h.nod,h.net,h.wish,fun v hv=>by
 rcases List.mem_or_eq_of_mem_set hv with q|rfl
 ·exact h.opn v q
 ·exact⟨by omega,by omega⟩,h.list,h.grps,h.li,h.gl⟩
def Dr (N:Nat) (w w':World) (g:Nat) (K:Kw) (V:Kv) (c:Nat) (e:Ending):Prop:=e=Zr (.tuple #[])∧∃ K',Kst N w w' g K V K' V∧(K'=K∨∃ f,K'={ K with opn:=K.opn.set c (-1),floor:=f })
theorem DV (h:KAt N w g K V) (hi:KI K) (c:Nat) (hc0:1≤c) (hc1:c≤9) (t:ByteArray) :
  Calls Tryz.prog 97 #[Zp (some ⟨g,0,O⟩),I J (c:Int),Z t] w fun e w'=>Dr N w w' g K V c e:=by
 have z10:=hi.sz.opn;have hop:c<K.opn.length:=by omega
 obtain⟨aO,cO,hvO⟩:=au h.rO
 have HC9:Hid (∀ w2,Below w.heap.size w w2→w2.cell? ⟨g,9,O⟩=some (Y aO K.opn.length cO)):=fun w2 hw2=>by rw[← hvO];exact (h.below hw2).cell 9
 have HO:=ah (fun (w2:World) (hw2:Below w.heap.size w w2)=>KAt.opn h hvO hw2)
 obtain⟨aW,cW,hvW⟩:=au h.rW
 have HC8:Hid (∀ w2,Below w.heap.size w w2→w2.cell? ⟨g,8,O⟩=some (Y aW K.wishes.length cW)):=fun w2 hw2=>by rw[← hvW];exact (h.below hw2).cell 8
 have HW:Hid (∀ w2,Below w.heap.size w w2→jE w2 (Y aW K.wishes.length cW) K.wishes):=fun w2 hw2=>by rw[← hvW];exact (h.below hw2).eW
 obtain⟨aL,cL,hvL⟩:=au h.rL
 have HC10:Hid (∀ w2,Below w.heap.size w w2→w2.cell? ⟨g,10,O⟩=some (Y aL K.list.length cL)):=fun w2 hw2=>by rw[← hvL];exact (h.below hw2).cell 10
 have HL:Hid (∀ w2,Below w.heap.size w w2→gu w2 (Y aL K.list.length cL) K.list):=fun w2 hw2=>by rw[← hvL];exact (h.below hw2).eL
 have HY:Hid (∀ w2,Below w.heap.size w w2→Dr N w w2 g K V c (Zr (.tuple #[]))):=fun w2 hw2=>⟨rfl,K,(Kst.refl h).below hw2,.inl rfl⟩
 have hov:=hi.opn _ (List.getElem_mem hop);obtain⟨bO,capO,eO,hbO⟩:=nQ h.rO (by omega)
 rw[hvO] at eO;cases eO;obtain⟨b2,o2,e2,_,d2⟩:=HO.out w (Below.refl _ _) c hop
 cases e2;simp only[Nat.zero_add] at d2;have c9:=HC9.out w (Below.refl _ _);have c8:=HC8.out w (Below.refl _ _);have j1:(0:Int)≤(c:Int):=by omega
 have j2:(c:Int)<(K.opn.length:Int):=by omega
 have hgl:g<w.heap.size:=h.lb
 by_cases hv:K.opn[c]<0
 ·clear h hi z10;generalize K.opn[c]=ov at *;go_enter Tryz.func97,Tryz.ntmps97;go_wp2_with fail;have HYw:=HY.out _ (Below.refl _ _);exact bodyPost_ret (v:=.tuple #[]) (results_none rfl _ _ _) rfl HYw
 ·obtain⟨o,ho⟩:=Int.eq_ofNat_of_zero_le (show 0≤K.opn[c] by omega)
  have hol:o<K.wishes.length:=by omega
  have q:=hi.wish _ (List.getElem_mem hol);obtain⟨b3,o3,rfl,hb3,d3,d4,d5,_⟩:=(HW.out w (Below.refl _ _)).get o hol
  rw[ho] at d2;have j3:(0:Int)≤(o:Int):=by omega
  have j4:(o:Int)<(K.wishes.length:Int):=by omega
  have HNc:Hid (∀ w2,Calls Tryz.prog 31 #[I J (c:Int)] w2 fun e w'=>e=Zr (Z (dg c))∧Below w2.heap.size w2 w'):=fun w2=>fJ c w2 (by omega) (by omega)
  have sc:=eZ (c:Int) (by omega)
  have HNk:Hid (∀ w2,Calls Tryz.prog 31 #[I J K.wishes[o].e.2.1] w2 fun e w'=>e=Zr (Z (dg K.wishes[o].e.2.1))∧Below w2.heap.size w2 w'):=fun w2=>fJ _ w2 (by have:=q.n1;omega) (by have:=q.n9;omega)
  have sn:=eZ K.wishes[o].e.2.1 (by have:=q.n9;omega)
  have HKO:Hid (∀ w2,Below w.heap.size w w2→KAt N w2 g K V):=fun w2 hw2=>h.below hw2
  have HF0:Hid (∀ b,w.heap.size≤b→b∉gV g K V):=fun b hb hc=>by
   obtain⟨c,hc1,hc2⟩:=List.mem_flatten.1 hc
   have:=h.lt c hc1 _ hc2
   omega
  have HKr:=ah (Kst.refl h);have hll:=hi.list.1;have q9:∀ o,(w.alloc o).cell? ⟨g,9,O⟩=some (Y (some ⟨bO,0,O⟩) K.opn.length cO):=fun o=>(((Below.refl _ w).alloc (Nat.le_refl _) o).cell (p:=⟨g,9,O⟩) hgl).trans c9
  have q8:∀ o,(w.alloc o).cell? ⟨g,8,O⟩=some (Y (some ⟨b3,o3,O⟩) K.wishes.length cW):=fun o=>(((Below.refl _ w).alloc (Nat.le_refl _) o).cell (p:=⟨g,8,O⟩) hgl).trans c8
  have q2:∀ x,(w.alloc x).cell? ⟨bO,c,O⟩=some (I J (o:Int)):=fun x=>(((Below.refl _ w).alloc (Nat.le_refl _) x).cell (p:=⟨bO,c,O⟩) hbO).trans d2
  have q3:∀ x,(w.alloc x).cell? ⟨b3,o3+o*6,O⟩=some (I J K.wishes[o].e.1):=fun x=>(((Below.refl _ w).alloc (Nat.le_refl _) x).cell (p:=⟨b3,o3+o*6,O⟩) hb3).trans d3
  have q4:∀ x,(w.alloc x).cell? ⟨b3,o3+o*6+1,O⟩=some (I J K.wishes[o].e.2.1):=fun x=>(((Below.refl _ w).alloc (Nat.le_refl _) x).cell (p:=⟨b3,o3+o*6+1,O⟩) hb3).trans d4
  have q5:∀ x,(w.alloc x).cell? ⟨b3,o3+o*6+2,O⟩=some (Z K.wishes[o].e.2.2):=fun x=>(((Below.refl _ w).alloc (Nat.le_refl _) x).cell (p:=⟨b3,o3+o*6+2,O⟩) hb3).trans d5
  clear h hi q hv hov ho z10;generalize K.wishes[o].e.1=cl at *;generalize K.wishes[o].e.2.1=nu at *;generalize K.wishes[o].e.2.2=op at *;generalize dg (c:Int)=dc at *;generalize dg nu=dn at *;have j0:¬(o:Int)<0:=by omega
  have z1:¬9223372036854775807<2+dc.size:=by omega
  have z2:¬9223372036854775807<2+dc.size+1:=by omega
  have z3:¬9223372036854775807<2+dc.size+1+dn.size:=by omega
  have z4:¬9223372036854775807<2+dc.size+1+dn.size+1:=by omega
  go_enter Tryz.func97,Tryz.ntmps97;go_wp2_with fail;go_region;have hbX:Below w.heap.size w (w.alloc (.cells #[I J cl,I J nu,Z op] 66)).drew:=((Below.refl _ w).alloc (Nat.le_refl _) _).drew
  have hxX:((w.alloc (.cells #[I J cl,I J nu,Z op] 66)).drew).heap[w.heap.size]? = some (.cells #[I J cl,I J nu,Z op] 66):=heap_alloc_new w _
  generalize (w.alloc (.cells #[I J cl,I J nu,Z op] 66)).drew=wX at *;clear q9 q8 q2 q3 q4 q5 d2 d3 d4 d5 c8 c9;go_wp2_with fail;refine (HNc.out _).mono ?_;rintro e w1 ⟨rfl,hb1⟩;have hb1':=hbX.trans (hb1.mono hbX.size)
  have hx1:=(hb1.block _ (lt_of_block hxX)).trans hxX;have x1:w1.cell? ⟨w.heap.size,1,O⟩=some (I J nu):=by simp[World.cell?,hx1]
  clear hbX hxX;go_wp2_with fail;refine (HNk.out _).mono ?_;rintro e w2 ⟨rfl,hb2⟩;have hb2':=hb1'.trans (hb2.mono hb1'.size)
  have hx2:=(hb2.block _ (lt_of_block hx1)).trans hx1;clear x1 hx1 hb1 hb2 hb1';have HYw:=ah (HY.out _ hb2');by_cases hlt:(t.size:Int)<2+(dc.size:Int)+1+(dn.size:Int)+1
  ·go_wp2_with fail;exact bodyPost_ret (v:=.tuple #[]) (results_none rfl _ _ _) rfl HYw.out
  ·have hle:2+(dc.size:Int)+1+(dn.size:Int)+1≤(t.size:Int):=by omega
   have c9:=HC9.out _ hb2';obtain⟨b4,o4,e4,_,d2⟩:=HO.out _ hb2' c hop
   cases e4;simp only[Nat.zero_add] at d2;have fz:=(HKO.out _ hb2').fz (i:=5) (r:=⟨3,1,V.vO,K.opn.length,K.opn.map (Value.int .i64)⟩) rfl hvO c;generalize K.opn[c]=ov at *;have HS4:=ah ((HKO.out _ hb2').setO hvO c (-1));have HT4:=ah ((HKr.out.below hb2').trans HS4.out);have hx4:=(HS4.out.kp.block _ (lt_of_block hx2) (HF0.out _ (Nat.le_refl _))).trans hx2;go_upto_region 6 with fail
   ·exact bodyPost_ret (v:=.tuple #[]) (results_none rfl _ _ _) rfl HYw.out
   ·go_cut [] from 10 (fun wr=>wr=w2.setCell ⟨bO,c,O⟩ (I J (-1)))
    case first =>
     go_wp2_with fail;go_meet
     case rel=>rfl
    case rest =>
    rename_i wC _;subst hcut;go_wp2_with fail;generalize w2.setCell ⟨bO,c,O⟩ (I J (-1))=w4 at *;have hEq:=Ky;have hGd:=eqGd;clear hle hlt HO HW HC8 HC9 HC10 HNc HNk HYw hx2 d2 fz c9;go_loopw [10] (fun i wr=>∃ (k:Nat) (f:Int),k≤K.list.length∧i=I J k∧Kst N w4 wr g { K with opn:=K.opn.set c (-1) } V { K with opn:=K.opn.set c (-1),floor:=f } V) (fun i _=>K.list.length-(intOf i).toNat)
    case atStart=>exact⟨0,K.floor,Nat.zero_le _,rfl,Kst.refl HS4.out.at_⟩
    case round =>
     obtain⟨k,f,hk,rfl,kk⟩:=hrel
     have HKK:=ah kk;have c10:wr.cell? ⟨g,10,O⟩=some V.vL:=kk.at_.cell 10
     have c12:wr.cell? ⟨g,12,O⟩=some (I J f):=kk.at_.cell 12
     have f12:=kk.at_.free 12;have hx:=(kk.kp.block _ (lt_of_block hx4) (HF0.out _ (Nat.le_refl _))).trans hx4;have x0:wr.cell? ⟨w.heap.size,0,O⟩=some (I J cl):=by simp[World.cell?,hx]
     have x1:wr.cell? ⟨w.heap.size,1,O⟩=some (I J nu):=by simp[World.cell?,hx]
     have x2:wr.cell? ⟨w.heap.size,2,O⟩=some (Z op):=by simp[World.cell?,hx]
     have hL:gu wr (Y aL K.list.length cL) K.list:=by rw[← hvL];exact kk.at_.eL
     rw[hvL] at c10;clear hx kk;by_cases hlt:k<K.list.length
     ·obtain⟨b5,o5,rfl,_,d1,d2,d3⟩:=hL.get k hlt
      have j5:(0:Int)≤(k:Int):=by omega
      have j6:(k:Int)<(K.list.length:Int):=by omega
      have nw:IntKind.i64.wrap ((k:Int)+1)=(k:Int)+1:=eB (by omega) (by omega)
      clear hL;generalize K.list[k].1=cl2 at *;generalize K.list[k].2.1=nu2 at *;generalize K.list[k].2.2=op2 at *;cases hen:xq cl2 nu2 op2 cl nu op
      ·go_wp2_with fail;go_quiet (fail);have hbq:=HKK.out.below (below_drewN (Below.refl _ _) nq);go_wp2_with fail;go_roundw
       case rel=>exact⟨k+1,f,by omega,by go_num,hbq⟩
       case measure=>simp[intOf];omega
      ·by_cases hf:f<(k:Int)+1
       ·go_wp2_with fail;go_quiet (fail);have hbq:=HKK.out.below (below_drewN (Below.refl _ _) nq);have HSf:=ah (hbq.at_.scalar (K':={ K with opn:=K.opn.set c (-1),floor:=(k:Int)+1 }) 12 (I J ((k:Int)+1)) rfl rfl rfl)
        have HT:=ah (hbq.trans HSf.out);clear hbq;go_wp2_with fail;go_roundw
        case rel=>exact⟨k+1,(k:Int)+1,by omega,by go_num,HT.out⟩
        case measure=>simp[intOf];omega
       ·have hf':decide (f<(k:Int)+1)=false:=decide_eq_false hf
        have hf2:(k:Int)+1≤f:=by omega
        go_wp2_with fail;go_quiet (fail);have hbq:=HKK.out.below (below_drewN (Below.refl _ _) nq);go_wp2_with fail;go_roundw
        case rel=>exact⟨k+1,f,by omega,by go_num,hbq⟩
        case measure=>simp[intOf];omega
     ·have HE:Hid (Dr N w wr g K V c (Zr (.tuple #[]))):=⟨rfl,_,HT4.out.trans HKK.out,.inr ⟨f,rfl⟩⟩
      go_wp2_with fail;refine bodyPost_end (results_none rfl _ _ _) rfl ?_;exact HE.out
end
section
variable {N:Nat} {w w':World} {g:Nat} {K K':Kw} {V V':Kv}
theorem b0_at {s:ByteArray} (h:0<s.size):b0 s=(s[0].toNat:Int):=by unfold b0;rw[atS h]
theorem KI.join (h:KI K) (E:En) (hE:kV K.n E) (hl:K.list.length<10):KI (iE K E):=by
 have hsz:=(uq hE.2.2.2.2.1).sz.s2;refine⟨⟨h.sz.n3,h.sz.n7,h.sz.nds,h.sz.down,h.sz.begun,h.sz.opn⟩,h.part,h.nod,h.net,h.wish,h.opn,⟨by simp[iE];omega,fun e he=>?_⟩,fun t ht=>?_,h.li,?_⟩
 ·rcases List.mem_append.1 he with q|q
  ·exact h.list.2 e q
  ·simp at q;subst q;exact hE
 ·unfold iE uL at ht;simp only at ht
  split at ht
  ·rename_i hb;rcases List.mem_append.1 ht with q|q
   ·exact h.grps t q
   ·simp at q;subst q;have:=hE.2.2.2.2.1
    rw[Km (by omega) (beq_iff_eq.2 ((b0_at (by omega)).symm.trans hb))] at this
    exact this
  ·exact h.grps t ht
 ·have:=h.gl
  unfold iE uL;simp only
  split
  ·simp;omega
  ·simp;omega
structure Ag (N:Nat) (w wr:World) (g:Nat) (K:Kw) (V:Kv) (K':Kw) (V':Kv):Prop where
 kst:Kst N w wr g K V K' V'
 ki:KI K'
 nds:K'.nds=K.nds
 net:K'.net=K.net
 n:K'.n=K.n
 wl:K'.wishes=K.wishes
 lv:K'.lives=K.lives
 gl:K.groups.length≤K'.groups.length
theorem Ag.refl (h:KAt N w g K V) (hi:KI K):Ag N w w g K V K V:=⟨Kst.refl h,hi,rfl,rfl,rfl,rfl,rfl,Nat.le_refl _⟩
theorem Ag.dA {wr:World} (A:Ag N w wr g K V K' V'):dA K'=dA K:=by unfold Go.Proofs.YtajakaadgagejaaGreatDoor.dA;rw[A.nds,A.net,A.wl,A.lv]
section
variable {wr w2:World} {K2:Kw} {V2:Kv}
theorem Ag.below (A:Ag N w wr g K V K' V') (hb:Below wr.heap.size wr w2):Ag N w w2 g K V K' V':=⟨A.kst.below hb,A.ki,A.nds,A.net,A.n,A.wl,A.lv,A.gl⟩
theorem Ag.pre {w0:World} (A:Ag N w wr g K V K' V') (h:KAt N w0 g K V) (hb:Below w0.heap.size w0 w):Ag N w0 wr g K V K' V':=⟨((Kst.refl h).below hb).trans A.kst,A.ki,A.nds,A.net,A.n,A.wl,A.lv,A.gl⟩
theorem Ag.fails {p:Int} (A:Ag N w wr g K V K' V') (k:Kst N wr w2 g K' V' { K' with part:=p } V2) (hp:dK p):Ag N w w2 g K V { K' with part:=p } V2 :=
 ⟨A.kst.trans k,A.ki.fails hp,A.nds,A.net,A.n,A.wl,A.lv,A.gl⟩
theorem Ag.join {E:En} (A:Ag N w wr g K V K' V') (k:Kst N wr w2 g K' V' (iE K' E) V2) (hE:kV K.n E) (hl:K'.list.length<10):Ag N w w2 g K V (iE K' E) V2 :=
 ⟨A.kst.trans k,A.ki.join E (by rw[A.n];exact hE) hl,A.nds,A.net,A.n,A.wl,A.lv,Nat.le_trans A.gl (by unfold iE uL;simp only;split <;> simp)⟩
theorem Ag.begun {j:Nat} {y:Int} (A:Ag N w wr g K V K' V') (k:Kst N wr w2 g K' V' { K' with begun:=K'.begun.set j y } V2):Ag N w w2 g K V { K' with begun:=K'.begun.set j y } V2 :=
 ⟨A.kst.trans k,A.ki.begun j y,A.nds,A.net,A.n,A.wl,A.lv,A.gl⟩
theorem Ag.node (A:Ag N w wr g K V K' V') {q:Nat} {x:Nod} (hx:K.nds[q]? = some x):ay wr x.b x.bl x.W x.F x.R x.V:=A.kst.at_.nodes x (by rw[A.nds];exact List.mem_of_getElem? hx)
end
def AgE (N:Nat) (w w':World) (g:Nat) (K:Kw) (V:Kv) (x:Nod) (e:Ending):Prop:=∃ b K' V',e=Zr (.bool b)∧Ag N w w' g K V K' V'∧(b=true→x.R.status=3∨x.R.epoch<(K'.groups.length:Int))
theorem Ah {l m:List En} {k:Nat} (h:l.take k=m.take k) (h1:k<l.length) (h2:k<m.length) (e:l[k]=m[k]):l.take (k+1)=m.take (k+1):=by
 rw[List.take_succ_eq_append_getElem h1,List.take_succ_eq_append_getElem h2,h,e]
theorem pE (h:KAt N w g K V) (hi:KI K) (q:Nat) (x:Nod) (hx:K.nds[q]? = some x) :
  Calls Tryz.prog 61 #[Zp (some ⟨g,0,O⟩),I J q] w fun e w'=>AgE N w w' g K V x e:=by
 have z:=hi.sz;obtain⟨n,hn⟩:∃ n:Nat,K.n=n:=⟨K.n.toNat,by have:=z.n3;omega⟩
 have z3:=z.n3;have z1:=z.nds;have z7:=z.n7;have zd:=z.down;have zb:=z.begun;have z10:=z.opn;rw[hn] at z1 z7 z3 zd zb;have HC1:Hid (∀ w2,Below w.heap.size w w2→w2.cell? ⟨g,1,O⟩=some (I J n)):=fun w2 hw2=>by rw[← hn];exact (h.below hw2).cell 1
 obtain⟨aN,cN,hvN⟩:=au h.rN
 have HC2:Hid (∀ w2,Below w.heap.size w w2→w2.cell? ⟨g,2,O⟩=some (Y aN K.nds.length cN)):=fun w2 hw2=>by rw[← hvN];exact (h.below hw2).cell 2
 have HN:=ah (fun (w2:World) (hw2:Below w.heap.size w w2)=>KAt.ptr h hvN hw2)
 have HWh:=ah (fun (w2:World) (hw2:Below w.heap.size w w2)=>KAt.whr h hw2)
 obtain⟨hq,hxe⟩:=List.getElem?_eq_some_iff.1 hx
 have ni:=hi.nod q x hx;have hok:=ni.ok;have HRc:=ah ni.rc;have HSvI:=ah ni.sv;have hRn:=ni.n;have HQ:=ah (HWh.out w (Below.refl _ _) q hq);rw[hxe] at HQ;obtain⟨b1,o1,rfl,_,d1⟩:=HN.out w (Below.refl _ _) q hq
 rw[hxe] at d1;have c2:=HC2.out w (Below.refl _ _);have j1:(0:Int)≤(q:Int):=by omega
 have j2:(q:Int)<(K.nds.length:Int):=by omega
 have HLg:Hid (∀ w2,Below w.heap.size w w2→Calls Tryz.prog 104 #[Zp (some ⟨x.b,0,O⟩)] w2 fun e w'=>∃ v,e=Zr v∧w'.ownsRow w2.heap.size 66 3 v x.R.log.length (aA x.R.log)∧Below w2.heap.size w2 w'):=fun w2 hw2=>qy ((h.nodes x (List.mem_of_getElem? hx)).below hw2) (by have:=hok.lg;omega)
 have HY3:Hid (∀ w2,Below w.heap.size w w2→x.R.status=3→AgE N w w2 g K V x (Zr (.bool true))):=fun w2 hw2 h3=>⟨true,K,V,rfl,(Ag.refl h hi).below hw2,fun _=>.inl h3⟩
 have HK:=ah (fun (w2:World) (hw2:Below w.heap.size w w2)=>h.below hw2)
 have HKI:=ah hi;have HPre:Hid (∀ {w1 w2:World} {K':Kw} {V':Kv},Below w.heap.size w w1→Ag N w1 w2 g K V K' V'→Ag N w w2 g K V K' V'):=fun hb A=>A.pre h hb
 have HFoot:Hid (∀ b,w.heap.size≤b→b∉gV g K V):=fun b hb hc=>by
  obtain⟨c,hc1,hc2⟩:=List.mem_flatten.1 hc
  have:=h.lt c hc1 _ hc2
  omega
 have HX:=ah hx;have hep:=hok.ep;have hdl:=hok.dc;have hlg:=hok.lg;have HEn:Hid (∀ (k:Nat) (hk:k<x.R.log.length),kV K.n x.R.log[k]):=fun k hk=>by rw[← hRn];exact hok.le _ (List.getElem_mem hk)
 have HGl:Hid (x.R.grp.length≤5∧∀ y∈x.R.grp,0≤y∧y≤1000000):=⟨hok.g.1,fun y hy=>by have:=hok.g.2 y hy;have:=hok.n7;omega⟩
 clear h hi z hx ni hok HWh HN HC1;by_cases s3:x.R.status=3
 ·have hd0:=(HRc.out s3).2.2.2;have HY:=ah (fun w2 hw2=>HY3.out w2 hw2 s3)
  rw[s3,hd0] at HQ;clear s3 hd0;go_enter Tryz.func61,Tryz.ntmps61;go_wp2_with fail;refine HQ.out.mono ?_;rintro e w1 ⟨rfl,nn,hw1⟩;have hb1:Below w.heap.size w w1:=by rw[hw1];exact below_drewN (Below.refl _ _) nn
  clear hw1;go_wp2_with fail;go_ret;exact HY.out _ hb1
 ·have s3':(x.R.status==3)=false:=beq_eq_false_iff_ne.2 s3
  obtain⟨ia,hia⟩:=Int.eq_ofNat_of_zero_le hep.1
  have hep1:ia≤10:=by omega
  rw[hia] at HQ;clear hep HRc HY3 s3;have g1:¬(x.R.log.length:Int)<(x.R.decided:Int):=by omega
  have g1n:¬x.R.log.length<x.R.decided:=by omega
  have g2:¬(x.R.decided:Int)<0:=by omega
  generalize hst:x.R.status=r3 at *;clear hst;generalize x.R.view=r2 at *;generalize hbb:x.b=bb at *;go_enter Tryz.func61,Tryz.ntmps61;go_wp2_with fail;refine HQ.out.mono ?_;rintro e w1 ⟨rfl,nn,hw1⟩;have hb1:Below w.heap.size w w1:=by rw[hw1];exact below_drewN (Below.refl _ _) nn
  clear hw1 c2 d1;go_wp2_with fail;refine (HLg.out _ hb1).mono ?_;rintro e wB ⟨vL,rfl,hownL,hbL⟩;have hbB:Below w.heap.size w wB:=hb1.trans (hbL.mono hb1.size)
  obtain⟨aG,cG,rfl⟩:=au hownL
  have HEL0:Hid (gu wB (Y aG x.R.log.length cG) x.R.log):=Rd.bK hownL
  have HFr:Hid (Fr (gV g K V) (Y aG x.R.log.length cG)):=fun k hk=>HFoot.out k (by have:=(hownL.lt k hk).1;have:=hb1.size;omega)
  have HEL:Hid (∀ {w2:World} {K2:Kw} {V2:Kv},Ag N wB w2 g K V K2 V2→gu w2 (Y aG x.R.log.length cG) x.R.log):=fun A=>Rd.kp HEL0.out A.kst.kp HFr.out (fun _ h=>h)
  have HNo:Hid (∀ (w2:World) (K2:Kw) (V2:Kv),Ag N wB w2 g K V K2 V2→AgE N w w2 g K V x (Zr (.bool false))):=fun w2 K2 V2 A=>⟨false,K2,V2,rfl,HPre.out hbB A,fun h=>by simp at h⟩
  have HYes:Hid (∀ (w2:World) (K2:Kw) (V2:Kv),Ag N wB w2 g K V K2 V2→(ia:Int)<(K2.groups.length:Int)→AgE N w w2 g K V x (Zr (.bool true))):=fun w2 K2 V2 A hl=>⟨true,K2,V2,rfl,HPre.out hbB A,fun _=>.inr (by rw[hia];exact hl)⟩
  have HA0:=ah (Ag.refl (HK.out _ hbB) HKI.out);have hEq:=Lf;have hGd:=eqGd;clear hownL hbL HK HLg HPre HFoot HQ HEL0;go_wp2_with fail;go_loopw [11] (fun i wr=>∃ (k:Nat) (K':Kw) (V':Kv),k≤x.R.decided∧i=I J k∧Ag N wB wr g K V K' V'∧k≤K'.list.length∧K'.list.take k=x.R.log.take k) (fun i _=>x.R.decided-(intOf i).toNat)
  case atStart=>exact⟨0,K,V,Nat.zero_le _,rfl,HA0.out,Nat.zero_le _,rfl⟩
  case round =>
   obtain⟨k,K1,V1,hk,rfl,A1,hkl,htk⟩:=hrel
   have HA1:=ah A1;have HTk:=ah htk;obtain⟨aL,cL,hvL⟩:=au A1.kst.at_.rL
   have c10:wr.cell? ⟨g,10,O⟩=some V1.vL:=A1.kst.at_.cell 10
   rw[hvL] at c10;have hl10:=A1.ki.list.1;have hgl:=A1.ki.gl;clear A1 htk;by_cases hlt:k<x.R.decided
   ·have hkg:k<x.R.log.length:=by omega
    obtain⟨bl,ol,rfl,_,d1,d2,d3⟩:=(HEL.out HA1.out).get k hkg
    have j3:(0:Int)≤(k:Int):=by omega
    have j4:(k:Int)<(x.R.decided:Int):=by omega
    have j5:(k:Int)<(x.R.log.length:Int):=by omega
    have hen:=HEn.out k hkg;have hE1:0<x.R.log[k].2.2.size:=by have:=(uq hen.2.2.2.2.1).sz.s2;omega
    have HE:=ah hen;clear hen;generalize hEk:x.R.log[k]=E at *;by_cases hke:k=K1.list.length
    ·have HJ:=ah (DW HA1.out.kst.at_ E hE1 (by omega) (by omega))
     have hke':((k:Int)==(K1.list.length:Int))=true:=by rw[← hke];simp
     have hk10:K1.list.length<10:=by omega
     have HKe:=ah hke;clear hke;go_wp2_with fail;refine HJ.out.mono ?_;rintro e w2 ⟨bJ,K2,V2,rfl,kJ,hJ⟩;rcases hJ with ⟨rfl,rfl⟩|⟨rfl,hJ⟩
     ·have A2:=HA1.out.join kJ HE.out hk10;have HA2:=ah A2;obtain⟨aM,cM,hvM⟩:=au A2.kst.at_.rL
      have e10:w2.cell? ⟨g,10,O⟩=some V2.vL:=A2.kst.at_.cell 10
      have hll2:(iE K1 E).list.length=K1.list.length+1:=by simp[iE]
      have hM:gu w2 V2.vL (iE K1 E).list:=A2.kst.at_.eL
      rw[hvM] at e10 hM;obtain⟨bm,om,rfl,_,f1,f2,f3⟩:=hM.get k (by rw[hll2];have:=HKe.out;omega)
      have hgk:(iE K1 E).list[k]'(by rw[hll2];have:=HKe.out;omega)=E:=by
       have:=HKe.out
       subst this;simp[iE]
      rw[hgk] at f1 f2 f3;obtain⟨bl2,ol2,e2,_,g1',g2',g3'⟩:=(HEL.out A2).get k hkg
      cases e2;rw[hEk] at g1' g2' g3';have HTn:Hid ((iE K1 E).list.take (k+1)=x.R.log.take (k+1)):=by
       have hk1:k<(iE K1 E).list.length:=by rw[hll2];have:=HKe.out;omega
       refine Ah ?_ hk1 hkg (by rw[hgk,hEk])
       have:(iE K1 E).list.take k=K1.list.take k:=by
        have:=HKe.out
        subst this;simp[iE]
       rw[this];exact HTk.out
      have j6:(k:Int)<((iE K1 E).list.length:Int):=by rw[hll2];have:=HKe.out;omega
      have hself:xq E.1 E.2.1 E.2.2 E.1 E.2.1 E.2.2=true:=BX.2 ⟨rfl,rfl,rfl⟩
      have hkn:k+1≤(iE K1 E).list.length:=by omega
      clear A2 hM hvM hll2 hgk d1 d2 d3 c10 hgl;generalize iE K1 E=K2 at *;go_wp2_with fail;go_quiet (fail);have Aq:=HA2.out.below (below_drewN (Below.refl _ _) nq);go_wp2_with fail;go_roundw
      case rel=>exact⟨k+1,_,_,by omega,by go_num,Aq,hkn,HTn.out⟩
      case measure=>simp[intOf];omega
     ·have HN2:Hid (AgE N w w2 g K V x (Zr (.bool false))):=by
       rcases hJ with rfl|rfl
       ·exact HNo.out _ _ _ (HA1.out.fails kJ (by unfold dK;omega))
       ·exact HNo.out _ _ _ (HA1.out.fails kJ (by unfold dK;omega))
      go_wp2_with fail;go_ret;exact HN2.out
    ·have hke':((k:Int)==(K1.list.length:Int))=false:=by rw[beq_eq_false_iff_ne];omega
     have hkL:k<K1.list.length:=by omega
     clear hke;have hM:gu wr V1.vL K1.list:=HA1.out.kst.at_.eL
     rw[hvL] at hM;obtain⟨bm,om,rfl,_,f1,f2,f3⟩:=hM.get k hkL
     have j6:(k:Int)<(K1.list.length:Int):=by omega
     have HTn:Hid (xq E.1 E.2.1 E.2.2 K1.list[k].1 K1.list[k].2.1 K1.list[k].2.2=true→K1.list.take (k+1)=x.R.log.take (k+1)):=fun he=>by
      obtain⟨e1,e2,e3⟩:=BX.1 he
      exact Ah HTk.out hkL hkg (by rw[hEk];exact Prod.ext e1.symm (Prod.ext e2.symm e3.symm))
     clear hM;cases hen:xq E.1 E.2.1 E.2.2 K1.list[k].1 K1.list[k].2.1 K1.list[k].2.2
     ·go_wp2_with fail;go_quiet (fail);have HA1:=ah (HA1.out.below (below_drewN (Below.refl _ _) nq));go_wp2_with fail;have HFq:=ah (bQ HA1.out.kst.at_ 1);refine HFq.out.mono ?_;rintro e w9 ⟨rfl,k9⟩;go_wp2_with fail;go_ret;exact HNo.out _ _ _ (HA1.out.fails k9 (by unfold dK;omega))
     ·have HTm:=ah (HTn.out hen);go_wp2_with fail;go_quiet (fail);have Aq:=HA1.out.below (below_drewN (Below.refl _ _) nq);go_wp2_with fail;go_roundw
      case rel=>exact⟨k+1,_,_,by omega,by go_num,Aq,hkL,HTm.out⟩
      case measure=>simp[intOf];omega
   ·have hkd:k=x.R.decided:=by omega
    have HTd:Hid (K1.list.take x.R.decided=x.R.log.take x.R.decided):=by rw[← hkd];exact HTk.out
    have hdk:x.R.decided≤K1.list.length:=by omega
    have j4:¬(k:Int)<(x.R.decided:Int):=by omega
    obtain⟨aR,cR,hvR⟩:=au HA1.out.kst.at_.rG
    have c11:wr.cell? ⟨g,11,O⟩=some V1.vG:=HA1.out.kst.at_.cell 11
    rw[hvR] at c11;clear c10 hkd HTk;have g3:¬(ia:Int)<0:=by omega
    by_cases hge:(K1.groups.length:Int)≤(ia:Int)
    ·go_wp2_with fail;have HFq:=ah (bQ HA1.out.kst.at_ 16);refine HFq.out.mono ?_;rintro e w9 ⟨rfl,k9⟩;go_wp2_with fail;go_ret;exact HNo.out _ _ _ (HA1.out.fails k9 (by unfold dK;omega))
    ·have hil:ia<K1.groups.length:=by omega
     have j7:(ia:Int)<(K1.groups.length:Int):=by omega
     have HSrv:Hid (∀ (w2:World) (K2:Kw) (V2:Kv),Ag N wB w2 g K V K2 V2→K2.list=K1.list→Calls Tryz.prog 109 #[Zp (some ⟨g,0,O⟩),Zp (some ⟨bb,0,O⟩),I J (x.R.decided:Int)] w2 fun e w'=>e=Zr (.bool true)∧Below w2.heap.size w2 w'):=fun w2 K2 V2 A hl=>by
      have hn2:=A.node HX.out;rw[hbb] at hn2;refine Cj A.kst.at_ hn2 x.R.decided (by rw[hl];exact hdk) (by omega) (by rw[hl,HTd.out];exact HSvI.out) (fun e he=>uq (A.ki.list.2 e he).2.2.2.2.1) (fun e he=>?_)
      have:=A.ki.list.2 e he
      exact⟨this.1,this.2.1⟩
     have HMv:Hid (∀ {w2:World} {K2:Kw} {V2:Kv},Ag N wB w2 g K V K2 V2→Calls Tryz.prog 108 #[Y aG x.R.log.length cG] w2 fun e w'=>∃ m:Nat,e=Zr (I J m)∧m≤x.R.log.length∧Below w2.heap.size w2 w'):=fun A=>DY _ _ _ (HEL.out A) (fun y hy=>by
      obtain⟨j,hj,rfl⟩:=List.mem_iff_getElem.1 hy
      have:=(uq (HEn.out j hj).2.2.2.2.1).sz.s2
      omega)
     have HGr:=ah (Aa (HA1.out.node HX.out) (by have:=HGl.out.1;omega))
     rw[hbb] at HGr;have htz:(txt x.R.grp).size≤1000000:=by
      have:=EC x.R.grp (fun y hy=>by have:=(HGl.out.2 y hy).2;omega)
      have:=HGl.out.1
      omega
     go_wp2_with fail;refine HGr.out.mono ?_;rintro e w2 ⟨vg,rfl,hown2,hb2⟩;have HTx:=ah (tZ vg x.R.grp w2 (Rd.bK hown2) (by have:=HGl.out.1;omega) HGl.out.2)
     obtain⟨a2,c2,rfl⟩:=au hown2
     clear hown2;go_wp2_with fail;refine HTx.out.mono ?_;rintro e w3 ⟨rfl,hb3⟩;have HA1:=ah (HA1.out.below (hb2.trans (hb3.mono hb2.size)));generalize txt x.R.grp=tt at *;have HAm:=ah (nK tt q w3 (by omega))
     clear hb2 hb3 HGr HTx c11;go_wp2_with fail;refine HAm.out.mono ?_;rintro e w4 ⟨bA,rfl,hw4⟩;subst hw4;have c11:w4.cell? ⟨g,11,O⟩=some (Y aR K1.groups.length cR):=by rw[← hvR];exact HA1.out.kst.at_.cell 11
     obtain⟨bg,og,rfl,_,d11⟩:=HA1.out.kst.at_.grp hvR (Below.refl _ _) ia hil
     have hqb:q<K1.begun.length:=by have:=HA1.out.ki.sz.begun;rw[HA1.out.n,hn] at this;omega
     obtain⟨bq,cq,hvB,hbq⟩:=nQ HA1.out.kst.at_.rB (by omega)
     have c4:w4.cell? ⟨g,4,O⟩=some (Y (some ⟨bq,0,O⟩) K1.begun.length cq):=by rw[← hvB];exact HA1.out.kst.at_.cell 4
     obtain⟨b5,o5,e5,_,d4⟩:=HA1.out.kst.at_.bgn hvB (Below.refl _ _) q hqb
     cases e5;simp only[Nat.zero_add] at d4;have f4:=HA1.out.kst.at_.fz (i:=2) (r:=⟨3,1,V1.vB,K1.begun.length,K1.begun.map (Value.int .i64)⟩) rfl hvB q;have j8:(q:Int)<(K1.begun.length:Int):=by omega
     have HBg:Hid (Ag N wB (w4.setCell ⟨bq,q,O⟩ (I J (ia:Int))) g K V { K1 with begun:=K1.begun.set q (ia:Int) } V1):=HA1.out.begun (HA1.out.kst.at_.setB hvB q (ia:Int))
     generalize K1.begun[q]=bn at *;generalize K1.groups[ia]=gt at *;clear HAm;by_cases r1:r3=1
     ·subst r1;cases bA
      ·go_wp2_with fail
       all_goals
        have HFq:=ah (bQ HA1.out.kst.at_ 16);refine HFq.out.mono ?_;rintro e w9 ⟨rfl,k9⟩;go_wp2_with fail;go_ret;exact HNo.out _ _ _ (HA1.out.fails k9 (by unfold dK;omega))
      ·by_cases hbe:bn<(ia:Int)
       ·go_wp2_with fail
        ·have HA1:=HBg;clear HBg;generalize w4.setCell ⟨bq,q,O⟩ (I J (ia:Int))=w5 at *;refine (HMv.out HA1.out).mono ?_;rintro e w6 ⟨mm,rfl,hmm,hb6⟩;have HA1:=ah (HA1.out.below hb6);by_cases m1:(mm:Int)=(ia:Int)
         ·have m1':((mm:Int) != (ia:Int))=false:=by rw[m1];simp
          clear m1;go_wp2_with fail;refine (HSrv.out _ _ _ HA1.out rfl).mono ?_;rintro e w8 ⟨rfl,hb8⟩;go_wp2_with fail;go_ret;exact HYes.out _ _ _ (HA1.out.below hb8) j7
         ·have m1':((mm:Int) != (ia:Int))=true:=bne_iff_ne.2 m1
          by_cases m2:(mm:Int)=(ia:Int)+1
          ·have m2':((mm:Int) != (ia:Int)+1)=false:=by rw[m2];simp
           clear m1 m2;go_wp2_with fail;refine (HSrv.out _ _ _ HA1.out rfl).mono ?_;rintro e w8 ⟨rfl,hb8⟩;go_wp2_with fail;go_ret;exact HYes.out _ _ _ (HA1.out.below hb8) j7
          ·have m2':((mm:Int) != (ia:Int)+1)=true:=bne_iff_ne.2 m2
           clear m1 m2;go_wp2_with fail;have HFq:=ah (bQ HA1.out.kst.at_ 16);refine HFq.out.mono ?_;rintro e w9 ⟨rfl,k9⟩;go_wp2_with fail;go_ret;exact HNo.out _ _ _ (HA1.out.fails k9 (by unfold dK;omega))
        ·have HFq:=ah (bQ HA1.out.kst.at_ 16);refine HFq.out.mono ?_;rintro e w9 ⟨rfl,k9⟩;go_wp2_with fail;go_ret;exact HNo.out _ _ _ (HA1.out.fails k9 (by unfold dK;omega))
       ·go_wp2_with fail
        ·refine (HMv.out HA1.out).mono ?_;rintro e w6 ⟨mm,rfl,hmm,hb6⟩;have HA1:=ah (HA1.out.below hb6);by_cases m1:(mm:Int)=(ia:Int)
         ·have m1':((mm:Int) != (ia:Int))=false:=by rw[m1];simp
          clear m1;go_wp2_with fail;refine (HSrv.out _ _ _ HA1.out rfl).mono ?_;rintro e w8 ⟨rfl,hb8⟩;go_wp2_with fail;go_ret;exact HYes.out _ _ _ (HA1.out.below hb8) j7
         ·have m1':((mm:Int) != (ia:Int))=true:=bne_iff_ne.2 m1
          by_cases m2:(mm:Int)=(ia:Int)+1
          ·have m2':((mm:Int) != (ia:Int)+1)=false:=by rw[m2];simp
           clear m1 m2;go_wp2_with fail;refine (HSrv.out _ _ _ HA1.out rfl).mono ?_;rintro e w8 ⟨rfl,hb8⟩;go_wp2_with fail;go_ret;exact HYes.out _ _ _ (HA1.out.below hb8) j7
          ·have m2':((mm:Int) != (ia:Int)+1)=true:=bne_iff_ne.2 m2
           clear m1 m2;go_wp2_with fail;have HFq:=ah (bQ HA1.out.kst.at_ 16);refine HFq.out.mono ?_;rintro e w9 ⟨rfl,k9⟩;go_wp2_with fail;go_ret;exact HNo.out _ _ _ (HA1.out.fails k9 (by unfold dK;omega))
        ·have HFq:=ah (bQ HA1.out.kst.at_ 16);refine HFq.out.mono ?_;rintro e w9 ⟨rfl,k9⟩;go_wp2_with fail;go_ret;exact HNo.out _ _ _ (HA1.out.fails k9 (by unfold dK;omega))
     ·have r1':(r3==1)=false:=beq_eq_false_iff_ne.2 r1
      by_cases r2':r3=2
      ·subst r2';cases bA
       ·go_wp2_with fail
        all_goals
         have HFq:=ah (bQ HA1.out.kst.at_ 16);refine HFq.out.mono ?_;rintro e w9 ⟨rfl,k9⟩;go_wp2_with fail;go_ret;exact HNo.out _ _ _ (HA1.out.fails k9 (by unfold dK;omega))
       ·go_wp2_with fail
        ·refine (HSrv.out _ _ _ HA1.out rfl).mono ?_;rintro e w8 ⟨rfl,hb8⟩;go_wp2_with fail;go_ret;exact HYes.out _ _ _ (HA1.out.below hb8) j7
        ·have HFq:=ah (bQ HA1.out.kst.at_ 16);refine HFq.out.mono ?_;rintro e w9 ⟨rfl,k9⟩;go_wp2_with fail;go_ret;exact HNo.out _ _ _ (HA1.out.fails k9 (by unfold dK;omega))
      ·have r2'':(r3==2)=false:=beq_eq_false_iff_ne.2 r2'
       cases bA
       ·go_wp2_with fail
        ·refine (HSrv.out _ _ _ HA1.out rfl).mono ?_;rintro e w8 ⟨rfl,hb8⟩;go_wp2_with fail;go_ret;exact HYes.out _ _ _ (HA1.out.below hb8) j7
        ·have HFq:=ah (bQ HA1.out.kst.at_ 16);refine HFq.out.mono ?_;rintro e w9 ⟨rfl,k9⟩;go_wp2_with fail;go_ret;exact HNo.out _ _ _ (HA1.out.fails k9 (by unfold dK;omega))
       ·go_wp2_with fail
        all_goals
         have HFq:=ah (bQ HA1.out.kst.at_ 16);refine HFq.out.mono ?_;rintro e w9 ⟨rfl,k9⟩;go_wp2_with fail;go_ret;exact HNo.out _ _ _ (HA1.out.fails k9 (by unfold dK;omega))
end
end Go.Proofs.YtajakaadgagejaaGreatDoor
