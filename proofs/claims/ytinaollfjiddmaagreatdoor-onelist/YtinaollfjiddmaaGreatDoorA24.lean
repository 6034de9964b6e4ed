import Derived.Test.YtinaollfjiddmaaGreatDoorA23
import Derived.Test.YtinaollfjiddmaaGreatDoorA21
set_option maxRecDepth 100000
set_option maxHeartbeats 8000000
set_option linter.all false
namespace Go.Proofs.YtinaollfjiddmaaGreatDoor
open Go.Value renaming int→I,slice→Y,string→Z,pointer→Zp
open Go.Ending renaming returned→Zr
open _root_.ByteArray renaming empty→Ze
open Go.IntKind renaming i64→J
open Option renaming none→O
open Go.RowKit
section
variable {N:Nat} {w w':World} {g:Nat} {K K':Kw} {V V':Kv}
theorem QI (l:List Int) (k:Nat) (x:Int):(l.set k x).map (Value.int .i64)=(l.map (Value.int .i64)).set k (I J x):=List.map_set
theorem KAt.setO (h:KAt N w g K V) {b cap:Nat} (hv:V.vO=Y (some ⟨b,0,O⟩) K.opn.length cap) (k:Nat) (x:Int):Kst N w (w.setCell ⟨b,k,O⟩ (I J x)) g K V { K with opn:=K.opn.set k x } V :=
 h.setRow (i:=5) (r:=⟨3,1,V.vO,K.opn.length,K.opn.map (Value.int .i64)⟩) rfl hv k (I J x) rfl (by unfold fC;simp only[List.length_set,List.map_set];rfl) rfl
theorem KAt.setB (h:KAt N w g K V) {b cap:Nat} (hv:V.vB=Y (some ⟨b,0,O⟩) K.begun.length cap) (k:Nat) (x:Int):Kst N w (w.setCell ⟨b,k,O⟩ (I J x)) g K V { K with begun:=K.begun.set k x } V :=
 h.setRow (i:=2) (r:=⟨3,1,V.vB,K.begun.length,K.begun.map (Value.int .i64)⟩) rfl hv k (I J x) rfl (by unfold fC;simp only[List.length_set,List.map_set];rfl) rfl
theorem KAt.setD (h:KAt N w g K V) {b cap:Nat} (hv:V.vD=Y (some ⟨b,0,O⟩) K.down.length cap) (k:Nat) (x:Bool):Kst N w (w.setCell ⟨b,k,O⟩ (.bool x)) g K V { K with down:=K.down.set k x } V :=
 h.setRow (i:=1) (r:=⟨4,1,V.vD,K.down.length,K.down.map Value.bool⟩) rfl hv k (.bool x) rfl (by unfold fC;simp only[List.length_set,List.map_set];rfl) rfl
theorem KI.down (h:KI K) (k:Nat) (x:Bool):KI { K with down:=K.down.set k x }:=⟨⟨h.sz.n3,h.sz.n7,h.sz.nds,by simpa using h.sz.down,h.sz.begun,h.sz.opn⟩,h.part,h.nod,h.net,h.wish,h.opn,h.list,h.grps,h.li,h.gl⟩
theorem KI.begun (h:KI K) (k:Nat) (x:Int):KI { K with begun:=K.begun.set k x }:=⟨⟨h.sz.n3,h.sz.n7,h.sz.nds,h.sz.down,by simpa using h.sz.begun,h.sz.opn⟩,h.part,h.nod,h.net,h.wish,h.opn,h.list,h.grps,h.li,h.gl⟩
theorem KI.opnf (h:KI K) (k:Nat) (f:Int):KI { K with opn:=K.opn.set k (-1),floor:=f }:=⟨⟨h.sz.n3,h.sz.n7,h.sz.nds,h.sz.down,h.sz.begun,by simpa using h.sz.opn⟩,h.part,h.nod,h.net,h.wish,fun v a=>by
 rcases List.mem_or_eq_of_mem_set a with q|rfl
 ·exact h.opn v q
 ·exact⟨by omega,by omega⟩,h.list,h.grps,h.li,h.gl⟩
def FV (N:Nat) (w w':World) (g:Nat) (K:Kw) (V:Kv) (c:Nat) (e:Ending):Prop:=e=Zr (.tuple #[])∧∃ K',Kst N w w' g K V K' V∧(K'=K∨∃ f,K'={ K with opn:=K.opn.set c (-1),floor:=f }∧(f=K.floor∨f≤(K.list.length:Int)))
theorem GA (h:KAt N w g K V) (hi:KI K) (c:Nat) (hc0:1≤c) (hc1:c≤9) (t:ByteArray) :
  Calls Tryz.prog 96 #[Zp (some ⟨g,0,O⟩),I J (c:Int),Z t] w fun e w'=>FV N w w' g K V c e:=by
 have aa:=hi.sz.opn;have C:c<K.opn.length:=by omega
 obtain⟨aO,cO,m⟩:=aj h.rO
 have D:=ah (h.cv 9 rfl m);have HO:=ah (fun (a:World) (j:Below w.heap.size w a)=>KAt.opn h m j)
 obtain⟨aW,cW,ab⟩:=aj h.rW
 have ac:=ah (h.cv 8 rfl ab);have HW:Hid (∀ a,Below w.heap.size w a→kV a (Y aW K.wishes.length cW) K.wishes):=fun a j=>by rw[← ab];exact (h.below j).eW
 obtain⟨aL,cL,u⟩:=aj h.rL
 have ad:=ah (h.cv 10 rfl u);have HL:Hid (∀ a,Below w.heap.size w a→iw a (Y aL K.list.length cL) K.list):=fun a j=>by rw[← u];exact (h.below j).eL
 have HY:Hid (∀ a,Below w.heap.size w a→FV N w a g K V c (Zr (.tuple #[]))):=fun a j=>⟨rfl,K,(Kst.refl h).below j,.inl rfl⟩
 have ap:=hi.opn _ (List.getElem_mem C);obtain⟨bO,a3,eO,aq⟩:=qg h.rO (by omega)
 rw[m] at eO;cases eO;obtain⟨b2,o2,e2,_,A⟩:=HO.out w (Below.refl _ _) c C
 cases e2;simp only[Nat.zero_add] at A;have c9:=D.out w (Below.refl _ _);have c8:=ac.out w (Below.refl _ _);have j1:(0:Int)≤(c:Int):=by omega
 have j2:(c:Int)<(K.opn.length:Int):=by omega
 have ae:g<w.heap.size:=h.lb
 by_cases hv:K.opn[c]<0
 ·clear h hi aa;generalize K.opn[c]=ov at *;go_enter Tryz.func96,Tryz.ntmps96;go_wp2_with fail;have n:=HY.out _ (Below.refl _ _);exact bodyPost_ret (v:=.tuple #[]) (results_none rfl _ _ _) rfl n
 ·obtain⟨o,ho⟩:=Int.eq_ofNat_of_zero_le (show 0≤K.opn[c] by omega)
  have af:o<K.wishes.length:=by omega
  have q:=hi.wish _ (List.getElem_mem af);obtain⟨E,F,rfl,G,d3,d4,d5,_⟩:=(HW.out w (Below.refl _ _)).get o af
  rw[ho] at A;have j3:(0:Int)≤(o:Int):=by omega
  have j4:(o:Int)<(K.wishes.length:Int):=by omega
  have ai:Hid (∀ a,Calls Tryz.prog 30 #[I J (c:Int)] a fun e w'=>e=Zr (Z (dg c))∧Below a.heap.size a w'):=fun a=>gQ c a (by omega) (by omega)
  have sc:=gu (c:Int) (by omega)
  have ak:Hid (∀ a,Calls Tryz.prog 30 #[I J K.wishes[o].e.2.1] a fun e w'=>e=Zr (Z (dg K.wishes[o].e.2.1))∧Below a.heap.size a w'):=fun a=>gQ _ a (by have:=q.n1;omega) (by have:=q.n9;omega)
  have sn:=gu K.wishes[o].e.2.1 (by have:=q.n9;omega)
  have al:Hid (∀ a,Below w.heap.size w a→KAt N a g K V):=fun a j=>h.below j
  have am:Hid (∀ b,w.heap.size≤b→b∉je g K V):=fun b hb hc=>by
   obtain⟨c,hc1,ar⟩:=List.mem_flatten.1 hc
   have:=h.lt c hc1 _ ar
   omega
  have av:=ah (Kst.refl h);have a4:=hi.list.1;have q9:∀ o,(w.alloc o).cell? ⟨g,9,O⟩=some (Y (some ⟨bO,0,O⟩) K.opn.length cO):=fun o=>(((Below.refl _ w).alloc (Nat.le_refl _) o).cell (p:=⟨g,9,O⟩) ae).trans c9
  have q8:∀ o,(w.alloc o).cell? ⟨g,8,O⟩=some (Y (some ⟨E,F,O⟩) K.wishes.length cW):=fun o=>(((Below.refl _ w).alloc (Nat.le_refl _) o).cell (p:=⟨g,8,O⟩) ae).trans c8
  have q2:∀ x,(w.alloc x).cell? ⟨bO,c,O⟩=some (I J (o:Int)):=fun x=>(((Below.refl _ w).alloc (Nat.le_refl _) x).cell (p:=⟨bO,c,O⟩) aq).trans A
  have q3:∀ x,(w.alloc x).cell? ⟨E,F+o*6,O⟩=some (I J K.wishes[o].e.1):=fun x=>(((Below.refl _ w).alloc (Nat.le_refl _) x).cell (p:=⟨E,F+o*6,O⟩) G).trans d3
  have q4:∀ x,(w.alloc x).cell? ⟨E,F+o*6+1,O⟩=some (I J K.wishes[o].e.2.1):=fun x=>(((Below.refl _ w).alloc (Nat.le_refl _) x).cell (p:=⟨E,F+o*6+1,O⟩) G).trans d4
  have q5:∀ x,(w.alloc x).cell? ⟨E,F+o*6+2,O⟩=some (Z K.wishes[o].e.2.2):=fun x=>(((Below.refl _ w).alloc (Nat.le_refl _) x).cell (p:=⟨E,F+o*6+2,O⟩) G).trans d5
  clear h hi q hv ap ho aa;generalize K.wishes[o].e.1=W at *;generalize K.wishes[o].e.2.1=B at *;generalize K.wishes[o].e.2.2=X at *;generalize dg (c:Int)=dc at *;generalize dg B=dn at *;have j0:¬(o:Int)<0:=by omega
  have z1:¬9223372036854775807<2+dc.size:=by omega
  have z2:¬9223372036854775807<2+dc.size+1:=by omega
  have z3:¬9223372036854775807<2+dc.size+1+dn.size:=by omega
  have z4:¬9223372036854775807<2+dc.size+1+dn.size+1:=by omega
  go_enter Tryz.func96,Tryz.ntmps96;go_wp2_with fail;go_region;have H:Below w.heap.size w (w.alloc (.cells #[I J W,I J B,Z X] 66)).drew:=((Below.refl _ w).alloc (Nat.le_refl _) _).drew
  have L:((w.alloc (.cells #[I J W,I J B,Z X] 66)).drew).heap[w.heap.size]? = some (.cells #[I J W,I J B,Z X] 66):=heap_alloc_new w _
  generalize (w.alloc (.cells #[I J W,I J B,Z X] 66)).drew=wX at *;clear q9 q8 q2 q3 q4 q5 A d3 d4 d5 c8 c9;go_wp2_with fail;refine (ai.out _).mono ?_;rintro e w1 ⟨rfl,M⟩;have s:=H.trans (M.mono H.size)
  have y:=(M.block _ (lt_of_block L)).trans L;have x1:w1.cell? ⟨w.heap.size,1,O⟩=some (I J B):=by simp[World.cell?,y]
  clear H L;go_wp2_with fail;refine (ak.out _).mono ?_;rintro e a ⟨rfl,P⟩;have d:=s.trans (P.mono s.size)
  have Q:=(P.block _ (lt_of_block y)).trans y;clear x1 y M P s;have n:=ah (HY.out _ d);by_cases R:(t.size:Int)<2+(dc.size:Int)+1+(dn.size:Int)+1
  ·go_wp2;exact bodyPost_ret (v:=.tuple #[]) (results_none rfl _ _ _) rfl n.out
  ·have aw:2+(dc.size:Int)+1+(dn.size:Int)+1≤(t.size:Int):=by omega
   have c9:=D.out _ d;obtain⟨b4,o4,e4,_,A⟩:=HO.out _ d c C
   cases e4;simp only[Nat.zero_add] at A;have fz:=(al.out _ d).fz (i:=5) (r:=⟨3,1,V.vO,K.opn.length,K.opn.map (Value.int .i64)⟩) rfl m c;generalize K.opn[c]=ov at *;have S:=ah ((al.out _ d).setO m c (-1));have ax:=ah ((av.out.below d).trans S.out);have an:=(S.out.kp.block _ (lt_of_block Q) (am.out _ (Nat.le_refl _))).trans Q;go_upto_region 6 with fail
   ·exact bodyPost_ret (v:=.tuple #[]) (results_none rfl _ _ _) rfl n.out
   ·go_cut [] from 10 (fun wr=>wr=a.setCell ⟨bO,c,O⟩ (I J (-1)))
    case first =>
     go_wp2_with fail;go_meet
     case rel=>rfl
    case rest =>
    rename_i wC _;subst hcut;go_wp2_with fail;generalize a.setCell ⟨bO,c,O⟩ (I J (-1))=w4 at *;have a5:=Pq;have a6:=eqGd;clear aw R HO HW ac D ad ai ak n Q A fz c9;go_loopw [10] (fun i wr=>∃ (k:Nat) (f:Int),k≤K.list.length∧i=I J k∧(f=K.floor∨f≤(K.list.length:Int))∧Kst N w4 wr g { K with opn:=K.opn.set c (-1) } V { K with opn:=K.opn.set c (-1),floor:=f } V) (fun i _=>K.list.length-(intOf i).toNat)
    case atStart=>exact⟨0,K.floor,Nat.zero_le _,rfl,.inl rfl,Kst.refl S.out.at_⟩
    case round =>
     obtain⟨k,f,hk,rfl,ao,T⟩:=hrel
     have U:=ah ao;clear ao;have z:=ah T;have c10:wr.cell? ⟨g,10,O⟩=some V.vL:=T.at_.cell 10
     have a7:wr.cell? ⟨g,12,O⟩=some (I J f):=T.at_.cell 12
     have a8:=T.at_.free 12;have hx:=(T.kp.block _ (lt_of_block an) (am.out _ (Nat.le_refl _))).trans an;have x0:wr.cell? ⟨w.heap.size,0,O⟩=some (I J W):=by simp[World.cell?,hx]
     have x1:wr.cell? ⟨w.heap.size,1,O⟩=some (I J B):=by simp[World.cell?,hx]
     have x2:wr.cell? ⟨w.heap.size,2,O⟩=some (Z X):=by simp[World.cell?,hx]
     have hL:iw wr (Y aL K.list.length cL) K.list:=by rw[← u];exact T.at_.eL
     rw[u] at c10;clear hx T;by_cases R:k<K.list.length
     ·obtain⟨b5,o5,rfl,_,d1,A,d3⟩:=hL.get k R
      have j5:(0:Int)≤(k:Int):=by omega
      have j6:(k:Int)<(K.list.length:Int):=by omega
      have nw:IntKind.i64.wrap ((k:Int)+1)=(k:Int)+1:=gq (by omega) (by omega)
      clear hL;generalize K.list[k].1=az at *;generalize K.list[k].2.1=a0 at *;generalize K.list[k].2.2=a1 at *;cases hen:wW az a0 a1 W B X
      ·go_wp2_with fail;go_quiet (fail);have l:=z.out.below (below_drewN (Below.refl _ _) nq);go_wp2;go_roundw
       case rel=>exact⟨k+1,f,by omega,by go_num,U.out,l⟩
       case measure=>simp[intOf];omega
      ·by_cases hf:f<(k:Int)+1
       ·go_wp2_with fail;go_quiet (fail);have l:=z.out.below (below_drewN (Below.refl _ _) nq);have a2:=ah (l.at_.scalar (K':={ K with opn:=K.opn.set c (-1),floor:=(k:Int)+1 }) 12 (I J ((k:Int)+1)) rfl rfl rfl)
        have HT:=ah (l.trans a2.out);clear l;go_wp2;go_roundw
        case rel=>exact⟨k+1,(k:Int)+1,by omega,by go_num,.inr (by omega),HT.out⟩
        case measure=>simp[intOf];omega
       ·have a9:decide (f<(k:Int)+1)=false:=decide_eq_false hf
        have ba:(k:Int)+1≤f:=by omega
        go_wp2_with fail;go_quiet (fail);have l:=z.out.below (below_drewN (Below.refl _ _) nq);go_wp2;go_roundw
        case rel=>exact⟨k+1,f,by omega,by go_num,U.out,l⟩
        case measure=>simp[intOf];omega
     ·have HE:Hid (FV N w wr g K V c (Zr (.tuple #[]))):=⟨rfl,_,ax.out.trans z.out,.inr ⟨f,rfl,U.out⟩⟩
      go_wp2_with fail;refine bodyPost_end (results_none rfl _ _ _) rfl ?_;exact HE.out
end
section
variable {N:Nat} {w w':World} {g:Nat} {K K':Kw} {V V':Kv}
theorem b0_at {s:ByteArray} (h:0<s.size):b0 s=(s[0].toNat:Int):=by unfold b0;rw[atS h]
theorem KI.join (h:KI K) (E:En) (hE:iZ K.n E) (hl:K.list.length<10):KI (iO K E):=by
 have b:=(oI hE.2.2.2.2.1).sz.s2;refine⟨⟨h.sz.n3,h.sz.n7,h.sz.nds,h.sz.down,h.sz.begun,h.sz.opn⟩,h.part,h.nod,h.net,h.wish,h.opn,⟨by simp[iO];omega,fun e c=>?_⟩,fun t a=>?_,h.li,?_⟩
 ·rcases List.mem_append.1 c with q|q
  ·exact h.list.2 e q
  ·simp at q;subst q;exact hE
 ·unfold iO nT at a;simp only at a
  split at a
  ·rename_i hb;rcases List.mem_append.1 a with q|q
   ·exact h.grps t q
   ·simp at q;subst q;have:=hE.2.2.2.2.1
    rw[Pg (by omega) (beq_iff_eq.2 ((b0_at (by omega)).symm.trans hb))] at this
    exact this
  ·exact h.grps t a
 ·have:=h.gl
  unfold iO nT;simp only
  split
  ·simp;omega
  ·simp;omega
theorem GI.join {L:List En} {G:List ByteArray} {n:Int} (h:GI L G n) {E:En} (hE:iZ n E):GI (L++[E]) (nT E.2.2 G) n:=by
 obtain⟨d,f⟩:=h.ex
 by_cases a:fA E=true
 ·have c:nT E.2.2 G=G++[E.2.2.extract 1 E.2.2.size]:=by unfold nT;rw[if_pos (yZ.2 a)]
  have b:qp [E]=[E.2.2.extract 1 E.2.2.size]:=by unfold qp;rw[List.filter_cons,if_pos a];rfl
  rw[c];refine⟨⟨d,by rw[f,Av,b];rfl⟩,fun t i=>?_⟩
  rcases List.mem_append.1 i with q|q
  ·exact h.ok t q
  ·exact Ja (l:=[E]) (fun e g=>by simp at g;subst g;exact hE) t (by rw[b];exact q)
 ·have c:nT E.2.2 G=G:=by unfold nT;rw[if_neg (fun z=>a (yZ.1 z))]
  have b:qp [E]=[]:=by unfold qp;rw[List.filter_cons,if_neg a];rfl
  rw[c];exact⟨⟨d,by rw[f,Av,b,List.append_nil]⟩,h.ok⟩
structure Ag (N:Nat) (w wr:World) (g:Nat) (K:Kw) (V:Kv) (K':Kw) (V':Kv):Prop where
 kst:Kst N w wr g K V K' V'
 ki:KI K'
 nds:K'.nds=K.nds
 net:K'.net=K.net
 n:K'.n=K.n
 wl:K'.wishes=K.wishes
 lv:K'.lives=K.lives
 gl:K.groups.length≤K'.groups.length
 fl:K'.floor=K.floor
 li:K.list <+: K'.list
 gg:K.groups <+: K'.groups
 gi:GI K.list K.groups K.n→GI K'.list K'.groups K.n
theorem Ag.refl (h:KAt N w g K V) (hi:KI K):Ag N w w g K V K V:=⟨Kst.refl h,hi,rfl,rfl,rfl,rfl,rfl,Nat.le_refl _,rfl,List.prefix_refl _,List.prefix_refl _,fun h=>h⟩
theorem Ag.dS {wr:World} (A:Ag N w wr g K V K' V'):dS K'=dS K:=by unfold Go.Proofs.YtinaollfjiddmaaGreatDoor.dS;rw[A.nds,A.net,A.wl,A.lv]
section
variable {wr w2:World} {K2:Kw} {V2:Kv}
theorem Ag.below (A:Ag N w wr g K V K' V') (hb:Below wr.heap.size wr w2):Ag N w w2 g K V K' V':=⟨A.kst.below hb,A.ki,A.nds,A.net,A.n,A.wl,A.lv,A.gl,A.fl,A.li,A.gg,A.gi⟩
theorem Ag.pre {w0:World} (A:Ag N w wr g K V K' V') (h:KAt N w0 g K V) (hb:Below w0.heap.size w0 w):Ag N w0 wr g K V K' V':=⟨((Kst.refl h).below hb).trans A.kst,A.ki,A.nds,A.net,A.n,A.wl,A.lv,A.gl,A.fl,A.li,A.gg,A.gi⟩
theorem Ag.fails {p:Int} (A:Ag N w wr g K V K' V') (k:Kst N wr w2 g K' V' { K' with part:=p } V2) (hp:tQ p):Ag N w w2 g K V { K' with part:=p } V2 :=
 ⟨A.kst.trans k,A.ki.fails hp,A.nds,A.net,A.n,A.wl,A.lv,A.gl,A.fl,A.li,A.gg,A.gi⟩
theorem Ag.join {E:En} (A:Ag N w wr g K V K' V') (k:Kst N wr w2 g K' V' (iO K' E) V2) (hE:iZ K.n E) (hl:K'.list.length<10):Ag N w w2 g K V (iO K' E) V2 :=
 ⟨A.kst.trans k,A.ki.join E (by rw[A.n];exact hE) hl,A.nds,A.net,A.n,A.wl,A.lv,Nat.le_trans A.gl (by unfold iO nT;simp only;split <;> simp),A.fl,A.li.trans (List.prefix_append _ _),A.gg.trans (by unfold iO nT;simp only;split;exact List.prefix_append _ _;exact List.prefix_refl _),fun h=>(A.gi h).join hE⟩
theorem Ag.begun {j:Nat} {y:Int} (A:Ag N w wr g K V K' V') (k:Kst N wr w2 g K' V' { K' with begun:=K'.begun.set j y } V2):Ag N w w2 g K V { K' with begun:=K'.begun.set j y } V2 :=
 ⟨A.kst.trans k,A.ki.begun j y,A.nds,A.net,A.n,A.wl,A.lv,A.gl,A.fl,A.li,A.gg,A.gi⟩
theorem Ag.node (A:Ag N w wr g K V K' V') {q:Nat} {x:Nod} (hx:K.nds[q]? = some x):au wr x.b x.bl x.W x.F x.R x.V:=A.kst.at_.nodes x (by rw[A.nds];exact List.mem_of_getElem? hx)
end
def AgE (N:Nat) (w w':World) (g:Nat) (K:Kw) (V:Kv) (q:Nat) (x:Nod) (e:Ending):Prop:=∃ K' V',e=Zr (.bool true)∧Ag N w w' g K V K' V'∧(x.R.status≠3→x.R.decided≤K'.list.length∧x.R.log.take x.R.decided=K'.list.take x.R.decided)∧K'.begun=pR K.begun q x.R∧(K'.list=K.list∨K'.list <+: x.R.log.take x.R.decided)
theorem CF {l m:List En} {k:Nat} (h:l.take k=m.take k) (h1:k<l.length) (h2:k<m.length) (e:l[k]=m[k]):l.take (k+1)=m.take (k+1):=by
 rw[List.take_succ_eq_append_getElem h1,List.take_succ_eq_append_getElem h2,h,e]
theorem Eu (h:KAt N w g K V) (hi:KI K) (q:Nat) (x:Nod) (hx:K.nds[q]? = some x) (hG0:GI K.list K.groups K.n)
  (hOn:Cmp K.list (x.R.log.take x.R.decided)∧So (x.R.log.take x.R.decided)∧∀ e∈x.R.log,∃ v∈K.wishes,v.e=e)
  (hJn:K.list <+: x.R.log.take x.R.decided→∀ k,K.list.length≤k→k<x.R.decided→∀ v∈K.wishes,v.e=x.R.log.getD k en0→v.bad=false∧v.floor≤(k:Int))
  (hCh:x.R.status≠3→∀ L' G',K.list <+: L'→K.groups <+: G'→GI L' G' K.n→x.R.decided≤L'.length→x.R.log.take x.R.decided=L'.take x.R.decided →
   x.R.epoch<(G'.length:Int)∧lC x.R.grp=G'.getD x.R.epoch.toNat ⟨#[]⟩∧(gW x.R.grp x.R.id=true↔(x.R.status=1∨x.R.status=2))∧(x.R.status=1→(regs x.R.log:Int)=x.R.epoch∨(regs x.R.log:Int)=x.R.epoch+1)) :
  Calls Tryz.prog 60 #[Zp (some ⟨g,0,O⟩),I J q] w fun e w'=>AgE N w w' g K V q x e:=by
 have z:=hi.sz;obtain⟨n,hn,z3,z1,z7,zd,zb,ee⟩:=z.all
 have da:=ah (h.cv 1 rfl (congrArg (Value.int .i64) hn));obtain⟨aN,cN,bi⟩:=aj h.rN
 have db:=ah (h.cv 2 rfl bi);have HN:=ah (fun (l:World) (p:Below w.heap.size w l)=>KAt.ptr h bi p)
 have bj:=ah (fun (l:World) (p:Below w.heap.size w l)=>KAt.whr h p)
 obtain⟨hq,bk⟩:=List.getElem?_eq_some_iff.1 hx
 have ni:=hi.nod q x hx;have hok:=ni.ok;have bo:=ah ni.rc;have bp:=ah ni.sv;have dd:=ni.n;have HQ:=ah (bj.out w (Below.refl _ _) q hq);rw[bk] at HQ;obtain⟨b1,o1,rfl,_,d1⟩:=HN.out w (Below.refl _ _) q hq
 rw[bk] at d1;have c2:=db.out w (Below.refl _ _);have j1:(0:Int)≤(q:Int):=by omega
 have j2:(q:Int)<(K.nds.length:Int):=by omega
 have br:Hid (∀ l,Below w.heap.size w l→Calls Tryz.prog 103 #[Zp (some ⟨x.b,0,O⟩)] l fun e w'=>∃ v,e=Zr v∧w'.ownsRow l.heap.size 66 3 v x.R.log.length (aA x.R.log)∧Below l.heap.size l w'):=fun l p=>vR ((h.nodes x (List.mem_of_getElem? hx)).below p) (by have:=hok.lg;omega)
 have bs:Hid (∀ l,Below w.heap.size w l→x.R.status=3→AgE N w l g K V q x (Zr (.bool true))):=fun l p h3=>⟨K,V,rfl,(Ag.refl h hi).below p,fun hc=>absurd h3 hc,by unfold pR;rw[if_neg (by omega)],.inl rfl⟩
 have HK:=ah (fun (l:World) (p:Below w.heap.size w l)=>h.below p)
 have de:=ah hi;have ao:Hid (∀ {w1 l:World} {K':Kw} {V':Kv},Below w.heap.size w w1→Ag N w1 l g K V K' V'→Ag N w l g K V K' V'):=fun hb A=>A.pre h hb
 have U:Hid (∀ b,w.heap.size≤b→b∉je g K V):=fun b hb hc=>by
  obtain⟨c,df,di⟩:=List.mem_flatten.1 hc
  have:=h.lt c df _ di
  omega
 have HX:=ah hx;have bu:=hok.ep;have ef:=hok.dc;have eg:=hok.lg;have bv:Hid (∀ (k:Nat) (hk:k<x.R.log.length),iZ K.n x.R.log[k]):=fun k hk=>by rw[← dd];exact hok.le _ (List.getElem_mem hk)
 have W:Hid (x.R.grp.length≤5∧∀ y∈x.R.grp,0≤y∧y≤1000000):=⟨hok.g.1,fun y hy=>by have:=hok.g.2 y hy;have:=hok.n7;omega⟩
 have av:=ah hJn;have X:=ah hOn;have bw:=ah hG0;have aw:Hid (∀ y∈x.R.grp,0≤y∧y<10):=fun y hy=>by have:=hok.g.2 y hy;have:=hok.n7;omega
 have bx:Hid (x.R.id=q):=ni.id
 clear h hi z hx ni hok bj HN da hJn hOn hG0;by_cases s3:x.R.status=3
 ·clear hCh av X bw aw bx;have bz:=(bo.out s3).2.2.2;have HY:=ah (fun l p=>bs.out l p s3)
  rw[s3,bz] at HQ;clear s3 bz;go_enter Tryz.func60,Tryz.ntmps60;go_wp2_with fail;refine HQ.out.mono ?_;rintro e w1 ⟨rfl,nn,aa⟩;have P:Below w.heap.size w w1:=by rw[aa];exact below_drewN (Below.refl _ _) nn
  clear aa;go_wp2;go_ret;exact HY.out _ P
 ·have eh:(x.R.status==3)=false:=beq_eq_false_iff_ne.2 s3
  obtain⟨m,ax⟩:=Int.eq_ofNat_of_zero_le bu.1
  have eb:m≤10:=by omega
  rw[ax] at HQ;have b2:=ah (hCh s3);have ab:Hid (x.R.status=1→pR K.begun q x.R=K.begun.set q (max (K.begun.getD q (-1)) (m:Int))):=fun h1=>by unfold pR;rw[if_pos h1,ax]
  have ap:Hid (x.R.status≠1→pR K.begun q x.R=K.begun):=fun h1=>by unfold pR;rw[if_neg h1]
  clear bu bo bs s3 hCh;have g1:¬(x.R.log.length:Int)<(x.R.decided:Int):=by omega
  have ei:¬x.R.log.length<x.R.decided:=by omega
  have g2:¬(x.R.decided:Int)<0:=by omega
  generalize hst:x.R.status=r3 at *;clear hst;generalize x.R.view=r2 at *;generalize hbb:x.b=bb at *;go_enter Tryz.func60,Tryz.ntmps60;go_wp2_with fail;refine HQ.out.mono ?_;rintro e w1 ⟨rfl,nn,aa⟩;have P:Below w.heap.size w w1:=by rw[aa];exact below_drewN (Below.refl _ _) nn
  clear aa c2 d1;go_wp2_with fail;refine (br.out _ P).mono ?_;rintro e wB ⟨vL,rfl,B,b3⟩;have b4:Below w.heap.size w wB:=P.trans (b3.mono P.size)
  obtain⟨aG,cG,rfl⟩:=aj B
  have aq:Hid (iw wB (Y aG x.R.log.length cG) x.R.log):=Rd.bX B
  have dj:Hid (Fr (je g K V) (Y aG x.R.log.length cG)):=fun k hk=>U.out k (by have:=(B.lt k hk).1;have:=P.size;omega)
  have az:Hid (∀ {l:World} {C:Kw} {Q:Kv},Ag N wB l g K V C Q→iw l (Y aG x.R.log.length cG) x.R.log):=fun A=>Rd.kp aq.out A.kst.kp dj.out (fun _ h=>h)
  have ac:Hid (∀ (l:World) (C:Kw) (Q:Kv),Ag N wB l g K V C Q→x.R.decided≤C.list.length→C.list.take x.R.decided=x.R.log.take x.R.decided→C.begun=pR K.begun q x.R→(C.list=K.list∨C.list <+: x.R.log.take x.R.decided)→AgE N w l g K V q x (Zr (.bool true))):=fun l C Q A h1 h2 h3 h4=>⟨C,Q,rfl,ao.out b4 A,fun _=>⟨h1,h2.symm⟩,h3,h4⟩
  generalize hbt:pR K.begun q x.R=bt at *;clear hbt;have dk:=ah (Ag.refl (HK.out _ b4) de.out);have ej:=Qk;have ek:=eqGd;clear B b3 HK br ao U HQ aq;go_wp2_with fail;go_loopw [11] (fun i wr=>∃ (k:Nat) (K':Kw) (V':Kv),k≤x.R.decided∧i=I J k∧Ag N wB wr g K V K' V'∧k≤K'.list.length∧K'.list.take k=x.R.log.take k∧K'.begun=K.begun∧(K'.list=K.list∨K'.list=x.R.log.take k)) (fun i _=>x.R.decided-(intOf i).toNat)
  case atStart=>exact⟨0,K,V,Nat.zero_le _,rfl,dk.out,Nat.zero_le _,rfl,rfl,.inl rfl⟩
  case round =>
   obtain⟨k,f,V1,hk,rfl,A1,el,b6,ar,b7⟩:=hrel
   have a0:=ah b7;clear b7;have o:=ah ar;clear ar;have d:=ah A1;have S:=ah b6;obtain⟨aL,cL,b8⟩:=aj A1.kst.at_.rL
   have c10:wr.cell? ⟨g,10,O⟩=some V1.vL:=A1.kst.at_.cell 10
   rw[b8] at c10;have ec:=A1.ki.list.1;have dl:=A1.ki.gl;clear A1 b6;by_cases dm:k<x.R.decided
   ·have H:k<x.R.log.length:=by omega
    obtain⟨bl,ol,rfl,_,d1,d2,d3⟩:=(az.out d.out).get k H
    have j3:(0:Int)≤(k:Int):=by omega
    have j4:(k:Int)<(x.R.decided:Int):=by omega
    have j5:(k:Int)<(x.R.log.length:Int):=by omega
    have ad:=bv.out k H;have dn:0<x.R.log[k].2.2.size:=by have:=(oI ad.2.2.2.2.1).sz.s2;omega
    have HE:=ah ad;clear ad;generalize hEk:x.R.log[k]=E at *;by_cases D:k=f.list.length
    ·have dp:Hid (¬BadJ f E):=fun ⟨v,hv1,hv2,hv3⟩=>by
      have e1:f.list=x.R.log.take k:=by have:=S.out;rw[D,List.take_length] at this;rw[D];exact this
      have p1:K.list <+: x.R.log.take x.R.decided:=d.out.li.trans (by rw[e1];exact List.take_prefix_take_left (by omega))
      have e2:x.R.log.getD k en0=E:=by rw[getD_at H,hEk]
      have:=av.out p1 k (by have:=d.out.li.length_le;omega) dm v (by rw[← d.out.wl];exact hv1) (by rw[e2];exact hv2)
      rcases hv3 with q|q
      ·rw[this.1] at q;cases q
      ·omega
     have b9:Hid (f.list=x.R.log.take k):=by have:=S.out;rw[D,List.take_length] at this;rw[D];exact this
     have HJ:=ah (GH d.out.kst.at_ E dn (by omega) (by omega) (fun a ha hc=>by
      rw[b9.out] at ha;obtain⟨j,hj,rfl⟩:=List.mem_iff_getElem.1 ha
      rw[List.length_take] at hj;rw[List.getElem_take] at hc ⊢;have:=List.pairwise_iff_getElem.1 X.out.2.1 j k (by rw[List.length_take];omega) (by rw[List.length_take];omega) (by omega)
      rw[List.getElem_take,List.getElem_take,hEk] at this;exact this hc) (by
      have:=X.out.2.2 E (by rw[← hEk];exact List.getElem_mem H)
      rw[d.out.wl];exact this) dp.out)
     have ca:((k:Int)==(f.list.length:Int))=true:=by rw[← D];simp
     have cb:f.list.length<10:=by omega
     have L:=ah D;clear D;go_wp2_with fail;refine HJ.out.mono ?_;rintro e l ⟨bJ,C,Q,rfl,kJ,rfl,rfl⟩
     ·have A2:=d.out.join kJ HE.out cb;have dq:=ah A2;obtain⟨aM,cM,cd⟩:=aj A2.kst.at_.rL
      have dr:l.cell? ⟨g,10,O⟩=some Q.vL:=A2.kst.at_.cell 10
      have F:(iO f E).list.length=f.list.length+1:=by simp[iO]
      have hM:iw l Q.vL (iO f E).list:=A2.kst.at_.eL
      rw[cd] at dr hM;obtain⟨bm,om,rfl,_,f1,f2,f3⟩:=hM.get k (by rw[F];have:=L.out;omega)
      have a1:(iO f E).list[k]'(by rw[F];have:=L.out;omega)=E:=by
       have:=L.out
       subst this;simp[iO]
      rw[a1] at f1 f2 f3;obtain⟨em,en,e2,_,ds,dt,du⟩:=(az.out A2).get k H
      cases e2;rw[hEk] at ds dt du;have af:Hid ((iO f E).list.take (k+1)=x.R.log.take (k+1)):=by
       have dv:k<(iO f E).list.length:=by rw[F];have:=L.out;omega
       refine CF ?_ dv H (by rw[a1,hEk])
       have:(iO f E).list.take k=f.list.take k:=by
        have:=L.out
        subst this;simp[iO]
       rw[this];exact S.out
      have j6:(k:Int)<((iO f E).list.length:Int):=by rw[F];have:=L.out;omega
      have dy:wW E.1 E.2.1 E.2.2 E.1 E.2.1 E.2.2=true:=qO.2 ⟨rfl,rfl,rfl⟩
      have d0:k+1≤(iO f E).list.length:=by omega
      have ce:Hid ((iO f E).begun=K.begun):=o.out
      have d5:Hid ((iO f E).list=x.R.log.take (k+1)):=by
       unfold Hid;rw[← af.out,List.take_of_length_le (by have:=L.out;omega)]
      clear A2 hM cd F a1 d1 d2 d3 c10 dl b9;generalize iO f E=C at *;go_wp2_with fail;go_quiet (fail);have Aq:=dq.out.below (below_drewN (Below.refl _ _) nq);go_wp2;go_roundw
      case rel=>exact⟨k+1,_,_,by omega,by go_num,Aq,d0,af.out,ce.out,.inr d5.out⟩
      case measure=>simp[intOf];omega
    ·have ca:((k:Int)==(f.list.length:Int))=false:=by rw[beq_eq_false_iff_ne];omega
     have ae:k<f.list.length:=by omega
     clear D;have hM:iw wr V1.vL f.list:=d.out.kst.at_.eL
     rw[b8] at hM;obtain⟨bm,om,rfl,_,f1,f2,f3⟩:=hM.get k ae
     have j6:(k:Int)<(f.list.length:Int):=by omega
     have af:Hid (wW E.1 E.2.1 E.2.2 f.list[k].1 f.list[k].2.1 f.list[k].2.2=true→f.list.take (k+1)=x.R.log.take (k+1)):=fun he=>by
      obtain⟨e1,e2,e3⟩:=qO.1 he
      exact CF S.out ae H (by rw[hEk];exact Prod.ext e1.symm (Prod.ext e2.symm e3.symm))
     clear hM;have cf:Hid (f.list=K.list):=by
      rcases a0.out with z|z
      ·exact z
      ·rw[z,List.length_take] at ae;omega
     have ad:wW E.1 E.2.1 E.2.2 f.list[k].1 f.list[k].2.1 f.list[k].2.2=true:=by
      have d6:k<(x.R.log.take x.R.decided).length:=by rw[List.length_take];omega
      have e:f.list[k]=(x.R.log.take x.R.decided)[k]:=by
       have hc:Cmp f.list (x.R.log.take x.R.decided):=by rw[cf.out];exact X.out.1
       rcases hc with ⟨t,ht⟩|⟨t,ht⟩
       ·simp only[← ht];rw[List.getElem_append_left ae]
       ·simp only[← ht];rw[List.getElem_append_left d6]
      rw[List.getElem_take,hEk] at e;rw[e];exact qO.2 ⟨rfl,rfl,rfl⟩
     have d7:=ah (af.out ad);go_wp2_with fail;go_quiet (fail);have Aq:=d.out.below (below_drewN (Below.refl _ _) nq);go_wp2;go_roundw
     case rel=>exact⟨k+1,_,_,by omega,by go_num,Aq,ae,d7.out,o.out,.inl cf.out⟩
     case measure=>simp[intOf];omega
   ·have cg:k=x.R.decided:=by omega
    have ai:Hid (f.list.take x.R.decided=x.R.log.take x.R.decided):=by rw[← cg];exact S.out
    have ak:x.R.decided≤f.list.length:=by omega
    have j4:¬(k:Int)<(x.R.decided:Int):=by omega
    obtain⟨aR,cR,a3⟩:=aj d.out.kst.at_.rG
    have a4:wr.cell? ⟨g,11,O⟩=some V1.vG:=d.out.kst.at_.cell 11
    rw[a3] at a4;clear c10 cg S;have g3:¬(m:Int)<0:=by omega
    obtain⟨ch,a5,ci,al⟩:=b2.out f.list f.groups d.out.li d.out.gg (by have:=d.out.gi bw.out;exact this) ak ai.out.symm
    rw[ax] at ch a5 al;have cj:m<f.groups.length:=by omega
    have j7:(m:Int)<(f.groups.length:Int):=by omega
    have eG:f.groups.getD ((m:Nat):Int).toNat ⟨#[]⟩=f.groups[m]:=by rw[Int.toNat_natCast,List.getD_eq_getElem?_getD,List.getElem?_eq_getElem cj];rfl
    have cl:Hid (txt x.R.grp=f.groups[m]):=by unfold Hid;rw[Jm,a5,eG]
    have cm:Hid (amB (txt x.R.grp) q=true↔(r3=1∨r3=2)):=by
     unfold Hid;rw[Jm,PW aw.out,← bx.out];exact ci
    have cn:Hid (f.list=K.list∨f.list <+: x.R.log.take x.R.decided):=a0.out.imp id (fun z=>by rw[z];exact List.take_prefix_take_left (by omega))
    clear ch a5 ci eG b2 av X aw a0;have u:Hid (∀ (l:World) (C:Kw) (Q:Kv),Ag N wB l g K V C Q→C.list=f.list→Calls Tryz.prog 108 #[Zp (some ⟨g,0,O⟩),Zp (some ⟨bb,0,O⟩),I J (x.R.decided:Int)] l fun e w'=>e=Zr (.bool true)∧Below l.heap.size l w'):=fun l C Q A hl=>by
     have co:=A.node HX.out;rw[hbb] at co;refine EC A.kst.at_ co x.R.decided (by rw[hl];exact ak) (by omega) (by rw[hl,ai.out];exact bp.out) (fun e he=>oI (A.ki.list.2 e he).2.2.2.2.1) (fun e he=>?_)
     have:=A.ki.list.2 e he
     exact⟨this.1,this.2.1⟩
    have cp:Hid (∀ {l:World} {C:Kw} {Q:Kv},Ag N wB l g K V C Q→Calls Tryz.prog 107 #[Y aG x.R.log.length cG] l fun e w'=>e=Zr (I J (regs x.R.log))∧Below l.heap.size l w'):=fun A=>EA _ _ _ (az.out A) (fun y hy=>by
     obtain⟨j,hj,rfl⟩:=List.mem_iff_getElem.1 hy
     have:=(oI (bv.out j hj).2.2.2.2.1).sz.s2
     omega)
    have a6:=ah (Cu (d.out.node HX.out) (by have:=W.out.1;omega))
    rw[hbb] at a6;have eo:(txt x.R.grp).size≤1000000:=by
     have:=Ij x.R.grp (fun y hy=>by have:=(W.out.2 y hy).2;omega)
     have:=W.out.1
     omega
    go_wp2_with fail;refine a6.out.mono ?_;rintro e l ⟨vg,rfl,M,a7⟩;have cr:=ah (xC vg x.R.grp l (Rd.bX M) (by have:=W.out.1;omega) W.out.2)
    obtain⟨a2,c2,rfl⟩:=aj M
    clear M;go_wp2_with fail;refine cr.out.mono ?_;rintro e w3 ⟨rfl,cs⟩;have d:=ah (d.out.below (a7.trans (cs.mono a7.size)));generalize txt x.R.grp=tt at *;have cu:=ah (Ev tt q w3 (by omega))
    clear a7 cs a6 cr a4;go_wp2_with fail;refine cu.out.mono ?_;rintro e w4 ⟨rfl,d8⟩;subst d8;have a4:w4.cell? ⟨g,11,O⟩=some (Y aR f.groups.length cR):=by rw[← a3];exact d.out.kst.at_.cell 11
    obtain⟨bg,og,rfl,_,er⟩:=d.out.kst.at_.grp a3 (Below.refl _ _) m cj
    have a8:q<f.begun.length:=by have:=d.out.ki.sz.begun;rw[d.out.n,hn] at this;omega
    obtain⟨bq,cq,am,es⟩:=qg d.out.kst.at_.rB (by omega)
    have c4:w4.cell? ⟨g,4,O⟩=some (Y (some ⟨bq,0,O⟩) f.begun.length cq):=by rw[← am];exact d.out.kst.at_.cell 4
    obtain⟨b5,o5,e5,_,d4⟩:=d.out.kst.at_.bgn am (Below.refl _ _) q a8
    cases e5;simp only[Nat.zero_add] at d4;have f4:=d.out.kst.at_.fz (i:=2) (r:=⟨3,1,V1.vB,f.begun.length,f.begun.map (Value.int .i64)⟩) rfl am q;have j8:(q:Int)<(f.begun.length:Int):=by omega
    have a9:Hid (Ag N wB (w4.setCell ⟨bq,q,O⟩ (I J (m:Int))) g K V { f with begun:=f.begun.set q (m:Int) } V1):=d.out.begun (d.out.kst.at_.setB am q (m:Int))
    have ba:Hid (r3=1→f.begun[q]<(m:Int)→f.begun.set q (m:Int)=bt):=fun h1 h2=>by
     rw[ab.out h1,o.out];have e:K.begun.getD q (-1)=f.begun[q]:=by rw[← o.out,List.getD_eq_getElem?_getD,List.getElem?_eq_getElem a8];rfl
     rw[e,Int.max_eq_right (by omega)]
    have bc:Hid (r3=1→¬f.begun[q]<(m:Int)→f.begun=bt):=fun h1 h2=>by
     have e:K.begun.getD q (-1)=f.begun[q]:=by rw[← o.out,List.getD_eq_getElem?_getD,List.getElem?_eq_getElem a8];rfl
     rw[ab.out h1,← o.out];rw[← o.out] at e;rw[e,Int.max_eq_left (by omega),List.set_getElem_self]
    have bd:Hid (r3≠1→f.begun=bt):=fun h1=>by rw[ap.out h1];exact o.out
    clear ap ab o;generalize f.begun[q]=bn at *;generalize f.groups[m]=gt at *;have d9:=cl.out;subst d9;clear cu cl;have T:=cm.out;generalize amB tt q=bA at *;clear cm;have an:=ah (fun (l:World) (A:Ag N wB l g K V f V1) (h:f.begun=bt)=>ac.out l f V1 A ak ai.out h cn.out)
    have cw:=ah (fun (l:World) (A:Ag N wB l g K V { f with begun:=f.begun.set q (m:Int) } V1) (h:f.begun.set q (m:Int)=bt)=>ac.out l _ V1 A ak ai.out h cn.out)
    clear ac;by_cases r1:r3=1
    ·have hb:bA=true:=T.2 (.inl r1)
     subst hb;have cc:=al r1;have cx:=ah (ba.out r1);have cy:=ah (bc.out r1);clear T al ba bc bd;subst r1;by_cases cz:bn<(m:Int)
     ·have G:=ah (cx.out cz);go_wp2_with fail;have d:=a9;clear a9;generalize w4.setCell ⟨bq,q,O⟩ (I J (m:Int))=w5 at *;refine (cp.out d.out).mono ?_;rintro e w6 ⟨rfl,be⟩;have d:=ah (d.out.below be);generalize regs x.R.log=mm at *;by_cases m1:(mm:Int)=(m:Int)
      ·have bh:((mm:Int) != (m:Int))=false:=by rw[m1];simp
       clear m1 cc;go_wp2_with fail;refine (u.out _ _ _ d.out rfl).mono ?_;rintro e w8 ⟨rfl,s⟩;go_wp2;go_ret;exact cw.out _ (d.out.below s) G.out
      ·have m2:(mm:Int)=(m:Int)+1:=by omega
       have bh:((mm:Int) != (m:Int))=true:=bne_iff_ne.2 m1
       have ea:((mm:Int) != (m:Int)+1)=false:=by rw[m2];simp
       clear m1 m2 cc;go_wp2_with fail;refine (u.out _ _ _ d.out rfl).mono ?_;rintro e w8 ⟨rfl,s⟩;go_wp2;go_ret;exact cw.out _ (d.out.below s) G.out
     ·have G:=ah (cy.out cz);go_wp2_with fail;refine (cp.out d.out).mono ?_;rintro e w6 ⟨rfl,be⟩;have d:=ah (d.out.below be);generalize regs x.R.log=mm at *;by_cases m1:(mm:Int)=(m:Int)
      ·have bh:((mm:Int) != (m:Int))=false:=by rw[m1];simp
       clear m1 cc;go_wp2_with fail;refine (u.out _ _ _ d.out rfl).mono ?_;rintro e w8 ⟨rfl,s⟩;go_wp2;go_ret;exact an.out _ (d.out.below s) G.out
      ·have m2:(mm:Int)=(m:Int)+1:=by omega
       have bh:((mm:Int) != (m:Int))=true:=bne_iff_ne.2 m1
       have ea:((mm:Int) != (m:Int)+1)=false:=by rw[m2];simp
       clear m1 m2 cc;go_wp2_with fail;refine (u.out _ _ _ d.out rfl).mono ?_;rintro e w8 ⟨rfl,s⟩;go_wp2;go_ret;exact an.out _ (d.out.below s) G.out
    ·have et:(r3==1)=false:=beq_eq_false_iff_ne.2 r1
     have G:=ah (bd.out r1);clear al ba bc bd a9;by_cases r2':r3=2
     ·have hb:bA=true:=T.2 (.inr r2')
      subst hb;subst r2';clear T;go_wp2_with fail;refine (u.out _ _ _ d.out rfl).mono ?_;rintro e w8 ⟨rfl,s⟩;go_wp2;go_ret;exact an.out _ (d.out.below s) G.out
     ·have ed:(r3==2)=false:=beq_eq_false_iff_ne.2 r2'
      have hb:bA=false:=by
       cases hq2:bA
       ·rfl
       ·exact absurd (T.1 hq2) (by omega)
      subst hb;clear T;go_wp2_with fail;refine (u.out _ _ _ d.out rfl).mono ?_;rintro e w8 ⟨rfl,s⟩;go_wp2;go_ret;exact an.out _ (d.out.below s) G.out
end
end Go.Proofs.YtinaollfjiddmaaGreatDoor
