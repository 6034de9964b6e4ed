import Derived.Test.YtajakaadgagejaaGreatDoorA19
set_option maxRecDepth 100000
set_option maxHeartbeats 8000000
set_option linter.unusedVariables false
set_option linter.unusedSimpArgs false
set_option linter.unusedSectionVars false
namespace Go.Proofs.YtajakaadgagejaaGreatDoor
open Go.Value renaming int→I,slice→Y,string→Z,pointer→Zp
open Go.Ending renaming returned→Zr
open _root_.ByteArray renaming empty→Ze
open Go.IntKind renaming i64→J
open Option renaming none→O
open Go.RowKit
def wm (w:World) (v:Value) (l:List (Int×ByteArray)):Prop:=Rd w 2 v l.length (gL l)
theorem yx:∀ (l:List (Int×ByteArray)) (k:Nat) (h:k<l.length),(gL l)[2*k]? = some (I J l[k].1)∧(gL l)[2*k+1]? = some (Z l[k].2)
 | a :: l,0,_=>⟨rfl,rfl⟩
 | a :: l,k+1,h=>by
  have:=yx l k (by simpa using h)
  simp only[List.getElem_cons_succ];exact this
theorem wm.get {w:World} {a:Option Addr} {n cap:Nat} {l:List (Int×ByteArray)} (h:wm w (Y a n cap) l) (k:Nat) (hk:k<l.length) :
  ∃ b off,a=some ⟨b,off,O⟩∧b<w.heap.size∧w.cell? ⟨b,off+k*2,O⟩=some (I J l[k].1)∧w.cell? ⟨b,off+k*2+1,O⟩=some (Z l[k].2):=by
 obtain⟨q0,q1⟩:=yx l k hk
 rcases h.2 with ⟨h1,h2⟩|⟨b,off,cap',h1,_,_,hb,hc⟩
 ·omega
 ·simp only[Value.slice.injEq] at h1;obtain⟨rfl,rfl,rfl⟩:=h1
  refine⟨b,off,rfl,hb,?_,?_⟩
  ·have:=hc _ _ q0;rwa [show off+2*k=off+k*2 by omega] at this
  ·have:=hc _ _ q1;rwa [show off+(2*k+1)=off+k*2+1 by omega] at this
theorem uI {t:ByteArray} (h:0<t.size):t.toList.isEmpty=false:=by
 rw[ByteArray.toList_eq];have e:t.data.toList.length=t.size:=by rw[Array.length_toList];rfl
 cases hc:t.data.toList with
 | nil=>rw[hc] at e;simp at e;omega
 | cons a l=>rfl
theorem CG {t:ByteArray} (h:Rp.jm t):∃ h0:0<t.size,t[0].toNat=114:=by
 unfold Rp.jm at h;have e:t.data.toList.length=t.size:=by rw[Array.length_toList];rfl
 have hl:0<t.data.toList.length:=by
  cases hh:t.data.toList with
  | nil=>rw[hh] at h;simp at h
  | cons a l=>simp
 refine⟨by omega,?_⟩
 rw[List.head?_eq_getElem?,List.getElem?_eq_getElem hl] at h;have:t.data.toList[0]=t[0]'(by omega):=rfl
 rw[this] at h;have h:=Option.some.inj h;rw[h];rfl
section
variable {N:Nat} {w w':World} {g:Nat} {K K':Kw} {V V':Kv}
structure Lo (N:Nat) (w wr:World) (g:Nat) (K:Kw) (V:Kv) (c:Nat) (K':Kw) (V':Kv):Prop where
 kst:Kst N w wr g K V K' V'
 ki:KI K'
 nds:K'.nds=K.nds
 grp:K'.groups=K.groups
 n:K'.n=K.n
 ms:dA K'≤dA K+c
 net:K.net.length≤K'.net.length
def LoE (N:Nat) (w wr:World) (g:Nat) (K:Kw) (V:Kv) (c:Nat) (e:Ending):Prop:=∃ b K' V',e=Zr (.bool b)∧Lo N w wr g K V c K' V'
theorem Lo.refl (h:KAt N w g K V) (hi:KI K):Lo N w w g K V 0 K V:=⟨Kst.refl h,hi,rfl,rfl,rfl,Nat.le_refl _,Nat.le_refl _⟩
section
variable {wr w2:World} {c:Nat} {K2:Kw} {V2:Kv}
theorem Lo.below (L:Lo N w wr g K V c K' V') (hb:Below wr.heap.size wr w2):Lo N w w2 g K V c K' V':=⟨L.kst.below hb,L.ki,L.nds,L.grp,L.n,L.ms,L.net⟩
theorem Lo.post {f t:Int} {s:ByteArray} (L:Lo N w wr g K V c K' V') (k:Kst N wr w2 g K' V' { K' with net:=K'.net++[(f,t,s)] } V2) (h1 : -9≤t) (h2:t<K.n) (h3:0<s.size):Lo N w w2 g K V (c+1) { K' with net:=K'.net++[(f,t,s)] } V2 :=
 ⟨L.kst.trans k,L.ki.post f t s ⟨h1,by rw[L.n];exact h2⟩ h3,L.nds,L.grp,L.n,by rw[zV];have:=L.ms;omega,by have:=L.net;simp;omega⟩
theorem Lo.fails {p:Int} (L:Lo N w wr g K V c K' V') (k:Kst N wr w2 g K' V' { K' with part:=p } V') (hp:dK p):Lo N w w2 g K V c { K' with part:=p } V' :=
 ⟨L.kst.trans k,L.ki.fails hp,L.nds,L.grp,L.n,L.ms,L.net⟩
theorem Lo.ans (L:Lo N w wr g K V c K' V') (k:Kst N wr w2 g K' V' K2 V') (hk:K2=K'∨∃ k,K2={ K' with wishes:=jA K'.wishes k }):Lo N w w2 g K V c K2 V':=by
 rcases hk with rfl|⟨j,rfl⟩
 ·exact⟨L.kst.trans k,L.ki,L.nds,L.grp,L.n,L.ms,L.net⟩
 ·exact⟨L.kst.trans k,L.ki.bad j,L.nds,L.grp,L.n,by rw[Iz];exact L.ms,L.net⟩
theorem Lo.ste (L:Lo N w wr g K V c K' V') (gr:Gr K) {d:Nat} (hd:c≤d) (b:Bool):StE N w wr g K V d (Zr (.bool b)) :=
 ⟨b,K',V',rfl,L.kst,L.ki,by have:=L.ms;omega,L.net,L.n,fun _=>by unfold Gr;rw[L.nds,L.grp];exact gr⟩
theorem Lo.c1 (L:Lo N w wr g K V c K' V') {n:Nat} (hn:K.n=n):wr.cell? ⟨g,1,O⟩=some (I J n):=by
 have:=L.kst.at_.cell 1
 rw[← hn,← L.n];exact this
end
theorem AP (h:KAt N w g K V) (hi:KI K) (gr:Gr K) (q:Nat) (hq:q<K.nds.length) (vl:Value) (l:List (Int×ByteArray)) (hl:wm w vl l) (hf:Fr (gV g K V) vl) (hs:K.nds[q].R.status=3→∀ x∈l,Rp.jm x.2) (hm:dA K+l.length≤900000000000) (s3:¬K.nds[q].R.status=3) :
  Calls Tryz.prog 63 #[Zp (some ⟨g,0,O⟩),I J q,vl] w fun e w'=>StE N w w' g K V l.length e:=by
 have z:=hi.sz;obtain⟨n,hn⟩:∃ n:Nat,K.n=n:=⟨K.n.toNat,by have:=z.n3;omega⟩
 have z3:=z.n3;have z1:=z.nds;have z7:=z.n7;have zd:=z.down;have zb:=z.begun;have z10:=z.opn;rw[hn] at z1 z7 z3 zd zb;have HC1:Hid (∀ w2,Below w.heap.size w w2→w2.cell? ⟨g,1,O⟩=some (I J n)):=fun w2 hw2=>by rw[← hn];exact (h.below hw2).cell 1
 obtain⟨aN,cN,hvN⟩:=au h.rN
 have HC2:Hid (∀ w2,Below w.heap.size w w2→w2.cell? ⟨g,2,O⟩=some (Y aN K.nds.length cN)):=fun w2 hw2=>by rw[← hvN];exact (h.below hw2).cell 2
 have HN:=ah (fun (w2:World) (hw2:Below w.heap.size w w2)=>KAt.ptr h hvN hw2)
 have HWh:=ah (fun (w2:World) (hw2:Below w.heap.size w w2)=>KAt.whr h hw2)
 have HQ:=ah (HWh.out w (Below.refl _ _) q hq);obtain⟨b1,o1,rfl,_,d1⟩:=HN.out w (Below.refl _ _) q hq
 have c2:=HC2.out w (Below.refl _ _);have j1:(0:Int)≤(q:Int):=by omega
 have j2:(q:Int)<(K.nds.length:Int):=by omega
 obtain⟨al,cl,rfl,hcl,hml⟩:∃ a cap,vl=Y a l.length cap∧l.length≤cap∧cap≤9223372036854775807:=by
  obtain⟨a,cap,e,hn,hm,_⟩:=Rd.form hl
  exact⟨a,cap,e,hn,by unfold maxLen at hm;omega⟩
 have HL0:Hid (∀ w2,Below w.heap.size w w2→Lo N w w2 g K V 0 K V):=fun w2 hw2=>(Lo.refl h hi).below hw2
 have HO:Hid (∀ {w2:World} {K2:Kw} {V2:Kv},Kst N w w2 g K V K2 V2→wm w2 (Y al l.length cl) l):=fun k=>Rd.kp hl k.kp hf (fun _ h=>h)
 have HGr:=ah gr;have HSt:Hid (K.nds[q].R.status=3→∀ (k:Nat) (hk:k<l.length),∃ h0:0<l[k].2.size,(l[k].2)[0].toNat=114):=fun h3 k hk=>CG (hs h3 _ (List.getElem_mem hk))
 clear h hi gr z hf hl hs HWh HN HC2;generalize K.nds[q].b=bb at *;generalize K.nds[q].R.epoch=r1 at *;generalize K.nds[q].R.view=r2 at *;generalize K.nds[q].R.status=r3 at *;generalize K.nds[q].R.decided=r4 at *;go_enter Tryz.func63,Tryz.ntmps63;go_wp2_with fail;refine HQ.out.mono ?_;rintro e w1 ⟨rfl,nn,hw1⟩;have hb1:Below w.heap.size w w1:=by rw[hw1];exact below_drewN (Below.refl _ _) nn
 clear hw1 HQ c2 d1;go_wp2_with fail;go_loopw [11] (fun i wr=>∃ (k:Nat) (K':Kw) (V':Kv),k≤l.length∧i=I J k∧Lo N w wr g K V k K' V') (fun i _=>l.length-(intOf i).toNat)
 case atStart=>exact⟨0,K,V,Nat.zero_le _,rfl,HL0.out _ hb1⟩
 case round =>
  obtain⟨k,K1,V1,hk,rfl,L⟩:=hrel
  have HL:=ah L;clear L;by_cases hlt:k<l.length
  ·obtain⟨bo,oo,rfl,_,p1,p2⟩:=(HO.out HL.out.kst).get k hlt
   have c1:=HL.out.c1 hn;have j3:(0:Int)≤(k:Int):=by omega
   have j4:(k:Int)<(l.length:Int):=by omega
   have hst:=fun h3=>HSt.out h3 k hlt
   generalize h_qt:l[k].1=qt at *;generalize h_tx:l[k].2=tx at *;have s3':(r3==3)=false:=beq_eq_false_iff_ne.2 s3
   clear hst s3;by_cases a1:(n:Int)≤qt
   ·have g1:decide ((n:Int)≤qt)=true:=decide_eq_true a1
    go_wp2_with fail;go_quiet (fail);have Lq:=HL.out.below (below_drewN (Below.refl _ _) nq);have HFq:=ah (bQ Lq.kst.at_ 4);go_wp2_with fail;refine HFq.out.mono ?_;rintro e w2 ⟨rfl,k2⟩;go_wp2_with fail;go_ret;exact (Lq.fails k2 (by unfold dK;omega)).ste HGr.out (by omega) false
   have g1:decide ((n:Int)≤qt)=false:=decide_eq_false a1
   by_cases a2:qt=(q:Int)
   ·have g2:(qt==(q:Int))=true:=beq_iff_eq.2 a2
    clear a2;go_wp2_with fail;go_quiet (fail);have Lq:=HL.out.below (below_drewN (Below.refl _ _) nq);have HFq:=ah (bQ Lq.kst.at_ 4);go_wp2_with fail;refine HFq.out.mono ?_;rintro e w2 ⟨rfl,k2⟩;go_wp2_with fail;go_ret;exact (Lq.fails k2 (by unfold dK;omega)).ste HGr.out (by omega) false
   have g2:(qt==(q:Int))=false:=beq_eq_false_iff_ne.2 a2
   by_cases a3:qt < -9
   ·have g3:decide (qt < -9)=true:=decide_eq_true a3
    go_wp2_with fail;go_quiet (fail);have Lq:=HL.out.below (below_drewN (Below.refl _ _) nq);have HFq:=ah (bQ Lq.kst.at_ 4);go_wp2_with fail;refine HFq.out.mono ?_;rintro e w2 ⟨rfl,k2⟩;go_wp2_with fail;go_ret;exact (Lq.fails k2 (by unfold dK;omega)).ste HGr.out (by omega) false
   have g3:decide (qt < -9)=false:=decide_eq_false a3
   by_cases a4:tx.size=0
   ·have g4:tx=Ze:=by
     cases tx with|mk d=>cases d with|mk l=>cases l with|nil=>rfl|cons a l=>simp[ByteArray.size] at a4
    have g5:decide (tx=Ze)=true:=decide_eq_true g4
    go_wp2_with fail;go_quiet (fail);have Lq:=HL.out.below (below_drewN (Below.refl _ _) nq);have HFq:=ah (bQ Lq.kst.at_ 4);go_wp2_with fail;refine HFq.out.mono ?_;rintro e w2 ⟨rfl,k2⟩;go_wp2_with fail;go_ret;exact (Lq.fails k2 (by unfold dK;omega)).ste HGr.out (by omega) false
   have g4:¬tx=Ze:=by
    intro hc;rw[hc] at a4;exact a4 rfl
   have g5:decide (tx=Ze)=false:=decide_eq_false g4
   have g6:tx.toList.isEmpty=false:=uI (by omega)
   clear a2;go_wp2_with fail;go_quiet (fail);have Lq:=HL.out.below (below_drewN (Below.refl _ _) nq);have HLq:=ah Lq;clear Lq;generalize hwA:wr.drewN nq=wA at *;clear hwA p1 p2;obtain⟨b2,o2,e2',_,p1,p2⟩:=(HO.out HLq.out.kst).get k hlt
   cases e2';rw[h_qt] at p1;rw[h_tx] at p2;by_cases a6:qt<0
   ·have nw:IntKind.i64.wrap (-qt) = -qt:=eB (by omega) (by omega)
    have HAq:Hid (∀ w2,Below wA.heap.size wA w2→Calls Tryz.prog 110 #[Zp (some ⟨g,0,O⟩),I J (-qt),Z tx] w2 fun e w'=>LoE N w w' g K V k e):=fun w2 hw2=>by
     have L2:=HLq.out.below hw2;refine (uN L2.kst.at_ L2.ki (-qt) (by omega) (by omega) tx).mono ?_
     rintro e w3 ⟨b,K3,rfl,k3,⟨rfl,hk⟩|⟨rfl,rfl⟩⟩
     ·exact⟨true,_,_,rfl,L2.ans k3 hk⟩
     ·exact⟨false,_,_,rfl,L2.fails k3 (by unfold dK;omega)⟩
    go_wp2_with fail;go_region_with (go_at_call 110;refine (HAq.out _ (Below.refl _ _).drew).mono ?_;rintro e w4 ⟨bA,KA,VA,rfl,LA⟩)
    all_goals
     have HLA:=ah LA;clear LA;cases bA
     ·go_wp2_with fail;go_ret;exact HLA.out.ste HGr.out (by omega) false
     ·go_upto_region 13 with fail
      have HPq:Hid (∀ w2,Below w4.heap.size w4 w2→Calls Tryz.prog 55 #[Zp (some ⟨g,0,O⟩),I J q,I J qt,Z tx] w2 fun e w'=>e=Zr (.tuple #[])∧∃ v,Lo N w w' g K V (k+1) { KA with net:=KA.net++[((q:Int),qt,tx)] } { VA with vP:=v }):=fun w2 hw2=>by
       have L2:=HLA.out.below hw2;refine (kP L2.kst.at_ q qt tx (by have:=iG KA;have:=L2.ms;omega)).mono ?_
       rintro e w3 ⟨rfl,v,k3⟩;exact⟨rfl,v,L2.post k3 (by omega) (by omega) (by omega)⟩
      clear p1 p2;obtain⟨b2,o2,e2',_,p1,p2⟩:=(HO.out HLA.out.kst).get k hlt
      cases e2';rw[h_qt] at p1;rw[h_tx] at p2;go_wp2_with fail;go_region_with (go_at_call 55;refine (HPq.out _ (Below.refl _ _).drew).mono ?_;rintro e w5 ⟨rfl,v5,L5⟩)
      all_goals
       go_wp2_with fail;go_roundw
       case rel=>exact⟨k+1,_,_,by omega,by go_num,L5⟩
       case measure=>simp[intOf];omega
   ·obtain⟨KA,VA,HLA⟩:∃ KA VA,Hid (Lo N w wA g K V k KA VA):=⟨_,_,HLq⟩
    have HPq:Hid (∀ w2,Below wA.heap.size wA w2→Calls Tryz.prog 55 #[Zp (some ⟨g,0,O⟩),I J q,I J qt,Z tx] w2 fun e w'=>e=Zr (.tuple #[])∧∃ v,Lo N w w' g K V (k+1) { KA with net:=KA.net++[((q:Int),qt,tx)] } { VA with vP:=v }):=fun w2 hw2=>by
     have L2:=HLA.out.below hw2;refine (kP L2.kst.at_ q qt tx (by have:=iG KA;have:=L2.ms;omega)).mono ?_
     rintro e w3 ⟨rfl,v,k3⟩;exact⟨rfl,v,L2.post k3 (by omega) (by omega) (by omega)⟩
    clear p1 p2;obtain⟨b2,o2,e2',_,p1,p2⟩:=(HO.out HLA.out.kst).get k hlt
    cases e2';rw[h_qt] at p1;rw[h_tx] at p2;go_wp2_with fail;go_region_with (go_at_call 55;refine (HPq.out _ (Below.refl _ _).drew).mono ?_;rintro e w5 ⟨rfl,v5,L5⟩)
    all_goals
     go_wp2_with fail;go_roundw
     case rel=>exact⟨k+1,_,_,by omega,by go_num,L5⟩
     case measure=>simp[intOf];omega
  ·go_wp2_with fail;go_ret;exact HL.out.ste HGr.out (by omega) true
end
end Go.Proofs.YtajakaadgagejaaGreatDoor
