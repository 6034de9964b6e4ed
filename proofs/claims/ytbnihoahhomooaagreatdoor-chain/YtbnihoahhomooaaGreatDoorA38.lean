import Derived.Test.YtbnihoahhomooaaGreatDoorA37
import Derived.Test.YtbnihoahhomooaaGreatDoorA36
set_option maxRecDepth 100000
set_option maxHeartbeats 8000000
set_option linter.all false
namespace Go.Proofs.YtbnihoahhomooaaGreatDoor
open Go.Value renaming int→I,slice→Y,string→Z,pointer→Zp
open Go.Ending renaming returned→Zr
open _root_.ByteArray renaming empty→Ze
open Go.IntKind renaming i64→J
open Option renaming none→O
open Go.RowKit
section
variable {N:Nat} {w w':World} {g:Nat} {K K':Kw} {V V':Kv}
theorem dg_ne (x:Int):¬(dg x).toList.isEmpty=true:=by
 rw[ByteArray.toList_eq]
 show ¬(jo x.toNat).isEmpty=true
 unfold jo
 split <;> simp
theorem Gj (h:KAt N w g K V) (hi:KI K) (gr:Gr K) (A B C:Int) (S:ByteArray) (hA0 : -9223372036854775808≤A) (hA1:A≤9223372036854775807) (hB0 : -9223372036854775808≤B) (hB1:B≤9223372036854775807) (hC0 : -9223372036854775808≤C) (hC1:C≤9223372036854775807) (hS:S.size≤1000000) (hm:dI K+200000≤900000000000) :
  Calls Tryz.prog 14 #[Zp (some ⟨g,0,O⟩),.agg #[I J 2,I J A,I J B,I J C,Z S]] w fun e w'=>RnE N w w' g K V 150000 e:=by
 have z:=hi.sz;obtain⟨n,hn⟩:∃ n:Nat,K.n=n:=⟨K.n.toNat,by have:=z.n3;omega⟩
 have z3:=z.n3;have z1:=z.nds;have z7:=z.n7;rw[hn] at z1 z7 z3;have hb0:Below w.heap.size w (w.alloc (.cells #[I J 2,I J A,I J B,I J C,Z S] 28)):=(Below.refl _ w).alloc (Nat.le_refl _) _
 have hx:=heap_alloc_new w (.cells #[I J 2,I J A,I J B,I J C,Z S] 28);have hAt:=h.below hb0;have HL0:=ah ((Rn.refl h hi gr).below hb0);have c1:(w.alloc (.cells #[I J 2,I J A,I J B,I J C,Z S] 28)).cell? ⟨g,1,O⟩=some (I J n):=by rw[← hn];exact hAt.cell 1
 have b1:(w.alloc (.cells #[I J 2,I J A,I J B,I J C,Z S] 28)).cell? ⟨w.heap.size,1,O⟩=some (I J A):=(cell_of_row _ _ _ _ _ _ hx).trans rfl
 obtain⟨q,hqn,hqe⟩:=eF A n (by omega)
 have HP:Hid (∀ w2,Calls Tryz.prog 13 #[I J A,I J n] w2 fun e w'=>e=Zr (I J (q:Int))∧w'=w2):=fun w2=>by rw[← hqe];exact dH A n w2 hA0 hA1 (by omega) (by omega)
 have hKI:=ah hi;clear h hi gr z hAt hqe;go_enter Tryz.func14,Tryz.ntmps14;go_wp2_with fail;generalize w.alloc (.cells #[I J 2,I J A,I J B,I J C,Z S] 28)=wA at *;go_quiet ((go_at_call 13;exact Calls.quiet_of_same (HP.out _)))
 have HL:=ah (HL0.out.below (below_drewN (Below.refl _ _) nq));have hxB:(wA.drewN nq).heap[w.heap.size]? = some (.cells #[I J 2,I J A,I J B,I J C,Z S] 28):=((below_drewN (Below.refl wA.heap.size wA) nq).block _ (lt_of_block hx)).trans hx
 generalize wA.drewN nq=wB at *;clear hx hb0 c1 b1 HL0 HP;have HX:Hid (∀ w2,Below wB.heap.size wB w2→w2.heap[w.heap.size]? = some (.cells #[I J 2,I J A,I J B,I J C,Z S] 28)):=fun w2 hw2=>(hw2.block _ (lt_of_block hxB)).trans hxB
 have wBx:Below wB.heap.size wB wB:=Below.refl _ _
 clear hxB;have hql:q<K.nds.length:=by omega
 have b0:wB.cell? ⟨w.heap.size,0,O⟩=some (I J 2):=(cell_of_row _ _ _ _ _ _ (HX.out _ wBx)).trans rfl
 have b1:wB.cell? ⟨w.heap.size,1,O⟩=some (I J A):=(cell_of_row _ _ _ _ _ _ (HX.out _ wBx)).trans rfl
 have b2:wB.cell? ⟨w.heap.size,2,O⟩=some (I J B):=(cell_of_row _ _ _ _ _ _ (HX.out _ wBx)).trans rfl
 have b4:wB.cell? ⟨w.heap.size,4,O⟩=some (Z S):=(cell_of_row _ _ _ _ _ _ (HX.out _ wBx)).trans rfl
 have HAs:Hid (∀ w2 (k b:Nat) (tx:ByteArray),Below wB.heap.size wB w2→k<9→b<n→1≤S.size→S.size≤8→tx.size≤100→(tx.toList.isEmpty=true→iU S=false∧(32:UInt8)∉S.data.toList)→(¬tx.toList.isEmpty=true→(∃ E:Int,0≤E∧E≤10∧tx=dg E)∧(32:UInt8)∉S.data.toList)→Calls Tryz.prog 27 #[Zp (some ⟨g,0,O⟩),I J (1+(k:Int)),I J b,Z S,Z tx] w2 fun e w'=>e=Zr (.tuple #[])∧RnE N w w' g K V 150000 (Zr (.bool true))):=fun w2 k b tx hw2 hk hb h1 h8 ht hq0 hm0=>by
  have L2:=HL.out.below hw2;have:=BO L2.kst.at_ L2.ki L2.gr (1+k) b (by omega) (by omega) (by rw[hn];omega) S tx h1 h8 ht hq0 hm0 (by omega)
  rw[show ((1+k:Nat):Int)=1+(k:Int) by omega] at this
  refine this.mono ?_;rintro e w3 ⟨rfl,K3,V3,L3⟩;exact⟨rfl,true,K3,V3,rfl,L2.kst.trans L3.kst,L3.ki,by have:=L3.ms;omega,L3.n,fun _=>L3.gr⟩
 obtain⟨k9,hk9,hke9⟩:=eF A 9 (by omega)
 have HP9:Hid (∀ w2,Calls Tryz.prog 13 #[I J A,I J 9] w2 fun e w'=>e=Zr (I J (k9:Int))∧w'=w2):=fun w2=>by
  have:=dH A 9 w2 hA0 hA1 (by omega) (by omega)
  rw[← hke9];exact this
 obtain⟨pb,hpb,hpbe⟩:=eF B n (by omega)
 have HPb:Hid (∀ w2,Calls Tryz.prog 13 #[I J B,I J n] w2 fun e w'=>e=Zr (I J (pb:Int))∧w'=w2):=fun w2=>by rw[← hpbe];exact dH B n w2 hB0 hB1 (by omega) (by omega)
 have HC1:Hid (∀ w2,Below wB.heap.size wB w2→w2.cell? ⟨g,1,O⟩=some (I J n)):=fun w2 hw2=>by rw[← hn];exact (HL.out.kst.at_.below hw2).cell 1
 clear hke9 hpbe;have HIs:=ah (Ga S wB (by omega))
 go_wp2_with fail;refine HIs.out.mono ?_;rintro e wC ⟨b,rfl,hb,hwC⟩;subst hwC;cases b
 ·have HR:=ah (HL.out.rne (d:=150000) true (by omega))
  clear hb;go_wp2;go_ret;exact HR.out
 ·obtain⟨⟨hs2,hs4⟩,hsp,hro⟩:=hb rfl
  have HSp:=ah hsp;have HRo:=ah hro;clear hb hsp hro;have c1:=HC1.out _ (Below.refl _ _);go_wp2_with fail;refine (HP9.out _).mono ?_;rintro e wD ⟨rfl,hwD⟩;subst hwD;go_wp2_with fail;go_quiet ((go_at_call 13;exact Calls.quiet_of_same (HPb.out _)))
  have wEx:Below wD.heap.size wD (wD.drewN nq):=below_drewN (Below.refl _ _) nq
  generalize wD.drewN nq=wE at *;clear b0 b1 b2 b4 c1;have b4:wE.cell? ⟨w.heap.size,4,O⟩=some (Z S):=(cell_of_row _ _ _ _ _ _ (HX.out _ wEx)).trans rfl
  go_wp2_with fail;refine (HAs.out _ k9 pb _ wEx hk9 hpb (by omega) (by omega) (by decide) (fun _=>⟨HRo.out,HSp.out⟩) (fun h=>absurd (by rw[ByteArray.toList_eq];rfl) h)).mono ?_
  rintro e w9 ⟨rfl,hR⟩;have HR:=ah hR;clear hR;go_wp2;go_ret;exact HR.out
theorem Gl (h:KAt N w g K V) (hi:KI K) (gr:Gr K) (A B C:Int) (S:ByteArray) (hA0 : -9223372036854775808≤A) (hA1:A≤9223372036854775807) (hB0 : -9223372036854775808≤B) (hB1:B≤9223372036854775807) (hC0 : -9223372036854775808≤C) (hC1:C≤9223372036854775807) (hS:S.size≤1000000) (hm:dI K+200000≤900000000000) :
  Calls Tryz.prog 14 #[Zp (some ⟨g,0,O⟩),.agg #[I J 3,I J A,I J B,I J C,Z S]] w fun e w'=>RnE N w w' g K V 150000 e:=by
 have z:=hi.sz;obtain⟨n,hn⟩:∃ n:Nat,K.n=n:=⟨K.n.toNat,by have:=z.n3;omega⟩
 have z3:=z.n3;have z1:=z.nds;have z7:=z.n7;rw[hn] at z1 z7 z3;have hb0:Below w.heap.size w (w.alloc (.cells #[I J 3,I J A,I J B,I J C,Z S] 28)):=(Below.refl _ w).alloc (Nat.le_refl _) _
 have hx:=heap_alloc_new w (.cells #[I J 3,I J A,I J B,I J C,Z S] 28);have hAt:=h.below hb0;have HL0:=ah ((Rn.refl h hi gr).below hb0);have c1:(w.alloc (.cells #[I J 3,I J A,I J B,I J C,Z S] 28)).cell? ⟨g,1,O⟩=some (I J n):=by rw[← hn];exact hAt.cell 1
 have b1:(w.alloc (.cells #[I J 3,I J A,I J B,I J C,Z S] 28)).cell? ⟨w.heap.size,1,O⟩=some (I J A):=(cell_of_row _ _ _ _ _ _ hx).trans rfl
 obtain⟨q,hqn,hqe⟩:=eF A n (by omega)
 have HP:Hid (∀ w2,Calls Tryz.prog 13 #[I J A,I J n] w2 fun e w'=>e=Zr (I J (q:Int))∧w'=w2):=fun w2=>by rw[← hqe];exact dH A n w2 hA0 hA1 (by omega) (by omega)
 have hKI:=ah hi;clear h hi gr z hAt hqe;go_enter Tryz.func14,Tryz.ntmps14;go_wp2_with fail;generalize w.alloc (.cells #[I J 3,I J A,I J B,I J C,Z S] 28)=wA at *;go_quiet ((go_at_call 13;exact Calls.quiet_of_same (HP.out _)))
 have HL:=ah (HL0.out.below (below_drewN (Below.refl _ _) nq));have hxB:(wA.drewN nq).heap[w.heap.size]? = some (.cells #[I J 3,I J A,I J B,I J C,Z S] 28):=((below_drewN (Below.refl wA.heap.size wA) nq).block _ (lt_of_block hx)).trans hx
 generalize wA.drewN nq=wB at *;clear hx hb0 c1 b1 HL0 HP;have HX:Hid (∀ w2,Below wB.heap.size wB w2→w2.heap[w.heap.size]? = some (.cells #[I J 3,I J A,I J B,I J C,Z S] 28)):=fun w2 hw2=>(hw2.block _ (lt_of_block hxB)).trans hxB
 have wBx:Below wB.heap.size wB wB:=Below.refl _ _
 clear hxB;have hql:q<K.nds.length:=by omega
 have b0:wB.cell? ⟨w.heap.size,0,O⟩=some (I J 3):=(cell_of_row _ _ _ _ _ _ (HX.out _ wBx)).trans rfl
 have b1:wB.cell? ⟨w.heap.size,1,O⟩=some (I J A):=(cell_of_row _ _ _ _ _ _ (HX.out _ wBx)).trans rfl
 have b2:wB.cell? ⟨w.heap.size,2,O⟩=some (I J B):=(cell_of_row _ _ _ _ _ _ (HX.out _ wBx)).trans rfl
 have b4:wB.cell? ⟨w.heap.size,4,O⟩=some (Z S):=(cell_of_row _ _ _ _ _ _ (HX.out _ wBx)).trans rfl
 have b3:wB.cell? ⟨w.heap.size,3,O⟩=some (I J C):=(cell_of_row _ _ _ _ _ _ (HX.out _ wBx)).trans rfl
 have HAs:Hid (∀ w2 (k b:Nat) (tx:ByteArray),Below wB.heap.size wB w2→k<9→b<n→1≤S.size→S.size≤8→tx.size≤100→(tx.toList.isEmpty=true→iU S=false∧(32:UInt8)∉S.data.toList)→(¬tx.toList.isEmpty=true→(∃ E:Int,0≤E∧E≤10∧tx=dg E)∧(32:UInt8)∉S.data.toList)→Calls Tryz.prog 27 #[Zp (some ⟨g,0,O⟩),I J (1+(k:Int)),I J b,Z S,Z tx] w2 fun e w'=>e=Zr (.tuple #[])∧RnE N w w' g K V 150000 (Zr (.bool true))):=fun w2 k b tx hw2 hk hb h1 h8 ht hq0 hm0=>by
  have L2:=HL.out.below hw2;have:=BO L2.kst.at_ L2.ki L2.gr (1+k) b (by omega) (by omega) (by rw[hn];omega) S tx h1 h8 ht hq0 hm0 (by omega)
  rw[show ((1+k:Nat):Int)=1+(k:Int) by omega] at this
  refine this.mono ?_;rintro e w3 ⟨rfl,K3,V3,L3⟩;exact⟨rfl,true,K3,V3,rfl,L2.kst.trans L3.kst,L3.ki,by have:=L3.ms;omega,L3.n,fun _=>L3.gr⟩
 obtain⟨k9,hk9,hke9⟩:=eF A 9 (by omega)
 have HP9:Hid (∀ w2,Calls Tryz.prog 13 #[I J A,I J 9] w2 fun e w'=>e=Zr (I J (k9:Int))∧w'=w2):=fun w2=>by
  have:=dH A 9 w2 hA0 hA1 (by omega) (by omega)
  rw[← hke9];exact this
 obtain⟨pb,hpb,hpbe⟩:=eF B n (by omega)
 have HPb:Hid (∀ w2,Calls Tryz.prog 13 #[I J B,I J n] w2 fun e w'=>e=Zr (I J (pb:Int))∧w'=w2):=fun w2=>by rw[← hpbe];exact dH B n w2 hB0 hB1 (by omega) (by omega)
 have HC1:Hid (∀ w2,Below wB.heap.size wB w2→w2.cell? ⟨g,1,O⟩=some (I J n)):=fun w2 hw2=>by rw[← hn];exact (HL.out.kst.at_.below hw2).cell 1
 clear hke9 hpbe;have HIs:=ah (zJ S wB (by omega))
 have HHo:=ah (zI HL.out.kst.at_ HL.out.ki.sz S (-1) (by omega))
 obtain⟨pc,hpc,hpce⟩:=eF C n (by omega)
 have HPc:Hid (∀ w2,Calls Tryz.prog 13 #[I J C,I J n] w2 fun e w'=>e=Zr (I J (pc:Int))∧w'=w2):=fun w2=>by rw[← hpce];exact dH C n w2 hC0 hC1 (by omega) (by omega)
 have hpl:pc<K.nds.length:=by omega
 obtain⟨aN,cN,hvN⟩:=aj HL.out.kst.at_.rN
 have HN:Hid (∀ w2,Below wB.heap.size wB w2→w2.cell? ⟨g,2,O⟩=some (Y aN K.nds.length cN)∧∃ b off,aN=some ⟨b,off,O⟩∧b<w2.heap.size∧w2.cell? ⟨b,off+pc,O⟩=some (Zp (some ⟨K.nds[pc].b,0,O⟩))):=fun w2 hw2=>⟨by rw[← hvN];exact (HL.out.kst.at_.below hw2).cell 2,HL.out.kst.at_.ptr hvN hw2 pc hpl⟩
 have HWh:Hid (∀ w2,Below wB.heap.size wB w2→Calls Tryz.prog 30 #[Zp (some ⟨K.nds[pc].b,0,O⟩)] w2 fun e w'=>e=Zr (.tuple #[I J K.nds[pc].R.epoch,I J K.nds[pc].R.view,I J K.nds[pc].R.status,I J (K.nds[pc].R.decided:Int)])∧∃ n,w'=w2.drewN n):=fun w2 hw2=>HL.out.kst.at_.whr hw2 pc hpl
 have hep:=(hKI.out.nod pc _ (List.getElem?_eq_getElem hpl)).ok.ep;generalize K.nds[pc].b=bb at *;generalize K.nds[pc].R.epoch=r1 at *;generalize K.nds[pc].R.view=r2 at *;generalize K.nds[pc].R.status=r3 at *;generalize K.nds[pc].R.decided=r4 at *;have HNu:Hid (∀ w2,Calls Tryz.prog 31 #[I J r1] w2 fun e w'=>e=Zr (Z (dg r1))∧Below w2.heap.size w2 w'):=fun w2=>gI r1 w2 (by omega) (by omega)
 have sn:=fO r1 (by omega)
 have HDn:=ah (dg_ne r1);have HDe:Hid (∃ E:Int,0≤E∧E≤10∧dg r1=dg E):=⟨r1,hep.1,hep.2,rfl⟩
 generalize dg r1=dr at *;clear hpce;go_wp2_with fail;refine HIs.out.mono ?_;rintro e wC ⟨b,rfl,hb,hwC⟩;subst hwC;go_wp2_with fail;refine HHo.out.mono ?_;rintro e wD ⟨bD,rfl,wDx⟩;have HR:=ah ((HL.out.below wDx).rne (d:=150000) true (by omega))
 clear b0 b1 b2 b3 b4;have b1:wD.cell? ⟨w.heap.size,1,O⟩=some (I J A):=(cell_of_row _ _ _ _ _ _ (HX.out _ wDx)).trans rfl
 have b2:wD.cell? ⟨w.heap.size,2,O⟩=some (I J B):=(cell_of_row _ _ _ _ _ _ (HX.out _ wDx)).trans rfl
 have b3:wD.cell? ⟨w.heap.size,3,O⟩=some (I J C):=(cell_of_row _ _ _ _ _ _ (HX.out _ wDx)).trans rfl
 have b4:wD.cell? ⟨w.heap.size,4,O⟩=some (Z S):=(cell_of_row _ _ _ _ _ _ (HX.out _ wDx)).trans rfl
 cases b
 ·clear hb;go_wp2;go_ret;exact HR.out
 ·obtain⟨⟨hs1,hs8⟩,hsp,_⟩:=hb rfl
  have HSp:=ah hsp;clear hb hsp;cases bD
  ·go_wp2;go_ret;exact HR.out
  ·have c1:=HC1.out _ wDx;go_wp2_with fail;refine (HP9.out _).mono ?_;rintro e wE ⟨rfl,hwE⟩;subst hwE;go_wp2_with fail;go_quiet ((go_at_call 13;exact Calls.quiet_of_same (HPb.out _)))
   have wFx:=below_drewN wDx nq;generalize wE.drewN nq=wF at *;clear b1 b2 b3 b4 c1;have b3:wF.cell? ⟨w.heap.size,3,O⟩=some (I J C):=(cell_of_row _ _ _ _ _ _ (HX.out _ wFx)).trans rfl
   have b4:wF.cell? ⟨w.heap.size,4,O⟩=some (Z S):=(cell_of_row _ _ _ _ _ _ (HX.out _ wFx)).trans rfl
   have c1:=HC1.out _ wFx;go_wp2_with fail;go_quiet ((go_at_call 13;exact Calls.quiet_of_same (HPc.out _)))
   have wGx:=below_drewN wFx nq;generalize wF.drewN nq=wG at *;clear b3 b4 c1;obtain⟨c2,bp,op,rfl,_,d2⟩:=HN.out _ wGx
   have k1:(0:Int)≤(pc:Int):=by omega
   have k2:(pc:Int)<(K.nds.length:Int):=by omega
   go_wp2_with fail;refine (HWh.out _ wGx).mono ?_;rintro e wH ⟨rfl,nn,hwH⟩;have wHx:Below wC.heap.size wC wH:=by rw[hwH];exact below_drewN wGx nn
   clear hwH c2 d2;go_wp2_with fail;refine (HNu.out _).mono ?_;rintro e wI ⟨rfl,hbI⟩;have wIx:=wHx.trans (hbI.mono wHx.size);have b4:wI.cell? ⟨w.heap.size,4,O⟩=some (Z S):=(cell_of_row _ _ _ _ _ _ (HX.out _ wIx)).trans rfl
   go_wp2_with fail;refine (HAs.out _ k9 pb _ wIx hk9 hpb (by omega) (by omega) (by omega) (fun h=>absurd h HDn.out) (fun _=>⟨HDe.out,HSp.out⟩)).mono ?_
   rintro e w9 ⟨rfl,hR⟩;have HR:=ah hR;clear hR;go_wp2;go_ret;exact HR.out
theorem Jm (h:KAt N w g K V) (hi:KI K) (gr:Gr K) (kd A B C:Int) (S:ByteArray) (hA0 : -9223372036854775808≤A) (hA1:A≤9223372036854775807) (hB0 : -9223372036854775808≤B) (hB1:B≤9223372036854775807) (hC0 : -9223372036854775808≤C) (hC1:C≤9223372036854775807) (hS:S.size≤1000000) (hm:dI K+200000≤900000000000) :
  Calls Tryz.prog 14 #[Zp (some ⟨g,0,O⟩),.agg #[I J kd,I J A,I J B,I J C,Z S]] w fun e w'=>RnE N w w' g K V 150000 e:=by
 by_cases h2:kd=2
 ·subst h2;exact Gj h hi gr A B C S hA0 hA1 hB0 hB1 hC0 hC1 hS hm
 by_cases h3:kd=3
 ·subst h3;exact Gl h hi gr A B C S hA0 hA1 hB0 hB1 hC0 hC1 hS hm
 by_cases h4:kd=4
 ·subst h4;exact Gm h hi gr A B C S hA0 hA1 hB0 hB1 hC0 hC1 hS hm
 by_cases h5:kd=5
 ·subst h5;exact Gn h hi gr A B C S hA0 hA1 hB0 hB1 hC0 hC1 hS hm
 by_cases h6:kd=6
 ·subst h6;exact Gp h hi gr A B C S hA0 hA1 hB0 hB1 hC0 hC1 hS hm
 by_cases h7:kd=7
 ·subst h7;exact Gq h hi gr A B C S hA0 hA1 hB0 hB1 hC0 hC1 hS hm
 by_cases h8:kd=8
 ·subst h8;exact Gs h hi gr A B C S hA0 hA1 hB0 hB1 hC0 hC1 hS hm
 by_cases h9:kd=9
 ·subst h9;exact Gt h hi gr A B C S hA0 hA1 hB0 hB1 hC0 hC1 hS hm
 by_cases h10:kd=10
 ·subst h10;exact Ej h hi gr A B C S hA0 hA1 hB0 hB1 hC0 hC1 hS hm
 by_cases h11:kd=11
 ·subst h11;exact El h hi gr A B C S hA0 hA1 hB0 hB1 hC0 hC1 hS hm
 by_cases h12:kd=12
 ·subst h12;exact Em h hi gr A B C S hA0 hA1 hB0 hB1 hC0 hC1 hS hm
 exact Gu h hi gr kd A B C S hA0 hA1 hB0 hB1 hC0 hC1 hS hm h2 h3 h4 h5 h6 h7 h8 h9 h10 h11 h12
end
structure ow where
 kd:Int
 a:Int
 b:Int
 c:Int
 s:ByteArray
def fZ:List ow→List Value
 | []=>[]
 | x :: l=>I J x.kd :: I J x.a :: I J x.b :: I J x.c :: Z x.s :: fZ l
theorem xQ:∀ (l:List ow) (k:Nat) (h:k<l.length),(fZ l)[5*k]? = some (I J l[k].kd)∧(fZ l)[5*k+1]? = some (I J l[k].a)∧(fZ l)[5*k+2]? = some (I J l[k].b)∧(fZ l)[5*k+3]? = some (I J l[k].c)∧(fZ l)[5*k+4]? = some (Z l[k].s)
 | a :: l,0,_=>⟨rfl,rfl,rfl,rfl,rfl⟩
 | a :: l,k+1,h=>by
  have:=xQ l k (by simpa using h)
  simp only[List.getElem_cons_succ];exact this
def Scr (w:World) (v:Value) (l:List ow):Prop:=(∃ a cap,v=Y a l.length cap∧l.length≤cap∧cap≤9223372036854775807)∧(0<l.length→Rd w 5 v l.length (fZ l))
theorem Scr.below {w w':World} {v:Value} {l:List ow} (h:Scr w v l) (hb:Below w.heap.size w w'):Scr w' v l:=⟨h.1,fun q=>Rd.below (h.2 q) hb⟩
theorem Scr.get {w:World} {a:Option Addr} {n cap:Nat} {l:List ow} (h:Scr w (Y a n cap) l) (k:Nat) (hk:k<l.length) :
  ∃ b off,a=some ⟨b,off,O⟩∧b<w.heap.size∧w.cell? ⟨b,off+k*5,O⟩=some (I J l[k].kd)∧w.cell? ⟨b,off+k*5+1,O⟩=some (I J l[k].a)∧w.cell? ⟨b,off+k*5+2,O⟩=some (I J l[k].b)∧w.cell? ⟨b,off+k*5+3,O⟩=some (I J l[k].c)∧w.cell? ⟨b,off+k*5+4,O⟩=some (Z l[k].s):=by
 obtain⟨q0,q1,q2,q3,q4⟩:=xQ l k hk
 rcases (h.2 (by omega)).2 with ⟨h1,h2⟩|⟨b,off,cap',h1,_,_,hb,hc⟩
 ·omega
 ·simp only[Value.slice.injEq] at h1;obtain⟨rfl,rfl,rfl⟩:=h1
  refine⟨b,off,rfl,hb,?_,?_,?_,?_,?_⟩
  ·have:=hc _ _ q0;rwa [show off+5*k=off+k*5 by omega] at this
  ·have:=hc _ _ q1;rwa [show off+(5*k+1)=off+k*5+1 by omega] at this
  ·have:=hc _ _ q2;rwa [show off+(5*k+2)=off+k*5+2 by omega] at this
  ·have:=hc _ _ q3;rwa [show off+(5*k+3)=off+k*5+3 by omega] at this
  ·have:=hc _ _ q4;rwa [show off+(5*k+4)=off+k*5+4 by omega] at this
theorem Scr.shape {w:World} {v:Value} {l:List ow} (h:Scr w v l):∃ a cap,v=Y a l.length cap∧l.length≤cap∧cap≤9223372036854775807:=by
 exact h.1
def qx (x:ow):Prop:=(-9223372036854775808≤x.a∧x.a≤9223372036854775807)∧(-9223372036854775808≤x.b∧x.b≤9223372036854775807)∧(-9223372036854775808≤x.c∧x.c≤9223372036854775807)
def SmP (w w':World) (l:List ow) (e:Ending):Prop:=∃ b,e=Zr (.bool b)∧(b=true→l.length≤65536∧∀ x∈l,x.s.size≤65536)∧w'=w
section
variable {N:Nat} {w w':World} {g:Nat} {K K':Kw} {V V':Kv}
theorem Gi (l:List ow) (v:Value) (hS:Scr w v l) (hz:∀ x∈l,x.s.size≤1000000000000000) :
  Calls Tryz.prog 6 #[v] w fun e w'=>SmP w w' l e:=by
 obtain⟨a,cap,rfl,hcap,hm⟩:=hS.shape
 have HSc:=ah hS;have HZ:Hid (∀ (k:Nat) (hk:k<l.length),(l[k]).s.size≤1000000000000000):=fun k hk=>hz _ (List.getElem_mem hk)
 clear hS hz;by_cases hl:(65536:Int)<(l.length:Int)
 ·have HN:Hid (SmP w w l (Zr (.bool false))):=⟨false,rfl,fun h=>by simp at h,rfl⟩
  go_enter Tryz.func6,Tryz.ntmps6;go_wp2;go_ret;exact HN.out
 ·have HN:Hid (SmP w w l (Zr (.bool false))):=⟨false,rfl,fun h=>by simp at h,rfl⟩
  go_enter Tryz.func6,Tryz.ntmps6;go_wp2_with fail;go_loopw [3,4] (fun m i wr=>∃ k c:Nat,k≤l.length∧c≤65536∧i=I J k∧m=I J c∧(∀ j (hj:j<l.length),j<k→(l[j]).s.size≤65536)∧wr=w) (fun _ i _=>l.length-(intOf i).toNat)
  case atStart=>exact⟨0,l.length,Nat.zero_le _,by omega,rfl,rfl,fun j hj h=>by omega,rfl⟩
  case round =>
   obtain⟨k,c,hk,hc,rfl,rfl,hall,hbw⟩:=hrel
   subst hbw;have HAll:=ah hall;clear hall;by_cases hlt:k<l.length
   ·obtain⟨b1,o1,rfl,_,_,_,_,_,d5⟩:=HSc.out.get k hlt
    have j1:(0:Int)≤(k:Int):=by omega
    have j2:(k:Int)<(l.length:Int):=by omega
    have hz:=HZ.out k hlt;have HStep:Hid ((l[k]).s.size≤65536→∀ j (hj:j<l.length),j<k+1→(l[j]).s.size≤65536):=fun hs j hj hjk=>by
     by_cases e:j=k
     ·subst e;exact hs
     ·exact HAll.out j hj (by omega)
    have HN2:Hid (SmP wr wr l (Zr (.bool false))):=⟨false,rfl,fun h=>by simp at h,rfl⟩
    generalize (l[k]).s=ss at *;by_cases hgt:(65536:Int)<(c:Int)+(ss.size:Int)
    ·go_wp2;go_ret;exact HN2.out
    ·go_wp2;go_roundw
     case rel=>exact⟨k+1,c+ss.size,by omega,by omega,by go_num,by rw[show ((c+ss.size:Nat):Int)=(c:Int)+(ss.size:Int) by omega],HStep.out (by omega),trivial⟩
     case measure=>simp[intOf];omega
   ·have HY:Hid (SmP wr wr l (Zr (.bool true))):=⟨true,rfl,fun _=>⟨by omega,fun x hx=>by
     obtain⟨j,hj,rfl⟩:=List.mem_iff_getElem.1 hx
     exact HAll.out j hj (by omega)⟩,rfl⟩
    go_wp2;go_ret;exact HY.out
def MB:Nat→Nat
 | 0=>208000000000
 | k+1=>MB k+150000
theorem Ka {m:Nat} (h:m≤208000000000):∀ k:Nat,m≤MB k
 | 0=>h
 | k+1=>Nat.le_trans (Ka h k) (Nat.le_add_right _ _)
theorem MB_up {m m' k:Nat} (h:m≤MB k) (h':m'≤m+150000):m'≤MB (k+1):=Nat.le_trans h' (Nat.add_le_add_right h 150000)
theorem N9:∀ k:Nat,MB k=150000*k+208000000000
 | 0=>rfl
 | k+1=>by
  have:=N9 k
  show MB k+150000=_
  omega
theorem MB_hi {m k:Nat} (h:m≤MB k) (hk:k≤65536):m+200000≤900000000000:=by
 rw[N9] at h;omega
def UpP (w w':World) (e:Ending):Prop:=e=Zr (I J (-1))∧Below w.heap.size w w'
theorem Jj (l:List ow) (v:Value) (held:Int) (hS:Scr w v l) (hT:Tab w) (h0:0<w.heap.size) (hl:l.length≤65536) (hz:∀ x∈l,x.s.size≤65536) (ho:∀ x∈l,qx x) (hh:held=2∨held=4∨held=8∨held=16) :
  Calls Tryz.prog 8 #[v,I J held] w fun e w'=>UpP w w' e:=by
 obtain⟨a,cap,rfl,hcap,hm⟩:=hS.shape
 have HSc:=ah hS;have HZ:Hid (∀ (k:Nat) (hk:k<l.length),(l[k]).s.size≤65536∧qx l[k]):=fun k hk=>⟨hz _ (List.getElem_mem hk),ho _ (List.getElem_mem hk)⟩
 have HC0:=ah (uJ (N:=w.heap.size) 3 ⟨#[48,49,50]⟩ w hT h0 (Nat.le_refl _) (by omega) (by omega) (by decide))
 have HCl:Hid (∀ (w2:World) (n:Nat) (s:ByteArray),Below w.heap.size w w2→3≤n→n≤7→s.size≤65536→Calls Tryz.prog 12 #[I J n,Z s] w2 fun e w'=>ClP w.heap.size w2 w' n e):=fun w2 n s hw2 h3 h7 hs=>uJ n s w2 (hT.below hw2) h0 hw2.size h3 h7 (by omega)
 clear hS hT hz ho;go_enter Tryz.func8,Tryz.ntmps8;go_wp2_with fail;refine HC0.out.mono ?_;rintro e w1 ⟨g,K,V,rfl,hA,hi,gr,hn,hms,hb1⟩;have HS1:Hid (KAt w.heap.size w1 g K V∧KI K∧Gr K∧dI K≤MB 0):=⟨hA,hi,gr,Ka hms 0⟩
 clear hA hi gr hn hms HC0;go_wp2_with fail;go_loopw [5,6] (fun p i wr=>∃ (k g:Nat) (K:Kw) (V:Kv),k≤l.length∧i=I J k∧p=Zp (some ⟨g,0,O⟩)∧(KAt w.heap.size wr g K V∧KI K∧Gr K∧dI K≤MB k)∧Below w.heap.size w wr) (fun _ i _=>l.length-(intOf i).toNat)
 case atStart=>exact⟨0,g,K,V,Nat.zero_le _,rfl,rfl,HS1.out,hb1⟩
 case round =>
  obtain⟨k,g2,K2,V2,hk,rfl,rfl,hS2,hbw⟩:=hrel
  have HS2:=ah hS2;clear hS2;by_cases hlt:k<l.length
  ·obtain⟨b1,o1,rfl,_,d0,d1,d2,d3,d4⟩:=(HSc.out.below hbw).get k hlt
   have j1:(0:Int)≤(k:Int):=by omega
   have j2:(k:Int)<(l.length:Int):=by omega
   obtain⟨hs6,⟨ha0,ha1⟩,⟨hb0,hb1'⟩,⟨hc0,hc1⟩⟩:=HZ.out k hlt
   have HD:Hid (∀ w2,Below w.heap.size w w2→w2.cell? ⟨b1,o1+k*5+4,O⟩=some (Z l[k].s)):=fun w2 hw2=>by
    obtain⟨b3,o3,e3,_,_,_,_,_,f4⟩:=(HSc.out.below hw2).get k hlt
    cases e3;exact f4
   generalize l[k].kd=kd at *;generalize l[k].a=xa at *;generalize l[k].b=xb at *;generalize l[k].c=xc at *;generalize l[k].s=xs at *;by_cases h1:kd=1
   ·subst h1;obtain⟨k5,hk5,hke⟩:=eF xa 5 (by omega)
    have HP:Hid (∀ w2,Calls Tryz.prog 13 #[I J xa,I J 5] w2 fun e w'=>e=Zr (I J (k5:Int))∧w'=w2):=fun w2=>by
     have:=dH xa 5 w2 ha0 ha1 (by omega) (by omega)
     rw[← hke];exact this
    have HQ:=ah (HCl.out wr (3+k5) xs hbw (by omega) (by omega) hs6)
    rw[show ((3+k5:Nat):Int)=3+(k5:Int) by omega] at HQ
    clear hke;go_wp2_with fail;refine (HP.out _).mono ?_;rintro e w3 ⟨rfl,hw3⟩;subst hw3;go_wp2_with fail;refine HQ.out.mono ?_;rintro e w4 ⟨g4,K4,V4,rfl,hA4,hi4,gr4,hn4,hms4,hb4⟩;have HS4:Hid (KAt w.heap.size w4 g4 K4 V4∧KI K4∧Gr K4∧dI K4≤MB (k+1)):=⟨hA4,hi4,gr4,Ka hms4 _⟩
    have w4x:=hbw.trans (hb4.mono hbw.size);clear hA4 hi4 gr4 hn4 hms4 hb4;go_wp2;go_roundw
    case rel=>exact⟨k+1,g4,K4,V4,by omega,by go_num,rfl,HS4.out,w4x⟩
    case measure=>simp[intOf];omega
   ·have h1':(kd==1)=false:=beq_eq_false_iff_ne.2 h1
    have HQ:=ah (Jm HS2.out.1 HS2.out.2.1 HS2.out.2.2.1 kd xa xb xc xs ha0 ha1 hb0 hb1' hc0 hc1 (by omega) (MB_hi HS2.out.2.2.2 (by omega)))
    clear h1;go_wp2_with fail;refine HQ.out.mono ?_;rintro e w4 ⟨b4,K4,V4,rfl,k4,ki4,ms4,n4,gr4⟩;have w4x:Below w.heap.size w w4:=qY hbw k4.kp HS2.out.1.MV
    have hpt:=ki4.part;have c0:w4.cell? ⟨g2,0,O⟩=some (I J K4.part):=k4.at_.cell 0
    cases b4
    ·have HF:Hid (UpP w w4 (Zr (I J (-1)))):=⟨rfl,w4x⟩
     clear k4 ki4 ms4 n4 gr4 HQ;generalize K4.part=pt at *;unfold sV at hpt;rcases hh with rfl|rfl|rfl|rfl <;> rcases hpt with rfl|rfl|rfl
     all_goals go_wp2
     all_goals go_ret
     all_goals exact HF.out
    ·have HS4:Hid (KAt w.heap.size w4 g2 K4 V4∧KI K4∧Gr K4∧dI K4≤MB (k+1)):=⟨k4.at_,ki4,gr4 rfl,MB_up HS2.out.2.2.2 ms4⟩
     clear k4 ki4 ms4 n4 gr4 HQ c0 hpt;go_wp2;go_roundw
     case rel=>exact⟨k+1,g2,K4,V4,by omega,by go_num,rfl,HS4.out,w4x⟩
     case measure=>simp[intOf];omega
  ·have HF:Hid (UpP w wr (Zr (I J (-1)))):=⟨rfl,hbw⟩
   go_wp2;go_ret;exact HF.out
end
section
variable {N:Nat} {w w':World} {g:Nat} {K K':Kw} {V V':Kv}
def AlP (w w':World) (e:Ending):Prop:=e=Zr (.bool true)∧Below w.heap.size w w'
theorem zK (l:List ow) (v:Value) (held:Int) (hS:Scr w v l) (hT:Tab w) (h0:0<w.heap.size) (hz:∀ x∈l,x.s.size≤1000000000000000) (ho:∀ x∈l,qx x) (hh:held=2∨held=4∨held=8∨held=16) (hal:Calls Tryz.prog 7 #[] w fun e w'=>AlP w w' e) :
  Calls Tryz.prog 5 #[v,I J held] w fun e w'=>AlP w w' e:=by
 obtain⟨a,cap,rfl,hcap,hm⟩:=hS.shape
 have HSm:=ah (Gi l _ hS hz);have HAl:=ah hal;have HUp:Hid (∀ w2,Below w.heap.size w w2→l.length≤65536→(∀ x∈l,x.s.size≤65536)→Calls Tryz.prog 8 #[Y a l.length cap,I J held] w2 fun e w'=>UpP w2 w' e):=fun w2 hw2 hl hs=>Jj l _ held (hS.below hw2) (hT.below hw2) (by have:=hw2.size;omega) hl hs ho hh
 clear hS hT hz ho hh hal;go_enter Tryz.func5,Tryz.ntmps5;go_wp2_with fail;refine HSm.out.mono ?_;rintro e w1 ⟨b1,rfl,hb1,hw1⟩;subst hw1;cases b1
 ·have HF:Hid (AlP w1 w1 (Zr (.bool true))):=⟨rfl,Below.refl _ _⟩
  clear hb1;go_wp2;go_ret;exact HF.out
 ·have HB:=ah (hb1 rfl);clear hb1;go_wp2_with fail;refine HAl.out.mono ?_;rintro e w2 ⟨rfl,hb2⟩;have HU:=ah (HUp.out _ hb2 HB.out.1 HB.out.2);go_wp2_with fail;refine HU.out.mono ?_;rintro e w3 ⟨rfl,hb3⟩;have HF:Hid (AlP w1 w3 (Zr (.bool true))):=⟨rfl,hb2.trans (hb3.mono hb2.size)⟩
  go_wp2;go_ret;exact HF.out
theorem vU (l:List ow) (v:Value) (hS:Scr w v l) (hT:Tab w) (h0:0<w.heap.size) (hz:∀ x∈l,x.s.size≤1000000000000000) (ho:∀ x∈l,qx x) (hal:Calls Tryz.prog 7 #[] w fun e w'=>AlP w w' e) :
  Calls Tryz.prog 3 #[v] w fun e w'=>AlP w w' e:=by
 obtain⟨a,cap,rfl,hcap,hm⟩:=hS.shape
 have HP:=ah (zK l _ 4 hS hT h0 hz ho (by omega) hal)
 clear hS hT hz ho hal;go_enter Tryz.func3,Tryz.ntmps3;go_wp2_with fail;refine HP.out.mono ?_;rintro e w1 ⟨rfl,hb1⟩;have HF:Hid (AlP w w1 (Zr (.bool true))):=⟨rfl,hb1⟩
 go_wp2;go_ret;exact HF.out
theorem FR (l:List ow) (v:Value) (hS:Scr w v l) (hT:Tab w) (h0:0<w.heap.size) (hz:∀ x∈l,x.s.size≤1000000000000000) (ho:∀ x∈l,qx x) (hal:Calls Tryz.prog 7 #[] w fun e w'=>AlP w w' e) :
  Calls Tryz.prog 4 #[v] w fun e w'=>AlP w w' e:=by
 obtain⟨a,cap,rfl,hcap,hm⟩:=hS.shape
 have HP:=ah (zK l _ 16 hS hT h0 hz ho (by omega) hal)
 clear hS hT hz ho hal;go_enter Tryz.func4,Tryz.ntmps4;go_wp2_with fail;refine HP.out.mono ?_;rintro e w1 ⟨rfl,hb1⟩;have HF:Hid (AlP w w1 (Zr (.bool true))):=⟨rfl,hb1⟩
 go_wp2;go_ret;exact HF.out
end
section
section
variable {N:Nat} {w w':World} {g:Nat} {K K':Kw} {V V':Kv}
open Al
theorem ND:Ok RA∧Rp.SvI RA∧RA.out=[]∧Ok Al.RB∧Rp.SvI Al.RB∧Al.RB.out=[]∧Ok RA2∧Rp.SvI RA2:=by
 have hg:aV G3.data.toList 3=true:=by decide
 have h1:=GA (id:=0) (n:=3) (s:=G3) (by decide) hg
 have h2:=GA (id:=1) (n:=3) (s:=G3) (by decide) hg
 have hE:jd 3 EN:=⟨by decide,by decide,by decide,by decide,by decide,by decide⟩
 refine⟨h1,rfl,rfl,h2,rfl,rfl,?_,rfl⟩
 exact⟨h1.n3,h1.n7,h1.i0,h1.i1,h1.ll,h1.lb,h1.st,h1.ep,h1.vi,h1.no,h1.g,h1.o,by decide,fun e he=>by simp[RA2] at he;subst he;exact hE,by decide,h1.vo,h1.vn,h1.an,h1.nn⟩
theorem zG (hT:Tab w) (h0:0<w.heap.size):Calls Tryz.prog 7 #[] w fun e w'=>AlP w w' e:=by
 obtain⟨oA,sA,uA,oB,sB,uB,oA2,sA2⟩:=ND
 have hg:aV (⟨#[48,49,50]⟩:ByteArray).data.toList 3=true:=by decide
 have HN0:=ah (nR 0 3 ⟨#[48,49,50]⟩ w hT (by decide) (by decide) hg h0)
 have HN1:Hid (∀ w2,Below w.heap.size w w2→Calls Tryz.prog 9 #[I J 1,I J 3,Z ⟨#[48,49,50]⟩] w2 fun e w'=>Cx w2 w' e (Rp.new 1 3 (dA ⟨#[48,49,50]⟩))):=fun w2 hw2=>nR 1 3 ⟨#[48,49,50]⟩ w2 (hT.below hw2) (by decide) (by decide) hg (by have:=hw2.size;omega)
 clear hT hg;go_enter Tryz.func7,Tryz.ntmps7;go_wp2_with fail;refine HN0.out.mono ?_;rintro e w1 ⟨bx,lx,Wx,Fx,Vx,rfl,hx,hvx,hfx,hb1⟩;have HX1:Hid (ay w1 bx lx Wx Fx RA Vx):=hx
 clear hx;go_wp2_with fail;refine (HN1.out _ hb1).mono ?_;rintro e w2 ⟨by_,ly,Wy,Fy,Vy,rfl,hy,hvy,hfy,hb2⟩;have HY2:Hid (ay w2 by_ ly Wy Fy Al.RB Vy):=hy
 have HX2:=ah (HX1.out.below hb2);have w2x:=hb1.trans (hb2.mono hb1.size);have HTk1:=ah (rV HX2.out oA sA uA hvx Q1);clear hy;go_wp2_with fail;refine HTk1.out.mono ?_;rintro e w3 ⟨R1,hR1,vt1,W1,F1,V1,rfl,hP1⟩;obtain rfl:=tk1 hR1;have hxl:∀ y∈Fx,y<w1.heap.size:=HX1.out.fl
 have hsz1:=hb1.size;have hsz2:=hb2.size;have hWF:∀ y∈Wx,y∈Fx:=HX1.out.wf
 have hWFy:∀ y∈Wy,y∈Fy:=HY2.out.wf
 have hyl:∀ y∈Fy,y<w2.heap.size:=HY2.out.fl
 have HY3:Hid (ay w3 by_ ly Wy Fy Al.RB Vy):=HY2.out.far hP1.kp (fun z hz hc=>by have:=hxl z (hWF z hz);have:=hfy z hc;omega) (fun hc=>HX1.out.t0 (hWF 0 hc))
 have HX3:Hid (ay w3 bx lx W1 F1 RA2 V1):=hP1.rp
 have hvx1:=hP1.vt0;have w3x:Below w.heap.size w w3:=qY w2x hP1.kp (fun z hz=>hfx z (hWF z hz))
 have hO1:yG w3 vt1 [(1,T1),(2,T1)]:=Rd.bR hP1.out
 have HF1g:Hid (∀ y∈F1,y∈Fx∨w2.heap.size≤y):=hP1.g
 have hW1F:∀ y∈W1,y∈F1:=hP1.rp.wf
 have hs3:=hP1.kp.size;obtain⟨a1,c1,rfl⟩:∃ a c,vt1=Y a 2 c:=by
  obtain⟨a,c,e,_⟩:=Rd.form hO1
  exact⟨a,c,e⟩
 obtain⟨bo,oo,rfl,_,p1,p2⟩:=hO1.get 0 (by decide)
 simp only[Nat.zero_mul,Nat.add_zero,List.getElem_cons_zero] at p1 p2;clear hP1 hR1 hO1;have HTk2:=ah (rV HY3.out oB sB uB hvy T1);go_wp2_with fail;refine HTk2.out.mono ?_;rintro e w4 ⟨R2,hR2,vt2,W2,F2,V2,rfl,hP2⟩;have hout2:=tk2 hR2;have HX4:Hid (ay w4 bx lx W1 F1 RA2 V1):=HX3.out.far hP2.kp (fun z hz hc=>by
  have h1:=hyl z (hWFy z hz);have h2:=hfy z (hWFy z hz);rcases HF1g.out z hc with q|q
  ·have:=hxl z q;omega
  ·omega) (fun hc=>HY2.out.t0 (hWFy 0 hc))
 have w4x:Below w.heap.size w w4:=qY w3x hP2.kp (fun z hz=>by have:=hfy z (hWFy z hz);omega)
 have hO2:yG w4 vt2 R2.out:=Rd.bR hP2.out
 rw[hout2] at hO2;obtain⟨a2,c2,rfl⟩:∃ a c,vt2=Y a 1 c:=by
  obtain⟨a,c,e,_⟩:=Rd.form hO2
  exact⟨a,c,e⟩
 obtain⟨bp,op,rfl,_,q1,q2⟩:=hO2.get 0 (by decide)
 simp only[Nat.zero_mul,Nat.add_zero,List.getElem_cons_zero] at q1 q2;clear hP2 hR2 hO2 p1 p2 hout2;have HTk3:=ah (rV HX4.out oA2 sA2 rfl hvx1 T2);go_wp2_with fail;refine HTk3.out.mono ?_;rintro e w5 ⟨R3,hR3,vt3,W3,F3,V3,rfl,hP3⟩;obtain⟨hout3,hval⟩:=tk3 hR3
 have w5x:Below w.heap.size w w5:=qY w4x hP3.kp (fun z hz=>by
  rcases HF1g.out z (hW1F z hz) with q|q
  ·exact hfx z q
  ·omega)
 have hO3:yG w5 vt3 R3.out:=Rd.bR hP3.out
 rw[hout3] at hO3;obtain⟨a3,c3,rfl⟩:∃ a c,vt3=Y a 1 c:=by
  obtain⟨a,c,e,_⟩:=Rd.form hO3
  exact⟨a,c,e⟩
 obtain⟨bq,oq,rfl,_,r1,r2⟩:=hO3.get 0 (by decide)
 simp only[Nat.zero_mul,Nat.add_zero,List.getElem_cons_zero] at r1 r2;have HV:Hid (Calls Tryz.prog 11 #[Zp (some ⟨bx,0,O⟩),I .u8 97] w5 fun e w'=>e=Zr (Z ⟨#[53]⟩)∧w'=w5):=by
  have:=Ci hP3.rp 97 (by omega) (by omega)
  have e:vI ({ R3 with out:=[] }:Rp).sv 97=⟨#[53]⟩:=hval
  rw[e] at this;exact this
 clear hP3 hR3 hO3 q1 q2 hout3 hval;have HF:Hid (AlP w w5 (Zr (.bool true))):=⟨rfl,w5x⟩
 go_wp2_with fail;refine HV.out.mono ?_;rintro e w6 ⟨rfl,hw6⟩;subst hw6;go_wp2;go_ret;exact HF.out
end
end
section
open Go.RowKit Go.ChangeShapes Go.WideShapes Go.ChangeAt
theorem Tryz.tyTab:(Tryz.prog.globals[0]?).map (·.type)=some 156:=by kernel_rfl
theorem Ml {W:World} (h:laidMetH Tryz.prog Rows.nothingLostRow.laid W):Tab W:=by
 rw[MakeChecks.laidMetH_plain _ _ _ (by kernel_rfl)] at h
 obtain⟨ps,⟨g0,t0,cs0,f0,p0,q0,hg0,ht0,hv0,hd0,⟨g1,t1,cs1,f1,p1,q1,hg1,ht1,hv1,hd1,⟨g2,t2,cs2,f2,p2,q2,hg2,ht2,hv2,hd2,h3,rfl⟩,rfl⟩,rfl⟩,hnd,hal⟩:=h
 have h3:q2=[]:=h3
 subst h3;refine Lib.tabIs_of_head (rest:=[]) Tryz.gTab Tryz.tyTab Tryz.underlying156 Tryz.underlying149 (by kernel_rfl) (by kernel_rfl) ⟨_,⟨g2,t2,cs2,f2,p2,[],hg2,ht2,hv2,?_,rfl,rfl⟩,?_,fun b off hm=>hal b off ?_⟩
 ·exact hd2
 ·exact (List.nodup_append.1 (List.nodup_append.1 hnd).2.1).2.1
 ·exact List.mem_append.2 (.inr (List.mem_append.2 (.inr hm)))
theorem sJ {w:World} {b:Nat}:∀ (l:List ow) (off:Nat),(∀ (i:Nat) (h:i<l.length),w.cell? ⟨b,off+i*5,O⟩=some (I J l[i].kd)∧w.cell? ⟨b,off+i*5+1,O⟩=some (I J l[i].a)∧w.cell? ⟨b,off+i*5+2,O⟩=some (I J l[i].b)∧w.cell? ⟨b,off+i*5+3,O⟩=some (I J l[i].c)∧w.cell? ⟨b,off+i*5+4,O⟩=some (Z l[i].s)) →
  ∀ (j:Nat) (u:Value),(fZ l)[j]? = some u→w.cell? ⟨b,off+j,O⟩=some u
 | [],_,_,j,u,h=>by simp[fZ] at h
 | x :: l,off,hc,j,u,h=>by
  have h0:=hc 0 (by simp)
  simp only[Nat.zero_mul,Nat.add_zero,List.getElem_cons_zero] at h0
  match j,h with
  | 0,h=>simp only[fZ,List.getElem?_cons_zero,Option.some.injEq] at h;subst h;exact h0.1
  | 1,h=>simp only[fZ,List.getElem?_cons_succ,List.getElem?_cons_zero,Option.some.injEq] at h;subst h;exact h0.2.1
  | 2,h=>simp only[fZ,List.getElem?_cons_succ,List.getElem?_cons_zero,Option.some.injEq] at h;subst h;exact h0.2.2.1
  | 3,h=>simp only[fZ,List.getElem?_cons_succ,List.getElem?_cons_zero,Option.some.injEq] at h;subst h;exact h0.2.2.2.1
  | 4,h=>simp only[fZ,List.getElem?_cons_succ,List.getElem?_cons_zero,Option.some.injEq] at h;subst h;exact h0.2.2.2.2
  | j+5,h =>
   have:=sJ l (off+5) (fun i hi=>by
    have q:=hc (i+1) (by simpa using hi)
    simp only[List.getElem_cons_succ] at q;rw[show off+(i+1)*5=off+5+i*5 by omega] at q
    exact q) j u (by simpa only[fZ,List.getElem?_cons_succ] using h)
   rw[show off+(j+5)=off+5+j by omega]
   exact this
theorem Px {H:Type} {enc:TypeId×Value→H} {W:World} {n:Nat} {cs:List Value} {x:DataW H×List MemPlace} (h:DataW.trod enc Tryz.prog W 0 (fun _=>true) true n 28 cs=some x) :
  ∃ y:ow,cs=[I J y.kd,I J y.a,I J y.b,I J y.c,Z y.s]∧qx y∧∃ d0 d1 d2 d3,x.1=.agg [d0,d1,d2,d3,.lit (.string y.s.data.toList)]:=by
 obtain⟨xs,k,rfl,rfl,hl,hxl,hf⟩:=DataW.trod_struct Tryz.underlying28 h
 have c5:Tryz.prog.cellsOf 28=5:=by kernel_rfl
 have c1:Tryz.prog.cellsOf 3=1:=by kernel_rfl
 have cS:Tryz.prog.cellsOf 9=1:=by kernel_rfl
 rw[c5] at hl
 match cs,hl,xs,hxl with
 | [v0,v1,v2,v3,v4],_,[y0,y1,y2,y3,y4],_ =>
  have g0:DataW.trod enc Tryz.prog W 0 (fun _=>true) true k 3 (([v0,v1,v2,v3,v4].drop 0).take (Tryz.prog.cellsOf 3))=some y0:=hf 0 _ rfl
  have g1:DataW.trod enc Tryz.prog W 0 (fun _=>true) true k 3 (([v0,v1,v2,v3,v4].drop 1).take (Tryz.prog.cellsOf 3))=some y1:=hf 1 _ rfl
  have g2:DataW.trod enc Tryz.prog W 0 (fun _=>true) true k 3 (([v0,v1,v2,v3,v4].drop 2).take (Tryz.prog.cellsOf 3))=some y2:=hf 2 _ rfl
  have g3:DataW.trod enc Tryz.prog W 0 (fun _=>true) true k 3 (([v0,v1,v2,v3,v4].drop 3).take (Tryz.prog.cellsOf 3))=some y3:=hf 3 _ rfl
  have g4:DataW.trod enc Tryz.prog W 0 (fun _=>true) true k 9 (([v0,v1,v2,v3,v4].drop 4).take (Tryz.prog.cellsOf 9))=some y4:=hf 4 _ rfl
  rw[c1] at g0 g1 g2 g3;rw[cS] at g4;simp only[List.drop_zero,List.drop_succ_cons,List.take_succ_cons,List.take_zero] at g0 g1 g2 g3 g4;obtain⟨k0,e0,r0,b0⟩:=DataW.trod_int Tryz.underlying3 g0
  obtain⟨k1,e1,r1,b1⟩:=DataW.trod_int Tryz.underlying3 g1
  obtain⟨k2,e2,r2,b2⟩:=DataW.trod_int Tryz.underlying3 g2
  obtain⟨k3,e3,r3,b3⟩:=DataW.trod_int Tryz.underlying3 g3
  obtain⟨s,e4,r4,b4⟩:=DataW.trod_string Tryz.underlying9 g4
  simp only[List.cons.injEq,and_true] at e0 e1 e2 e3 e4;subst e0 e1 e2 e3 e4;refine⟨⟨k0,k1,k2,k3,s⟩,rfl,?_,y0.1,y1.1,y2.1,y3.1,?_⟩
  ·simp only[Lit.wf,Bool.and_eq_true,decide_eq_true_eq] at b1 b2 b3;exact⟨b1,b2,b3⟩
  ·rw[r4];rfl
theorem MC {H:Type} {P:Program} {e:TypeId} {d:DataW H} {n:Nat} (h:n∈d.weights P e):∀ {l:List (DataW H)},d∈l→n∈DataW.weightsAll P e l
 | [],q=>by cases q
 | x :: r,q=>by
  rw[DataW.weightsAll];rcases List.mem_cons.1 q with rfl|q
  ·exact List.mem_append.2 (.inl h)
  ·exact List.mem_append.2 (.inr (MC h q))
theorem JI {H:Type} (d0 d1 d2 d3:DataW H) (s:List UInt8):s.length∈DataW.weights Tryz.prog 28 (.agg [d0,d1,d2,d3,.lit (.string s)]):=by
 rw[DataW.weights,Tryz.underlying28];simp[DataW.weightsEach,DataW.weights]
theorem Dz {H:Type} {l r:List (DataW H)} {d:DataW H} {n:Nat} (h:n∈d.weights Tryz.prog 28) (hd:d∈l):n∈DataW.weights Tryz.prog 22 (.slice l r):=by
 rw[DataW.weights,Tryz.underlying22];exact List.mem_cons.2 (.inr (List.mem_append.2 (.inl (MC h hd))))
theorem zW {H:Type} {V:List TypeId} {d:DataW H} {n:Nat} (hw:(DataW.weightsEach Tryz.prog (#[22].toList++V) ([d]++[])).all (·≤reachBytes)=true) (hn:n∈d.weights Tryz.prog 22):n≤1000000000000000:=by
 have e:DataW.weightsEach Tryz.prog (#[22].toList++V) ([d]++[])=d.weights Tryz.prog 22++DataW.weightsEach (H:=H) Tryz.prog V []:=by
  show DataW.weightsEach Tryz.prog (22 :: V) (d :: [])=_
  rw[DataW.weightsEach]
 rw[e] at hw;have:=of_decide_eq_true (List.all_eq_true.1 hw n (List.mem_append.2 (.inl hn)))
 unfold reachBytes at this;omega
theorem lt_of_cell {W:World} {a:Addr} {u:Value} (h:W.cell? a=some u):a.block<W.heap.size:=by
 rcases Nat.lt_or_ge a.block W.heap.size with q|q
 ·exact q
 ·unfold World.cell? at h;rw[Array.getElem?_eq_none q] at h
  split at h <;> simp_all
theorem LV {H:Type} {enc:TypeId×Value→H} {W:World} {n:Nat} {v:Value} {x:DataW H×List MemPlace} (h:DataW.trod enc Tryz.prog W 0 (fun _=>true) true n 22 [v]=some x) :
  ∃ l,Scr W v l∧(∀ y∈l,qx y)∧(∀ y∈l,y.s.size∈x.1.weights Tryz.prog 22):=by
 have c5:Tryz.prog.cellsOf 28=5:=by kernel_rfl
 rcases Deep.open_slice Tryz.underlying22 h with ⟨hcs,rfl⟩|⟨a,len,cap,m,k,D,Pl,hcs,hb,hl,hm,hmm,rfl,hel⟩
 ·simp only[List.cons.injEq,and_true] at hcs;subst hcs;exact⟨[],⟨⟨O,0,rfl,by simp,by simp⟩,fun q=>by simp at q⟩,by simp,by simp⟩
 ·simp only[List.cons.injEq,and_true] at hcs;subst hcs;simp only[if_true] at hmm;subst hmm;unfold maxLen at hm;rw[c5] at hel;have each:∀ i,i<len→∃ y:ow,(W.cell? (a.add (i*5))=some (I J y.kd)∧W.cell? (a.add (i*5+1))=some (I J y.a)∧W.cell? (a.add (i*5+2))=some (I J y.b)∧W.cell? (a.add (i*5+3))=some (I J y.c)∧W.cell? (a.add (i*5+4))=some (Z y.s))∧qx y∧∃ d0 d1 d2 d3,D i=.agg [d0,d1,d2,d3,.lit (.string y.s.data.toList)]:=by
   intro i hi;obtain⟨cs',h1,h2⟩:=hel i (by omega)
   obtain⟨_,hlen,hcell⟩:=World.cells?_some h1
   obtain⟨y,rfl,hok,hd⟩:=Px h2
   refine⟨y,⟨?_,?_,?_,?_,?_⟩,hok,hd⟩
   ·have:=hcell 0 (by omega);rw[Deep.add_add] at this;simpa using this
   ·have:=hcell 1 (by omega);rw[Deep.add_add] at this;simpa using this
   ·have:=hcell 2 (by omega);rw[Deep.add_add] at this;simpa using this
   ·have:=hcell 3 (by omega);rw[Deep.add_add] at this;simpa using this
   ·have:=hcell 4 (by omega);rw[Deep.add_add] at this;simpa using this
  by_cases hz:len=0
  ·subst hz;exact⟨[],⟨⟨some a,m,rfl,by simp,by omega⟩,fun q=>by simp at q⟩,by simp,by simp⟩
  ·obtain⟨b,off,spot⟩:=a
   obtain⟨y0,⟨hc0,_⟩,_⟩:=each 0 (by omega)
   have hspot:spot=O:=by simpa [Addr.add] using World.cell?_spot hc0
   subst hspot;have hbl:b<W.heap.size:=by simpa [Addr.add] using lt_of_cell hc0
   have hadd:∀ j,(⟨b,off,O⟩:Addr).add j=⟨b,off+j,O⟩:=fun j=>by unfold Addr.add;split <;> simp_all
   obtain⟨f,hf⟩:∃ f:Nat→ow,∀ i,i<len→(W.cell? ⟨b,off+i*5,O⟩=some (I J (f i).kd)∧W.cell? ⟨b,off+i*5+1,O⟩=some (I J (f i).a)∧W.cell? ⟨b,off+i*5+2,O⟩=some (I J (f i).b)∧W.cell? ⟨b,off+i*5+3,O⟩=some (I J (f i).c)∧W.cell? ⟨b,off+i*5+4,O⟩=some (Z (f i).s))∧qx (f i)∧∃ d0 d1 d2 d3,D i=.agg [d0,d1,d2,d3,.lit (.string (f i).s.data.toList)]:=by
    have each2:∀ i,i<len→∃ y:ow,(W.cell? ⟨b,off+i*5,O⟩=some (I J y.kd)∧W.cell? ⟨b,off+i*5+1,O⟩=some (I J y.a)∧W.cell? ⟨b,off+i*5+2,O⟩=some (I J y.b)∧W.cell? ⟨b,off+i*5+3,O⟩=some (I J y.c)∧W.cell? ⟨b,off+i*5+4,O⟩=some (Z y.s))∧qx y∧∃ d0 d1 d2 d3,D i=.agg [d0,d1,d2,d3,.lit (.string y.s.data.toList)]:=fun i hi=>by
     obtain⟨y,hc,r⟩:=each i hi
     simp only[hadd,← Nat.add_assoc] at hc;exact⟨y,hc,r⟩
    have tot:∀ i,∃ y:ow,i<len→((W.cell? ⟨b,off+i*5,O⟩=some (I J y.kd)∧W.cell? ⟨b,off+i*5+1,O⟩=some (I J y.a)∧W.cell? ⟨b,off+i*5+2,O⟩=some (I J y.b)∧W.cell? ⟨b,off+i*5+3,O⟩=some (I J y.c)∧W.cell? ⟨b,off+i*5+4,O⟩=some (Z y.s))∧qx y∧∃ d0 d1 d2 d3,D i=.agg [d0,d1,d2,d3,.lit (.string y.s.data.toList)]):=fun i=>by
     by_cases hi:i<len
     ·obtain⟨y,hy⟩:=each2 i hi
      exact⟨y,fun _=>hy⟩
     ·exact⟨⟨0,0,0,0,⟨#[]⟩⟩,fun h=>absurd h hi⟩
    exact⟨fun i=>Classical.choose (tot i),fun i hi=>Classical.choose_spec (tot i) hi⟩
   have hll:((List.range len).map f).length=len:=by simp
   refine⟨(List.range len).map f,⟨⟨some ⟨b,off,O⟩,m,by rw[hll],by omega,by omega⟩,fun _=>⟨?_,.inr ⟨b,off,m,by rw[hll],by omega,by unfold maxLen;omega,hbl,?_⟩⟩⟩,fun y hy=>?_,fun y hy=>?_⟩
   ·have:∀ l:List ow,(fZ l).length=l.length*5:=fun l=>by
     induction l with
     | nil=>rfl
     | cons a l ih=>simp only[fZ,List.length_cons,ih];omega
    exact this _
   ·exact sJ _ _ (fun i hi=>by
     have q:=(hf i (by omega)).1
     simp only[List.getElem_map,List.getElem_range];exact q)
   ·obtain⟨i,hi,rfl⟩:=List.mem_map.1 hy
    exact (hf i (List.mem_range.1 hi)).2.1
   ·obtain⟨i,hi,rfl⟩:=List.mem_map.1 hy
    obtain⟨d0,d1,d2,d3,hd⟩:=(hf i (List.mem_range.1 hi)).2.2
    have h3:(f i).s.data.toList.length=(f i).s.size:=by rw[Array.length_toList];rfl
    refine Dz (d:=D i) ?_ (List.mem_map.2 ⟨i,hi,rfl⟩);rw[hd,← h3];exact JI _ _ _ _ _
end
end Go.Proofs.YtbnihoahhomooaaGreatDoor
