import Derived.Test.YtajakaadgagejaaGreatDoorA43
import Derived.Test.YtajakaadgagejaaGreatDoorA45
set_option maxRecDepth 100000
set_option maxHeartbeats 8000000
set_option linter.unusedVariables false
set_option linter.unusedSimpArgs false
set_option linter.unusedSectionVars false
namespace Go.Proofs.YtajakaadgagejaaGreatDoor
open Go.Value renaming int→I,slice→Y,string→Z,pointer→Zp
open Go.Ending renaming returned→Zr
open _root_.ByteArray renaming empty→Ze
open Go.IntKind renaming i64→J
open Option renaming none→O
open Go.RowKit
section
variable {N:Nat} {w w':World} {g:Nat} {K K':Kw} {V V':Kv}
theorem StQ.rne {wr w2:World} {a c d m:Nat} {e:Ending} (L:Rn N w wr g K V a K' V') (h:StQ N wr w2 g K' V' c d e) (hm:a+c≤m):RnE N w w2 g K V m e:=by
 obtain⟨b,K2,V2,rfl,k,ki,ms,nl,n,gr⟩:=h
 exact⟨b,K2,V2,rfl,L.kst.trans k,ki,by have:=L.ms;omega,n.trans L.n,gr⟩
theorem dP (c:Int) (n:Nat) (hn:0<n):∃ k:Nat,k<n∧lK c n=(k:Int):=by
 have:=zQ c n hn
 exact⟨(lK c n).toNat,by omega,by omega⟩
theorem Ec (h:KAt N w g K V) (hi:KI K) (gr:Gr K) (A B C:Int) (S:ByteArray) (hA0 : -9223372036854775808≤A) (hA1:A≤9223372036854775807) (hB0 : -9223372036854775808≤B) (hB1:B≤9223372036854775807) (hC0 : -9223372036854775808≤C) (hC1:C≤9223372036854775807) (hS:S.size≤1000000) (hm:dA K+200000≤900000000000) :
  Calls Tryz.prog 14 #[Zp (some ⟨g,0,O⟩),.agg #[I J 6,I J A,I J B,I J C,Z S]] w fun e w'=>RnE N w w' g K V 150000 e:=by
 have z:=hi.sz;obtain⟨n,hn⟩:∃ n:Nat,K.n=n:=⟨K.n.toNat,by have:=z.n3;omega⟩
 have z3:=z.n3;have z1:=z.nds;have z7:=z.n7;rw[hn] at z1 z7 z3;have hb0:Below w.heap.size w (w.alloc (.cells #[I J 6,I J A,I J B,I J C,Z S] 28)):=(Below.refl _ w).alloc (Nat.le_refl _) _
 have hx:=heap_alloc_new w (.cells #[I J 6,I J A,I J B,I J C,Z S] 28);have hAt:=h.below hb0;have HL0:=ah ((Rn.refl h hi gr).below hb0);have c1:(w.alloc (.cells #[I J 6,I J A,I J B,I J C,Z S] 28)).cell? ⟨g,1,O⟩=some (I J n):=by rw[← hn];exact hAt.cell 1
 have b1:(w.alloc (.cells #[I J 6,I J A,I J B,I J C,Z S] 28)).cell? ⟨w.heap.size,1,O⟩=some (I J A):=(cell_of_row _ _ _ _ _ _ hx).trans rfl
 obtain⟨q,hqn,hqe⟩:=dP A n (by omega)
 have HP:Hid (∀ w2,Calls Tryz.prog 13 #[I J A,I J n] w2 fun e w'=>e=Zr (I J (q:Int))∧w'=w2):=fun w2=>by rw[← hqe];exact dz A n w2 hA0 hA1 (by omega) (by omega)
 have hKI:=ah hi;clear h hi gr z hAt hqe;go_enter Tryz.func14,Tryz.ntmps14;go_wp2_with fail;generalize w.alloc (.cells #[I J 6,I J A,I J B,I J C,Z S] 28)=wA at *;go_quiet ((go_at_call 13;exact Calls.quiet_of_same (HP.out _)))
 have HL:=ah (HL0.out.below (below_drewN (Below.refl _ _) nq));have hxB:(wA.drewN nq).heap[w.heap.size]? = some (.cells #[I J 6,I J A,I J B,I J C,Z S] 28):=((below_drewN (Below.refl wA.heap.size wA) nq).block _ (lt_of_block hx)).trans hx
 generalize wA.drewN nq=wB at *;clear hx hb0 c1 b1 HL0 HP;have HX:Hid (∀ w2,Below wB.heap.size wB w2→w2.heap[w.heap.size]? = some (.cells #[I J 6,I J A,I J B,I J C,Z S] 28)):=fun w2 hw2=>(hw2.block _ (lt_of_block hxB)).trans hxB
 have wBx:Below wB.heap.size wB wB:=Below.refl _ _
 clear hxB;have hql:q<K.nds.length:=by omega
 have b0:wB.cell? ⟨w.heap.size,0,O⟩=some (I J 6):=(cell_of_row _ _ _ _ _ _ (HX.out _ wBx)).trans rfl
 have b1:wB.cell? ⟨w.heap.size,1,O⟩=some (I J A):=(cell_of_row _ _ _ _ _ _ (HX.out _ wBx)).trans rfl
 have b2:wB.cell? ⟨w.heap.size,2,O⟩=some (I J B):=(cell_of_row _ _ _ _ _ _ (HX.out _ wBx)).trans rfl
 have b4:wB.cell? ⟨w.heap.size,4,O⟩=some (Z S):=(cell_of_row _ _ _ _ _ _ (HX.out _ wBx)).trans rfl
 have HA:Hid (Calls Tryz.prog 34 #[Zp (some ⟨g,0,O⟩),I J q,I J 1,Z ⟨#[]⟩] wB fun e w'=>RnE N w w' g K V 150000 e):=by
  refine (rJ HL.out.kst.at_ HL.out.ki HL.out.gr q hql ⟨#[]⟩ (by omega)).mono ?_
  intro e w2 hs;exact (HL.out.ste hs).le (by omega)
 go_wp2_with fail;refine HA.out.mono ?_;rintro e w9 ⟨b9,K9,V9,rfl,hS9⟩;go_wp2_with fail;go_ret;exact⟨b9,K9,V9,rfl,hS9⟩
theorem Ed (h:KAt N w g K V) (hi:KI K) (gr:Gr K) (A B C:Int) (S:ByteArray) (hA0 : -9223372036854775808≤A) (hA1:A≤9223372036854775807) (hB0 : -9223372036854775808≤B) (hB1:B≤9223372036854775807) (hC0 : -9223372036854775808≤C) (hC1:C≤9223372036854775807) (hS:S.size≤1000000) (hm:dA K+200000≤900000000000) :
  Calls Tryz.prog 14 #[Zp (some ⟨g,0,O⟩),.agg #[I J 7,I J A,I J B,I J C,Z S]] w fun e w'=>RnE N w w' g K V 150000 e:=by
 have z:=hi.sz;obtain⟨n,hn⟩:∃ n:Nat,K.n=n:=⟨K.n.toNat,by have:=z.n3;omega⟩
 have z3:=z.n3;have z1:=z.nds;have z7:=z.n7;rw[hn] at z1 z7 z3;have hb0:Below w.heap.size w (w.alloc (.cells #[I J 7,I J A,I J B,I J C,Z S] 28)):=(Below.refl _ w).alloc (Nat.le_refl _) _
 have hx:=heap_alloc_new w (.cells #[I J 7,I J A,I J B,I J C,Z S] 28);have hAt:=h.below hb0;have HL0:=ah ((Rn.refl h hi gr).below hb0);have c1:(w.alloc (.cells #[I J 7,I J A,I J B,I J C,Z S] 28)).cell? ⟨g,1,O⟩=some (I J n):=by rw[← hn];exact hAt.cell 1
 have b1:(w.alloc (.cells #[I J 7,I J A,I J B,I J C,Z S] 28)).cell? ⟨w.heap.size,1,O⟩=some (I J A):=(cell_of_row _ _ _ _ _ _ hx).trans rfl
 obtain⟨q,hqn,hqe⟩:=dP A n (by omega)
 have HP:Hid (∀ w2,Calls Tryz.prog 13 #[I J A,I J n] w2 fun e w'=>e=Zr (I J (q:Int))∧w'=w2):=fun w2=>by rw[← hqe];exact dz A n w2 hA0 hA1 (by omega) (by omega)
 have hKI:=ah hi;clear h hi gr z hAt hqe;go_enter Tryz.func14,Tryz.ntmps14;go_wp2_with fail;generalize w.alloc (.cells #[I J 7,I J A,I J B,I J C,Z S] 28)=wA at *;go_quiet ((go_at_call 13;exact Calls.quiet_of_same (HP.out _)))
 have HL:=ah (HL0.out.below (below_drewN (Below.refl _ _) nq));have hxB:(wA.drewN nq).heap[w.heap.size]? = some (.cells #[I J 7,I J A,I J B,I J C,Z S] 28):=((below_drewN (Below.refl wA.heap.size wA) nq).block _ (lt_of_block hx)).trans hx
 generalize wA.drewN nq=wB at *;clear hx hb0 c1 b1 HL0 HP;have HX:Hid (∀ w2,Below wB.heap.size wB w2→w2.heap[w.heap.size]? = some (.cells #[I J 7,I J A,I J B,I J C,Z S] 28)):=fun w2 hw2=>(hw2.block _ (lt_of_block hxB)).trans hxB
 have wBx:Below wB.heap.size wB wB:=Below.refl _ _
 clear hxB;have hql:q<K.nds.length:=by omega
 have b0:wB.cell? ⟨w.heap.size,0,O⟩=some (I J 7):=(cell_of_row _ _ _ _ _ _ (HX.out _ wBx)).trans rfl
 have b1:wB.cell? ⟨w.heap.size,1,O⟩=some (I J A):=(cell_of_row _ _ _ _ _ _ (HX.out _ wBx)).trans rfl
 have b2:wB.cell? ⟨w.heap.size,2,O⟩=some (I J B):=(cell_of_row _ _ _ _ _ _ (HX.out _ wBx)).trans rfl
 have b4:wB.cell? ⟨w.heap.size,4,O⟩=some (Z S):=(cell_of_row _ _ _ _ _ _ (HX.out _ wBx)).trans rfl
 have HA:Hid (Calls Tryz.prog 34 #[Zp (some ⟨g,0,O⟩),I J q,I J 2,Z ⟨#[]⟩] wB fun e w'=>RnE N w w' g K V 150000 e):=by
  refine (xQ HL.out.kst.at_ HL.out.ki HL.out.gr q hql ⟨#[]⟩ (by omega)).mono ?_
  intro e w2 hs;exact (HL.out.ste hs).le (by omega)
 go_wp2_with fail;refine HA.out.mono ?_;rintro e w9 ⟨b9,K9,V9,rfl,hS9⟩;go_wp2_with fail;go_ret;exact⟨b9,K9,V9,rfl,hS9⟩
theorem Ee (h:KAt N w g K V) (hi:KI K) (gr:Gr K) (A B C:Int) (S:ByteArray) (hA0 : -9223372036854775808≤A) (hA1:A≤9223372036854775807) (hB0 : -9223372036854775808≤B) (hB1:B≤9223372036854775807) (hC0 : -9223372036854775808≤C) (hC1:C≤9223372036854775807) (hS:S.size≤1000000) (hm:dA K+200000≤900000000000) :
  Calls Tryz.prog 14 #[Zp (some ⟨g,0,O⟩),.agg #[I J 8,I J A,I J B,I J C,Z S]] w fun e w'=>RnE N w w' g K V 150000 e:=by
 have z:=hi.sz;obtain⟨n,hn⟩:∃ n:Nat,K.n=n:=⟨K.n.toNat,by have:=z.n3;omega⟩
 have z3:=z.n3;have z1:=z.nds;have z7:=z.n7;rw[hn] at z1 z7 z3;have hb0:Below w.heap.size w (w.alloc (.cells #[I J 8,I J A,I J B,I J C,Z S] 28)):=(Below.refl _ w).alloc (Nat.le_refl _) _
 have hx:=heap_alloc_new w (.cells #[I J 8,I J A,I J B,I J C,Z S] 28);have hAt:=h.below hb0;have HL0:=ah ((Rn.refl h hi gr).below hb0);have c1:(w.alloc (.cells #[I J 8,I J A,I J B,I J C,Z S] 28)).cell? ⟨g,1,O⟩=some (I J n):=by rw[← hn];exact hAt.cell 1
 have b1:(w.alloc (.cells #[I J 8,I J A,I J B,I J C,Z S] 28)).cell? ⟨w.heap.size,1,O⟩=some (I J A):=(cell_of_row _ _ _ _ _ _ hx).trans rfl
 obtain⟨q,hqn,hqe⟩:=dP A n (by omega)
 have HP:Hid (∀ w2,Calls Tryz.prog 13 #[I J A,I J n] w2 fun e w'=>e=Zr (I J (q:Int))∧w'=w2):=fun w2=>by rw[← hqe];exact dz A n w2 hA0 hA1 (by omega) (by omega)
 have hKI:=ah hi;clear h hi gr z hAt hqe;go_enter Tryz.func14,Tryz.ntmps14;go_wp2_with fail;generalize w.alloc (.cells #[I J 8,I J A,I J B,I J C,Z S] 28)=wA at *;go_quiet ((go_at_call 13;exact Calls.quiet_of_same (HP.out _)))
 have HL:=ah (HL0.out.below (below_drewN (Below.refl _ _) nq));have hxB:(wA.drewN nq).heap[w.heap.size]? = some (.cells #[I J 8,I J A,I J B,I J C,Z S] 28):=((below_drewN (Below.refl wA.heap.size wA) nq).block _ (lt_of_block hx)).trans hx
 generalize wA.drewN nq=wB at *;clear hx hb0 c1 b1 HL0 HP;have HX:Hid (∀ w2,Below wB.heap.size wB w2→w2.heap[w.heap.size]? = some (.cells #[I J 8,I J A,I J B,I J C,Z S] 28)):=fun w2 hw2=>(hw2.block _ (lt_of_block hxB)).trans hxB
 have wBx:Below wB.heap.size wB wB:=Below.refl _ _
 clear hxB;have hql:q<K.nds.length:=by omega
 have b0:wB.cell? ⟨w.heap.size,0,O⟩=some (I J 8):=(cell_of_row _ _ _ _ _ _ (HX.out _ wBx)).trans rfl
 have b1:wB.cell? ⟨w.heap.size,1,O⟩=some (I J A):=(cell_of_row _ _ _ _ _ _ (HX.out _ wBx)).trans rfl
 have b2:wB.cell? ⟨w.heap.size,2,O⟩=some (I J B):=(cell_of_row _ _ _ _ _ _ (HX.out _ wBx)).trans rfl
 have b4:wB.cell? ⟨w.heap.size,4,O⟩=some (Z S):=(cell_of_row _ _ _ _ _ _ (HX.out _ wBx)).trans rfl
 have HA:Hid (Calls Tryz.prog 35 #[Zp (some ⟨g,0,O⟩),I J q] wB fun e w'=>e=Zr (.tuple #[])∧RnE N w w' g K V 150000 (Zr (.bool true))):=by
  refine (DT HL.out.kst.at_ HL.out.ki q hql).mono ?_;rintro e w2 ⟨rfl,K2,k2,rfl|rfl⟩
  ·exact⟨rfl,true,_,_,rfl,HL.out.kst.trans k2,HL.out.ki,by omega,rfl,fun _=>HL.out.gr⟩
  ·exact⟨rfl,true,_,_,rfl,HL.out.kst.trans k2,HL.out.ki.down q true,by unfold dA;simp only;omega,rfl,fun _=>HL.out.gr⟩
 go_wp2_with fail;refine HA.out.mono ?_;rintro e w9 ⟨rfl,hR⟩;have HR:=ah hR;clear hR;go_wp2_with fail;go_ret;exact HR.out
theorem Ef (h:KAt N w g K V) (hi:KI K) (gr:Gr K) (A B C:Int) (S:ByteArray) (hA0 : -9223372036854775808≤A) (hA1:A≤9223372036854775807) (hB0 : -9223372036854775808≤B) (hB1:B≤9223372036854775807) (hC0 : -9223372036854775808≤C) (hC1:C≤9223372036854775807) (hS:S.size≤1000000) (hm:dA K+200000≤900000000000) :
  Calls Tryz.prog 14 #[Zp (some ⟨g,0,O⟩),.agg #[I J 9,I J A,I J B,I J C,Z S]] w fun e w'=>RnE N w w' g K V 150000 e:=by
 have z:=hi.sz;obtain⟨n,hn⟩:∃ n:Nat,K.n=n:=⟨K.n.toNat,by have:=z.n3;omega⟩
 have z3:=z.n3;have z1:=z.nds;have z7:=z.n7;rw[hn] at z1 z7 z3;have hb0:Below w.heap.size w (w.alloc (.cells #[I J 9,I J A,I J B,I J C,Z S] 28)):=(Below.refl _ w).alloc (Nat.le_refl _) _
 have hx:=heap_alloc_new w (.cells #[I J 9,I J A,I J B,I J C,Z S] 28);have hAt:=h.below hb0;have HL0:=ah ((Rn.refl h hi gr).below hb0);have c1:(w.alloc (.cells #[I J 9,I J A,I J B,I J C,Z S] 28)).cell? ⟨g,1,O⟩=some (I J n):=by rw[← hn];exact hAt.cell 1
 have b1:(w.alloc (.cells #[I J 9,I J A,I J B,I J C,Z S] 28)).cell? ⟨w.heap.size,1,O⟩=some (I J A):=(cell_of_row _ _ _ _ _ _ hx).trans rfl
 obtain⟨q,hqn,hqe⟩:=dP A n (by omega)
 have HP:Hid (∀ w2,Calls Tryz.prog 13 #[I J A,I J n] w2 fun e w'=>e=Zr (I J (q:Int))∧w'=w2):=fun w2=>by rw[← hqe];exact dz A n w2 hA0 hA1 (by omega) (by omega)
 have hKI:=ah hi;clear h hi gr z hAt hqe;go_enter Tryz.func14,Tryz.ntmps14;go_wp2_with fail;generalize w.alloc (.cells #[I J 9,I J A,I J B,I J C,Z S] 28)=wA at *;go_quiet ((go_at_call 13;exact Calls.quiet_of_same (HP.out _)))
 have HL:=ah (HL0.out.below (below_drewN (Below.refl _ _) nq));have hxB:(wA.drewN nq).heap[w.heap.size]? = some (.cells #[I J 9,I J A,I J B,I J C,Z S] 28):=((below_drewN (Below.refl wA.heap.size wA) nq).block _ (lt_of_block hx)).trans hx
 generalize wA.drewN nq=wB at *;clear hx hb0 c1 b1 HL0 HP;have HX:Hid (∀ w2,Below wB.heap.size wB w2→w2.heap[w.heap.size]? = some (.cells #[I J 9,I J A,I J B,I J C,Z S] 28)):=fun w2 hw2=>(hw2.block _ (lt_of_block hxB)).trans hxB
 have wBx:Below wB.heap.size wB wB:=Below.refl _ _
 clear hxB;have hql:q<K.nds.length:=by omega
 have b0:wB.cell? ⟨w.heap.size,0,O⟩=some (I J 9):=(cell_of_row _ _ _ _ _ _ (HX.out _ wBx)).trans rfl
 have b1:wB.cell? ⟨w.heap.size,1,O⟩=some (I J A):=(cell_of_row _ _ _ _ _ _ (HX.out _ wBx)).trans rfl
 have b2:wB.cell? ⟨w.heap.size,2,O⟩=some (I J B):=(cell_of_row _ _ _ _ _ _ (HX.out _ wBx)).trans rfl
 have b4:wB.cell? ⟨w.heap.size,4,O⟩=some (Z S):=(cell_of_row _ _ _ _ _ _ (HX.out _ wBx)).trans rfl
 have HA:Hid (Calls Tryz.prog 36 #[Zp (some ⟨g,0,O⟩),I J q] wB fun e w'=>RnE N w w' g K V 150000 e):=by
  refine (zO HL.out.kst.at_ HL.out.ki HL.out.gr q hql (by omega)).mono ?_
  intro e w2 hs;exact (HL.out.rn hs).le (by omega)
 go_wp2_with fail;refine HA.out.mono ?_;rintro e w9 ⟨b9,K9,V9,rfl,hS9⟩;go_wp2_with fail;go_ret;exact⟨b9,K9,V9,rfl,hS9⟩
theorem Cm (h:KAt N w g K V) (hi:KI K) (gr:Gr K) (A B C:Int) (S:ByteArray) (hA0 : -9223372036854775808≤A) (hA1:A≤9223372036854775807) (hB0 : -9223372036854775808≤B) (hB1:B≤9223372036854775807) (hC0 : -9223372036854775808≤C) (hC1:C≤9223372036854775807) (hS:S.size≤1000000) (hm:dA K+200000≤900000000000) :
  Calls Tryz.prog 14 #[Zp (some ⟨g,0,O⟩),.agg #[I J 10,I J A,I J B,I J C,Z S]] w fun e w'=>RnE N w w' g K V 150000 e:=by
 have z:=hi.sz;obtain⟨n,hn⟩:∃ n:Nat,K.n=n:=⟨K.n.toNat,by have:=z.n3;omega⟩
 have z3:=z.n3;have z1:=z.nds;have z7:=z.n7;rw[hn] at z1 z7 z3;have hb0:Below w.heap.size w (w.alloc (.cells #[I J 10,I J A,I J B,I J C,Z S] 28)):=(Below.refl _ w).alloc (Nat.le_refl _) _
 have hx:=heap_alloc_new w (.cells #[I J 10,I J A,I J B,I J C,Z S] 28);have hAt:=h.below hb0;have HL0:=ah ((Rn.refl h hi gr).below hb0);have c1:(w.alloc (.cells #[I J 10,I J A,I J B,I J C,Z S] 28)).cell? ⟨g,1,O⟩=some (I J n):=by rw[← hn];exact hAt.cell 1
 have b1:(w.alloc (.cells #[I J 10,I J A,I J B,I J C,Z S] 28)).cell? ⟨w.heap.size,1,O⟩=some (I J A):=(cell_of_row _ _ _ _ _ _ hx).trans rfl
 obtain⟨q,hqn,hqe⟩:=dP A n (by omega)
 have HP:Hid (∀ w2,Calls Tryz.prog 13 #[I J A,I J n] w2 fun e w'=>e=Zr (I J (q:Int))∧w'=w2):=fun w2=>by rw[← hqe];exact dz A n w2 hA0 hA1 (by omega) (by omega)
 have hKI:=ah hi;clear h hi gr z hAt hqe;go_enter Tryz.func14,Tryz.ntmps14;go_wp2_with fail;generalize w.alloc (.cells #[I J 10,I J A,I J B,I J C,Z S] 28)=wA at *;go_quiet ((go_at_call 13;exact Calls.quiet_of_same (HP.out _)))
 have HL:=ah (HL0.out.below (below_drewN (Below.refl _ _) nq));have hxB:(wA.drewN nq).heap[w.heap.size]? = some (.cells #[I J 10,I J A,I J B,I J C,Z S] 28):=((below_drewN (Below.refl wA.heap.size wA) nq).block _ (lt_of_block hx)).trans hx
 generalize wA.drewN nq=wB at *;clear hx hb0 c1 b1 HL0 HP;have HX:Hid (∀ w2,Below wB.heap.size wB w2→w2.heap[w.heap.size]? = some (.cells #[I J 10,I J A,I J B,I J C,Z S] 28)):=fun w2 hw2=>(hw2.block _ (lt_of_block hxB)).trans hxB
 have wBx:Below wB.heap.size wB wB:=Below.refl _ _
 clear hxB;have hql:q<K.nds.length:=by omega
 have b0:wB.cell? ⟨w.heap.size,0,O⟩=some (I J 10):=(cell_of_row _ _ _ _ _ _ (HX.out _ wBx)).trans rfl
 have b1:wB.cell? ⟨w.heap.size,1,O⟩=some (I J A):=(cell_of_row _ _ _ _ _ _ (HX.out _ wBx)).trans rfl
 have b2:wB.cell? ⟨w.heap.size,2,O⟩=some (I J B):=(cell_of_row _ _ _ _ _ _ (HX.out _ wBx)).trans rfl
 have b4:wB.cell? ⟨w.heap.size,4,O⟩=some (Z S):=(cell_of_row _ _ _ _ _ _ (HX.out _ wBx)).trans rfl
 have HA:Hid (Calls Tryz.prog 37 #[Zp (some ⟨g,0,O⟩)] wB fun e w'=>RnE N w w' g K V 150000 e):=by
  refine (Ga HL.out.kst.at_ HL.out.ki HL.out.gr (by omega)).mono ?_
  intro e w2 hs;exact (HL.out.rn hs).le (by omega)
 go_wp2_with fail;refine HA.out.mono ?_;rintro e w9 ⟨b9,K9,V9,rfl,hS9⟩;go_wp2_with fail;go_ret;exact⟨b9,K9,V9,rfl,hS9⟩
theorem Eh (h:KAt N w g K V) (hi:KI K) (gr:Gr K) (kd:Int) (A B C:Int) (S:ByteArray) (hA0 : -9223372036854775808≤A) (hA1:A≤9223372036854775807) (hB0 : -9223372036854775808≤B) (hB1:B≤9223372036854775807) (hC0 : -9223372036854775808≤C) (hC1:C≤9223372036854775807) (hS:S.size≤1000000) (hm:dA K+200000≤900000000000) (h2:¬kd=2) (h3:¬kd=3) (h4:¬kd=4) (h5:¬kd=5) (h6:¬kd=6) (h7:¬kd=7) (h8:¬kd=8) (h9:¬kd=9) (h10:¬kd=10) (h11:¬kd=11) (h12:¬kd=12) :
  Calls Tryz.prog 14 #[Zp (some ⟨g,0,O⟩),.agg #[I J kd,I J A,I J B,I J C,Z S]] w fun e w'=>RnE N w w' g K V 150000 e:=by
 have z:=hi.sz;obtain⟨n,hn⟩:∃ n:Nat,K.n=n:=⟨K.n.toNat,by have:=z.n3;omega⟩
 have z3:=z.n3;have z1:=z.nds;have z7:=z.n7;rw[hn] at z1 z7 z3;have hb0:Below w.heap.size w (w.alloc (.cells #[I J kd,I J A,I J B,I J C,Z S] 28)):=(Below.refl _ w).alloc (Nat.le_refl _) _
 have hx:=heap_alloc_new w (.cells #[I J kd,I J A,I J B,I J C,Z S] 28);have hAt:=h.below hb0;have HL0:=ah ((Rn.refl h hi gr).below hb0);have c1:(w.alloc (.cells #[I J kd,I J A,I J B,I J C,Z S] 28)).cell? ⟨g,1,O⟩=some (I J n):=by rw[← hn];exact hAt.cell 1
 have b1:(w.alloc (.cells #[I J kd,I J A,I J B,I J C,Z S] 28)).cell? ⟨w.heap.size,1,O⟩=some (I J A):=(cell_of_row _ _ _ _ _ _ hx).trans rfl
 obtain⟨q,hqn,hqe⟩:=dP A n (by omega)
 have HP:Hid (∀ w2,Calls Tryz.prog 13 #[I J A,I J n] w2 fun e w'=>e=Zr (I J (q:Int))∧w'=w2):=fun w2=>by rw[← hqe];exact dz A n w2 hA0 hA1 (by omega) (by omega)
 have hKI:=ah hi;clear h hi gr z hAt hqe;go_enter Tryz.func14,Tryz.ntmps14;go_wp2_with fail;generalize w.alloc (.cells #[I J kd,I J A,I J B,I J C,Z S] 28)=wA at *;go_quiet ((go_at_call 13;exact Calls.quiet_of_same (HP.out _)))
 have HL:=ah (HL0.out.below (below_drewN (Below.refl _ _) nq));have hxB:(wA.drewN nq).heap[w.heap.size]? = some (.cells #[I J kd,I J A,I J B,I J C,Z S] 28):=((below_drewN (Below.refl wA.heap.size wA) nq).block _ (lt_of_block hx)).trans hx
 generalize wA.drewN nq=wB at *;clear hx hb0 c1 b1 HL0 HP;have HX:Hid (∀ w2,Below wB.heap.size wB w2→w2.heap[w.heap.size]? = some (.cells #[I J kd,I J A,I J B,I J C,Z S] 28)):=fun w2 hw2=>(hw2.block _ (lt_of_block hxB)).trans hxB
 have wBx:Below wB.heap.size wB wB:=Below.refl _ _
 clear hxB;have hql:q<K.nds.length:=by omega
 have b0:wB.cell? ⟨w.heap.size,0,O⟩=some (I J kd):=(cell_of_row _ _ _ _ _ _ (HX.out _ wBx)).trans rfl
 have b1:wB.cell? ⟨w.heap.size,1,O⟩=some (I J A):=(cell_of_row _ _ _ _ _ _ (HX.out _ wBx)).trans rfl
 have b2:wB.cell? ⟨w.heap.size,2,O⟩=some (I J B):=(cell_of_row _ _ _ _ _ _ (HX.out _ wBx)).trans rfl
 have b4:wB.cell? ⟨w.heap.size,4,O⟩=some (Z S):=(cell_of_row _ _ _ _ _ _ (HX.out _ wBx)).trans rfl
 have HR:=ah (HL.out.rne (d:=150000) true (by omega))
 have n2:(kd==2)=false:=beq_eq_false_iff_ne.2 h2
 have n3:(kd==3)=false:=beq_eq_false_iff_ne.2 h3
 have n4:(kd==4)=false:=beq_eq_false_iff_ne.2 h4
 have n5:(kd==5)=false:=beq_eq_false_iff_ne.2 h5
 have n6:(kd==6)=false:=beq_eq_false_iff_ne.2 h6
 have n7:(kd==7)=false:=beq_eq_false_iff_ne.2 h7
 have n8:(kd==8)=false:=beq_eq_false_iff_ne.2 h8
 have n9:(kd==9)=false:=beq_eq_false_iff_ne.2 h9
 have n10:(kd==10)=false:=beq_eq_false_iff_ne.2 h10
 have n11:(kd==11)=false:=beq_eq_false_iff_ne.2 h11
 have n12:(kd==12)=false:=beq_eq_false_iff_ne.2 h12
 clear h2 h3 h4 h5 h6 h7 h8 h9 h10 h11 h12;go_wp2_with fail;go_ret;exact HR.out
end
section
variable {N:Nat} {w w':World} {g:Nat} {K K':Kw} {V V':Kv}
theorem Ea (h:KAt N w g K V) (hi:KI K) (gr:Gr K) (A B C:Int) (S:ByteArray) (hA0 : -9223372036854775808≤A) (hA1:A≤9223372036854775807) (hB0 : -9223372036854775808≤B) (hB1:B≤9223372036854775807) (hC0 : -9223372036854775808≤C) (hC1:C≤9223372036854775807) (hS:S.size≤1000000) (hm:dA K+200000≤900000000000) :
  Calls Tryz.prog 14 #[Zp (some ⟨g,0,O⟩),.agg #[I J 4,I J A,I J B,I J C,Z S]] w fun e w'=>RnE N w w' g K V 150000 e:=by
 have z:=hi.sz;obtain⟨n,hn⟩:∃ n:Nat,K.n=n:=⟨K.n.toNat,by have:=z.n3;omega⟩
 have z3:=z.n3;have z1:=z.nds;have z7:=z.n7;rw[hn] at z1 z7 z3;have hb0:Below w.heap.size w (w.alloc (.cells #[I J 4,I J A,I J B,I J C,Z S] 28)):=(Below.refl _ w).alloc (Nat.le_refl _) _
 have hx:=heap_alloc_new w (.cells #[I J 4,I J A,I J B,I J C,Z S] 28);have hAt:=h.below hb0;have HL0:=ah ((Rn.refl h hi gr).below hb0);have c1:(w.alloc (.cells #[I J 4,I J A,I J B,I J C,Z S] 28)).cell? ⟨g,1,O⟩=some (I J n):=by rw[← hn];exact hAt.cell 1
 have b1:(w.alloc (.cells #[I J 4,I J A,I J B,I J C,Z S] 28)).cell? ⟨w.heap.size,1,O⟩=some (I J A):=(cell_of_row _ _ _ _ _ _ hx).trans rfl
 obtain⟨q,hqn,hqe⟩:=dP A n (by omega)
 have HP:Hid (∀ w2,Calls Tryz.prog 13 #[I J A,I J n] w2 fun e w'=>e=Zr (I J (q:Int))∧w'=w2):=fun w2=>by rw[← hqe];exact dz A n w2 hA0 hA1 (by omega) (by omega)
 have hKI:=ah hi;clear h hi gr z hAt hqe;go_enter Tryz.func14,Tryz.ntmps14;go_wp2_with fail;generalize w.alloc (.cells #[I J 4,I J A,I J B,I J C,Z S] 28)=wA at *;go_quiet ((go_at_call 13;exact Calls.quiet_of_same (HP.out _)))
 have HL:=ah (HL0.out.below (below_drewN (Below.refl _ _) nq));have hxB:(wA.drewN nq).heap[w.heap.size]? = some (.cells #[I J 4,I J A,I J B,I J C,Z S] 28):=((below_drewN (Below.refl wA.heap.size wA) nq).block _ (lt_of_block hx)).trans hx
 generalize wA.drewN nq=wB at *;clear hx hb0 c1 b1 HL0 HP;have HX:Hid (∀ w2,Below wB.heap.size wB w2→w2.heap[w.heap.size]? = some (.cells #[I J 4,I J A,I J B,I J C,Z S] 28)):=fun w2 hw2=>(hw2.block _ (lt_of_block hxB)).trans hxB
 have wBx:Below wB.heap.size wB wB:=Below.refl _ _
 clear hxB;have hql:q<K.nds.length:=by omega
 have b0:wB.cell? ⟨w.heap.size,0,O⟩=some (I J 4):=(cell_of_row _ _ _ _ _ _ (HX.out _ wBx)).trans rfl
 have b1:wB.cell? ⟨w.heap.size,1,O⟩=some (I J A):=(cell_of_row _ _ _ _ _ _ (HX.out _ wBx)).trans rfl
 have b2:wB.cell? ⟨w.heap.size,2,O⟩=some (I J B):=(cell_of_row _ _ _ _ _ _ (HX.out _ wBx)).trans rfl
 have b4:wB.cell? ⟨w.heap.size,4,O⟩=some (Z S):=(cell_of_row _ _ _ _ _ _ (HX.out _ wBx)).trans rfl
 obtain⟨aP,cP,hvP⟩:=au HL.out.kst.at_.rP
 have c7:wB.cell? ⟨g,7,O⟩=some (Y aP K.net.length cP):=by rw[← hvP];exact HL.out.kst.at_.cell 7
 have hnl:K.net.length≤900000000000:=by have:=iG K;omega
 have HH:Hid (∀ w2 (k:Nat) (come stay:Bool),Below wB.heap.size wB w2→k<K.net.length→Calls Tryz.prog 32 #[Zp (some ⟨g,0,O⟩),I J k,.bool come,.bool stay] w2 fun e w'=>RnE N w w' g K V 150000 e):=fun w2 k come stay hw2 hk=>by
  have L2:=HL.out.below hw2;refine (jT L2.kst.at_ L2.ki L2.gr k hk come stay (by omega)).mono ?_
  intro e w3 hs;exact StQ.rne L2 hs (by cases come <;> simp)
 by_cases hp:0<K.net.length
 ·have hp':(0:Int)<(K.net.length:Int):=by omega
  obtain⟨k,hk,hke⟩:=dP A K.net.length hp
  have HP:Hid (∀ w2,Calls Tryz.prog 13 #[I J A,I J (K.net.length:Int)] w2 fun e w'=>e=Zr (I J (k:Int))∧w'=w2):=fun w2=>by rw[← hke];exact dz A K.net.length w2 hA0 hA1 hp (by omega)
  clear hke;go_wp2_with fail;go_quiet ((go_at_call 13;exact Calls.quiet_of_same (HP.out _)))
  have wCx:Below wB.heap.size wB (wB.drewN nq):=below_drewN (Below.refl _ _) nq
  generalize wB.drewN nq=wC at *;clear b0 b1 b2 b4;have b0:wC.cell? ⟨w.heap.size,0,O⟩=some (I J 4):=(cell_of_row _ _ _ _ _ _ (HX.out _ wCx)).trans rfl
  have b1:wC.cell? ⟨w.heap.size,1,O⟩=some (I J A):=(cell_of_row _ _ _ _ _ _ (HX.out _ wCx)).trans rfl
  have b2:wC.cell? ⟨w.heap.size,2,O⟩=some (I J B):=(cell_of_row _ _ _ _ _ _ (HX.out _ wCx)).trans rfl
  have nz:¬(2:Int)=0:=by omega
  go_wp2_with fail;refine (HH.out _ k _ _ wCx hk).mono ?_;rintro e w9 ⟨b9,K9,V9,rfl,hS9⟩;go_wp2_with fail;go_ret;exact⟨b9,K9,V9,rfl,hS9⟩
 ·have hp':¬(0:Int)<(K.net.length:Int):=by omega
  have HR:=ah (HL.out.rne (d:=150000) true (by omega))
  go_wp2_with fail;go_ret;exact HR.out
theorem Eb (h:KAt N w g K V) (hi:KI K) (gr:Gr K) (A B C:Int) (S:ByteArray) (hA0 : -9223372036854775808≤A) (hA1:A≤9223372036854775807) (hB0 : -9223372036854775808≤B) (hB1:B≤9223372036854775807) (hC0 : -9223372036854775808≤C) (hC1:C≤9223372036854775807) (hS:S.size≤1000000) (hm:dA K+200000≤900000000000) :
  Calls Tryz.prog 14 #[Zp (some ⟨g,0,O⟩),.agg #[I J 5,I J A,I J B,I J C,Z S]] w fun e w'=>RnE N w w' g K V 150000 e:=by
 have z:=hi.sz;obtain⟨n,hn⟩:∃ n:Nat,K.n=n:=⟨K.n.toNat,by have:=z.n3;omega⟩
 have z3:=z.n3;have z1:=z.nds;have z7:=z.n7;rw[hn] at z1 z7 z3;have hb0:Below w.heap.size w (w.alloc (.cells #[I J 5,I J A,I J B,I J C,Z S] 28)):=(Below.refl _ w).alloc (Nat.le_refl _) _
 have hx:=heap_alloc_new w (.cells #[I J 5,I J A,I J B,I J C,Z S] 28);have hAt:=h.below hb0;have HL0:=ah ((Rn.refl h hi gr).below hb0);have c1:(w.alloc (.cells #[I J 5,I J A,I J B,I J C,Z S] 28)).cell? ⟨g,1,O⟩=some (I J n):=by rw[← hn];exact hAt.cell 1
 have b1:(w.alloc (.cells #[I J 5,I J A,I J B,I J C,Z S] 28)).cell? ⟨w.heap.size,1,O⟩=some (I J A):=(cell_of_row _ _ _ _ _ _ hx).trans rfl
 obtain⟨q,hqn,hqe⟩:=dP A n (by omega)
 have HP:Hid (∀ w2,Calls Tryz.prog 13 #[I J A,I J n] w2 fun e w'=>e=Zr (I J (q:Int))∧w'=w2):=fun w2=>by rw[← hqe];exact dz A n w2 hA0 hA1 (by omega) (by omega)
 have hKI:=ah hi;clear h hi gr z hAt hqe;go_enter Tryz.func14,Tryz.ntmps14;go_wp2_with fail;generalize w.alloc (.cells #[I J 5,I J A,I J B,I J C,Z S] 28)=wA at *;go_quiet ((go_at_call 13;exact Calls.quiet_of_same (HP.out _)))
 have HL:=ah (HL0.out.below (below_drewN (Below.refl _ _) nq));have hxB:(wA.drewN nq).heap[w.heap.size]? = some (.cells #[I J 5,I J A,I J B,I J C,Z S] 28):=((below_drewN (Below.refl wA.heap.size wA) nq).block _ (lt_of_block hx)).trans hx
 generalize wA.drewN nq=wB at *;clear hx hb0 c1 b1 HL0 HP;have HX:Hid (∀ w2,Below wB.heap.size wB w2→w2.heap[w.heap.size]? = some (.cells #[I J 5,I J A,I J B,I J C,Z S] 28)):=fun w2 hw2=>(hw2.block _ (lt_of_block hxB)).trans hxB
 have wBx:Below wB.heap.size wB wB:=Below.refl _ _
 clear hxB;have hql:q<K.nds.length:=by omega
 have b0:wB.cell? ⟨w.heap.size,0,O⟩=some (I J 5):=(cell_of_row _ _ _ _ _ _ (HX.out _ wBx)).trans rfl
 have b1:wB.cell? ⟨w.heap.size,1,O⟩=some (I J A):=(cell_of_row _ _ _ _ _ _ (HX.out _ wBx)).trans rfl
 have b2:wB.cell? ⟨w.heap.size,2,O⟩=some (I J B):=(cell_of_row _ _ _ _ _ _ (HX.out _ wBx)).trans rfl
 have b4:wB.cell? ⟨w.heap.size,4,O⟩=some (Z S):=(cell_of_row _ _ _ _ _ _ (HX.out _ wBx)).trans rfl
 obtain⟨aP,cP,hvP⟩:=au HL.out.kst.at_.rP
 have c7:wB.cell? ⟨g,7,O⟩=some (Y aP K.net.length cP):=by rw[← hvP];exact HL.out.kst.at_.cell 7
 have hnl:K.net.length≤900000000000:=by have:=iG K;omega
 have HH:Hid (∀ w2 (k:Nat) (come stay:Bool),Below wB.heap.size wB w2→k<K.net.length→Calls Tryz.prog 32 #[Zp (some ⟨g,0,O⟩),I J k,.bool come,.bool stay] w2 fun e w'=>RnE N w w' g K V 150000 e):=fun w2 k come stay hw2 hk=>by
  have L2:=HL.out.below hw2;refine (jT L2.kst.at_ L2.ki L2.gr k hk come stay (by omega)).mono ?_
  intro e w3 hs;exact StQ.rne L2 hs (by cases come <;> simp)
 by_cases hp:0<K.net.length
 ·have hp':(0:Int)<(K.net.length:Int):=by omega
  obtain⟨k,hk,hke⟩:=dP A K.net.length hp
  have HP:Hid (∀ w2,Calls Tryz.prog 13 #[I J A,I J (K.net.length:Int)] w2 fun e w'=>e=Zr (I J (k:Int))∧w'=w2):=fun w2=>by rw[← hke];exact dz A K.net.length w2 hA0 hA1 hp (by omega)
  clear hke;go_wp2_with fail;go_quiet ((go_at_call 13;exact Calls.quiet_of_same (HP.out _)))
  have wCx:Below wB.heap.size wB (wB.drewN nq):=below_drewN (Below.refl _ _) nq
  generalize wB.drewN nq=wC at *;clear b0 b1 b2 b4;have b0:wC.cell? ⟨w.heap.size,0,O⟩=some (I J 5):=(cell_of_row _ _ _ _ _ _ (HX.out _ wCx)).trans rfl
  have b1:wC.cell? ⟨w.heap.size,1,O⟩=some (I J A):=(cell_of_row _ _ _ _ _ _ (HX.out _ wCx)).trans rfl
  have b2:wC.cell? ⟨w.heap.size,2,O⟩=some (I J B):=(cell_of_row _ _ _ _ _ _ (HX.out _ wCx)).trans rfl
  have nz:¬(2:Int)=0:=by omega
  go_wp2_with fail;refine (HH.out _ k _ _ wCx hk).mono ?_;rintro e w9 ⟨b9,K9,V9,rfl,hS9⟩;go_wp2_with fail;go_ret;exact⟨b9,K9,V9,rfl,hS9⟩
 ·have hp':¬(0:Int)<(K.net.length:Int):=by omega
  have HR:=ah (HL.out.rne (d:=150000) true (by omega))
  go_wp2_with fail;go_ret;exact HR.out
theorem Co (h:KAt N w g K V) (hi:KI K) (gr:Gr K) (A B C:Int) (S:ByteArray) (hA0 : -9223372036854775808≤A) (hA1:A≤9223372036854775807) (hB0 : -9223372036854775808≤B) (hB1:B≤9223372036854775807) (hC0 : -9223372036854775808≤C) (hC1:C≤9223372036854775807) (hS:S.size≤1000000) (hm:dA K+200000≤900000000000) :
  Calls Tryz.prog 14 #[Zp (some ⟨g,0,O⟩),.agg #[I J 12,I J A,I J B,I J C,Z S]] w fun e w'=>RnE N w w' g K V 150000 e:=by
 have z:=hi.sz;obtain⟨n,hn⟩:∃ n:Nat,K.n=n:=⟨K.n.toNat,by have:=z.n3;omega⟩
 have z3:=z.n3;have z1:=z.nds;have z7:=z.n7;rw[hn] at z1 z7 z3;have hb0:Below w.heap.size w (w.alloc (.cells #[I J 12,I J A,I J B,I J C,Z S] 28)):=(Below.refl _ w).alloc (Nat.le_refl _) _
 have hx:=heap_alloc_new w (.cells #[I J 12,I J A,I J B,I J C,Z S] 28);have hAt:=h.below hb0;have HL0:=ah ((Rn.refl h hi gr).below hb0);have c1:(w.alloc (.cells #[I J 12,I J A,I J B,I J C,Z S] 28)).cell? ⟨g,1,O⟩=some (I J n):=by rw[← hn];exact hAt.cell 1
 have b1:(w.alloc (.cells #[I J 12,I J A,I J B,I J C,Z S] 28)).cell? ⟨w.heap.size,1,O⟩=some (I J A):=(cell_of_row _ _ _ _ _ _ hx).trans rfl
 obtain⟨q,hqn,hqe⟩:=dP A n (by omega)
 have HP:Hid (∀ w2,Calls Tryz.prog 13 #[I J A,I J n] w2 fun e w'=>e=Zr (I J (q:Int))∧w'=w2):=fun w2=>by rw[← hqe];exact dz A n w2 hA0 hA1 (by omega) (by omega)
 have hKI:=ah hi;clear h hi gr z hAt hqe;go_enter Tryz.func14,Tryz.ntmps14;go_wp2_with fail;generalize w.alloc (.cells #[I J 12,I J A,I J B,I J C,Z S] 28)=wA at *;go_quiet ((go_at_call 13;exact Calls.quiet_of_same (HP.out _)))
 have HL:=ah (HL0.out.below (below_drewN (Below.refl _ _) nq));have hxB:(wA.drewN nq).heap[w.heap.size]? = some (.cells #[I J 12,I J A,I J B,I J C,Z S] 28):=((below_drewN (Below.refl wA.heap.size wA) nq).block _ (lt_of_block hx)).trans hx
 generalize wA.drewN nq=wB at *;clear hx hb0 c1 b1 HL0 HP;have HX:Hid (∀ w2,Below wB.heap.size wB w2→w2.heap[w.heap.size]? = some (.cells #[I J 12,I J A,I J B,I J C,Z S] 28)):=fun w2 hw2=>(hw2.block _ (lt_of_block hxB)).trans hxB
 have wBx:Below wB.heap.size wB wB:=Below.refl _ _
 clear hxB;have hql:q<K.nds.length:=by omega
 have b0:wB.cell? ⟨w.heap.size,0,O⟩=some (I J 12):=(cell_of_row _ _ _ _ _ _ (HX.out _ wBx)).trans rfl
 have b1:wB.cell? ⟨w.heap.size,1,O⟩=some (I J A):=(cell_of_row _ _ _ _ _ _ (HX.out _ wBx)).trans rfl
 have b2:wB.cell? ⟨w.heap.size,2,O⟩=some (I J B):=(cell_of_row _ _ _ _ _ _ (HX.out _ wBx)).trans rfl
 have b4:wB.cell? ⟨w.heap.size,4,O⟩=some (Z S):=(cell_of_row _ _ _ _ _ _ (HX.out _ wBx)).trans rfl
 obtain⟨aP,cP,hvP⟩:=au HL.out.kst.at_.rP
 have c7:wB.cell? ⟨g,7,O⟩=some (Y aP K.net.length cP):=by rw[← hvP];exact HL.out.kst.at_.cell 7
 have hnl:K.net.length≤900000000000:=by have:=iG K;omega
 have HH:Hid (∀ w2 (k:Nat) (come stay:Bool),Below wB.heap.size wB w2→k<K.net.length→Calls Tryz.prog 32 #[Zp (some ⟨g,0,O⟩),I J k,.bool come,.bool stay] w2 fun e w'=>RnE N w w' g K V 150000 e):=fun w2 k come stay hw2 hk=>by
  have L2:=HL.out.below hw2;refine (jT L2.kst.at_ L2.ki L2.gr k hk come stay (by omega)).mono ?_
  intro e w3 hs;exact StQ.rne L2 hs (by cases come <;> simp)
 by_cases hs1:(S.size:Int)=1
 ·have hs1':((S.size:Int)==1)=true:=beq_iff_eq.2 hs1
  have HF:Hid (Calls Tryz.prog 33 #[Zp (some ⟨g,0,O⟩),Z S,I J q] wB fun e w'=>Hl K.net.length wB w' e):=DU HL.out.kst.at_ S q (fun y hy=>(hKI.out.net y hy).2.2)
  clear hs1 c7;go_wp2_with fail;refine HF.out.mono ?_;rintro e wC ⟨r,rfl,hr0,hr1,wCx⟩;clear b0 b1 b2 b4;have b0:wC.cell? ⟨w.heap.size,0,O⟩=some (I J 12):=(cell_of_row _ _ _ _ _ _ (HX.out _ wCx)).trans rfl
  have b1:wC.cell? ⟨w.heap.size,1,O⟩=some (I J A):=(cell_of_row _ _ _ _ _ _ (HX.out _ wCx)).trans rfl
  have b2:wC.cell? ⟨w.heap.size,2,O⟩=some (I J B):=(cell_of_row _ _ _ _ _ _ (HX.out _ wCx)).trans rfl
  by_cases hr:0≤r
  ·obtain⟨k,rfl⟩:=Int.eq_ofNat_of_zero_le hr
   have hk:k<K.net.length:=by omega
   go_wp2_with fail;refine (HH.out _ k _ _ wCx hk).mono ?_;rintro e w9 ⟨b9,K9,V9,rfl,hS9⟩;go_wp2_with fail;go_ret;exact⟨b9,K9,V9,rfl,hS9⟩
  ·have HR:=ah ((HL.out.below wCx).rne (d:=150000) true (by omega))
   go_wp2_with fail;go_ret;exact HR.out
 ·have hs1':((S.size:Int)==1)=false:=beq_eq_false_iff_ne.2 hs1
  have HR:=ah (HL.out.rne (d:=150000) true (by omega))
  clear hs1;go_wp2_with fail;go_ret;exact HR.out
theorem Cn (h:KAt N w g K V) (hi:KI K) (gr:Gr K) (A B C:Int) (S:ByteArray) (hA0 : -9223372036854775808≤A) (hA1:A≤9223372036854775807) (hB0 : -9223372036854775808≤B) (hB1:B≤9223372036854775807) (hC0 : -9223372036854775808≤C) (hC1:C≤9223372036854775807) (hS:S.size≤1000000) (hm:dA K+200000≤900000000000) :
  Calls Tryz.prog 14 #[Zp (some ⟨g,0,O⟩),.agg #[I J 11,I J A,I J B,I J C,Z S]] w fun e w'=>RnE N w w' g K V 150000 e:=by
 have z:=hi.sz;obtain⟨n,hn⟩:∃ n:Nat,K.n=n:=⟨K.n.toNat,by have:=z.n3;omega⟩
 have z3:=z.n3;have z1:=z.nds;have z7:=z.n7;rw[hn] at z1 z7 z3;have hb0:Below w.heap.size w (w.alloc (.cells #[I J 11,I J A,I J B,I J C,Z S] 28)):=(Below.refl _ w).alloc (Nat.le_refl _) _
 have hx:=heap_alloc_new w (.cells #[I J 11,I J A,I J B,I J C,Z S] 28);have hAt:=h.below hb0;have HL0:=ah ((Rn.refl h hi gr).below hb0);have c1:(w.alloc (.cells #[I J 11,I J A,I J B,I J C,Z S] 28)).cell? ⟨g,1,O⟩=some (I J n):=by rw[← hn];exact hAt.cell 1
 have b1:(w.alloc (.cells #[I J 11,I J A,I J B,I J C,Z S] 28)).cell? ⟨w.heap.size,1,O⟩=some (I J A):=(cell_of_row _ _ _ _ _ _ hx).trans rfl
 obtain⟨q,hqn,hqe⟩:=dP A n (by omega)
 have HP:Hid (∀ w2,Calls Tryz.prog 13 #[I J A,I J n] w2 fun e w'=>e=Zr (I J (q:Int))∧w'=w2):=fun w2=>by rw[← hqe];exact dz A n w2 hA0 hA1 (by omega) (by omega)
 have hKI:=ah hi;clear h hi gr z hAt hqe;go_enter Tryz.func14,Tryz.ntmps14;go_wp2_with fail;generalize w.alloc (.cells #[I J 11,I J A,I J B,I J C,Z S] 28)=wA at *;go_quiet ((go_at_call 13;exact Calls.quiet_of_same (HP.out _)))
 have HL:=ah (HL0.out.below (below_drewN (Below.refl _ _) nq));have hxB:(wA.drewN nq).heap[w.heap.size]? = some (.cells #[I J 11,I J A,I J B,I J C,Z S] 28):=((below_drewN (Below.refl wA.heap.size wA) nq).block _ (lt_of_block hx)).trans hx
 generalize wA.drewN nq=wB at *;clear hx hb0 c1 b1 HL0 HP;have HX:Hid (∀ w2,Below wB.heap.size wB w2→w2.heap[w.heap.size]? = some (.cells #[I J 11,I J A,I J B,I J C,Z S] 28)):=fun w2 hw2=>(hw2.block _ (lt_of_block hxB)).trans hxB
 have wBx:Below wB.heap.size wB wB:=Below.refl _ _
 clear hxB;have hql:q<K.nds.length:=by omega
 have b0:wB.cell? ⟨w.heap.size,0,O⟩=some (I J 11):=(cell_of_row _ _ _ _ _ _ (HX.out _ wBx)).trans rfl
 have b1:wB.cell? ⟨w.heap.size,1,O⟩=some (I J A):=(cell_of_row _ _ _ _ _ _ (HX.out _ wBx)).trans rfl
 have b2:wB.cell? ⟨w.heap.size,2,O⟩=some (I J B):=(cell_of_row _ _ _ _ _ _ (HX.out _ wBx)).trans rfl
 have b4:wB.cell? ⟨w.heap.size,4,O⟩=some (Z S):=(cell_of_row _ _ _ _ _ _ (HX.out _ wBx)).trans rfl
 obtain⟨m,hm64,hme⟩:=dP A 64 (by omega)
 have HP:Hid (∀ w2,Calls Tryz.prog 13 #[I J A,I J 64] w2 fun e w'=>e=Zr (I J (m:Int))∧w'=w2):=fun w2=>by
  have:=dz A 64 w2 hA0 hA1 (by omega) (by omega)
  rw[← hme];exact this
 have HH1:Hid (∀ (wr:World) (K':Kw) (V':Kv),Rn N w wr g K V 0 K' V'→0<K'.net.length→Calls Tryz.prog 32 #[Zp (some ⟨g,0,O⟩),I J 0,.bool true,.bool false] wr fun e w'=>∃ b K2 V2,e=Zr (.bool b)∧(b=false→RnE N w w' g K V 150000 (Zr (.bool false)))∧(b=true→Rn N w w' g K V 0 K2 V2)):=fun wr K' V' L hk=>by
  refine (jT L.kst.at_ L.ki L.gr 0 hk true false (by have:=L.ms;omega)).mono ?_
  rintro e w2 ⟨b,K2,V2,rfl,k2,ki2,ms2,nl2,n2,gr2⟩;simp only[if_true,Bool.false_eq_true,if_false] at ms2 nl2;have:=L.ms
  exact⟨b,K2,V2,rfl,fun hb=>⟨false,K2,V2,rfl,L.kst.trans k2,ki2,by omega,n2.trans L.n,fun h=>by simp at h⟩,fun hb=>⟨L.kst.trans k2,ki2,by omega,n2.trans L.n,gr2 hb⟩⟩
 clear hme;go_wp2_with fail;refine (HP.out _).mono ?_;rintro e wC ⟨rfl,hwC⟩;subst hwC;clear b0 b1 b2 b4;go_wp2_with fail;go_loopw [21] (fun i wr=>∃ (k:Nat) (K':Kw) (V':Kv),k≤64∧i=I J k∧Rn N w wr g K V 0 K' V') (fun i _=>(intOf i).toNat)
 case atStart=>exact⟨m,K,V,by omega,rfl,HL.out⟩
 case round =>
  obtain⟨k,K1,V1,hk,rfl,L1⟩:=hrel
  have HL1:=ah L1;obtain⟨aP,cP,hvP⟩:=au L1.kst.at_.rP
  have c7:wr.cell? ⟨g,7,O⟩=some (Y aP K1.net.length cP):=by rw[← hvP];exact L1.kst.at_.cell 7
  clear L1;have HR:=ah (HL1.out.rne (d:=150000) true (by omega))
  by_cases hk0:0<k
  ·have hk':(0:Int)<(k:Int):=by omega
   by_cases hp:0<K1.net.length
   ·have hp':(0:Int)<(K1.net.length:Int):=by omega
    have HQ:=ah (HH1.out _ _ _ HL1.out hp);go_wp2_with fail;refine HQ.out.mono ?_;rintro e w2 ⟨b,K2,V2,rfl,hno,hyes⟩;cases b
    ·have HF:=ah (hno rfl);clear hno hyes;go_wp2_with fail;go_ret;exact HF.out
    ·have HY:=ah (hyes rfl);clear hno hyes;go_wp2_with fail;go_roundw
     case rel=>exact⟨k-1,K2,V2,by omega,by rw[show ((k-1:Nat):Int)=(k:Int)-1 by omega],HY.out⟩
     case measure=>simp[intOf];omega
   ·have hp':¬(0:Int)<(K1.net.length:Int):=by omega
    go_wp2_with fail;go_ret;exact HR.out
  ·have hk':¬(0:Int)<(k:Int):=by omega
   go_wp2_with fail;go_ret;exact HR.out
end
namespace Al
def G3:ByteArray:=⟨#[48,49,50]⟩
def RA:Rp:=Rp.new 0 3 (dW G3)
def RB:Rp:=Rp.new 1 3 (dW G3)
def Q1:ByteArray:=⟨#[113,32,49,32,49,32,112,97,53]⟩
def EN:En:=(1,1,⟨#[112,97,53]⟩)
theorem g3:dW G3=[0,1,2]:=by decide
theorem dg0:dg 0=⟨#[48]⟩:=by unfold dg;simp[sj]
theorem dg1:dg 1=⟨#[49]⟩:=by unfold dg;simp[sj]
theorem IY:RA.leads=true:=by decide
theorem cq1:bX Q1 32=[⟨#[113]⟩,⟨#[49]⟩,⟨#[49]⟩,⟨#[112,97,53]⟩]:=by kernel_rfl
theorem oq1:jr [⟨#[113]⟩,⟨#[49]⟩,⟨#[49]⟩,⟨#[112,97,53]⟩] 3=true:=by kernel_rfl
theorem wq1:aU Q1 3=[⟨#[113]⟩,⟨#[49]⟩,⟨#[49]⟩,⟨#[112,97,53]⟩]:=by
 rw[tL,if_neg (by decide),cq1,if_pos oq1]
theorem ra1 {P:Pm} (hk:P.kind=113) (he:P.ent=EN):RA.take P=({ RA with log:=[EN] }:Rp).bL 1:=by
 unfold Rp.take Rp.cu;rw[hk,he,if_pos (by decide),if_pos IY,if_neg (by decide),if_neg (by decide),if_neg (fun h=>absurd h.1 (by decide)),if_neg (fun h=>absurd h.1 (by decide))]
 unfold Rp.propose;rw[if_neg (by decide)]
 rfl
def T1:ByteArray:=⟨#[112,32,48,32,48,46,48,46,48,32,48,32,48,32,49,32,49,46,49,46,112,97,53,32,48]⟩
theorem lv3:kr (bZ 3)=⟨#[48,46,48,46,48]⟩:=by
 unfold kr;simp only[bZ,List.map_replicate,dg0]
 kernel_rfl
theorem t1:jC (({ RA with log:=[EN] }:Rp).iZ 1)=T1:=by
 unfold jC;simp only[Rp.iZ,Rp.head,RA,Rp.new,Rp.mk0];have e3:(3:Int).toNat=3:=rfl
 rw[e3,lv3,dg0];unfold pU;rw[if_pos (by decide)]
 unfold kg;simp only[EN,dg0,dg1];have e1:dg ((0:Nat):Int)=⟨#[48]⟩:=dg0
 have e4:([((1:Int),(1:Int),(⟨#[112,97,53]⟩:ByteArray))].getD ((1:Int)-1).toNat (0,0,⟨#[]⟩))=((1:Int),(1:Int),(⟨#[112,97,53]⟩:ByteArray)):=rfl
 rw[e4];simp only[dg1];rw[e1]
 first|done|rfl|decide
def RA1:Rp:={ RA with log:=[EN],out:=[(1,T1),(2,T1)] }
theorem ra2:(({ RA with log:=[EN] }:Rp).bL 1)=RA1:=by
 unfold Rp.bL;rw[if_neg (by decide)]
 unfold Rp.gP;rw[t1]
 rfl
def RA2:Rp:={ RA with log:=[EN] }
theorem ct1:bX T1 32=[⟨#[112]⟩,⟨#[48]⟩,⟨#[48,46,48,46,48]⟩,⟨#[48]⟩,⟨#[48]⟩,⟨#[49]⟩,⟨#[49,46,49,46,112,97,53]⟩,⟨#[48]⟩]:=by kernel_rfl
theorem ot1:jr [⟨#[112]⟩,⟨#[48]⟩,⟨#[48,46,48,46,48]⟩,⟨#[48]⟩,⟨#[48]⟩,⟨#[49]⟩,⟨#[49,46,49,46,112,97,53]⟩,⟨#[48]⟩] 3=true:=by kernel_rfl
theorem wt1:aU T1 3=[⟨#[112]⟩,⟨#[48]⟩,⟨#[48,46,48,46,48]⟩,⟨#[48]⟩,⟨#[48]⟩,⟨#[49]⟩,⟨#[49,46,49,46,112,97,53]⟩,⟨#[48]⟩]:=by
 rw[tL,if_neg (by decide),ct1,if_pos ot1]
theorem rb1 {x1 x2:Int} {x3 x4:List Int} {x5:List En}:RB.take ⟨112,0,[0,0,0],0,0,1,EN,0,x1,x2,x3,x4,x5⟩=(({ RB with log:=[EN] }:Rp).ack 0):=by
 rfl
def T2:ByteArray:=⟨#[107,32,49,32,48,46,48,46,48,32,48,32,48,32,49]⟩
theorem t2:jC ({ ({ RB with log:=[EN] }:Rp).head 107 with place:=(({ RB with log:=[EN] }:Rp).log.length:Int) })=T2:=by
 unfold jC;simp only[Rp.head,RB,Rp.new,Rp.mk0];have e3:(3:Int).toNat=3:=rfl
 rw[e3,lv3,dg0];unfold pU;rw[if_neg (by decide),if_pos (by decide)]
 have e1:dg (([EN].length:Nat):Int)=⟨#[49]⟩:=dg1
 rw[e1,dg1]
 first|done|rfl|decide
theorem ct2:bX T2 32=[⟨#[107]⟩,⟨#[49]⟩,⟨#[48,46,48,46,48]⟩,⟨#[48]⟩,⟨#[48]⟩,⟨#[49]⟩]:=by kernel_rfl
theorem ot2:jr [⟨#[107]⟩,⟨#[49]⟩,⟨#[48,46,48,46,48]⟩,⟨#[48]⟩,⟨#[48]⟩,⟨#[49]⟩] 3=true:=by kernel_rfl
theorem wt2:aU T2 3=[⟨#[107]⟩,⟨#[49]⟩,⟨#[48,46,48,46,48]⟩,⟨#[48]⟩,⟨#[48]⟩,⟨#[49]⟩]:=by
 rw[tL,if_neg (by decide),ct2,if_pos ot2]
theorem ra3 {x0 x1 x2:Int} {x3 x4:List Int} {x5:List En} {e:En}:(RA2.take ⟨107,1,[0,0,0],0,0,1,e,x0,x1,x2,x3,x4,x5⟩).out=[(-1,YS++dg 1++SP++dg 1++SP++OKb)]:=by
 kernel_rfl
theorem ra4 {x0 x1 x2:Int} {x3 x4:List Int} {x5:List En} {e:En}:tH (RA2.take ⟨107,1,[0,0,0],0,0,1,e,x0,x1,x2,x3,x4,x5⟩).sv 97=⟨#[53]⟩:=by
 kernel_rfl
theorem y1:YS++dg 1++SP++dg 1++SP++OKb=(⟨#[121,32,49,32,49,32,111,107]⟩:ByteArray):=by
 rw[dg1];kernel_rfl
theorem pk2 {P:Pm} (h:uX 3 [⟨#[107]⟩,⟨#[49]⟩,⟨#[48,46,48,46,48]⟩,⟨#[48]⟩,⟨#[48]⟩,⟨#[49]⟩] P):P.kind=107∧P.frm=1∧P.lives=[0,0,0]∧P.epoch=0∧P.view=0∧P.place=1:=by
 obtain⟨b,hb,hk⟩:=h.kind
 have hr:=h.rep (by kernel_rfl)
 have he:((⟨#[107]⟩:ByteArray)).toList=[107]:=by kernel_rfl
 have hb':[(107:UInt8)]=[b]:=he.symm.trans hb
 have:b=107:=by simpa using hb'.symm
 subst this;exact⟨hk,hr.frm.trans (by kernel_rfl),hr.lives.trans (by kernel_rfl),hr.epoch.trans (by kernel_rfl),hr.view.trans (by kernel_rfl),(hr.k (by kernel_rfl)).trans (by kernel_rfl)⟩
theorem pq1 {P:Pm} (h:uX 3 [⟨#[113]⟩,⟨#[49]⟩,⟨#[49]⟩,⟨#[112,97,53]⟩] P):P.kind=113∧P.ent=EN:=by
 obtain⟨b,hb,hk⟩:=h.kind
 have he:((⟨#[113]⟩:ByteArray)).toList=[113]:=by kernel_rfl
 have hb':[(113:UInt8)]=[b]:=he.symm.trans hb
 have:b=113:=by simpa using hb'.symm
 subst this;exact⟨hk,(h.q he).trans (by kernel_rfl)⟩
theorem pt1 {P:Pm} (h:uX 3 [⟨#[112]⟩,⟨#[48]⟩,⟨#[48,46,48,46,48]⟩,⟨#[48]⟩,⟨#[48]⟩,⟨#[49]⟩,⟨#[49,46,49,46,112,97,53]⟩,⟨#[48]⟩] P):P.kind=112∧P.frm=0∧P.lives=[0,0,0]∧P.epoch=0∧P.view=0∧P.place=1∧P.ent=EN∧P.commit=0:=by
 obtain⟨b,hb,hk⟩:=h.kind
 have hr:=h.rep (by kernel_rfl)
 have he:((⟨#[112]⟩:ByteArray)).toList=[112]:=by kernel_rfl
 have hb':[(112:UInt8)]=[b]:=he.symm.trans hb
 have:b=112:=by simpa using hb'.symm
 subst this;have hp:=hr.p (by kernel_rfl)
 exact⟨hk,hr.frm.trans (by kernel_rfl),hr.lives.trans (by kernel_rfl),hr.epoch.trans (by kernel_rfl),hr.view.trans (by kernel_rfl),hp.1.trans (by kernel_rfl),hp.2.1.trans (by kernel_rfl),hp.2.2.trans (by kernel_rfl)⟩
theorem tk1 {R':Rp} (h:TkR RA Q1 R'):R'=RA1:=by
 rcases h with ⟨h,_⟩|⟨_,P,_,hM,rfl⟩
 ·have:aU Q1 3=[]:=h
  rw[wq1] at this;simp at this
 ·have hM:uX 3 (aU Q1 3) P:=hM
  rw[wq1] at hM;obtain⟨hk,he⟩:=pq1 hM
  rw[ra1 hk he,ra2]
theorem tk2 {R':Rp} (h:TkR RB T1 R'):R'.out=[(0,T2)]:=by
 rcases h with ⟨h,_⟩|⟨_,P,_,hM,rfl⟩
 ·have:aU T1 3=[]:=h
  rw[wt1] at this;simp at this
 ·have hM:uX 3 (aU T1 3) P:=hM
  rw[wt1] at hM;obtain⟨h1,h2,h3,h4,h5,h6,h7,h8⟩:=pt1 hM
  obtain⟨kd,fr,lv,ep,vi,pl,en,co,no,li,gr,ol,lg⟩:=P
  simp only at h1 h2 h3 h4 h5 h6 h7 h8
  subst h1 h2 h3 h4 h5 h6 h7 h8;rw[rb1];unfold Rp.ack Rp.send;rw[t2]
  rfl
theorem tk3 {R':Rp} (h:TkR RA2 T2 R'):R'.out=[(-1,⟨#[121,32,49,32,49,32,111,107]⟩)]∧tH R'.sv 97=⟨#[53]⟩:=by
 rcases h with ⟨h,_⟩|⟨_,P,_,hM,rfl⟩
 ·have:aU T2 3=[]:=h
  rw[wt2] at this;simp at this
 ·have hM:uX 3 (aU T2 3) P:=hM
  rw[wt2] at hM;obtain⟨h1,h2,h3,h4,h5,h6⟩:=pk2 hM
  obtain⟨kd,fr,lv,ep,vi,pl,en,co,no,li,gr,ol,lg⟩:=P
  simp only at h1 h2 h3 h4 h5 h6
  subst h1 h2 h3 h4 h5 h6;exact⟨by rw[ra3,y1],ra4⟩
end Al
end Go.Proofs.YtajakaadgagejaaGreatDoor
