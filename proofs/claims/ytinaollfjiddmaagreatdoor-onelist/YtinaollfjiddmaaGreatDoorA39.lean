import Derived.Test.YtinaollfjiddmaaGreatDoorA36
import Derived.Test.YtinaollfjiddmaaGreatDoorA37
set_option maxRecDepth 100000
set_option maxHeartbeats 8000000
set_option linter.all false
namespace Go.Proofs.YtinaollfjiddmaaGreatDoor
open Go.Value renaming int→I,slice→Y,string→Z,pointer→Zp
open Go.Ending renaming returned→Zr
open _root_.ByteArray renaming empty→Ze
open Go.IntKind renaming i64→J
open Option renaming none→O
open Go.RowKit
section
variable {N:Nat} {w w':World} {g:Nat} {K K':Kw} {V V':Kv}
theorem StQ.rne {wr w2:World} {a c d m:Nat} {e:Ending} (L:Rn N w wr g K V a K' V') (h:StQ N wr w2 g K' V' c d e) (hm:a+c≤m):RnE N w w2 g K V m e:=by
 obtain⟨b,K2,V2,rfl,k,ki,ms,nl,n,gr⟩:=h
 exact⟨b,K2,V2,rfl,L.kst.trans k,ki,by have:=L.ms;omega,n.trans L.n,gr⟩
theorem eY (c:Int) (n:Nat) (hn:0<n):∃ k:Nat,k<n∧nA c n=(k:Int):=by
 have:=Cg c n hn
 exact⟨(nA c n).toNat,by omega,by omega⟩
theorem GZ (h:KAt N w g K V) (hi:KI K) (gr:Gr K) (A B C:Int) (S:ByteArray) (hA0 : -9223372036854775808≤A) (hA1:A≤9223372036854775807) (hB0 : -9223372036854775808≤B) (hB1:B≤9223372036854775807) (hC0 : -9223372036854775808≤C) (hC1:C≤9223372036854775807) (hS:S.size≤1000000) (hm:dS K+200000≤900000000000) :
  Calls Tryz.prog 13 #[Zp (some ⟨g,0,O⟩),.agg #[I J 6,I J A,I J B,I J C,Z S]] w fun e w'=>RnE N w w' g K V 150000 e:=by
 have z:=hi.sz;obtain⟨n,t⟩:∃ n:Nat,K.n=n:=⟨K.n.toNat,by have:=z.n3;omega⟩
 have v:=z.n3;have x:=z.nds;have y:=z.n7;rw[t] at x y v;have d:Below w.heap.size w (w.alloc (.cells #[I J 6,I J A,I J B,I J C,Z S] 28)):=(Below.refl _ w).alloc (Nat.le_refl _) _
 have l:=heap_alloc_new w (.cells #[I J 6,I J A,I J B,I J C,Z S] 28);have i:=h.below d;have j:=ah ((Rn.refl h hi gr).below d);have c1:(w.alloc (.cells #[I J 6,I J A,I J B,I J C,Z S] 28)).cell? ⟨g,1,O⟩=some (I J n):=by rw[← t];exact i.cell 1
 have b1:(w.alloc (.cells #[I J 6,I J A,I J B,I J C,Z S] 28)).cell? ⟨w.heap.size,1,O⟩=some (I J A):=(cell_of_row _ _ _ _ _ _ l).trans rfl
 obtain⟨q,D,k⟩:=eY A n (by omega)
 have u:Hid (∀ b,Calls Tryz.prog 12 #[I J A,I J n] b fun e w'=>e=Zr (I J (q:Int))∧w'=b):=fun b=>by rw[← k];exact dR A n b hA0 hA1 (by omega) (by omega)
 have E:=ah hi;clear h hi gr z i k;go_enter Tryz.func13,Tryz.ntmps13;go_wp2_with fail;generalize w.alloc (.cells #[I J 6,I J A,I J B,I J C,Z S] 28)=m at *;go_quiet ((go_at_call 12;exact Calls.quiet_of_same (u.out _)))
 have o:=ah (j.out.below (below_drewN (Below.refl _ _) nq));have f:(m.drewN nq).heap[w.heap.size]? = some (.cells #[I J 6,I J A,I J B,I J C,Z S] 28):=((below_drewN (Below.refl m.heap.size m) nq).block _ (lt_of_block l)).trans l
 generalize m.drewN nq=a at *;clear l d c1 b1 j u;have HX:Hid (∀ b,Below a.heap.size a b→b.heap[w.heap.size]? = some (.cells #[I J 6,I J A,I J B,I J C,Z S] 28)):=fun b p=>(p.block _ (lt_of_block f)).trans f
 have c:Below a.heap.size a a:=Below.refl _ _
 clear f;have r:q<K.nds.length:=by omega
 have b0:a.cell? ⟨w.heap.size,0,O⟩=some (I J 6):=(cell_of_row _ _ _ _ _ _ (HX.out _ c)).trans rfl
 have b1:a.cell? ⟨w.heap.size,1,O⟩=some (I J A):=(cell_of_row _ _ _ _ _ _ (HX.out _ c)).trans rfl
 have M:a.cell? ⟨w.heap.size,2,O⟩=some (I J B):=(cell_of_row _ _ _ _ _ _ (HX.out _ c)).trans rfl
 have P:a.cell? ⟨w.heap.size,4,O⟩=some (Z S):=(cell_of_row _ _ _ _ _ _ (HX.out _ c)).trans rfl
 have F:Hid (Calls Tryz.prog 33 #[Zp (some ⟨g,0,O⟩),I J q,I J 1,Z ⟨#[]⟩] a fun e w'=>RnE N w w' g K V 150000 e):=by
  refine (uq o.out.kst.at_ o.out.ki o.out.gr q r ⟨#[]⟩ (by omega)).mono ?_
  intro e b hs;exact (o.out.ste hs).le (by omega)
 go_wp2_with fail;refine F.out.mono ?_;rintro e Q ⟨G,H,L,rfl,s⟩;go_wp2;go_ret;exact⟨G,H,L,rfl,s⟩
theorem G5 (h:KAt N w g K V) (hi:KI K) (gr:Gr K) (A B C:Int) (S:ByteArray) (hA0 : -9223372036854775808≤A) (hA1:A≤9223372036854775807) (hB0 : -9223372036854775808≤B) (hB1:B≤9223372036854775807) (hC0 : -9223372036854775808≤C) (hC1:C≤9223372036854775807) (hS:S.size≤1000000) (hm:dS K+200000≤900000000000) :
  Calls Tryz.prog 13 #[Zp (some ⟨g,0,O⟩),.agg #[I J 7,I J A,I J B,I J C,Z S]] w fun e w'=>RnE N w w' g K V 150000 e:=by
 have z:=hi.sz;obtain⟨n,t⟩:∃ n:Nat,K.n=n:=⟨K.n.toNat,by have:=z.n3;omega⟩
 have v:=z.n3;have x:=z.nds;have y:=z.n7;rw[t] at x y v;have d:Below w.heap.size w (w.alloc (.cells #[I J 7,I J A,I J B,I J C,Z S] 28)):=(Below.refl _ w).alloc (Nat.le_refl _) _
 have l:=heap_alloc_new w (.cells #[I J 7,I J A,I J B,I J C,Z S] 28);have i:=h.below d;have j:=ah ((Rn.refl h hi gr).below d);have c1:(w.alloc (.cells #[I J 7,I J A,I J B,I J C,Z S] 28)).cell? ⟨g,1,O⟩=some (I J n):=by rw[← t];exact i.cell 1
 have b1:(w.alloc (.cells #[I J 7,I J A,I J B,I J C,Z S] 28)).cell? ⟨w.heap.size,1,O⟩=some (I J A):=(cell_of_row _ _ _ _ _ _ l).trans rfl
 obtain⟨q,D,k⟩:=eY A n (by omega)
 have u:Hid (∀ b,Calls Tryz.prog 12 #[I J A,I J n] b fun e w'=>e=Zr (I J (q:Int))∧w'=b):=fun b=>by rw[← k];exact dR A n b hA0 hA1 (by omega) (by omega)
 have E:=ah hi;clear h hi gr z i k;go_enter Tryz.func13,Tryz.ntmps13;go_wp2_with fail;generalize w.alloc (.cells #[I J 7,I J A,I J B,I J C,Z S] 28)=m at *;go_quiet ((go_at_call 12;exact Calls.quiet_of_same (u.out _)))
 have o:=ah (j.out.below (below_drewN (Below.refl _ _) nq));have f:(m.drewN nq).heap[w.heap.size]? = some (.cells #[I J 7,I J A,I J B,I J C,Z S] 28):=((below_drewN (Below.refl m.heap.size m) nq).block _ (lt_of_block l)).trans l
 generalize m.drewN nq=a at *;clear l d c1 b1 j u;have HX:Hid (∀ b,Below a.heap.size a b→b.heap[w.heap.size]? = some (.cells #[I J 7,I J A,I J B,I J C,Z S] 28)):=fun b p=>(p.block _ (lt_of_block f)).trans f
 have c:Below a.heap.size a a:=Below.refl _ _
 clear f;have r:q<K.nds.length:=by omega
 have b0:a.cell? ⟨w.heap.size,0,O⟩=some (I J 7):=(cell_of_row _ _ _ _ _ _ (HX.out _ c)).trans rfl
 have b1:a.cell? ⟨w.heap.size,1,O⟩=some (I J A):=(cell_of_row _ _ _ _ _ _ (HX.out _ c)).trans rfl
 have M:a.cell? ⟨w.heap.size,2,O⟩=some (I J B):=(cell_of_row _ _ _ _ _ _ (HX.out _ c)).trans rfl
 have P:a.cell? ⟨w.heap.size,4,O⟩=some (Z S):=(cell_of_row _ _ _ _ _ _ (HX.out _ c)).trans rfl
 have F:Hid (Calls Tryz.prog 33 #[Zp (some ⟨g,0,O⟩),I J q,I J 2,Z ⟨#[]⟩] a fun e w'=>RnE N w w' g K V 150000 e):=by
  refine (zR o.out.kst.at_ o.out.ki o.out.gr q r ⟨#[]⟩ (by omega)).mono ?_
  intro e b hs;exact (o.out.ste hs).le (by omega)
 go_wp2_with fail;refine F.out.mono ?_;rintro e Q ⟨G,H,L,rfl,s⟩;go_wp2;go_ret;exact⟨G,H,L,rfl,s⟩
theorem G6 (h:KAt N w g K V) (hi:KI K) (gr:Gr K) (A B C:Int) (S:ByteArray) (hA0 : -9223372036854775808≤A) (hA1:A≤9223372036854775807) (hB0 : -9223372036854775808≤B) (hB1:B≤9223372036854775807) (hC0 : -9223372036854775808≤C) (hC1:C≤9223372036854775807) (hS:S.size≤1000000) (hm:dS K+200000≤900000000000) :
  Calls Tryz.prog 13 #[Zp (some ⟨g,0,O⟩),.agg #[I J 8,I J A,I J B,I J C,Z S]] w fun e w'=>RnE N w w' g K V 150000 e:=by
 have z:=hi.sz;obtain⟨n,s⟩:∃ n:Nat,K.n=n:=⟨K.n.toNat,by have:=z.n3;omega⟩
 have x:=z.n3;have y:=z.nds;have D:=z.n7;rw[s] at y D x;have f:Below w.heap.size w (w.alloc (.cells #[I J 8,I J A,I J B,I J C,Z S] 28)):=(Below.refl _ w).alloc (Nat.le_refl _) _
 have m:=heap_alloc_new w (.cells #[I J 8,I J A,I J B,I J C,Z S] 28);have j:=h.below f;have k:=ah ((Rn.refl h hi gr).below f);have c1:(w.alloc (.cells #[I J 8,I J A,I J B,I J C,Z S] 28)).cell? ⟨g,1,O⟩=some (I J n):=by rw[← s];exact j.cell 1
 have b1:(w.alloc (.cells #[I J 8,I J A,I J B,I J C,Z S] 28)).cell? ⟨w.heap.size,1,O⟩=some (I J A):=(cell_of_row _ _ _ _ _ _ m).trans rfl
 obtain⟨q,E,l⟩:=eY A n (by omega)
 have t:Hid (∀ b,Calls Tryz.prog 12 #[I J A,I J n] b fun e w'=>e=Zr (I J (q:Int))∧w'=b):=fun b=>by rw[← l];exact dR A n b hA0 hA1 (by omega) (by omega)
 have F:=ah hi;clear h hi gr z j l;go_enter Tryz.func13,Tryz.ntmps13;go_wp2_with fail;generalize w.alloc (.cells #[I J 8,I J A,I J B,I J C,Z S] 28)=o at *;go_quiet ((go_at_call 12;exact Calls.quiet_of_same (t.out _)))
 have d:=ah (k.out.below (below_drewN (Below.refl _ _) nq));have i:(o.drewN nq).heap[w.heap.size]? = some (.cells #[I J 8,I J A,I J B,I J C,Z S] 28):=((below_drewN (Below.refl o.heap.size o) nq).block _ (lt_of_block m)).trans m
 generalize o.drewN nq=a at *;clear m f c1 b1 k t;have HX:Hid (∀ b,Below a.heap.size a b→b.heap[w.heap.size]? = some (.cells #[I J 8,I J A,I J B,I J C,Z S] 28)):=fun b p=>(p.block _ (lt_of_block i)).trans i
 have c:Below a.heap.size a a:=Below.refl _ _
 clear i;have r:q<K.nds.length:=by omega
 have b0:a.cell? ⟨w.heap.size,0,O⟩=some (I J 8):=(cell_of_row _ _ _ _ _ _ (HX.out _ c)).trans rfl
 have b1:a.cell? ⟨w.heap.size,1,O⟩=some (I J A):=(cell_of_row _ _ _ _ _ _ (HX.out _ c)).trans rfl
 have L:a.cell? ⟨w.heap.size,2,O⟩=some (I J B):=(cell_of_row _ _ _ _ _ _ (HX.out _ c)).trans rfl
 have M:a.cell? ⟨w.heap.size,4,O⟩=some (Z S):=(cell_of_row _ _ _ _ _ _ (HX.out _ c)).trans rfl
 have G:Hid (Calls Tryz.prog 34 #[Zp (some ⟨g,0,O⟩),I J q] a fun e w'=>e=Zr (.tuple #[])∧RnE N w w' g K V 150000 (Zr (.bool true))):=by
  refine (Gy d.out.kst.at_ d.out.ki q r).mono ?_;rintro e b ⟨rfl,P,u,rfl|rfl⟩
  ·exact⟨rfl,true,_,_,rfl,d.out.kst.trans u,d.out.ki,by omega,rfl,fun _=>d.out.gr⟩
  ·exact⟨rfl,true,_,_,rfl,d.out.kst.trans u,d.out.ki.down q true,by unfold dS;simp only;omega,rfl,fun _=>CI.down d.out.gr _⟩
 go_wp2_with fail;refine G.out.mono ?_;rintro e Q ⟨rfl,v⟩;have H:=ah v;clear v;go_wp2;go_ret;exact H.out
theorem G7 (h:KAt N w g K V) (hi:KI K) (gr:Gr K) (A B C:Int) (S:ByteArray) (hA0 : -9223372036854775808≤A) (hA1:A≤9223372036854775807) (hB0 : -9223372036854775808≤B) (hB1:B≤9223372036854775807) (hC0 : -9223372036854775808≤C) (hC1:C≤9223372036854775807) (hS:S.size≤1000000) (hm:dS K+200000≤900000000000) :
  Calls Tryz.prog 13 #[Zp (some ⟨g,0,O⟩),.agg #[I J 9,I J A,I J B,I J C,Z S]] w fun e w'=>RnE N w w' g K V 150000 e:=by
 have z:=hi.sz;obtain⟨n,t⟩:∃ n:Nat,K.n=n:=⟨K.n.toNat,by have:=z.n3;omega⟩
 have v:=z.n3;have x:=z.nds;have y:=z.n7;rw[t] at x y v;have d:Below w.heap.size w (w.alloc (.cells #[I J 9,I J A,I J B,I J C,Z S] 28)):=(Below.refl _ w).alloc (Nat.le_refl _) _
 have l:=heap_alloc_new w (.cells #[I J 9,I J A,I J B,I J C,Z S] 28);have i:=h.below d;have j:=ah ((Rn.refl h hi gr).below d);have c1:(w.alloc (.cells #[I J 9,I J A,I J B,I J C,Z S] 28)).cell? ⟨g,1,O⟩=some (I J n):=by rw[← t];exact i.cell 1
 have b1:(w.alloc (.cells #[I J 9,I J A,I J B,I J C,Z S] 28)).cell? ⟨w.heap.size,1,O⟩=some (I J A):=(cell_of_row _ _ _ _ _ _ l).trans rfl
 obtain⟨q,D,k⟩:=eY A n (by omega)
 have u:Hid (∀ b,Calls Tryz.prog 12 #[I J A,I J n] b fun e w'=>e=Zr (I J (q:Int))∧w'=b):=fun b=>by rw[← k];exact dR A n b hA0 hA1 (by omega) (by omega)
 have E:=ah hi;clear h hi gr z i k;go_enter Tryz.func13,Tryz.ntmps13;go_wp2_with fail;generalize w.alloc (.cells #[I J 9,I J A,I J B,I J C,Z S] 28)=m at *;go_quiet ((go_at_call 12;exact Calls.quiet_of_same (u.out _)))
 have o:=ah (j.out.below (below_drewN (Below.refl _ _) nq));have f:(m.drewN nq).heap[w.heap.size]? = some (.cells #[I J 9,I J A,I J B,I J C,Z S] 28):=((below_drewN (Below.refl m.heap.size m) nq).block _ (lt_of_block l)).trans l
 generalize m.drewN nq=a at *;clear l d c1 b1 j u;have HX:Hid (∀ b,Below a.heap.size a b→b.heap[w.heap.size]? = some (.cells #[I J 9,I J A,I J B,I J C,Z S] 28)):=fun b p=>(p.block _ (lt_of_block f)).trans f
 have c:Below a.heap.size a a:=Below.refl _ _
 clear f;have r:q<K.nds.length:=by omega
 have b0:a.cell? ⟨w.heap.size,0,O⟩=some (I J 9):=(cell_of_row _ _ _ _ _ _ (HX.out _ c)).trans rfl
 have b1:a.cell? ⟨w.heap.size,1,O⟩=some (I J A):=(cell_of_row _ _ _ _ _ _ (HX.out _ c)).trans rfl
 have M:a.cell? ⟨w.heap.size,2,O⟩=some (I J B):=(cell_of_row _ _ _ _ _ _ (HX.out _ c)).trans rfl
 have P:a.cell? ⟨w.heap.size,4,O⟩=some (Z S):=(cell_of_row _ _ _ _ _ _ (HX.out _ c)).trans rfl
 have F:Hid (Calls Tryz.prog 35 #[Zp (some ⟨g,0,O⟩),I J q] a fun e w'=>RnE N w w' g K V 150000 e):=by
  refine (Cc o.out.kst.at_ o.out.ki o.out.gr q r (by omega)).mono ?_
  intro e b hs;exact (o.out.rn hs).le (by omega)
 go_wp2_with fail;refine F.out.mono ?_;rintro e Q ⟨G,H,L,rfl,s⟩;go_wp2;go_ret;exact⟨G,H,L,rfl,s⟩
theorem EF (h:KAt N w g K V) (hi:KI K) (gr:Gr K) (A B C:Int) (S:ByteArray) (hA0 : -9223372036854775808≤A) (hA1:A≤9223372036854775807) (hB0 : -9223372036854775808≤B) (hB1:B≤9223372036854775807) (hC0 : -9223372036854775808≤C) (hC1:C≤9223372036854775807) (hS:S.size≤1000000) (hm:dS K+200000≤900000000000) :
  Calls Tryz.prog 13 #[Zp (some ⟨g,0,O⟩),.agg #[I J 10,I J A,I J B,I J C,Z S]] w fun e w'=>RnE N w w' g K V 150000 e:=by
 have z:=hi.sz;obtain⟨n,s⟩:∃ n:Nat,K.n=n:=⟨K.n.toNat,by have:=z.n3;omega⟩
 have u:=z.n3;have v:=z.nds;have x:=z.n7;rw[s] at v x u;have d:Below w.heap.size w (w.alloc (.cells #[I J 10,I J A,I J B,I J C,Z S] 28)):=(Below.refl _ w).alloc (Nat.le_refl _) _
 have l:=heap_alloc_new w (.cells #[I J 10,I J A,I J B,I J C,Z S] 28);have i:=h.below d;have j:=ah ((Rn.refl h hi gr).below d);have c1:(w.alloc (.cells #[I J 10,I J A,I J B,I J C,Z S] 28)).cell? ⟨g,1,O⟩=some (I J n):=by rw[← s];exact i.cell 1
 have b1:(w.alloc (.cells #[I J 10,I J A,I J B,I J C,Z S] 28)).cell? ⟨w.heap.size,1,O⟩=some (I J A):=(cell_of_row _ _ _ _ _ _ l).trans rfl
 obtain⟨q,y,k⟩:=eY A n (by omega)
 have t:Hid (∀ b,Calls Tryz.prog 12 #[I J A,I J n] b fun e w'=>e=Zr (I J (q:Int))∧w'=b):=fun b=>by rw[← k];exact dR A n b hA0 hA1 (by omega) (by omega)
 have D:=ah hi;clear h hi gr z i k;go_enter Tryz.func13,Tryz.ntmps13;go_wp2_with fail;generalize w.alloc (.cells #[I J 10,I J A,I J B,I J C,Z S] 28)=m at *;go_quiet ((go_at_call 12;exact Calls.quiet_of_same (t.out _)))
 have o:=ah (j.out.below (below_drewN (Below.refl _ _) nq));have f:(m.drewN nq).heap[w.heap.size]? = some (.cells #[I J 10,I J A,I J B,I J C,Z S] 28):=((below_drewN (Below.refl m.heap.size m) nq).block _ (lt_of_block l)).trans l
 generalize m.drewN nq=a at *;clear l d c1 b1 j t;have HX:Hid (∀ b,Below a.heap.size a b→b.heap[w.heap.size]? = some (.cells #[I J 10,I J A,I J B,I J C,Z S] 28)):=fun b p=>(p.block _ (lt_of_block f)).trans f
 have c:Below a.heap.size a a:=Below.refl _ _
 clear f;have E:q<K.nds.length:=by omega
 have b0:a.cell? ⟨w.heap.size,0,O⟩=some (I J 10):=(cell_of_row _ _ _ _ _ _ (HX.out _ c)).trans rfl
 have b1:a.cell? ⟨w.heap.size,1,O⟩=some (I J A):=(cell_of_row _ _ _ _ _ _ (HX.out _ c)).trans rfl
 have M:a.cell? ⟨w.heap.size,2,O⟩=some (I J B):=(cell_of_row _ _ _ _ _ _ (HX.out _ c)).trans rfl
 have P:a.cell? ⟨w.heap.size,4,O⟩=some (Z S):=(cell_of_row _ _ _ _ _ _ (HX.out _ c)).trans rfl
 have F:Hid (Calls Tryz.prog 36 #[Zp (some ⟨g,0,O⟩)] a fun e w'=>RnE N w w' g K V 150000 e):=by
  refine (JM o.out.kst.at_ o.out.ki o.out.gr (by omega)).mono ?_
  intro e b hs;exact (o.out.rn hs).le (by omega)
 go_wp2_with fail;refine F.out.mono ?_;rintro e Q ⟨G,H,L,rfl,r⟩;go_wp2;go_ret;exact⟨G,H,L,rfl,r⟩
theorem G8 (h:KAt N w g K V) (hi:KI K) (gr:Gr K) (kd:Int) (A B C:Int) (S:ByteArray) (hA0 : -9223372036854775808≤A) (hA1:A≤9223372036854775807) (hB0 : -9223372036854775808≤B) (hB1:B≤9223372036854775807) (hC0 : -9223372036854775808≤C) (hC1:C≤9223372036854775807) (hS:S.size≤1000000) (hm:dS K+200000≤900000000000) (h2:¬kd=2) (h3:¬kd=3) (h4:¬kd=4) (h5:¬kd=5) (h6:¬kd=6) (h7:¬kd=7) (h8:¬kd=8) (h9:¬kd=9) (h10:¬kd=10) (h11:¬kd=11) (h12:¬kd=12) :
  Calls Tryz.prog 13 #[Zp (some ⟨g,0,O⟩),.agg #[I J kd,I J A,I J B,I J C,Z S]] w fun e w'=>RnE N w w' g K V 150000 e:=by
 have z:=hi.sz;obtain⟨n,r⟩:∃ n:Nat,K.n=n:=⟨K.n.toNat,by have:=z.n3;omega⟩
 have t:=z.n3;have u:=z.nds;have v:=z.n7;rw[r] at u v t;have f:Below w.heap.size w (w.alloc (.cells #[I J kd,I J A,I J B,I J C,Z S] 28)):=(Below.refl _ w).alloc (Nat.le_refl _) _
 have m:=heap_alloc_new w (.cells #[I J kd,I J A,I J B,I J C,Z S] 28);have j:=h.below f;have k:=ah ((Rn.refl h hi gr).below f);have c1:(w.alloc (.cells #[I J kd,I J A,I J B,I J C,Z S] 28)).cell? ⟨g,1,O⟩=some (I J n):=by rw[← r];exact j.cell 1
 have b1:(w.alloc (.cells #[I J kd,I J A,I J B,I J C,Z S] 28)).cell? ⟨w.heap.size,1,O⟩=some (I J A):=(cell_of_row _ _ _ _ _ _ m).trans rfl
 obtain⟨q,x,l⟩:=eY A n (by omega)
 have s:Hid (∀ c,Calls Tryz.prog 12 #[I J A,I J n] c fun e w'=>e=Zr (I J (q:Int))∧w'=c):=fun c=>by rw[← l];exact dR A n c hA0 hA1 (by omega) (by omega)
 have y:=ah hi;clear h hi gr z j l;go_enter Tryz.func13,Tryz.ntmps13;go_wp2_with fail;generalize w.alloc (.cells #[I J kd,I J A,I J B,I J C,Z S] 28)=o at *;go_quiet ((go_at_call 12;exact Calls.quiet_of_same (s.out _)))
 have D:=ah (k.out.below (below_drewN (Below.refl _ _) nq));have i:(o.drewN nq).heap[w.heap.size]? = some (.cells #[I J kd,I J A,I J B,I J C,Z S] 28):=((below_drewN (Below.refl o.heap.size o) nq).block _ (lt_of_block m)).trans m
 generalize o.drewN nq=a at *;clear m f c1 b1 k s;have HX:Hid (∀ c,Below a.heap.size a c→c.heap[w.heap.size]? = some (.cells #[I J kd,I J A,I J B,I J C,Z S] 28)):=fun c p=>(p.block _ (lt_of_block i)).trans i
 have b:Below a.heap.size a a:=Below.refl _ _
 clear i;have E:q<K.nds.length:=by omega
 have b0:a.cell? ⟨w.heap.size,0,O⟩=some (I J kd):=(cell_of_row _ _ _ _ _ _ (HX.out _ b)).trans rfl
 have b1:a.cell? ⟨w.heap.size,1,O⟩=some (I J A):=(cell_of_row _ _ _ _ _ _ (HX.out _ b)).trans rfl
 have M:a.cell? ⟨w.heap.size,2,O⟩=some (I J B):=(cell_of_row _ _ _ _ _ _ (HX.out _ b)).trans rfl
 have P:a.cell? ⟨w.heap.size,4,O⟩=some (Z S):=(cell_of_row _ _ _ _ _ _ (HX.out _ b)).trans rfl
 have F:=ah (D.out.rne (d:=150000) true (by omega))
 have Q:(kd==2)=false:=beq_eq_false_iff_ne.2 h2
 have R:(kd==3)=false:=beq_eq_false_iff_ne.2 h3
 have T:(kd==4)=false:=beq_eq_false_iff_ne.2 h4
 have U:(kd==5)=false:=beq_eq_false_iff_ne.2 h5
 have W:(kd==6)=false:=beq_eq_false_iff_ne.2 h6
 have X:(kd==7)=false:=beq_eq_false_iff_ne.2 h7
 have n8:(kd==8)=false:=beq_eq_false_iff_ne.2 h8
 have n9:(kd==9)=false:=beq_eq_false_iff_ne.2 h9
 have G:(kd==10)=false:=beq_eq_false_iff_ne.2 h10
 have H:(kd==11)=false:=beq_eq_false_iff_ne.2 h11
 have L:(kd==12)=false:=beq_eq_false_iff_ne.2 h12
 clear h2 h3 h4 h5 h6 h7 h8 h9 h10 h11 h12;go_wp2;go_ret;exact F.out
end
section
variable {N:Nat} {w w':World} {g:Nat} {K K':Kw} {V V':Kv}
theorem GX (h:KAt N w g K V) (hi:KI K) (gr:Gr K) (A B C:Int) (S:ByteArray) (hA0 : -9223372036854775808≤A) (hA1:A≤9223372036854775807) (hB0 : -9223372036854775808≤B) (hB1:B≤9223372036854775807) (hC0 : -9223372036854775808≤C) (hC1:C≤9223372036854775807) (hS:S.size≤1000000) (hm:dS K+200000≤900000000000) :
  Calls Tryz.prog 13 #[Zp (some ⟨g,0,O⟩),.agg #[I J 4,I J A,I J B,I J C,Z S]] w fun e w'=>RnE N w w' g K V 150000 e:=by
 have z:=hi.sz;obtain⟨n,M⟩:∃ n:Nat,K.n=n:=⟨K.n.toNat,by have:=z.n3;omega⟩
 have R:=z.n3;have T:=z.nds;have U:=z.n7;rw[M] at T U R;have l:Below w.heap.size w (w.alloc (.cells #[I J 4,I J A,I J B,I J C,Z S] 28)):=(Below.refl _ w).alloc (Nat.le_refl _) _
 have u:=heap_alloc_new w (.cells #[I J 4,I J A,I J B,I J C,Z S] 28);have p:=h.below l;have r:=ah ((Rn.refl h hi gr).below l);have c1:(w.alloc (.cells #[I J 4,I J A,I J B,I J C,Z S] 28)).cell? ⟨g,1,O⟩=some (I J n):=by rw[← M];exact p.cell 1
 have b1:(w.alloc (.cells #[I J 4,I J A,I J B,I J C,Z S] 28)).cell? ⟨w.heap.size,1,O⟩=some (I J A):=(cell_of_row _ _ _ _ _ _ u).trans rfl
 obtain⟨q,W,s⟩:=eY A n (by omega)
 have v:Hid (∀ a,Calls Tryz.prog 12 #[I J A,I J n] a fun e w'=>e=Zr (I J (q:Int))∧w'=a):=fun a=>by rw[← s];exact dR A n a hA0 hA1 (by omega) (by omega)
 have X:=ah hi;clear h hi gr z p s;go_enter Tryz.func13,Tryz.ntmps13;go_wp2_with fail;generalize w.alloc (.cells #[I J 4,I J A,I J B,I J C,Z S] 28)=x at *;go_quiet ((go_at_call 12;exact Calls.quiet_of_same (v.out _)))
 have y:=ah (r.out.below (below_drewN (Below.refl _ _) nq));have m:(x.drewN nq).heap[w.heap.size]? = some (.cells #[I J 4,I J A,I J B,I J C,Z S] 28):=((below_drewN (Below.refl x.heap.size x) nq).block _ (lt_of_block u)).trans u
 generalize x.drewN nq=b at *;clear u l c1 b1 r v;have HX:Hid (∀ a,Below b.heap.size b a→a.heap[w.heap.size]? = some (.cells #[I J 4,I J A,I J B,I J C,Z S] 28)):=fun a o=>(o.block _ (lt_of_block m)).trans m
 have i:Below b.heap.size b b:=Below.refl _ _
 clear m;have aa:q<K.nds.length:=by omega
 have b0:b.cell? ⟨w.heap.size,0,O⟩=some (I J 4):=(cell_of_row _ _ _ _ _ _ (HX.out _ i)).trans rfl
 have b1:b.cell? ⟨w.heap.size,1,O⟩=some (I J A):=(cell_of_row _ _ _ _ _ _ (HX.out _ i)).trans rfl
 have P:b.cell? ⟨w.heap.size,2,O⟩=some (I J B):=(cell_of_row _ _ _ _ _ _ (HX.out _ i)).trans rfl
 have b4:b.cell? ⟨w.heap.size,4,O⟩=some (Z S):=(cell_of_row _ _ _ _ _ _ (HX.out _ i)).trans rfl
 obtain⟨aP,cP,E⟩:=aj y.out.kst.at_.rP
 have c7:b.cell? ⟨g,7,O⟩=some (Y aP K.net.length cP):=by rw[← E];exact y.out.kst.at_.cell 7
 have ab:K.net.length≤900000000000:=by have:=jQ K;omega
 have HH:Hid (∀ a (k:Nat) (c f:Bool),Below b.heap.size b a→k<K.net.length→Calls Tryz.prog 31 #[Zp (some ⟨g,0,O⟩),I J k,.bool c,.bool f] a fun e w'=>RnE N w w' g K V 150000 e):=fun a k c f o F=>by
  have D:=y.out.below o;refine (lS D.kst.at_ D.ki D.gr k F c f (by omega)).mono ?_
  intro e w3 hs;exact StQ.rne D hs (by cases c <;> simp)
 by_cases Q:0<K.net.length
 ·have G:(0:Int)<(K.net.length:Int):=by omega
  obtain⟨k,F,t⟩:=eY A K.net.length Q
  have v:Hid (∀ a,Calls Tryz.prog 12 #[I J A,I J (K.net.length:Int)] a fun e w'=>e=Zr (I J (k:Int))∧w'=a):=fun a=>by rw[← t];exact dR A K.net.length a hA0 hA1 Q (by omega)
  clear t;go_wp2_with fail;go_quiet ((go_at_call 12;exact Calls.quiet_of_same (v.out _)))
  have j:Below b.heap.size b (b.drewN nq):=below_drewN (Below.refl _ _) nq
  generalize b.drewN nq=H at *;clear b0 b1 P b4;have b0:H.cell? ⟨w.heap.size,0,O⟩=some (I J 4):=(cell_of_row _ _ _ _ _ _ (HX.out _ j)).trans rfl
  have b1:H.cell? ⟨w.heap.size,1,O⟩=some (I J A):=(cell_of_row _ _ _ _ _ _ (HX.out _ j)).trans rfl
  have P:H.cell? ⟨w.heap.size,2,O⟩=some (I J B):=(cell_of_row _ _ _ _ _ _ (HX.out _ j)).trans rfl
  have nz:¬(2:Int)=0:=by omega
  go_wp2_with fail;refine (HH.out _ k _ _ j F).mono ?_;rintro e w9 ⟨b9,K9,V9,rfl,L⟩;go_wp2;go_ret;exact⟨b9,K9,V9,rfl,L⟩
 ·have G:¬(0:Int)<(K.net.length:Int):=by omega
  have HR:=ah (y.out.rne (d:=150000) true (by omega))
  go_wp2;go_ret;exact HR.out
theorem GY (h:KAt N w g K V) (hi:KI K) (gr:Gr K) (A B C:Int) (S:ByteArray) (hA0 : -9223372036854775808≤A) (hA1:A≤9223372036854775807) (hB0 : -9223372036854775808≤B) (hB1:B≤9223372036854775807) (hC0 : -9223372036854775808≤C) (hC1:C≤9223372036854775807) (hS:S.size≤1000000) (hm:dS K+200000≤900000000000) :
  Calls Tryz.prog 13 #[Zp (some ⟨g,0,O⟩),.agg #[I J 5,I J A,I J B,I J C,Z S]] w fun e w'=>RnE N w w' g K V 150000 e:=by
 have z:=hi.sz;obtain⟨n,M⟩:∃ n:Nat,K.n=n:=⟨K.n.toNat,by have:=z.n3;omega⟩
 have R:=z.n3;have T:=z.nds;have U:=z.n7;rw[M] at T U R;have l:Below w.heap.size w (w.alloc (.cells #[I J 5,I J A,I J B,I J C,Z S] 28)):=(Below.refl _ w).alloc (Nat.le_refl _) _
 have u:=heap_alloc_new w (.cells #[I J 5,I J A,I J B,I J C,Z S] 28);have p:=h.below l;have r:=ah ((Rn.refl h hi gr).below l);have c1:(w.alloc (.cells #[I J 5,I J A,I J B,I J C,Z S] 28)).cell? ⟨g,1,O⟩=some (I J n):=by rw[← M];exact p.cell 1
 have b1:(w.alloc (.cells #[I J 5,I J A,I J B,I J C,Z S] 28)).cell? ⟨w.heap.size,1,O⟩=some (I J A):=(cell_of_row _ _ _ _ _ _ u).trans rfl
 obtain⟨q,W,s⟩:=eY A n (by omega)
 have v:Hid (∀ a,Calls Tryz.prog 12 #[I J A,I J n] a fun e w'=>e=Zr (I J (q:Int))∧w'=a):=fun a=>by rw[← s];exact dR A n a hA0 hA1 (by omega) (by omega)
 have X:=ah hi;clear h hi gr z p s;go_enter Tryz.func13,Tryz.ntmps13;go_wp2_with fail;generalize w.alloc (.cells #[I J 5,I J A,I J B,I J C,Z S] 28)=x at *;go_quiet ((go_at_call 12;exact Calls.quiet_of_same (v.out _)))
 have y:=ah (r.out.below (below_drewN (Below.refl _ _) nq));have m:(x.drewN nq).heap[w.heap.size]? = some (.cells #[I J 5,I J A,I J B,I J C,Z S] 28):=((below_drewN (Below.refl x.heap.size x) nq).block _ (lt_of_block u)).trans u
 generalize x.drewN nq=b at *;clear u l c1 b1 r v;have HX:Hid (∀ a,Below b.heap.size b a→a.heap[w.heap.size]? = some (.cells #[I J 5,I J A,I J B,I J C,Z S] 28)):=fun a o=>(o.block _ (lt_of_block m)).trans m
 have i:Below b.heap.size b b:=Below.refl _ _
 clear m;have aa:q<K.nds.length:=by omega
 have b0:b.cell? ⟨w.heap.size,0,O⟩=some (I J 5):=(cell_of_row _ _ _ _ _ _ (HX.out _ i)).trans rfl
 have b1:b.cell? ⟨w.heap.size,1,O⟩=some (I J A):=(cell_of_row _ _ _ _ _ _ (HX.out _ i)).trans rfl
 have P:b.cell? ⟨w.heap.size,2,O⟩=some (I J B):=(cell_of_row _ _ _ _ _ _ (HX.out _ i)).trans rfl
 have b4:b.cell? ⟨w.heap.size,4,O⟩=some (Z S):=(cell_of_row _ _ _ _ _ _ (HX.out _ i)).trans rfl
 obtain⟨aP,cP,E⟩:=aj y.out.kst.at_.rP
 have c7:b.cell? ⟨g,7,O⟩=some (Y aP K.net.length cP):=by rw[← E];exact y.out.kst.at_.cell 7
 have ab:K.net.length≤900000000000:=by have:=jQ K;omega
 have HH:Hid (∀ a (k:Nat) (c f:Bool),Below b.heap.size b a→k<K.net.length→Calls Tryz.prog 31 #[Zp (some ⟨g,0,O⟩),I J k,.bool c,.bool f] a fun e w'=>RnE N w w' g K V 150000 e):=fun a k c f o F=>by
  have D:=y.out.below o;refine (lS D.kst.at_ D.ki D.gr k F c f (by omega)).mono ?_
  intro e w3 hs;exact StQ.rne D hs (by cases c <;> simp)
 by_cases Q:0<K.net.length
 ·have G:(0:Int)<(K.net.length:Int):=by omega
  obtain⟨k,F,t⟩:=eY A K.net.length Q
  have v:Hid (∀ a,Calls Tryz.prog 12 #[I J A,I J (K.net.length:Int)] a fun e w'=>e=Zr (I J (k:Int))∧w'=a):=fun a=>by rw[← t];exact dR A K.net.length a hA0 hA1 Q (by omega)
  clear t;go_wp2_with fail;go_quiet ((go_at_call 12;exact Calls.quiet_of_same (v.out _)))
  have j:Below b.heap.size b (b.drewN nq):=below_drewN (Below.refl _ _) nq
  generalize b.drewN nq=H at *;clear b0 b1 P b4;have b0:H.cell? ⟨w.heap.size,0,O⟩=some (I J 5):=(cell_of_row _ _ _ _ _ _ (HX.out _ j)).trans rfl
  have b1:H.cell? ⟨w.heap.size,1,O⟩=some (I J A):=(cell_of_row _ _ _ _ _ _ (HX.out _ j)).trans rfl
  have P:H.cell? ⟨w.heap.size,2,O⟩=some (I J B):=(cell_of_row _ _ _ _ _ _ (HX.out _ j)).trans rfl
  have nz:¬(2:Int)=0:=by omega
  go_wp2_with fail;refine (HH.out _ k _ _ j F).mono ?_;rintro e w9 ⟨b9,K9,V9,rfl,L⟩;go_wp2;go_ret;exact⟨b9,K9,V9,rfl,L⟩
 ·have G:¬(0:Int)<(K.net.length:Int):=by omega
  have HR:=ah (y.out.rne (d:=150000) true (by omega))
  go_wp2;go_ret;exact HR.out
theorem EH (h:KAt N w g K V) (hi:KI K) (gr:Gr K) (A B C:Int) (S:ByteArray) (hA0 : -9223372036854775808≤A) (hA1:A≤9223372036854775807) (hB0 : -9223372036854775808≤B) (hB1:B≤9223372036854775807) (hC0 : -9223372036854775808≤C) (hC1:C≤9223372036854775807) (hS:S.size≤1000000) (hm:dS K+200000≤900000000000) :
  Calls Tryz.prog 13 #[Zp (some ⟨g,0,O⟩),.agg #[I J 12,I J A,I J B,I J C,Z S]] w fun e w'=>RnE N w w' g K V 150000 e:=by
 have z:=hi.sz;obtain⟨n,R⟩:∃ n:Nat,K.n=n:=⟨K.n.toNat,by have:=z.n3;omega⟩
 have W:=z.n3;have X:=z.nds;have z7:=z.n7;rw[R] at X z7 W;have m:Below w.heap.size w (w.alloc (.cells #[I J 12,I J A,I J B,I J C,Z S] 28)):=(Below.refl _ w).alloc (Nat.le_refl _) _
 have D:=heap_alloc_new w (.cells #[I J 12,I J A,I J B,I J C,Z S] 28);have t:=h.below m;have u:=ah ((Rn.refl h hi gr).below m);have c1:(w.alloc (.cells #[I J 12,I J A,I J B,I J C,Z S] 28)).cell? ⟨g,1,O⟩=some (I J n):=by rw[← R];exact t.cell 1
 have b1:(w.alloc (.cells #[I J 12,I J A,I J B,I J C,Z S] 28)).cell? ⟨w.heap.size,1,O⟩=some (I J A):=(cell_of_row _ _ _ _ _ _ D).trans rfl
 obtain⟨q,aa,v⟩:=eY A n (by omega)
 have T:Hid (∀ c,Calls Tryz.prog 12 #[I J A,I J n] c fun e w'=>e=Zr (I J (q:Int))∧w'=c):=fun c=>by rw[← v];exact dR A n c hA0 hA1 (by omega) (by omega)
 have G:=ah hi;clear h hi gr z t v;go_enter Tryz.func13,Tryz.ntmps13;go_wp2_with fail;generalize w.alloc (.cells #[I J 12,I J A,I J B,I J C,Z S] 28)=E at *;go_quiet ((go_at_call 12;exact Calls.quiet_of_same (T.out _)))
 have s:=ah (u.out.below (below_drewN (Below.refl _ _) nq));have o:(E.drewN nq).heap[w.heap.size]? = some (.cells #[I J 12,I J A,I J B,I J C,Z S] 28):=((below_drewN (Below.refl E.heap.size E) nq).block _ (lt_of_block D)).trans D
 generalize E.drewN nq=a at *;clear D m c1 b1 u T;have HX:Hid (∀ c,Below a.heap.size a c→c.heap[w.heap.size]? = some (.cells #[I J 12,I J A,I J B,I J C,Z S] 28)):=fun c p=>(p.block _ (lt_of_block o)).trans o
 have j:Below a.heap.size a a:=Below.refl _ _
 clear o;have ab:q<K.nds.length:=by omega
 have b0:a.cell? ⟨w.heap.size,0,O⟩=some (I J 12):=(cell_of_row _ _ _ _ _ _ (HX.out _ j)).trans rfl
 have b1:a.cell? ⟨w.heap.size,1,O⟩=some (I J A):=(cell_of_row _ _ _ _ _ _ (HX.out _ j)).trans rfl
 have U:a.cell? ⟨w.heap.size,2,O⟩=some (I J B):=(cell_of_row _ _ _ _ _ _ (HX.out _ j)).trans rfl
 have b4:a.cell? ⟨w.heap.size,4,O⟩=some (Z S):=(cell_of_row _ _ _ _ _ _ (HX.out _ j)).trans rfl
 obtain⟨aP,cP,H⟩:=aj s.out.kst.at_.rP
 have c7:a.cell? ⟨g,7,O⟩=some (Y aP K.net.length cP):=by rw[← H];exact s.out.kst.at_.cell 7
 have ac:K.net.length≤900000000000:=by have:=jQ K;omega
 have HH:Hid (∀ c (k:Nat) (b f:Bool),Below a.heap.size a c→k<K.net.length→Calls Tryz.prog 31 #[Zp (some ⟨g,0,O⟩),I J k,.bool b,.bool f] c fun e w'=>RnE N w w' g K V 150000 e):=fun c k b f p L=>by
  have F:=s.out.below p;refine (lS F.kst.at_ F.ki F.gr k L b f (by omega)).mono ?_
  intro e w3 hs;exact StQ.rne F hs (by cases b <;> simp)
 by_cases l:(S.size:Int)=1
 ·have x:((S.size:Int)==1)=true:=beq_iff_eq.2 l
  have HF:Hid (Calls Tryz.prog 32 #[Zp (some ⟨g,0,O⟩),Z S,I J q] a fun e w'=>KU K.net.length a w' e):=Gz s.out.kst.at_ S q (fun y hy=>(G.out.net y hy).2.2)
  clear l c7;go_wp2_with fail;refine HF.out.mono ?_;rintro e M ⟨r,rfl,ad,ae,i⟩;clear b0 b1 U b4;have b0:M.cell? ⟨w.heap.size,0,O⟩=some (I J 12):=(cell_of_row _ _ _ _ _ _ (HX.out _ i)).trans rfl
  have b1:M.cell? ⟨w.heap.size,1,O⟩=some (I J A):=(cell_of_row _ _ _ _ _ _ (HX.out _ i)).trans rfl
  have U:M.cell? ⟨w.heap.size,2,O⟩=some (I J B):=(cell_of_row _ _ _ _ _ _ (HX.out _ i)).trans rfl
  by_cases hr:0≤r
  ·obtain⟨k,rfl⟩:=Int.eq_ofNat_of_zero_le hr
   have L:k<K.net.length:=by omega
   go_wp2_with fail;refine (HH.out _ k _ _ i L).mono ?_;rintro e w9 ⟨b9,K9,V9,rfl,P⟩;go_wp2;go_ret;exact⟨b9,K9,V9,rfl,P⟩
  ·have Q:=ah ((s.out.below i).rne (d:=150000) true (by omega))
   go_wp2;go_ret;exact Q.out
 ·have x:((S.size:Int)==1)=false:=beq_eq_false_iff_ne.2 l
  have Q:=ah (s.out.rne (d:=150000) true (by omega))
  clear l;go_wp2;go_ret;exact Q.out
theorem EG (h:KAt N w g K V) (hi:KI K) (gr:Gr K) (A B C:Int) (S:ByteArray) (hA0 : -9223372036854775808≤A) (hA1:A≤9223372036854775807) (hB0 : -9223372036854775808≤B) (hB1:B≤9223372036854775807) (hC0 : -9223372036854775808≤C) (hC1:C≤9223372036854775807) (hS:S.size≤1000000) (hm:dS K+200000≤900000000000) :
  Calls Tryz.prog 13 #[Zp (some ⟨g,0,O⟩),.agg #[I J 11,I J A,I J B,I J C,Z S]] w fun e w'=>RnE N w w' g K V 150000 e:=by
 have z:=hi.sz;obtain⟨n,hn⟩:∃ n:Nat,K.n=n:=⟨K.n.toNat,by have:=z.n3;omega⟩
 have z3:=z.n3;have z1:=z.nds;have z7:=z.n7;rw[hn] at z1 z7 z3;have l:Below w.heap.size w (w.alloc (.cells #[I J 11,I J A,I J B,I J C,Z S] 28)):=(Below.refl _ w).alloc (Nat.le_refl _) _
 have F:=heap_alloc_new w (.cells #[I J 11,I J A,I J B,I J C,Z S] 28);have t:=h.below l;have u:=ah ((Rn.refl h hi gr).below l);have c1:(w.alloc (.cells #[I J 11,I J A,I J B,I J C,Z S] 28)).cell? ⟨g,1,O⟩=some (I J n):=by rw[← hn];exact t.cell 1
 have b1:(w.alloc (.cells #[I J 11,I J A,I J B,I J C,Z S] 28)).cell? ⟨w.heap.size,1,O⟩=some (I J A):=(cell_of_row _ _ _ _ _ _ F).trans rfl
 obtain⟨q,af,v⟩:=eY A n (by omega)
 have G:Hid (∀ a,Calls Tryz.prog 12 #[I J A,I J n] a fun e w'=>e=Zr (I J (q:Int))∧w'=a):=fun a=>by rw[← v];exact dR A n a hA0 hA1 (by omega) (by omega)
 have ai:=ah hi;clear h hi gr z t v;go_enter Tryz.func13,Tryz.ntmps13;go_wp2_with fail;generalize w.alloc (.cells #[I J 11,I J A,I J B,I J C,Z S] 28)=H at *;go_quiet ((go_at_call 12;exact Calls.quiet_of_same (G.out _)))
 have HL:=ah (u.out.below (below_drewN (Below.refl _ _) nq));have o:(H.drewN nq).heap[w.heap.size]? = some (.cells #[I J 11,I J A,I J B,I J C,Z S] 28):=((below_drewN (Below.refl H.heap.size H) nq).block _ (lt_of_block F)).trans F
 generalize H.drewN nq=f at *;clear F l c1 b1 u G;have HX:Hid (∀ a,Below f.heap.size f a→a.heap[w.heap.size]? = some (.cells #[I J 11,I J A,I J B,I J C,Z S] 28)):=fun a R=>(R.block _ (lt_of_block o)).trans o
 have j:Below f.heap.size f f:=Below.refl _ _
 clear o;have ak:q<K.nds.length:=by omega
 have b0:f.cell? ⟨w.heap.size,0,O⟩=some (I J 11):=(cell_of_row _ _ _ _ _ _ (HX.out _ j)).trans rfl
 have b1:f.cell? ⟨w.heap.size,1,O⟩=some (I J A):=(cell_of_row _ _ _ _ _ _ (HX.out _ j)).trans rfl
 have b2:f.cell? ⟨w.heap.size,2,O⟩=some (I J B):=(cell_of_row _ _ _ _ _ _ (HX.out _ j)).trans rfl
 have b4:f.cell? ⟨w.heap.size,4,O⟩=some (Z S):=(cell_of_row _ _ _ _ _ _ (HX.out _ j)).trans rfl
 obtain⟨m,ae,x⟩:=eY A 64 (by omega)
 have G:Hid (∀ a,Calls Tryz.prog 12 #[I J A,I J 64] a fun e w'=>e=Zr (I J (m:Int))∧w'=a):=fun a=>by
  have:=dR A 64 a hA0 hA1 (by omega) (by omega)
  rw[← x];exact this
 have T:Hid (∀ (wr:World) (y:Kw) (M:Kv),Rn N w wr g K V 0 y M→0<y.net.length→Calls Tryz.prog 31 #[Zp (some ⟨g,0,O⟩),I J 0,.bool true,.bool false] wr fun e w'=>∃ b r s,e=Zr (.bool b)∧(b=false→RnE N w w' g K V 150000 (Zr (.bool false)))∧(b=true→Rn N w w' g K V 0 r s)):=fun wr y M L hk=>by
  refine (lS L.kst.at_ L.ki L.gr 0 hk true false (by have:=L.ms;omega)).mono ?_
  rintro e a ⟨b,r,s,rfl,k2,D,U,W,n2,X⟩;simp only[if_true,Bool.false_eq_true,if_false] at U W;have:=L.ms
  exact⟨b,r,s,rfl,fun hb=>⟨false,r,s,rfl,L.kst.trans k2,D,by omega,n2.trans L.n,fun h=>by simp at h⟩,fun hb=>⟨L.kst.trans k2,D,by omega,n2.trans L.n,X hb⟩⟩
 clear x;go_wp2_with fail;refine (G.out _).mono ?_;rintro e wC ⟨rfl,aa⟩;subst aa;clear b0 b1 b2 b4;go_wp2_with fail;go_loopw [21] (fun i wr=>∃ (k:Nat) (y:Kw) (M:Kv),k≤64∧i=I J k∧Rn N w wr g K V 0 y M) (fun i _=>(intOf i).toNat)
 case atStart=>exact⟨m,K,V,by omega,rfl,HL.out⟩
 case round =>
  obtain⟨k,P,V1,hk,rfl,Q⟩:=hrel
  have E:=ah Q;obtain⟨aP,cP,ab⟩:=aj Q.kst.at_.rP
  have c7:wr.cell? ⟨g,7,O⟩=some (Y aP P.net.length cP):=by rw[← ab];exact Q.kst.at_.cell 7
  clear Q;have HR:=ah (E.out.rne (d:=150000) true (by omega))
  by_cases al:0<k
  ·have ac:(0:Int)<(k:Int):=by omega
   by_cases hp:0<P.net.length
   ·have ad:(0:Int)<(P.net.length:Int):=by omega
    have HQ:=ah (T.out _ _ _ E.out hp);go_wp2_with fail;refine HQ.out.mono ?_;rintro e a ⟨b,r,s,rfl,p,c⟩;cases b
    ·have HF:=ah (p rfl);clear p c;go_wp2;go_ret;exact HF.out
    ·have HY:=ah (c rfl);clear p c;go_wp2;go_roundw
     case rel=>exact⟨k-1,r,s,by omega,by rw[show ((k-1:Nat):Int)=(k:Int)-1 by omega],HY.out⟩
     case measure=>simp[intOf];omega
   ·have ad:¬(0:Int)<(P.net.length:Int):=by omega
    go_wp2;go_ret;exact HR.out
  ·have ac:¬(0:Int)<(k:Int):=by omega
   go_wp2;go_ret;exact HR.out
end
def oN (s:ByteArray) (lo hi:Nat) (w w':World) (e:Ending):Prop:=∃ b,e=Zr (.bool b)∧(b=true→(lo≤s.size∧s.size≤hi)∧(32:UInt8)∉s.data.toList∧jk s=false)∧w'=w
theorem oN.no {s:ByteArray} {lo hi:Nat} (w:World):oN s lo hi w w (Zr (.bool false)):=⟨false,rfl,fun h=>by simp at h,rfl⟩
theorem oN.any {s:ByteArray} {lo hi:Nat} (b:Bool) (w:World) (h:b=true→lo≤s.size∧s.size≤hi) (h1:(32:UInt8)∉s.data.toList) (h2:jk s=false):oN s lo hi w w (Zr (.bool b)):=⟨b,rfl,fun q=>⟨h q,h1,h2⟩,rfl⟩
theorem Pz {s:ByteArray} (h:∀ (j:Nat) (hj:j<s.size),(48:Int)≤(s[j].toNat:Int)):(32:UInt8)∉s.data.toList:=fun b=>by
 obtain⟨j,hj,e⟩:=List.getElem_of_mem b
 have a:j<s.size:=by rw[Array.length_toList] at hj;exact hj
 have q:=h j a;have c:s.data.toList[j]=s[j]:=by simp;rfl
 rw[← c,e] at q;have:(32:UInt8).toNat=32:=rfl
 omega
theorem Py {s:ByteArray} (h0:0<s.size) (h:(s[0].toNat:Int)≠114):jk s=false:=by
 cases q:jk s
 ·rfl
 ·have:=yZ.2 q
  unfold b0 at this;rw[atS h0] at this;exact absurd this h
theorem zT (s:ByteArray) (w:World) (hs:s.size≤1000000000) :
  Calls Tryz.prog 27 #[Z s] w fun e w'=>oN s 1 8 w w' e:=by
 go_enter Tryz.func27,Tryz.ntmps27;go_wp2_with fail;go_loopw [3] (fun i wr=>∃ k:Nat,k≤s.size∧i=I J k∧wr=w∧Hid (∀ (j:Nat) (a:j<s.size),j<k→(48:Int)≤(s[j].toNat:Int)∧(s[j].toNat:Int)≤57)) (fun i _=>s.size-(intOf i).toNat)
 case atStart=>exact⟨0,Nat.zero_le _,rfl,rfl,fun j a h=>by omega⟩
 case round =>
  obtain⟨k,m,rfl,b,c⟩:=hrel
  subst b;by_cases l:k<s.size
  ·have n:(0:Int)≤(k:Int):=by omega
   have o:(k:Int)<(s.size:Int):=by omega
   by_cases p:(s[k].toNat:Int)<48
   ·go_wp2;go_ret;exact oN.no _
   ·by_cases q:(57:Int)<(s[k].toNat:Int)
    ·go_wp2;go_ret;exact oN.no _
    ·have d:Hid (∀ (j:Nat) (a:j<s.size),j<k+1→(48:Int)≤(s[j].toNat:Int)∧(s[j].toNat:Int)≤57):=fun j a h=>by
      by_cases e:j=k
      ·subst e;exact⟨by omega,by omega⟩
      ·exact c.out j a (by omega)
     go_wp2;go_roundw
     case rel=>exact⟨k+1,by omega,by go_num,trivial,d⟩
     case measure=>simp[intOf];omega
  ·by_cases r:(0:Int)<(s.size:Int)
   ·by_cases t:(s.size:Int)≤8
    ·have f:=Pz (s:=s) (fun j a=>(c.out j a (by omega)).1)
     have g:=Py (s:=s) (by omega) (by have:=(c.out 0 (by omega) (by omega)).2;omega)
     go_wp2;go_ret;exact oN.any true _ (fun _=>⟨by omega,by omega⟩) f g
    ·go_wp2;go_ret;exact oN.no _
   ·go_wp2;go_ret;exact oN.no _
theorem GD (s:ByteArray) (w:World) (hs:s.size≤1000000000) :
  Calls Tryz.prog 25 #[Z s] w fun e w'=>oN s 2 4 w w' e:=by
 by_cases p:(s.size:Int)<2
 ·go_enter Tryz.func25,Tryz.ntmps25;go_wp2;go_ret;exact oN.no _
 have y:(1:Int)<(s.size:Int):=by omega
 have z:(0:Int)<(s.size:Int):=by omega
 by_cases A:(s[1].toNat:Int)<97
 ·go_enter Tryz.func25,Tryz.ntmps25;go_wp2;go_ret;exact oN.no _
 by_cases B:(122:Int)<(s[1].toNat:Int)
 ·go_enter Tryz.func25,Tryz.ntmps25;go_wp2;go_ret;exact oN.no _
 go_enter Tryz.func25,Tryz.ntmps25;go_wp2_with fail;go_loopw [3] (fun i wr=>∃ k:Nat,k≤s.size∧i=I J k∧wr=w∧Hid (∀ (j:Nat) (c:j<s.size),1≤j→j<k→(48:Int)≤(s[j].toNat:Int))) (fun i _=>s.size-(intOf i).toNat)
 case atStart=>exact⟨2,by omega,rfl,rfl,fun j c a p=>by
   have:j=1:=by omega
   subst this;omega⟩
 case round =>
  obtain⟨k,C,rfl,o,q⟩:=hrel
  subst o;by_cases r:k<s.size
  ·have D:(0:Int)≤(k:Int):=by omega
   have E:(k:Int)<(s.size:Int):=by omega
   by_cases t:(48:Int)≤(s[k].toNat:Int)
   ·have d:Hid (∀ (j:Nat) (c:j<s.size),1≤j→j<k+1→(48:Int)≤(s[j].toNat:Int)):=fun j c a p=>by
     by_cases e:j=k
     ·subst e;exact t
     ·exact q.out j c a (by omega)
    by_cases g2:(s[k].toNat:Int)≤57
    ·go_wp2;go_roundw
     case rel=>exact⟨k+1,by omega,by go_num,trivial,d⟩
     case measure=>simp[intOf];omega
    ·by_cases g3:(97:Int)≤(s[k].toNat:Int)
     ·by_cases F:(s[k].toNat:Int)≤122
      ·go_wp2;go_roundw
       case rel=>exact⟨k+1,by omega,by go_num,trivial,d⟩
       case measure=>simp[intOf];omega
      ·go_wp2;go_ret;exact oN.no _
     ·go_wp2;go_ret;exact oN.no _
   ·have g3:¬(97:Int)≤(s[k].toNat:Int):=by omega
    go_wp2;go_ret;exact oN.no _
  ·have f:Hid (∀ m:Nat,2≤m→m≤4→(48:Int)≤(s[0].toNat:Int)→(s[0].toNat:Int)≠114→oN s 2 4 wr wr (Zr (.bool ((s.size:Int)==m)))):=fun m G u v x=>oN.any _ _ (fun h=>by have:=beq_iff_eq.1 h;omega) (Pz (fun j c=>by
     by_cases e:j=0
     ·subst e;exact v
     ·exact q.out j c (by omega) (by omega))) (Py (by omega) x)
   by_cases a:(s[0].toNat:Int)=103
   ·have b:=f.out 2 (by omega) (by omega) (by omega) (by omega)
    have a:((s[0].toNat:Int)==103)=true:=beq_iff_eq.2 a
    go_wp2;go_ret;exact b
   have a:((s[0].toNat:Int)==103)=false:=beq_eq_false_iff_ne.2 a
   by_cases g:(s[0].toNat:Int)=100
   ·have b:=f.out 2 (by omega) (by omega) (by omega) (by omega)
    have g:((s[0].toNat:Int)==100)=true:=beq_iff_eq.2 g
    go_wp2;go_ret;exact b
   have g:((s[0].toNat:Int)==100)=false:=beq_eq_false_iff_ne.2 g
   by_cases l:(s[0].toNat:Int)=112
   ·have b:=f.out 3 (by omega) (by omega) (by omega) (by omega)
    have l:((s[0].toNat:Int)==112)=true:=beq_iff_eq.2 l
    go_wp2;go_ret;exact b
   have l:((s[0].toNat:Int)==112)=false:=beq_eq_false_iff_ne.2 l
   by_cases n:(s[0].toNat:Int)=99
   ·have b:=f.out 4 (by omega) (by omega) (by omega) (by omega)
    have n:((s[0].toNat:Int)==99)=true:=beq_iff_eq.2 n
    go_wp2;go_ret;exact b
   have n:((s[0].toNat:Int)==99)=false:=beq_eq_false_iff_ne.2 n
   go_wp2;go_ret;exact oN.no _
section
variable {N:Nat} {w w':World} {g:Nat} {K K':Kw} {V V':Kv}
theorem KAt.PU {w1 w2:World} {x:Nod} {v':Value} (h:KAt N w g K V) (hB:Below w.heap.size w w1) (hR:au w1 x.b x.bl x.W x.F x.R x.V) (hF:∀ y∈x.F,w.heap.size≤y)
  (k:Kp V.vN.ownBlock.toList w1 w2) (ho:w2.ownsRow 0 29 1 v' (K.nds++[x]).length ((K.nds++[x]).map nR)) (hb:∀ y,v'.ownBlock=some y→V.vN.ownBlock=some y∨w1.heap.size≤y) :
  Kst N w (w2.setCell ⟨g,2,O⟩ v') g K V { K with nds:=K.nds++[x] } { V with vN:=v' }:=by
 have n:=h.below hB;have e:(dB g K V)[1]? = some V.vN.ownBlock.toList:=xA (i:=0) (r:=⟨29,1,V.vN,K.nds.length,K.nds.map nR⟩) rfl
 have S:=h.lb;have T:=hB.size;have A:some g≠V.vN.ownBlock:=h.gne (i:=0) (r:=⟨29,1,V.vN,K.nds.length,K.nds.map nR⟩) rfl
 have H:v'.ownBlock≠some g:=fun f=>by
  rcases hb g f with q|q
  ·exact A q.symm
  ·omega
 have B:Kp ([g]++V.vN.ownBlock.toList) w1 (w2.setCell ⟨g,2,O⟩ v'):=(k.wid (S':=[g]++V.vN.ownBlock.toList) (fun x G=>by simp at G;simp[G])).set g 2 _ (.inl (by simp))
 have C:∀ t,t≠0→t≠1→Off (dB g K V) ([g]++V.vN.ownBlock.toList) t:=fun t U n=>Off.app (Off.one (i:=0) Bf (fun _ h=>h) (fun f=>U f.symm)) (Off.one e (fun _ h=>h) (fun f=>n f.symm))
 have D:∀ x∈[g]++V.vN.ownBlock.toList,x∈je g K V:=fun x G=>by
  rcases List.mem_append.1 G with q|q
  ·exact iP (i:=0) Bf x q
  ·exact iP e x q
 have s:dB g { K with nds:=K.nds++[x] } { V with vN:=v' }=(dB g K V).set 1 v'.ownBlock.toList++[x.F]:=by
  unfold dB fC;simp
 have l:∀ c∈dB g K V,∀ y∈c,y<w.heap.size:=h.lt
 have o:0∉[g]++V.vN.ownBlock.toList:=n.no0 D
 have L:∀ y∈x.F,y<w1.heap.size:=hR.fl
 have M:∀ c∈(dB g K V).set 1 v'.ownBlock.toList,∀ y∈c,y<w.heap.size∨w1.heap.size≤y:=fun c f y d=>by
  rcases List.mem_or_eq_of_mem_set f with q|rfl
  ·exact .inl (l c q y d)
  ·rcases hb y (by simpa using d) with q|q
   ·exact .inl (l _ (List.mem_of_getElem? e) y (by simp[q]))
   ·exact .inr q
 refine⟨⟨?_,?_,?_,?_,?_,h.n0,n.tab.kp B o⟩,((Kp.of_below hB).trans' (B.wid D)),?_⟩
 ·exact heap_setCell_same w2 g 2 _ _ _ ((n.zC k (Off.one e (fun _ h=>h) (by omega))).trans n.blk)
 ·intro r0 hr0;obtain⟨m,Q⟩:=List.getElem?_of_mem hr0
  cases m with
  | zero =>
   have:r0=⟨29,1,v',(K.nds++[x]).length,(K.nds++[x]).map nR⟩:=by
    have:some _=some r0:=Q
    exact (Option.some.inj this).symm
   subst this;exact fF ho ((Kp.refl [g] w2).set g 2 _ (.inl (by simp))) (fun y d f=>by simp at f;subst f;exact H d)
  | succ m =>
   have P:(fC K V)[m+1]? = some r0:=Q
   exact n.pI B P (C _ (by omega) (by omega))
 ·intro y d;rcases List.mem_append.1 d with q|q
  ·obtain⟨j,X⟩:=List.getElem?_of_mem q
   exact n.pE B X (C _ (by omega) (by omega))
  ·simp at q;subst q;refine hR.far B (fun z hz f=>?_) o
   have:=hF z f
   rcases List.mem_append.1 hz with p|p
   ·simp at p;omega
   ·have:=l _ (List.mem_of_getElem? e) z p;omega
 ·rw[s];refine List.pairwise_append.2 ⟨h.ap.put (N:=w1.heap.size) (fun a v y d=>by have:=l a v y d;omega) (fun a v y d=>?_),List.pairwise_singleton _ _,fun a v c f y d E=>?_⟩
  ·rw[e] at v;cases v;exact (hb y (by simpa using d)).imp (fun p=>by simp[p]) id
  ·simp at f;subst f;have:=hF y E
   have:=L y E
   rcases M a v y d with p|p <;> omega
 ·rw[s];intro c u y d;have hN:=h.Nlt;rcases List.mem_append.1 u with q|q
  ·rcases List.mem_or_eq_of_mem_set q with q|rfl
   ·exact h.lo c q y d
   ·rcases hb y (by simpa using d) with p|p
    ·exact h.lo _ (List.mem_of_getElem? e) y (by simp[p])
    ·omega
  ·simp at q;subst q;have:=hF y d
   omega
 ·intro y d;unfold je at d;rw[s] at d;obtain⟨c,u,d⟩:=List.mem_flatten.1 d
  rcases List.mem_append.1 u with q|q
  ·rcases List.mem_or_eq_of_mem_set q with q|rfl
   ·exact .inl (List.mem_flatten.2 ⟨c,q,d⟩)
   ·rcases hb y (by simpa using d) with p|p
    ·exact .inl (iP e y (by simp[p]))
    ·exact .inr (by omega)
  ·simp at q;subst q;exact .inr (hF y d)
def K0 (n:Int):Kw:=⟨0,n,[],[],[],0,0,[],[],[],[],[],0⟩
def V0:Kv:=⟨Y O 0 0,Y O 0 0,Y O 0 0,Y O 0 0,Y O 0 0,Y O 0 0,Y O 0 0,Y O 0 0⟩
theorem KAt.fresh {n:Int} (hT:Tab w) (hN:0<N) (hNw:N≤w.heap.size):KAt N (w.alloc (.cells (mg (K0 n) V0) 50)) w.heap.size (K0 n) V0:=by
 have a:dB w.heap.size (K0 n) V0=[[w.heap.size],[],[],[],[],[],[],[],[]]:=rfl
 refine⟨heap_alloc_new w _,fun r b=>?_,by simp[K0],?_,?_,hN,hT.below ((Below.refl _ w).alloc (Nat.le_refl _) _)⟩
 ·simp only[fC,K0,V0,List.mem_cons,List.not_mem_nil,or_false] at b;rcases b with rfl|rfl|rfl|rfl|rfl|rfl|rfl|rfl <;> exact World.ownsRow_nil _ _ _ _
 ·rw[a];simp[Ap]
 ·rw[a];intro c hc x hx;simp at hc;rcases hc with rfl|rfl
  ·simp at hx;omega
  ·simp at hx
theorem Ht {id n:Int} {s:ByteArray} (hn:3≤n∧n≤7∧0≤id∧id<n) (hg:bK s.data.toList n=true):Ok (Rp.new id n (dN s)):=by
 have b:fG n (dN s):=by
  have:=rZ s n
  rwa [(Ca hg).1] at this
 refine⟨hn.1,hn.2.1,hn.2.2.1,hn.2.2.2,?_,fun x a=>?_,?_,by simp[Rp.new,Rp.mk0],by simp[Rp.new,Rp.mk0],by simp[Rp.new,Rp.mk0],b,fG.nil _,by simp[Rp.new,Rp.mk0],by simp[Rp.new,Rp.mk0],by simp[Rp.new,Rp.mk0],by simp[Rp.new,Rp.mk0],by simp[Rp.new,Rp.mk0],by simp[Rp.new,Rp.mk0],by simp[Rp.new,Rp.mk0]⟩
 ·show ((cZ n.toNat).length:Int)=n
  rw[AZ];omega
 ·have a:x∈cZ n.toNat:=a
  unfold cZ at a;have:=List.eq_of_mem_replicate a
  omega
 ·show 1≤(if gW (dN s) id=true then (1:Int) else 4)∧(if gW (dN s) id=true then (1:Int) else 4)≤5
  split <;> omega
structure Cl (n0:Int) (k m:Nat) (grp:ByteArray) (K:Kw):Prop where
 part:K.part=0
 n:K.n=n0
 nl:K.nds.length=k
 dl:K.down.length=k
 bl:K.begun.length=k
 lv:K.lives=0
 net:K.net=[]
 ws:K.wishes=[]
 ol:K.opn=List.replicate m (-1)
 ls:K.list=[]
 gs:K.groups=[grp]
 fl:K.floor=0
 nod:∀ (q:Nat) (x:Nod),K.nds[q]? = some x→NI n0 q x∧x.R=Rp.new q n0 (dN grp)
theorem Cl.ki {n:Int} {grp:ByteArray} {k:Nat} (h:Cl n k 10 grp K) (hn:3≤n∧n≤7) (hk:(k:Int)=n) (hg:bK grp.data.toList n=true):KI K∧Gr K∧dS K≤208000000000:=by
 have f:=h.n;have g:=h.nl;have i:=h.dl;have l:=h.bl;refine⟨⟨⟨by omega,by omega,by omega,by omega,by omega,by rw[h.ol];simp⟩,.inl h.part,fun q x b=>by rw[h.n];exact (h.nod q x b).1,by rw[h.net];simp,by rw[h.ws];simp,fun v c=>?_,by rw[h.ls];exact⟨by simp,by simp⟩,fun t a=>?_,by rw[h.lv];omega,by rw[h.gs,h.ls];simp⟩,show CI K from ⟨by rw[h.ls,h.gs,h.n];exact⟨⟨grp,rfl⟩,fun t a=>by simp at a;subst a;exact hg⟩,by rw[h.ws];simp[wt],by rw[h.ws];exact .nil,by rw[h.fl,h.ls,h.ws];simp,by rw[h.ws];simp,fun x b=>?_,by rw[h.net];simp,HC.begin h.ls h.net h.lv (fun j x b=>(h.nod j x b).2)⟩,?_⟩
 ·rw[h.ol] at c;have:=List.eq_of_mem_replicate c
  omega
 ·rw[h.gs] at a;simp at a;subst a;rw[h.n];exact hg
 ·obtain⟨q,d⟩:=List.getElem?_of_mem b
  have e:GI [] [grp] n:=⟨⟨grp,rfl⟩,fun t a=>by simp at a;subst a;exact hg⟩
  rw[h.ls,h.ws,h.gs,(h.nod q x d).2];exact⟨Qn e _,fun _=>by simp[Rp.new,Rp.mk0,regs],⟨by simp[Rp.new,Rp.mk0],by simp[Rp.new,Rp.mk0]⟩⟩
 ·have:=IW K.nds
  unfold dS;rw[h.net,h.ws,h.lv];simp
  omega
end
theorem Tryz.infoPt:(Tryz.prog.info? 29).map (fun i=>(i.zero,i.size,i.bytes))=some (some (Zp O),1,8):=by kernel_rfl
theorem Tryz.infoBo:(Tryz.prog.info? 4).map (fun i=>(i.zero,i.size,i.bytes))=some (some (.bool false),1,1):=by kernel_rfl
section
variable {N:Nat} {w w':World} {g:Nat} {K K':Kw} {V V':Kv}
def ClP (N:Nat) (w w':World) (n:Int) (e:Ending):Prop:=∃ g K V,e=Zr (Zp (some ⟨g,0,O⟩))∧KAt N w' g K V∧KI K∧Gr K∧K.n=n∧dS K≤208000000000∧Below w.heap.size w w'
theorem vE (n:Nat) (s:ByteArray) (w:World) (hT:Tab w) (hN:0<N) (hNw:N≤w.heap.size) (hn3:3≤n) (hn7:n≤7) (hs:s.size≤1000000) :
  Calls Tryz.prog 11 #[I J n,Z s] w fun e w'=>ClP N w w' n e:=by
 obtain⟨bh,bi,ao,ap,aq⟩:=info_parts Tryz.infoStr
 obtain⟨bj,bk,ar,av,aw⟩:=info_parts Tryz.infoPt
 obtain⟨bm,bn,ax,az,a0⟩:=info_parts Tryz.infoBo
 obtain⟨a1,a2,ab,ac,ad⟩:=info_parts Tryz.infoInt
 have ae:Below w.heap.size w (w.alloc (.cells #[I J 0,I J (n:Int),Y O 0 0,Y O 0 0,Y O 0 0,I J 0,I J 0,Y O 0 0,Y O 0 0,Y O 0 0,Y O 0 0,Y O 0 0,I J 0] 50)):=(Below.refl _ w).alloc (Nat.le_refl _) _
 have bo:Hid (KAt N (w.alloc (.cells #[I J 0,I J (n:Int),Y O 0 0,Y O 0 0,Y O 0 0,I J 0,I J 0,Y O 0 0,Y O 0 0,Y O 0 0,Y O 0 0,Y O 0 0,I J 0] 50)) w.heap.size (K0 n) V0):=KAt.fresh (n:=n) hT hN hNw
 have bp:Hid (∀ {w2:World},Kp (je w.heap.size (K0 n) V0) (w.alloc (.cells #[I J 0,I J (n:Int),Y O 0 0,Y O 0 0,Y O 0 0,I J 0,I J 0,Y O 0 0,Y O 0 0,Y O 0 0,Y O 0 0,Y O 0 0,I J 0] 50)) w2→Below w.heap.size w w2):=fun k=>rV ae k (fun y hy=>by
  have e:je w.heap.size (K0 n) V0=[w.heap.size]:=rfl
  rw[e] at hy;simp at hy;omega)
 have a3:=ah (hT.below ae);have a4:0<(w.alloc (.cells #[I J 0,I J (n:Int),Y O 0 0,Y O 0 0,Y O 0 0,I J 0,I J 0,Y O 0 0,Y O 0 0,Y O 0 0,Y O 0 0,Y O 0 0,I J 0] 50)).heap.size:=by simp
 clear hT ae;by_cases hg:bK s.data.toList n=true
 focus
  have P:=ah (ow 0 n s _ a3.out (by unfold maxLen;omega) ⟨by omega,by omega,by omega,by omega⟩ hg a4)
  have H:Hid (bK s.data.toList (n:Int)=true):=hg
  obtain⟨A,rfl⟩:∃ x,x=s:=⟨_,rfl⟩
 rotate_left
 focus
  have hg:bK s.data.toList n=false:=by simpa using hg
  have P:=ah (H9 0 n s (w.alloc (.cells #[I J 0,I J (n:Int),Y O 0 0,Y O 0 0,Y O 0 0,I J 0,I J 0,Y O 0 0,Y O 0 0,Y O 0 0,Y O 0 0,Y O 0 0,I J 0] 50)) (by unfold maxLen;omega) ⟨by omega,by omega,by omega,by omega⟩ hg)
  have H:Hid (bK (⟨#[48,49,50]⟩:ByteArray).data.toList (n:Int)=true):=by
   have:n=3∨n=4∨n=5∨n=6∨n=7:=by omega
   show bK _ _=true
   rcases this with rfl|rfl|rfl|rfl|rfl <;> decide
  have b9:(⟨#[48,49,50]⟩:ByteArray).size≤1000000:=by decide
 rotate_left
 all_goals
  clear hg a4 a3;go_enter Tryz.func11,Tryz.ntmps11;go_wp2_with fail;generalize w.alloc (.cells #[I J 0,I J (n:Int),Y O 0 0,Y O 0 0,Y O 0 0,I J 0,I J 0,Y O 0 0,Y O 0 0,Y O 0 0,Y O 0 0,Y O 0 0,I J 0] 50)=w1 at *;refine P.out.mono ?_
 focus
  rintro e L ⟨b1,ca,W1,F1,V1,rfl,_,_,_,af⟩
 rotate_left
 focus
  rintro e L ⟨rfl,af⟩
 rotate_left
 all_goals
  obtain⟨B,U⟩:∃ x,x=K0 (n:Int):=⟨_,rfl⟩
  obtain⟨VB,a5⟩:∃ x,x=V0:=⟨_,rfl⟩
  have ai:Hid (Kst N w1 L w.heap.size (K0 n) V0 B VB):=by rw[U,a5];exact (Kst.refl bo.out).below af
  have b8:B.groups.length≤10:=by rw[U];simp[K0]
  have bq:=ah U;clear af P a5 U
 rotate_left
 focus
  go_upto_region 5 with fail
  generalize hGGe:(⟨#[48,49,50]⟩:ByteArray)=A at *;have H:Hid (bK A.data.toList (n:Int)=true):=by rw[← hGGe];exact H.out
  clear hGGe
 rotate_left
 all_goals
  have j:=ai.out.at_;obtain⟨D,E,l⟩:=aj j.rG
  have a:=j.rG;have C:L.cell? ⟨w.heap.size,11,O⟩=some VB.vG:=j.cell 11
  have G:=j.free 11;have g:some w.heap.size≠VB.vG.ownBlock:=j.gne (i:=7) rfl
  rw[l] at a C g;have m:w.heap.size<L.heap.size:=j.lb
  clear j;go_upto_region 6 with (at_builtin;refine wpList_append_lies (w:=L.alloc (.cells #[Z A] 9)) (by rfl) (.tmp 27) (.tmp 29) 48 (by rfl) 0 9 bh (Z Ze) 1 16 Tryz.underlying48 bi ao ap aq rfl (by decide) (Y D B.groups.length E) B.groups.length (B.groups.map Value.string) (by rfl) (a.alloc _) ⟨L.heap.size,0,O⟩ 1 1 [Z A] (by rfl) (by rfl) (World.news_of_block (heap_alloc_new L (.cells #[Z A] 9))) (by intro u o;simp at o;subst o;rfl) (by decide) (by unfold maxLen;omega) (by omega) (Nat.zero_le _) (L.heap.size+1) (by simp) ?_;intro g4 cap4 w4 hown4 hg4 hat4 hlt4;have f:Below L.heap.size L (L.alloc (.cells #[Z A] 9)):=(Below.refl _ L).alloc (Nat.le_refl _) _;have t4:w4.cell? ⟨w.heap.size,11,O⟩=some (Y D B.groups.length E):=(hg4.cell_far ⟨w.heap.size,11,O⟩ (by simp;omega) g).trans ((f.cell (p:=⟨w.heap.size,11,O⟩) m).trans C);have f4:w4.frozen? ⟨w.heap.size,11,O⟩=false:=(hg4.frozen_far ⟨w.heap.size,11,O⟩ (by simp;omega) g).trans ((f.frozen (p:=⟨w.heap.size,11,O⟩) m).trans G))
  have t:w4.ownsRow 0 9 1 (Y (some ⟨g4,0,O⟩) (B.groups.length+1) cap4) (B.groups++[A]).length ((B.groups++[A]).map Value.string):=by
   rw[show (B.groups++[A]).length=B.groups.length+1 by simp,List.map_append];exact hown4
  have br:=ah (ai.out.trans (ai.out.at_.newRow (V':={ VB with vG:=Y (some ⟨g4,0,O⟩) (B.groups.length+1) cap4 }) (K':={ B with groups:=B.groups++[A] }) (i:=7) (w1:=w4) (r:=⟨9,1,VB.vG,B.groups.length,B.groups.map Value.string⟩) (r':=⟨9,1,Y (some ⟨g4,0,O⟩) (B.groups.length+1) cap4,(B.groups++[A]).length,(B.groups++[A]).map Value.string⟩) rfl
   ((Kp.of_below f).trans' (by rw[l];exact Kp.row hg4)) t (fun u o=>by
    simp[Value.ownBlock] at o;subst o
    show VB.vG.ownBlock=_∨_
    rw[l];exact hat4.imp (fun q=>q) (fun q=>by omega)) 11 rfl rfl rfl))
  clear hown4 hg4 hat4 hlt4 t;clear t4 f4 a C G g m f;generalize w4.setCell ⟨w.heap.size,11,O⟩ (Y (some ⟨g4,0,O⟩) (B.groups.length+1) cap4)=wC at *;generalize hVx:({ VB with vG:=Y (some ⟨g4,0,O⟩) (B.groups.length+1) cap4 }:Kv)=VC at *
  generalize hKx:({ B with groups:=B.groups++[A] }:Kw)=KC at *
  have bs:Hid (Cl n 0 0 A KC):=by
   rw[← hKx,bq.out];exact⟨rfl,rfl,rfl,rfl,rfl,rfl,rfl,rfl,rfl,rfl,rfl,rfl,by simp[K0]⟩
  clear hKx hVx;go_wp2_with fail;go_loopw [8] (fun i wr=>∃ (k:Nat) (K':Kw) (V':Kv),k≤n∧i=I J k∧Kst N w1 wr w.heap.size (K0 n) V0 K' V'∧Cl n k 0 A K') (fun i _=>n-(intOf i).toNat)
  case atStart=>exact⟨0,KC,VC,Nat.zero_le _,rfl,br.out,bs.out⟩
  case round =>
   obtain⟨k,v,VD,hk,rfl,kD,cD⟩:=hrel
   have K:=ah kD;have a6:=ah cD;have cb:v.nds.length≤7:=by rw[cD.nl];omega
   have bt:v.down.length≤7:=by rw[cD.dl];omega
   have bu:v.begun.length≤7:=by rw[cD.bl];omega
   clear kD cD;by_cases cc:k<n
   ·have j1:(k:Int)<(n:Int):=by omega
    have P:=ah (ow k n A wr K.out.at_.tab (by unfold maxLen;omega) ⟨by omega,by omega,by omega,by omega⟩ H.out (by have:=K.out.at_.Nlt;omega))
    have a7:=ah (Ht (id:=k) (n:=n) (s:=A) ⟨by omega,by omega,by omega,by omega⟩ H.out)
    go_wp2_with fail;refine P.out.mono ?_;rintro e M ⟨bE,bv,WE,FE,VE,rfl,a8,a9,ba,ak⟩;have bb:=ah a8;have bc:=ah a9;have bd:=ah ba;clear a8 a9 ba;obtain⟨X,hX⟩:∃ X:Nod,X=⟨bE,bv,WE,FE,Rp.new k n (dN A),VE⟩:=⟨_,rfl⟩
    have bw:Hid (nR X=Zp (some ⟨bE,0,O⟩)):=by rw[hX];trivial
    have be:Hid (au M X.b X.bl X.W X.F X.R X.V∧(∀ y∈X.F,wr.heap.size≤y)):=by rw[hX];exact⟨bb.out,bd.out⟩
    have bx:Hid (NI n k X∧X.R=Rp.new k n (dN A)):=by
     rw[hX];refine⟨⟨a7.out,rfl,fun h3=>?_,rfl,bc.out,rfl,rfl⟩,rfl⟩
     exfalso
     have h3:(if gW (dN A) k=true then (1:Int) else 4)=3:=h3
     split at h3 <;> omega
    have bg:Hid (Kst N w1 M w.heap.size (K0 n) V0 v VD):=K.out.below ak
    clear hX bb bc bd a7;have j:=bg.out.at_;obtain⟨D,E,l⟩:=aj j.rN
    have a:=j.rN;have C:M.cell? ⟨w.heap.size,2,O⟩=some VD.vN:=j.cell 2
    have G:=j.free 2;have g:some w.heap.size≠VD.vN.ownBlock:=j.gne (i:=0) rfl
    rw[l] at a C g;have m:w.heap.size<M.heap.size:=j.lb
    clear j;go_upto_region 13 with (at_builtin;refine wpList_append_lies (w:=M.alloc (.cells #[Zp (some ⟨bE,0,O⟩)] 29)) (by rfl) (.tmp 51) (.tmp 53) 42 (by rfl) 0 29 bj (Zp O) 1 8 Tryz.underlying42 bk ar av aw rfl (by decide) (Y D v.nds.length E) v.nds.length (v.nds.map nR) (by rfl) (a.alloc _) ⟨M.heap.size,0,O⟩ 1 1 [Zp (some ⟨bE,0,O⟩)] (by rfl) (by rfl) (World.news_of_block (heap_alloc_new M (.cells #[Zp (some ⟨bE,0,O⟩)] 29))) (by intro u o;simp at o;subst o;rfl) (by decide) (by unfold maxLen;omega) (by omega) (Nat.zero_le _) (M.heap.size+1) (by simp) ?_;intro g4 cap4 w4 hown4 hg4 hat4 hlt4;have f:Below M.heap.size M (M.alloc (.cells #[Zp (some ⟨bE,0,O⟩)] 29)):=(Below.refl _ M).alloc (Nat.le_refl _) _;have t4:w4.cell? ⟨w.heap.size,2,O⟩=some (Y D v.nds.length E):=(hg4.cell_far ⟨w.heap.size,2,O⟩ (by simp;omega) g).trans ((f.cell (p:=⟨w.heap.size,2,O⟩) m).trans C);have f4:w4.frozen? ⟨w.heap.size,2,O⟩=false:=(hg4.frozen_far ⟨w.heap.size,2,O⟩ (by simp;omega) g).trans ((f.frozen (p:=⟨w.heap.size,2,O⟩) m).trans G))
    have t:w4.ownsRow 0 29 1 (Y (some ⟨g4,0,O⟩) (v.nds.length+1) cap4) (v.nds++[X]).length ((v.nds++[X]).map nR):=by
     rw[show (v.nds++[X]).length=v.nds.length+1 by simp,List.map_append,List.map_cons,List.map_nil,bw.out];exact hown4
    have al:Hid (Kst N w1 (w4.setCell ⟨w.heap.size,2,O⟩ (Y (some ⟨g4,0,O⟩) (v.nds.length+1) cap4)) w.heap.size (K0 n) V0 { v with nds:=v.nds++[X] } { VD with vN:=Y (some ⟨g4,0,O⟩) (v.nds.length+1) cap4 }) :=
     K.out.trans (K.out.at_.PU (ak.trans (f.mono ak.size)) (be.out.1.below f) be.out.2 (by rw[l];exact Kp.row hg4) t (fun u o=>by
      simp[Value.ownBlock] at o;subst o;rw[l];exact hat4.imp (fun q=>q) (fun q=>by simp;omega)))
    clear hown4 hg4 hat4 hlt4 t bg;clear t4 f4 a C G g m f;generalize w4.setCell ⟨w.heap.size,2,O⟩ (Y (some ⟨g4,0,O⟩) (v.nds.length+1) cap4)=S at *;generalize ({ VD with vN:=Y (some ⟨g4,0,O⟩) (v.nds.length+1) cap4 }:Kv)=VF at *
    generalize hKF:({ v with nds:=v.nds++[X] }:Kw)=z at *
    have cd:z.down.length≤7:=by rw[← hKF];exact bt
    have j:=al.out.at_;obtain⟨D,E,l⟩:=aj j.rD
    have a:=j.rD;have C:S.cell? ⟨w.heap.size,3,O⟩=some VF.vD:=j.cell 3
    have G:=j.free 3;have g:some w.heap.size≠VF.vD.ownBlock:=j.gne (i:=1) rfl
    rw[l] at a C g;have m:w.heap.size<S.heap.size:=j.lb
    clear j;go_upto_region 14 with (at_builtin;refine wpList_append_lies (w:=S.alloc (.cells #[.bool false] 4)) (by rfl) (.tmp 61) (.tmp 62) 43 (by rfl) 0 4 bm (.bool false) 1 1 Tryz.underlying43 bn ax az a0 rfl (by decide) (Y D z.down.length E) z.down.length (z.down.map Value.bool) (by rfl) (a.alloc _) ⟨S.heap.size,0,O⟩ 1 1 [.bool false] (by rfl) (by rfl) (World.news_of_block (heap_alloc_new S (.cells #[.bool false] 4))) (by intro u o;simp at o;subst o;rfl) (by decide) (by unfold maxLen;omega) (by omega) (Nat.zero_le _) (S.heap.size+1) (by simp) ?_;intro g4 cap4 w4 hown4 hg4 hat4 hlt4;have f:Below S.heap.size S (S.alloc (.cells #[.bool false] 4)):=(Below.refl _ S).alloc (Nat.le_refl _) _;have t4:w4.cell? ⟨w.heap.size,3,O⟩=some (Y D z.down.length E):=(hg4.cell_far ⟨w.heap.size,3,O⟩ (by simp;omega) g).trans ((f.cell (p:=⟨w.heap.size,3,O⟩) m).trans C);have f4:w4.frozen? ⟨w.heap.size,3,O⟩=false:=(hg4.frozen_far ⟨w.heap.size,3,O⟩ (by simp;omega) g).trans ((f.frozen (p:=⟨w.heap.size,3,O⟩) m).trans G))
    have t:w4.ownsRow 0 4 1 (Y (some ⟨g4,0,O⟩) (z.down.length+1) cap4) (z.down++[false]).length ((z.down++[false]).map Value.bool):=by
     rw[show (z.down++[false]).length=z.down.length+1 by simp,List.map_append];exact hown4
    have am:=ah (al.out.trans (al.out.at_.newRow (V':={ VF with vD:=Y (some ⟨g4,0,O⟩) (z.down.length+1) cap4 }) (K':={ z with down:=z.down++[false] }) (i:=1) (w1:=w4) (r:=⟨4,1,VF.vD,z.down.length,z.down.map Value.bool⟩) (r':=⟨4,1,Y (some ⟨g4,0,O⟩) (z.down.length+1) cap4,(z.down++[false]).length,(z.down++[false]).map Value.bool⟩) rfl
     ((Kp.of_below f).trans' (by rw[l];exact Kp.row hg4)) t (fun u o=>by
      simp[Value.ownBlock] at o;subst o
      show VF.vD.ownBlock=_∨_
      rw[l];exact hat4.imp (fun q=>q) (fun q=>by omega)) 3 rfl rfl rfl))
    clear hown4 hg4 hat4 hlt4 t;clear t4 f4 a C G g m f;generalize w4.setCell ⟨w.heap.size,3,O⟩ (Y (some ⟨g4,0,O⟩) (z.down.length+1) cap4)=T at *;generalize hVx:({ VF with vD:=Y (some ⟨g4,0,O⟩) (z.down.length+1) cap4 }:Kv)=VG at *
    generalize hKx:({ z with down:=z.down++[false] }:Kw)=KG at *
    have ce:KG.begun.length≤7:=by rw[← hKx,← hKF];exact bu
    have bz:Hid (KG={ z with down:=z.down++[false] }):=hKx.symm
    clear hKx hVx;have j:=am.out.at_;obtain⟨D,E,l⟩:=aj j.rB
    have a:=j.rB;have C:T.cell? ⟨w.heap.size,4,O⟩=some VG.vB:=j.cell 4
    have G:=j.free 4;have g:some w.heap.size≠VG.vB.ownBlock:=j.gne (i:=2) rfl
    rw[l] at a C g;have m:w.heap.size<T.heap.size:=j.lb
    clear j;go_upto_region 8 with (at_builtin;refine wpList_append_lies (w:=T.alloc (.cells #[I J (-1)] 3)) (by rfl) (.tmp 70) (.tmp 71) 44 (by rfl) 0 3 a1 (I J 0) 1 8 Tryz.underlying44 a2 ab ac ad rfl (by decide) (Y D KG.begun.length E) KG.begun.length (KG.begun.map (Value.int .i64)) (by rfl) (a.alloc _) ⟨T.heap.size,0,O⟩ 1 1 [I J (-1)] (by rfl) (by rfl) (World.news_of_block (heap_alloc_new T (.cells #[I J (-1)] 3))) (by intro u o;simp at o;subst o;rfl) (by decide) (by unfold maxLen;omega) (by omega) (Nat.zero_le _) (T.heap.size+1) (by simp) ?_;intro g4 cap4 w4 hown4 hg4 hat4 hlt4;have f:Below T.heap.size T (T.alloc (.cells #[I J (-1)] 3)):=(Below.refl _ T).alloc (Nat.le_refl _) _;have t4:w4.cell? ⟨w.heap.size,4,O⟩=some (Y D KG.begun.length E):=(hg4.cell_far ⟨w.heap.size,4,O⟩ (by simp;omega) g).trans ((f.cell (p:=⟨w.heap.size,4,O⟩) m).trans C);have f4:w4.frozen? ⟨w.heap.size,4,O⟩=false:=(hg4.frozen_far ⟨w.heap.size,4,O⟩ (by simp;omega) g).trans ((f.frozen (p:=⟨w.heap.size,4,O⟩) m).trans G))
    have t:w4.ownsRow 0 3 1 (Y (some ⟨g4,0,O⟩) (KG.begun.length+1) cap4) (KG.begun++[(-1:Int)]).length ((KG.begun++[(-1:Int)]).map (Value.int .i64)):=by
     rw[show (KG.begun++[(-1:Int)]).length=KG.begun.length+1 by simp,List.map_append];exact hown4
    have b2:=ah (am.out.trans (am.out.at_.newRow (V':={ VG with vB:=Y (some ⟨g4,0,O⟩) (KG.begun.length+1) cap4 }) (K':={ KG with begun:=KG.begun++[(-1:Int)] }) (i:=2) (w1:=w4) (r:=⟨3,1,VG.vB,KG.begun.length,KG.begun.map (Value.int .i64)⟩) (r':=⟨3,1,Y (some ⟨g4,0,O⟩) (KG.begun.length+1) cap4,(KG.begun++[(-1:Int)]).length,(KG.begun++[(-1:Int)]).map (Value.int .i64)⟩) rfl
     ((Kp.of_below f).trans' (by rw[l];exact Kp.row hg4)) t (fun u o=>by
      simp[Value.ownBlock] at o;subst o
      show VG.vB.ownBlock=_∨_
      rw[l];exact hat4.imp (fun q=>q) (fun q=>by omega)) 4 rfl rfl rfl))
    clear hown4 hg4 hat4 hlt4 t;clear t4 f4 a C G g m f;generalize w4.setCell ⟨w.heap.size,4,O⟩ (Y (some ⟨g4,0,O⟩) (KG.begun.length+1) cap4)=wH at *;generalize hVx:({ VG with vB:=Y (some ⟨g4,0,O⟩) (KG.begun.length+1) cap4 }:Kv)=VH at *
    generalize hKx:({ KG with begun:=KG.begun++[(-1:Int)] }:Kw)=KH at *
    have b3:Hid (Cl n (k+1) 0 A KH):=by
     have c:=a6.out;have cf:=c.nl;rw[← hKx,bz.out,← hKF];refine⟨c.part,c.n,by simp[c.nl],by simp[c.dl],by simp[c.bl],c.lv,c.net,c.ws,c.ol,c.ls,c.gs,c.fl,fun q x hx=>?_⟩
     simp only at hx
     by_cases hq:q<v.nds.length
     ·rw[List.getElem?_append_left hq] at hx;exact c.nod q x hx
     ·rw[List.getElem?_append_right (by omega)] at hx
      have b4:q-v.nds.length=0:=by
       have:=(List.getElem?_eq_some_iff.1 hx).1
       simp at this;omega
      rw[b4] at hx;simp at hx;subst hx;have:q=k:=by omega
      subst this;exact bx.out
    clear hKx hVx hKF;go_wp2;go_roundw
    case rel=>exact⟨k+1,KH,VH,by omega,by go_num,b2.out,b3.out⟩
    case measure=>simp[intOf];omega
   ·have j1:¬(k:Int)<(n:Int):=by omega
    obtain rfl:k=n:=by omega
    obtain⟨wL,b5⟩:∃ x,x=wr:=⟨_,rfl⟩
    subst b5;go_wp2_with fail;go_loopw [11] (fun i wr=>∃ (c:Nat) (K':Kw) (V':Kv),c≤10∧i=I J c∧Kst N w1 wr w.heap.size (K0 k) V0 K' V'∧Cl k k c A K') (fun i _=>10-(intOf i).toNat)
    case atStart=>exact⟨0,v,VD,Nat.zero_le _,rfl,K.out,a6.out⟩
    case round =>
     obtain⟨c,h,VI,hc,rfl,kI,cI⟩:=hrel
     have Q:=ah kI;have an:=ah cI;have cg:h.opn.length≤10:=by rw[cI.ol];simp;omega
     clear kI cI;by_cases ch:c<10
     ·have j2:(c:Int)≤9:=by omega
      have j:=Q.out.at_;obtain⟨D,E,l⟩:=aj j.rO
      have a:=j.rO;have C:wr.cell? ⟨w.heap.size,9,O⟩=some VI.vO:=j.cell 9
      have G:=j.free 9;have g:some w.heap.size≠VI.vO.ownBlock:=j.gne (i:=5) rfl
      rw[l] at a C g;have m:w.heap.size<wr.heap.size:=j.lb
      clear j;go_upto_region 17 with (at_builtin;refine wpList_append_lies (w:=wr.alloc (.cells #[I J (-1)] 3)) (by rfl) (.tmp 83) (.tmp 84) 44 (by rfl) 0 3 a1 (I J 0) 1 8 Tryz.underlying44 a2 ab ac ad rfl (by decide) (Y D h.opn.length E) h.opn.length (h.opn.map (Value.int .i64)) (by rfl) (a.alloc _) ⟨wr.heap.size,0,O⟩ 1 1 [I J (-1)] (by rfl) (by rfl) (World.news_of_block (heap_alloc_new wr (.cells #[I J (-1)] 3))) (by intro u o;simp at o;subst o;rfl) (by decide) (by unfold maxLen;omega) (by omega) (Nat.zero_le _) (wr.heap.size+1) (by simp) ?_;intro g4 cap4 w4 hown4 hg4 hat4 hlt4;have f:Below wr.heap.size wr (wr.alloc (.cells #[I J (-1)] 3)):=(Below.refl _ wr).alloc (Nat.le_refl _) _;have t4:w4.cell? ⟨w.heap.size,9,O⟩=some (Y D h.opn.length E):=(hg4.cell_far ⟨w.heap.size,9,O⟩ (by simp;omega) g).trans ((f.cell (p:=⟨w.heap.size,9,O⟩) m).trans C);have f4:w4.frozen? ⟨w.heap.size,9,O⟩=false:=(hg4.frozen_far ⟨w.heap.size,9,O⟩ (by simp;omega) g).trans ((f.frozen (p:=⟨w.heap.size,9,O⟩) m).trans G))
      have t:w4.ownsRow 0 3 1 (Y (some ⟨g4,0,O⟩) (h.opn.length+1) cap4) (h.opn++[(-1:Int)]).length ((h.opn++[(-1:Int)]).map (Value.int .i64)):=by
       rw[show (h.opn++[(-1:Int)]).length=h.opn.length+1 by simp,List.map_append];exact hown4
      have b6:=ah (Q.out.trans (Q.out.at_.newRow (V':={ VI with vO:=Y (some ⟨g4,0,O⟩) (h.opn.length+1) cap4 }) (K':={ h with opn:=h.opn++[(-1:Int)] }) (i:=5) (w1:=w4) (r:=⟨3,1,VI.vO,h.opn.length,h.opn.map (Value.int .i64)⟩) (r':=⟨3,1,Y (some ⟨g4,0,O⟩) (h.opn.length+1) cap4,(h.opn++[(-1:Int)]).length,(h.opn++[(-1:Int)]).map (Value.int .i64)⟩) rfl
       ((Kp.of_below f).trans' (by rw[l];exact Kp.row hg4)) t (fun u o=>by
        simp[Value.ownBlock] at o;subst o
        show VI.vO.ownBlock=_∨_
        rw[l];exact hat4.imp (fun q=>q) (fun q=>by omega)) 9 rfl rfl rfl))
      clear hown4 hg4 hat4 hlt4 t;clear t4 f4 a C G g m f;generalize w4.setCell ⟨w.heap.size,9,O⟩ (Y (some ⟨g4,0,O⟩) (h.opn.length+1) cap4)=wJ at *;generalize hVx:({ VI with vO:=Y (some ⟨g4,0,O⟩) (h.opn.length+1) cap4 }:Kv)=VJ at *
      generalize hKx:({ h with opn:=h.opn++[(-1:Int)] }:Kw)=KJ at *
      have b7:Hid (Cl k k (c+1) A KJ):=by
       have d:=an.out;rw[← hKx];exact⟨d.part,d.n,d.nl,d.dl,d.bl,d.lv,d.net,d.ws,by simp only[d.ol];rw[List.replicate_succ'],d.ls,d.gs,d.fl,d.nod⟩
      clear hKx hVx;go_wp2;go_roundw
      case rel=>exact⟨c+1,KJ,VJ,by omega,by go_num,b6.out,b7.out⟩
      case measure=>simp[intOf];omega
     ·have j2:¬(c:Int)≤9:=by omega
      obtain rfl:c=10:=by omega
      have aa:=an.out.ki ⟨by omega,by omega⟩ rfl H.out
      have HF:Hid (ClP N w wr k (Zr (Zp (some ⟨w.heap.size,0,O⟩)))):=⟨w.heap.size,h,VI,rfl,Q.out.at_,aa.1,aa.2.1,an.out.n,aa.2.2,bp.out Q.out.kp⟩
      clear aa;go_wp2;go_ret;exact HF.out
end
namespace Al
def G3:ByteArray:=⟨#[48,49,50]⟩
def RA:Rp:=Rp.new 0 3 (dN G3)
def RB:Rp:=Rp.new 1 3 (dN G3)
def Q1:ByteArray:=⟨#[113,32,49,32,49,32,112,97,53]⟩
def EN:En:=(1,1,⟨#[112,97,53]⟩)
theorem g3:dN G3=[0,1,2]:=by decide
theorem dg0:dg 0=⟨#[48]⟩:=by unfold dg;simp[uT]
theorem dg1:dg 1=⟨#[49]⟩:=by unfold dg;simp[uT]
theorem ME:RA.leads=true:=by decide
theorem cq1:bU Q1 32=[⟨#[113]⟩,⟨#[49]⟩,⟨#[49]⟩,⟨#[112,97,53]⟩]:=by kernel_rfl
theorem oq1:mI [⟨#[113]⟩,⟨#[49]⟩,⟨#[49]⟩,⟨#[112,97,53]⟩] 3=true:=by kernel_rfl
theorem wq1:aZ Q1 3=[⟨#[113]⟩,⟨#[49]⟩,⟨#[49]⟩,⟨#[112,97,53]⟩]:=by
 rw[rT,if_neg (by decide),cq1,if_pos oq1]
theorem ra1 {P:Pm} (hk:P.kind=113) (he:P.ent=EN):RA.take P=({ RA with log:=[EN] }:Rp).aQ 1:=by
 unfold Rp.take Rp.bQ;rw[hk,he,if_pos (by decide),if_pos ME,if_neg (by decide),if_neg (by decide),if_neg (fun h=>absurd h.1 (by decide)),if_neg (fun h=>absurd h.1 (by decide))]
 unfold Rp.propose;rw[if_neg (by decide)]
 rfl
def T1:ByteArray:=⟨#[112,32,48,32,48,46,48,46,48,32,48,32,48,32,49,32,49,46,49,46,112,97,53,32,48]⟩
theorem lv3:iC (cZ 3)=⟨#[48,46,48,46,48]⟩:=by
 unfold iC;simp only[cZ,List.map_replicate,dg0]
 kernel_rfl
theorem t1:fQ (({ RA with log:=[EN] }:Rp).dA 1)=T1:=by
 unfold fQ;simp only[Rp.dA,Rp.head,RA,Rp.new,Rp.mk0];have a:(3:Int).toNat=3:=rfl
 rw[a,lv3,dg0];unfold jm;rw[if_pos (by decide)]
 unfold iM;simp only[EN,dg0,dg1];have b:dg ((0:Nat):Int)=⟨#[48]⟩:=dg0
 have c:([((1:Int),(1:Int),(⟨#[112,97,53]⟩:ByteArray))].getD ((1:Int)-1).toNat (0,0,⟨#[]⟩))=((1:Int),(1:Int),(⟨#[112,97,53]⟩:ByteArray)):=rfl
 rw[c];simp only[dg1];rw[b]
 first|done|rfl|decide
def RA1:Rp:={ RA with log:=[EN],out:=[(1,T1),(2,T1)] }
theorem ra2:(({ RA with log:=[EN] }:Rp).aQ 1)=RA1:=by
 unfold Rp.aQ;rw[if_neg (by decide)]
 unfold Rp.eZ;rw[t1]
 rfl
def RA2:Rp:={ RA with log:=[EN] }
theorem ct1:bU T1 32=[⟨#[112]⟩,⟨#[48]⟩,⟨#[48,46,48,46,48]⟩,⟨#[48]⟩,⟨#[48]⟩,⟨#[49]⟩,⟨#[49,46,49,46,112,97,53]⟩,⟨#[48]⟩]:=by kernel_rfl
theorem ot1:mI [⟨#[112]⟩,⟨#[48]⟩,⟨#[48,46,48,46,48]⟩,⟨#[48]⟩,⟨#[48]⟩,⟨#[49]⟩,⟨#[49,46,49,46,112,97,53]⟩,⟨#[48]⟩] 3=true:=by kernel_rfl
theorem wt1:aZ T1 3=[⟨#[112]⟩,⟨#[48]⟩,⟨#[48,46,48,46,48]⟩,⟨#[48]⟩,⟨#[48]⟩,⟨#[49]⟩,⟨#[49,46,49,46,112,97,53]⟩,⟨#[48]⟩]:=by
 rw[rT,if_neg (by decide),ct1,if_pos ot1]
theorem rb1 {x1 x2:Int} {x3 x4:List Int} {x5:List En}:RB.take ⟨112,0,[0,0,0],0,0,1,EN,0,x1,x2,x3,x4,x5⟩=(({ RB with log:=[EN] }:Rp).ack 0):=by
 rfl
def T2:ByteArray:=⟨#[107,32,49,32,48,46,48,46,48,32,48,32,48,32,49]⟩
theorem t2:fQ ({ ({ RB with log:=[EN] }:Rp).head 107 with place:=(({ RB with log:=[EN] }:Rp).log.length:Int) })=T2:=by
 unfold fQ;simp only[Rp.head,RB,Rp.new,Rp.mk0];have a:(3:Int).toNat=3:=rfl
 rw[a,lv3,dg0];unfold jm;rw[if_neg (by decide),if_pos (by decide)]
 have b:dg (([EN].length:Nat):Int)=⟨#[49]⟩:=dg1
 rw[b,dg1]
 first|done|rfl|decide
theorem ct2:bU T2 32=[⟨#[107]⟩,⟨#[49]⟩,⟨#[48,46,48,46,48]⟩,⟨#[48]⟩,⟨#[48]⟩,⟨#[49]⟩]:=by kernel_rfl
theorem ot2:mI [⟨#[107]⟩,⟨#[49]⟩,⟨#[48,46,48,46,48]⟩,⟨#[48]⟩,⟨#[48]⟩,⟨#[49]⟩] 3=true:=by kernel_rfl
theorem wt2:aZ T2 3=[⟨#[107]⟩,⟨#[49]⟩,⟨#[48,46,48,46,48]⟩,⟨#[48]⟩,⟨#[48]⟩,⟨#[49]⟩]:=by
 rw[rT,if_neg (by decide),ct2,if_pos ot2]
theorem ra3 {x0 x1 x2:Int} {x3 x4:List Int} {x5:List En} {e:En}:(RA2.take ⟨107,1,[0,0,0],0,0,1,e,x0,x1,x2,x3,x4,x5⟩).out=[(-1,YS++dg 1++SP++dg 1++SP++OKb)]:=by
 kernel_rfl
theorem ra4 {x0 x1 x2:Int} {x3 x4:List Int} {x5:List En} {e:En}:wN (RA2.take ⟨107,1,[0,0,0],0,0,1,e,x0,x1,x2,x3,x4,x5⟩).sv 97=⟨#[53]⟩:=by
 kernel_rfl
theorem y1:YS++dg 1++SP++dg 1++SP++OKb=(⟨#[121,32,49,32,49,32,111,107]⟩:ByteArray):=by
 rw[dg1];kernel_rfl
theorem pk2 {P:Pm} (h:oL 3 [⟨#[107]⟩,⟨#[49]⟩,⟨#[48,46,48,46,48]⟩,⟨#[48]⟩,⟨#[48]⟩,⟨#[49]⟩] P):P.kind=107∧P.frm=1∧P.lives=[0,0,0]∧P.epoch=0∧P.view=0∧P.place=1:=by
 obtain⟨b,d,e⟩:=h.kind
 have a:=h.rep (by kernel_rfl)
 have f:((⟨#[107]⟩:ByteArray)).toList=[107]:=by kernel_rfl
 have c:[(107:UInt8)]=[b]:=f.symm.trans d
 have:b=107:=by simpa using c.symm
 subst this;exact⟨e,a.frm.trans (by kernel_rfl),a.lives.trans (by kernel_rfl),a.epoch.trans (by kernel_rfl),a.view.trans (by kernel_rfl),(a.k (by kernel_rfl)).trans (by kernel_rfl)⟩
theorem pq1 {P:Pm} (h:oL 3 [⟨#[113]⟩,⟨#[49]⟩,⟨#[49]⟩,⟨#[112,97,53]⟩] P):P.kind=113∧P.ent=EN:=by
 obtain⟨b,d,e⟩:=h.kind
 have c:((⟨#[113]⟩:ByteArray)).toList=[113]:=by kernel_rfl
 have a:[(113:UInt8)]=[b]:=c.symm.trans d
 have:b=113:=by simpa using a.symm
 subst this;exact⟨e,(h.q c).trans (by kernel_rfl)⟩
theorem pt1 {P:Pm} (h:oL 3 [⟨#[112]⟩,⟨#[48]⟩,⟨#[48,46,48,46,48]⟩,⟨#[48]⟩,⟨#[48]⟩,⟨#[49]⟩,⟨#[49,46,49,46,112,97,53]⟩,⟨#[48]⟩] P):P.kind=112∧P.frm=0∧P.lives=[0,0,0]∧P.epoch=0∧P.view=0∧P.place=1∧P.ent=EN∧P.commit=0:=by
 obtain⟨b,e,f⟩:=h.kind
 have a:=h.rep (by kernel_rfl)
 have g:((⟨#[112]⟩:ByteArray)).toList=[112]:=by kernel_rfl
 have c:[(112:UInt8)]=[b]:=g.symm.trans e
 have:b=112:=by simpa using c.symm
 subst this;have d:=a.p (by kernel_rfl)
 exact⟨f,a.frm.trans (by kernel_rfl),a.lives.trans (by kernel_rfl),a.epoch.trans (by kernel_rfl),a.view.trans (by kernel_rfl),d.1.trans (by kernel_rfl),d.2.1.trans (by kernel_rfl),d.2.2.trans (by kernel_rfl)⟩
theorem tk1 {R':Rp} (h:TkR RA Q1 R'):R'=RA1:=by
 rcases h with ⟨h,_⟩|⟨_,P,_,a,rfl⟩
 ·have:aZ Q1 3=[]:=h
  rw[wq1] at this;simp at this
 ·have a:oL 3 (aZ Q1 3) P:=a
  rw[wq1] at a;obtain⟨b,c⟩:=pq1 a
  rw[ra1 b c,ra2]
theorem tk2 {R':Rp} (h:TkR RB T1 R'):R'.out=[(0,T2)]:=by
 rcases h with ⟨h,_⟩|⟨_,P,_,a,rfl⟩
 ·have:aZ T1 3=[]:=h
  rw[wt1] at this;simp at this
 ·have a:oL 3 (aZ T1 3) P:=a
  rw[wt1] at a;obtain⟨b,c,d,e,f,g,i,j⟩:=pt1 a
  obtain⟨kd,fr,k,ep,l,m,n,o,no,p,gr,q,r⟩:=P
  simp only at b c d e f g i j
  subst b c d e f g i j;rw[rb1];unfold Rp.ack Rp.send;rw[t2]
  rfl
theorem tk3 {R':Rp} (h:TkR RA2 T2 R'):R'.out=[(-1,⟨#[121,32,49,32,49,32,111,107]⟩)]∧wN R'.sv 97=⟨#[53]⟩:=by
 rcases h with ⟨h,_⟩|⟨_,P,_,a,rfl⟩
 ·have:aZ T2 3=[]:=h
  rw[wt2] at this;simp at this
 ·have a:oL 3 (aZ T2 3) P:=a
  rw[wt2] at a;obtain⟨b,c,d,e,f,g⟩:=pk2 a
  obtain⟨kd,fr,i,ep,j,k,l,m,no,n,gr,o,p⟩:=P
  simp only at b c d e f g
  subst b c d e f g;exact⟨by rw[ra3,y1],ra4⟩
end Al
end Go.Proofs.YtinaollfjiddmaaGreatDoor
