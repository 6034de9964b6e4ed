import Derived.Test.YtinaollfjiddmaaGreatDoorA38
import Derived.Test.YtinaollfjiddmaaGreatDoorA39
set_option maxRecDepth 100000
set_option maxHeartbeats 8000000
set_option linter.all false
namespace Go.Proofs.YtinaollfjiddmaaGreatDoor
open Go.Value renaming int→I,slice→Y,string→Z,pointer→Zp
open Go.Ending renaming returned→Zr
open _root_.ByteArray renaming empty→Ze
open Go.IntKind renaming i64→J
open Option renaming none→O
open Go.RowKit
section
variable {N:Nat} {w w':World} {g:Nat} {K K':Kw} {V V':Kv}
theorem dg_ne (x:Int):¬(dg x).toList.isEmpty=true:=by
 rw[ByteArray.toList_eq]
 show ¬(jI x.toNat).isEmpty=true
 unfold jI
 split <;> simp
theorem GU (h:KAt N w g K V) (hi:KI K) (gr:Gr K) (A B C:Int) (S:ByteArray) (hA0 : -9223372036854775808≤A) (hA1:A≤9223372036854775807) (hB0 : -9223372036854775808≤B) (hB1:B≤9223372036854775807) (hC0 : -9223372036854775808≤C) (hC1:C≤9223372036854775807) (hS:S.size≤1000000) (hm:dS K+200000≤900000000000) :
  Calls Tryz.prog 13 #[Zp (some ⟨g,0,O⟩),.agg #[I J 2,I J A,I J B,I J C,Z S]] w fun e w'=>RnE N w w' g K V 150000 e:=by
 have z:=hi.sz;obtain⟨n,D⟩:∃ n:Nat,K.n=n:=⟨K.n.toNat,by have:=z.n3;omega⟩
 have z3:=z.n3;have z1:=z.nds;have z7:=z.n7;rw[D] at z1 z7 z3;have l:Below w.heap.size w (w.alloc (.cells #[I J 2,I J A,I J B,I J C,Z S] 28)):=(Below.refl _ w).alloc (Nat.le_refl _) _
 have F:=heap_alloc_new w (.cells #[I J 2,I J A,I J B,I J C,Z S] 28);have r:=h.below l;have s:=ah ((Rn.refl h hi gr).below l);have c1:(w.alloc (.cells #[I J 2,I J A,I J B,I J C,Z S] 28)).cell? ⟨g,1,O⟩=some (I J n):=by rw[← D];exact r.cell 1
 have b1:(w.alloc (.cells #[I J 2,I J A,I J B,I J C,Z S] 28)).cell? ⟨w.heap.size,1,O⟩=some (I J A):=(cell_of_row _ _ _ _ _ _ F).trans rfl
 obtain⟨q,ak,t⟩:=eY A n (by omega)
 have HP:Hid (∀ a,Calls Tryz.prog 12 #[I J A,I J n] a fun e w'=>e=Zr (I J (q:Int))∧w'=a):=fun a=>by rw[← t];exact dR A n a hA0 hA1 (by omega) (by omega)
 have al:=ah hi;clear h hi gr z r t;go_enter Tryz.func13,Tryz.ntmps13;go_wp2_with fail;generalize w.alloc (.cells #[I J 2,I J A,I J B,I J C,Z S] 28)=G at *;go_quiet ((go_at_call 12;exact Calls.quiet_of_same (HP.out _)))
 have P:=ah (s.out.below (below_drewN (Below.refl _ _) nq));have m:(G.drewN nq).heap[w.heap.size]? = some (.cells #[I J 2,I J A,I J B,I J C,Z S] 28):=((below_drewN (Below.refl G.heap.size G) nq).block _ (lt_of_block F)).trans F
 generalize G.drewN nq=c at *;clear F l c1 b1 s HP;have HX:Hid (∀ a,Below c.heap.size c a→a.heap[w.heap.size]? = some (.cells #[I J 2,I J A,I J B,I J C,Z S] 28)):=fun a o=>(o.block _ (lt_of_block m)).trans m
 have f:Below c.heap.size c c:=Below.refl _ _
 clear m;have am:q<K.nds.length:=by omega
 have b0:c.cell? ⟨w.heap.size,0,O⟩=some (I J 2):=(cell_of_row _ _ _ _ _ _ (HX.out _ f)).trans rfl
 have b1:c.cell? ⟨w.heap.size,1,O⟩=some (I J A):=(cell_of_row _ _ _ _ _ _ (HX.out _ f)).trans rfl
 have b2:c.cell? ⟨w.heap.size,2,O⟩=some (I J B):=(cell_of_row _ _ _ _ _ _ (HX.out _ f)).trans rfl
 have b4:c.cell? ⟨w.heap.size,4,O⟩=some (Z S):=(cell_of_row _ _ _ _ _ _ (HX.out _ f)).trans rfl
 have Q:Hid (∀ a (k b:Nat) (p:ByteArray),Below c.heap.size c a→k<9→b<n→1≤S.size→S.size≤8→p.size≤100→(p.toList.isEmpty=true→jk S=false∧(32:UInt8)∉S.data.toList)→(¬p.toList.isEmpty=true→(∃ E:Int,0≤E∧E≤10∧p=dg E)∧(32:UInt8)∉S.data.toList)→Calls Tryz.prog 26 #[Zp (some ⟨g,0,O⟩),I J (1+(k:Int)),I J b,Z S,Z p] a fun e w'=>e=Zr (.tuple #[])∧RnE N w w' g K V 150000 (Zr (.bool true))):=fun a k b p o hk H h1 h8 ht R T=>by
  have L:=P.out.below o;have:=Cb L.kst.at_ L.ki L.gr (1+k) b (by omega) (by omega) (by rw[D];omega) S p h1 h8 ht R T (by omega)
  rw[show ((1+k:Nat):Int)=1+(k:Int) by omega] at this
  refine this.mono ?_;rintro e w3 ⟨rfl,K3,V3,u⟩;exact⟨rfl,true,K3,V3,rfl,L.kst.trans u.kst,u.ki,by have:=u.ms;omega,u.n,fun _=>u.gr⟩
 obtain⟨k9,U,i⟩:=eY A 9 (by omega)
 have W:Hid (∀ a,Calls Tryz.prog 12 #[I J A,I J 9] a fun e w'=>e=Zr (I J (k9:Int))∧w'=a):=fun a=>by
  have:=dR A 9 a hA0 hA1 (by omega) (by omega)
  rw[← i];exact this
 obtain⟨pb,X,j⟩:=eY B n (by omega)
 have aa:Hid (∀ a,Calls Tryz.prog 12 #[I J B,I J n] a fun e w'=>e=Zr (I J (pb:Int))∧w'=a):=fun a=>by rw[← j];exact dR B n a hB0 hB1 (by omega) (by omega)
 have ab:=ah (P.out.kst.at_.cv 1 rfl (congrArg (Value.int .i64) D));clear i j;have ac:=ah (GD S c (by omega))
 go_wp2_with fail;refine ac.out.mono ?_;rintro e wC ⟨b,rfl,H,ad⟩;subst ad;cases b
 ·have HR:=ah (P.out.rne (d:=150000) true (by omega))
  clear H;go_wp2;go_ret;exact HR.out
 ·obtain⟨⟨an,ao⟩,v,x⟩:=H rfl
  have ae:=ah v;have af:=ah x;clear H v x;have c1:=ab.out _ (Below.refl _ _);go_wp2_with fail;refine (W.out _).mono ?_;rintro e M ⟨rfl,ai⟩;subst ai;go_wp2_with fail;go_quiet ((go_at_call 12;exact Calls.quiet_of_same (aa.out _)))
  have y:Below M.heap.size M (M.drewN nq):=below_drewN (Below.refl _ _) nq
  generalize M.drewN nq=wE at *;clear b0 b1 b2 b4 c1;have b4:wE.cell? ⟨w.heap.size,4,O⟩=some (Z S):=(cell_of_row _ _ _ _ _ _ (HX.out _ y)).trans rfl
  go_wp2_with fail;refine (Q.out _ k9 pb _ y U X (by omega) (by omega) (by decide) (fun _=>⟨af.out,ae.out⟩) (fun h=>absurd (by rw[ByteArray.toList_eq];rfl) h)).mono ?_
  rintro e w9 ⟨rfl,hR⟩;have HR:=ah hR;clear hR;go_wp2;go_ret;exact HR.out
theorem GV (h:KAt N w g K V) (hi:KI K) (gr:Gr K) (A B C:Int) (S:ByteArray) (hA0 : -9223372036854775808≤A) (hA1:A≤9223372036854775807) (hB0 : -9223372036854775808≤B) (hB1:B≤9223372036854775807) (hC0 : -9223372036854775808≤C) (hC1:C≤9223372036854775807) (hS:S.size≤1000000) (hm:dS K+200000≤900000000000) :
  Calls Tryz.prog 13 #[Zp (some ⟨g,0,O⟩),.agg #[I J 3,I J A,I J B,I J C,Z S]] w fun e w'=>RnE N w w' g K V 150000 e:=by
 have z:=hi.sz;obtain⟨n,hn⟩:∃ n:Nat,K.n=n:=⟨K.n.toNat,by have:=z.n3;omega⟩
 have z3:=z.n3;have z1:=z.nds;have z7:=z.n7;rw[hn] at z1 z7 z3;have u:Below w.heap.size w (w.alloc (.cells #[I J 3,I J A,I J B,I J C,Z S] 28)):=(Below.refl _ w).alloc (Nat.le_refl _) _
 have hx:=heap_alloc_new w (.cells #[I J 3,I J A,I J B,I J C,Z S] 28);have G:=h.below u;have H:=ah ((Rn.refl h hi gr).below u);have c1:(w.alloc (.cells #[I J 3,I J A,I J B,I J C,Z S] 28)).cell? ⟨g,1,O⟩=some (I J n):=by rw[← hn];exact G.cell 1
 have b1:(w.alloc (.cells #[I J 3,I J A,I J B,I J C,Z S] 28)).cell? ⟨w.heap.size,1,O⟩=some (I J A):=(cell_of_row _ _ _ _ _ _ hx).trans rfl
 obtain⟨q,a3,L⟩:=eY A n (by omega)
 have HP:Hid (∀ a,Calls Tryz.prog 12 #[I J A,I J n] a fun e w'=>e=Zr (I J (q:Int))∧w'=a):=fun a=>by rw[← L];exact dR A n a hA0 hA1 (by omega) (by omega)
 have ad:=ah hi;clear h hi gr z G L;go_enter Tryz.func13,Tryz.ntmps13;go_wp2_with fail;generalize w.alloc (.cells #[I J 3,I J A,I J B,I J C,Z S] 28)=wA at *;go_quiet ((go_at_call 12;exact Calls.quiet_of_same (HP.out _)))
 have m:=ah (H.out.below (below_drewN (Below.refl _ _) nq));have v:(wA.drewN nq).heap[w.heap.size]? = some (.cells #[I J 3,I J A,I J B,I J C,Z S] 28):=((below_drewN (Below.refl wA.heap.size wA) nq).block _ (lt_of_block hx)).trans hx
 generalize wA.drewN nq=f at *;clear hx u c1 b1 H HP;have HX:Hid (∀ a,Below f.heap.size f a→a.heap[w.heap.size]? = some (.cells #[I J 3,I J A,I J B,I J C,Z S] 28)):=fun a i=>(i.block _ (lt_of_block v)).trans v
 have l:Below f.heap.size f f:=Below.refl _ _
 clear v;have a4:q<K.nds.length:=by omega
 have b0:f.cell? ⟨w.heap.size,0,O⟩=some (I J 3):=(cell_of_row _ _ _ _ _ _ (HX.out _ l)).trans rfl
 have b1:f.cell? ⟨w.heap.size,1,O⟩=some (I J A):=(cell_of_row _ _ _ _ _ _ (HX.out _ l)).trans rfl
 have b2:f.cell? ⟨w.heap.size,2,O⟩=some (I J B):=(cell_of_row _ _ _ _ _ _ (HX.out _ l)).trans rfl
 have F:f.cell? ⟨w.heap.size,4,O⟩=some (Z S):=(cell_of_row _ _ _ _ _ _ (HX.out _ l)).trans rfl
 have M:f.cell? ⟨w.heap.size,3,O⟩=some (I J C):=(cell_of_row _ _ _ _ _ _ (HX.out _ l)).trans rfl
 have ae:Hid (∀ a (k b:Nat) (x:ByteArray),Below f.heap.size f a→k<9→b<n→1≤S.size→S.size≤8→x.size≤100→(x.toList.isEmpty=true→jk S=false∧(32:UInt8)∉S.data.toList)→(¬x.toList.isEmpty=true→(∃ E:Int,0≤E∧E≤10∧x=dg E)∧(32:UInt8)∉S.data.toList)→Calls Tryz.prog 26 #[Zp (some ⟨g,0,O⟩),I J (1+(k:Int)),I J b,Z S,Z x] a fun e w'=>e=Zr (.tuple #[])∧RnE N w w' g K V 150000 (Zr (.bool true))):=fun a k b x i hk hb h1 h8 ht af ai=>by
  have L2:=m.out.below i;have:=Cb L2.kst.at_ L2.ki L2.gr (1+k) b (by omega) (by omega) (by rw[hn];omega) S x h1 h8 ht af ai (by omega)
  rw[show ((1+k:Nat):Int)=1+(k:Int) by omega] at this
  refine this.mono ?_;rintro e w3 ⟨rfl,K3,V3,P⟩;exact⟨rfl,true,K3,V3,rfl,L2.kst.trans P.kst,P.ki,by have:=P.ms;omega,P.n,fun _=>P.gr⟩
 obtain⟨k9,ak,p⟩:=eY A 9 (by omega)
 have al:Hid (∀ a,Calls Tryz.prog 12 #[I J A,I J 9] a fun e w'=>e=Zr (I J (k9:Int))∧w'=a):=fun a=>by
  have:=dR A 9 a hA0 hA1 (by omega) (by omega)
  rw[← p];exact this
 obtain⟨pb,am,r⟩:=eY B n (by omega)
 have an:Hid (∀ a,Calls Tryz.prog 12 #[I J B,I J n] a fun e w'=>e=Zr (I J (pb:Int))∧w'=a):=fun a=>by rw[← r];exact dR B n a hB0 hB1 (by omega) (by omega)
 have Q:=ah (m.out.kst.at_.cv 1 rfl (congrArg (Value.int .i64) hn));clear p r;have ao:=ah (zT S f (by omega))
 have ap:=ah (zS m.out.kst.at_ m.out.ki.sz S (-1) (by omega))
 obtain⟨c,a5,s⟩:=eY C n (by omega)
 have aq:Hid (∀ a,Calls Tryz.prog 12 #[I J C,I J n] a fun e w'=>e=Zr (I J (c:Int))∧w'=a):=fun a=>by rw[← s];exact dR C n a hC0 hC1 (by omega) (by omega)
 have y:c<K.nds.length:=by omega
 obtain⟨aN,cN,T⟩:=aj m.out.kst.at_.rN
 have HN:Hid (∀ a,Below f.heap.size f a→a.cell? ⟨g,2,O⟩=some (Y aN K.nds.length cN)∧∃ b U,aN=some ⟨b,U,O⟩∧b<a.heap.size∧a.cell? ⟨b,U+c,O⟩=some (Zp (some ⟨K.nds[c].b,0,O⟩))):=fun a i=>⟨by rw[← T];exact (m.out.kst.at_.below i).cell 2,m.out.kst.at_.ptr T i c y⟩
 have ar:Hid (∀ a,Below f.heap.size f a→Calls Tryz.prog 29 #[Zp (some ⟨K.nds[c].b,0,O⟩)] a fun e w'=>e=Zr (.tuple #[I J K.nds[c].R.epoch,I J K.nds[c].R.view,I J K.nds[c].R.status,I J (K.nds[c].R.decided:Int)])∧∃ n,w'=a.drewN n):=fun a i=>m.out.kst.at_.whr i c y
 have W:=(ad.out.nod c _ (List.getElem?_eq_getElem y)).ok.ep;generalize K.nds[c].b=bb at *;generalize K.nds[c].R.epoch=t at *;generalize K.nds[c].R.view=r2 at *;generalize K.nds[c].R.status=r3 at *;generalize K.nds[c].R.decided=r4 at *;have av:Hid (∀ a,Calls Tryz.prog 30 #[I J t] a fun e w'=>e=Zr (Z (dg t))∧Below a.heap.size a w'):=fun a=>gQ t a (by omega) (by omega)
 have sn:=gu t (by omega)
 have aw:=ah (dg_ne t);have ax:Hid (∃ E:Int,0≤E∧E≤10∧dg t=dg E):=⟨t,W.1,W.2,rfl⟩
 generalize dg t=dr at *;clear s;go_wp2_with fail;refine ao.out.mono ?_;rintro e wC ⟨b,rfl,hb,az⟩;subst az;go_wp2_with fail;refine ap.out.mono ?_;rintro e wD ⟨bD,rfl,j⟩;have HR:=ah ((m.out.below j).rne (d:=150000) true (by omega))
 clear b0 b1 b2 M F;have b1:wD.cell? ⟨w.heap.size,1,O⟩=some (I J A):=(cell_of_row _ _ _ _ _ _ (HX.out _ j)).trans rfl
 have b2:wD.cell? ⟨w.heap.size,2,O⟩=some (I J B):=(cell_of_row _ _ _ _ _ _ (HX.out _ j)).trans rfl
 have M:wD.cell? ⟨w.heap.size,3,O⟩=some (I J C):=(cell_of_row _ _ _ _ _ _ (HX.out _ j)).trans rfl
 have F:wD.cell? ⟨w.heap.size,4,O⟩=some (Z S):=(cell_of_row _ _ _ _ _ _ (HX.out _ j)).trans rfl
 cases b
 ·clear hb;go_wp2;go_ret;exact HR.out
 ·obtain⟨⟨a6,a7⟩,X,_⟩:=hb rfl
  have a0:=ah X;clear hb X;cases bD
  ·go_wp2;go_ret;exact HR.out
  ·have c1:=Q.out _ j;go_wp2_with fail;refine (al.out _).mono ?_;rintro e wE ⟨rfl,a1⟩;subst a1;go_wp2_with fail;go_quiet ((go_at_call 12;exact Calls.quiet_of_same (an.out _)))
   have o:=below_drewN j nq;generalize wE.drewN nq=wF at *;clear b1 b2 M F c1;have M:wF.cell? ⟨w.heap.size,3,O⟩=some (I J C):=(cell_of_row _ _ _ _ _ _ (HX.out _ o)).trans rfl
   have F:wF.cell? ⟨w.heap.size,4,O⟩=some (Z S):=(cell_of_row _ _ _ _ _ _ (HX.out _ o)).trans rfl
   have c1:=Q.out _ o;go_wp2_with fail;go_quiet ((go_at_call 12;exact Calls.quiet_of_same (aq.out _)))
   have D:=below_drewN o nq;generalize wF.drewN nq=wG at *;clear M F c1;obtain⟨c2,bp,op,rfl,_,d2⟩:=HN.out _ D
   have k1:(0:Int)≤(c:Int):=by omega
   have k2:(c:Int)<(K.nds.length:Int):=by omega
   go_wp2_with fail;refine (ar.out _ D).mono ?_;rintro e wH ⟨rfl,nn,aa⟩;have ab:Below wC.heap.size wC wH:=by rw[aa];exact below_drewN D nn
   clear aa c2 d2;go_wp2_with fail;refine (av.out _).mono ?_;rintro e wI ⟨rfl,a2⟩;have ac:=ab.trans (a2.mono ab.size);have F:wI.cell? ⟨w.heap.size,4,O⟩=some (Z S):=(cell_of_row _ _ _ _ _ _ (HX.out _ ac)).trans rfl
   go_wp2_with fail;refine (ae.out _ k9 pb _ ac ak am (by omega) (by omega) (by omega) (fun h=>absurd h aw.out) (fun _=>⟨ax.out,a0.out⟩)).mono ?_
   rintro e w9 ⟨rfl,hR⟩;have HR:=ah hR;clear hR;go_wp2;go_ret;exact HR.out
theorem JO (h:KAt N w g K V) (hi:KI K) (gr:Gr K) (kd A B C:Int) (S:ByteArray) (hA0 : -9223372036854775808≤A) (hA1:A≤9223372036854775807) (hB0 : -9223372036854775808≤B) (hB1:B≤9223372036854775807) (hC0 : -9223372036854775808≤C) (hC1:C≤9223372036854775807) (hS:S.size≤1000000) (hm:dS K+200000≤900000000000) :
  Calls Tryz.prog 13 #[Zp (some ⟨g,0,O⟩),.agg #[I J kd,I J A,I J B,I J C,Z S]] w fun e w'=>RnE N w w' g K V 150000 e:=by
 by_cases d:kd=2
 ·subst d;exact GU h hi gr A B C S hA0 hA1 hB0 hB1 hC0 hC1 hS hm
 by_cases f:kd=3
 ·subst f;exact GV h hi gr A B C S hA0 hA1 hB0 hB1 hC0 hC1 hS hm
 by_cases i:kd=4
 ·subst i;exact GX h hi gr A B C S hA0 hA1 hB0 hB1 hC0 hC1 hS hm
 by_cases j:kd=5
 ·subst j;exact GY h hi gr A B C S hA0 hA1 hB0 hB1 hC0 hC1 hS hm
 by_cases k:kd=6
 ·subst k;exact GZ h hi gr A B C S hA0 hA1 hB0 hB1 hC0 hC1 hS hm
 by_cases l:kd=7
 ·subst l;exact G5 h hi gr A B C S hA0 hA1 hB0 hB1 hC0 hC1 hS hm
 by_cases m:kd=8
 ·subst m;exact G6 h hi gr A B C S hA0 hA1 hB0 hB1 hC0 hC1 hS hm
 by_cases n:kd=9
 ·subst n;exact G7 h hi gr A B C S hA0 hA1 hB0 hB1 hC0 hC1 hS hm
 by_cases a:kd=10
 ·subst a;exact EF h hi gr A B C S hA0 hA1 hB0 hB1 hC0 hC1 hS hm
 by_cases b:kd=11
 ·subst b;exact EG h hi gr A B C S hA0 hA1 hB0 hB1 hC0 hC1 hS hm
 by_cases c:kd=12
 ·subst c;exact EH h hi gr A B C S hA0 hA1 hB0 hB1 hC0 hC1 hS hm
 exact G8 h hi gr kd A B C S hA0 hA1 hB0 hB1 hC0 hC1 hS hm d f i j k l m n a b c
end
structure pO where
 kd:Int
 a:Int
 b:Int
 c:Int
 s:ByteArray
def gH:List pO→List Value
 | []=>[]
 | x :: l=>I J x.kd :: I J x.a :: I J x.b :: I J x.c :: Z x.s :: gH l
theorem yA:∀ (l:List pO) (k:Nat) (h:k<l.length),(gH l)[5*k]? = some (I J l[k].kd)∧(gH l)[5*k+1]? = some (I J l[k].a)∧(gH l)[5*k+2]? = some (I J l[k].b)∧(gH l)[5*k+3]? = some (I J l[k].c)∧(gH l)[5*k+4]? = some (Z l[k].s)
 | a :: l,0,_=>⟨rfl,rfl,rfl,rfl,rfl⟩
 | a :: l,k+1,h=>by
  have:=yA l k (by simpa using h)
  simp only[List.getElem_cons_succ];exact this
def Scr (w:World) (v:Value) (l:List pO):Prop:=(∃ a cap,v=Y a l.length cap∧l.length≤cap∧cap≤9223372036854775807)∧(0<l.length→Rd w 5 v l.length (gH l))
theorem Scr.below {w w':World} {v:Value} {l:List pO} (h:Scr w v l) (hb:Below w.heap.size w w'):Scr w' v l:=⟨h.1,fun q=>Rd.below (h.2 q) hb⟩
theorem Scr.get {w:World} {a:Option Addr} {n cap:Nat} {l:List pO} (h:Scr w (Y a n cap) l) (k:Nat) (hk:k<l.length) :
  ∃ b off,a=some ⟨b,off,O⟩∧b<w.heap.size∧w.cell? ⟨b,off+k*5,O⟩=some (I J l[k].kd)∧w.cell? ⟨b,off+k*5+1,O⟩=some (I J l[k].a)∧w.cell? ⟨b,off+k*5+2,O⟩=some (I J l[k].b)∧w.cell? ⟨b,off+k*5+3,O⟩=some (I J l[k].c)∧w.cell? ⟨b,off+k*5+4,O⟩=some (Z l[k].s):=by
 obtain⟨g,i,j,m,o⟩:=yA l k hk
 rcases (h.2 (by omega)).2 with ⟨e,q⟩|⟨b,off,f,e,_,_,p,d⟩
 ·omega
 ·simp only[Value.slice.injEq] at e;obtain⟨rfl,rfl,rfl⟩:=e
  refine⟨b,off,rfl,p,?_,?_,?_,?_,?_⟩
  ·have:=d _ _ g;rwa [show off+5*k=off+k*5 by omega] at this
  ·have:=d _ _ i;rwa [show off+(5*k+1)=off+k*5+1 by omega] at this
  ·have:=d _ _ j;rwa [show off+(5*k+2)=off+k*5+2 by omega] at this
  ·have:=d _ _ m;rwa [show off+(5*k+3)=off+k*5+3 by omega] at this
  ·have:=d _ _ o;rwa [show off+(5*k+4)=off+k*5+4 by omega] at this
theorem Scr.shape {w:World} {v:Value} {l:List pO} (h:Scr w v l):∃ a cap,v=Y a l.length cap∧l.length≤cap∧cap≤9223372036854775807:=by
 exact h.1
def tu (x:pO):Prop:=(-9223372036854775808≤x.a∧x.a≤9223372036854775807)∧(-9223372036854775808≤x.b∧x.b≤9223372036854775807)∧(-9223372036854775808≤x.c∧x.c≤9223372036854775807)
def SmP (w w':World) (l:List pO) (e:Ending):Prop:=∃ b,e=Zr (.bool b)∧(b=true→l.length≤65536∧∀ x∈l,x.s.size≤65536)∧w'=w
section
variable {N:Nat} {w w':World} {g:Nat} {K K':Kw} {V V':Kv}
theorem GR (l:List pO) (v:Value) (hS:Scr w v l) (hz:∀ x∈l,x.s.size≤1000000000000000) :
  Calls Tryz.prog 5 #[v] w fun e w'=>SmP w w' l e:=by
 obtain⟨a,z,rfl,u,G⟩:=hS.shape
 have p:=ah hS;have A:Hid (∀ (k:Nat) (q:k<l.length),(l[k]).s.size≤1000000000000000):=fun k q=>hz _ (List.getElem_mem q)
 clear hS hz;by_cases H:(65536:Int)<(l.length:Int)
 ·have y:Hid (SmP w w l (Zr (.bool false))):=⟨false,rfl,fun h=>by simp at h,rfl⟩
  go_enter Tryz.func5,Tryz.ntmps5;go_wp2;go_ret;exact y.out
 ·have y:Hid (SmP w w l (Zr (.bool false))):=⟨false,rfl,fun h=>by simp at h,rfl⟩
  go_enter Tryz.func5,Tryz.ntmps5;go_wp2_with fail;go_loopw [3,4] (fun m i wr=>∃ k c:Nat,k≤l.length∧c≤65536∧i=I J k∧m=I J c∧(∀ j (g:j<l.length),j<k→(l[j]).s.size≤65536)∧wr=w) (fun _ i _=>l.length-(intOf i).toNat)
  case atStart=>exact⟨0,l.length,Nat.zero_le _,by omega,rfl,rfl,fun j g h=>by omega,rfl⟩
  case round =>
   obtain⟨k,c,q,K,rfl,rfl,b,r⟩:=hrel
   subst r;have d:=ah b;clear b;by_cases n:k<l.length
   ·obtain⟨b1,L,rfl,_,_,_,_,_,M⟩:=p.out.get k n
    have N:(0:Int)≤(k:Int):=by omega
    have P:(k:Int)<(l.length:Int):=by omega
    have hz:=A.out k n;have f:Hid ((l[k]).s.size≤65536→∀ j (g:j<l.length),j<k+1→(l[j]).s.size≤65536):=fun B j g C=>by
     by_cases e:j=k
     ·subst e;exact B
     ·exact d.out j g (by omega)
    have t:Hid (SmP wr wr l (Zr (.bool false))):=⟨false,rfl,fun h=>by simp at h,rfl⟩
    generalize (l[k]).s=o at *;by_cases D:(65536:Int)<(c:Int)+(o.size:Int)
    ·go_wp2;go_ret;exact t.out
    ·go_wp2;go_roundw
     case rel=>exact⟨k+1,c+o.size,by omega,by omega,by go_num,by rw[show ((c+o.size:Nat):Int)=(c:Int)+(o.size:Int) by omega],f.out (by omega),trivial⟩
     case measure=>simp[intOf];omega
   ·have E:Hid (SmP wr wr l (Zr (.bool true))):=⟨true,rfl,fun _=>⟨by omega,fun x F=>by
     obtain⟨j,g,rfl⟩:=List.mem_iff_getElem.1 F
     exact d.out j g (by omega)⟩,rfl⟩
    go_wp2;go_ret;exact E.out
def MB:Nat→Nat
 | 0=>208000000000
 | k+1=>MB k+150000
theorem KQ {m:Nat} (h:m≤208000000000):∀ k:Nat,m≤MB k
 | 0=>h
 | k+1=>Nat.le_trans (KQ h k) (Nat.le_add_right _ _)
theorem MB_up {m m' k:Nat} (h:m≤MB k) (h':m'≤m+150000):m'≤MB (k+1):=Nat.le_trans h' (Nat.add_le_add_right h 150000)
theorem Pd:∀ k:Nat,MB k=150000*k+208000000000
 | 0=>rfl
 | k+1=>by
  have:=Pd k
  show MB k+150000=_
  omega
theorem MB_hi {m k:Nat} (h:m≤MB k) (hk:k≤65536):m+200000≤900000000000:=by
 rw[Pd] at h;omega
def UpP (w w':World) (e:Ending):Prop:=e=Zr (I J (-1))∧Below w.heap.size w w'
theorem JL (l:List pO) (v:Value) (held:Int) (hS:Scr w v l) (hT:Tab w) (h0:0<w.heap.size) (hl:l.length≤65536) (hz:∀ x∈l,x.s.size≤65536) (ho:∀ x∈l,tu x) (hh:held=1) :
  Calls Tryz.prog 7 #[v,I J held] w fun e w'=>UpP w w' e:=by
 obtain⟨a,an,rfl,am,hm⟩:=hS.shape
 have D:=ah hS;have HZ:Hid (∀ (k:Nat) (W:k<l.length),(l[k]).s.size≤65536∧tu l[k]):=fun k W=>⟨hz _ (List.getElem_mem W),ho _ (List.getElem_mem W)⟩
 have E:=ah (vE (N:=w.heap.size) 3 ⟨#[48,49,50]⟩ w hT h0 (Nat.le_refl _) (by omega) (by omega) (by decide))
 have aa:Hid (∀ (d:World) (n:Nat) (s:ByteArray),Below w.heap.size w d→3≤n→n≤7→s.size≤65536→Calls Tryz.prog 11 #[I J n,Z s] d fun e w'=>ClP w.heap.size d w' n e):=fun d n s o h3 h7 hs=>vE n s d (hT.below o) h0 o.size h3 h7 (by omega)
 clear hS hT hz ho;go_enter Tryz.func7,Tryz.ntmps7;go_wp2_with fail;refine E.out.mono ?_;rintro e w1 ⟨g,K,V,rfl,hA,hi,gr,hn,F,ab⟩;have ac:Hid (KAt w.heap.size w1 g K V∧KI K∧Gr K∧dS K≤MB 0):=⟨hA,hi,gr,KQ F 0⟩
 clear hA hi gr hn F E;go_wp2_with fail;go_loopw [5,6] (fun p i wr=>∃ (k g:Nat) (K:Kw) (V:Kv),k≤l.length∧i=I J k∧p=Zp (some ⟨g,0,O⟩)∧(KAt w.heap.size wr g K V∧KI K∧Gr K∧dS K≤MB k)∧Below w.heap.size w wr) (fun _ i _=>l.length-(intOf i).toNat)
 case atStart=>exact⟨0,g,K,V,Nat.zero_le _,rfl,rfl,ac.out,ab⟩
 case round =>
  obtain⟨k,g2,K2,V2,W,rfl,rfl,G,f⟩:=hrel
  have h:=ah G;clear G;by_cases u:k<l.length
  ·obtain⟨b1,o1,rfl,_,d0,d1,d2,d3,d4⟩:=(D.out.below f).get k u
   have j1:(0:Int)≤(k:Int):=by omega
   have j2:(k:Int)<(l.length:Int):=by omega
   obtain⟨ad,⟨H,L⟩,⟨ae,M⟩,⟨af,ai⟩⟩:=HZ.out k u
   have HD:Hid (∀ d,Below w.heap.size w d→d.cell? ⟨b1,o1+k*5+4,O⟩=some (Z l[k].s)):=fun d o=>by
    obtain⟨b3,o3,e3,_,_,_,_,_,f4⟩:=(D.out.below o).get k u
    cases e3;exact f4
   generalize l[k].kd=kd at *;generalize l[k].a=X at *;generalize l[k].b=xb at *;generalize l[k].c=xc at *;generalize l[k].s=xs at *;by_cases h1:kd=1
   ·subst h1;obtain⟨k5,ao,P⟩:=eY X 5 (by omega)
    have HP:Hid (∀ d,Calls Tryz.prog 12 #[I J X,I J 5] d fun e w'=>e=Zr (I J (k5:Int))∧w'=d):=fun d=>by
     have:=dR X 5 d H L (by omega) (by omega)
     rw[← P];exact this
    have B:=ah (aa.out wr (3+k5) xs f (by omega) (by omega) ad)
    rw[show ((3+k5:Nat):Int)=3+(k5:Int) by omega] at B
    clear P;go_wp2_with fail;refine (HP.out _).mono ?_;rintro e w3 ⟨rfl,ak⟩;subst ak;go_wp2_with fail;refine B.out.mono ?_;rintro e C ⟨g4,j,Q,rfl,R,S,m,al,t,T⟩;have y:Hid (KAt w.heap.size C g4 j Q∧KI j∧Gr j∧dS j≤MB (k+1)):=⟨R,S,m,KQ t _⟩
    have q:=f.trans (T.mono f.size);clear R S m al t T;go_wp2;go_roundw
    case rel=>exact⟨k+1,g4,j,Q,by omega,by go_num,rfl,y.out,q⟩
    case measure=>simp[intOf];omega
   ·have ap:(kd==1)=false:=beq_eq_false_iff_ne.2 h1
    have B:=ah (JO h.out.1 h.out.2.1 h.out.2.2.1 kd X xb xc xs H L ae M af ai (by omega) (MB_hi h.out.2.2.2 (by omega)))
    clear h1;go_wp2_with fail;refine B.out.mono ?_;rintro e C ⟨b4,j,Q,rfl,U,r,z,n4,m⟩;have q:Below w.heap.size w C:=rV f U.kp h.out.1.NU
    have A:=r.part;have c0:C.cell? ⟨g2,0,O⟩=some (I J j.part):=U.at_.cell 0
    cases b4
    ·have HF:Hid (UpP w C (Zr (I J (-1)))):=⟨rfl,q⟩
     clear U r z n4 m B;generalize j.part=pt at *;unfold tQ at A;subst hh;rcases A with rfl|rfl|rfl
     all_goals go_wp2
     all_goals go_ret
     all_goals exact HF.out
    ·have y:Hid (KAt w.heap.size C g2 j Q∧KI j∧Gr j∧dS j≤MB (k+1)):=⟨U.at_,r,m rfl,MB_up h.out.2.2.2 z⟩
     clear U r z n4 m B c0 A;go_wp2;go_roundw
     case rel=>exact⟨k+1,g2,j,Q,by omega,by go_num,rfl,y.out,q⟩
     case measure=>simp[intOf];omega
  ·have HF:Hid (UpP w wr (Zr (I J (-1)))):=⟨rfl,f⟩
   go_wp2;go_ret;exact HF.out
end
section
variable {N:Nat} {w w':World} {g:Nat} {K K':Kw} {V V':Kv}
def AlP (w w':World) (e:Ending):Prop:=e=Zr (.bool true)∧Below w.heap.size w w'
theorem GK (l:List pO) (v:Value) (held:Int) (hS:Scr w v l) (hT:Tab w) (h0:0<w.heap.size) (hz:∀ x∈l,x.s.size≤1000000000000000) (ho:∀ x∈l,tu x) (hh:held=1) (hal:Calls Tryz.prog 6 #[] w fun e w'=>AlP w w' e) :
  Calls Tryz.prog 4 #[v,I J held] w fun e w'=>AlP w w' e:=by
 obtain⟨a,g,rfl,p,z⟩:=hS.shape
 have h:=ah (GR l _ hS hz);have i:=ah hal;have j:Hid (∀ f,Below w.heap.size w f→l.length≤65536→(∀ x∈l,x.s.size≤65536)→Calls Tryz.prog 7 #[Y a l.length g,I J held] f fun e w'=>UpP f w' e):=fun f b r t=>JL l _ held (hS.below b) (hT.below b) (by have:=b.size;omega) r t ho hh
 clear hS hT hz ho hh hal;go_enter Tryz.func4,Tryz.ntmps4;go_wp2_with fail;refine h.out.mono ?_;rintro e k ⟨b1,rfl,c,m⟩;subst m;cases b1
 ·have n:Hid (AlP k k (Zr (.bool true))):=⟨rfl,Below.refl _ _⟩
  clear c;go_wp2;go_ret;exact n.out
 ·have q:=ah (c rfl);clear c;go_wp2_with fail;refine i.out.mono ?_;rintro e f ⟨rfl,d⟩;have u:=ah (j.out _ d q.out.1 q.out.2);go_wp2_with fail;refine u.out.mono ?_;rintro e y ⟨rfl,o⟩;have n:Hid (AlP k y (Zr (.bool true))):=⟨rfl,d.trans (o.mono d.size)⟩
  go_wp2;go_ret;exact n.out
theorem Di (l:List pO) (v:Value) (hS:Scr w v l) (hT:Tab w) (h0:0<w.heap.size) (hz:∀ x∈l,x.s.size≤1000000000000000) (ho:∀ x∈l,tu x) (hal:Calls Tryz.prog 6 #[] w fun e w'=>AlP w w' e) :
  Calls Tryz.prog 3 #[v] w fun e w'=>AlP w w' e:=by
 obtain⟨a,d,rfl,c,i⟩:=hS.shape
 have f:=ah (GK l _ 1 hS hT h0 hz ho rfl hal);clear hS hT hz ho hal;go_enter Tryz.func3,Tryz.ntmps3;go_wp2_with fail;refine f.out.mono ?_;rintro e g ⟨rfl,b⟩;have h:Hid (AlP w g (Zr (.bool true))):=⟨rfl,b⟩
 go_wp2;go_ret;exact h.out
end
section
section
variable {N:Nat} {w w':World} {g:Nat} {K K':Kw} {V V':Kv}
open Al
theorem OJ:Ok RA∧Rp.SvI RA∧RA.out=[]∧Ok Al.RB∧Rp.SvI Al.RB∧Al.RB.out=[]∧Ok RA2∧Rp.SvI RA2:=by
 have b:bK G3.data.toList 3=true:=by decide
 have a:=Ht (id:=0) (n:=3) (s:=G3) (by decide) b
 have d:=Ht (id:=1) (n:=3) (s:=G3) (by decide) b
 have f:iZ 3 EN:=⟨by decide,by decide,by decide,by decide,by decide,by decide⟩
 refine⟨a,rfl,rfl,d,rfl,rfl,?_,rfl⟩
 exact⟨a.n3,a.n7,a.i0,a.i1,a.ll,a.lb,a.st,a.ep,a.vi,a.no,a.g,a.o,by decide,fun e c=>by simp[RA2] at c;subst c;exact f,by decide,a.vo,a.vn,a.an,a.nn⟩
theorem Gv (hT:Tab w) (h0:0<w.heap.size):Calls Tryz.prog 6 #[] w fun e w'=>AlP w w' e:=by
 obtain⟨oA,sA,uA,oB,sB,uB,aa,ab⟩:=OJ
 have hg:bK (⟨#[48,49,50]⟩:ByteArray).data.toList 3=true:=by decide
 have ac:=ah (ow 0 3 ⟨#[48,49,50]⟩ w hT (by decide) (by decide) hg h0)
 have ad:Hid (∀ j,Below w.heap.size w j→Calls Tryz.prog 8 #[I J 1,I J 3,Z ⟨#[48,49,50]⟩] j fun e w'=>CQ j w' e (Rp.new 1 3 (dN ⟨#[48,49,50]⟩))):=fun j C=>ow 1 3 ⟨#[48,49,50]⟩ j (hT.below C) (by decide) (by decide) hg (by have:=C.size;omega)
 clear hT hg;go_enter Tryz.func6,Tryz.ntmps6;go_wp2_with fail;refine ac.out.mono ?_;rintro e w1 ⟨V,lx,Wx,W,Vx,rfl,hx,ae,D,k⟩;have l:Hid (au w1 V lx Wx W RA Vx):=hx
 clear hx;go_wp2_with fail;refine (ad.out _ k).mono ?_;rintro e j ⟨E,ly,Wy,X,Vy,rfl,hy,af,u,v⟩;have m:Hid (au j E ly Wy X Al.RB Vy):=hy
 have ai:=ah (l.out.below v);have ak:=k.trans (v.mono k.size);have F:=ah (sJ ai.out oA sA uA ae Q1);clear hy;go_wp2_with fail;refine F.out.mono ?_;rintro e w3 ⟨R1,G,H,W1,F1,V1,rfl,b⟩;obtain rfl:=tk1 G;have K:∀ y∈W,y<w1.heap.size:=l.out.fl
 have aw:=k.size;have ax:=v.size;have x:∀ y∈Wx,y∈W:=l.out.wf
 have d:∀ y∈Wy,y∈X:=m.out.wf
 have al:∀ y∈X,y<j.heap.size:=m.out.fl
 have am:Hid (au w3 E ly Wy X Al.RB Vy):=m.out.far b.kp (fun z i A=>by have:=K z (x z i);have:=u z A;omega) (fun A=>l.out.t0 (x 0 A))
 have an:Hid (au w3 V lx W1 F1 RA2 V1):=b.rp
 have L:=b.vt0;have ao:Below w.heap.size w w3:=rV ak b.kp (fun z i=>D z (x z i))
 have B:D6 w3 H [(1,T1),(2,T1)]:=Rd.bX b.out
 have s:Hid (∀ y∈F1,y∈W∨j.heap.size≤y):=b.g
 have M:∀ y∈W1,y∈F1:=b.rp.wf
 have az:=b.kp.size;obtain⟨a1,c1,rfl⟩:∃ a c,H=Y a 2 c:=by
  obtain⟨a,c,e,_⟩:=Rd.form B
  exact⟨a,c,e⟩
 obtain⟨bo,oo,rfl,_,p1,p2⟩:=B.get 0 (by decide)
 simp only[Nat.zero_mul,Nat.add_zero,List.getElem_cons_zero] at p1 p2;clear b G B;have N:=ah (sJ am.out oB sB uB af T1);go_wp2_with fail;refine N.out.mono ?_;rintro e w4 ⟨R2,P,Q,W2,F2,V2,rfl,n⟩;have f:=tk2 P;have ap:Hid (au w4 V lx W1 F1 RA2 V1):=an.out.far n.kp (fun z i A=>by
  have h1:=al z (d z i);have h2:=u z (d z i);rcases s.out z A with q|q
  ·have:=K z q;omega
  ·omega) (fun A=>m.out.t0 (d 0 A))
 have aq:Below w.heap.size w w4:=rV ao n.kp (fun z i=>by have:=u z (d z i);omega)
 have o:D6 w4 Q R2.out:=Rd.bX n.out
 rw[f] at o;obtain⟨a2,c2,rfl⟩:∃ a c,Q=Y a 1 c:=by
  obtain⟨a,c,e,_⟩:=Rd.form o
  exact⟨a,c,e⟩
 obtain⟨bp,op,rfl,_,q1,q2⟩:=o.get 0 (by decide)
 simp only[Nat.zero_mul,Nat.add_zero,List.getElem_cons_zero] at q1 q2;clear n P o p1 p2 f;have R:=ah (sJ ap.out aa ab rfl L T2);go_wp2_with fail;refine R.out.mono ?_;rintro e S ⟨R3,T,U,W3,F3,V3,rfl,p⟩;obtain⟨h,t⟩:=tk3 T
 have ar:Below w.heap.size w S:=rV aq p.kp (fun z i=>by
  rcases s.out z (M z i) with q|q
  ·exact D z q
  ·omega)
 have r:D6 S U R3.out:=Rd.bX p.out
 rw[h] at r;obtain⟨a3,c3,rfl⟩:∃ a c,U=Y a 1 c:=by
  obtain⟨a,c,e,_⟩:=Rd.form r
  exact⟨a,c,e⟩
 obtain⟨bq,oq,rfl,_,r1,r2⟩:=r.get 0 (by decide)
 simp only[Nat.zero_mul,Nat.add_zero,List.getElem_cons_zero] at r1 r2;have HV:Hid (Calls Tryz.prog 10 #[Zp (some ⟨V,0,O⟩),I .u8 97] S fun e w'=>e=Zr (Z ⟨#[53]⟩)∧w'=S):=by
  have:=Cv p.rp 97 (by omega) (by omega)
  have e:wN ({ R3 with out:=[] }:Rp).sv 97=⟨#[53]⟩:=t
  rw[e] at this;exact this
 clear p T r q1 q2 h t;have HF:Hid (AlP w S (Zr (.bool true))):=⟨rfl,ar⟩
 go_wp2_with fail;refine HV.out.mono ?_;rintro e w6 ⟨rfl,av⟩;subst av;go_wp2;go_ret;exact HF.out
end
end
section
open Go.RowKit Go.ChangeShapes Go.WideShapes Go.ChangeAt
theorem Tryz.tyTab:(Tryz.prog.globals[0]?).map (·.type)=some 156:=by kernel_rfl
theorem QF {W:World} (h:laidMetH Tryz.prog Rows.oneListRow.laid W):Tab W:=by
 rw[MakeChecks.laidMetH_plain _ _ _ (by kernel_rfl)] at h
 obtain⟨y,⟨z,A,l,B,C,D,m,n,o,p,⟨E,t1,q,F,G,H,r,s,t,hd1,⟨g2,t2,a,u,v,w,c,d,e,f,g,rfl⟩,rfl⟩,rfl⟩,i,j⟩:=h
 have g:w=[]:=g
 subst g;refine Lib.tabIs_of_head (rest:=[]) Tryz.gTab Tryz.tyTab Tryz.underlying156 Tryz.underlying149 (by kernel_rfl) (by kernel_rfl) ⟨_,⟨g2,t2,a,u,v,[],c,d,e,?_,rfl,rfl⟩,?_,fun b k x=>j b k ?_⟩
 ·exact f
 ·exact (List.nodup_append.1 (List.nodup_append.1 i).2.1).2.1
 ·exact List.mem_append.2 (.inr (List.mem_append.2 (.inr x)))
theorem tC {w:World} {b:Nat}:∀ (l:List pO) (off:Nat),(∀ (i:Nat) (h:i<l.length),w.cell? ⟨b,off+i*5,O⟩=some (I J l[i].kd)∧w.cell? ⟨b,off+i*5+1,O⟩=some (I J l[i].a)∧w.cell? ⟨b,off+i*5+2,O⟩=some (I J l[i].b)∧w.cell? ⟨b,off+i*5+3,O⟩=some (I J l[i].c)∧w.cell? ⟨b,off+i*5+4,O⟩=some (Z l[i].s)) →
  ∀ (j:Nat) (u:Value),(gH l)[j]? = some u→w.cell? ⟨b,off+j,O⟩=some u
 | [],_,_,j,u,h=>by simp[gH] at h
 | x :: l,off,hc,j,u,h=>by
  have h0:=hc 0 (by simp)
  simp only[Nat.zero_mul,Nat.add_zero,List.getElem_cons_zero] at h0
  match j,h with
  | 0,h=>simp only[gH,List.getElem?_cons_zero,Option.some.injEq] at h;subst h;exact h0.1
  | 1,h=>simp only[gH,List.getElem?_cons_succ,List.getElem?_cons_zero,Option.some.injEq] at h;subst h;exact h0.2.1
  | 2,h=>simp only[gH,List.getElem?_cons_succ,List.getElem?_cons_zero,Option.some.injEq] at h;subst h;exact h0.2.2.1
  | 3,h=>simp only[gH,List.getElem?_cons_succ,List.getElem?_cons_zero,Option.some.injEq] at h;subst h;exact h0.2.2.2.1
  | 4,h=>simp only[gH,List.getElem?_cons_succ,List.getElem?_cons_zero,Option.some.injEq] at h;subst h;exact h0.2.2.2.2
  | j+5,h =>
   have:=tC l (off+5) (fun i d=>by
    have q:=hc (i+1) (by simpa using d)
    simp only[List.getElem_cons_succ] at q;rw[show off+(i+1)*5=off+5+i*5 by omega] at q
    exact q) j u (by simpa only[gH,List.getElem?_cons_succ] using h)
   rw[show off+(j+5)=off+5+j by omega]
   exact this
theorem QE {H:Type} {enc:TypeId×Value→H} {W:World} {n:Nat} {cs:List Value} {x:DataW H×List MemPlace} (h:DataW.trod enc Tryz.prog W 0 (fun _=>true) true n 28 cs=some x) :
  ∃ y:pO,cs=[I J y.kd,I J y.a,I J y.b,I J y.c,Z y.s]∧tu y∧∃ d0 d1 d2 d3,x.1=.agg [d0,d1,d2,d3,.lit (.string y.s.data.toList)]:=by
 obtain⟨u,k,rfl,rfl,j,e,d⟩:=DataW.trod_struct Tryz.underlying28 h
 have c5:Tryz.prog.cellsOf 28=5:=by kernel_rfl
 have c1:Tryz.prog.cellsOf 3=1:=by kernel_rfl
 have v:Tryz.prog.cellsOf 9=1:=by kernel_rfl
 rw[c5] at j
 match cs,j,u,e with
 | [v0,v1,v2,v3,v4],_,[y0,y1,y2,y3,y4],_ =>
  have f:DataW.trod enc Tryz.prog W 0 (fun _=>true) true k 3 (([v0,v1,v2,v3,v4].drop 0).take (Tryz.prog.cellsOf 3))=some y0:=d 0 _ rfl
  have g:DataW.trod enc Tryz.prog W 0 (fun _=>true) true k 3 (([v0,v1,v2,v3,v4].drop 1).take (Tryz.prog.cellsOf 3))=some y1:=d 1 _ rfl
  have g2:DataW.trod enc Tryz.prog W 0 (fun _=>true) true k 3 (([v0,v1,v2,v3,v4].drop 2).take (Tryz.prog.cellsOf 3))=some y2:=d 2 _ rfl
  have g3:DataW.trod enc Tryz.prog W 0 (fun _=>true) true k 3 (([v0,v1,v2,v3,v4].drop 3).take (Tryz.prog.cellsOf 3))=some y3:=d 3 _ rfl
  have i:DataW.trod enc Tryz.prog W 0 (fun _=>true) true k 9 (([v0,v1,v2,v3,v4].drop 4).take (Tryz.prog.cellsOf 9))=some y4:=d 4 _ rfl
  rw[c1] at f g g2 g3;rw[v] at i;simp only[List.drop_zero,List.drop_succ_cons,List.take_succ_cons,List.take_zero] at f g g2 g3 i;obtain⟨w,l,C,b0⟩:=DataW.trod_int Tryz.underlying3 f
  obtain⟨k1,m,D,b1⟩:=DataW.trod_int Tryz.underlying3 g
  obtain⟨z,o,E,p⟩:=DataW.trod_int Tryz.underlying3 g2
  obtain⟨A,q,F,r⟩:=DataW.trod_int Tryz.underlying3 g3
  obtain⟨s,t,B,G⟩:=DataW.trod_string Tryz.underlying9 i
  simp only[List.cons.injEq,and_true] at l m o q t;subst l m o q t;refine⟨⟨w,k1,z,A,s⟩,rfl,?_,y0.1,y1.1,y2.1,y3.1,?_⟩
  ·simp only[Lit.wf,Bool.and_eq_true,decide_eq_true_eq] at b1 p r;exact⟨b1,p,r⟩
  ·rw[B];rfl
theorem Nu {H:Type} {P:Program} {e:TypeId} {d:DataW H} {n:Nat} (h:n∈d.weights P e):∀ {l:List (DataW H)},d∈l→n∈DataW.weightsAll P e l
 | [],q=>by cases q
 | x :: r,q=>by
  rw[DataW.weightsAll];rcases List.mem_cons.1 q with rfl|q
  ·exact List.mem_append.2 (.inl h)
  ·exact List.mem_append.2 (.inr (Nu h q))
theorem Kc {H:Type} (d0 d1 d2 d3:DataW H) (s:List UInt8):s.length∈DataW.weights Tryz.prog 28 (.agg [d0,d1,d2,d3,.lit (.string s)]):=by
 rw[DataW.weights,Tryz.underlying28];simp[DataW.weightsEach,DataW.weights]
theorem DX {H:Type} {l r:List (DataW H)} {d:DataW H} {n:Nat} (h:n∈d.weights Tryz.prog 28) (hd:d∈l):n∈DataW.weights Tryz.prog 22 (.slice l r):=by
 rw[DataW.weights,Tryz.underlying22];exact List.mem_cons.2 (.inr (List.mem_append.2 (.inl (Nu h hd))))
theorem Hr {H:Type} {V:List TypeId} {d:DataW H} {n:Nat} (hw:(DataW.weightsEach Tryz.prog (#[22].toList++V) ([d]++[])).all (·≤reachBytes)=true) (hn:n∈d.weights Tryz.prog 22):n≤1000000000000000:=by
 have e:DataW.weightsEach Tryz.prog (#[22].toList++V) ([d]++[])=d.weights Tryz.prog 22++DataW.weightsEach (H:=H) Tryz.prog V []:=by
  show DataW.weightsEach Tryz.prog (22 :: V) (d :: [])=_
  rw[DataW.weightsEach]
 rw[e] at hw;have:=of_decide_eq_true (List.all_eq_true.1 hw n (List.mem_append.2 (.inl hn)))
 unfold reachBytes at this;omega
theorem lt_of_cell {W:World} {a:Addr} {u:Value} (h:W.cell? a=some u):a.block<W.heap.size:=by
 rcases Nat.lt_or_ge a.block W.heap.size with q|q
 ·exact q
 ·unfold World.cell? at h;rw[Array.getElem?_eq_none q] at h
  split at h <;> simp_all
theorem Qv {H:Type} {enc:TypeId×Value→H} {W:World} {n:Nat} {v:Value} {x:DataW H×List MemPlace} (h:DataW.trod enc Tryz.prog W 0 (fun _=>true) true n 22 [v]=some x) :
  ∃ l,Scr W v l∧(∀ y∈l,tu y)∧(∀ y∈l,y.s.size∈x.1.weights Tryz.prog 22):=by
 have c5:Tryz.prog.cellsOf 28=5:=by kernel_rfl
 rcases Deep.open_slice Tryz.underlying22 h with ⟨p,rfl⟩|⟨a,len,U,m,k,D,Pl,p,hb,hl,V,C,rfl,E⟩
 ·simp only[List.cons.injEq,and_true] at p;subst p;exact⟨[],⟨⟨O,0,rfl,by simp,by simp⟩,fun q=>by simp at q⟩,by simp,by simp⟩
 ·simp only[List.cons.injEq,and_true] at p;subst p;simp only[if_true] at C;subst C;unfold maxLen at V;rw[c5] at E;have t:∀ i,i<len→∃ y:pO,(W.cell? (a.add (i*5))=some (I J y.kd)∧W.cell? (a.add (i*5+1))=some (I J y.a)∧W.cell? (a.add (i*5+2))=some (I J y.b)∧W.cell? (a.add (i*5+3))=some (I J y.c)∧W.cell? (a.add (i*5+4))=some (Z y.s))∧tu y∧∃ u d1 w z,D i=.agg [u,d1,w,z,.lit (.string y.s.data.toList)]:=by
   intro i o;obtain⟨X,h1,h2⟩:=E i (by omega)
   obtain⟨_,S,g⟩:=World.cells?_some h1
   obtain⟨y,rfl,hok,P⟩:=QE h2
   refine⟨y,⟨?_,?_,?_,?_,?_⟩,hok,P⟩
   ·have:=g 0 (by omega);rw[Deep.add_add] at this;simpa using this
   ·have:=g 1 (by omega);rw[Deep.add_add] at this;simpa using this
   ·have:=g 2 (by omega);rw[Deep.add_add] at this;simpa using this
   ·have:=g 3 (by omega);rw[Deep.add_add] at this;simpa using this
   ·have:=g 4 (by omega);rw[Deep.add_add] at this;simpa using this
  by_cases hz:len=0
  ·subst hz;exact⟨[],⟨⟨some a,m,rfl,by simp,by omega⟩,fun q=>by simp at q⟩,by simp,by simp⟩
  ·obtain⟨b,e,F⟩:=a
   obtain⟨y0,⟨G,_⟩,_⟩:=t 0 (by omega)
   have A:F=O:=by simpa [Addr.add] using World.cell?_spot G
   subst A;have Q:b<W.heap.size:=by simpa [Addr.add] using lt_of_cell G
   have K:∀ j,(⟨b,e,O⟩:Addr).add j=⟨b,e+j,O⟩:=fun j=>by unfold Addr.add;split <;> simp_all
   obtain⟨f,R⟩:∃ f:Nat→pO,∀ i,i<len→(W.cell? ⟨b,e+i*5,O⟩=some (I J (f i).kd)∧W.cell? ⟨b,e+i*5+1,O⟩=some (I J (f i).a)∧W.cell? ⟨b,e+i*5+2,O⟩=some (I J (f i).b)∧W.cell? ⟨b,e+i*5+3,O⟩=some (I J (f i).c)∧W.cell? ⟨b,e+i*5+4,O⟩=some (Z (f i).s))∧tu (f i)∧∃ u d1 w z,D i=.agg [u,d1,w,z,.lit (.string (f i).s.data.toList)]:=by
    have B:∀ i,i<len→∃ y:pO,(W.cell? ⟨b,e+i*5,O⟩=some (I J y.kd)∧W.cell? ⟨b,e+i*5+1,O⟩=some (I J y.a)∧W.cell? ⟨b,e+i*5+2,O⟩=some (I J y.b)∧W.cell? ⟨b,e+i*5+3,O⟩=some (I J y.c)∧W.cell? ⟨b,e+i*5+4,O⟩=some (Z y.s))∧tu y∧∃ u d1 w z,D i=.agg [u,d1,w,z,.lit (.string y.s.data.toList)]:=fun i o=>by
     obtain⟨y,T,r⟩:=t i o
     simp only[K,← Nat.add_assoc] at T;exact⟨y,T,r⟩
    have L:∀ i,∃ y:pO,i<len→((W.cell? ⟨b,e+i*5,O⟩=some (I J y.kd)∧W.cell? ⟨b,e+i*5+1,O⟩=some (I J y.a)∧W.cell? ⟨b,e+i*5+2,O⟩=some (I J y.b)∧W.cell? ⟨b,e+i*5+3,O⟩=some (I J y.c)∧W.cell? ⟨b,e+i*5+4,O⟩=some (Z y.s))∧tu y∧∃ u d1 w z,D i=.agg [u,d1,w,z,.lit (.string y.s.data.toList)]):=fun i=>by
     by_cases o:i<len
     ·obtain⟨y,M⟩:=B i o
      exact⟨y,fun _=>M⟩
     ·exact⟨⟨0,0,0,0,⟨#[]⟩⟩,fun h=>absurd h o⟩
    exact⟨fun i=>Classical.choose (L i),fun i o=>Classical.choose_spec (L i) o⟩
   have N:((List.range len).map f).length=len:=by simp
   refine⟨(List.range len).map f,⟨⟨some ⟨b,e,O⟩,m,by rw[N],by omega,by omega⟩,fun _=>⟨?_,.inr ⟨b,e,m,by rw[N],by omega,by unfold maxLen;omega,Q,?_⟩⟩⟩,fun y M=>?_,fun y M=>?_⟩
   ·have:∀ l:List pO,(gH l).length=l.length*5:=fun l=>by
     induction l with
     | nil=>rfl
     | cons a l ih=>simp only[gH,List.length_cons,ih];omega
    exact this _
   ·exact tC _ _ (fun i o=>by
     have q:=(R i (by omega)).1
     simp only[List.getElem_map,List.getElem_range];exact q)
   ·obtain⟨i,o,rfl⟩:=List.mem_map.1 M
    exact (R i (List.mem_range.1 o)).2.1
   ·obtain⟨i,o,rfl⟩:=List.mem_map.1 M
    obtain⟨u,d1,w,z,P⟩:=(R i (List.mem_range.1 o)).2.2
    have h3:(f i).s.data.toList.length=(f i).s.size:=by rw[Array.length_toList];rfl
    refine DX (d:=D i) ?_ (List.mem_map.2 ⟨i,o,rfl⟩);rw[P,← h3];exact Kc _ _ _ _ _
end
end Go.Proofs.YtinaollfjiddmaaGreatDoor
