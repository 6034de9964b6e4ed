import Derived.Test.YtinaollfjiddmaaGreatDoorA06
set_option maxRecDepth 100000
set_option maxHeartbeats 8000000
set_option linter.all false
namespace Go.Proofs.YtinaollfjiddmaaGreatDoor
open Go.Value renaming int→I,slice→Y,string→Z,pointer→Zp
open Go.Ending renaming returned→Zr
open _root_.ByteArray renaming empty→Ze
open Go.IntKind renaming i64→J
open Option renaming none→O
open Go.RowKit
section
variable {w:World} {b bl:Nat} {W F:List Nat} {R:Rp} {V:Rv}
theorem Fr.vJ {w:World} {b1 b2:Nat} {e1 e2:TypeId} {s1 s2 n1 n2:Nat} {v1 v2:Value} {x1 x2:List Value} (h1:w.ownsRow b1 e1 s1 v1 n1 x1) (h2:w.ownsRow b2 e2 s2 v2 n2 x2) (hne:e2≠e1):Fr v2.ownBlock.toList v1:=by
 rcases h2.2 with ⟨rfl,_⟩|⟨g,a,b,rfl,e,c,f⟩
 ·exact fun k _ d=>by simp[Value.ownBlock] at d
 ·exact Fr.iR h1 c hne
theorem nD {w:World} {base:Nat} {e t:TypeId} {size:Nat} {v:Value} {n:Nat} {xs:List Value} {b:Nat} {c:Array Value} {z:Nat×Nat} (h:w.ownsRow base e size v n xs) (hb:w.heap[b]? = some (.cells c t z)) (hne:t≠e):some b≠v.ownBlock :=
 fun hc=>Fr.iR h hb hne b hc.symm (by simp)
theorem Kp.row {w w':World} {v:Value} (hg:w.grownBy w' v.ownBlock):Kp v.ownBlock.toList w w' :=
 ⟨hg.os,hg.tape,hg.output,hg.size,fun k hk hn=>hg.block k hk (fun hc=>hn (by rw[← hc];simp))⟩
structure qJ (w w':World) (b bl:Nat) (W F:List Nat) (V:Rv) (R':Rp) (W' F':List Nat) (vt:Value):Prop where
 rp:au w' b bl W' F' R' { V with vt:=vt }
 kp:Kp (b :: V.vt.ownBlock.toList) w w'
 mv:Mv w W F W' F'
 vb:∀ k,vt.ownBlock=some k→V.vt.ownBlock=some k∨w.heap.size≤k
def Snt (w w':World) (b bl:Nat) (W F:List Nat) (V:Rv) (R':Rp):Prop:=∃ W' F' vt,qJ w w' b bl W F V R' W' F' vt
theorem qJ.refl (h:au w b bl W F R V):qJ w w b bl W F V R W F V.vt:=⟨h,Kp.refl _ _,Mv.refl _ _ _,fun _ h=>.inl h⟩
theorem au.kS {w':World} (h:au w b bl W F R V) (k:Kp (b :: V.vt.ownBlock.toList) w w'):Kp W w w':=k.wid (fun x hx=>by
 rcases List.mem_cons.1 hx with rfl|hx
 ·exact h.wb
 ·exact h.wt x (by simpa using hx))
theorem Snt.rst {w':World} {R':Rp} (h:au w b bl W F R V) (k:Snt w w' b bl W F V R'):Rst w w' b bl W F R':=by
 obtain⟨W',F',vt,k⟩:=k
 exact⟨W',F',_,k.rp,h.kS k.kp,k.mv⟩
theorem qJ.trans {w1 w2:World} {R1 R2:Rp} {W1 F1 W2 F2:List Nat} {v1 v2:Value} (h:qJ w w1 b bl W F V R1 W1 F1 v1) (k:qJ w1 w2 b bl W1 F1 { V with vt:=v1 } R2 W2 F2 v2):qJ w w2 b bl W F V R2 W2 F2 v2:=by
 have c:=h.kp.size;refine⟨k.rp,h.kp.trans k.kp (fun x a d=>?_),h.mv.trans k.mv c,fun x a=>?_⟩
 ·rcases List.mem_cons.1 a with rfl|a
  ·simp
  ·rcases h.vb x (by simpa using a) with q|q
   ·simp[q]
   ·omega
 ·rcases k.vb x a with q|q
  ·exact h.vb x q
  ·right;omega
theorem qJ.below {w1 w2:World} {R1:Rp} {W1 F1:List Nat} {v1:Value} (h:qJ w w1 b bl W F V R1 W1 F1 v1) (k:Below w1.heap.size w1 w2):qJ w w2 b bl W F V R1 W1 F1 v1 :=
 ⟨h.rp.below k,h.kp.aS k,h.mv,h.vb⟩
theorem qJ.pre {w0 w1:World} {R1:Rp} {W1 F1:List Nat} {v1:Value} (hb:Below w0.heap.size w0 w) (h:qJ w w1 b bl W F V R1 W1 F1 v1):qJ w0 w1 b bl W F V R1 W1 F1 v1 :=
 ⟨h.rp,(Kp.of_below hb).trans' h.kp,⟨fun x a=>(h.mv.m x a).imp id (fun q=>Nat.le_trans hb.size q),h.mv.f,fun x a=>(h.mv.g x a).imp id (fun q=>Nat.le_trans hb.size q)⟩,fun x a=>(h.vb x a).imp id (fun q=>Nat.le_trans hb.size q)⟩
structure PmFr (S:List Nat) (vl vg vo vL:Value):Prop where
 l:Fr S vl
 g:Fr S vg
 o:Fr S vo
 L:Fr S vL
theorem mV.kp {w':World} {P:Pm} {S:List Nat} {vl vg vo vL:Value} (h:mV w P vl vg vo vL) (k:Kp S w w') (f:PmFr S vl vg vo vL):mV w' P vl vg vo vL :=
 ⟨h.lives.kp k f.l,h.grp.kp k f.g,h.old.kp k f.o,h.log.kp k f.L⟩
theorem mV.below {w':World} {P:Pm} {vl vg vo vL:Value} (h:mV w P vl vg vo vL) (k:Below w.heap.size w w'):mV w' P vl vg vo vL :=
 ⟨h.lives.below k,h.grp.below k,h.old.below k,h.log.below k⟩
theorem au.frL (h:au w b bl W F R V):Fr (b :: V.vt.ownBlock.toList) V.vL:=fun k c a=>by
 rcases List.mem_cons.1 a with rfl|a
 ·exact Fr.iR h.log h.block (by decide) k c (by simp)
 ·exact Fr.vJ h.log h.out (by decide) k c a
theorem au.frl (h:au w b bl W F R V):Fr (b :: V.vt.ownBlock.toList) V.vl:=fun k c a=>by
 rcases List.mem_cons.1 a with rfl|a
 ·exact Fr.iR h.lives.1 h.block (by decide) k c (by simp)
 ·exact Fr.vJ h.lives.1 h.out (by decide) k c a
theorem au.frS (h:au w b bl W F R V) {v:Value} (hf:Fr W v):Fr (b :: V.vt.ownBlock.toList) v:=hf.sub (fun x hx=>by
 rcases List.mem_cons.1 hx with rfl|hx
 ·exact h.wb
 ·exact h.wt x (by simpa using hx))
theorem au.FH {w2 w4:World} {g cap:Nat} {x:Int×ByteArray} (h:au w b bl W F R V) (hb:Below w.heap.size w w2) (hg:w2.grownBy w4 V.vt.ownBlock)
  (hown:mU w4 0 (Y (some ⟨g,0,O⟩) (R.out.length+1) cap) (R.out++[x])) (hat:V.vt.ownBlock=some g∨w.heap.size≤g) :
  Snt w (w4.setCell ⟨b,71,O⟩ (Y (some ⟨g,0,O⟩) (R.out.length+1) cap)) b bl W F V { R with out:=R.out++[x] }:=by
 have a:=h.below hb;obtain⟨c,z,q⟩:=lU a.lives
 have d:(R.out++[x]).length=R.out.length+1:=by simp
 have f:Kp W w w4:=(Kp.of_below hb).trans' (Kp.grown hg a.wt)
 have i:w4.heap[b]? = w.heap[b]?:=(hg.block b a.lb (nD a.out a.block (by decide))).trans (hb.block b h.lb)
 have j:w4.heap[bl]? = w.heap[bl]?:=(hg.block bl (lt_of_block q) (nD a.out q (by decide))).trans (hb.block bl h.lives.lt)
 have r:=h.Qm (l:=R.out++[x]) (g:=g) (cap:=cap) f i j (fF a.log (Kp.row hg) (Fr.vJ a.log a.out (by decide))) (by rw[d];exact hown) (lend h.wt hat)
 rw[d] at r;exact⟨_,_,_,r.1,(((Kp.of_below hb).trans' (Kp.row hg)).wid (fun x m=>List.mem_cons_of_mem _ m)).set b 71 _ (.inl (by simp)),r.2.1,fun k e=>by simp[Value.ownBlock] at e;subst e;exact hat⟩
theorem au.IU {w2 w4:World} {g cap:Nat} {x:En} (h:au w b bl W F R V) (hb:Below w.heap.size w w2) (hg:w2.grownBy w4 V.vL.ownBlock)
  (hown:w4.ownsRow 0 66 3 (Y (some ⟨g,0,O⟩) (R.log.length+1) cap) (R.log.length+1) (aA (R.log++[x]))) (hat:V.vL.ownBlock=some g∨w.heap.size≤g) :
  Rst w (w4.setCell ⟨b,9,O⟩ (Y (some ⟨g,0,O⟩) (R.log.length+1) cap)) b bl W F { R with log:=R.log++[x] }:=by
 have a:=h.below hb;obtain⟨c,z,q⟩:=lU a.lives
 have d:(R.log++[x]).length=R.log.length+1:=by simp
 have e:Kp W w w4:=(Kp.of_below hb).trans' (Kp.grown hg a.wL)
 have f:w4.heap[b]? = w.heap[b]?:=(hg.block b a.lb (nD a.log a.block (by decide))).trans (hb.block b h.lb)
 have i:w4.heap[bl]? = w.heap[bl]?:=(hg.block bl (lt_of_block q) (nD a.log q (by decide))).trans (hb.block bl h.lives.lt)
 have r:=h.Md (l:=R.log++[x]) (g:=g) (cap:=cap) e f i (fF a.out (Kp.row hg) (Fr.vJ a.out a.log (by decide))) (by rw[d];exact hown) (lend h.wL hat)
 rw[d] at r;exact⟨_,_,_,r.1,r.2.2,r.2.1⟩
theorem dD.drw {w:World} {g:Nat} {c:Array Value} (h:dD w g c):dD w.drew g c:=⟨h.1,h.2⟩
theorem lY (h:au w b bl W F R V) (kd:Int) :
  Calls Tryz.prog 122 #[Zp (some ⟨b,0,O⟩),I .u8 kd] w fun e w'=>e=Zr (.agg (pmC (R.head kd) V.vl (Y O 0 0) (Y O 0 0) (Y O 0 0)))∧Below w.heap.size w w':=by
 have a:Below w.heap.size w (w.alloc (.cells #[I .u8 0,I J 0,Y O 0 0,I J 0,I J 0,I J 0,I J 0,I J 0,Z ⟨#[]⟩,I J 0,I J 0,I J 0,Y O 0 0,Y O 0 0,Y O 0 0] 68)):=(Below.refl _ w).alloc (Nat.le_refl _) _
 have c:dD (w.alloc (.cells #[I .u8 0,I J 0,Y O 0 0,I J 0,I J 0,I J 0,I J 0,I J 0,Z ⟨#[]⟩,I J 0,I J 0,I J 0,Y O 0 0,Y O 0 0,Y O 0 0] 68)) w.heap.size (jc 0):=⟨rfl,heap_alloc_new w _⟩
 have d:=h.below a;obtain⟨j,f⟩:=h.g2
 go_enter Tryz.func122,Tryz.ntmps122;go_wp2_with fail;generalize w.alloc (.cells #[I .u8 0,I J 0,Y O 0 0,I J 0,I J 0,I J 0,I J 0,I J 0,Z ⟨#[]⟩,I J 0,I J 0,I J 0,Y O 0 0,Y O 0 0,Y O 0 0] 68)=k at *;have g:dD k w.heap.size #[I .u8 0,I J 0,Y O 0 0,I J 0,I J 0,I J 0,I J 0,I J 0,Z ⟨#[]⟩,I J 0,I J 0,I J 0,Y O 0 0,Y O 0 0,Y O 0 0]:=c
 obtain⟨s,y1,t,u,v,x,y,z,A,B,l,m,n,o,p,C⟩:=g.all
 have c0:=d.c0;have c2:=d.c2;have c4:=d.c4;have c5:=d.c5;rw[f] at c2;have i:=I8 c (I .u8 kd) (I J R.id) (Y (some ⟨bl,0,O⟩) R.lives.length j) (I J R.epoch) (I J R.view) (I J 0) (I J 0) (I J 0) (Z ⟨#[]⟩) (I J 0) (I J 0) (I J 0) (Y O 0 0) (Y O 0 0) (Y O 0 0);have D:=ah (qY i.drw);clear i;have r:=ah (fP (Nat.le_refl w.heap.size) [I .u8 kd,I J R.id,Y (some ⟨bl,0,O⟩) R.lives.length j,I J R.epoch,I J R.view,I J 0,I J 0,I J 0,Z ⟨#[]⟩,I J 0,I J 0,I J 0,Y O 0 0,Y O 0 0,Y O 0 0] k 0 a);clear g c a d;go_region
 change Exit.then _ _ _ _ (jD k w.heap.size 0 [I .u8 kd,I J R.id,Y (some ⟨bl,0,O⟩) R.lives.length j,I J R.epoch,I J R.view,I J 0,I J 0,I J 0,Z ⟨#[]⟩,I J 0,I J 0,I J 0,Y O 0 0,Y O 0 0,Y O 0 0]).drew
 have q:=ah (r.out.drew);clear r s y1 t u v x y z A B l m n o p C c0 c2 c4 c5;generalize (jD k w.heap.size 0 [I .u8 kd,I J R.id,Y (some ⟨bl,0,O⟩) R.lives.length j,I J R.epoch,I J R.view,I J 0,I J 0,I J 0,Z ⟨#[]⟩,I J 0,I J 0,I J 0,Y O 0 0,Y O 0 0,Y O 0 0]).drew=E at *;go_wp2;exact bodyPost_ret (dO rfl _ _ _ rfl D.out) rfl ⟨by rw[f];rfl,q.out⟩
theorem nI (h:au w b bl W F R V) (qt:Int) (P:Pm) (vl vg vo vL:Value) (hW:PmW P) (hR:mV w P vl vg vo vL) (ho:R.out.length≤1000000) :
  Calls Tryz.prog 87 #[Zp (some ⟨b,0,O⟩),I J qt,.agg (pmC P vl vg vo vL)] w fun e w'=>e=Zr (.tuple #[])∧Snt w w' b bl W F V (R.send qt P):=by
 obtain⟨j,k,rfl,_,_⟩:=hR.lives.shape
 obtain⟨ag,l,rfl,_,_⟩:=hR.grp.shape
 obtain⟨m,n,rfl,_,_⟩:=hR.old.shape
 obtain⟨o,r,rfl,_,_⟩:=hR.log.shape
 obtain⟨i0,hi,N,Q,S⟩:=info_parts Tryz.infoOut
 have T:Hid (∀ w,Tab w→mV w P (Y j P.lives.length k) (Y ag P.grp.length l) (Y m P.old.length n) (Y o P.log.length r)→Calls Tryz.prog 139 #[.agg (pqC P j k ag l m n o r)] w fun e w'=>e=Zr (Z (fQ P))∧Below w.heap.size w w'):=fun w h hR=>J3 P _ _ _ _ w h hW hR
 have HF:Hid (R.send qt P={ R with out:=R.out++[(qt,fQ P)] }):=rfl
 clear hW;generalize fQ P=s at *;have a:Below w.heap.size w (w.alloc (.cells (pqC P j k ag l m n o r) 68)):=(Below.refl _ w).alloc (Nat.le_refl _) _
 have E:=heap_alloc_new w (.cells (pqC P j k ag l m n o r) 68);have ad:(w.alloc (.cells (pqC P j k ag l m n o r) 68)).heap.size=w.heap.size+1:=by simp
 have L:=h.below a;have t:mV (w.alloc (.cells (pqC P j k ag l m n o r) 68)) P (Y j P.lives.length k) (Y ag P.grp.length l) (Y m P.old.length n) (Y o P.log.length r):=⟨hR.lives.below a,hR.grp.below a,hR.old.below a,hR.log.below a⟩
 obtain⟨c,d,v⟩:=h.g71
 have y:mU w 0 (Y c R.out.length d) R.out:=v▸h.out
 have z:some b≠(Y c R.out.length d).ownBlock:=nD y h.block (by decide)
 clear hR;simp only[pmC];go_enter Tryz.func87,Tryz.ntmps87;go_wp2_with fail;generalize w.alloc (.cells (pqC P j k ag l m n o r) 68)=M at *;have c71:=L.c71;rw[v] at c71;have U:=L.free 71;have X:mU M 0 (Y c R.out.length d) R.out:=y.below a
 have hM:dD M w.heap.size (pqC P j k ag l m n o r):=⟨rfl,E⟩
 obtain⟨x0,x1,x2,x3,x4,x5,x6,x7,x8,x9,ae,af,ai,ak,am,xf⟩:=hM.all
 have C:b<M.heap.size:=L.lb
 have aa:=ah (T.out M.drew (L.tab.below (Below.refl _ _).drew) ⟨t.lives.below (Below.refl _ _).drew,t.grp.below (Below.refl _ _).drew,t.old.below (Below.refl _ _).drew,t.log.below (Below.refl _ _).drew⟩);go_region_law
  (first
   | (go_simp;go_at_call 139;refine aa.out.mono ?_;rintro e g ⟨rfl,i⟩;have G:g.frozen? ⟨b,71,O⟩=false:=(i.frozen (p:=⟨b,71,O⟩) C).trans U;have H:g.cell? ⟨b,71,O⟩=some (Y c R.out.length d):=(i.cell (p:=⟨b,71,O⟩) C).trans c71;have D:g.ownsRow 0 36 2 (Y c R.out.length d) R.out.length (iI R.out):=dh X (jv i);have ab:=i.size;have A:b<g.heap.size:=Nat.lt_of_lt_of_le C ab;have ac:=World.new_ne g ⟨b,71,O⟩ H)
   | (refine step_append_lies (w:=g.alloc (.cells #[I J qt,Z s] 36)) (by rfl) (.tmp 10) (.tmp 15) 33 (by rfl) 0 36 i0 (.agg #[I J 0,Z Ze]) 2 24 Tryz.underlying33 hi N Q S rfl (by decide) (Y c R.out.length d) R.out.length (iI R.out) (by rfl) (D.alloc _) ⟨g.heap.size,0,O⟩ 1 1 [I J qt,Z s] (by rfl) (by rfl) (World.news_of_block (heap_alloc_new g (.cells #[I J qt,Z s] 36))) (by intro u hu;simp at hu;rcases hu with rfl|rfl <;> rfl) (by decide) (by unfold maxLen;omega) (by omega) (Nat.zero_le _) (g.heap.size+1) (by simp) ?_;intro g4 cap4 w4 hown4 hg4 hat4 hlt4;have an:w4.cell? ⟨b,71,O⟩=some (Y c R.out.length d):=(hg4.cell_far ⟨b,71,O⟩ (by simp;omega) z).trans ((((Below.refl _ g).alloc (Nat.le_refl _) _).cell (p:=⟨b,71,O⟩) A).trans H);have g71:w4.frozen? ⟨b,71,O⟩=false:=(hg4.frozen_far ⟨b,71,O⟩ (by simp;omega) z).trans ((((Below.refl _ g).alloc (Nat.le_refl _) _).frozen (p:=⟨b,71,O⟩) A).trans G)))
 all_goals
  have f:Below w.heap.size w g:=a.trans ((jv i).mono a.size)
  have B:Below w.heap.size w (g.alloc (.cells #[I J qt,Z s] 36)):=f.alloc f.size _
  have e2:iI (R.out++[(qt,s)])=iI R.out++[I J qt,Z s]:=by simp[iI]
  have K:mU w4 0 (Y (some ⟨g4,0,O⟩) (R.out.length+1) cap4) (R.out++[(qt,s)]):=by
   unfold mU;rw[e2,show (R.out++[(qt,s)]).length=R.out.length+1 by simp];exact hown4
  have HS:=ah (h.FH (x:=(qt,s)) B (by rw[v];exact hg4) K (by rw[v];exact hat4.imp id (fun q=>by have:=f.size;omega)))
  clear K e2 B f;go_wp2;exact bodyPost_end (results_none rfl _ _ _) rfl ⟨rfl,by rw[HF.out];exact HS.out⟩
theorem Cw (h:au w b bl W F R V) (c m:Int) (t:ByteArray) (hc:1≤c∧c≤9) (hm:0≤m∧m≤999) (ht:t.size≤1000) (ho:R.out.length≤1000000) :
  Calls Tryz.prog 45 #[Zp (some ⟨b,0,O⟩),I J c,I J m,Z t] w fun e w'=>e=Zr (.tuple #[])∧Snt w w' b bl W F V (R.reply c m t):=by
 obtain⟨N,P,B,C,D⟩:=info_parts Tryz.infoOut
 have Q:IntKind.i64.wrap (-c) = -c:=gq (by omega) (by omega)
 have E:Hid (∀ w,Tab w→Calls Tryz.prog 75 #[I J c,I J m,Z t] w fun e w'=>e=Zr (Z (YS++dg c++SP++dg m++SP++t))∧Below w.heap.size w w'):=fun w h=>J2 c m t w h (by omega) (by omega) (by omega)
 have S:Hid (R.reply c m t={ R with out:=R.out++[(-c,YS++dg c++SP++dg m++SP++t)] }):=rfl
 generalize YS++dg c++SP++dg m++SP++t=j at *;obtain⟨d,f,k⟩:=h.g71
 have l:mU w 0 (Y d R.out.length f) R.out:=k▸h.out
 have n:some b≠(Y d R.out.length f).ownBlock:=nD l h.block (by decide)
 have c71:=h.c71;rw[k] at c71;have G:=h.free 71;have s:b<w.heap.size:=h.lb
 have H:=ah (E.out w.drew (h.tab.below (Below.refl _ _).drew));go_enter Tryz.func45,Tryz.ntmps45;go_wp2_with fail;go_region_law
  (first
   | (go_simp;go_at_call 75;refine H.out.mono ?_;rintro e g ⟨rfl,i⟩;have y:g.frozen? ⟨b,71,O⟩=false:=(i.frozen (p:=⟨b,71,O⟩) s).trans G;have z:g.cell? ⟨b,71,O⟩=some (Y d R.out.length f):=(i.cell (p:=⟨b,71,O⟩) s).trans c71;have v:g.ownsRow 0 36 2 (Y d R.out.length f) R.out.length (iI R.out):=dh l (jv i);have K:=i.size;have o:b<g.heap.size:=Nat.lt_of_lt_of_le s K;have L:=World.new_ne g ⟨b,71,O⟩ z)
   | (refine step_append_lies (w:=g.alloc (.cells #[I J (-c),Z j] 36)) (by rfl) (.tmp 12) (.tmp 20) 33 (by rfl) 0 36 N (.agg #[I J 0,Z Ze]) 2 24 Tryz.underlying33 P B C D rfl (by decide) (Y d R.out.length f) R.out.length (iI R.out) (by rfl) (v.alloc _) ⟨g.heap.size,0,O⟩ 1 1 [I J (-c),Z j] (by rfl) (by rfl) (World.news_of_block (heap_alloc_new g (.cells #[I J (-c),Z j] 36))) (by intro u hu;simp at hu;rcases hu with rfl|rfl <;> rfl) (by decide) (by unfold maxLen;omega) (by omega) (Nat.zero_le _) (g.heap.size+1) (by simp) ?_;intro g4 cap4 w4 hown4 hg4 hat4 hlt4;have T:w4.cell? ⟨b,71,O⟩=some (Y d R.out.length f):=(hg4.cell_far ⟨b,71,O⟩ (by simp;omega) n).trans ((((Below.refl _ g).alloc (Nat.le_refl _) _).cell (p:=⟨b,71,O⟩) o).trans z);have g71:w4.frozen? ⟨b,71,O⟩=false:=(hg4.frozen_far ⟨b,71,O⟩ (by simp;omega) n).trans ((((Below.refl _ g).alloc (Nat.le_refl _) _).frozen (p:=⟨b,71,O⟩) o).trans y)))
 all_goals
  have a:Below w.heap.size w g:=jv i
  have r:Below w.heap.size w (g.alloc (.cells #[I J (-c),Z j] 36)):=a.alloc a.size _
  have M:iI (R.out++[(-c,j)])=iI R.out++[I J (-c),Z j]:=by simp[iI]
  have A:mU w4 0 (Y (some ⟨g4,0,O⟩) (R.out.length+1) cap4) (R.out++[(-c,j)]):=by
   unfold mU;rw[M,show (R.out++[(-c,j)]).length=R.out.length+1 by simp];exact hown4
  have U:=ah (h.FH (x:=(-c,j)) r (by rw[k];exact hg4) A (by rw[k];exact hat4.imp id (fun q=>by have:=a.size;omega)))
  clear A M r a;go_wp2;exact bodyPost_end (results_none rfl _ _ _) rfl ⟨rfl,by rw[S.out];exact U.out⟩
end
end Go.Proofs.YtinaollfjiddmaaGreatDoor
