import Derived.Test.YtbnihoahhomooaaGreatDoorA05
set_option maxRecDepth 100000
set_option maxHeartbeats 8000000
set_option linter.all false
namespace Go.Proofs.YtbnihoahhomooaaGreatDoor
open Go.Value renaming int→I,slice→Y,string→Z,pointer→Zp
open Go.Ending renaming returned→Zr
open _root_.ByteArray renaming empty→Ze
open Go.IntKind renaming i64→J
open Option renaming none→O
open Go.RowKit
section
variable {w:World} {b bl:Nat} {W F:List Nat} {R:Rp} {V:Rv}
theorem Fr.uP {w:World} {b1 b2:Nat} {e1 e2:TypeId} {s1 s2 n1 n2:Nat} {v1 v2:Value} {x1 x2:List Value} (h1:w.ownsRow b1 e1 s1 v1 n1 x1) (h2:w.ownsRow b2 e2 s2 v2 n2 x2) (hne:e2≠e1):Fr v2.ownBlock.toList v1:=by
 rcases h2.2 with ⟨rfl,_⟩|⟨g,cap,cur,rfl,q1,q2,q3⟩
 ·exact fun k _ hc=>by simp[Value.ownBlock] at hc
 ·exact Fr.iE h1 q2 hne
theorem mJ {w:World} {base:Nat} {e t:TypeId} {size:Nat} {v:Value} {n:Nat} {xs:List Value} {b:Nat} {c:Array Value} {z:Nat×Nat} (h:w.ownsRow base e size v n xs) (hb:w.heap[b]? = some (.cells c t z)) (hne:t≠e):some b≠v.ownBlock :=
 fun hc=>Fr.iE h hb hne b hc.symm (by simp)
theorem Kp.row {w w':World} {v:Value} (hg:w.grownBy w' v.ownBlock):Kp v.ownBlock.toList w w' :=
 ⟨hg.os,hg.tape,hg.output,hg.size,fun k hk hn=>hg.block k hk (fun hc=>hn (by rw[← hc];simp))⟩
structure qw (w w':World) (b bl:Nat) (W F:List Nat) (V:Rv) (R':Rp) (W' F':List Nat) (vt:Value):Prop where
 rp:ay w' b bl W' F' R' { V with vt:=vt }
 kp:Kp (b :: V.vt.ownBlock.toList) w w'
 mv:Mv w W F W' F'
 vb:∀ k,vt.ownBlock=some k→V.vt.ownBlock=some k∨w.heap.size≤k
def Snt (w w':World) (b bl:Nat) (W F:List Nat) (V:Rv) (R':Rp):Prop:=∃ W' F' vt,qw w w' b bl W F V R' W' F' vt
theorem qw.refl (h:ay w b bl W F R V):qw w w b bl W F V R W F V.vt:=⟨h,Kp.refl _ _,Mv.refl _ _ _,fun _ h=>.inl h⟩
theorem ay.kS {w':World} (h:ay w b bl W F R V) (k:Kp (b :: V.vt.ownBlock.toList) w w'):Kp W w w':=k.wid (fun x hx=>by
 rcases List.mem_cons.1 hx with rfl|hx
 ·exact h.wb
 ·exact h.wt x (by simpa using hx))
theorem Snt.rst {w':World} {R':Rp} (h:ay w b bl W F R V) (k:Snt w w' b bl W F V R'):Rst w w' b bl W F R':=by
 obtain⟨W',F',vt,k⟩:=k
 exact⟨W',F',_,k.rp,h.kS k.kp,k.mv⟩
theorem qw.trans {w1 w2:World} {R1 R2:Rp} {W1 F1 W2 F2:List Nat} {v1 v2:Value} (h:qw w w1 b bl W F V R1 W1 F1 v1) (k:qw w1 w2 b bl W1 F1 { V with vt:=v1 } R2 W2 F2 v2):qw w w2 b bl W F V R2 W2 F2 v2:=by
 have hs:=h.kp.size;refine⟨k.rp,h.kp.trans k.kp (fun x hx hlt=>?_),h.mv.trans k.mv hs,fun x hx=>?_⟩
 ·rcases List.mem_cons.1 hx with rfl|hx
  ·simp
  ·rcases h.vb x (by simpa using hx) with q|q
   ·simp[q]
   ·omega
 ·rcases k.vb x hx with q|q
  ·exact h.vb x q
  ·right;omega
theorem qw.below {w1 w2:World} {R1:Rp} {W1 F1:List Nat} {v1:Value} (h:qw w w1 b bl W F V R1 W1 F1 v1) (k:Below w1.heap.size w1 w2):qw w w2 b bl W F V R1 W1 F1 v1 :=
 ⟨h.rp.below k,h.kp.aS k,h.mv,h.vb⟩
theorem qw.pre {w0 w1:World} {R1:Rp} {W1 F1:List Nat} {v1:Value} (hb:Below w0.heap.size w0 w) (h:qw w w1 b bl W F V R1 W1 F1 v1):qw w0 w1 b bl W F V R1 W1 F1 v1 :=
 ⟨h.rp,(Kp.of_below hb).trans' h.kp,⟨fun x hx=>(h.mv.m x hx).imp id (fun q=>Nat.le_trans hb.size q),h.mv.f,fun x hx=>(h.mv.g x hx).imp id (fun q=>Nat.le_trans hb.size q)⟩,fun x hx=>(h.vb x hx).imp id (fun q=>Nat.le_trans hb.size q)⟩
structure PmFr (S:List Nat) (vl vg vo vL:Value):Prop where
 l:Fr S vl
 g:Fr S vg
 o:Fr S vo
 L:Fr S vL
theorem mg.kp {w':World} {P:Pm} {S:List Nat} {vl vg vo vL:Value} (h:mg w P vl vg vo vL) (k:Kp S w w') (f:PmFr S vl vg vo vL):mg w' P vl vg vo vL :=
 ⟨h.lives.kp k f.l,h.grp.kp k f.g,h.old.kp k f.o,h.log.kp k f.L⟩
theorem mg.below {w':World} {P:Pm} {vl vg vo vL:Value} (h:mg w P vl vg vo vL) (k:Below w.heap.size w w'):mg w' P vl vg vo vL :=
 ⟨h.lives.below k,h.grp.below k,h.old.below k,h.log.below k⟩
theorem ay.frL (h:ay w b bl W F R V):Fr (b :: V.vt.ownBlock.toList) V.vL:=fun k hk hc=>by
 rcases List.mem_cons.1 hc with rfl|hc
 ·exact Fr.iE h.log h.block (by decide) k hk (by simp)
 ·exact Fr.uP h.log h.out (by decide) k hk hc
theorem ay.frl (h:ay w b bl W F R V):Fr (b :: V.vt.ownBlock.toList) V.vl:=fun k hk hc=>by
 rcases List.mem_cons.1 hc with rfl|hc
 ·exact Fr.iE h.lives.1 h.block (by decide) k hk (by simp)
 ·exact Fr.uP h.lives.1 h.out (by decide) k hk hc
theorem ay.frS (h:ay w b bl W F R V) {v:Value} (hf:Fr W v):Fr (b :: V.vt.ownBlock.toList) v:=hf.sub (fun x hx=>by
 rcases List.mem_cons.1 hx with rfl|hx
 ·exact h.wb
 ·exact h.wt x (by simpa using hx))
theorem ay.E5 {w2 w4:World} {g cap:Nat} {x:Int×ByteArray} (h:ay w b bl W F R V) (hb:Below w.heap.size w w2) (hg:w2.grownBy w4 V.vt.ownBlock)
  (hown:l9 w4 0 (Y (some ⟨g,0,O⟩) (R.out.length+1) cap) (R.out++[x])) (hat:V.vt.ownBlock=some g∨w.heap.size≤g) :
  Snt w (w4.setCell ⟨b,71,O⟩ (Y (some ⟨g,0,O⟩) (R.out.length+1) cap)) b bl W F V { R with out:=R.out++[x] }:=by
 have h2:=h.below hb;obtain⟨c,z,q⟩:=kY h2.lives
 have hl:(R.out++[x]).length=R.out.length+1:=by simp
 have k4:Kp W w w4:=(Kp.of_below hb).trans' (Kp.grown hg h2.wt)
 have kb:w4.heap[b]? = w.heap[b]?:=(hg.block b h2.lb (mJ h2.out h2.block (by decide))).trans (hb.block b h.lb)
 have kl:w4.heap[bl]? = w.heap[bl]?:=(hg.block bl (lt_of_block q) (mJ h2.out q (by decide))).trans (hb.block bl h.lives.lt)
 have r:=h.Pe (l:=R.out++[x]) (g:=g) (cap:=cap) k4 kb kl (fq h2.log (Kp.row hg) (Fr.uP h2.log h2.out (by decide))) (by rw[hl];exact hown) (lend h.wt hat)
 rw[hl] at r;exact⟨_,_,_,r.1,(((Kp.of_below hb).trans' (Kp.row hg)).wid (fun x hx=>List.mem_cons_of_mem _ hx)).set b 71 _ (.inl (by simp)),r.2.1,fun k hk=>by simp[Value.ownBlock] at hk;subst hk;exact hat⟩
theorem ay.Ij {w2 w4:World} {g cap:Nat} {x:En} (h:ay w b bl W F R V) (hb:Below w.heap.size w w2) (hg:w2.grownBy w4 V.vL.ownBlock)
  (hown:w4.ownsRow 0 66 3 (Y (some ⟨g,0,O⟩) (R.log.length+1) cap) (R.log.length+1) (aA (R.log++[x]))) (hat:V.vL.ownBlock=some g∨w.heap.size≤g) :
  Rst w (w4.setCell ⟨b,9,O⟩ (Y (some ⟨g,0,O⟩) (R.log.length+1) cap)) b bl W F { R with log:=R.log++[x] }:=by
 have h2:=h.below hb;obtain⟨c,z,q⟩:=kY h2.lives
 have hl:(R.log++[x]).length=R.log.length+1:=by simp
 have k4:Kp W w w4:=(Kp.of_below hb).trans' (Kp.grown hg h2.wL)
 have kb:w4.heap[b]? = w.heap[b]?:=(hg.block b h2.lb (mJ h2.log h2.block (by decide))).trans (hb.block b h.lb)
 have kl:w4.heap[bl]? = w.heap[bl]?:=(hg.block bl (lt_of_block q) (mJ h2.log q (by decide))).trans (hb.block bl h.lives.lt)
 have r:=h.Li (l:=R.log++[x]) (g:=g) (cap:=cap) k4 kb kl (fq h2.out (Kp.row hg) (Fr.uP h2.out h2.log (by decide))) (by rw[hl];exact hown) (lend h.wL hat)
 rw[hl] at r;exact⟨_,_,_,r.1,r.2.2,r.2.1⟩
theorem dw.drw {w:World} {g:Nat} {c:Array Value} (h:dw w g c):dw w.drew g c:=⟨h.1,h.2⟩
theorem lC (h:ay w b bl W F R V) (kd:Int) :
  Calls Tryz.prog 123 #[Zp (some ⟨b,0,O⟩),I .u8 kd] w fun e w'=>e=Zr (.agg (pmC (R.head kd) V.vl (Y O 0 0) (Y O 0 0) (Y O 0 0)))∧Below w.heap.size w w':=by
 have hb0:Below w.heap.size w (w.alloc (.cells #[I .u8 0,I J 0,Y O 0 0,I J 0,I J 0,I J 0,I J 0,I J 0,Z ⟨#[]⟩,I J 0,I J 0,I J 0,Y O 0 0,Y O 0 0,Y O 0 0] 68)):=(Below.refl _ w).alloc (Nat.le_refl _) _
 have hz0:dw (w.alloc (.cells #[I .u8 0,I J 0,Y O 0 0,I J 0,I J 0,I J 0,I J 0,I J 0,Z ⟨#[]⟩,I J 0,I J 0,I J 0,Y O 0 0,Y O 0 0,Y O 0 0] 68)) w.heap.size (iK 0):=⟨rfl,heap_alloc_new w _⟩
 have hA:=h.below hb0;obtain⟨cl,hvl⟩:=h.g2
 go_enter Tryz.func123,Tryz.ntmps123;go_wp2_with fail;generalize w.alloc (.cells #[I .u8 0,I J 0,Y O 0 0,I J 0,I J 0,I J 0,I J 0,I J 0,Z ⟨#[]⟩,I J 0,I J 0,I J 0,Y O 0 0,Y O 0 0,Y O 0 0] 68)=wA at *;have hz1:dw wA w.heap.size #[I .u8 0,I J 0,Y O 0 0,I J 0,I J 0,I J 0,I J 0,I J 0,Z ⟨#[]⟩,I J 0,I J 0,I J 0,Y O 0 0,Y O 0 0,Y O 0 0]:=hz0
 obtain⟨y0,y1,y2,y3,y4,y5,y6,y7,y8,y9,y10,y11,y12,y13,y14,yf⟩:=hz1.all
 have c0:=hA.c0;have c2:=hA.c2;have c4:=hA.c4;have c5:=hA.c5;rw[hvl] at c2;have hpm:=Iq hz0 (I .u8 kd) (I J R.id) (Y (some ⟨bl,0,O⟩) R.lives.length cl) (I J R.epoch) (I J R.view) (I J 0) (I J 0) (I J 0) (Z ⟨#[]⟩) (I J 0) (I J 0) (I J 0) (Y O 0 0) (Y O 0 0) (Y O 0 0);have HL:=ah (qJ hpm.drw);clear hpm;have HB:=ah (fH (Nat.le_refl w.heap.size) [I .u8 kd,I J R.id,Y (some ⟨bl,0,O⟩) R.lives.length cl,I J R.epoch,I J R.view,I J 0,I J 0,I J 0,Z ⟨#[]⟩,I J 0,I J 0,I J 0,Y O 0 0,Y O 0 0,Y O 0 0] wA 0 hb0);clear hz1 hz0 hb0 hA;go_region
 change Exit.then _ _ _ _ (dF wA w.heap.size 0 [I .u8 kd,I J R.id,Y (some ⟨bl,0,O⟩) R.lives.length cl,I J R.epoch,I J R.view,I J 0,I J 0,I J 0,Z ⟨#[]⟩,I J 0,I J 0,I J 0,Y O 0 0,Y O 0 0,Y O 0 0]).drew
 have HB2:=ah (HB.out.drew);clear HB y0 y1 y2 y3 y4 y5 y6 y7 y8 y9 y10 y11 y12 y13 y14 yf c0 c2 c4 c5;generalize (dF wA w.heap.size 0 [I .u8 kd,I J R.id,Y (some ⟨bl,0,O⟩) R.lives.length cl,I J R.epoch,I J R.view,I J 0,I J 0,I J 0,Z ⟨#[]⟩,I J 0,I J 0,I J 0,Y O 0 0,Y O 0 0,Y O 0 0]).drew=wZ at *;go_wp2;exact bodyPost_ret (bI rfl _ _ _ rfl HL.out) rfl ⟨by rw[hvl];rfl,HB2.out⟩
theorem mV (h:ay w b bl W F R V) (qt:Int) (P:Pm) (vl vg vo vL:Value) (hW:PmW P) (hR:mg w P vl vg vo vL) (ho:R.out.length≤1000000) :
  Calls Tryz.prog 88 #[Zp (some ⟨b,0,O⟩),I J qt,.agg (pmC P vl vg vo vL)] w fun e w'=>e=Zr (.tuple #[])∧Snt w w' b bl W F V (R.send qt P):=by
 obtain⟨al,cl,rfl,_,_⟩:=hR.lives.shape
 obtain⟨ag,cg,rfl,_,_⟩:=hR.grp.shape
 obtain⟨ao,co,rfl,_,_⟩:=hR.old.shape
 obtain⟨aL,cL,rfl,_,_⟩:=hR.log.shape
 obtain⟨i0,hi,hz0,hz1,hz2⟩:=info_parts Tryz.infoOut
 have HWr:Hid (∀ w,Tab w→mg w P (Y al P.lives.length cl) (Y ag P.grp.length cg) (Y ao P.old.length co) (Y aL P.log.length cL)→Calls Tryz.prog 140 #[.agg (pqC P al cl ag cg ao co aL cL)] w fun e w'=>e=Zr (Z (gB P))∧Below w.heap.size w w'):=fun w h hR=>JA P _ _ _ _ w h hW hR
 have HF:Hid (R.send qt P={ R with out:=R.out++[(qt,gB P)] }):=rfl
 clear hW;generalize gB P=tx at *;have hbA:Below w.heap.size w (w.alloc (.cells (pqC P al cl ag cg ao co aL cL) 68)):=(Below.refl _ w).alloc (Nat.le_refl _) _
 have hnew:=heap_alloc_new w (.cells (pqC P al cl ag cg ao co aL cL) 68);have hsA:(w.alloc (.cells (pqC P al cl ag cg ao co aL cL) 68)).heap.size=w.heap.size+1:=by simp
 have hA:=h.below hbA;have hRA:mg (w.alloc (.cells (pqC P al cl ag cg ao co aL cL) 68)) P (Y al P.lives.length cl) (Y ag P.grp.length cg) (Y ao P.old.length co) (Y aL P.log.length cL):=⟨hR.lives.below hbA,hR.grp.below hbA,hR.old.below hbA,hR.log.below hbA⟩
 obtain⟨ao2,co3,hvt⟩:=h.g71
 have hout:l9 w 0 (Y ao2 R.out.length co3) R.out:=hvt▸h.out
 have hneb:some b≠(Y ao2 R.out.length co3).ownBlock:=mJ hout h.block (by decide)
 clear hR;simp only[pmC];go_enter Tryz.func88,Tryz.ntmps88;go_wp2_with fail;generalize w.alloc (.cells (pqC P al cl ag cg ao co aL cL) 68)=wA at *;have c71:=hA.c71;rw[hvt] at c71;have f71:=hA.free 71;have hoA:l9 wA 0 (Y ao2 R.out.length co3) R.out:=hout.below hbA
 have hM:dw wA w.heap.size (pqC P al cl ag cg ao co aL cL):=⟨rfl,hnew⟩
 obtain⟨x0,x1,x2,x3,x4,x5,x6,x7,x8,x9,x10,x11,x12,x13,x14,xf⟩:=hM.all
 have hbw:b<wA.heap.size:=hA.lb
 have hW1:=ah (HWr.out wA.drew (hA.tab.below (Below.refl _ _).drew) ⟨hRA.lives.below (Below.refl _ _).drew,hRA.grp.below (Below.refl _ _).drew,hRA.old.below (Below.refl _ _).drew,hRA.log.below (Below.refl _ _).drew⟩);go_region_law
  (first
   | (go_simp;go_at_call 140;refine hW1.out.mono ?_;rintro e w1 ⟨rfl,hb1⟩;have rf71:w1.frozen? ⟨b,71,O⟩=false:=(hb1.frozen (p:=⟨b,71,O⟩) hbw).trans f71;have r71:w1.cell? ⟨b,71,O⟩=some (Y ao2 R.out.length co3):=(hb1.cell (p:=⟨b,71,O⟩) hbw).trans c71;have hown1:w1.ownsRow 0 36 2 (Y ao2 R.out.length co3) R.out.length (gZ R.out):=bU hoA (jc hb1);have hs1:=hb1.size;have hbw1:b<w1.heap.size:=Nat.lt_of_lt_of_le hbw hs1;have ne71:=World.new_ne w1 ⟨b,71,O⟩ r71)
   | (refine step_append_lies (w:=w1.alloc (.cells #[I J qt,Z tx] 36)) (by rfl) (.tmp 10) (.tmp 15) 33 (by rfl) 0 36 i0 (.agg #[I J 0,Z Ze]) 2 24 Tryz.underlying33 hi hz0 hz1 hz2 rfl (by decide) (Y ao2 R.out.length co3) R.out.length (gZ R.out) (by rfl) (hown1.alloc _) ⟨w1.heap.size,0,O⟩ 1 1 [I J qt,Z tx] (by rfl) (by rfl) (World.news_of_block (heap_alloc_new w1 (.cells #[I J qt,Z tx] 36))) (by intro u hu;simp at hu;rcases hu with rfl|rfl <;> rfl) (by decide) (by unfold maxLen;omega) (by omega) (Nat.zero_le _) (w1.heap.size+1) (by simp) ?_;intro g4 cap4 w4 hown4 hg4 hat4 hlt4;have t71:w4.cell? ⟨b,71,O⟩=some (Y ao2 R.out.length co3):=(hg4.cell_far ⟨b,71,O⟩ (by simp;omega) hneb).trans ((((Below.refl _ w1).alloc (Nat.le_refl _) _).cell (p:=⟨b,71,O⟩) hbw1).trans r71);have g71:w4.frozen? ⟨b,71,O⟩=false:=(hg4.frozen_far ⟨b,71,O⟩ (by simp;omega) hneb).trans ((((Below.refl _ w1).alloc (Nat.le_refl _) _).frozen (p:=⟨b,71,O⟩) hbw1).trans rf71)))
 all_goals
  have hb01:Below w.heap.size w w1:=hbA.trans ((jc hb1).mono hbA.size)
  have hb02:Below w.heap.size w (w1.alloc (.cells #[I J qt,Z tx] 36)):=hb01.alloc hb01.size _
  have e2:gZ (R.out++[(qt,tx)])=gZ R.out++[I J qt,Z tx]:=by simp[gZ]
  have ho4:l9 w4 0 (Y (some ⟨g4,0,O⟩) (R.out.length+1) cap4) (R.out++[(qt,tx)]):=by
   unfold l9;rw[e2,show (R.out++[(qt,tx)]).length=R.out.length+1 by simp];exact hown4
  have HS:=ah (h.E5 (x:=(qt,tx)) hb02 (by rw[hvt];exact hg4) ho4 (by rw[hvt];exact hat4.imp id (fun q=>by have:=hb01.size;omega)))
  clear ho4 e2 hb02 hb01;go_wp2;exact bodyPost_end (results_none rfl _ _ _) rfl ⟨rfl,by rw[HF.out];exact HS.out⟩
theorem Cj (h:ay w b bl W F R V) (c m:Int) (t:ByteArray) (hc:1≤c∧c≤9) (hm:0≤m∧m≤999) (ht:t.size≤1000) (ho:R.out.length≤1000000) :
  Calls Tryz.prog 46 #[Zp (some ⟨b,0,O⟩),I J c,I J m,Z t] w fun e w'=>e=Zr (.tuple #[])∧Snt w w' b bl W F V (R.reply c m t):=by
 obtain⟨i0,hi,hz0,hz1,hz2⟩:=info_parts Tryz.infoOut
 have hng:IntKind.i64.wrap (-c) = -c:=fC (by omega) (by omega)
 have HWr:Hid (∀ w,Tab w→Calls Tryz.prog 76 #[I J c,I J m,Z t] w fun e w'=>e=Zr (Z (YS++dg c++SP++dg m++SP++t))∧Below w.heap.size w w'):=fun w h=>Jz c m t w h (by omega) (by omega) (by omega)
 have HF:Hid (R.reply c m t={ R with out:=R.out++[(-c,YS++dg c++SP++dg m++SP++t)] }):=rfl
 generalize YS++dg c++SP++dg m++SP++t=tx at *;obtain⟨ao2,co3,hvt⟩:=h.g71
 have hout:l9 w 0 (Y ao2 R.out.length co3) R.out:=hvt▸h.out
 have hneb:some b≠(Y ao2 R.out.length co3).ownBlock:=mJ hout h.block (by decide)
 have c71:=h.c71;rw[hvt] at c71;have f71:=h.free 71;have hbw:b<w.heap.size:=h.lb
 have hW1:=ah (HWr.out w.drew (h.tab.below (Below.refl _ _).drew));go_enter Tryz.func46,Tryz.ntmps46;go_wp2_with fail;go_region_law
  (first
   | (go_simp;go_at_call 76;refine hW1.out.mono ?_;rintro e w1 ⟨rfl,hb1⟩;have rf71:w1.frozen? ⟨b,71,O⟩=false:=(hb1.frozen (p:=⟨b,71,O⟩) hbw).trans f71;have r71:w1.cell? ⟨b,71,O⟩=some (Y ao2 R.out.length co3):=(hb1.cell (p:=⟨b,71,O⟩) hbw).trans c71;have hown1:w1.ownsRow 0 36 2 (Y ao2 R.out.length co3) R.out.length (gZ R.out):=bU hout (jc hb1);have hs1:=hb1.size;have hbw1:b<w1.heap.size:=Nat.lt_of_lt_of_le hbw hs1;have ne71:=World.new_ne w1 ⟨b,71,O⟩ r71)
   | (refine step_append_lies (w:=w1.alloc (.cells #[I J (-c),Z tx] 36)) (by rfl) (.tmp 12) (.tmp 20) 33 (by rfl) 0 36 i0 (.agg #[I J 0,Z Ze]) 2 24 Tryz.underlying33 hi hz0 hz1 hz2 rfl (by decide) (Y ao2 R.out.length co3) R.out.length (gZ R.out) (by rfl) (hown1.alloc _) ⟨w1.heap.size,0,O⟩ 1 1 [I J (-c),Z tx] (by rfl) (by rfl) (World.news_of_block (heap_alloc_new w1 (.cells #[I J (-c),Z tx] 36))) (by intro u hu;simp at hu;rcases hu with rfl|rfl <;> rfl) (by decide) (by unfold maxLen;omega) (by omega) (Nat.zero_le _) (w1.heap.size+1) (by simp) ?_;intro g4 cap4 w4 hown4 hg4 hat4 hlt4;have t71:w4.cell? ⟨b,71,O⟩=some (Y ao2 R.out.length co3):=(hg4.cell_far ⟨b,71,O⟩ (by simp;omega) hneb).trans ((((Below.refl _ w1).alloc (Nat.le_refl _) _).cell (p:=⟨b,71,O⟩) hbw1).trans r71);have g71:w4.frozen? ⟨b,71,O⟩=false:=(hg4.frozen_far ⟨b,71,O⟩ (by simp;omega) hneb).trans ((((Below.refl _ w1).alloc (Nat.le_refl _) _).frozen (p:=⟨b,71,O⟩) hbw1).trans rf71)))
 all_goals
  have hb01:Below w.heap.size w w1:=jc hb1
  have hb02:Below w.heap.size w (w1.alloc (.cells #[I J (-c),Z tx] 36)):=hb01.alloc hb01.size _
  have e2:gZ (R.out++[(-c,tx)])=gZ R.out++[I J (-c),Z tx]:=by simp[gZ]
  have ho4:l9 w4 0 (Y (some ⟨g4,0,O⟩) (R.out.length+1) cap4) (R.out++[(-c,tx)]):=by
   unfold l9;rw[e2,show (R.out++[(-c,tx)]).length=R.out.length+1 by simp];exact hown4
  have HS:=ah (h.E5 (x:=(-c,tx)) hb02 (by rw[hvt];exact hg4) ho4 (by rw[hvt];exact hat4.imp id (fun q=>by have:=hb01.size;omega)))
  clear ho4 e2 hb02 hb01;go_wp2;exact bodyPost_end (results_none rfl _ _ _) rfl ⟨rfl,by rw[HF.out];exact HS.out⟩
end
end Go.Proofs.YtbnihoahhomooaaGreatDoor
