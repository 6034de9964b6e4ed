import Derived.Test.YtajakaadgagejaaGreatDoorA31
import Derived.Test.YtajakaadgagejaaGreatDoorA21
import Derived.Test.YtajakaadgagejaaGreatDoorA23
set_option maxRecDepth 100000
set_option maxHeartbeats 8000000
set_option linter.unusedVariables false
set_option linter.unusedSimpArgs false
set_option linter.unusedSectionVars false
namespace Go.Proofs.YtajakaadgagejaaGreatDoor
open Go.Value renaming int→I,slice→Y,string→Z,pointer→Zp
open Go.Ending renaming returned→Zr
open _root_.ByteArray renaming empty→Ze
open Go.IntKind renaming i64→J
open Option renaming none→O
open Go.RowKit
def Rp.mk0 (id n:Int) (lives:List Int) (st:Int) (g:List Int):Rp:=⟨id,n,lives,st,0,0,0,g,[],[],0,sv0,wo,[],[],st0,[]⟩
def Rp.new (id n:Int) (g:List Int):Rp:=Rp.mk0 id n (bZ n.toNat) (if lN g id then 1 else 4) g
def Rp.restart (id n life:Int):Rp:=Rp.mk0 id n ((bZ n.toNat).set id.toNat life) 3 []
def v0 (vl vg:Value):Rv:=⟨vl,vg,Y O 0 0,Y O 0 0,Y O 0 0,Y O 0 0,Y O 0 0⟩
def lT (R:Rp) (V:Rv):Array Value:=(jD R V++(svC R.sv++fI R V)).toArray
theorem ay.fresh {w:World} {b bl:Nat} {F:List Nat} {id n st:Int} {lives g:List Int} {vl vg:Value} (hb:w.heap[b]? = some (.cells (lT (Rp.mk0 id n lives st g) (v0 vl vg)) 63 (0,0))) (hl:mU w vl bl lives) (hg:Ints w vg g) (hs:Sl [b,bl] (b :: bl :: F) vg) (hF:∀ x∈F,x<w.heap.size) (hT:Tab w) (h0:0∉b :: bl :: F) :
    ay w b bl [b,bl] (b :: bl :: F) (Rp.mk0 id n lives st g) (v0 vl vg) :=
  ⟨⟨hb, rfl, rfl, by intro x hx; have := List.eq_of_mem_replicate hx; omega⟩, rfl, rfl, hl, World.ownsRow_nil _ _ _ _, lq.nil _ _, hg, fH _, Pms.nil _ _ _, Pms.nil _ _ _, hs, Sl.nil _ _, by simp, by simp, In.nil _ _ _, In.nil _ _ _, by intro x hx; simp at hx ⊢; rcases hx with hx | hx <;> simp [hx],
   fun x hx=>by
    simp at hx
    rcases hx with rfl|rfl|hx
    · exact lt_of_block hb
    · exact hl.lt
    · exact hF x hx,hT,h0⟩
theorem pO (id n:Int) (w:World):Calls Tryz.prog 15 #[I J id,I J n] w fun e w'=>e=Zr (.bool (decide (3≤n∧n≤7∧0≤id∧id<n)))∧w'=w:=by
 obtain⟨r,hr⟩:∃ r,r=decide (3≤n∧n≤7∧0≤id∧id<n):=⟨_,rfl⟩
 rw[← hr];have HR:=ah hr;clear hr;by_cases h1:3≤n
 ·by_cases h2:n≤7
  ·by_cases h3:0≤id
   ·by_cases h4:id<n
    ·have HZ:Hid (r=true):=HR.out.trans (decide_eq_true ⟨h1,h2,h3,h4⟩)
     go_enter Tryz.func15,Tryz.ntmps15;go_wp2_with fail;go_ret;exact⟨aS HZ.out.symm,rfl⟩
    ·have HZ:Hid (r=false):=HR.out.trans (decide_eq_false (fun q=>h4 q.2.2.2))
     go_enter Tryz.func15,Tryz.ntmps15;go_wp2_with fail;go_ret;exact⟨aS HZ.out.symm,rfl⟩
   ·have HZ:Hid (r=false):=HR.out.trans (decide_eq_false (fun q=>h3 q.2.2.1))
    go_enter Tryz.func15,Tryz.ntmps15;go_wp2_with fail;go_ret;exact⟨aS HZ.out.symm,rfl⟩
  ·have HZ:Hid (r=false):=HR.out.trans (decide_eq_false (fun q=>h2 q.2.1))
   go_enter Tryz.func15,Tryz.ntmps15;go_wp2_with fail;go_ret;exact⟨aS HZ.out.symm,rfl⟩
 ·have HZ:Hid (r=false):=HR.out.trans (decide_eq_false (fun q=>h1 q.1))
  go_enter Tryz.func15,Tryz.ntmps15;go_wp2_with fail;go_ret;exact⟨aS HZ.out.symm,rfl⟩
def Am (w w':World) (e:Ending) (R:Rp):Prop:=∃ b bl W F V,e=Zr (.tuple #[Zp (some ⟨b,0,O⟩),I J 0])∧ay w' b bl W F R V∧V.vt=Y O 0 0∧(∀ x∈F,w.heap.size≤x)∧Below w.heap.size w w'
theorem Et (id n:Int) (s:ByteArray) (w:World) (hs:s.size≤maxLen) (hn:3≤n∧n≤7∧0≤id∧id<n) (hg:aQ s.data.toList n=false) :
  Calls Tryz.prog 9 #[I J id,I J n,Z s] w fun e w'=>e=Zr (.tuple #[Zp O,I J 1])∧Below w.heap.size w w':=by
 have HO:=ah (pO id n w);rw[decide_eq_true hn] at HO;have HG:=ah (fun w=>qh s n w hs)
 have HN:Hid (aQ s.data.toList n=false):=hg
 have hnl:=fun w a n c=>Lib.run_eql_slice_nil (P:=Tryz.prog) w 44 3 a n c 0 0 Tryz.underlying44
 clear hg hn;go_enter Tryz.func9,Tryz.ntmps9;go_wp2_with fail;refine HO.out.mono ?_;rintro e w' ⟨rfl,hw'⟩;subst hw';go_wp2_with fail;refine (HG.out _).mono ?_;rintro e w1 ⟨v1,rfl,_,hv,hb1⟩;have:=hv.2 HN.out
 subst this;clear hv;go_wp2_with fail;go_ret2;exact⟨rfl,hb1⟩
theorem zM {s:ByteArray} {n:Int} (h:aQ s.data.toList n=true):bY s n=dW s∧0<(dW s).length∧(dW s).length≤5:=by
 have q:=lH h;exact⟨by unfold bY;rw[if_pos h],by rw[jS];exact q.1,by rw[jS];exact q.2⟩
theorem jX (id n:Int) (s:ByteArray) (w:World) (hT:Tab w) (hs:s.size≤maxLen) (hn:3≤n∧n≤7∧0≤id∧id<n) (hg:aQ s.data.toList n=true) (h0:0<w.heap.size) :
  Calls Tryz.prog 9 #[I J id,I J n,Z s] w fun e w'=>Am w w' e (Rp.new id n (dW s)):=by
 have HO:=ah (pO id n w);rw[decide_eq_true hn] at HO;obtain⟨nn,hnn⟩:∃ m:Nat,n=m:=⟨n.toNat,by omega⟩
 subst hnn;obtain⟨g1,g2,g3⟩:=zM hg
 have HG:Hid (∀ w,Calls Tryz.prog 16 #[Z s,I J (nn:Int)] w fun e w'=>∃ v,e=Zr v∧w'.ownsRow w.heap.size 3 1 v (dW s).length ((dW s).map (Value.int .i64))∧Below w.heap.size w w'):=fun w=>(qh s nn w hs).mono (fun e w' q=>by
  obtain⟨v,q1,q2,_,q4⟩:=q
  rw[g1] at q2;exact⟨v,q1,q2,q4⟩)
 have hnl:=fun w a n c=>Lib.run_eql_slice_nil (P:=Tryz.prog) w 44 3 a n c 0 0 Tryz.underlying44
 have hmk:=zT (nn:Int) (by omega) (by omega)
 rw[Int.toNat_natCast] at hmk;have HNw:Hid (Rp.new id nn (dW s)=if lN (dW s) id then Rp.mk0 id nn (bZ nn) 1 (dW s) else Rp.mk0 id nn (bZ nn) 4 (dW s)):=by unfold Hid Rp.new;rw[Int.toNat_natCast];split <;> rfl
 have HOk:Hid (Ok (Rp.mk0 id nn (bZ nn) 4 (dW s))):=by
  have hz:(bZ nn).length=nn:=by simp[bZ]
  exact⟨hn.1,hn.2.1,hn.2.2.1,hn.2.2.2,by show ((bZ nn).length:Int)=nn;rw[hz],fun x hx=>by have:=List.eq_of_mem_replicate hx;subst this;omega,by show (1:Int)≤4∧(4:Int)≤5;omega,by show (0:Int)≤0∧(0:Int)≤10;omega,by show (0:Int)≤0∧(0:Int)≤999;omega,by show (0:Int)≤0∧(0:Int)≤999;omega,vV hg,fQ.nil _,Nat.zero_le _,(by intro e he;cases he),Nat.le_refl _,(by intro m hm;cases hm),List.nodup_nil,(by intro m hm;cases hm),List.nodup_nil⟩
 clear hg g1 hs;go_enter Tryz.func9,Tryz.ntmps9;go_wp2_with fail;refine HO.out.mono ?_;rintro e w' ⟨rfl,hw'⟩;subst hw';obtain⟨w,Hw⟩:∃ x,x=w':=⟨_,rfl⟩
 subst Hw;go_wp2_with fail;refine (HG.out _).mono ?_;rintro e w1 ⟨v1,rfl,hO1,hb1⟩;rcases hO1.2 with ⟨rfl,h3⟩|⟨g,cap,cur,rfl,hg1,hg2,hg3,hg4,hg5,hg6⟩
 ·omega
 have hI1:Ints w1 (Y (some ⟨g,0,O⟩) (dW s).length cap) (dW s):=Rd.bK hO1
 have hglt:=lt_of_block hg2;clear hg2 hg3 hg4 hg5 hg6 hO1;have hbL:Below w1.heap.size w1 (w1.alloc (.cells (iB nn) 3)):=(Below.refl _ w1).alloc (Nat.le_refl _) _
 have hOL:mU (w1.alloc (.cells (iB nn) 3)) (Y (some ⟨w1.heap.size,0,O⟩) nn nn) w1.heap.size (bZ nn):=zY w1 nn (by omega)
 go_upto_region 7 with fail
 have hz:((((Tryz.zeroCells63.setIfInBounds 0 (I J id)).setIfInBounds 1 (I J (nn:Int))).setIfInBounds 2 (Y (some ⟨w1.heap.size,0,O⟩) nn nn)).setIfInBounds 7 (Y (some ⟨g,0,O⟩) (dW s).length cap)).setIfInBounds 3 (I J 4)=lT (Rp.mk0 id nn (bZ nn) 4 (dW s)) (v0 (Y (some ⟨w1.heap.size,0,O⟩) nn nn) (Y (some ⟨g,0,O⟩) (dW s).length cap)):=rfl
 rw[hz];have hsz:(w1.alloc (.cells (iB nn) 3)).heap.size=w1.heap.size+1:=by simp
 have hnew:=heap_alloc_new (w1.alloc (.cells (iB nn) 3)) (.cells (lT (Rp.mk0 id nn (bZ nn) 4 (dW s)) (v0 (Y (some ⟨w1.heap.size,0,O⟩) nn nn) (Y (some ⟨g,0,O⟩) (dW s).length cap))) 63);rw[hsz] at hnew;have hbR:Below w1.heap.size w1 ((w1.alloc (.cells (iB nn) 3)).alloc (.cells (lT (Rp.mk0 id nn (bZ nn) 4 (dW s)) (v0 (Y (some ⟨w1.heap.size,0,O⟩) nn nn) (Y (some ⟨g,0,O⟩) (dW s).length cap))) 63)):=hbL.alloc hbL.size _
 have hOL2:=hOL.kp (S:=[]) (Kp.of_below ((Below.refl _ _).alloc (Nat.le_refl _) (.cells (lT (Rp.mk0 id nn (bZ nn) 4 (dW s)) (v0 (Y (some ⟨w1.heap.size,0,O⟩) nn nn) (Y (some ⟨g,0,O⟩) (dW s).length cap))) 63))) (by simp)
 have hI2:=hI1.below hbR;have hT2:=(hT.below hb1).below hbR;clear hOL hbL hz hI1;generalize (w1.alloc (.cells (iB nn) 3)).alloc (.cells (lT (Rp.mk0 id nn (bZ nn) 4 (dW s)) (v0 (Y (some ⟨w1.heap.size,0,O⟩) nn nn) (Y (some ⟨g,0,O⟩) (dW s).length cap))) 63)=w2 at *;have hb1s:=hb1.size;have hbR2:=hbR.size;have hRp:=ay.fresh (F:=[g]) hnew hOL2 hI2 ⟨fun k hk hc=>by
  simp[Value.ownBlock] at hk;subst hk;simp at hc;omega,fun k hk=>by simp[Value.ownBlock] at hk;subst hk;simp⟩ (fun x hx=>by simp at hx;subst hx;omega) hT2 (by simp;omega)
 have hRF:∀ x∈(w1.heap.size+1) :: w1.heap.size :: [g],w.heap.size≤x:=fun x hx=>by
  simp at hx;rcases hx with rfl|rfl|rfl <;> omega
 have HRF:=ah hRF;have HB:=ah (hb1.trans (hbR.mono hb1.size));have HMb:=ah (kM hRp HOk.out id);have HR:=ah hRp;have HME:Hid ((Rp.mk0 id nn (bZ nn) 4 (dW s)).mem id=lN (dW s) id):=rfl
 have c3:=hRp.c3;have f3:=hRp.free 3;clear hRp hRF hnew hOL2 hI2 hT2 hbR hb1 hT;rw[HME.out] at HMb;cases hm:lN (dW s) id
 ·rw[hm] at HMb HNw;go_wp2_with fail;refine HMb.out.mono ?_;rintro e w3 ⟨rfl,hw3⟩;subst hw3;go_wp2_with fail;go_ret2;exact⟨_,_,_,_,_,rfl,by rw[HNw.out];exact HR.out,rfl,HRF.out,HB.out⟩
 ·rw[hm] at HMb HNw;have HS:=ah (HR.out.iJ 1);have HB2:Hid (Below w.heap.size w (w2.setCell ⟨w1.heap.size+1,3,O⟩ (I J 1))):=HB.out.setCell (p:=⟨w1.heap.size+1,3,O⟩) (by show w.heap.size≤w1.heap.size+1;omega) _
  go_wp2_with fail;refine HMb.out.mono ?_;rintro e w3 ⟨rfl,hw3⟩;subst hw3;go_wp2_with fail;go_ret2;exact⟨_,_,_,_,_,rfl,by rw[HNw.out];exact HS.out,rfl,HRF.out,HB2.out⟩
theorem CS (id n life:Int) (w:World) (hT:Tab w) (hn:3≤n∧n≤7∧0≤id∧id<n) (hl:1≤life∧life≤999) (h0:0<w.heap.size) :
  Calls Tryz.prog 65 #[I J id,I J n,I J life] w fun e w'=>Am w w' e (Rp.restart id n life):=by
 have HO:=ah (pO id n w);rw[decide_eq_true hn] at HO;obtain⟨nn,hnn⟩:∃ m:Nat,n=m:=⟨n.toNat,by omega⟩
 subst hnn;obtain⟨i,hii⟩:∃ m:Nat,id=m:=⟨id.toNat,by omega⟩
 subst hii;have hmk:=zT (nn:Int) (by omega) (by omega)
 rw[Int.toNat_natCast] at hmk;have HNw:Hid (Rp.restart i nn life=Rp.mk0 i nn ((bZ nn).set i life) 3 []):=by unfold Hid Rp.restart;rw[Int.toNat_natCast,Int.toNat_natCast]
 have l1:=hl.1;have l2:=hl.2;have j1:(0:Int)≤(i:Int):=by omega
 have j2:(i:Int)<(nn:Int):=by omega
 go_enter Tryz.func65,Tryz.ntmps65;go_wp2_with fail;refine HO.out.mono ?_;rintro e w1 ⟨rfl,hw1⟩;subst hw1;have hbL:Below w1.heap.size w1 (w1.alloc (.cells (iB nn) 3)):=(Below.refl _ w1).alloc (Nat.le_refl _) _
 have hOL:mU (w1.alloc (.cells (iB nn) 3)) (Y (some ⟨w1.heap.size,0,O⟩) nn nn) w1.heap.size (bZ nn):=zY w1 nn (by omega)
 go_upto_region 4 with fail
 have hz:(((Tryz.zeroCells63.setIfInBounds 0 (I J (i:Int))).setIfInBounds 1 (I J (nn:Int))).setIfInBounds 2 (Y (some ⟨w1.heap.size,0,O⟩) nn nn)).setIfInBounds 3 (I J 3)=lT (Rp.mk0 i nn (bZ nn) 3 []) (v0 (Y (some ⟨w1.heap.size,0,O⟩) nn nn) (Y O 0 0)):=rfl
 rw[hz];have hsz:(w1.alloc (.cells (iB nn) 3)).heap.size=w1.heap.size+1:=by simp
 have hnew:=heap_alloc_new (w1.alloc (.cells (iB nn) 3)) (.cells (lT (Rp.mk0 i nn (bZ nn) 3 []) (v0 (Y (some ⟨w1.heap.size,0,O⟩) nn nn) (Y O 0 0))) 63);rw[hsz] at hnew;have hbR:Below w1.heap.size w1 ((w1.alloc (.cells (iB nn) 3)).alloc (.cells (lT (Rp.mk0 i nn (bZ nn) 3 []) (v0 (Y (some ⟨w1.heap.size,0,O⟩) nn nn) (Y O 0 0))) 63)):=hbL.alloc hbL.size _
 have hOL2:=hOL.kp (S:=[]) (Kp.of_below ((Below.refl _ _).alloc (Nat.le_refl _) (.cells (lT (Rp.mk0 i nn (bZ nn) 3 []) (v0 (Y (some ⟨w1.heap.size,0,O⟩) nn nn) (Y O 0 0))) 63))) (by simp)
 have hT2:=hT.below hbR;clear hOL hbL hz;generalize (w1.alloc (.cells (iB nn) 3)).alloc (.cells (lT (Rp.mk0 i nn (bZ nn) 3 []) (v0 (Y (some ⟨w1.heap.size,0,O⟩) nn nn) (Y O 0 0))) 63)=w2 at *;have hRp:=ay.fresh (F:=[]) hnew hOL2 (fH _) (Sl.nil _ _) (fun x hx=>by cases hx) hT2 (by simp;omega)
 have hRF:∀ x∈(w1.heap.size+1) :: w1.heap.size :: [],w1.heap.size≤x:=fun x hx=>by
  simp at hx;rcases hx with rfl|rfl <;> omega
 have HRF:=ah hRF;have HS:=ah (hRp.Fa i life);have HB2:Hid (Below w1.heap.size w1 (w2.setCell ⟨w1.heap.size,i,O⟩ (I J life))):=hbR.setCell (p:=⟨w1.heap.size,i,O⟩) (Nat.le_refl _) _
 have c2:w2.cell? ⟨w1.heap.size+1,2,O⟩=some (Y (some ⟨w1.heap.size,0,O⟩) nn nn):=hRp.c2
 have zl:(bZ nn).length=nn:=by simp[bZ]
 have hrl:=hRp.lives.rd;obtain⟨b4,o4,hb4e,hb4,z4⟩:=Ints.get hrl i (by show i<(bZ nn).length;omega)
 simp only[Option.some.injEq,Addr.mk.injEq] at hb4e;obtain⟨rfl,rfl,_⟩:=hb4e
 simp only[Nat.zero_add] at z4;have zf:=hRp.lives.frozen i;obtain⟨va,z4'⟩:∃ v,w2.cell? ⟨w1.heap.size,i,O⟩=some (I J v):=⟨_,z4⟩
 clear z4;clear hRp hRF hnew hOL2 hT2 hbR hT zl hrl;go_wp2_with fail;go_ret2;exact⟨_,_,_,_,_,rfl,by rw[HNw.out];exact HS.out,rfl,HRF.out,HB2.out⟩
section
variable {N:Nat} {w w':World} {g:Nat} {K K':Kw} {V V':Kv}
theorem KAt.Lg {w1 w2:World} {q:Nat} {x':Nod} (h:KAt N w g K V) (hB:Below w.heap.size w w1) (hq:q<K.nds.length) (hR:ay w1 x'.b x'.bl x'.W x'.F x'.R x'.V) (hF:∀ y∈x'.F,w.heap.size≤y)
  (k:Kp V.vN.ownBlock.toList w1 w2) (ho:w2.ownsRow 0 29 1 V.vN (K.nds.set q x').length ((K.nds.set q x').map ku)):Kst N w w2 g K V { K with nds:=K.nds.set q x' } V:=by
 have h1:=h.below hB;have hq? : K.nds[q]? = some K.nds[q]:=List.getElem?_eq_getElem hq
 have hci:=xO (g:=g) (V:=V) hq?;have hc0:(bS g K V)[1]? = some V.vN.ownBlock.toList:=tY (i:=0) (r:=⟨29,1,V.vN,K.nds.length,K.nds.map ku⟩) rfl
 have hof:∀ t,t≠1→Off (bS g K V) V.vN.ownBlock.toList t:=fun t h1=>Off.one hc0 (fun _ h=>h) (fun hc=>h1 hc.symm)
 have hcm:bS g { K with nds:=K.nds.set q x' } V=(bS g K V).set (q+9) x'.F:=rH rfl rfl
 have hno0:=h1.no0 (gX hc0);refine⟨⟨?_,?_,?_,?_,?_,h.n0,h1.tab.kp k hno0⟩,((Kp.of_below hB).trans' (k.wid (gX hc0))),?_⟩
 ·exact (h1.xu k (hof _ (by omega))).trans h1.blk
 ·intro r0 hr0;obtain⟨m,hm⟩:=List.getElem?_of_mem hr0
  cases m with
  | zero =>
   have:r0=⟨29,1,V.vN,(K.nds.set q x').length,(K.nds.set q x').map ku⟩:=by
    have:some _=some r0:=hm
    exact (Option.some.inj this).symm
   subst this;exact ho
  | succ m =>
   have hm':(dX K V)[m+1]? = some r0:=hm
   exact h1.nG k hm' (hof _ (by omega))
 ·intro y hy;obtain⟨m,hm⟩:=List.getElem?_of_mem hy
  by_cases e:q=m
  ·subst e;rw[List.getElem?_set_self hq] at hm;cases hm;refine hR.far k (fun z hz hc=>?_) hno0
   have:=h.lt _ (List.mem_of_getElem? hc0) z hz
   have:=hF z hc
   omega
  ·rw[List.getElem?_set_ne e] at hm;exact h1.nA k hm (hof _ (by omega))
 ·rw[hcm];exact h.ap.put h.lt (fun a ha y hy=>.inr (hF y hy))
 ·rw[hcm];intro c hcc y hy;rcases List.mem_or_eq_of_mem_set hcc with p|rfl
  ·exact h.lo c p y hy
  ·have:=h.Nlt;have:=hF y hy;omega
 ·intro y hy;unfold gV at hy;rw[hcm] at hy;obtain⟨c,hcc,hy⟩:=List.mem_flatten.1 hy
  rcases List.mem_or_eq_of_mem_set hcc with p|rfl
  ·exact .inl (List.mem_flatten.2 ⟨c,p,hy⟩)
  ·exact .inr (hF y hy)
end
section
variable {N:Nat} {w w':World} {g:Nat} {K K':Kw} {V V':Kv}
theorem DZ (h:KAt N w g K V) (z:KSz K) (he:∀ x∈K.nds,0≤x.R.epoch∧x.R.epoch≤1000) (hlog:∀ x∈K.nds,x.R.log.length≤1000) (hg:∀ t∈K.groups,t.size≤1000000) :
  Calls Tryz.prog 69 #[Zp (some ⟨g,0,O⟩)] w fun e w'=>qK w w' e:=by
 have z10:=z.opn;obtain⟨aO,cO,hvO⟩:=au h.rO
 have HO:=ah (fun (w2:World) (hw2:Below w.heap.size w w2)=>KAt.opn h hvO hw2)
 have HC9:Hid (∀ w2,Below w.heap.size w w2→w2.cell? ⟨g,9,O⟩=some (Y aO K.opn.length cO)):=fun w2 hw2=>by rw[← hvO];exact (h.below hw2).cell 9
 have HS:Hid (∀ w2,Below w.heap.size w w2→Calls Tryz.prog 113 #[Zp (some ⟨g,0,O⟩)] w2 fun e w'=>qK w2 w' e):=fun w2 hw2=>Ck (h.below hw2) z he hlog hg
 clear h z he hlog hg;go_enter Tryz.func69,Tryz.ntmps69;go_wp2_with fail;go_loopw [3] (fun i wr=>∃ k:Nat,1≤k∧k≤10∧i=I J k∧Below w.heap.size w wr) (fun i _=>10-(intOf i).toNat)
 case atStart=>exact⟨1,by omega,by omega,rfl,Below.refl _ _⟩
 case round =>
  obtain⟨k,hk1,hk,rfl,hbw⟩:=hrel
  by_cases hlt:k<10
  ·obtain⟨b2,o2,rfl,hb2,d2⟩:=HO.out _ hbw k (by omega)
   have c9:=HC9.out _ hbw;have j1:(0:Int)≤(k:Int):=by omega
   have j3:(k:Int)<(K.opn.length:Int):=by omega
   have j4:(k:Int)≤9:=by omega
   generalize K.opn[k]=ov at *;by_cases hv:(0:Int)≤ov
   ·go_wp2_with fail;go_ret;exact⟨_,rfl,hbw⟩
   ·go_wp2_with fail;go_roundw
    case rel=>exact⟨k+1,by omega,by omega,by go_num,hbw⟩
    case measure=>simp[intOf];omega
  ·have j4:¬(k:Int)≤9:=by omega
   go_wp2_with fail;refine (HS.out _ hbw).mono ?_;rintro e w1 ⟨b,rfl,hb⟩;go_wp2_with fail;go_ret;exact⟨_,rfl,hbw.trans (hb.mono hbw.size)⟩
end
section
variable {N:Nat} {w w':World} {g:Nat} {K K':Kw} {V V':Kv}
def oL (N:Nat) (w w':World) (g:Nat) (K:Kw) (V:Kv) (p:Int) (e:Ending):Prop:=∃ b K',e=Zr (.bool b)∧Kst N w w' g K V K' V∧(b=true→K'=K)∧(b=false→K'={ K with part:=p })
theorem oL.yes {p:Int} (h:KAt N w g K V) (hb:Below w.heap.size w w'):oL N w w' g K V p (Zr (.bool true)):=⟨true,K,rfl,(Kst.refl h).below hb,fun _=>rfl,fun h=>by simp at h⟩
theorem oL.no {p:Int} (k:Kst N w w' g K V { K with part:=p } V):oL N w w' g K V p (Zr (.bool false)):=⟨false,_,rfl,k,fun h=>by simp at h,fun _=>rfl⟩
theorem mM (h:KAt N w g K V) (z:KSz K) (q:Nat) (hq:q<K.nds.length) (he0:0≤K.nds[q].R.epoch) (he:K.nds[q].R.epoch<(K.groups.length:Int)) (hg:∀ t∈K.groups,t.size≤1000000) :
    Calls Tryz.prog 62 #[Zp (some ⟨g,0,O⟩),I J q] w fun e w'=>oL N w w' g K V 16 e:=by
  obtain ⟨n, hn⟩ : ∃ n : Nat, K.n = n := ⟨K.n.toNat, by have := z.n3; omega⟩
  have z3:=z.n3
  have z1:=z.nds
  have z7:=z.n7
  have zd:=z.down
  have zb:=z.begun
  have z10:=z.opn
  rw[hn] at z1 z7 z3 zd zb
  have HC1 : Hid (∀ w2, Below w.heap.size w w2 → w2.cell? ⟨g, 1, O⟩ = some (I J n)) := fun w2 hw2 => by rw [← hn]; exact (h.below hw2).cell 1
  obtain⟨aN,cN,hvN⟩:=au h.rN
  have HC2 : Hid (∀ w2, Below w.heap.size w w2 → w2.cell? ⟨g, 2, O⟩ = some (Y aN K.nds.length cN)) := fun w2 hw2 => by rw [← hvN]; exact (h.below hw2).cell 2
  have HN:=ah (fun (w2:World) (hw2:Below w.heap.size w w2)=>KAt.ptr h hvN hw2)
  obtain⟨aG,cG,hvG⟩:=au h.rG
  have HC11 : Hid (∀ w2, Below w.heap.size w w2 → w2.cell? ⟨g, 11, O⟩ = some (Y aG K.groups.length cG)) := fun w2 hw2 => by rw [← hvG]; exact (h.below hw2).cell 11
  have HG:=ah (fun (w2:World) (hw2:Below w.heap.size w w2)=>KAt.grp h hvG hw2)
  obtain⟨aB,cB,hvB⟩:=au h.rB
  have HC4 : Hid (∀ w2, Below w.heap.size w w2 → w2.cell? ⟨g, 4, O⟩ = some (Y aB K.begun.length cB)) := fun w2 hw2 => by rw [← hvB]; exact (h.below hw2).cell 4
  have HB:=ah (fun (w2:World) (hw2:Below w.heap.size w w2)=>KAt.bgn h hvB hw2)
  have HWh:=ah (fun (w2:World) (hw2:Below w.heap.size w w2)=>KAt.whr h hw2)
  have HF16:Hid (∀ w2,Below w.heap.size w w2→Calls Tryz.prog 66 #[Zp (some ⟨g,0,O⟩),I J 16] w2 fun e w'=>e=Zr (.bool false)∧Kst N w w' g K V { K with part:=16 } V):=fun w2 hw2=>(bQ (h.below hw2) 16).mono (by
    rintro e w3 ⟨rfl,k⟩
    exact⟨rfl,((Kst.refl h).below hw2).trans k⟩)
  have HY:Hid (∀ w2,Below w.heap.size w w2→oL N w w2 g K V 16 (Zr (.bool true))):=fun w2 hw2=>oL.yes h hw2
  obtain⟨ia,hia⟩:=Int.eq_ofNat_of_zero_le he0
  have hial : ia < K.groups.length := by omega
  have sg:=hg _ (List.getElem_mem hial)
  have HQ:=ah (HWh.out w (Below.refl _ _) q hq)
  rw[hia] at HQ
  obtain⟨b1,o1,rfl,_,d1⟩:=HN.out w (Below.refl _ _) q hq
  have c2:=HC2.out w (Below.refl _ _)
  have j1 : (0 : Int) ≤ (q : Int) := by omega
  have j2 : (q : Int) < (K.nds.length : Int) := by omega
  have j5 : (ia : Int) < (K.groups.length : Int) := by omega
  have HG1:Hid (∀ w2,Below w.heap.size w w2→∃ b off,aG=some ⟨b,off,O⟩∧b<w2.heap.size∧w2.cell? ⟨b,off+ia,O⟩=some (Z K.groups[ia])):=fun w2 hw2=>HG.out w2 hw2 ia hial
  have HB1 : Hid (∀ w2, Below w.heap.size w w2 → ∀ k, (hk : k < n) → ∃ b off, aB = some ⟨b, off, O⟩ ∧ b < w2.heap.size ∧ w2.cell? ⟨b, off + k, O⟩ = some (I J (K.begun[k]'(by omega)))) := fun w2 hw2 k hk => HB.out w2 hw2 k (by omega)
  have j6 : (n : Int) ≤ (K.begun.length : Int) := by omega
  clear h z hg he0 he HWh HG HN HB hia
  generalize K.groups[ia]=t at *
  generalize K.nds[q].b=bb at *
  generalize K.nds[q].R.view=r2 at *
  generalize K.nds[q].R.status=r3 at *
  generalize K.nds[q].R.decided=r4 at *
  have HA : Hid (∀ (k : Int) (w : World), Calls Tryz.prog 56 #[Z t, I J k] w fun e w' => ∃ b, e = Zr (.bool b) ∧ w' = w) := fun k w => nK t k w (by omega)
  go_enter Tryz.func62,Tryz.ntmps62
  go_wp2_with fail
  refine HQ.out.mono ?_
  rintro e w1 ⟨rfl,nn,hw1⟩
  have hb1 : Below w.heap.size w w1 := by rw [hw1]; exact below_drewN (Below.refl _ _) nn
  clear hw1
  have c11:=HC11.out _ hb1
  obtain⟨b3,o3,rfl,_,d3⟩:=HG1.out _ hb1
  go_wp2_with fail
  go_loopw [10,11] (fun m i wr=>∃ k c:Nat,c≤k∧k≤n∧i=I J k∧m=I J c∧Below w.heap.size w wr) (fun _ i _=>n-(intOf i).toNat)
  case atStart=>exact⟨0,0,Nat.le_refl _,Nat.zero_le _,rfl,rfl,hb1⟩
  case round =>
    obtain⟨k,c,hck,hk,rfl,rfl,hbw⟩:=hrel
    have k1:=HC1.out _ hbw
    by_cases hlt:k<n
    · obtain⟨b2,o2,rfl,_,d2⟩:=HB1.out _ hbw k hlt
      have k4:=HC4.out _ hbw
      have j1 : (0 : Int) ≤ (k : Int) := by omega
      have j3 : (k : Int) < (K.begun.length : Int) := by omega
      have j4 : (k : Int) < (n : Int) := by omega
      generalize K.begun[k]=bg at *
      go_wp2_with fail
      refine (HA.out _ _).mono ?_
      rintro e w4 ⟨bA,rfl,hw4⟩
      subst hw4
      by_cases hge:(ia:Int)≤bg
      all_goals
        cases bA
        all_goals
          go_wp2_with fail
          first
          | (go_roundw
             case rel => exact ⟨k + 1, c, by omega, by omega, by go_num, rfl, hbw⟩
             case measure=>simp[intOf];omega)
          | (go_roundw
             case rel => exact ⟨k + 1, c + 1, by omega, by omega, by go_num, by go_num, hbw⟩
             case measure=>simp[intOf];omega)
    · have j4 : ¬ (k : Int) < (n : Int) := by omega
      by_cases hgt:(t.size:Int)<2*(c:Int)
      · go_wp2_with fail
        go_ret
        exact HY.out _ hbw
      · go_wp2_with fail
        refine (HF16.out _ hbw).mono ?_
        rintro e w2 ⟨rfl,k2⟩
        go_wp2_with fail
        go_ret
        exact oL.no k2
end
section
variable {N:Nat} {w w':World} {g:Nat} {K K':Kw} {V V':Kv}
theorem KAt.Hu {w1 w2:World} {x:Nod} {v':Value} (h:KAt N w g K V) (hB:Below w.heap.size w w1) (hR:ay w1 x.b x.bl x.W x.F x.R x.V) (hF:∀ y∈x.F,w.heap.size≤y)
  (k:Kp V.vN.ownBlock.toList w1 w2) (ho:w2.ownsRow 0 29 1 v' (K.nds++[x]).length ((K.nds++[x]).map ku)) (hb:∀ y,v'.ownBlock=some y→V.vN.ownBlock=some y∨w1.heap.size≤y) :
  Kst N w (w2.setCell ⟨g,2,O⟩ v') g K V { K with nds:=K.nds++[x] } { V with vN:=v' }:=by
 have h1:=h.below hB;have hc0:(bS g K V)[1]? = some V.vN.ownBlock.toList:=tY (i:=0) (r:=⟨29,1,V.vN,K.nds.length,K.nds.map ku⟩) rfl
 have hgl:=h.lb;have hs1:=hB.size;have hgne:some g≠V.vN.ownBlock:=h.gne (i:=0) (r:=⟨29,1,V.vN,K.nds.length,K.nds.map ku⟩) rfl
 have hgb:v'.ownBlock≠some g:=fun hc=>by
  rcases hb g hc with q|q
  ·exact hgne q.symm
  ·omega
 have k3:Kp ([g]++V.vN.ownBlock.toList) w1 (w2.setCell ⟨g,2,O⟩ v'):=(k.wid (S':=[g]++V.vN.ownBlock.toList) (fun x hx=>by simp at hx;simp[hx])).set g 2 _ (.inl (by simp))
 have hof:∀ t,t≠0→t≠1→Off (bS g K V) ([g]++V.vN.ownBlock.toList) t:=fun t h0 h1=>Off.app (Off.one (i:=0) yV (fun _ h=>h) (fun hc=>h0 hc.symm)) (Off.one hc0 (fun _ h=>h) (fun hc=>h1 hc.symm))
 have hfo:∀ x∈[g]++V.vN.ownBlock.toList,x∈gV g K V:=fun x hx=>by
  rcases List.mem_append.1 hx with q|q
  ·exact gX (i:=0) yV x q
  ·exact gX hc0 x q
 have hcm:bS g { K with nds:=K.nds++[x] } { V with vN:=v' }=(bS g K V).set 1 v'.ownBlock.toList++[x.F]:=by
  unfold bS dX;simp
 have hlt:∀ c∈bS g K V,∀ y∈c,y<w.heap.size:=h.lt
 have hno0:0∉[g]++V.vN.ownBlock.toList:=h1.no0 hfo
 have hxf:∀ y∈x.F,y<w1.heap.size:=hR.fl
 have hvs:∀ c∈(bS g K V).set 1 v'.ownBlock.toList,∀ y∈c,y<w.heap.size∨w1.heap.size≤y:=fun c hc y hy=>by
  rcases List.mem_or_eq_of_mem_set hc with q|rfl
  ·exact .inl (hlt c q y hy)
  ·rcases hb y (by simpa using hy) with q|q
   ·exact .inl (hlt _ (List.mem_of_getElem? hc0) y (by simp[q]))
   ·exact .inr q
 refine⟨⟨?_,?_,?_,?_,?_,h.n0,h1.tab.kp k3 hno0⟩,((Kp.of_below hB).trans' (k3.wid hfo)),?_⟩
 ·exact heap_setCell_same w2 g 2 _ _ _ ((h1.xu k (Off.one hc0 (fun _ h=>h) (by omega))).trans h1.blk)
 ·intro r0 hr0;obtain⟨m,hm⟩:=List.getElem?_of_mem hr0
  cases m with
  | zero =>
   have:r0=⟨29,1,v',(K.nds++[x]).length,(K.nds++[x]).map ku⟩:=by
    have:some _=some r0:=hm
    exact (Option.some.inj this).symm
   subst this;exact dV ho ((Kp.refl [g] w2).set g 2 _ (.inl (by simp))) (fun y hy hc=>by simp at hc;subst hc;exact hgb hy)
  | succ m =>
   have hm':(dX K V)[m+1]? = some r0:=hm
   exact h1.nG k3 hm' (hof _ (by omega) (by omega))
 ·intro y hy;rcases List.mem_append.1 hy with q|q
  ·obtain⟨j,hj⟩:=List.getElem?_of_mem q
   exact h1.nA k3 hj (hof _ (by omega) (by omega))
  ·simp at q;subst q;refine hR.far k3 (fun z hz hc=>?_) hno0
   have:=hF z hc
   rcases List.mem_append.1 hz with p|p
   ·simp at p;omega
   ·have:=hlt _ (List.mem_of_getElem? hc0) z p;omega
 ·rw[hcm];refine List.pairwise_append.2 ⟨h.ap.put (N:=w1.heap.size) (fun a ha y hy=>by have:=hlt a ha y hy;omega) (fun a ha y hy=>?_),List.pairwise_singleton _ _,fun a ha c hc y hy hyc=>?_⟩
  ·rw[hc0] at ha;cases ha;exact (hb y (by simpa using hy)).imp (fun p=>by simp[p]) id
  ·simp at hc;subst hc;have:=hF y hyc
   have:=hxf y hyc
   rcases hvs a ha y hy with p|p <;> omega
 ·rw[hcm];intro c hcc y hy;have hN:=h.Nlt;rcases List.mem_append.1 hcc with q|q
  ·rcases List.mem_or_eq_of_mem_set q with q|rfl
   ·exact h.lo c q y hy
   ·rcases hb y (by simpa using hy) with p|p
    ·exact h.lo _ (List.mem_of_getElem? hc0) y (by simp[p])
    ·omega
  ·simp at q;subst q;have:=hF y hy
   omega
 ·intro y hy;unfold gV at hy;rw[hcm] at hy;obtain⟨c,hcc,hy⟩:=List.mem_flatten.1 hy
  rcases List.mem_append.1 hcc with q|q
  ·rcases List.mem_or_eq_of_mem_set q with q|rfl
   ·exact .inl (List.mem_flatten.2 ⟨c,q,hy⟩)
   ·rcases hb y (by simpa using hy) with p|p
    ·exact .inl (gX hc0 y (by simp[p]))
    ·exact .inr (by omega)
  ·simp at q;subst q;exact .inr (hF y hy)
def K0 (n:Int):Kw:=⟨0,n,[],[],[],0,0,[],[],[],[],[],0⟩
def V0:Kv:=⟨Y O 0 0,Y O 0 0,Y O 0 0,Y O 0 0,Y O 0 0,Y O 0 0,Y O 0 0,Y O 0 0⟩
theorem KAt.fresh {n:Int} (hT:Tab w) (hN:0<N) (hNw:N≤w.heap.size):KAt N (w.alloc (.cells (lI (K0 n) V0) 50)) w.heap.size (K0 n) V0:=by
 have hcm:bS w.heap.size (K0 n) V0=[[w.heap.size],[],[],[],[],[],[],[],[]]:=rfl
 refine⟨heap_alloc_new w _,fun r hr=>?_,by simp[K0],?_,?_,hN,hT.below ((Below.refl _ w).alloc (Nat.le_refl _) _)⟩
 ·simp only[dX,K0,V0,List.mem_cons,List.not_mem_nil,or_false] at hr;rcases hr with rfl|rfl|rfl|rfl|rfl|rfl|rfl|rfl <;> exact World.ownsRow_nil _ _ _ _
 ·rw[hcm];simp[Ap]
 ·rw[hcm];intro c hc x hx;simp at hc;rcases hc with rfl|rfl
  ·simp at hx;omega
  ·simp at hx
theorem Bd {id n:Int} {s:ByteArray} (hn:3≤n∧n≤7∧0≤id∧id<n) (hg:aQ s.data.toList n=true):Ok (Rp.new id n (dW s)):=by
 have hgo:fQ n (dW s):=by
  have:=vX s n
  rwa [(zM hg).1] at this
 refine⟨hn.1,hn.2.1,hn.2.2.1,hn.2.2.2,?_,fun x hx=>?_,?_,by simp[Rp.new,Rp.mk0],by simp[Rp.new,Rp.mk0],by simp[Rp.new,Rp.mk0],hgo,fQ.nil _,by simp[Rp.new,Rp.mk0],by simp[Rp.new,Rp.mk0],by simp[Rp.new,Rp.mk0],by simp[Rp.new,Rp.mk0],by simp[Rp.new,Rp.mk0],by simp[Rp.new,Rp.mk0],by simp[Rp.new,Rp.mk0]⟩
 ·show ((bZ n.toNat).length:Int)=n
  rw[yO];omega
 ·have hx:x∈bZ n.toNat:=hx
  unfold bZ at hx;have:=List.eq_of_mem_replicate hx
  omega
 ·show 1≤(if lN (dW s) id=true then (1:Int) else 4)∧(if lN (dW s) id=true then (1:Int) else 4)≤5
  split <;> omega
structure Cl (n0:Int) (k m:Nat) (grp:ByteArray) (K:Kw):Prop where
 part:K.part=0
 n:K.n=n0
 nl:K.nds.length=k
 dl:K.down.length=k
 bl:K.begun.length=k
 lv:K.lives=0
 net:K.net=[]
 ws:K.wishes=[]
 ol:K.opn=List.replicate m (-1)
 ls:K.list=[]
 gs:K.groups=[grp]
 nod:∀ (q:Nat) (x:Nod),K.nds[q]? = some x→NI n0 q x∧x.R.epoch=0
theorem Cl.ki {n:Int} {grp:ByteArray} {k:Nat} (h:Cl n k 10 grp K) (hn:3≤n∧n≤7) (hk:(k:Int)=n) (hg:aQ grp.data.toList n=true):KI K∧Gr K∧dA K≤208000000000:=by
 have h1:=h.n;have h2:=h.nl;have h3:=h.dl;have h4:=h.bl;refine⟨⟨⟨by omega,by omega,by omega,by omega,by omega,by rw[h.ol];simp⟩,.inl h.part,fun q x hx=>by rw[h.n];exact (h.nod q x hx).1,by rw[h.net];simp,by rw[h.ws];simp,fun v hv=>?_,by rw[h.ls];exact⟨by simp,by simp⟩,fun t ht=>?_,by rw[h.lv];omega,by rw[h.gs,h.ls];simp⟩,fun x hx=>?_,?_⟩
 ·rw[h.ol] at hv;have:=List.eq_of_mem_replicate hv
  omega
 ·rw[h.gs] at ht;simp at ht;subst ht;rw[h.n];exact hg
 ·obtain⟨q,hq⟩:=List.getElem?_of_mem hx
  right
  rw[(h.nod q x hq).2,h.gs];simp
 ·have:=ET K.nds
  unfold dA;rw[h.net,h.ws,h.lv];simp
  omega
end
end Go.Proofs.YtajakaadgagejaaGreatDoor
