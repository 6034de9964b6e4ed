import Derived.Test.YtbnihoahhomooaaGreatDoorA13
import Derived.Test.YtbnihoahhomooaaGreatDoorA14
set_option maxRecDepth 100000
set_option maxHeartbeats 8000000
set_option linter.all false
namespace Go.Proofs.YtbnihoahhomooaaGreatDoor
open Go.Value renaming int→I,slice→Y,string→Z,pointer→Zp
open Go.Ending renaming returned→Zr
open _root_.ByteArray renaming empty→Ze
open Go.IntKind renaming i64→J
open Option renaming none→O
open Go.RowKit
section
variable {w w0:World} {b bl:Nat} {W F:List Nat} {R R2:Rp} {P:Pm} {vl vg vo vL:Value}
theorem Rst.drewN (h:Rst w0 w b bl W F R) (n:Nat):Rst w0 (w.drewN n) b bl W F R:=h.below (below_drewN (Below.refl _ _) n)
theorem Rst.drew (h:Rst w0 w b bl W F R):Rst w0 w.drew b bl W F R:=h.below (Below.refl _ _).drew
theorem Rst.bind {f:FuncId} {args:Array Value} {r:Value} (h:Rst w0 w b bl W F R) (hh:∀ W1 F1 V1,ay w b bl W1 F1 R V1→Calls Tryz.prog f args w fun e w2=>e=Zr r∧Rst w w2 b bl W1 F1 R2) :
  Calls Tryz.prog f args w fun e w2=>e=Zr r∧Rst w0 w2 b bl W F R2:=by
 obtain⟨W1,F1,V1,h1,k1,m1⟩:=h
 exact (hh W1 F1 V1 h1).mono (fun e w2 q=>⟨q.1,Rst.step k1 m1 q.2⟩)
theorem Rst.get {f:FuncId} {args:Array Value} {r:Value} (h:Rst w0 w b bl W F R) (hh:∀ W1 F1 V1,ay w b bl W1 F1 R V1→Calls Tryz.prog f args w fun e w2=>e=Zr r∧Below w.heap.size w w2) :
  Calls Tryz.prog f args w fun e w2=>e=Zr r∧Rst w0 w2 b bl W F R:=by
 obtain⟨W1,F1,V1,h1,k1,m1⟩:=h
 exact (hh W1 F1 V1 h1).mono (fun e w2 q=>⟨q.1,W1,F1,V1,h1.below q.2,k1.aS q.2,m1⟩)
theorem Rst.pm (h:Rst w0 w b bl W F R) (hP:dM w0 W F P vl vg vo vL):∃ W1 F1 V1,ay w b bl W1 F1 R V1∧Kp W w0 w∧Mv w0 W F W1 F1∧dM w W1 F1 P vl vg vo vL:=by
 obtain⟨W1,F1,V1,h1,k1,m1⟩:=h
 exact⟨W1,F1,V1,h1,k1,m1,hP.mv k1 m1⟩
theorem Rst.msg (h:Rst w0 w b bl W F R) (hP:dM w0 W F P vl vg vo vL):∃ W1 F1 V1 al cl ag cg ao co aL cL,vl=Y al P.lives.length cl∧vg=Y ag P.grp.length cg∧vo=Y ao P.old.length co∧vL=Y aL P.log.length cL∧dw (w.alloc (.cells (pqC P al cl ag cg ao co aL cL) 68)) w.heap.size (pqC P al cl ag cg ao co aL cL)∧dM (w.alloc (.cells (pqC P al cl ag cg ao co aL cL) 68)) W1 F1 P vl vg vo vL∧w.heap.size∉W1∧ay (w.alloc (.cells (pqC P al cl ag cg ao co aL cL) 68)) b bl W1 F1 R V1∧Hid (Rst (w.alloc (.cells (pqC P al cl ag cg ao co aL cL) 68)) (w.alloc (.cells (pqC P al cl ag cg ao co aL cL) 68)) b bl W1 F1 R)∧Hid (∀ w' R',Rst (w.alloc (.cells (pqC P al cl ag cg ao co aL cL) 68)) w' b bl W1 F1 R'→Rst w0 w' b bl W F R'):=by
 obtain⟨W1,F1,V1,h1,k1,m1,p1⟩:=h.pm hP
 obtain⟨al,cl,ag,cg,ao,co,aL,cL,e1,e2,e3,e4⟩:=p1.cells
 have hbA:Below w.heap.size w (w.alloc (.cells (pqC P al cl ag cg ao co aL cL) 68)):=(Below.refl _ w).alloc (Nat.le_refl _) _
 exact⟨W1,F1,V1,al,cl,ag,cg,ao,co,aL,cL,e1,e2,e3,e4,⟨rfl,heap_alloc_new w _⟩,p1.below hbA,fun hc=>by have:=h1.wlt _ hc;omega,h1.below hbA,Rst.refl (h1.below hbA),fun w' R' q=>Rst.step (k1.aS hbA) m1 q⟩
theorem Rst.Oh {f:FuncId} {args:Array Value} {r:Value} (h:Rst w0 w b bl W F R) (hP:dM w0 W F P vl vg vo vL) (hh:∀ W1 F1 V1,ay w b bl W1 F1 R V1→dM w W1 F1 P vl vg vo vL→Calls Tryz.prog f args w fun e w2=>e=Zr r∧Rst w w2 b bl W1 F1 R2) :
  Calls Tryz.prog f args w fun e w2=>e=Zr r∧Rst w0 w2 b bl W F R2:=by
 obtain⟨W1,F1,V1,h1,k1,m1,hP1⟩:=h.pm hP
 exact (hh W1 F1 V1 h1 hP1).mono (fun e w2 q=>⟨q.1,Rst.step k1 m1 q.2⟩)
theorem Rst.kp (h:Rst w0 w b bl W F R):Kp W w0 w:=by obtain⟨_,_,_,_,k,_⟩:=h;exact k
theorem fT (h:Rst w0 w b bl W F R) (hR:Ok R) (x:Int) :
  Calls Tryz.prog 17 #[Zp (some ⟨b,0,O⟩),I J x] w fun e w'=>e=Zr (.bool (R.mem x))∧Rst w0 w' b bl W F (R) :=
 h.get fun _ _ _ h1=>(lV h1 hR x).mono (fun _ _ q=>⟨q.1,by rw[q.2];exact Below.refl _ _⟩)
theorem Am (h:Rst w0 w b bl W F R) (hR:Ok R) :
  Calls Tryz.prog 121 #[Zp (some ⟨b,0,O⟩)] w fun e w'=>e=Zr (I J R.iB)∧Rst w0 w' b bl W F (R) :=
 h.get fun _ _ _ h1=>(iN h1 hR).mono (fun _ _ q=>⟨q.1,by obtain⟨n,hn⟩:=q.2;rw[hn];exact below_drewN (Below.refl _ _) n⟩)
theorem jr (h:Rst w0 w b bl W F R) (hR:Ok R) :
  Calls Tryz.prog 73 #[Zp (some ⟨b,0,O⟩)] w fun e w'=>e=Zr (.bool R.dG)∧Rst w0 w' b bl W F (R) :=
 h.get fun _ _ _ h1=>(jC h1 hR).mono (fun _ _ q=>⟨q.1,by obtain⟨n,hn⟩:=q.2;rw[hn];exact below_drewN (Below.refl _ _) n⟩)
theorem EX (h:Rst w0 w b bl W F R) (hR:Ok R) :
  Calls Tryz.prog 42 #[Zp (some ⟨b,0,O⟩)] w fun e w'=>e=Zr (.bool R.leads)∧Rst w0 w' b bl W F (R) :=
 h.get fun _ _ _ h1=>(wT h1 hR).mono (fun _ _ q=>⟨q.1,by obtain⟨n,hn⟩:=q.2;rw[hn];exact below_drewN (Below.refl _ _) n⟩)
theorem tT (h:Rst w0 w b bl W F R)  :
  Calls Tryz.prog 84 #[Zp (some ⟨b,0,O⟩)] w fun e w'=>e=Zr (.bool R.carries)∧Rst w0 w' b bl W F (R) :=
 h.get fun _ _ _ h1=>(xL h1).mono (fun _ _ q=>⟨q.1,by rw[q.2];exact Below.refl _ _⟩)
theorem pX (h:Rst w0 w b bl W F R) (hR:Ok R) :
  Calls Tryz.prog 77 #[Zp (some ⟨b,0,O⟩)] w fun e w'=>e=Zr (.bool R.closing)∧Rst w0 w' b bl W F (R) :=
 h.get fun _ _ _ h1=>(Bg h1 hR).mono (fun _ _ q=>⟨q.1,q.2⟩)
theorem fU (h:Rst w0 w b bl W F R) (hR:Ok R) (qt k:Int) (hk:0≤k∧k<128) (ho:R.out.length≤900000) :
  Calls Tryz.prog 91 #[Zp (some ⟨b,0,O⟩),I J qt,I .u8 k] w fun e w'=>e=Zr (.tuple #[])∧Rst w0 w' b bl W F (R.bare qt k) :=
 h.bind fun _ _ _ h1=>(Dp h1 hR qt k hk ho).mono (fun _ _ q=>⟨q.1,Snt.rst h1 q.2⟩)
theorem Dt (h:Rst w0 w b bl W F R) (hR:Ok R) (qt:Int) (ho:R.out.length≤900000) :
  Calls Tryz.prog 132 #[Zp (some ⟨b,0,O⟩),I J qt] w fun e w'=>e=Zr (.tuple #[])∧Rst w0 w' b bl W F (R.ack qt) :=
 h.bind fun _ _ _ h1=>(NA h1 hR qt ho).mono (fun _ _ q=>⟨q.1,Snt.rst h1 q.2⟩)
theorem rY (h:Rst w0 w b bl W F R) (hR:Ok R) (qt:Int) (ho:R.out.length≤900000) :
  Calls Tryz.prog 92 #[Zp (some ⟨b,0,O⟩),I J qt] w fun e w'=>e=Zr (.tuple #[])∧Rst w0 w' b bl W F (R.tell qt) :=
 h.bind fun _ _ _ h1=>(LJ h1 hR qt ho).mono (fun _ _ q=>⟨q.1,Snt.rst h1 q.2⟩)
theorem wW (h:Rst w0 w b bl W F R) (hR:Ok R) (qt:Int) (ho:R.out.length≤900000) :
  Calls Tryz.prog 138 #[Zp (some ⟨b,0,O⟩),I J qt] w fun e w'=>e=Zr (.tuple #[])∧Rst w0 w' b bl W F (R.kM qt) :=
 h.bind fun _ _ _ h1=>(uU h1 hR qt ho).mono (fun _ _ q=>⟨q.1,Snt.rst h1 q.2⟩)
theorem nX (h:Rst w0 w b bl W F R) (hR:Ok R) (ho:R.out.length≤800000) :
  Calls Tryz.prog 102 #[Zp (some ⟨b,0,O⟩)] w fun e w'=>e=Zr (.tuple #[])∧Rst w0 w' b bl W F (R.bS) :=
 h.bind fun _ _ _ h1=>(mW h1 hR ho).mono (fun _ _ q=>⟨q.1,Snt.rst h1 q.2⟩)
theorem Dx (h:Rst w0 w b bl W F R) (hR:Ok R) (ho:R.out.length≤800000) :
  Calls Tryz.prog 135 #[Zp (some ⟨b,0,O⟩)] w fun e w'=>e=Zr (.tuple #[])∧Rst w0 w' b bl W F (R.bH) :=
 h.bind fun _ _ _ h1=>(sS h1 hR ho).mono (fun _ _ q=>⟨q.1,Snt.rst h1 q.2⟩)
theorem Iw (h:Rst w0 w b bl W F R) (hR:Ok R) (ho:R.out.length≤800000) :
  Calls Tryz.prog 99 #[Zp (some ⟨b,0,O⟩)] w fun e w'=>e=Zr (.tuple #[])∧Rst w0 w' b bl W F (R.call) :=
 h.bind fun _ _ _ h1=>(LH h1 hR ho).mono (fun _ _ q=>⟨q.1,Snt.rst h1 q.2⟩)
theorem uX (h:Rst w0 w b bl W F R) (hR:Ok R) (p:Int) (hp:p≤1000) (hp0 : -1000≤p) (ho:R.out.length≤800000) :
  Calls Tryz.prog 78 #[Zp (some ⟨b,0,O⟩),I J p] w fun e w'=>e=Zr (.tuple #[])∧Rst w0 w' b bl W F (R.bF p) :=
 h.bind fun _ _ _ h1=>(Bh h1 hR p hp hp0 ho).mono (fun _ _ q=>⟨q.1,Snt.rst h1 q.2⟩)
theorem Ar (h:Rst w0 w b bl W F R) (c m:Int) (t:ByteArray) (hc:1≤c∧c≤9) (hm:0≤m∧m≤999) (ht:t.size≤1000) (ho:R.out.length≤1000000) :
  Calls Tryz.prog 46 #[Zp (some ⟨b,0,O⟩),I J c,I J m,Z t] w fun e w'=>e=Zr (.tuple #[])∧Rst w0 w' b bl W F (R.reply c m t) :=
 h.bind fun _ _ _ h1=>(Cj h1 c m t hc hm ht ho).mono (fun _ _ q=>⟨q.1,Snt.rst h1 q.2⟩)
theorem Ak (h:Rst w0 w b bl W F R) (v:Int) :
  Calls Tryz.prog 139 #[Zp (some ⟨b,0,O⟩),I J v] w fun e w'=>e=Zr (.tuple #[])∧Rst w0 w' b bl W F (R.begin_ v) :=
 h.bind fun _ _ _ h1=>(wN h1 v).mono (fun _ _ q=>⟨q.1,Rst.of q.2.1 (h1.kW q.2.2)⟩)
theorem lD (h:Rst w0 w b bl W F R) (hP:dM w0 W F P vl vg vo vL) (hl:nZ R.n P.log) :
  Calls Tryz.prog 131 #[Zp (some ⟨b,0,O⟩),vL] w fun e w'=>e=Zr (.tuple #[])∧Rst w0 w' b bl W F (R.over P.log) :=
 h.Oh hP fun _ _ _ h1 p1=>pU h1 vL P.log p1.log hl
theorem uW (h:Rst w0 w b bl W F R) (hP:dM w0 W F P vl vg vo vL) :
  Calls Tryz.prog 130 #[Zp (some ⟨b,0,O⟩),.agg (pmC P vl vg vo vL)] w fun e w'=>e=Zr (.tuple #[])∧Rst w0 w' b bl W F (R.enter P) :=
 h.Oh hP fun _ _ _ h1 p1=>(JR h1 P vl vg vo vL p1).mono (fun _ _ q=>⟨q.1,Rst.of q.2.1 (h1.kW q.2.2)⟩)
theorem iL (h:Rst w0 w b bl W F R) (hR:Ok R) (p:Int) (ho:R.out.length≤600000) :
  Calls Tryz.prog 133 #[Zp (some ⟨b,0,O⟩),I J p] w fun e w'=>e=Zr (.tuple #[])∧Rst w0 w' b bl W F (R.aT p) :=
 h.bind fun _ _ _ h1=>GV h1 hR p ho
end
section
variable {w w0:World} {b bl:Nat} {W F:List Nat} {R:Rp} {V:Rv} {P:Pm} {vl vg vo vL:Value}
theorem Sl.news {w w':World} (h:ay w b bl W F R V) (hb:Below w.heap.size w w') (vs:List Value) (hv:∀ v∈vs,∀ k,v.ownBlock=some k→w.heap.size≤k∧k<w'.heap.size) :
  ∃ F',ay w' b bl W F' R V∧(∀ v∈vs,Sl W F' v)∧Mv w W F W F':=by
 have hm:∀ x,x∈vs.flatMap (fun v=>v.ownBlock.toList)→w.heap.size≤x∧x<w'.heap.size:=fun x hx=>by
  obtain⟨v,h1,h2⟩:=List.mem_flatMap.1 hx
  exact hv v h1 x (by simpa using h2)
 have h1:=h.below hb;refine⟨vs.flatMap (fun v=>v.ownBlock.toList)++F,h1.more (fun x hx=>List.mem_append.2 (.inr hx)) (fun x hx=>?_) ?_,fun v q=>⟨fun k hk hc=>?_,fun k hk=>?_⟩,⟨fun x hx=>.inl hx,fun x hx=>List.mem_append.2 (.inr hx),fun x hx=>?_⟩⟩
 ·rcases List.mem_append.1 hx with q|q
  ·exact (hm x q).2
  ·exact h1.fl x q
 ·intro hc;rcases List.mem_append.1 hc with q|q
  ·have:=(hm 0 q).1;have:=h.lb;omega
  ·exact h.t0 q
 ·have:=(hv v q k hk).1;have:=h.wlt _ hc;omega
 ·exact List.mem_append.2 (.inl (List.mem_flatMap.2 ⟨v,q,by simpa using hk⟩))
 ·rcases List.mem_append.1 hx with q|q
  ·exact .inr (hm x q).1
  ·exact .inl q
theorem lZ {w':World} {base:Nat} {e:TypeId} {size:Nat} {v:Value} {n:Nat} {xs:List Value} (h:w'.ownsRow base e size v n xs):∀ k,v.ownBlock=some k→base≤k∧k<w'.heap.size:=fun k hk=>h.lt k hk
theorem pW (h:Rst w0 w b bl W F R) (hR:Ok R) (c:Int) (ho:R.out.length≤500000) :
  Calls Tryz.prog 136 #[Zp (some ⟨b,0,O⟩),I J c] w fun e w'=>e=Zr (.tuple #[])∧Rst w0 w' b bl W F (R.bZ c):=by
 have HS0:=ah h;clear h;have HE:Hid (R.bZ c=(if R.dG then R else R.ack R.iB).aT c):=rfl
 have HP:=ah (jr HS0.out hR);have HG:=ah (Rp.lH hR R.iB);cases hp:R.dG
 ·rw[hp] at HE HP;go_enter Tryz.func136,Tryz.ntmps136;go_wp2_with fail;refine (HP.out).mono ?_;rintro e w1 ⟨rfl,hs1⟩;have HS1:=ah hs1;clear hs1;go_wp2_with fail;refine (Am HS1.out hR).mono ?_;rintro e w2 ⟨rfl,hs2⟩;have HS2:=ah hs2;clear hs2;go_wp2_with fail;refine (Dt HS2.out hR R.iB (by omega)).mono ?_
  rintro e w3 ⟨rfl,hs3⟩;have HS3:=ah hs3;clear hs3;go_wp2_with fail;refine (iL HS3.out HG.out.ok c (by have:=HG.out.out;omega)).mono ?_
  rintro e w4 ⟨rfl,hs4⟩;have HS4:=ah hs4;clear hs4;go_wp2;exact bodyPost_end (results_none rfl _ _ _) rfl ⟨rfl,by rw[HE.out];exact HS4.out⟩
 ·rw[hp] at HE HP;go_enter Tryz.func136,Tryz.ntmps136;go_wp2_with fail;refine (HP.out).mono ?_;rintro e w1 ⟨rfl,hs1⟩;have HS1:=ah hs1;clear hs1;go_wp2_with fail;refine (iL HS1.out hR c (by omega)).mono ?_
  rintro e w2 ⟨rfl,hs2⟩;have HS2:=ah hs2;clear hs2;go_wp2;exact bodyPost_end (results_none rfl _ _ _) rfl ⟨rfl,by rw[HE.out];exact HS2.out⟩
theorem ER (h:ay w b bl W F R V) (hR:Ok R) :
  Calls Tryz.prog 165 #[Zp (some ⟨b,0,O⟩)] w fun e w'=>∃ vl vL,e=Zr (.agg (pmC R.dD vl (Y O 0 0) (Y O 0 0) vL))∧w'.ownsRow w.heap.size 3 1 vl R.lives.length (R.lives.map (Value.int .i64))∧w'.ownsRow w.heap.size 66 3 vL R.log.length (aA R.log)∧Below w.heap.size w w':=by
 obtain⟨cl,hvl⟩:=h.g2
 have hll:R.lives.length≤1000:=by have:=hR.ll;have:=hR.n7;omega
 have hlg:R.log.length≤1000:=by have:=hR.lg;omega
 have HH:Hid (∀ w',Below w.heap.size w w'→Calls Tryz.prog 123 #[Zp (some ⟨b,0,O⟩),I .u8 118] w' fun e w''=>e=Zr (.agg #[I .u8 118,I J R.id,Y (some ⟨bl,0,O⟩) R.lives.length cl,I J R.epoch,I J R.view,I J 0,I J 0,I J 0,Z ⟨#[]⟩,I J 0,I J 0,I J 0,Y O 0 0,Y O 0 0,Y O 0 0])∧Below w'.heap.size w' w''):=fun w' hb=>by
  have q:=lC (h.below hb) 118;rw[hvl] at q;exact q
 have HLi:Hid (∀ w',Below w.heap.size w w'→Calls Tryz.prog 175 #[Zp (some ⟨b,0,O⟩)] w' fun e w''=>∃ v,e=Zr v∧w''.ownsRow w'.heap.size 3 1 v R.lives.length (R.lives.map (Value.int .i64))∧Below w'.heap.size w' w''):=fun w' hb=>JN (h.below hb) hll
 have HLo:Hid (∀ w',Below w.heap.size w w'→Calls Tryz.prog 104 #[Zp (some ⟨b,0,O⟩)] w' fun e w''=>∃ v,e=Zr v∧w''.ownsRow w'.heap.size 66 3 v R.log.length (aA R.log)∧Below w'.heap.size w' w''):=fun w' hb=>uS (h.below hb) hlg
 have hz:dw (w.alloc (.cells #[I .u8 0,I J 0,Y O 0 0,I J 0,I J 0,I J 0,I J 0,I J 0,Z ⟨#[]⟩,I J 0,I J 0,I J 0,Y O 0 0,Y O 0 0,Y O 0 0] 68)) w.heap.size #[I .u8 0,I J 0,Y O 0 0,I J 0,I J 0,I J 0,I J 0,I J 0,Z ⟨#[]⟩,I J 0,I J 0,I J 0,Y O 0 0,Y O 0 0,Y O 0 0]:=⟨rfl,heap_alloc_new w _⟩
 have hbZ:Below w.heap.size w (w.alloc (.cells #[I .u8 0,I J 0,Y O 0 0,I J 0,I J 0,I J 0,I J 0,I J 0,Z ⟨#[]⟩,I J 0,I J 0,I J 0,Y O 0 0,Y O 0 0,Y O 0 0] 68)):=(Below.refl _ w).alloc (Nat.le_refl _) _
 go_enter Tryz.func165,Tryz.ntmps165;go_wp2_with fail;generalize w.alloc (.cells #[I .u8 0,I J 0,Y O 0 0,I J 0,I J 0,I J 0,I J 0,I J 0,Z ⟨#[]⟩,I J 0,I J 0,I J 0,Y O 0 0,Y O 0 0,Y O 0 0] 68)=wZ at *;refine (HH.out _ hbZ).mono ?_;rintro e w1 ⟨rfl,hb1⟩;have hb01:Below w.heap.size w w1:=hbZ.trans (hb1.mono hbZ.size)
 have hz1:dw w1 w.heap.size #[I .u8 0,I J 0,Y O 0 0,I J 0,I J 0,I J 0,I J 0,I J 0,Z ⟨#[]⟩,I J 0,I J 0,I J 0,Y O 0 0,Y O 0 0,Y O 0 0]:=hz.kp (S:=[]) (Kp.of_below hb1) (by simp)
 have hbA:Below w.heap.size w (w1.alloc (.cells #[I .u8 118,I J R.id,Y (some ⟨bl,0,O⟩) R.lives.length cl,I J R.epoch,I J R.view,I J 0,I J 0,I J 0,Z ⟨#[]⟩,I J 0,I J 0,I J 0,Y O 0 0,Y O 0 0,Y O 0 0] 68)):=hb01.alloc hb01.size _
 have hMA:dw (w1.alloc (.cells #[I .u8 118,I J R.id,Y (some ⟨bl,0,O⟩) R.lives.length cl,I J R.epoch,I J R.view,I J 0,I J 0,I J 0,Z ⟨#[]⟩,I J 0,I J 0,I J 0,Y O 0 0,Y O 0 0,Y O 0 0] 68)) w1.heap.size #[I .u8 118,I J R.id,Y (some ⟨bl,0,O⟩) R.lives.length cl,I J R.epoch,I J R.view,I J 0,I J 0,I J 0,Z ⟨#[]⟩,I J 0,I J 0,I J 0,Y O 0 0,Y O 0 0,Y O 0 0]:=⟨rfl,heap_alloc_new w1 _⟩
 have hzA:dw (w1.alloc (.cells #[I .u8 118,I J R.id,Y (some ⟨bl,0,O⟩) R.lives.length cl,I J R.epoch,I J R.view,I J 0,I J 0,I J 0,Z ⟨#[]⟩,I J 0,I J 0,I J 0,Y O 0 0,Y O 0 0,Y O 0 0] 68)) w.heap.size #[I .u8 0,I J 0,Y O 0 0,I J 0,I J 0,I J 0,I J 0,I J 0,Z ⟨#[]⟩,I J 0,I J 0,I J 0,Y O 0 0,Y O 0 0,Y O 0 0]:=hz1.kp (S:=[]) (Kp.of_below ((Below.refl _ w1).alloc (Nat.le_refl _) _)) (by simp)
 have hlz:=lt_of_block hz1.2;clear hz hbZ hb1 hz1;go_wp2_with fail;generalize w1.alloc (.cells #[I .u8 118,I J R.id,Y (some ⟨bl,0,O⟩) R.lives.length cl,I J R.epoch,I J R.view,I J 0,I J 0,I J 0,Z ⟨#[]⟩,I J 0,I J 0,I J 0,Y O 0 0,Y O 0 0,Y O 0 0] 68)=wA at *;refine (HLi.out _ hbA).mono ?_;rintro e w2 ⟨vli,rfl,hown2,hb2⟩;obtain⟨al,cl2,rfl⟩:=aj hown2
 have hb02:Below w.heap.size w w2:=hbA.trans (hb2.mono hbA.size)
 have hM2:dw w2 w1.heap.size #[I .u8 118,I J R.id,Y (some ⟨bl,0,O⟩) R.lives.length cl,I J R.epoch,I J R.view,I J 0,I J 0,I J 0,Z ⟨#[]⟩,I J 0,I J 0,I J 0,Y O 0 0,Y O 0 0,Y O 0 0]:=hMA.kp (S:=[]) (Kp.of_below hb2) (by simp)
 have hz2:dw w2 w.heap.size #[I .u8 0,I J 0,Y O 0 0,I J 0,I J 0,I J 0,I J 0,I J 0,Z ⟨#[]⟩,I J 0,I J 0,I J 0,Y O 0 0,Y O 0 0,Y O 0 0]:=hzA.kp (S:=[]) (Kp.of_below hb2) (by simp)
 have h2:=h.below hb02;have c6:=h2.c6;have c10:=h2.c10;have hlb:=h.lb;have hne:¬b=w1.heap.size:=by have:=hb01.size;omega
 have hne2:¬w1.heap.size=b:=by have:=hb01.size;omega
 have hgn:w.heap.size≤w1.heap.size:=hb01.size
 have kS:Kp [w1.heap.size] w2 (((w2.setCell ⟨w1.heap.size,2,O⟩ (Y al R.lives.length cl2)).setCell ⟨w1.heap.size,10,O⟩ (I J R.normal)).setCell ⟨w1.heap.size,9,O⟩ (I J (R.decided:Int))):=(((Kp.refl _ w2).set _ 2 _ (.inl (by simp))).set _ 10 _ (.inl (by simp))).set _ 9 _ (.inl (by simp))
 have hbS:Below w.heap.size w (((w2.setCell ⟨w1.heap.size,2,O⟩ (Y al R.lives.length cl2)).setCell ⟨w1.heap.size,10,O⟩ (I J R.normal)).setCell ⟨w1.heap.size,9,O⟩ (I J (R.decided:Int))):=Below.setCell (p:=⟨w1.heap.size,9,O⟩) (Below.setCell (p:=⟨w1.heap.size,10,O⟩) (Below.setCell (p:=⟨w1.heap.size,2,O⟩) hb02 hgn _) hgn _) hgn _
 have hMS:dw (((w2.setCell ⟨w1.heap.size,2,O⟩ (Y al R.lives.length cl2)).setCell ⟨w1.heap.size,10,O⟩ (I J R.normal)).setCell ⟨w1.heap.size,9,O⟩ (I J (R.decided:Int))) w1.heap.size #[I .u8 118,I J R.id,Y al R.lives.length cl2,I J R.epoch,I J R.view,I J 0,I J 0,I J 0,Z ⟨#[]⟩,I J (R.decided:Int),I J R.normal,I J 0,Y O 0 0,Y O 0 0,Y O 0 0]:=by
  have q:=((hM2.set 2 (Y al R.lives.length cl2)).set 10 (I J R.normal)).set 9 (I J (R.decided:Int))
  simpa using q
 have hzS:=hz2.kp kS (by simp;omega)
 have hownS:World.ownsRow _ w.heap.size 3 1 (Y al R.lives.length cl2) R.lives.length (R.lives.map (Value.int .i64)):=fq (eU hown2 hbA.size) kS (by
  intro k hk hc;simp at hc;subst hc;have:=(hown2.lt _ hk).1
  have:=lt_of_block hMA.2
  omega)
 obtain⟨x0,x1,x2,x3,x4,x5,x6,x7,x8,x9,x10,x11,x12,x13,x14,xf⟩:=hM2.all
 clear hown2 hM2 hz2 hMA hzA hb2 kS;go_wp2_with fail;generalize ((w2.setCell ⟨w1.heap.size,2,O⟩ (Y al R.lives.length cl2)).setCell ⟨w1.heap.size,10,O⟩ (I J R.normal)).setCell ⟨w1.heap.size,9,O⟩ (I J (R.decided:Int))=wS at *;clear x0 x1 x2 x3 x4 x5 x6 x7 x8 x9 x10 x11 x12 x13 x14 xf c6 c10;refine (HLo.out _ hbS).mono ?_;rintro e w3 ⟨vlo,rfl,hown3,hb3⟩;obtain⟨aL,cL,rfl⟩:=aj hown3
 have hM3:dw w3 w1.heap.size #[I .u8 118,I J R.id,Y al R.lives.length cl2,I J R.epoch,I J R.view,I J 0,I J 0,I J 0,Z ⟨#[]⟩,I J (R.decided:Int),I J R.normal,I J 0,Y O 0 0,Y O 0 0,Y O 0 0]:=hMS.kp (S:=[]) (Kp.of_below hb3) (by simp)
 have hz3:dw w3 w.heap.size #[I .u8 0,I J 0,Y O 0 0,I J 0,I J 0,I J 0,I J 0,I J 0,Z ⟨#[]⟩,I J 0,I J 0,I J 0,Y O 0 0,Y O 0 0,Y O 0 0]:=hzS.kp (S:=[]) (Kp.of_below hb3) (by simp)
 have hl1:=lt_of_block hMS.2;have k4:Kp [w1.heap.size] w3 (w3.setCell ⟨w1.heap.size,14,O⟩ (Y aL R.log.length cL)):=(Kp.refl _ w3).set _ 14 _ (.inl (by simp))
 have hz4:=hz3.kp k4 (by simp;omega)
 have hM4:dw (w3.setCell ⟨w1.heap.size,14,O⟩ (Y aL R.log.length cL)) w1.heap.size #[I .u8 118,I J R.id,Y al R.lives.length cl2,I J R.epoch,I J R.view,I J 0,I J 0,I J 0,Z ⟨#[]⟩,I J (R.decided:Int),I J R.normal,I J 0,Y O 0 0,Y O 0 0,Y aL R.log.length cL]:=by
  have q:=hM3.set 14 (Y aL R.log.length cL)
  simpa using q
 have hb4:Below w.heap.size w (w3.setCell ⟨w1.heap.size,14,O⟩ (Y aL R.log.length cL)):=Below.setCell (p:=⟨w1.heap.size,14,O⟩) (hbS.trans (hb3.mono hbS.size)) hgn _
 have hownI:=fq (ig hownS (Kp.of_below (S:=[]) hb3) (by simp)) k4 (by
  intro k hk hc;simp at hc;subst hc;have q:=hownS.2;rcases q with ⟨q,_⟩|⟨g,cap,cur,q,q1,q2,q3⟩
  ·rw[q] at hk;simp[Value.ownBlock] at hk
  ·rw[q] at hk;simp[Value.ownBlock] at hk;subst hk;rw[hMS.2] at q2;simp at q2)
 have hownL:=fq (eU hown3 hbS.size) k4 (by
  intro k hk hc;simp at hc;subst hc;have:=(hown3.lt _ hk).1
  omega)
 have HL:=ah (jQ hz4 (I .u8 118) (I J R.id) (Y al R.lives.length cl2) (I J R.epoch) (I J R.view) (I J 0) (I J 0) (I J 0) (Z ⟨#[]⟩) (I J (R.decided:Int)) (I J R.normal) (I J 0) (Y O 0 0) (Y O 0 0) (Y aL R.log.length cL));have HB:=ah (fH (Nat.le_refl w.heap.size) [I .u8 118,I J R.id,Y al R.lives.length cl2,I J R.epoch,I J R.view,I J 0,I J 0,I J 0,Z ⟨#[]⟩,I J (R.decided:Int),I J R.normal,I J 0,Y O 0 0,Y O 0 0,Y aL R.log.length cL] _ 0 hb4);have HK:=ah (nP (g:=w.heap.size) [I .u8 118,I J R.id,Y al R.lives.length cl2,I J R.epoch,I J R.view,I J 0,I J 0,I J 0,Z ⟨#[]⟩,I J (R.decided:Int),I J R.normal,I J 0,Y O 0 0,Y O 0 0,Y aL R.log.length cL] (w3.setCell ⟨w1.heap.size,14,O⟩ (Y aL R.log.length cL)) 0);rw[← kH] at HL HB HK;have HI:Hid (∀ w',Kp [w.heap.size] (w3.setCell ⟨w1.heap.size,14,O⟩ (Y aL R.log.length cL)) w'→w'.ownsRow w.heap.size 3 1 (Y al R.lives.length cl2) R.lives.length (R.lives.map (Value.int .i64))∧w'.ownsRow w.heap.size 66 3 (Y aL R.log.length cL) R.log.length (aA R.log)):=fun w' k=>⟨fq hownI k (Fr.iE hownI hz4.2 (by decide)),fq hownL k (Fr.iE hownL hz4.2 (by decide))⟩
 have HTh:=ah hz4.there;have HOne:Hid ((#[I .u8 118,I J R.id,Y al R.lives.length cl2,I J R.epoch,I J R.view,I J 0,I J 0,I J 0,Z ⟨#[]⟩,I J (R.decided:Int),I J R.normal,I J 0,Y O 0 0,Y O 0 0,Y aL R.log.length cL]:Array Value).all (·.oneCell')=true):=all_oneCell_toArray (cs:=[I .u8 118,I J R.id,Y al R.lives.length cl2,I J R.epoch,I J R.view,I J 0,I J 0,I J 0,Z ⟨#[]⟩,I J (R.decided:Int),I J R.normal,I J 0,Y O 0 0,Y O 0 0,Y aL R.log.length cL]) (by intro u hu;simp at hu;rcases hu with rfl|rfl|rfl|rfl|rfl|rfl|rfl|rfl|rfl|rfl|rfl|rfl|rfl|rfl|rfl <;> rfl)
 obtain⟨x0,x1,x2,x3,x4,x5,x6,x7,x8,x9,x10,x11,x12,x13,x14,xf⟩:=hM3.all
 obtain⟨y0,y1,y2,y3,y4,y5,y6,y7,y8,y9,y10,y11,y12,y13,y14,yf⟩:=hM4.all
 clear hownI hownL hz4 hz3 hM3 hM4 hzS hMS hownS hown3 hb3 k4 hb4;go_upto_region 6 with fail
 generalize w3.setCell ⟨w1.heap.size,14,O⟩ (Y aL R.log.length cL)=w4 at *;go_wp2_with (refine wpList_store_mid rfl 68 (.tmp 2) (.tmp 22) (by rfl) w.heap.size 0 #[I .u8 118,I J R.id,Y al R.lives.length cl2,I J R.epoch,I J R.view,I J 0,I J 0,I J 0,Z ⟨#[]⟩,I J (R.decided:Int),I J R.normal,I J 0,Y O 0 0,Y O 0 0,Y aL R.log.length cL] (by rfl) (by rfl) HTh.out Tryz.sizeMsg HOne.out ?_)
 go_wp2_with fail;refine bodyPost_ret (bI rfl _ _ _ rfl HL.out) rfl ?_;exact⟨_,_,rfl,(HI.out _ HK.out).1,(HI.out _ HK.out).2,HB.out⟩
end
end Go.Proofs.YtbnihoahhomooaaGreatDoor
