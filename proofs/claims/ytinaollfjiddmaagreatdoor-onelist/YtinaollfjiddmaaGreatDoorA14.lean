import Derived.Test.YtinaollfjiddmaaGreatDoorA12
import Derived.Test.YtinaollfjiddmaaGreatDoorA13
set_option maxRecDepth 100000
set_option maxHeartbeats 8000000
set_option linter.all false
namespace Go.Proofs.YtinaollfjiddmaaGreatDoor
open Go.Value renaming int→I,slice→Y,string→Z,pointer→Zp
open Go.Ending renaming returned→Zr
open _root_.ByteArray renaming empty→Ze
open Go.IntKind renaming i64→J
open Option renaming none→O
open Go.RowKit
section
variable {w w0:World} {b bl:Nat} {W F:List Nat} {R R2:Rp} {P:Pm} {vl vg vo vL:Value}
theorem Rst.drewN (h:Rst w0 w b bl W F R) (n:Nat):Rst w0 (w.drewN n) b bl W F R:=h.below (below_drewN (Below.refl _ _) n)
theorem Rst.drew (h:Rst w0 w b bl W F R):Rst w0 w.drew b bl W F R:=h.below (Below.refl _ _).drew
theorem Rst.bind {f:FuncId} {args:Array Value} {r:Value} (h:Rst w0 w b bl W F R) (hh:∀ W1 F1 V1,au w b bl W1 F1 R V1→Calls Tryz.prog f args w fun e w2=>e=Zr r∧Rst w w2 b bl W1 F1 R2) :
  Calls Tryz.prog f args w fun e w2=>e=Zr r∧Rst w0 w2 b bl W F R2:=by
 obtain⟨W1,F1,V1,h1,k1,m1⟩:=h
 exact (hh W1 F1 V1 h1).mono (fun e w2 q=>⟨q.1,Rst.step k1 m1 q.2⟩)
theorem Rst.get {f:FuncId} {args:Array Value} {r:Value} (h:Rst w0 w b bl W F R) (hh:∀ W1 F1 V1,au w b bl W1 F1 R V1→Calls Tryz.prog f args w fun e w2=>e=Zr r∧Below w.heap.size w w2) :
  Calls Tryz.prog f args w fun e w2=>e=Zr r∧Rst w0 w2 b bl W F R:=by
 obtain⟨W1,F1,V1,h1,k1,m1⟩:=h
 exact (hh W1 F1 V1 h1).mono (fun e w2 q=>⟨q.1,W1,F1,V1,h1.below q.2,k1.aS q.2,m1⟩)
theorem Rst.pm (h:Rst w0 w b bl W F R) (hP:dX w0 W F P vl vg vo vL):∃ W1 F1 V1,au w b bl W1 F1 R V1∧Kp W w0 w∧Mv w0 W F W1 F1∧dX w W1 F1 P vl vg vo vL:=by
 obtain⟨W1,F1,V1,h1,k1,m1⟩:=h
 exact⟨W1,F1,V1,h1,k1,m1,hP.mv k1 m1⟩
theorem Rst.msg (h:Rst w0 w b bl W F R) (hP:dX w0 W F P vl vg vo vL):∃ W1 F1 V1 al cl ag cg ao co aL cL,vl=Y al P.lives.length cl∧vg=Y ag P.grp.length cg∧vo=Y ao P.old.length co∧vL=Y aL P.log.length cL∧dD (w.alloc (.cells (pqC P al cl ag cg ao co aL cL) 68)) w.heap.size (pqC P al cl ag cg ao co aL cL)∧dX (w.alloc (.cells (pqC P al cl ag cg ao co aL cL) 68)) W1 F1 P vl vg vo vL∧w.heap.size∉W1∧au (w.alloc (.cells (pqC P al cl ag cg ao co aL cL) 68)) b bl W1 F1 R V1∧Hid (Rst (w.alloc (.cells (pqC P al cl ag cg ao co aL cL) 68)) (w.alloc (.cells (pqC P al cl ag cg ao co aL cL) 68)) b bl W1 F1 R)∧Hid (∀ w' R',Rst (w.alloc (.cells (pqC P al cl ag cg ao co aL cL) 68)) w' b bl W1 F1 R'→Rst w0 w' b bl W F R'):=by
 obtain⟨W1,F1,V1,c,k1,e,d⟩:=h.pm hP
 obtain⟨al,cl,ag,cg,ao,co,aL,cL,f,g,i,j⟩:=d.cells
 have a:Below w.heap.size w (w.alloc (.cells (pqC P al cl ag cg ao co aL cL) 68)):=(Below.refl _ w).alloc (Nat.le_refl _) _
 exact⟨W1,F1,V1,al,cl,ag,cg,ao,co,aL,cL,f,g,i,j,⟨rfl,heap_alloc_new w _⟩,d.below a,fun k=>by have:=c.wlt _ k;omega,c.below a,Rst.refl (c.below a),fun w' R' q=>Rst.step (k1.aS a) e q⟩
theorem Rst.Pn {f:FuncId} {args:Array Value} {r:Value} (h:Rst w0 w b bl W F R) (hP:dX w0 W F P vl vg vo vL) (hh:∀ W1 F1 V1,au w b bl W1 F1 R V1→dX w W1 F1 P vl vg vo vL→Calls Tryz.prog f args w fun e w2=>e=Zr r∧Rst w w2 b bl W1 F1 R2) :
  Calls Tryz.prog f args w fun e w2=>e=Zr r∧Rst w0 w2 b bl W F R2:=by
 obtain⟨W1,F1,V1,h1,k1,m1,hP1⟩:=h.pm hP
 exact (hh W1 F1 V1 h1 hP1).mono (fun e w2 q=>⟨q.1,Rst.step k1 m1 q.2⟩)
theorem Rst.kp (h:Rst w0 w b bl W F R):Kp W w0 w:=by obtain⟨_,_,_,_,k,_⟩:=h;exact k
theorem gB (h:Rst w0 w b bl W F R) (hR:Ok R) (x:Int) :
  Calls Tryz.prog 16 #[Zp (some ⟨b,0,O⟩),I J x] w fun e w'=>e=Zr (.bool (R.mem x))∧Rst w0 w' b bl W F (R) :=
 h.get fun _ _ _ h1=>(mK h1 hR x).mono (fun _ _ q=>⟨q.1,by rw[q.2];exact Below.refl _ _⟩)
theorem Ay (h:Rst w0 w b bl W F R) (hR:Ok R) :
  Calls Tryz.prog 120 #[Zp (some ⟨b,0,O⟩)] w fun e w'=>e=Zr (I J R.gZ)∧Rst w0 w' b bl W F (R) :=
 h.get fun _ _ _ a=>(jf a hR).mono (fun _ _ q=>⟨q.1,by obtain⟨n,c⟩:=q.2;rw[c];exact below_drewN (Below.refl _ _) n⟩)
theorem jK (h:Rst w0 w b bl W F R) (hR:Ok R) :
  Calls Tryz.prog 72 #[Zp (some ⟨b,0,O⟩)] w fun e w'=>e=Zr (.bool R.dG)∧Rst w0 w' b bl W F (R) :=
 h.get fun _ _ _ a=>(jR a hR).mono (fun _ _ q=>⟨q.1,by obtain⟨n,c⟩:=q.2;rw[c];exact below_drewN (Below.refl _ _) n⟩)
theorem Fz (h:Rst w0 w b bl W F R) (hR:Ok R) :
  Calls Tryz.prog 41 #[Zp (some ⟨b,0,O⟩)] w fun e w'=>e=Zr (.bool R.leads)∧Rst w0 w' b bl W F (R) :=
 h.get fun _ _ _ a=>(xM a hR).mono (fun _ _ q=>⟨q.1,by obtain⟨n,c⟩:=q.2;rw[c];exact below_drewN (Below.refl _ _) n⟩)
theorem uG (h:Rst w0 w b bl W F R)  :
  Calls Tryz.prog 83 #[Zp (some ⟨b,0,O⟩)] w fun e w'=>e=Zr (.bool R.carries)∧Rst w0 w' b bl W F (R) :=
 h.get fun _ _ _ h1=>(yt h1).mono (fun _ _ q=>⟨q.1,by rw[q.2];exact Below.refl _ _⟩)
theorem qx (h:Rst w0 w b bl W F R) (hR:Ok R) :
  Calls Tryz.prog 76 #[Zp (some ⟨b,0,O⟩)] w fun e w'=>e=Zr (.bool R.closing)∧Rst w0 w' b bl W F (R) :=
 h.get fun _ _ _ h1=>(Bt h1 hR).mono (fun _ _ q=>⟨q.1,q.2⟩)
theorem gD (h:Rst w0 w b bl W F R) (hR:Ok R) (qt k:Int) (hk:0≤k∧k<128) (ho:R.out.length≤900000) :
  Calls Tryz.prog 90 #[Zp (some ⟨b,0,O⟩),I J qt,I .u8 k] w fun e w'=>e=Zr (.tuple #[])∧Rst w0 w' b bl W F (R.bare qt k) :=
 h.bind fun _ _ _ h1=>(DI h1 hR qt k hk ho).mono (fun _ _ q=>⟨q.1,Snt.rst h1 q.2⟩)
theorem DN (h:Rst w0 w b bl W F R) (hR:Ok R) (qt:Int) (ho:R.out.length≤900000) :
  Calls Tryz.prog 131 #[Zp (some ⟨b,0,O⟩),I J qt] w fun e w'=>e=Zr (.tuple #[])∧Rst w0 w' b bl W F (R.ack qt) :=
 h.bind fun _ _ _ h1=>(OG h1 hR qt ho).mono (fun _ _ q=>⟨q.1,Snt.rst h1 q.2⟩)
theorem sN (h:Rst w0 w b bl W F R) (hR:Ok R) (qt:Int) (ho:R.out.length≤900000) :
  Calls Tryz.prog 91 #[Zp (some ⟨b,0,O⟩),I J qt] w fun e w'=>e=Zr (.tuple #[])∧Rst w0 w' b bl W F (R.tell qt) :=
 h.bind fun _ _ _ h1=>(MH h1 hR qt ho).mono (fun _ _ q=>⟨q.1,Snt.rst h1 q.2⟩)
theorem xQ (h:Rst w0 w b bl W F R) (hR:Ok R) (qt:Int) (ho:R.out.length≤900000) :
  Calls Tryz.prog 137 #[Zp (some ⟨b,0,O⟩),I J qt] w fun e w'=>e=Zr (.tuple #[])∧Rst w0 w' b bl W F (R.jL qt) :=
 h.bind fun _ _ _ h1=>(vT h1 hR qt ho).mono (fun _ _ q=>⟨q.1,Snt.rst h1 q.2⟩)
theorem oJ (h:Rst w0 w b bl W F R) (hR:Ok R) (ho:R.out.length≤800000) :
  Calls Tryz.prog 101 #[Zp (some ⟨b,0,O⟩)] w fun e w'=>e=Zr (.tuple #[])∧Rst w0 w' b bl W F (R.bF) :=
 h.bind fun _ _ _ h1=>(nJ h1 hR ho).mono (fun _ _ q=>⟨q.1,Snt.rst h1 q.2⟩)
theorem DV (h:Rst w0 w b bl W F R) (hR:Ok R) (ho:R.out.length≤800000) :
  Calls Tryz.prog 134 #[Zp (some ⟨b,0,O⟩)] w fun e w'=>e=Zr (.tuple #[])∧Rst w0 w' b bl W F (R.dz) :=
 h.bind fun _ _ _ h1=>(tN h1 hR ho).mono (fun _ _ q=>⟨q.1,Snt.rst h1 q.2⟩)
theorem Jb (h:Rst w0 w b bl W F R) (hR:Ok R) (ho:R.out.length≤800000) :
  Calls Tryz.prog 98 #[Zp (some ⟨b,0,O⟩)] w fun e w'=>e=Zr (.tuple #[])∧Rst w0 w' b bl W F (R.call) :=
 h.bind fun _ _ _ h1=>(MG h1 hR ho).mono (fun _ _ q=>⟨q.1,Snt.rst h1 q.2⟩)
theorem vV (h:Rst w0 w b bl W F R) (hR:Ok R) (p:Int) (hp:p≤1000) (hp0 : -1000≤p) (ho:R.out.length≤800000) :
  Calls Tryz.prog 77 #[Zp (some ⟨b,0,O⟩),I J p] w fun e w'=>e=Zr (.tuple #[])∧Rst w0 w' b bl W F (R.aQ p) :=
 h.bind fun _ _ _ h1=>(Bu h1 hR p hp hp0 ho).mono (fun _ _ q=>⟨q.1,Snt.rst h1 q.2⟩)
theorem AA (h:Rst w0 w b bl W F R) (c m:Int) (t:ByteArray) (hc:1≤c∧c≤9) (hm:0≤m∧m≤999) (ht:t.size≤1000) (ho:R.out.length≤1000000) :
  Calls Tryz.prog 45 #[Zp (some ⟨b,0,O⟩),I J c,I J m,Z t] w fun e w'=>e=Zr (.tuple #[])∧Rst w0 w' b bl W F (R.reply c m t) :=
 h.bind fun _ _ _ h1=>(Cw h1 c m t hc hm ht ho).mono (fun _ _ q=>⟨q.1,Snt.rst h1 q.2⟩)
theorem Aw (h:Rst w0 w b bl W F R) (v:Int) :
  Calls Tryz.prog 138 #[Zp (some ⟨b,0,O⟩),I J v] w fun e w'=>e=Zr (.tuple #[])∧Rst w0 w' b bl W F (R.begin_ v) :=
 h.bind fun _ _ _ h1=>(xK h1 v).mono (fun _ _ q=>⟨q.1,Rst.of q.2.1 (h1.kW q.2.2)⟩)
theorem lZ (h:Rst w0 w b bl W F R) (hP:dX w0 W F P vl vg vo vL) (hl:oD R.n P.log) :
  Calls Tryz.prog 130 #[Zp (some ⟨b,0,O⟩),vL] w fun e w'=>e=Zr (.tuple #[])∧Rst w0 w' b bl W F (R.over P.log) :=
 h.Pn hP fun _ _ _ h1 p1=>qo h1 vL P.log p1.log hl
theorem vU (h:Rst w0 w b bl W F R) (hP:dX w0 W F P vl vg vo vL) :
  Calls Tryz.prog 129 #[Zp (some ⟨b,0,O⟩),.agg (pmC P vl vg vo vL)] w fun e w'=>e=Zr (.tuple #[])∧Rst w0 w' b bl W F (R.enter P) :=
 h.Pn hP fun _ _ _ h1 p1=>(Km h1 P vl vg vo vL p1).mono (fun _ _ q=>⟨q.1,Rst.of q.2.1 (h1.kW q.2.2)⟩)
theorem iX (h:Rst w0 w b bl W F R) (hR:Ok R) (p:Int) (ho:R.out.length≤600000) :
  Calls Tryz.prog 132 #[Zp (some ⟨b,0,O⟩),I J p] w fun e w'=>e=Zr (.tuple #[])∧Rst w0 w' b bl W F (R.aV p) :=
 h.bind fun _ _ _ h1=>Ia h1 hR p ho
end
structure Rw where
 t:TypeId
 sz:Nat
 v:Value
 n:Nat
 xs:List Value
def nO (u:World) (base:Nat) (Rs:List Rw):Prop:=∀ r∈Rs,u.ownsRow base r.t r.sz r.v r.n r.xs
theorem nO.kp {u u':World} {base:Nat} {Rs:List Rw} {S:List Nat} (h:nO u base Rs) (k:Kp S u u') (hS:∀ x∈S,x<base):nO u' base Rs:=fun r hr=>iJ (h r hr) k hS
theorem nO.cons {u:World} {base:Nat} {Rs:List Rw} {t:TypeId} {sz:Nat} {v:Value} {n:Nat} {xs:List Value} (h:nO u base Rs) (k:u.ownsRow base t sz v n xs):nO u base (⟨t,sz,v,n,xs⟩ :: Rs):=fun r hr=>by
 rcases List.mem_cons.1 hr with rfl|hr
 ·exact k
 ·exact h r hr
theorem nO.nil {u:World} {base:Nat}:nO u base []:=fun r hr=>by cases hr
def MO (w w':World) (br:Nat) (vw:Value) (ws:List ByteArray) (nx:Nat) (n:Int) (wr:Bool) (c:Array Value) (Rs:List Rw):Prop:=MS w w' br vw ws nx n wr c∧nO w' (w.heap.size+2) Rs∧w.heap.size+2≤w'.heap.size
section
variable {w w1 w2:World} {br:Nat} {vw:Value} {ws:List ByteArray} {nx nx':Nat} {n:Int} {wr wr':Bool} {c:Array Value} {Rs:List Rw}
theorem MO.start (h:bf w br vw ws nx n wr) (k:Int):MO w ((w.alloc (.cells (jc 0) 68)).alloc (.cells (jc k) 68)) br vw ws nx n wr (jc k) [] :=
 ⟨MS.start h k,nO.nil,by simp⟩
theorem MO.call (h:MO w w1 br vw ws nx n wr c Rs) (k:bG w1 w2 br vw ws nx' n wr'):MO w w2 br vw ws nx' n wr' c Rs :=
 ⟨h.1.call k,h.2.1.kp k.2 (fun x hx=>by simp at hx;subst hx;have:=h.1.blt;omega),Nat.le_trans h.2.2 k.2.size⟩
theorem MO.own (h:MO w w1 br vw ws nx n wr c Rs) (k:bG w1 w2 br vw ws nx' n wr') {t:TypeId} {sz:Nat} {v:Value} {m:Nat} {xs:List Value} (q:w2.ownsRow w1.heap.size t sz v m xs):MO w w2 br vw ws nx' n wr' c (⟨t,sz,v,m,xs⟩ :: Rs) :=
 ⟨(h.call k).1,(h.call k).2.1.cons (fB q h.2.2),(h.call k).2.2⟩
theorem MO.put (h:MO w w1 br vw ws nx n wr c Rs) (j:Nat) (v:Value):MO w (w1.setCell ⟨w.heap.size+1,j,O⟩ v) br vw ws nx n wr (c.setIfInBounds j v) Rs :=
 ⟨h.1.put j v,h.2.1.kp ((Kp.refl [w.heap.size+1] w1).set _ j v (.inl (by simp))) (fun x a=>by simp at a;omega),by have:=((Kp.refl [w.heap.size+1] w1).set (w.heap.size+1) j v (.inl (by simp))).size;have:=h.2.2;omega⟩
theorem MO.big {c':Array Value} (h:MO w w1 br vw ws nx n wr c Rs) (hR:bf w2 br vw ws nx' n wr') (hm:dD w2 (w.heap.size+1) c') (k:Kp [br,w.heap.size+1] w1 w2):MO w w2 br vw ws nx' n wr' c' Rs :=
 ⟨⟨hR,hm,h.1.zero.kp k (by have:=h.1.blt;simp;omega),h.1.kp.trans k (fun x a b=>by simp at a;rcases a with rfl|rfl <;> first|omega|simp),h.1.lt,h.1.blt⟩,h.2.1.kp k (fun x a=>by have:=h.1.blt;simp at a;omega),Nat.le_trans h.2.2 k.size⟩
theorem MO.add (h:MO w w1 br vw ws nx n wr c Rs) {t:TypeId} {sz:Nat} {v:Value} {m:Nat} {xs:List Value} {b:Nat} (hb:w.heap.size+2≤b) (q:w1.ownsRow b t sz v m xs):MO w w1 br vw ws nx n wr c (⟨t,sz,v,m,xs⟩ :: Rs) :=
 ⟨h.1,h.2.1.cons (fB q hb),h.2.2⟩
theorem MO.wrong (h:MO w w1 br vw ws nx n wr c Rs) (x:Bool):MO w (w1.setCell ⟨br,3,O⟩ (.bool x)) br vw ws nx n x c Rs :=
 h.call ⟨h.1.rdr.rQ x,(Kp.refl [br] w1).set br 3 _ (.inl (by simp))⟩
variable {a0 a1 a2 a3 a4 a5 a6 a7 a8 a9 a10 a11 a12 a13 a14:Value}
theorem MO.fin (h:MO w w1 br vw ws nx n wr #[a0,a1,a2,a3,a4,a5,a6,a7,a8,a9,a10,a11,a12,a13,a14] Rs):bG w (jD w1 w.heap.size 0 [a0,a1,a2,a3,a4,a5,a6,a7,a8,a9,a10,a11,a12,a13,a14]) br vw ws nx n wr∧(loadVar 68 ⟨w.heap.size,0,O⟩).run Tryz.prog (jD w1 w.heap.size 0 [a0,a1,a2,a3,a4,a5,a6,a7,a8,a9,a10,a11,a12,a13,a14])=.ok (.agg #[a0,a1,a2,a3,a4,a5,a6,a7,a8,a9,a10,a11,a12,a13,a14]) (jD w1 w.heap.size 0 [a0,a1,a2,a3,a4,a5,a6,a7,a8,a9,a10,a11,a12,a13,a14])∧nO (jD w1 w.heap.size 0 [a0,a1,a2,a3,a4,a5,a6,a7,a8,a9,a10,a11,a12,a13,a14]) (w.heap.size+2) Rs :=
 ⟨h.1.fin.1,h.1.fin.2,h.2.1.kp (oh _ _ _) (fun x hx=>by simp at hx;omega)⟩
end
def rU (w w':World) (br:Nat) (vw:Value) (ws:List ByteArray) (n k v1:Int) (v2:List Int) (v3 v4:Int) (nx4:Nat) (wr4:Bool) (e:Ending):Prop :=
 (k=112→∃ vl,e=Zr (.agg #[I .u8 112,I J v1,vl,I J v3,I J v4,I J (aJ (wrd ws nx4) 1 10),I J (iB (wrd ws (nxt ws nx4)) n).1,I J (iB (wrd ws (nxt ws nx4)) n).2.1,Z (iB (wrd ws (nxt ws nx4)) n).2.2,I J (aJ (wrd ws (nxt ws (nxt ws nx4))) 0 10),I J 0,I J 0,Y O 0 0,Y O 0 0,Y O 0 0])∧nO w' (w.heap.size+2) [⟨3,1,vl,(v2).length,(v2).map (Value.int .i64)⟩]∧bG w w' br vw ws (nxt ws (nxt ws (nxt ws nx4))) n (((wr4||!ay (wrd ws nx4).data.toList 1 10)||!eX (wrd ws (nxt ws nx4)) n)||!ay (wrd ws (nxt ws (nxt ws nx4))).data.toList 0 10)) ∧
 (k=107→∃ vl,e=Zr (.agg #[I .u8 107,I J v1,vl,I J v3,I J v4,I J (aJ (wrd ws nx4) 0 10),I J 0,I J 0,Z ⟨#[]⟩,I J 0,I J 0,I J 0,Y O 0 0,Y O 0 0,Y O 0 0])∧nO w' (w.heap.size+2) [⟨3,1,vl,(v2).length,(v2).map (Value.int .i64)⟩]∧bG w w' br vw ws (nxt ws nx4) n (wr4||!ay (wrd ws nx4).data.toList 0 10)) ∧
 (k=99→∃ vl,e=Zr (.agg #[I .u8 99,I J v1,vl,I J v3,I J v4,I J 0,I J 0,I J 0,Z ⟨#[]⟩,I J (aJ (wrd ws nx4) 0 10),I J 0,I J 0,Y O 0 0,Y O 0 0,Y O 0 0])∧nO w' (w.heap.size+2) [⟨3,1,vl,(v2).length,(v2).map (Value.int .i64)⟩]∧bG w w' br vw ws (nxt ws nx4) n (wr4||!ay (wrd ws nx4).data.toList 0 10)) ∧
 (k=104→∃ vl,e=Zr (.agg #[I .u8 104,I J v1,vl,I J v3,I J v4,I J 0,I J 0,I J 0,Z ⟨#[]⟩,I J 0,I J 0,I J 0,Y O 0 0,Y O 0 0,Y O 0 0])∧nO w' (w.heap.size+2) [⟨3,1,vl,(v2).length,(v2).map (Value.int .i64)⟩]∧bG w w' br vw ws nx4 n wr4) ∧
 (k=103→∃ vl,e=Zr (.agg #[I .u8 103,I J v1,vl,I J v3,I J v4,I J 0,I J 0,I J 0,Z ⟨#[]⟩,I J 0,I J 0,I J 0,Y O 0 0,Y O 0 0,Y O 0 0])∧nO w' (w.heap.size+2) [⟨3,1,vl,(v2).length,(v2).map (Value.int .i64)⟩]∧bG w w' br vw ws nx4 n wr4) ∧
 (k=114→∃ vl,e=Zr (.agg #[I .u8 114,I J v1,vl,I J v3,I J v4,I J 0,I J 0,I J 0,Z ⟨#[]⟩,I J 0,I J 0,I J 0,Y O 0 0,Y O 0 0,Y O 0 0])∧nO w' (w.heap.size+2) [⟨3,1,vl,(v2).length,(v2).map (Value.int .i64)⟩]∧bG w w' br vw ws nx4 n wr4) ∧
 (k=116→∃ vl,e=Zr (.agg #[I .u8 116,I J v1,vl,I J v3,I J v4,I J 0,I J 0,I J 0,Z ⟨#[]⟩,I J 0,I J 0,I J 0,Y O 0 0,Y O 0 0,Y O 0 0])∧nO w' (w.heap.size+2) [⟨3,1,vl,(v2).length,(v2).map (Value.int .i64)⟩]∧bG w w' br vw ws nx4 n wr4) ∧
 (k=118→∃ vl vL,e=Zr (.agg #[I .u8 118,I J v1,vl,I J v3,I J v4,I J 0,I J 0,I J 0,Z ⟨#[]⟩,I J (aJ (wrd ws (nxt ws nx4)) 0 10),I J (aJ (wrd ws nx4) 0 999),I J 0,Y O 0 0,Y O 0 0,vL])∧nO w' (w.heap.size+2) [⟨66,3,vL,(kg (wrd ws (nxt ws (nxt ws nx4))) n).length,aA (kg (wrd ws (nxt ws (nxt ws nx4))) n)⟩,⟨3,1,vl,(v2).length,(v2).map (Value.int .i64)⟩]∧bG w w' br vw ws (nxt ws (nxt ws (nxt ws nx4))) n (((wr4||!ay (wrd ws nx4).data.toList 0 999)||!ay (wrd ws (nxt ws nx4)).data.toList 0 10)||!fE (wrd ws (nxt ws (nxt ws nx4))) n||decide (((kg (wrd ws (nxt ws (nxt ws nx4))) n).length:Int)<aJ (wrd ws (nxt ws nx4)) 0 10))) ∧
 (k=115→∃ vl vg vo vL,e=Zr (.agg #[I .u8 115,I J v1,vl,I J v3,I J v4,I J 0,I J 0,I J 0,Z ⟨#[]⟩,I J (aJ (wrd ws (nxt ws (nxt ws nx4))) 0 10),I J 0,I J 0,vg,vo,vL])∧nO w' (w.heap.size+2) [⟨66,3,vL,(kg (wrd ws (nxt ws (nxt ws (nxt ws nx4)))) n).length,aA (kg (wrd ws (nxt ws (nxt ws (nxt ws nx4)))) n)⟩,⟨3,1,vg,(gJ (wrd ws nx4) n).length,(gJ (wrd ws nx4) n).map (Value.int .i64)⟩,⟨3,1,vo,(rA (wrd ws (nxt ws nx4)) n).length,(rA (wrd ws (nxt ws nx4)) n).map (Value.int .i64)⟩,⟨3,1,vl,(v2).length,(v2).map (Value.int .i64)⟩]∧bG w w' br vw ws (nxt ws (nxt ws (nxt ws (nxt ws nx4)))) n ((((wr4||!bK (wrd ws nx4).data.toList n)||!jA (wrd ws (nxt ws nx4)) n)||!ay (wrd ws (nxt ws (nxt ws nx4))).data.toList 0 10)||!fE (wrd ws (nxt ws (nxt ws (nxt ws nx4)))) n||decide (((kg (wrd ws (nxt ws (nxt ws (nxt ws nx4)))) n).length:Int)<aJ (wrd ws (nxt ws (nxt ws nx4))) 0 10))) ∧
 (k=97→∃ vl vg vo vL,e=Zr (.agg #[I .u8 97,I J v1,vl,I J v3,I J v4,I J 0,I J 0,I J 0,Z ⟨#[]⟩,I J (aJ (wrd ws (nxt ws (nxt ws (nxt ws nx4)))) 0 10),I J 0,I J (aJ (wrd ws nx4) 1 999),vg,vo,vL])∧nO w' (w.heap.size+2) [⟨66,3,vL,(kg (wrd ws (nxt ws (nxt ws (nxt ws (nxt ws nx4))))) n).length,aA (kg (wrd ws (nxt ws (nxt ws (nxt ws (nxt ws nx4))))) n)⟩,⟨3,1,vg,(gJ (wrd ws (nxt ws nx4)) n).length,(gJ (wrd ws (nxt ws nx4)) n).map (Value.int .i64)⟩,⟨3,1,vo,(rA (wrd ws (nxt ws (nxt ws nx4))) n).length,(rA (wrd ws (nxt ws (nxt ws nx4))) n).map (Value.int .i64)⟩,⟨3,1,vl,(v2).length,(v2).map (Value.int .i64)⟩]∧bG w w' br vw ws (nxt ws (nxt ws (nxt ws (nxt ws (nxt ws nx4))))) n (((((wr4||!ay (wrd ws nx4).data.toList 1 999)||!bK (wrd ws (nxt ws nx4)).data.toList n)||!jA (wrd ws (nxt ws (nxt ws nx4))) n)||!ay (wrd ws (nxt ws (nxt ws (nxt ws nx4)))).data.toList 0 10)||!fE (wrd ws (nxt ws (nxt ws (nxt ws (nxt ws nx4))))) n||decide (((kg (wrd ws (nxt ws (nxt ws (nxt ws (nxt ws nx4))))) n).length:Int)<aJ (wrd ws (nxt ws (nxt ws (nxt ws nx4)))) 0 10))) ∧
 (¬k=112→¬k=107→¬k=99→¬k=104→¬k=103→¬k=114→¬k=116→¬k=118→¬k=115→¬k=97→∃ vl,e=Zr (.agg #[I .u8 k,I J v1,vl,I J v3,I J v4,I J 0,I J 0,I J 0,Z ⟨#[]⟩,I J 0,I J 0,I J 0,Y O 0 0,Y O 0 0,Y O 0 0])∧nO w' (w.heap.size+2) [⟨3,1,vl,(v2).length,(v2).map (Value.int .i64)⟩]∧bG w w' br vw ws nx4 n true)
theorem Mc:∀ {l g:List Int},l.Nodup→(∀ x∈l,x∈g)→l.length≤g.length
 | [],_,_,_=>Nat.zero_le _
 | a :: l,g,hn,hs=>by
  have ha:=hs a (by simp)
  have b:=List.nodup_cons.1 hn;have:=Mc (l:=l) (g:=g.erase a) b.2 (fun x c=>(List.mem_erase_of_ne (fun e=>b.1 (by rw[← e];exact c))).2 (hs x (by simp[c])))
  rw[List.length_erase_of_mem ha] at this;have:=List.length_pos_of_mem ha
  simp only[List.length_cons];omega
theorem Oi {l m g:List Int} (hl:l.Nodup) (hm:m.Nodup) (sl:∀ x∈l,x∈g) (sm:∀ x∈m,x∈g) (hb:g.length<l.length+m.length):∃ x∈l,x∈m:=by
 apply Classical.byContradiction
 intro h;have:(l++m).Nodup:=List.nodup_append.2 ⟨hl,hm,fun a c b hb e=>h ⟨a,c,by rw[e];exact hb⟩⟩
 have:=Mc this (fun x d=>(List.mem_append.1 d).elim (sl x) (sm x))
 rw[List.length_append] at this;omega
structure Sn where
 id:Int
 lv:List Int
 st:Int
 ep:Int
 vw:Int
 nv:Int
 log:List En
def lf (s:Sn) (q:Int):Int:=s.lv.getD q.toNat 0
def life (s:Sn):Int:=lf s s.id
def gV (s:Sn):Prop:=s.st=1∨s.st=2
def Lq (a b:Sn):Prop:=(∀ q,lf a q≤lf b q)∧(a.ep<b.ep∨(a.ep=b.ep∧a.vw≤b.vw))
theorem Lq.refl (a:Sn):Lq a a:=⟨fun _=>Int.le_refl _,.inr ⟨rfl,Int.le_refl _⟩⟩
theorem Lq.trans {a b c:Sn} (h:Lq a b) (k:Lq b c):Lq a c:=⟨fun q=>Int.le_trans (h.1 q) (k.1 q),by have:=h.2;have:=k.2;omega⟩
structure Inc (a b:Sn):Prop where
 lq:Lq a b
 n:gV a→a.ep=b.ep→gV b∧a.nv≤b.nv∧(a.nv=b.nv→a.log <+: b.log)
 o:a.st=4∨a.st=5→a.ep=b.ep→b.st=4∨b.st=5
 st:a.st≠3→b.st≠3
def Bs (e:Int) (l:List En):Prop:=(regs l:Int)=e∧∀ k,k<l.length→(regs (l.take k):Int)<e
def So (l:List En):Prop:=l.Pairwise (fun a b=>a.1=b.1→a.2.1<b.2.1)
structure Qr (h:Nat→Sn) (gr:List Int) (e:Int) (t:Nat) (Q:List Nat):Prop where
 lt:∀ i∈Q,i<t
 ep:∀ i∈Q,(h i).ep=e
 st:∀ i∈Q,gV (h i)
 me:∀ i∈Q,(h i).id∈gr
 nd:(Q.map (fun i=>(h i).id)).Nodup
 big:eP gr<Q.length
 odd:gr.length % 2=1
 cc:∀ i∈Q,∀ j∈Q,lf (h i) (h j).id≤life (h j)
structure Rc (h:Nat→Sn) (g:Int→List Int) (j:Nat) (E V:Int) (Q:List Nat) (p:Nat):Prop where
 q:Qr h (g E) E j Q
 n1:∀ i∈Q,(h i).st=1
 kn:∀ i∈Q,life (h j)≤lf (h i) (h j).id
 ne:∀ i∈Q,(h i).id≠(h j).id
 le:∀ i∈Q,Lq (h i) (h j)
 mx:∀ i∈Q,(h i).vw≤V
 pin:p∈Q
 pv:(h p).vw=V
 pi:(h p).id=fJ (g E) V
 rg:(regs (h p).log:Int)≤E
 lv:(h j).ep=E→gV (h j)→V≤(h j).nv∧((h j).nv=V→(h p).log <+: (h j).log)
structure Ct (h:Nat→Sn) (g:Int→List Int) (t:Nat) (e v:Int) (L:List En) (A:List Nat) (p:Nat):Prop where
 q:Qr h (g e) e t A
 n1:∀ a∈A,(h a).st=1
 vw:∀ a∈A,(h a).vw=v
 lg:∀ a∈A,L <+: (h a).log
 pin:p∈A
 pi:(h p).id=fJ (g e) v
structure Es (h:Nat→Sn) (g:Int→List Int) (j i0:Nat) (e v:Int) (B:List Nat) (b:Nat):Prop where
 le:i0≤j
 id:(h i0).id=fJ (g e) v
 ep:(h i0).ep=e
 st:(h i0).st=1
 vw:(h i0).vw=v
 lg:(h i0).log <+: (h j).log
 q:Qr h (g e) e i0 B
 bv:∀ i∈B,(h i).vw=v
 bin:b∈B
 bl:(h b).log=(h i0).log
 mx:∀ i∈B,(h i).nv≤(h b).nv∧((h i).nv=(h b).nv→(h i).log.length≤(h b).log.length)
 lt:(h b).nv<v
structure HX (h:Nat→Sn) (T:Nat) (g:Int→List Int):Prop where
 inc':∀ i j,i≤j→j<T→(h i).id=(h j).id→life (h i)=life (h j)→Inc (h i) (h j)
 rt:∀ i j,i<T→j<T→life (h i)<lf (h j) (h i).id→i<j
 rcv:∀ j,j<T→(h j).st≠3→0<life (h j)→∃ E V Q p,Rc h g j E V Q p
 est:∀ j,j<T→gV (h j)→0<(h j).nv→∃ i0 B b,Es h g j i0 (h j).ep (h j).nv B b
 mst:∀ j,j<T→gV (h j)→(∃ i,i≤j∧(h i).st=1∧(h i).ep=(h j).ep∧(h i).vw=(h j).nv∧(h i).id=fJ (g (h j).ep) (h j).nv∧(h j).log <+: (h i).log)∨((h j).nv=0∧Bs (h j).ep (h j).log)
 bas:∀ j,j<T→gV (h j)→∀ E,0≤E→E<(h j).ep→∃ v L A p,Ct h g j E v L A p∧Bs (E+1) L∧L <+: (h j).log
 clo:∀ j,j<T→gV (h j)→∀ k,k<(h j).log.length→(regs ((h j).log.take k):Int)≤(h j).ep
 nvw:∀ j,j<T→gV (h j)→0≤(h j).ep∧0≤(h j).nv∧(h j).nv≤(h j).vw∧((h j).st=1→(h j).nv=(h j).vw)∧((h j).st=2→(h j).nv<(h j).vw)
 so:∀ j,j<T→gV (h j)→So (h j).log
 l0:∀ j,j<T→0≤life (h j)
 sts:∀ j,j<T→gV (h j)∨(h j).st=3∨(h j).st=4∨(h j).st=5
 i0:∀ j,j<T→0≤(h j).id
section
variable {h:Nat→Sn} {T:Nat} {g:Int→List Int}
theorem HX.inc (H:HX h T g) (i j:Nat) (hi:i≤j) (hj:j<T) (hd:(h i).id=(h j).id) (hl:life (h i)=life (h j)):Lq (h i) (h j)∧(gV (h i)→gV (h j)→(h i).ep=(h j).ep→(h i).nv≤(h j).nv∧((h i).nv=(h j).nv→(h i).log <+: (h j).log)) :=
 ⟨(H.inc' i j hi hj hd hl).lq,fun a _ e=>((H.inc' i j hi hj hd hl).n a e).2⟩
theorem Qr.meet {gr:List Int} {e e':Int} {t t':Nat} {Q Q':List Nat} (a:Qr h gr e t Q) (b:Qr h gr e' t' Q'):∃ i∈Q,∃ j∈Q',(h i).id=(h j).id:=by
 have f:=a.big;have g:=b.big;have n:=a.odd;have k:gr.length<(Q.map (fun i=>(h i).id)).length+(Q'.map (fun i=>(h i).id)).length:=by
  rw[List.length_map,List.length_map];unfold eP at f g;have:((gr.length:Int)-1).tdiv 2=((gr.length:Int)-1) / 2:=Int.tdiv_eq_ediv_of_nonneg (by omega)
  rw[this] at f g;omega
 obtain⟨x,c,l⟩:=Oi a.nd b.nd (fun x c=>by obtain⟨i,d,rfl⟩:=List.mem_map.1 c;exact a.me i d) (fun x c=>by obtain⟨i,d,rfl⟩:=List.mem_map.1 c;exact b.me i d) k
 obtain⟨i,d,rfl⟩:=List.mem_map.1 c
 obtain⟨j,m,e⟩:=List.mem_map.1 l
 exact⟨i,d,j,m,e.symm⟩
def Clo (h:Nat→Sn) (T:Nat) (g:Int→List Int) (e:Int):Prop:=∀ i j,i<T→j<T→gV (h i)→(h i).ep=e→(h i).id=(h j).id→life (h i)<life (h j)→∀ E V Q p,Rc h g j E V Q p→¬E<e
theorem sym (H:HX h T g) {e:Int} (hc:Clo h T g e):∀ (N t t':Nat) (Q Q':List Nat),t+t'≤N→t≤T→t'≤T→Qr h (g e) e t Q→Qr h (g e) e t' Q'→∃ i∈Q,∃ j∈Q',Lq (h i) (h j)∨Lq (h j) (h i)
 | 0,t,t',Q,Q',hN,_,_,a,b=>by
  obtain⟨i,hi,_⟩:=a.meet b
  have:=a.lt i hi
  omega
 | N+1,t,t',Q,Q',hN,hT,hT',a,b=>by
  obtain⟨i,hi,j,f,d⟩:=a.meet b
  have A:=a.lt i hi;have B:=b.lt j f;rcases Int.lt_trichotomy (life (h i)) (life (h j)) with q|q|q
  ·have y:=H.l0 i (by omega)
   obtain⟨E,V,R,p,c⟩:=H.rcv j (by omega) (by have:=b.st j f;unfold gV at this;omega) (by omega)
   have s:E=e:=by
    have u:=hc i j (by omega) (by omega) (a.st i hi) (a.ep i hi) d q E V R p c
    have l:=(c.le p c.pin).2;rw[c.q.ep p c.pin,b.ep j f] at l;omega
   subst s;obtain⟨w,m,k,n,o⟩:=sym H hc N t j Q R (by omega) hT (by omega) a c.q
   rcases o with o|o
   ·exact⟨w,m,j,f,.inl (o.trans (c.le k n))⟩
   ·exfalso
    have u:=o.1 (h j).id;have l:=c.kn k n;have v:=a.cc w m i hi;rw[d] at v;omega
  ·rcases Nat.le_total i j with z|z
   ·exact⟨i,hi,j,f,.inl (H.inc i j z (by omega) d q).1⟩
   ·exact⟨i,hi,j,f,.inr (H.inc j i z (by omega) d.symm q.symm).1⟩
  ·have y:=H.l0 j (by omega)
   obtain⟨E,V,R,p,c⟩:=H.rcv i (by omega) (by have:=a.st i hi;unfold gV at this;omega) (by omega)
   have s:E=e:=by
    have u:=hc j i (by omega) (by omega) (b.st j f) (b.ep j f) d.symm q E V R p c
    have l:=(c.le p c.pin).2;rw[c.q.ep p c.pin,a.ep i hi] at l;omega
   subst s;obtain⟨k,n,x,r,o⟩:=sym H hc N i t' R Q' (by omega) (by omega) hT' c.q b
   rcases o with o|o
   ·exfalso
    have u:=o.1 (h i).id;have l:=c.kn k n;have v:=b.cc x r j f;rw[← d] at v;omega
   ·exact⟨i,hi,x,r,.inr (o.trans (c.le k n))⟩
def Pu (h:Nat→Sn) (T:Nat) (g:Int→List Int) (e:Int):Prop:=∀ i j v,i<T→j<T→(h i).st=1→(h j).st=1→(h i).ep=e→(h j).ep=e→(h i).vw=v→(h j).vw=v→(h i).id=fJ (g e) v→(h j).id=fJ (g e) v→life (h i)=life (h j)
theorem PE (H:HX h T g) {e:Int} (hc:Clo h T g e) {i j:Nat} {v:Int} (hi:i<T) (hj:j<T) (si:(h i).st=1) (sj:(h j).st=1) (ei:(h i).ep=e) (ej:(h j).ep=e) (vi:(h i).vw=v) (vj:(h j).vw=v) (pi:(h i).id=fJ (g e) v) (pj:(h j).id=fJ (g e) v) (hl:life (h i)<life (h j)):False:=by
 have F:=H.l0 i hi;have m:(h i).id=(h j).id:=by rw[pi,pj]
 obtain⟨E,V,R,p,a⟩:=H.rcv j hj (by omega) (by omega)
 have t:E=e:=by
  have n:=hc i j hi hj (.inl si) ei m hl E V R p a;have r:=(a.le p a.pin).2;rw[a.q.ep p a.pin,ej] at r;omega
 subst t;have u:=H.nvw j hj (.inl sj);have G:=u.2.2.2.1 sj;have K:=(a.lv ej (.inl sj)).1;have L:V<v:=by
  rcases Int.lt_or_eq_of_le (show V≤v by omega) with z|z
  ·exact z
  ·exact absurd (by rw[a.pi,z,pj]) (a.ne p a.pin)
 have w:=a.q.st p a.pin;have x:=H.nvw p (by have:=a.q.lt p a.pin;omega) w
 have y:=a.pv;have M:=(H.nvw i hi (.inl si)).2.2.2.1 si;obtain⟨l,B,b,d⟩:=H.est i hi (.inl si) (by omega)
 have A:(h i).nv=v:=by omega
 rw[ei,A] at d;have C:=d.le;have D:life (h l)≤life (h i):=by
  apply Classical.byContradiction
  intro z;have:=H.rt i l hi (by omega) (by unfold life at z ⊢;rw[d.id,← pi] at z;omega)
  omega
 obtain⟨k,s,c,f,o⟩:=sym H hc _ l j B R (Nat.le_refl _) (by omega) (by omega) d.q a.q
 rcases o with o|o
 ·have n:=o.2;have r:=a.mx c f;rw[d.q.ep k s,a.q.ep c f,d.bv k s] at n;omega
 ·have n:=o.1 (h j).id;have r:=a.kn c f;have N:=d.q.lt k s;have:=H.rt l k (by omega) (by omega) (by rw[d.id,← pj];omega)
  omega
theorem pu (H:HX h T g) {e:Int} (hc:Clo h T g e):Pu h T g e:=fun i j v a b c d f k l m n o=>by
 rcases Int.lt_trichotomy (life (h i)) (life (h j)) with q|q|q
 ·exact (PE H hc a b c d f k l m n o q).elim
 ·exact q
 ·exact (PE H hc b a d c k f m l o n q).elim
def Xx (e v:Int) (L:List En) (s:Sn):Prop:=s.ep=e∧gV s∧(v<s.nv∨(s.nv=v∧L <+: s.log))
theorem cov (H:HX h T g) {e:Int} (hc:Clo h T g e) {v:Int} {L:List En} {tA:Nat} {A:List Nat} {p:Nat} (hA:tA≤T) (c:Ct h g tA e v L A p) :
  ∀ (N t:Nat) (Q:List Nat),t≤N→t≤T→Qr h (g e) e t Q→(∃ k∈Q,Xx e v L (h k))∨∃ k∈Q,∃ a∈A,Lq (h k) (h a)
 | 0,t,Q,hN,hT,b=>by
  obtain⟨a,ha,k,hk,hid⟩:=c.q.meet b
  have:=b.lt k hk
  omega
 | N+1,t,Q,hN,hT,b=>by
  obtain⟨a,ha,k,hk,hid⟩:=c.q.meet b
  have la:=c.q.lt a ha;have lk:=b.lt k hk;have M:=H.nvw a (by omega) (c.q.st a ha)
  have P:=M.2.2.2.1 (c.n1 a ha);have va:=c.vw a ha;rcases Int.lt_trichotomy (life (h a)) (life (h k)) with q|q|q
  ·have S:=H.l0 a (by omega)
   obtain⟨E,V,R,r,f⟩:=H.rcv k (by omega) (by have:=b.st k hk;unfold gV at this;omega) (by omega)
   have n:E=e:=by
    have s:=hc a k (by omega) (by omega) (c.q.st a ha) (c.q.ep a ha) hid q E V R r f
    have m:=(f.le r f.pin).2;rw[f.q.ep r f.pin,b.ep k hk] at m;omega
   subst n;rcases cov H hc hA c N k R (by omega) (by omega) f.q with ⟨j,i,x⟩|⟨j,i,U,u,o⟩
   ·left
    refine⟨k,hk,b.ep k hk,b.st k hk,?_⟩
    have W:=f.q.lt j i
    have y:=H.nvw j (by omega) (f.q.st j i)
    have X:=y.2.2.2.1 (f.n1 j i);have mx:=f.mx j i;obtain⟨aa,B⟩:=f.lv (b.ep k hk) (b.st k hk)
    have x2:=x.2.2;rcases Int.lt_or_eq_of_le (show v≤(h k).nv by omega) with z|z
    ·exact .inl z
    ·refine .inr ⟨z.symm,?_⟩;have C:V=v:=by omega
     have lr:=f.q.lt r f.pin;have lp:=c.q.lt p c.pin;have G:=pu H hc r p v (by omega) (by omega) (f.n1 r f.pin) (c.n1 p c.pin) (f.q.ep r f.pin) (c.q.ep p c.pin) (by rw[f.pv,C]) (c.vw p c.pin) (by rw[f.pi,C]) c.pi
     have l:(h r).id=(h p).id:=by rw[f.pi,c.pi,C]
     have k1:=f.kn r f.pin;have k2:=c.q.cc p c.pin a ha;rw[hid] at k2;have D:p≤r:=by
      rcases Nat.le_total p r with w|w
      ·exact w
      ·have:=(H.inc r p w (by omega) l G).1.1 (h k).id
       omega
     have i2:=(H.inc p r D (by omega) l.symm G.symm).2 (c.q.st p c.pin) (f.q.st r f.pin) (by rw[c.q.ep p c.pin,f.q.ep r f.pin])
     have np:=(H.nvw p (by omega) (c.q.st p c.pin)).2.2.2.1 (c.n1 p c.pin)
     have nr:=(H.nvw r (by omega) (f.q.st r f.pin)).2.2.2.1 (f.n1 r f.pin)
     have vp:=c.vw p c.pin;have vr:=f.pv;exact (c.lg p c.pin).trans ((i2.2 (by omega)).trans (B (by omega)))
   ·exfalso
    have s:=o.1 (h k).id;have m:=f.kn j i;have F:=c.q.cc U u a ha;rw[hid] at F;omega
  ·rcases Nat.le_total a k with z|z
   ·left
    have i1:=(H.inc a k z (by omega) hid q).2 (c.q.st a ha) (b.st k hk) (by rw[c.q.ep a ha,b.ep k hk])
    refine⟨k,hk,b.ep k hk,b.st k hk,?_⟩
    rcases Int.lt_or_eq_of_le (show v≤(h k).nv by omega) with w|w
    ·exact .inl w
    ·exact .inr ⟨w.symm,(c.lg a ha).trans (i1.2 (by omega))⟩
   ·exact .inr ⟨k,hk,a,ha,(H.inc k a z (by omega) hid.symm q.symm).1⟩
  ·have S:=H.l0 k (by omega)
   obtain⟨E,V,R,r,f⟩:=H.rcv a (by omega) (by have:=c.n1 a ha;omega) (by omega)
   have n:E=e:=by
    have s:=hc k a (by omega) (by omega) (b.st k hk) (b.ep k hk) hid.symm q E V R r f
    have m:=(f.le r f.pin).2;rw[f.q.ep r f.pin,c.q.ep a ha] at m;omega
   subst n;obtain⟨d,K,j,i,o⟩:=sym H hc _ a t R Q (Nat.le_refl _) (by omega) hT f.q b
   rcases o with o|o
   ·exfalso
    have s:=o.1 (h a).id;have m:=f.kn d K;have F:=b.cc j i k hk;rw[← hid] at F;omega
   ·exact .inr ⟨j,i,a,ha,o.trans (f.le d K)⟩
end
def KU (n:Nat) (w w':World) (e:Ending):Prop:=∃ r:Int,e=Zr (I J r)∧-1≤r∧r<n∧Below w.heap.size w w'
section
variable {N:Nat} {w w':World} {g:Nat} {K K':Kw} {V V':Kv}
theorem KAt.ePk (h:KAt N w g K V):iw w V.vP K.net:=Rd.bX h.rP
theorem Gz (h:KAt N w g K V) (s:ByteArray) (q:Int) (ht:∀ x∈K.net,0<x.2.2.size) :
  Calls Tryz.prog 32 #[Zp (some ⟨g,0,O⟩),Z s,I J q] w fun e w'=>KU K.net.length w w' e:=by
 have d:=h.ePk;obtain⟨r,t,b,m,n⟩:=d.shape
 rw[b] at d;have HC:=ah (h.cv 7 rfl b);have p:Hid (∀ k,(f:k<K.net.length)→0<(K.net[k].2.2).size):=fun k f=>ht _ (List.getElem_mem f)
 clear h ht;go_enter Tryz.func32,Tryz.ntmps32;go_wp2_with fail;go_loopw [7] (fun i wr=>∃ k:Nat,k≤K.net.length∧i=I J k∧Below w.heap.size w wr) (fun i _=>K.net.length-(intOf i).toNat)
 case atStart=>exact⟨0,Nat.zero_le _,rfl,Below.refl _ _⟩
 case round =>
  obtain⟨k,f,rfl,a⟩:=hrel
  have c7:=HC.out _ a;by_cases c:k<K.net.length
  ·obtain⟨b1,u,rfl,_,d1,v,y⟩:=(d.below a).get k c
   have z:(0:Int)≤(k:Int):=by omega
   have A:(k:Int)<(K.net.length:Int):=by omega
   have B:=p.out k c;have C:(1:Int)≤(K.net[k].2.2.size:Int):=by omega
   generalize K.net[k].2.2=D at *;generalize K.net[k].2.1=j at *;by_cases o:j=q
   ·have l:(j==q)=true:=beq_iff_eq.2 o
    go_wp2_with fail
    ·go_ret;exact⟨k,rfl,by omega,by omega,a⟩
    ·go_roundw
     case rel=>exact⟨k+1,by omega,by go_num,a⟩
     case measure=>simp[intOf];omega
   ·have l:(j==q)=false:=beq_eq_false_iff_ne.2 o
    go_wp2;go_roundw
    case rel=>exact⟨k+1,by omega,by go_num,a⟩
    case measure=>simp[intOf];omega
  ·go_wp2;go_ret;exact⟨-1,rfl,by omega,by omega,a⟩
theorem Rd.Dg {a:Option Addr} {n cap:Nat} {xs:List Value} (h:Rd w 1 (Y a n cap) n xs) {k:Nat} {u:Value} (hk:xs[k]? = some u) :
  ∃ b off,a=some ⟨b,off,O⟩∧b<w.heap.size∧w.cell? ⟨b,off+k,O⟩=some u:=by
 have g:=(List.getElem?_eq_some_iff.1 hk).1;rcases h.2 with ⟨c,i⟩|⟨b,off,d,c,_,_,e,f⟩
 ·have:=h.1;omega
 ·simp only[Value.slice.injEq] at c;obtain⟨rfl,_,rfl⟩:=c
  exact⟨b,off,rfl,e,f k u hk⟩
structure KSz (K:Kw):Prop where
 n3:3≤K.n
 n7:K.n≤7
 nds:(K.nds.length:Int)=K.n
 down:(K.down.length:Int)=K.n
 begun:(K.begun.length:Int)=K.n
 opn:K.opn.length=10
theorem KSz.all {K:Kw} (z:KSz K):∃ n:Nat,K.n=n∧3≤(n:Int)∧(K.nds.length:Int)=n∧(n:Int)≤7∧(K.down.length:Int)=n∧(K.begun.length:Int)=n∧K.opn.length=10:=by
 obtain⟨h1,h2,h3,h4,h5,h6⟩:=z
 exact⟨K.n.toNat,by omega,by omega,by omega,by omega,by omega,by omega,h6⟩
theorem KAt.node (h:KAt N w g K V) (j:Nat) (hj:j<K.nds.length) {w2:World} (hw:Below w.heap.size w w2):au w2 K.nds[j].b K.nds[j].bl K.nds[j].W K.nds[j].F K.nds[j].R K.nds[j].V:=(h.nodes _ (List.getElem_mem hj)).below hw
def sZ (w w':World) (e:Ending):Prop:=∃ r:Bool,e=Zr (.bool r)∧Below w.heap.size w w'
theorem zS (h:KAt N w g K V) (z:KSz K) (s:ByteArray) (q:Int) (hs:s.size≤1000000) :
  Calls Tryz.prog 28 #[Zp (some ⟨g,0,O⟩),Z s,I J q] w fun e w'=>sZ w w' e:=by
 obtain⟨n,E⟩:∃ n:Nat,K.n=n:=⟨K.n.toNat,by have:=z.n3;omega⟩
 have H:=z.nds;have L:=z.down;have M:=z.n7;rw[E] at H L M;obtain⟨P,cN,p⟩:=aj h.rN
 obtain⟨Q,cD,r⟩:=aj h.rD
 have S:Hid (∀ f,Below w.heap.size w f→∀ k,(o:k<K.nds.length)→∃ b l,P=some ⟨b,l,O⟩∧b<f.heap.size∧f.cell? ⟨b,l+k,O⟩=some (Zp (some ⟨K.nds[k].b,0,O⟩))):=fun f d k o =>
  Rd.Dg (by have:=Rd.bX (h.below d).rN;rw[p] at this;exact this) (by rw[List.getElem?_map,List.getElem?_eq_getElem o];rfl)
 have t:Hid (∀ f,Below w.heap.size w f→∀ k,(o:k<K.down.length)→∃ b l,Q=some ⟨b,l,O⟩∧b<f.heap.size∧f.cell? ⟨b,l+k,O⟩=some (.bool K.down[k])):=fun f d k o =>
  Rd.Dg (by have:=Rd.bX (h.below d).rD;rw[r] at this;exact this) (by rw[List.getElem?_map,List.getElem?_eq_getElem o];rfl)
 have u:=ah (h.cv 1 rfl (congrArg (Value.int .i64) E));have v:=ah (h.cv 2 rfl p);have x:=ah (h.cv 3 rfl r);have T:Hid (∀ (k:Int) (w:World),Calls Tryz.prog 55 #[Z s,I J k] w fun e w'=>∃ b,e=Zr (.bool b)∧w'=w):=fun k w=>uw s k w (by omega)
 have U:Hid (∀ f,Below w.heap.size w f→∀ k,(o:k<K.nds.length)→Calls Tryz.prog 29 #[Zp (some ⟨K.nds[k].b,0,O⟩)] f fun e w'=>e=Zr (.tuple #[I J K.nds[k].R.epoch,I J K.nds[k].R.view,I J K.nds[k].R.status,I J (K.nds[k].R.decided:Int)])∧∃ n,w'=f.drewN n):=fun f d k o=>sK (h.node k o d)
 clear h z;go_enter Tryz.func28,Tryz.ntmps28;go_wp2_with fail;go_loopw [7,8] (fun m i wr=>∃ k c:Nat,c≤k∧k≤n∧i=I J k∧m=I J c∧Below w.heap.size w wr) (fun _ i _=>n-(intOf i).toNat)
 case atStart=>exact⟨0,0,Nat.le_refl _,Nat.zero_le _,rfl,rfl,Below.refl _ _⟩
 case round =>
  obtain⟨k,c,W,o,rfl,rfl,j⟩:=hrel
  have c1:=u.out _ j;by_cases X:k<n
  ·obtain⟨b1,o1,rfl,aa,d1⟩:=S.out _ j k (by omega)
   obtain⟨b2,o2,rfl,ab,d2⟩:=t.out _ j k (by omega)
   have j1:(0:Int)≤(k:Int):=by omega
   have j2:(k:Int)<(K.nds.length:Int):=by omega
   have j3:(k:Int)<(K.down.length:Int):=by omega
   have j4:(k:Int)<(n:Int):=by omega
   have c2:=v.out _ j;have HQ:=ah (U.out wr j k (by omega))
   generalize K.nds[k].b=bb at *;generalize K.nds[k].R.epoch=r1 at *;generalize K.nds[k].R.view=r2 at *;generalize K.nds[k].R.status=y at *;generalize K.nds[k].R.decided=r4 at *;generalize K.down[k]=F at *;go_wp2_with fail;refine (T.out _ _).mono ?_;rintro e w1 ⟨bA,rfl,A⟩;subst A;go_wp2_with fail;refine HQ.out.mono ?_;rintro e f ⟨rfl,nn,d⟩;have a:Below w.heap.size w f:=by rw[d];exact below_drewN j nn
   have c3:=x.out _ a;have d3:f.cell? ⟨b2,o2+k,O⟩=some (.bool F):=by rw[d];exact d2
   clear d;cases bA
   ·go_wp2;go_roundw
    case rel=>exact⟨k+1,c,by omega,by omega,by go_num,rfl,a⟩
    case measure=>simp[intOf];omega
   ·cases F
    ·by_cases G:y=3
     ·have B:(y==3)=true:=beq_iff_eq.2 G
      go_wp2;go_roundw
      case rel=>exact⟨k+1,c+1,by omega,by omega,by go_num,by go_num,a⟩
      case measure=>simp[intOf];omega
     ·have B:(y==3)=false:=beq_eq_false_iff_ne.2 G
      by_cases C:(k:Int)=q
      ·have D:((k:Int)==q)=true:=beq_iff_eq.2 C
       clear C;go_wp2;go_roundw
       case rel=>exact⟨k+1,c+1,by omega,by omega,by go_num,by go_num,a⟩
       case measure=>simp[intOf];omega
      ·have D:((k:Int)==q)=false:=beq_eq_false_iff_ne.2 C
       go_wp2;go_roundw
       case rel=>exact⟨k+1,c,by omega,by omega,by go_num,rfl,a⟩
       case measure=>simp[intOf];omega
    ·go_wp2;go_roundw
     case rel=>exact⟨k+1,c+1,by omega,by omega,by go_num,by go_num,a⟩
     case measure=>simp[intOf];omega
  ·go_wp2;go_ret;exact⟨_,rfl,j⟩
end
section
variable {N:Nat} {w w':World} {g:Nat} {K K':Kw} {V V':Kv}
theorem KAt.ptr {a:Option Addr} {n c:Nat} (h:KAt N w g K V) (hv:V.vN=Y a n c) {w2:World} (hw:Below w.heap.size w w2) (k:Nat) (hk:k<K.nds.length):∃ b off,a=some ⟨b,off,O⟩∧b<w2.heap.size∧w2.cell? ⟨b,off+k,O⟩=some (Zp (some ⟨K.nds[k].b,0,O⟩)):=by
 have q:=Rd.bX (h.below hw).rN;obtain⟨d,f,e⟩:=aj h.rN
 rw[hv] at e;cases e;rw[hv] at q;exact Rd.Dg q (by rw[List.getElem?_map,List.getElem?_eq_getElem hk];rfl)
theorem KAt.dwn {a:Option Addr} {n c:Nat} (h:KAt N w g K V) (hv:V.vD=Y a n c) {w2:World} (hw:Below w.heap.size w w2) (k:Nat) (hk:k<K.down.length):∃ b off,a=some ⟨b,off,O⟩∧b<w2.heap.size∧w2.cell? ⟨b,off+k,O⟩=some (.bool K.down[k]):=by
 have q:=Rd.bX (h.below hw).rD;obtain⟨d,f,e⟩:=aj h.rD
 rw[hv] at e;cases e;rw[hv] at q;exact Rd.Dg q (by rw[List.getElem?_map,List.getElem?_eq_getElem hk];rfl)
theorem KAt.bgn {a:Option Addr} {n c:Nat} (h:KAt N w g K V) (hv:V.vB=Y a n c) {w2:World} (hw:Below w.heap.size w w2) (k:Nat) (hk:k<K.begun.length):∃ b off,a=some ⟨b,off,O⟩∧b<w2.heap.size∧w2.cell? ⟨b,off+k,O⟩=some (I J K.begun[k]):=by
 have q:=Rd.bX (h.below hw).rB;obtain⟨d,f,e⟩:=aj h.rB
 rw[hv] at e;cases e;rw[hv] at q;exact Rd.Dg q (by rw[List.getElem?_map,List.getElem?_eq_getElem hk];rfl)
theorem KAt.opn {a:Option Addr} {n c:Nat} (h:KAt N w g K V) (hv:V.vO=Y a n c) {w2:World} (hw:Below w.heap.size w w2) (k:Nat) (hk:k<K.opn.length):∃ b off,a=some ⟨b,off,O⟩∧b<w2.heap.size∧w2.cell? ⟨b,off+k,O⟩=some (I J K.opn[k]):=by
 have q:=Rd.bX (h.below hw).rO;obtain⟨d,f,e⟩:=aj h.rO
 rw[hv] at e;cases e;rw[hv] at q;exact Rd.Dg q (by rw[List.getElem?_map,List.getElem?_eq_getElem hk];rfl)
theorem KAt.grp {a:Option Addr} {n c:Nat} (h:KAt N w g K V) (hv:V.vG=Y a n c) {w2:World} (hw:Below w.heap.size w w2) (k:Nat) (hk:k<K.groups.length):∃ b off,a=some ⟨b,off,O⟩∧b<w2.heap.size∧w2.cell? ⟨b,off+k,O⟩=some (Z K.groups[k]):=by
 have q:=Rd.bX (h.below hw).rG;obtain⟨d,f,e⟩:=aj h.rG
 rw[hv] at e;cases e;rw[hv] at q;exact Rd.Dg q (by rw[List.getElem?_map,List.getElem?_eq_getElem hk];rfl)
theorem KAt.whr (h:KAt N w g K V) {w2:World} (hw:Below w.heap.size w w2) (k:Nat) (hk:k<K.nds.length):Calls Tryz.prog 29 #[Zp (some ⟨K.nds[k].b,0,O⟩)] w2 fun e w'=>e=Zr (.tuple #[I J K.nds[k].R.epoch,I J K.nds[k].R.view,I J K.nds[k].R.status,I J (K.nds[k].R.decided:Int)])∧∃ n,w'=w2.drewN n:=sK (h.node k hk hw)
end
section
variable {w w0:World} {b bl:Nat} {W F:List Nat} {R:Rp} {V:Rv} {P:Pm} {vl vg vo vL:Value}
theorem Sl.news {w w':World} (h:au w b bl W F R V) (hb:Below w.heap.size w w') (vs:List Value) (hv:∀ v∈vs,∀ k,v.ownBlock=some k→w.heap.size≤k∧k<w'.heap.size) :
  ∃ F',au w' b bl W F' R V∧(∀ v∈vs,Sl W F' v)∧Mv w W F W F':=by
 have d:∀ x,x∈vs.flatMap (fun v=>v.ownBlock.toList)→w.heap.size≤x∧x<w'.heap.size:=fun x a=>by
  obtain⟨v,c,g⟩:=List.mem_flatMap.1 a
  exact hv v c x (by simpa using g)
 have c:=h.below hb;refine⟨vs.flatMap (fun v=>v.ownBlock.toList)++F,c.more (fun x a=>List.mem_append.2 (.inr a)) (fun x a=>?_) ?_,fun v q=>⟨fun k e f=>?_,fun k e=>?_⟩,⟨fun x a=>.inl a,fun x a=>List.mem_append.2 (.inr a),fun x a=>?_⟩⟩
 ·rcases List.mem_append.1 a with q|q
  ·exact (d x q).2
  ·exact c.fl x q
 ·intro f;rcases List.mem_append.1 f with q|q
  ·have:=(d 0 q).1;have:=h.lb;omega
  ·exact h.t0 q
 ·have:=(hv v q k e).1;have:=h.wlt _ f;omega
 ·exact List.mem_append.2 (.inl (List.mem_flatMap.2 ⟨v,q,by simpa using e⟩))
 ·rcases List.mem_append.1 a with q|q
  ·exact .inr (d x q).1
  ·exact .inl q
theorem mP {w':World} {base:Nat} {e:TypeId} {size:Nat} {v:Value} {n:Nat} {xs:List Value} (h:w'.ownsRow base e size v n xs):∀ k,v.ownBlock=some k→base≤k∧k<w'.heap.size:=fun k hk=>h.lt k hk
theorem qw (h:Rst w0 w b bl W F R) (hR:Ok R) (c:Int) (ho:R.out.length≤500000) :
  Calls Tryz.prog 135 #[Zp (some ⟨b,0,O⟩),I J c] w fun e w'=>e=Zr (.tuple #[])∧Rst w0 w' b bl W F (R.bY c):=by
 have m:=ah h;clear h;have k:Hid (R.bY c=(if R.dG then R else R.ack R.gZ).aV c):=rfl
 have l:=ah (jK m.out hR);have p:=ah (Rp.l9 hR R.gZ);cases hp:R.dG
 ·rw[hp] at k l;go_enter Tryz.func135,Tryz.ntmps135;go_wp2_with fail;refine (l.out).mono ?_;rintro e q ⟨rfl,a⟩;have f:=ah a;clear a;go_wp2_with fail;refine (Ay f.out hR).mono ?_;rintro e r ⟨rfl,d⟩;have g:=ah d;clear d;go_wp2_with fail;refine (DN g.out hR R.gZ (by omega)).mono ?_
  rintro e s ⟨rfl,i⟩;have n:=ah i;clear i;go_wp2_with fail;refine (iX n.out p.out.ok c (by have:=p.out.out;omega)).mono ?_
  rintro e t ⟨rfl,j⟩;have o:=ah j;clear j;go_wp2;exact bodyPost_end (results_none rfl _ _ _) rfl ⟨rfl,by rw[k.out];exact o.out⟩
 ·rw[hp] at k l;go_enter Tryz.func135,Tryz.ntmps135;go_wp2_with fail;refine (l.out).mono ?_;rintro e q ⟨rfl,a⟩;have f:=ah a;clear a;go_wp2_with fail;refine (iX f.out hR c (by omega)).mono ?_
  rintro e r ⟨rfl,d⟩;have g:=ah d;clear d;go_wp2;exact bodyPost_end (results_none rfl _ _ _) rfl ⟨rfl,by rw[k.out];exact g.out⟩
theorem Fp (h:au w b bl W F R V) (hR:Ok R) :
  Calls Tryz.prog 164 #[Zp (some ⟨b,0,O⟩)] w fun e w'=>∃ vl vL,e=Zr (.agg (pmC R.dw vl (Y O 0 0) (Y O 0 0) vL))∧w'.ownsRow w.heap.size 3 1 vl R.lives.length (R.lives.map (Value.int .i64))∧w'.ownsRow w.heap.size 66 3 vL R.log.length (aA R.log)∧Below w.heap.size w w':=by
 obtain⟨K,ao⟩:=h.g2
 have ap:R.lives.length≤1000:=by have:=hR.ll;have:=hR.n7;omega
 have aq:R.log.length≤1000:=by have:=hR.lg;omega
 have HH:Hid (∀ w',Below w.heap.size w w'→Calls Tryz.prog 122 #[Zp (some ⟨b,0,O⟩),I .u8 118] w' fun e l=>e=Zr (.agg #[I .u8 118,I J R.id,Y (some ⟨bl,0,O⟩) R.lives.length K,I J R.epoch,I J R.view,I J 0,I J 0,I J 0,Z ⟨#[]⟩,I J 0,I J 0,I J 0,Y O 0 0,Y O 0 0,Y O 0 0])∧Below w'.heap.size w' l):=fun w' T=>by
  have q:=lY (h.below T) 118;rw[ao] at q;exact q
 have ar:Hid (∀ w',Below w.heap.size w w'→Calls Tryz.prog 174 #[Zp (some ⟨b,0,O⟩)] w' fun e l=>∃ v,e=Zr v∧l.ownsRow w'.heap.size 3 1 v R.lives.length (R.lives.map (Value.int .i64))∧Below w'.heap.size w' l):=fun w' T=>Kj (h.below T) ap
 have av:Hid (∀ w',Below w.heap.size w w'→Calls Tryz.prog 103 #[Zp (some ⟨b,0,O⟩)] w' fun e l=>∃ v,e=Zr v∧l.ownsRow w'.heap.size 66 3 v R.log.length (aA R.log)∧Below w'.heap.size w' l):=fun w' T=>vR (h.below T) aq
 have hz:dD (w.alloc (.cells mz0 68)) w.heap.size mz0:=⟨rfl,heap_alloc_new w _⟩
 have z:Below w.heap.size w (w.alloc (.cells mz0 68)):=(Below.refl _ w).alloc (Nat.le_refl _) _
 go_enter Tryz.func164,Tryz.ntmps164;go_wp2_with fail;generalize w.alloc (.cells mz0 68)=wZ at *;refine (HH.out _ z).mono ?_;rintro e a ⟨rfl,L⟩;have i:Below w.heap.size w a:=z.trans (L.mono z.size)
 have M:dD a w.heap.size mz0:=hz.kp (S:=[]) (Kp.of_below L) (by simp)
 have A:Below w.heap.size w (a.alloc (.cells #[I .u8 118,I J R.id,Y (some ⟨bl,0,O⟩) R.lives.length K,I J R.epoch,I J R.view,I J 0,I J 0,I J 0,Z ⟨#[]⟩,I J 0,I J 0,I J 0,Y O 0 0,Y O 0 0,Y O 0 0] 68)):=i.alloc i.size _
 have N:dD (a.alloc (.cells #[I .u8 118,I J R.id,Y (some ⟨bl,0,O⟩) R.lives.length K,I J R.epoch,I J R.view,I J 0,I J 0,I J 0,Z ⟨#[]⟩,I J 0,I J 0,I J 0,Y O 0 0,Y O 0 0,Y O 0 0] 68)) a.heap.size #[I .u8 118,I J R.id,Y (some ⟨bl,0,O⟩) R.lives.length K,I J R.epoch,I J R.view,I J 0,I J 0,I J 0,Z ⟨#[]⟩,I J 0,I J 0,I J 0,Y O 0 0,Y O 0 0,Y O 0 0]:=⟨rfl,heap_alloc_new a _⟩
 have U:dD (a.alloc (.cells #[I .u8 118,I J R.id,Y (some ⟨bl,0,O⟩) R.lives.length K,I J R.epoch,I J R.view,I J 0,I J 0,I J 0,Z ⟨#[]⟩,I J 0,I J 0,I J 0,Y O 0 0,Y O 0 0,Y O 0 0] 68)) w.heap.size mz0:=M.kp (S:=[]) (Kp.of_below ((Below.refl _ a).alloc (Nat.le_refl _) _)) (by simp)
 have az:=lt_of_block M.2;clear hz z L M;go_wp2_with fail;generalize a.alloc (.cells #[I .u8 118,I J R.id,Y (some ⟨bl,0,O⟩) R.lives.length K,I J R.epoch,I J R.view,I J 0,I J 0,I J 0,Z ⟨#[]⟩,I J 0,I J 0,I J 0,Y O 0 0,Y O 0 0,Y O 0 0] 68)=wA at *;refine (ar.out _ A).mono ?_;rintro e B ⟨a0,rfl,d,C⟩;obtain⟨j,c,rfl⟩:=aj d
 have H:Below w.heap.size w B:=A.trans (C.mono A.size)
 have P:dD B a.heap.size #[I .u8 118,I J R.id,Y (some ⟨bl,0,O⟩) R.lives.length K,I J R.epoch,I J R.view,I J 0,I J 0,I J 0,Z ⟨#[]⟩,I J 0,I J 0,I J 0,Y O 0 0,Y O 0 0,Y O 0 0]:=N.kp (S:=[]) (Kp.of_below C) (by simp)
 have X:dD B w.heap.size mz0:=U.kp (S:=[]) (Kp.of_below C) (by simp)
 have h2:=h.below H;have c6:=h2.c6;have c10:=h2.c10;have a1:=h.lb;have a2:¬b=a.heap.size:=by have:=i.size;omega
 have ax:¬a.heap.size=b:=by have:=i.size;omega
 have D:w.heap.size≤a.heap.size:=i.size
 have kS:Kp [a.heap.size] B (((B.setCell ⟨a.heap.size,2,O⟩ (Y j R.lives.length c)).setCell ⟨a.heap.size,10,O⟩ (I J R.normal)).setCell ⟨a.heap.size,9,O⟩ (I J (R.decided:Int))):=(((Kp.refl _ B).set _ 2 _ (.inl (by simp))).set _ 10 _ (.inl (by simp))).set _ 9 _ (.inl (by simp))
 have E:Below w.heap.size w (((B.setCell ⟨a.heap.size,2,O⟩ (Y j R.lives.length c)).setCell ⟨a.heap.size,10,O⟩ (I J R.normal)).setCell ⟨a.heap.size,9,O⟩ (I J (R.decided:Int))):=Below.setCell (p:=⟨a.heap.size,9,O⟩) (Below.setCell (p:=⟨a.heap.size,10,O⟩) (Below.setCell (p:=⟨a.heap.size,2,O⟩) H D _) D _) D _
 have G:dD (((B.setCell ⟨a.heap.size,2,O⟩ (Y j R.lives.length c)).setCell ⟨a.heap.size,10,O⟩ (I J R.normal)).setCell ⟨a.heap.size,9,O⟩ (I J (R.decided:Int))) a.heap.size #[I .u8 118,I J R.id,Y j R.lives.length c,I J R.epoch,I J R.view,I J 0,I J 0,I J 0,Z ⟨#[]⟩,I J (R.decided:Int),I J R.normal,I J 0,Y O 0 0,Y O 0 0,Y O 0 0]:=by
  have q:=((P.set 2 (Y j R.lives.length c)).set 10 (I J R.normal)).set 9 (I J (R.decided:Int))
  simpa using q
 have aa:=X.kp kS (by simp;omega)
 have m:World.ownsRow _ w.heap.size 3 1 (Y j R.lives.length c) R.lives.length (R.lives.map (Value.int .i64)):=fF (fB d A.size) kS (by
  intro k hk hc;simp at hc;subst hc;have:=(d.lt _ hk).1
  have:=lt_of_block N.2
  omega)
 obtain⟨x0,x1,x2,x3,x4,x5,x6,x7,x8,x9,ab,ac,ad,ae,af,xf⟩:=P.all
 clear d P X N U C kS;go_wp2_with fail;generalize ((B.setCell ⟨a.heap.size,2,O⟩ (Y j R.lives.length c)).setCell ⟨a.heap.size,10,O⟩ (I J R.normal)).setCell ⟨a.heap.size,9,O⟩ (I J (R.decided:Int))=wS at *;clear x0 x1 x2 x3 x4 x5 x6 x7 x8 x9 ab ac ad ae af xf c6 c10;refine (av.out _ E).mono ?_;rintro e y ⟨a3,rfl,f,t⟩;obtain⟨n,o,rfl⟩:=aj f
 have Q:dD y a.heap.size #[I .u8 118,I J R.id,Y j R.lives.length c,I J R.epoch,I J R.view,I J 0,I J 0,I J 0,Z ⟨#[]⟩,I J (R.decided:Int),I J R.normal,I J 0,Y O 0 0,Y O 0 0,Y O 0 0]:=G.kp (S:=[]) (Kp.of_below t) (by simp)
 have ai:dD y w.heap.size mz0:=aa.kp (S:=[]) (Kp.of_below t) (by simp)
 have a4:=lt_of_block G.2;have k4:Kp [a.heap.size] y (y.setCell ⟨a.heap.size,14,O⟩ (Y n R.log.length o)):=(Kp.refl _ y).set _ 14 _ (.inl (by simp))
 have x:=ai.kp k4 (by simp;omega)
 have ak:dD (y.setCell ⟨a.heap.size,14,O⟩ (Y n R.log.length o)) a.heap.size #[I .u8 118,I J R.id,Y j R.lives.length c,I J R.epoch,I J R.view,I J 0,I J 0,I J 0,Z ⟨#[]⟩,I J (R.decided:Int),I J R.normal,I J 0,Y O 0 0,Y O 0 0,Y n R.log.length o]:=by
  have q:=Q.set 14 (Y n R.log.length o)
  simpa using q
 have am:Below w.heap.size w (y.setCell ⟨a.heap.size,14,O⟩ (Y n R.log.length o)):=Below.setCell (p:=⟨a.heap.size,14,O⟩) (E.trans (t.mono E.size)) D _
 have r:=fF (iJ m (Kp.of_below (S:=[]) t) (by simp)) k4 (by
  intro k hk hc;simp at hc;subst hc;have q:=m.2;rcases q with ⟨q,_⟩|⟨g,a5,a6,q,q1,q2,q3⟩
  ·rw[q] at hk;simp[Value.ownBlock] at hk
  ·rw[q] at hk;simp[Value.ownBlock] at hk;subst hk;rw[G.2] at q2;simp at q2)
 have s:=fF (fB f E.size) k4 (by
  intro k hk hc;simp at hc;subst hc;have:=(f.lt _ hk).1
  omega)
 have HL:=ah (kG x (I .u8 118) (I J R.id) (Y j R.lives.length c) (I J R.epoch) (I J R.view) (I J 0) (I J 0) (I J 0) (Z ⟨#[]⟩) (I J (R.decided:Int)) (I J R.normal) (I J 0) (Y O 0 0) (Y O 0 0) (Y n R.log.length o));have HB:=ah (fP (Nat.le_refl w.heap.size) [I .u8 118,I J R.id,Y j R.lives.length c,I J R.epoch,I J R.view,I J 0,I J 0,I J 0,Z ⟨#[]⟩,I J (R.decided:Int),I J R.normal,I J 0,Y O 0 0,Y O 0 0,Y n R.log.length o] _ 0 am);have HK:=ah (oh (g:=w.heap.size) [I .u8 118,I J R.id,Y j R.lives.length c,I J R.epoch,I J R.view,I J 0,I J 0,I J 0,Z ⟨#[]⟩,I J (R.decided:Int),I J R.normal,I J 0,Y O 0 0,Y O 0 0,Y n R.log.length o] (y.setCell ⟨a.heap.size,14,O⟩ (Y n R.log.length o)) 0);rw[← lM] at HL HB HK;have HI:Hid (∀ w',Kp [w.heap.size] (y.setCell ⟨a.heap.size,14,O⟩ (Y n R.log.length o)) w'→w'.ownsRow w.heap.size 3 1 (Y j R.lives.length c) R.lives.length (R.lives.map (Value.int .i64))∧w'.ownsRow w.heap.size 66 3 (Y n R.log.length o) R.log.length (aA R.log)):=fun w' k=>⟨fF r k (Fr.iR r x.2 (by decide)),fF s k (Fr.iR s x.2 (by decide))⟩
 have aw:=ah x.there;have an:Hid ((#[I .u8 118,I J R.id,Y j R.lives.length c,I J R.epoch,I J R.view,I J 0,I J 0,I J 0,Z ⟨#[]⟩,I J (R.decided:Int),I J R.normal,I J 0,Y O 0 0,Y O 0 0,Y n R.log.length o]:Array Value).all (·.oneCell')=true):=all_oneCell_toArray (cs:=[I .u8 118,I J R.id,Y j R.lives.length c,I J R.epoch,I J R.view,I J 0,I J 0,I J 0,Z ⟨#[]⟩,I J (R.decided:Int),I J R.normal,I J 0,Y O 0 0,Y O 0 0,Y n R.log.length o]) (by intro u hu;simp at hu;rcases hu with rfl|rfl|rfl|rfl|rfl|rfl|rfl|rfl|rfl|rfl|rfl|rfl|rfl|rfl|rfl <;> rfl)
 obtain⟨x0,x1,x2,x3,x4,x5,x6,x7,x8,x9,ab,ac,ad,ae,af,xf⟩:=Q.all
 obtain⟨y0,y1,y2,y3,y4,y5,y6,y7,y8,y9,a7,a8,a9,ba,bb,yf⟩:=ak.all
 clear r s x ai Q ak aa G m f t k4 am;go_upto_region 6 with fail
 generalize y.setCell ⟨a.heap.size,14,O⟩ (Y n R.log.length o)=w4 at *;go_wp2_with (refine wpList_store_mid rfl 68 (.tmp 2) (.tmp 22) (by rfl) w.heap.size 0 #[I .u8 118,I J R.id,Y j R.lives.length c,I J R.epoch,I J R.view,I J 0,I J 0,I J 0,Z ⟨#[]⟩,I J (R.decided:Int),I J R.normal,I J 0,Y O 0 0,Y O 0 0,Y n R.log.length o] (by rfl) (by rfl) aw.out Tryz.sizeMsg an.out ?_)
 go_wp2_with fail;refine bodyPost_ret (dO rfl _ _ _ rfl HL.out) rfl ?_;exact⟨_,_,rfl,(HI.out _ HK.out).1,(HI.out _ HK.out).2,HB.out⟩
end
section
variable {w w0:World} {b bl:Nat} {W F:List Nat} {R:Rp} {V:Rv} {P:Pm} {vl vg vo vL:Value}
theorem Kk (E:En) (n:Int) (w:World) (hs:E.2.2.size≤maxLen):Calls Tryz.prog 44 #[.agg #[I J E.1,I J E.2.1,Z E.2.2],I J n] w fun e w'=>∃ a k c,e=Zr (Y a k c)∧a.isNone=Rp.fu E n∧Below w.heap.size w w' :=
 (oH E.1 E.2.1 E.2.2 n w hs).mono fun e w' q=>by
  obtain⟨v,rfl,i,d,f⟩:=q
  unfold Rp.fu fA;cases hr:(jk E.2.2&&bK (E.2.2.extract 1 E.2.2.size).data.toList n)
  ·have:=d.2 hr
   subst this;exact⟨O,0,0,rfl,rfl,f⟩
  ·have b:jk E.2.2=true:=by rw[Bool.and_eq_true] at hr;exact hr.1
   rcases (i b).2 with ⟨h,_⟩|⟨g,j,l,h,_⟩
   ·rw[d.1 h] at hr;cases hr
   ·subst h;exact⟨_,_,_,rfl,rfl,f⟩
theorem Fg (h:au w b bl W F R V) (hR:Ok R) (cl:Int):Calls Tryz.prog 42 #[Zp (some ⟨b,0,O⟩),I J cl] w fun e w'=>e=Zr (I J (R.iQ cl))∧w'=w:=by
 have l:=hR.lg;have c9:=h.c9;obtain⟨x,y,o⟩:=h.g9
 have m:=h.ents;rw[o] at c9 m;have p:Hid (∀ k,Rp.nW R.log cl (k+1)=if (R.log.getD k (0,0,⟨#[]⟩)).1=cl then (R.log.getD k (0,0,⟨#[]⟩)).2.1 else Rp.nW R.log cl k):=fun k=>rfl
 have q:Hid (Rp.nW R.log cl 0=0):=rfl
 have r:Hid (R.iQ cl=Rp.nW R.log cl R.log.length):=rfl
 clear h;go_enter Tryz.func42,Tryz.ntmps42;go_wp2_with fail;go_loop [5] (fun i=>∃ k:Nat,k≤R.log.length∧i=I J ((k:Int)-1)∧R.iQ cl=Rp.nW R.log cl k) (fun i=>(intOf i+1).toNat)
 case atStart=>exact⟨R.log.length,Nat.le_refl _,by go_num,r.out⟩
 case round =>
  obtain⟨k,z,rfl,a⟩:=hrel
  have g:=ah a;clear a;by_cases t:k=0
  ·subst t;have c:Hid (R.iQ cl=0):=by unfold Hid;rw[g.out,q.out]
   go_wp2;go_ret;exact⟨oz c.out.symm,rfl⟩
  ·obtain⟨j,rfl⟩:∃ j,k=j+1:=⟨k-1,by omega⟩
   have d:j<R.log.length:=by omega
   have n:R.log.getD j (0,0,⟨#[]⟩)=R.log[j]:=by simp[List.getD,d]
   have f:Hid (Rp.nW R.log cl (j+1)=if R.log[j].1=cl then R.log[j].2.1 else Rp.nW R.log cl j):=by unfold Hid;rw[p.out,n]
   obtain⟨A,B,rfl,u,C,D,E⟩:=m.get j d
   have G:(0:Int)≤(j:Int):=by omega
   have H:(j:Int)<(R.log.length:Int):=by omega
   have v:(((j+1:Nat):Int)-1)=(j:Int):=by omega
   clear n;rw[v];generalize R.log[j]=s at *;cases hq:(s.1==cl)
   ·have c:Hid (R.iQ cl=Rp.nW R.log cl j):=by unfold Hid;rw[g.out,f.out,if_neg (by simpa using hq)]
    go_wp2_with fail;go_round
    case rel=>exact⟨j,by omega,by go_num,c.out⟩
    case measure=>simp[intOf]
   ·have c:Hid (R.iQ cl=s.2.1):=by unfold Hid;rw[g.out,f.out,if_pos (by simpa using hq)]
    go_wp2;go_ret;exact⟨oz c.out.symm,rfl⟩
theorem Bz (h:Rst w0 w b bl W F R) (E:En) (hc:1≤E.1∧E.1≤9) (hn:0≤E.2.1∧E.2.1≤999) (hz:(kr R.sv E.1).2.size≤1000) (ho:R.out.length≤900000) :
  Calls Tryz.prog 43 #[Zp (some ⟨b,0,O⟩),.agg #[I J E.1,I J E.2.1,Z E.2.2]] w fun e w'=>e=Zr (.tuple #[])∧Rst w0 w' b bl W F (R.eU E):=by
 obtain⟨C,D,G,x,k1,y⟩:=h
 have f:Below w.heap.size w (w.alloc (.cells #[I J E.1,I J E.2.1,Z E.2.2] 66)):=(Below.refl _ w).alloc (Nat.le_refl _) _
 have a:(w.alloc (.cells #[I J E.1,I J E.2.1,Z E.2.2] 66)).heap[w.heap.size]? = _:=heap_alloc_new w (.cells #[I J E.1,I J E.2.1,Z E.2.2] 66)
 have n:=x.below f;have o:Hid (Rst w0 (w.alloc (.cells #[I J E.1,I J E.2.1,Z E.2.2] 66)) b bl W F R):=Rst.step k1 y (Rst.of n (Kp.of_below f))
 have i:Hid (R.eU E=if (kr R.sv E.1).1=E.2.1 then R.reply E.1 E.2.1 (kr R.sv E.1).2 else R):=rfl
 have j:∀ (d:Nat) (os:Array Obj),Calls Tryz.prog 73 #[Zp (some ⟨b,11,O⟩),I J E.1] (Go.Sort.grow (redrawn (w.alloc (.cells #[I J E.1,I J E.2.1,Z E.2.2] 66)) d) os) fun e w'=>e=Zr (.tuple #[I J (kr R.sv E.1).1,Z (kr R.sv E.1).2])∧Below (Go.Sort.grow (redrawn (w.alloc (.cells #[I J E.1,I J E.2.1,Z E.2.2] 66)) d) os).heap.size (Go.Sort.grow (redrawn (w.alloc (.cells #[I J E.1,I J E.2.1,Z E.2.2] 66)) d) os) w':=fun d os=>yx (n.below (below_regrown _ d os)).sv E.1
 clear x k1 y f;go_enter Tryz.func43,Tryz.ntmps43;go_upto_region 1 with fail
 generalize w.alloc (.cells #[I J E.1,I J E.2.1,Z E.2.2] 66)=g at *;have q:g.cell? ⟨w.heap.size,0,O⟩=some (I J E.1):=by simp[World.cell?,a]
 have z:g.cell? ⟨w.heap.size,1,O⟩=some (I J E.2.1):=by simp[World.cell?,a]
 have r:=cell_regrown q;have A:=fun d os=>Calls.regrown_of (w:=g) (d:=d) (os:=os) (j d os)
 generalize kr R.sv E.1=s at *;go_wp2_with fail;refine wp_region_quiet_below (by kernel_rfl) (by kernel_rfl) ?_
 repeat (go_big_quiet_step (first|exact A _ _))
 refine wpQuiet_nil ?_;intro w2 hw';have c:Below g.heap.size g w2:=by
  obtain⟨⟨B,t⟩,k⟩:=hw'
  rw[k];exact below_regrown g B t
 have H:=(c.cell (p:=⟨w.heap.size,0,O⟩) (lt_of_block a)).trans q;have K:=(c.cell (p:=⟨w.heap.size,1,O⟩) (lt_of_block a)).trans z;have l:=ah (o.out.below c);clear hw' A j r q z n c;cases hq:(s.1==E.2.1)
 ·have u:Hid (R.eU E=R):=by unfold Hid;rw[i.out,if_neg (by simpa using hq)]
  go_wp2;exact bodyPost_end (results_none rfl _ _ _) rfl ⟨rfl,by rw[u.out];exact l.out⟩
 ·have u:Hid (R.eU E=R.reply E.1 E.2.1 s.2):=by unfold Hid;rw[i.out,if_pos (by simpa using hq)]
  go_wp2_with fail;refine (AA l.out E.1 E.2.1 s.2 hc hn hz (by omega)).mono ?_
  rintro e L ⟨rfl,m⟩;have v:=ah m;clear m;go_wp2;exact bodyPost_end (results_none rfl _ _ _) rfl ⟨rfl,by rw[u.out];exact v.out⟩
end
end Go.Proofs.YtinaollfjiddmaaGreatDoor
