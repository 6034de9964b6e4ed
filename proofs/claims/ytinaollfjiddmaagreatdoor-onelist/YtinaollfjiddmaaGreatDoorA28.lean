import Derived.Test.YtinaollfjiddmaaGreatDoorA27
import Derived.Test.YtinaollfjiddmaaGreatDoorA15
set_option maxRecDepth 100000
set_option maxHeartbeats 8000000
set_option linter.all false
namespace Go.Proofs.YtinaollfjiddmaaGreatDoor
open Go.Value renaming int→I,slice→Y,string→Z,pointer→Zp
open Go.Ending renaming returned→Zr
open _root_.ByteArray renaming empty→Ze
open Go.IntKind renaming i64→J
open Option renaming none→O
open Go.RowKit
section
variable (br:Nat) (vw:Value) (ws:List ByteArray) (nx:Nat) (n:Int) (wr:Bool) (w:World) (h:bf w br vw ws nx n wr) (hl:ws.length≤100000) (hz:∀ x∈ws,x.size≤1000)
theorem Am (br:Nat) (vw:Value) (ws:List ByteArray) (nx:Nat) (n:Int) (wr:Bool) (w:World) (h:bf w br vw ws nx n wr) (hl:ws.length≤100000) (hz:∀ x∈ws,x.size≤1000) :
  Calls Tryz.prog 70 #[Zp (some ⟨br,0,O⟩),I .u8 109] w fun e w'=>e=Zr (.agg #[I .u8 109,I J 0,Y O 0 0,I J (aJ (wrd ws (nxt ws (nxt ws nx))) 0 999),I J 0,I J 0,I J (aJ (wrd ws nx) 1 9),I J (aJ (wrd ws (nxt ws nx)) 1 999),Z (⟨#[114]⟩++tY (wrd ws (nxt ws (nxt ws (nxt ws nx))))),I J 0,I J 0,I J 0,Y O 0 0,Y O 0 0,Y O 0 0]) ∧
   bG w w' br vw ws (nxt ws (nxt ws (nxt ws (nxt ws nx)))) n ((((wr||!ay (wrd ws nx).data.toList 1 9)||!ay (wrd ws (nxt ws nx)).data.toList 1 999)||!ay (wrd ws (nxt ws (nxt ws nx))).data.toList 0 999)||!jr (wrd ws (nxt ws (nxt ws (nxt ws nx)))).data.toList):=by
 have ab:=lt_of_block h.block;have U:Hid (∀ w',bf w' br vw ws nx n wr→Calls Tryz.prog 113 #[Zp (some ⟨br,0,O⟩),I J 1,I J 9] w' fun e k=>e=Zr (I J (aJ (wrd ws nx) 1 9))∧bG w' k br vw ws (nxt ws nx) n (wr||!ay (wrd ws nx).data.toList 1 9)):=fun w' q=>dY br vw ws nx n wr w' q hl hz 1 9 (by omega) (by omega)
 generalize aJ (wrd ws nx) 1 9=r at *;generalize (wr||!ay (wrd ws nx).data.toList 1 9)=l at *
 generalize nxt ws nx=b at *;have V:Hid (∀ w',bf w' br vw ws b n l→Calls Tryz.prog 113 #[Zp (some ⟨br,0,O⟩),I J 1,I J 999] w' fun e k=>e=Zr (I J (aJ (wrd ws b) 1 999))∧bG w' k br vw ws (nxt ws b) n (l||!ay (wrd ws b).data.toList 1 999)):=fun w' q=>dY br vw ws b n l w' q hl hz 1 999 (by omega) (by omega)
 generalize aJ (wrd ws b) 1 999=s at *;generalize (l||!ay (wrd ws b).data.toList 1 999)=m at *
 generalize nxt ws b=c at *;have W:Hid (∀ w',bf w' br vw ws c n m→Calls Tryz.prog 113 #[Zp (some ⟨br,0,O⟩),I J 0,I J 999] w' fun e k=>e=Zr (I J (aJ (wrd ws c) 0 999))∧bG w' k br vw ws (nxt ws c) n (m||!ay (wrd ws c).data.toList 0 999)):=fun w' q=>dY br vw ws c n m w' q hl hz 0 999 (by omega) (by omega)
 generalize aJ (wrd ws c) 0 999=t at *;generalize (m||!ay (wrd ws c).data.toList 0 999)=o at *
 generalize nxt ws c=a at *;have X:=kK (nx:=a) hz;have aa:Hid (∀ w',bf w' br vw ws a n o→Calls Tryz.prog 115 #[Zp (some ⟨br,0,O⟩)] w' fun e k=>e=Zr (Z (tY (wrd ws a)))∧bG w' k br vw ws (nxt ws a) n (o||!jr (wrd ws a).data.toList)):=fun w' q=>H8 br vw ws a n o w' q hl hz
 have ac:(tY (wrd ws a)).size≤1000:=by unfold tY;split <;> first|exact X|exact Nat.zero_le _
 generalize tY (wrd ws a)=H at *;generalize (o||!jr (wrd ws a).data.toList)=L at *
 generalize nxt ws a=M at *;have N:=MS.start h 109;go_enter Tryz.func70,Tryz.ntmps70;go_wp2_with fail;simp only[jc] at N;generalize ((w.alloc _).alloc _)=wA at N ⊢;refine (U.out _ N.rdr).mono ?_;rintro e P ⟨rfl,p⟩;have A1:=N.call p;obtain⟨u,v,y,z,A,B,C,D,E,F,d,f,g,i,j,G⟩:=A1.msg.all
 have B1:MS w (P.setCell ⟨w.heap.size+1,6,O⟩ (I J r)) br vw ws b n l #[I .u8 109,I J 0,Y O 0 0,I J 0,I J 0,I J 0,I J r,I J 0,Z ⟨#[]⟩,I J 0,I J 0,I J 0,Y O 0 0,Y O 0 0,Y O 0 0]:=A1.put 6 _
 clear A1 N p;go_wp2_with fail;generalize P.setCell ⟨w.heap.size+1,6,O⟩ (I J r)=ad at *;clear u v y z A B C D E F d f g i j G;refine (V.out _ B1.rdr).mono ?_;rintro e Q ⟨rfl,p⟩;have A2:=B1.call p;obtain⟨u,v,y,z,A,B,C,D,E,F,d,f,g,i,j,G⟩:=A2.msg.all
 have B2:MS w (Q.setCell ⟨w.heap.size+1,7,O⟩ (I J s)) br vw ws c n m #[I .u8 109,I J 0,Y O 0 0,I J 0,I J 0,I J 0,I J r,I J s,Z ⟨#[]⟩,I J 0,I J 0,I J 0,Y O 0 0,Y O 0 0,Y O 0 0]:=A2.put 7 _
 clear A2 B1 p;go_wp2_with fail;generalize Q.setCell ⟨w.heap.size+1,7,O⟩ (I J s)=ae at *;clear u v y z A B C D E F d f g i j G;refine (W.out _ B2.rdr).mono ?_;rintro e R ⟨rfl,p⟩;have A3:=B2.call p;obtain⟨u,v,y,z,A,B,C,D,E,F,d,f,g,i,j,G⟩:=A3.msg.all
 have B3:MS w (R.setCell ⟨w.heap.size+1,3,O⟩ (I J t)) br vw ws a n o #[I .u8 109,I J 0,Y O 0 0,I J t,I J 0,I J 0,I J r,I J s,Z ⟨#[]⟩,I J 0,I J 0,I J 0,Y O 0 0,Y O 0 0,Y O 0 0]:=A3.put 3 _
 clear A3 B2 p;go_wp2_with fail;generalize R.setCell ⟨w.heap.size+1,3,O⟩ (I J t)=af at *;clear u v y z A B C D E F d f g i j G;refine (aa.out _ B3.rdr).mono ?_;rintro e S ⟨rfl,p⟩;have A4:=B3.call p;obtain⟨u,v,y,z,A,B,C,D,E,F,d,f,g,i,j,G⟩:=A4.msg.all
 have T:MS w (S.setCell ⟨w.heap.size+1,8,O⟩ (Z (⟨#[114]⟩++H))) br vw ws M n L #[I .u8 109,I J 0,Y O 0 0,I J t,I J 0,I J 0,I J r,I J s,Z (⟨#[114]⟩++H),I J 0,I J 0,I J 0,Y O 0 0,Y O 0 0,Y O 0 0]:=A4.put 8 _
 clear A4 B3 p;go_upto_region 10 with fail
 generalize S.setCell ⟨w.heap.size+1,8,O⟩ (Z (⟨#[114]⟩++H))=K at *;clear u v y z A B C D E F d f g i j G;obtain⟨u,v,y,z,A,B,C,D,E,F,d,f,g,i,j,G⟩:=T.msg.all
 obtain⟨y0,y1,y2,y3,y4,y5,y6,y7,y8,y9,ai,ak,al,am,an,yf⟩:=T.zero.all
 have HG:Hid (bG w (jD K w.heap.size 0 [I .u8 109,I J 0,Y O 0 0,I J t,I J 0,I J 0,I J r,I J s,Z (⟨#[114]⟩++H),I J 0,I J 0,I J 0,Y O 0 0,Y O 0 0,Y O 0 0]) br vw ws M n L∧(loadVar 68 ⟨w.heap.size,0,O⟩).run Tryz.prog (jD K w.heap.size 0 [I .u8 109,I J 0,Y O 0 0,I J t,I J 0,I J 0,I J r,I J s,Z (⟨#[114]⟩++H),I J 0,I J 0,I J 0,Y O 0 0,Y O 0 0,Y O 0 0])=.ok (.agg #[I .u8 109,I J 0,Y O 0 0,I J t,I J 0,I J 0,I J r,I J s,Z (⟨#[114]⟩++H),I J 0,I J 0,I J 0,Y O 0 0,Y O 0 0,Y O 0 0]) (jD K w.heap.size 0 [I .u8 109,I J 0,Y O 0 0,I J t,I J 0,I J 0,I J r,I J s,Z (⟨#[114]⟩++H),I J 0,I J 0,I J 0,Y O 0 0,Y O 0 0,Y O 0 0])):=T.fin
 clear T;go_wp2;exact bodyPost_ret (dO rfl _ _ _ rfl HG.out.2) rfl ⟨rfl,HG.out.1⟩
end
section
theorem OH {w:World} {w':World} {br:Nat} {vw:Value} {ws:List ByteArray} {n:Int} {e:Ending} (h1:1≤ws.length) (b:UInt8) (h0:(ws.getD 0 Ze).toList=[b]) (hq:b≠113) (hm:b≠109) (hp:rU w w' br vw ws n (b.toNat:Int) (aJ (wrd ws 1) 0 (n-1)) (jM (wrd ws (nxt ws 1)) n) (aJ (wrd ws (nxt ws (nxt ws 1))) 0 10) (aJ (wrd ws (nxt ws (nxt ws (nxt ws 1)))) 0 999) (nxt ws (nxt ws (nxt ws (nxt ws 1)))) ((((false||!ay (wrd ws 1).data.toList 0 (n-1))||!dM (wrd ws (nxt ws 1)) n)||!ay (wrd ws (nxt ws (nxt ws 1))).data.toList 0 10)||!ay (wrd ws (nxt ws (nxt ws (nxt ws 1)))).data.toList 0 999) e):fT w w' br vw ws n e:=by
 by_cases g:b=112
 ·subst g;exact rep_p h1 h0 hp
 by_cases h:b=107
 ·subst h;exact rep_k h1 h0 hp
 by_cases p:b=99
 ·subst p;exact rep_c h1 h0 hp
 by_cases i:b=104
 ·subst i;exact rep_h h1 h0 hp
 by_cases j:b=103
 ·subst j;exact rep_g h1 h0 hp
 by_cases k:b=114
 ·subst k;exact rep_r h1 h0 hp
 by_cases l:b=116
 ·subst l;exact rep_t h1 h0 hp
 by_cases m:b=118
 ·subst m;exact rep_v h1 h0 hp
 by_cases o:b=115
 ·subst o;exact rep_s h1 h0 hp
 by_cases q:b=97
 ·subst q;exact rep_a h1 h0 hp
 have d:∀ c:UInt8,b≠c→¬(b.toNat:Int)=(c.toNat:Int):=fun c s r=>s (UInt8.toNat_inj.1 (by omega))
 obtain⟨v,r,t,u⟩:=hp.2.2.2.2.2.2.2.2.2.2 (d 112 g) (d 107 h) (d 99 p) (d 104 i) (d 103 j) (d 114 k) (d 116 l) (d 118 m) (d 115 o) (d 97 q)
 refine L9 h1 (P:=⟨(b.toNat:Int),aJ (wrd ws 1) 0 (n-1),jM (wrd ws (nxt ws 1)) n,aJ (wrd ws (nxt ws (nxt ws 1))) 0 10,aJ (wrd ws (nxt ws (nxt ws (nxt ws 1)))) 0 999,0,(0,0,⟨#[]⟩),0,0,0,[],[],[]⟩) ?_ r ⟨t _ List.mem_cons_self,World.ownsRow_nil _ _ _ _,World.ownsRow_nil _ _ _ _,World.ownsRow_nil _ _ _ _⟩ u;intro hf;obtain⟨_,a⟩:=Iz h1 hf
 have f:∀ c:UInt8,b≠c→¬(ws.getD 0 Ze).toList=[c]:=fun c s r=>s (by rw[h0] at r;simpa using r)
 rcases a with a|a|a
 ·exact f 113 hq a
 ·exact f 109 hm a
 ·unfold qX at a;simp only[Bool.or_eq_true,beq_iff_eq] at a;rcases a with ((((((((a|a)|a)|a)|a)|a)|a)|a)|a)|a
  ·exact f 112 g a
  ·exact f 107 h a
  ·exact f 99 p a
  ·exact f 104 i a
  ·exact f 103 j a
  ·exact f 114 k a
  ·exact f 116 l a
  ·exact f 118 m a
  ·exact f 115 o a
  ·exact f 97 q a
end
structure M1 (w w1:World) (br:Nat) (vw:Value) (ws:List ByteArray) (nx:Nat) (n:Int) (wr:Bool):Prop where
 rdr:bf w1 br vw ws nx n wr
 zero:dD w1 w.heap.size (jc 0)
 kp:Kp [br] w w1
 lt:∀ k,vw.ownBlock=some k→k<w.heap.size
 blt:br<w.heap.size
section
variable {w w1 w2:World} {br:Nat} {vw:Value} {ws:List ByteArray} {nx nx':Nat} {n:Int} {wr wr':Bool}
theorem M1.start (h:bf w br vw ws nx n wr):M1 w (w.alloc (.cells (jc 0) 68)) br vw ws nx n wr:=by
 have b1:Below w.heap.size w (w.alloc (.cells (jc 0) 68)):=(Below.refl _ w).alloc (Nat.le_refl _) _
 exact⟨h.below b1,⟨rfl,heap_alloc_new w _⟩,Kp.of_below b1,h.words.lt,lt_of_block h.block⟩
theorem M1.call (h:M1 w w1 br vw ws nx n wr) (k:bG w1 w2 br vw ws nx' n wr'):M1 w w2 br vw ws nx' n wr' :=
 ⟨k.1,h.zero.kp k.2 (by have:=h.blt;simp;omega),h.kp.trans' k.2,h.lt,h.blt⟩
theorem M1.wrong (h:M1 w w1 br vw ws nx n wr) (x:Bool):M1 w (w1.setCell ⟨br,3,O⟩ (.bool x)) br vw ws nx n x :=
 h.call ⟨h.rdr.rQ x,(Kp.refl [br] w1).set br 3 _ (.inl (by simp))⟩
variable {a0 a1 a2 a3 a4 a5 a6 a7 a8 a9 a10 a11 a12 a13 a14:Value}
theorem M1.fin (h:M1 w w1 br vw ws nx n wr):bG w (jD w1 w.heap.size 0 [a0,a1,a2,a3,a4,a5,a6,a7,a8,a9,a10,a11,a12,a13,a14]) br vw ws nx n wr∧(loadVar 68 ⟨w.heap.size,0,O⟩).run Tryz.prog (jD w1 w.heap.size 0 [a0,a1,a2,a3,a4,a5,a6,a7,a8,a9,a10,a11,a12,a13,a14])=.ok (.agg #[a0,a1,a2,a3,a4,a5,a6,a7,a8,a9,a10,a11,a12,a13,a14]) (jD w1 w.heap.size 0 [a0,a1,a2,a3,a4,a5,a6,a7,a8,a9,a10,a11,a12,a13,a14]) :=
 ⟨Ak (Nat.le_refl _) (by have:=h.blt;omega) (fun k a b=>by have:=h.lt k a;simp at b;omega) _ _ _ ⟨h.rdr,h.kp⟩,by
  have e:yM (jc 0) 0 [a0,a1,a2,a3,a4,a5,a6,a7,a8,a9,a10,a11,a12,a13,a14]=#[a0,a1,a2,a3,a4,a5,a6,a7,a8,a9,a10,a11,a12,a13,a14]:=by simp[yM,jc]
  have q:=qY (pG [a0,a1,a2,a3,a4,a5,a6,a7,a8,a9,a10,a11,a12,a13,a14] w1 _ 0 h.zero);rw[e] at q;exact q⟩
end
theorem xY.kp {u u':World} {base base':Nat} {P:Pm} {vl vg vo vL:Value} {S:List Nat} (h:xY u base P vl vg vo vL) (k:Kp S u u') (hS:∀ x∈S,x<base) (hb:base'≤base):xY u' base' P vl vg vo vL :=
 ⟨fB (iJ h.lives k hS) hb,fB (iJ h.grp k hS) hb,fB (iJ h.old k hS) hb,fB (iJ h.log k hS) hb⟩
section
theorem Oh (br:Nat) (vw:Value) (ws:List ByteArray) (n:Int) (w:World) (h:bf w br vw ws 0 n false) (hl:ws.length≤100000) (hz:∀ x∈ws,x.size≤1000) (hn3:3≤n) (hn7:n≤7) (h1:1≤ws.length) (s0:ByteArray) (hs:ws.getD 0 Ze=s0) (h8:s0.size=1) (w1:World) (hr:bf w1 br vw ws 1 n false) :
  ((s0.toList==[113])=true∨(s0.toList==[109])=true→Calls Tryz.prog 70 #[Zp (some ⟨br,0,O⟩),I .u8 (s0[0].toNat:Int)] w1 fun e w'=>fT w1 w' br vw ws n e) ∧
  ((s0.toList==[113])=false→(s0.toList==[109])=false→Calls Tryz.prog 71 #[Zp (some ⟨br,0,O⟩),I .u8 (s0[0].toNat:Int)] w1 fun e w'=>fT w1 w' br vw ws n e):=by
 have d:s0.toList=[s0[0]]:=by
  rw[ByteArray.toList_eq];have:=ext1 s0 0 (by omega)
  rw[← this]
  congr 1
  rw[show (0:Nat)+1=s0.size by omega]
  simp
 have b:(ws.getD 0 Ze).toList=[s0[0]]:=by rw[hs,d]
 refine⟨fun c=>?_,fun j k=>?_⟩
 ·rcases c with c|c
  ·rw[beq_iff_eq,d] at c;have a:s0[0]=113:=by simpa using c
   rw[a];refine (Ao br vw ws 1 n false w1 hr hl hz).mono ?_;rintro e l ⟨f,g⟩;exact cl_q h1 (by rw[b,a]) f g
  ·rw[beq_iff_eq,d] at c;have a:s0[0]=109:=by simpa using c
   rw[a];refine (Am br vw ws 1 n false w1 hr hl hz).mono ?_;rintro e l ⟨f,g⟩;exact cl_m h1 (by rw[b,a]) f g
 ·refine (Bq br vw ws 1 n false w1 hr hl hz hn3 hn7 (s0[0].toNat:Int)).mono ?_;intro e l hp;rw[beq_eq_false_iff_ne,d] at j k;exact OH h1 s0[0] b (fun i=>j (by rw[i])) (fun i=>k (by rw[i])) hp
theorem E5 (br:Nat) (vw:Value) (ws:List ByteArray) (n:Int) (w:World) (h:bf w br vw ws 0 n false) (hl:ws.length≤100000) (hz:∀ x∈ws,x.size≤1000) (hn3:3≤n) (hn7:n≤7) (h1:1≤ws.length):Calls Tryz.prog 40 #[Zp (some ⟨br,0,O⟩)] w fun e w'=>fT w w' br vw ws n e:=by
 have HW:Hid (∀ w',bf w' br vw ws 0 n false→Calls Tryz.prog 69 #[Zp (some ⟨br,0,O⟩)] w' fun e S=>e=Zr (Z (ws.getD 0 Ze))∧bG w' S br vw ws 1 n false):=fun w' q=>by
  refine (lW br vw ws 0 n false w' q hl).mono ?_;rintro e r ⟨T,o⟩;have e1:nxt ws 0=1:=by unfold nxt;rw[if_pos (by omega)]
  have e2:(false||!decide (0<ws.length))=false:=by rw[decide_eq_true (by omega)];rfl
  rw[e1,e2] at o;exact⟨T,o⟩
 have HA:=ah (Oh br vw ws n w h hl hz hn3 hn7 h1 _ rfl);have HF:Hid (¬(ws.getD 0 Ze).size=1→¬0<(bM (ws.getD 0 Ze)).size):=fun s hf=>s (Iz h1 hf).1
 have aa:(ws.getD 0 Ze).size≤1000:=kK (nx:=0) hz
 have R:=M1.start h;clear hz;have ab:Hid (∀ e w',fT w w' br vw ws n e→fT w w' br vw ws n e):=fun _ _ q=>q
 have U:Hid (∀ (e:Ending) (w':World) (P:Pm) (t u v y:Value) (nx:Nat),¬0<(bM (ws.getD 0 Ze)).size→e=Zr (.agg (pmC P t u v y))→xY w' (w.heap.size+2) P t u v y→bG w w' br vw ws nx n true→fT w w' br vw ws n e):=fun e w' P t u v y nx hF T a i=>L9 h1 hF T a i
 generalize ws.getD 0 Ze=p at *;go_enter Tryz.func40,Tryz.ntmps40;simp only[jc] at R;go_wp2_with fail;generalize w.alloc _=wA at *;refine (HW.out _ R.rdr).mono ?_;rintro e w1 ⟨rfl,hP⟩;have b:=R.call hP;clear R hP;by_cases s:p.size=1
 ·have V:((p.size:Int) != 1)=false:=by rw[s];rfl
  have ac:(0:Int)<(p.size:Int):=by omega
  obtain⟨d,j⟩:=HA.out s w1 b.rdr
  cases q1:(p.toList==[113])
  ·cases q2:(p.toList==[109])
   focus
    have HC:=ah (j q1 q2)
   rotate_left
   focus
    have HC:=ah (d (.inr q2))
   rotate_left
   all_goals
    clear d j;go_wp2_with fail;refine HC.out.mono ?_;intro e r o;obtain⟨P,t,u,v,y,k,l,rfl,a,i,z,A⟩:=o
    obtain⟨B,C,rfl⟩:=aj a.lives
    obtain⟨ag,D,rfl⟩:=aj a.grp
    obtain⟨E,F,rfl⟩:=aj a.old
    obtain⟨G,H,rfl⟩:=aj a.log
    have c:=b.call i;obtain⟨y0,y1,y2,y3,y4,y5,y6,y7,y8,y9,K,L,M,N,Q,yf⟩:=c.zero.all
    have f:=ah (c.fin (a0:=I .u8 P.kind) (a1:=I J P.frm) (a2:=Y B P.lives.length C) (a3:=I J P.epoch) (a4:=I J P.view) (a5:=I J P.place) (a6:=I J P.ent.1) (a7:=I J P.ent.2.1) (a8:=Z P.ent.2.2) (a9:=I J P.commit) (a10:=I J P.normal) (a11:=I J P.life) (a12:=Y ag P.grp.length D) (a13:=Y E P.old.length F) (a14:=Y G P.log.length H));have W:=b.kp.size;have X:=ah (a.kp (base':=w.heap.size+2) (oh (g:=w.heap.size) [I .u8 P.kind,I J P.frm,Y B P.lives.length C,I J P.epoch,I J P.view,I J P.place,I J P.ent.1,I J P.ent.2.1,Z P.ent.2.2,I J P.commit,I J P.normal,I J P.life,Y ag P.grp.length D,Y E P.old.length F,Y G P.log.length H] r 0) (fun x hx=>by simp at hx;omega) (by omega))
    have HI:=ah z;have m:=ah A;clear b c i a z A;simp only[pmC];go_wp2_with fail;refine bodyPost_ret (dO rfl _ _ _ rfl f.out.2) rfl ?_;exact⟨P,_,_,_,_,k,l,rfl,X.out,f.out.1,HI.out,m.out⟩
  ·have HC:=ah (d (.inl q1));clear d j;go_wp2_with fail;refine HC.out.mono ?_;intro e r o;obtain⟨P,t,u,v,y,k,l,rfl,a,i,z,A⟩:=o
   obtain⟨B,C,rfl⟩:=aj a.lives
   obtain⟨ag,D,rfl⟩:=aj a.grp
   obtain⟨E,F,rfl⟩:=aj a.old
   obtain⟨G,H,rfl⟩:=aj a.log
   have c:=b.call i;obtain⟨y0,y1,y2,y3,y4,y5,y6,y7,y8,y9,K,L,M,N,Q,yf⟩:=c.zero.all
   have f:=ah (c.fin (a0:=I .u8 P.kind) (a1:=I J P.frm) (a2:=Y B P.lives.length C) (a3:=I J P.epoch) (a4:=I J P.view) (a5:=I J P.place) (a6:=I J P.ent.1) (a7:=I J P.ent.2.1) (a8:=Z P.ent.2.2) (a9:=I J P.commit) (a10:=I J P.normal) (a11:=I J P.life) (a12:=Y ag P.grp.length D) (a13:=Y E P.old.length F) (a14:=Y G P.log.length H));have W:=b.kp.size;have X:=ah (a.kp (base':=w.heap.size+2) (oh (g:=w.heap.size) [I .u8 P.kind,I J P.frm,Y B P.lives.length C,I J P.epoch,I J P.view,I J P.place,I J P.ent.1,I J P.ent.2.1,Z P.ent.2.2,I J P.commit,I J P.normal,I J P.life,Y ag P.grp.length D,Y E P.old.length F,Y G P.log.length H] r 0) (fun x hx=>by simp at hx;omega) (by omega))
   have HI:=ah z;have m:=ah A;clear b c i a z A;simp only[pmC];go_wp2_with fail;refine bodyPost_ret (dO rfl _ _ _ rfl f.out.2) rfl ?_;exact⟨P,_,_,_,_,k,l,rfl,X.out,f.out.1,HI.out,m.out⟩
 ·have V:((p.size:Int) != 1)=true:=by simp[bne];omega
  have c3:=b.rdr.at 3 (by omega)
  have f3:=b.rdr.free 3;simp at c3;have c:=b.wrong true;clear b;go_upto_region 4 with fail
  generalize w1.setCell ⟨br,3,O⟩ (.bool true)=r at *;clear c3 f3;obtain⟨y0,y1,y2,y3,y4,y5,y6,y7,y8,y9,K,L,M,N,Q,yf⟩:=c.zero.all
  have f:=ah (c.fin (a0:=I .u8 0) (a1:=I J 0) (a2:=Y O 0 0) (a3:=I J 0) (a4:=I J 0) (a5:=I J 0) (a6:=I J 0) (a7:=I J 0) (a8:=Z ⟨#[]⟩) (a9:=I J 0) (a10:=I J 0) (a11:=I J 0) (a12:=Y O 0 0) (a13:=Y O 0 0) (a14:=Y O 0 0));clear c;go_wp2_with fail;refine bodyPost_ret (dO rfl _ _ _ rfl f.out.2) rfl ?_;exact U.out _ _ ⟨0,0,[],0,0,0,(0,0,⟨#[]⟩),0,0,0,[],[],[]⟩ (Y O 0 0) (Y O 0 0) (Y O 0 0) (Y O 0 0) 1 (HF.out s) rfl ⟨World.ownsRow_nil _ _ _ _,World.ownsRow_nil _ _ _ _,World.ownsRow_nil _ _ _ _,World.ownsRow_nil _ _ _ _⟩ f.out.1
end
theorem NH (s:ByteArray) (c:Int):1≤(bU s c).length:=by unfold bU;simp
theorem NG (s:ByteArray) (c:Int):(bU s c).length≤s.size+1:=by
 unfold bU;rw[List.length_append];have:=(uM s c s.size).2
 simp;omega
def lN (w w':World) (t:ByteArray) (n:Int) (e:Ending):Prop :=
 Below w.heap.size w w'∧∃ P vl vg vo vL,e=Zr (.tuple #[.agg (pmC P vl vg vo vL),.bool (decide (aZ t n≠[]))])∧xY w' w.heap.size P vl vg vo vL∧(aZ t n≠[]→oL n (aZ t n) P)
theorem L8 (t:ByteArray) (n:Int) (w:World) (hn3:3≤n) (hn7:n≤7):Calls Tryz.prog 17 #[Z t,I J n] w fun e w'=>lN w w' t n e:=by
 have m:Below w.heap.size w (w.alloc (.cells mz0 68)):=(Below.refl _ w).alloc (Nat.le_refl _) _
 have o:dD (w.alloc (.cells mz0 68)) w.heap.size (jc 0):=⟨rfl,heap_alloc_new w _⟩
 by_cases h4:400<t.size
 ·have a2:(400:Int)<(t.size:Int):=by omega
  have HW:Hid (aZ t n=[]):=by unfold Hid aZ;rw[if_pos h4]
  have HP:Hid (∀ e w',Below w.heap.size w w'→e=Zr (.tuple #[.agg (pmC ⟨0,0,[],0,0,0,(0,0,⟨#[]⟩),0,0,0,[],[],[]⟩ (Y O 0 0) (Y O 0 0) (Y O 0 0) (Y O 0 0)),.bool false])→lN w w' t n e):=fun e w' hb he =>
   ⟨hb,⟨0,0,[],0,0,0,(0,0,⟨#[]⟩),0,0,0,[],[],[]⟩,_,_,_,_,by rw[he,HW.out];simp,⟨World.ownsRow_nil _ _ _ _,World.ownsRow_nil _ _ _ _,World.ownsRow_nil _ _ _ _,World.ownsRow_nil _ _ _ _⟩,fun F=>absurd HW.out F⟩
  generalize lN w=RP at *;go_enter Tryz.func17,Tryz.ntmps17;go_upto_region 1 with fail
  generalize w.alloc (.cells mz0 68)=wA at *;have p:dD wA w.heap.size mz0:=o
  obtain⟨y0,y1,y2,y3,y4,y5,y6,y7,y8,y9,ab,ac,ad,ae,af,yf⟩:=p.all
  clear p;have G:=ah (kG o (I .u8 0) (I J 0) (Y O 0 0) (I J 0) (I J 0) (I J 0) (I J 0) (I J 0) (Z ⟨#[]⟩) (I J 0) (I J 0) (I J 0) (Y O 0 0) (Y O 0 0) (Y O 0 0));have H:=ah (fP (Nat.le_refl w.heap.size) [I .u8 0,I J 0,Y O 0 0,I J 0,I J 0,I J 0,I J 0,I J 0,Z ⟨#[]⟩,I J 0,I J 0,I J 0,Y O 0 0,Y O 0 0,Y O 0 0] wA 0 m);clear o m;go_wp2;exact bodyPost_ret (dU rfl _ _ _ rfl G.out) rfl (HP.out _ _ H.out rfl)
 ·have a2:¬(400:Int)<(t.size:Int):=by omega
  have HW:Hid (aZ t n=if mI (bU t 32) n=true then bU t 32 else []):=by unfold Hid;rw[rT,if_neg h4]
  have HS:Hid (∀ w,Calls Tryz.prog 39 #[Z t,I .u8 32] w fun e w'=>∃ v,e=Zr v∧w'.ownsRow w.heap.size 9 1 v (bU t 32).length ((bU t 32).map Value.string)∧Below w.heap.size w w'):=fun w=>sG t 32 w (by omega)
  have ai:(bU t 32).length≤100000:=by have:=NG t 32;omega
  have ak:∀ x∈bU t 32,x.size≤1000:=fun x hx=>by have:=mM t 32 x hx;omega
  have u:=NH t 32;have bc:((bU t 32).length:Int)≤100000:=by omega
  have HP:Hid (∀ e w',lN w w' t n e=lN w w' t n e):=fun _ _=>rfl
  have a3:Hid (∀ e w' P vl vg vo vL,Below w.heap.size w w'→mI (bU t 32) n=true→e=Zr (.tuple #[.agg (pmC P vl vg vo vL),.bool true])→xY w' w.heap.size P vl vg vo vL→oL n (bU t 32) P→lN w w' t n e):=fun e w' P vl vg vo vL hb y he ho hm=>by
   have e1:aZ t n=bU t 32:=by rw[HW.out,if_pos y]
   have e2:aZ t n≠[]:=by rw[e1];intro F;rw[F] at u;simp at u
   exact⟨hb,P,vl,vg,vo,vL,by rw[he,decide_eq_true e2],ho,fun _=>by rw[e1];exact hm⟩
  have am:Hid (∀ e w',Below w.heap.size w w'→mI (bU t 32) n=false→e=Zr (.tuple #[.agg (pmC ⟨0,0,[],0,0,0,(0,0,⟨#[]⟩),0,0,0,[],[],[]⟩ (Y O 0 0) (Y O 0 0) (Y O 0 0) (Y O 0 0)),.bool false])→lN w w' t n e):=fun e w' hb y he=>by
   have e1:aZ t n=[]:=by rw[HW.out,y];rfl
   exact⟨hb,⟨0,0,[],0,0,0,(0,0,⟨#[]⟩),0,0,0,[],[],[]⟩,_,_,_,_,by rw[he,e1];simp,⟨World.ownsRow_nil _ _ _ _,World.ownsRow_nil _ _ _ _,World.ownsRow_nil _ _ _ _,World.ownsRow_nil _ _ _ _⟩,fun F=>absurd e1 F⟩
  have a4:Hid (∀ br vw w,bf w br vw (bU t 32) 0 n false→Calls Tryz.prog 40 #[Zp (some ⟨br,0,O⟩)] w fun e w'=>fT w w' br vw (bU t 32) n e):=fun br vw w h=>E5 br vw (bU t 32) n w h ai ak hn3 hn7 u
  clear ak ai u HW HP;generalize lN w=RP at *;generalize bU t 32=r at *;go_enter Tryz.func17,Tryz.ntmps17;go_wp2_with fail;generalize hwA:w.alloc (.cells mz0 68)=wA at *;refine (HS.out _).mono ?_;rintro e s ⟨v,rfl,K,L⟩;obtain⟨av,cv,rfl⟩:=aj K
  have a7:wA.heap.size=w.heap.size+1:=by rw[← hwA];simp
  clear hwA;have q:=Strs.bX K;have a8:=L.size;have z:Below s.heap.size s (s.alloc (.cells #[Y av r.length cv,I J 0,I J n,.bool false] 91)):=(Below.refl _ s).alloc (Nat.le_refl _) _
  have an:bf (s.alloc (.cells #[Y av r.length cv,I J 0,I J n,.bool false] 91)) s.heap.size (Y av r.length cv) r 0 n false :=
   ⟨heap_alloc_new s _,q.below z,fun k y F=>by have:=q.lt k y;simp at F;omega,Nat.zero_le _⟩
  have B:Below w.heap.size w s:=m.trans (L.mono m.size)
  have p:=o.kp (Kp.of_below (S:=[]) L) (by simp)
  have ap:=p.kp (Kp.of_below (S:=[]) z) (by simp)
  have C:=B.trans (z.mono B.size);clear o p K q m;go_wp2_with fail;generalize hw2:s.alloc _=w2 at *;have a9:w2.heap.size=s.heap.size+1:=by rw[← hw2];simp
  clear hw2 z;refine (a4.out _ _ _ an).mono ?_;rintro e D ⟨P,vl,vg,vo,vL,M,a5,rfl,hO,hR,hI,hM⟩;obtain⟨N,Q,rfl⟩:=aj hO.lives
  obtain⟨ag,R,rfl⟩:=aj hO.grp
  obtain⟨T,U,rfl⟩:=aj hO.old
  obtain⟨V,W,rfl⟩:=aj hO.log
  have d:=rV C hR.2 (by intro x hx;simp at hx;omega)
  have X:=ap.kp hR.2 (by simp;omega)
  have a6:=hR.1;clear ap an hR C;simp only[pmC];have A:Below D.heap.size D (D.alloc (.cells (pqC P N Q ag R T U V W) 68)):=(Below.refl _ D).alloc (Nat.le_refl _) _
  have aq:dD (D.alloc (.cells (pqC P N Q ag R T U V W) 68)) D.heap.size (pqC P N Q ag R T U V W):=⟨rfl,heap_alloc_new D _⟩
  have aa:=a6.below A;have f:=X.kp (Kp.of_below (S:=[]) A) (by simp)
  have a:=d.trans (A.mono d.size);have ar:=hO.kp (base':=w.heap.size+1) (Kp.of_below (S:=[]) A) (by simp) (by omega)
  have ba:=d.size;have bb:=lt_of_block X.2;clear X d hO;have HI:=ah hI;have HM:=ah hM;clear hI hM;go_wp2_with fail;generalize D.alloc (.cells (pqC P N Q ag R T U V W) 68)=E at *;have c0:=aa.at 0 (by omega)
  have c1:=aa.at 1 (by omega)
  have c3:=aa.at 3 (by omega)
  simp at c0 c1 c3;cases a5
  ·by_cases i:M=r.length
   focus
    have aw:((M:Int) != (r.length:Int))=false:=by rw[i];simp
    have ax:Hid (mI r n=true):=HI.out.1 ⟨rfl,i⟩
    have az:=ah i;clear i;go_quiet (fail);have j:=below_drewN (Below.refl E.heap.size E) nq;have c:=f.kp (Kp.of_below (S:=[]) j) (by simp)
    have a0:=aq.kp (Kp.of_below (S:=[]) j) (by simp)
    have b:=a.trans (j.mono a.size);have a1:=ar.kp (base':=w.heap.size+1) (Kp.of_below (S:=[]) j) (by simp) (Nat.le_refl _)
   rotate_left
   focus
    have aw:((M:Int) != (r.length:Int))=true:=by simp[bne];omega
    have az:=ah i;clear i;go_quiet (fail);have j:=below_drewN (Below.refl E.heap.size E) nq;have c:=f.kp (Kp.of_below (S:=[]) j) (by simp)
    have b:=a.trans (j.mono a.size)
   rotate_left
   all_goals
    generalize E.drewN nq=w5 at *;have l:dD w5 w.heap.size mz0:=c
    obtain⟨y0,y1,y2,y3,y4,y5,y6,y7,y8,y9,ab,ac,ad,ae,af,yf⟩:=l.all
   ·obtain⟨x0,x1,x2,x3,x4,x5,x6,x7,x8,x9,bd,be,bg,bh,bi,xf⟩:=a0.all
    have G:=ah (kG c (I .u8 P.kind) (I J P.frm) (Y N P.lives.length Q) (I J P.epoch) (I J P.view) (I J P.place) (I J P.ent.1) (I J P.ent.2.1) (Z P.ent.2.2) (I J P.commit) (I J P.normal) (I J P.life) (Y ag P.grp.length R) (Y T P.old.length U) (Y V P.log.length W));have H:=ah (fP (Nat.le_refl w.heap.size) [I .u8 P.kind,I J P.frm,Y N P.lives.length Q,I J P.epoch,I J P.view,I J P.place,I J P.ent.1,I J P.ent.2.1,Z P.ent.2.2,I J P.commit,I J P.normal,I J P.life,Y ag P.grp.length R,Y T P.old.length U,Y V P.log.length W] w5 0 b);have HO:=ah (a1.kp (base':=w.heap.size) (oh (g:=w.heap.size) [I .u8 P.kind,I J P.frm,Y N P.lives.length Q,I J P.epoch,I J P.view,I J P.place,I J P.ent.1,I J P.ent.2.1,Z P.ent.2.2,I J P.commit,I J P.normal,I J P.life,Y ag P.grp.length R,Y T P.old.length U,Y V P.log.length W] w5 0) (fun x hx=>by simp at hx;omega) (by omega))
    clear f c l a b j c0 c1 c3 aq a0 ar a1;go_wp2;exact bodyPost_ret (dU rfl _ _ _ rfl G.out) rfl (a3.out _ _ P _ _ _ _ H.out ax.out rfl HO.out (HM.out ax.out))
   ·have G:=ah (kG c (I .u8 0) (I J 0) (Y O 0 0) (I J 0) (I J 0) (I J 0) (I J 0) (I J 0) (Z ⟨#[]⟩) (I J 0) (I J 0) (I J 0) (Y O 0 0) (Y O 0 0) (Y O 0 0));have H:=ah (fP (Nat.le_refl w.heap.size) [I .u8 0,I J 0,Y O 0 0,I J 0,I J 0,I J 0,I J 0,I J 0,Z ⟨#[]⟩,I J 0,I J 0,I J 0,Y O 0 0,Y O 0 0,Y O 0 0] w5 0 b);clear f c l a b j c0 c1 c3;go_wp2;exact bodyPost_ret (dU rfl _ _ _ rfl G.out) rfl (am.out _ _ H.out (by cases y:mI r n;rfl;exact absurd (HI.out.2 y).2 az.out) rfl)
  ·go_quiet (fail);have j:=below_drewN (Below.refl E.heap.size E) nq;have c:=f.kp (Kp.of_below (S:=[]) j) (by simp)
   have b:=a.trans (j.mono a.size);generalize E.drewN nq=w5 at *;have l:dD w5 w.heap.size mz0:=c
   obtain⟨y0,y1,y2,y3,y4,y5,y6,y7,y8,y9,ab,ac,ad,ae,af,yf⟩:=l.all
   have G:=ah (kG c (I .u8 0) (I J 0) (Y O 0 0) (I J 0) (I J 0) (I J 0) (I J 0) (I J 0) (Z ⟨#[]⟩) (I J 0) (I J 0) (I J 0) (Y O 0 0) (Y O 0 0) (Y O 0 0));have H:=ah (fP (Nat.le_refl w.heap.size) [I .u8 0,I J 0,Y O 0 0,I J 0,I J 0,I J 0,I J 0,I J 0,Z ⟨#[]⟩,I J 0,I J 0,I J 0,Y O 0 0,Y O 0 0,Y O 0 0] w5 0 b);clear f c l a b j c0 c1 c3;go_wp2;exact bodyPost_ret (dU rfl _ _ _ rfl G.out) rfl (am.out _ _ H.out (by cases y:mI r n;rfl;exact absurd (HI.out.2 y).1 (by simp)) rfl)
section
variable {w w0:World} {b bl:Nat} {W F:List Nat} {R:Rp} {V:Rv} {P:Pm} {vl vg vo vL:Value}
def jB (R:Rp) (l:List Int) (k:Nat):Rp:=(List.range k).foldl (Rp.gY l) R
theorem Ci (R:Rp) (l:List Int) (k:Nat):jB R l (k+1)=Rp.gY l (jB R l k) k:=by unfold jB;rw[List.range_succ,List.foldl_append];rfl
theorem Qe (l:List Int) (R:Rp) (k:Nat):(Rp.gY l R k).id=R.id∧(Rp.gY l R k).n=R.n∧(Rp.gY l R k).lives.length=R.lives.length∧(Rp.gY l R k).acks.length=R.acks.length:=by
 unfold Rp.gY;split
 ·exact⟨rfl,rfl,by simp,by simp⟩
 ·exact⟨rfl,rfl,rfl,rfl⟩
theorem LX (R:Rp) (l:List Int):∀ k,(jB R l k).id=R.id∧(jB R l k).n=R.n∧(jB R l k).lives.length=R.lives.length∧(jB R l k).acks.length=R.acks.length
 | 0=>⟨rfl,rfl,rfl,rfl⟩
 | k+1=>by
  rw[Ci];obtain⟨a1,a2,a3,a4⟩:=Qe l (jB R l k) k
  obtain⟨b1,b2,b3,b4⟩:=LX R l k
  exact⟨a1.trans b1,a2.trans b2,a3.trans b3,a4.trans b4⟩
theorem Bw (h:Rst w0 w b bl W F R) (hR:Ok R) (hP:dX w0 W F P vl vg vo vL) (hll:(P.lives.length:Int)=R.n) :
  Calls Tryz.prog 20 #[Zp (some ⟨b,0,O⟩),vl] w fun e w'=>e=Zr (.tuple #[])∧Rst w0 w' b bl W F (R.learn P.lives):=by
 obtain⟨d,l⟩:∃ m:Nat,R.n=m:=⟨R.n.toNat,by have:=hR.n3;omega⟩
 have n7:d≤7:=by have:=hR.n7;omega
 have r:P.lives.length=d:=by omega
 have c:R.lives.length=d:=by have:=hR.ll;omega
 have HL:Hid (R.learn P.lives=jB R P.lives d):=by unfold Hid Rp.learn jB;rw[l];rfl
 have HS:Hid (∀ k,jB R P.lives (k+1)=Rp.gY P.lives (jB R P.lives k) k):=Ci R P.lives
 have s:Hid (∀ k,(jB R P.lives k).id=R.id∧(jB R P.lives k).n=(d:Int)∧(jB R P.lives k).lives.length=d):=fun k=>by
  obtain⟨a1,a2,a3,_⟩:=LX R P.lives k
  exact⟨a1,a2.trans l,a3.trans c⟩
 have t:=ah r;obtain⟨al,cl,ag,cg,ao,co,aL,cL,rfl,rfl,rfl,rfl⟩:=hP.cells
 have H0:Hid (jB R P.lives 0=R):=rfl
 clear l hll r c;go_enter Tryz.func20,Tryz.ntmps20;go_wp2_with fail;go_loopw [4] (fun i wr=>∃ k:Nat,k≤d∧i=I J k∧Rst w0 wr b bl W F (jB R P.lives k)) (fun i _=>d-(intOf i).toNat)
 case atStart=>exact⟨0,Nat.zero_le _,rfl,h⟩
 case round =>
  obtain⟨k,hk,rfl,E⟩:=hrel
  have D:=ah E;obtain⟨f1,f2,G⟩:=s.out k
  have o:=ah (HS.out k);obtain⟨WQ,FQ,VQ,f,kQ,mQ,H⟩:=E.pm hP
  have c0:=f.c0;have c1:=f.c1;have c2:=f.c2;rw[f1] at c0;rw[f2] at c1;obtain⟨K,u⟩:=f.g2
  rw[u,G] at c2;clear E f1 f2;by_cases x:k<d
  ·have g2:k<P.lives.length:=by rw[t.out];exact x
   have g3:k<(jB R P.lives k).lives.length:=by rw[G];exact x
   have e1:P.lives.getD k 0=P.lives[k]:=by simp[List.getD,g2]
   have e2:(jB R P.lives k).lives.getD k 0=(jB R P.lives k).lives[k]:=by simp[List.getD,g3]
   have a:Hid (Rp.gY P.lives (jB R P.lives k) k=if ((k:Int) != (jB R P.lives k).id)&&decide ((jB R P.lives k).lives[k]<P.lives[k]) then { jB R P.lives k with lives:=(jB R P.lives k).lives.set k P.lives[k],acks:=(jB R P.lives k).acks.set k 0 } else jB R P.lives k):=by
    unfold Hid Rp.gY;rw[e1,e2]
   rw[(s.out k).1] at a;obtain⟨b3,o3,y,L,z3⟩:=H.lives.get k g2
   have c:=f.lives.rd;rw[u] at c;obtain⟨b4,o4,j,M,N⟩:=Ints.get c k g3
   simp only[Option.some.injEq,Addr.mk.injEq] at j;obtain⟨rfl,rfl,_⟩:=j
   simp only[Nat.zero_add] at N;subst y;have zf:wr.frozen? ⟨bl,k,O⟩=false:=f.lives.frozen k
   have HQ:=ah f;have z:=ah kQ;have Q:=ah mQ;have S:=f.d1;have ac:¬b=bl:=S
   have ad:¬bl=b:=fun hc=>S hc.symm
   have T:=ah H;have j1:(0:Int)≤(k:Int):=by omega
   have j2:(k:Int)<(d:Int):=by omega
   have j3:(k:Int)<(P.lives.length:Int):=by rw[t.out];omega
   have j4:(k:Int)<7:=by omega
   generalize hLk:(jB R P.lives k).lives[k]=lk at *;clear hLk c e1 e2 g3 f kQ mQ H S G;cases hq:((k:Int)==R.id)
   ·have g:((k:Int) != R.id)=true:=by simp[bne,hq]
    by_cases hp:lk<P.lives[k]
    ·rw[g,decide_eq_true hp,Bool.and_self,if_pos rfl] at a;go_wp2_with fail;go_quiet (fail);rename_i nq;have p:=HQ.out.drewN nq;have A:=z.out.aS (below_drewN (Below.refl _ wr) nq);have U:(wr.drewN nq).cell? ⟨b,2,O⟩=some (Y (some ⟨bl,0,O⟩) d K):=c2
     have V:(wr.drewN nq).cell? ⟨b3,o3+k,O⟩=some (I J P.lives[k]):=z3
     have X:(wr.drewN nq).cell? ⟨bl,k,O⟩=some (I J lk):=N
     have aa:(wr.drewN nq).frozen? ⟨bl,k,O⟩=false:=zf
     clear c0 c1 c2 z3 N zf L M HQ z T;generalize wr.drewN nq=wq at *;have ab:Hid (Rst w0 (wq.setCell ⟨bl,k,O⟩ (I J P.lives[k])) b bl W F { jB R P.lives k with lives:=(jB R P.lives k).lives.set k P.lives[k] }):=Rst.step A Q.out (Rst.of (p.Jg k P.lives[k]) ((Kp.refl _ _).set bl k _ (.inl p.wl)))
     clear p A;go_upto_region 4 with fail
     go_cut [] from 5 to 47 (fun wx=>Rst w0 wx b bl W F { jB R P.lives k with lives:=(jB R P.lives k).lives.set k P.lives[k] })
     case first =>
      go_region
      all_goals go_wp2_with fail
      all_goals go_meet
      all_goals exact ab.out.drew
     case rest =>
      obtain⟨WT,FT,VT,B,kT,mT⟩:=hcut
      have ca:∃ v,wc.cell? ⟨b,55+k,O⟩=some v:=⟨_,B.sS k (by omega)⟩
      obtain⟨va,ca⟩:=ca
      have cf:=B.free (55+k);have C:Hid (Rst w0 (wc.setCell ⟨b,55+k,O⟩ (I J 0)) b bl W F { jB R P.lives k with lives:=(jB R P.lives k).lives.set k P.lives[k],acks:=(jB R P.lives k).acks.set k 0 }):=Rst.step kT mT (Rst.of (B.fq k (by omega) 0) (B.qI _ _))
      clear B kT mT U V X aa;go_wp2;go_roundw
      case rel=>exact⟨k+1,by omega,by go_num,by rw[o.out,a.out];exact C.out⟩
      case measure=>simp[intOf];omega
    ·rw[g,decide_eq_false (by omega),Bool.and_false,if_neg (by decide)] at a
     go_wp2_with fail;go_quiet (fail);rename_i nq;have q:=ah (D.out.drewN nq);go_wp2;go_roundw
     case rel=>exact⟨k+1,by omega,by go_num,by rw[o.out,a.out];exact q.out⟩
     case measure=>simp[intOf];omega
   ·have g:((k:Int) != R.id)=false:=by simp[bne,hq]
    rw[g,Bool.false_and,if_neg (by decide)] at a
    go_wp2_with fail;go_quiet (fail);rename_i nq;have q:=ah (D.out.drewN nq);go_wp2;go_roundw
    case rel=>exact⟨k+1,by omega,by go_num,by rw[o.out,a.out];exact q.out⟩
    case measure=>simp[intOf];omega
  ·obtain rfl:k=d:=by omega
   rw[← HL.out] at D;go_wp2;exact bodyPost_end (results_none rfl _ _ _) rfl ⟨rfl,D.out⟩
end
end Go.Proofs.YtinaollfjiddmaaGreatDoor
