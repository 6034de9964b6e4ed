import Derived.Test.YtajakaadgagejaaGreatDoorA17
set_option maxRecDepth 100000
set_option maxHeartbeats 8000000
set_option linter.unusedVariables false
set_option linter.unusedSimpArgs false
set_option linter.unusedSectionVars false
namespace Go.Proofs.YtajakaadgagejaaGreatDoor
open Go.Value renaming int→I,slice→Y,string→Z,pointer→Zp
open Go.Ending renaming returned→Zr
open _root_.ByteArray renaming empty→Ze
open Go.IntKind renaming i64→J
open Option renaming none→O
open Go.RowKit
structure Rw where
 t:TypeId
 sz:Nat
 v:Value
 n:Nat
 xs:List Value
def iY (u:World) (base:Nat) (Rs:List Rw):Prop:=∀ r∈Rs,u.ownsRow base r.t r.sz r.v r.n r.xs
theorem iY.kp {u u':World} {base:Nat} {Rs:List Rw} {S:List Nat} (h:iY u base Rs) (k:Kp S u u') (hS:∀ x∈S,x<base):iY u' base Rs:=fun r hr=>gM (h r hr) k hS
theorem iY.cons {u:World} {base:Nat} {Rs:List Rw} {t:TypeId} {sz:Nat} {v:Value} {n:Nat} {xs:List Value} (h:iY u base Rs) (k:u.ownsRow base t sz v n xs):iY u base (⟨t,sz,v,n,xs⟩ :: Rs):=fun r hr=>by
 rcases List.mem_cons.1 hr with rfl|hr
 ·exact k
 ·exact h r hr
theorem iY.nil {u:World} {base:Nat}:iY u base []:=fun r hr=>by cases hr
def MO (w w':World) (br:Nat) (vw:Value) (ws:List ByteArray) (nx:Nat) (n:Int) (wr:Bool) (c:Array Value) (Rs:List Rw):Prop:=MS w w' br vw ws nx n wr c∧iY w' (w.heap.size+2) Rs∧w.heap.size+2≤w'.heap.size
section
variable {w w1 w2:World} {br:Nat} {vw:Value} {ws:List ByteArray} {nx nx':Nat} {n:Int} {wr wr':Bool} {c:Array Value} {Rs:List Rw}
theorem MO.start (h:aI w br vw ws nx n wr) (k:Int):MO w ((w.alloc (.cells (iy 0) 68)).alloc (.cells (iy k) 68)) br vw ws nx n wr (iy k) [] :=
 ⟨MS.start h k,iY.nil,by simp⟩
theorem MO.call (h:MO w w1 br vw ws nx n wr c Rs) (k:aJ w1 w2 br vw ws nx' n wr'):MO w w2 br vw ws nx' n wr' c Rs :=
 ⟨h.1.call k,h.2.1.kp k.2 (fun x hx=>by simp at hx;subst hx;have:=h.1.blt;omega),Nat.le_trans h.2.2 k.2.size⟩
theorem MO.own (h:MO w w1 br vw ws nx n wr c Rs) (k:aJ w1 w2 br vw ws nx' n wr') {t:TypeId} {sz:Nat} {v:Value} {m:Nat} {xs:List Value} (q:w2.ownsRow w1.heap.size t sz v m xs):MO w w2 br vw ws nx' n wr' c (⟨t,sz,v,m,xs⟩ :: Rs) :=
 ⟨(h.call k).1,(h.call k).2.1.cons (dO q h.2.2),(h.call k).2.2⟩
theorem MO.put (h:MO w w1 br vw ws nx n wr c Rs) (j:Nat) (v:Value):MO w (w1.setCell ⟨w.heap.size+1,j,O⟩ v) br vw ws nx n wr (c.setIfInBounds j v) Rs :=
 ⟨h.1.put j v,h.2.1.kp ((Kp.refl [w.heap.size+1] w1).set _ j v (.inl (by simp))) (fun x hx=>by simp at hx;omega),by have:=((Kp.refl [w.heap.size+1] w1).set (w.heap.size+1) j v (.inl (by simp))).size;have:=h.2.2;omega⟩
theorem MO.big {c':Array Value} (h:MO w w1 br vw ws nx n wr c Rs) (hR:aI w2 br vw ws nx' n wr') (hm:bB w2 (w.heap.size+1) c') (k:Kp [br,w.heap.size+1] w1 w2):MO w w2 br vw ws nx' n wr' c' Rs :=
 ⟨⟨hR,hm,h.1.zero.kp k (by have:=h.1.blt;simp;omega),h.1.kp.trans k (fun x hx hlt=>by simp at hx;rcases hx with rfl|rfl <;> first|omega|simp),h.1.lt,h.1.blt⟩,h.2.1.kp k (fun x hx=>by have:=h.1.blt;simp at hx;omega),Nat.le_trans h.2.2 k.size⟩
theorem MO.add (h:MO w w1 br vw ws nx n wr c Rs) {t:TypeId} {sz:Nat} {v:Value} {m:Nat} {xs:List Value} {b:Nat} (hb:w.heap.size+2≤b) (q:w1.ownsRow b t sz v m xs):MO w w1 br vw ws nx n wr c (⟨t,sz,v,m,xs⟩ :: Rs) :=
 ⟨h.1,h.2.1.cons (dO q hb),h.2.2⟩
theorem MO.wrong (h:MO w w1 br vw ws nx n wr c Rs) (x:Bool):MO w (w1.setCell ⟨br,3,O⟩ (.bool x)) br vw ws nx n x c Rs :=
 h.call ⟨h.1.rdr.p8 x,(Kp.refl [br] w1).set br 3 _ (.inl (by simp))⟩
variable {a0 a1 a2 a3 a4 a5 a6 a7 a8 a9 a10 a11 a12 a13 a14:Value}
theorem MO.fin (h:MO w w1 br vw ws nx n wr #[a0,a1,a2,a3,a4,a5,a6,a7,a8,a9,a10,a11,a12,a13,a14] Rs):aJ w (cZ w1 w.heap.size 0 [a0,a1,a2,a3,a4,a5,a6,a7,a8,a9,a10,a11,a12,a13,a14]) br vw ws nx n wr∧(loadVar 68 ⟨w.heap.size,0,O⟩).run Tryz.prog (cZ w1 w.heap.size 0 [a0,a1,a2,a3,a4,a5,a6,a7,a8,a9,a10,a11,a12,a13,a14])=.ok (.agg #[a0,a1,a2,a3,a4,a5,a6,a7,a8,a9,a10,a11,a12,a13,a14]) (cZ w1 w.heap.size 0 [a0,a1,a2,a3,a4,a5,a6,a7,a8,a9,a10,a11,a12,a13,a14])∧iY (cZ w1 w.heap.size 0 [a0,a1,a2,a3,a4,a5,a6,a7,a8,a9,a10,a11,a12,a13,a14]) (w.heap.size+2) Rs :=
 ⟨h.1.fin.1,h.1.fin.2,h.2.1.kp (kK _ _ _) (fun x hx=>by simp at hx;omega)⟩
end
def gW (w w':World) (br:Nat) (vw:Value) (ws:List ByteArray) (n k v1:Int) (v2:List Int) (v3 v4:Int) (nx4:Nat) (wr4:Bool) (e:Ending):Prop :=
 (k=112→∃ vl,e=Zr (.agg #[I .u8 112,I J v1,vl,I J v3,I J v4,I J (aC (wrd ws nx4) 1 10),I J (dL (wrd ws (nxt ws nx4)) n).1,I J (dL (wrd ws (nxt ws nx4)) n).2.1,Z (dL (wrd ws (nxt ws nx4)) n).2.2,I J (aC (wrd ws (nxt ws (nxt ws nx4))) 0 10),I J 0,I J 0,Y O 0 0,Y O 0 0,Y O 0 0])∧iY w' (w.heap.size+2) [⟨3,1,vl,(v2).length,(v2).map (Value.int .i64)⟩]∧aJ w w' br vw ws (nxt ws (nxt ws (nxt ws nx4))) n (((wr4||!aj (wrd ws nx4).data.toList 1 10)||!dw (wrd ws (nxt ws nx4)) n)||!aj (wrd ws (nxt ws (nxt ws nx4))).data.toList 0 10)) ∧
 (k=107→∃ vl,e=Zr (.agg #[I .u8 107,I J v1,vl,I J v3,I J v4,I J (aC (wrd ws nx4) 0 10),I J 0,I J 0,Z ⟨#[]⟩,I J 0,I J 0,I J 0,Y O 0 0,Y O 0 0,Y O 0 0])∧iY w' (w.heap.size+2) [⟨3,1,vl,(v2).length,(v2).map (Value.int .i64)⟩]∧aJ w w' br vw ws (nxt ws nx4) n (wr4||!aj (wrd ws nx4).data.toList 0 10)) ∧
 (k=99→∃ vl,e=Zr (.agg #[I .u8 99,I J v1,vl,I J v3,I J v4,I J 0,I J 0,I J 0,Z ⟨#[]⟩,I J (aC (wrd ws nx4) 0 10),I J 0,I J 0,Y O 0 0,Y O 0 0,Y O 0 0])∧iY w' (w.heap.size+2) [⟨3,1,vl,(v2).length,(v2).map (Value.int .i64)⟩]∧aJ w w' br vw ws (nxt ws nx4) n (wr4||!aj (wrd ws nx4).data.toList 0 10)) ∧
 (k=104→∃ vl,e=Zr (.agg #[I .u8 104,I J v1,vl,I J v3,I J v4,I J 0,I J 0,I J 0,Z ⟨#[]⟩,I J 0,I J 0,I J 0,Y O 0 0,Y O 0 0,Y O 0 0])∧iY w' (w.heap.size+2) [⟨3,1,vl,(v2).length,(v2).map (Value.int .i64)⟩]∧aJ w w' br vw ws nx4 n wr4) ∧
 (k=103→∃ vl,e=Zr (.agg #[I .u8 103,I J v1,vl,I J v3,I J v4,I J 0,I J 0,I J 0,Z ⟨#[]⟩,I J 0,I J 0,I J 0,Y O 0 0,Y O 0 0,Y O 0 0])∧iY w' (w.heap.size+2) [⟨3,1,vl,(v2).length,(v2).map (Value.int .i64)⟩]∧aJ w w' br vw ws nx4 n wr4) ∧
 (k=114→∃ vl,e=Zr (.agg #[I .u8 114,I J v1,vl,I J v3,I J v4,I J 0,I J 0,I J 0,Z ⟨#[]⟩,I J 0,I J 0,I J 0,Y O 0 0,Y O 0 0,Y O 0 0])∧iY w' (w.heap.size+2) [⟨3,1,vl,(v2).length,(v2).map (Value.int .i64)⟩]∧aJ w w' br vw ws nx4 n wr4) ∧
 (k=116→∃ vl,e=Zr (.agg #[I .u8 116,I J v1,vl,I J v3,I J v4,I J 0,I J 0,I J 0,Z ⟨#[]⟩,I J 0,I J 0,I J 0,Y O 0 0,Y O 0 0,Y O 0 0])∧iY w' (w.heap.size+2) [⟨3,1,vl,(v2).length,(v2).map (Value.int .i64)⟩]∧aJ w w' br vw ws nx4 n wr4) ∧
 (k=118→∃ vl vL,e=Zr (.agg #[I .u8 118,I J v1,vl,I J v3,I J v4,I J 0,I J 0,I J 0,Z ⟨#[]⟩,I J (aC (wrd ws (nxt ws nx4)) 0 10),I J (aC (wrd ws nx4) 0 999),I J 0,Y O 0 0,Y O 0 0,vL])∧iY w' (w.heap.size+2) [⟨66,3,vL,(bT (wrd ws (nxt ws (nxt ws nx4))) n).length,aA (bT (wrd ws (nxt ws (nxt ws nx4))) n)⟩,⟨3,1,vl,(v2).length,(v2).map (Value.int .i64)⟩]∧aJ w w' br vw ws (nxt ws (nxt ws (nxt ws nx4))) n (((wr4||!aj (wrd ws nx4).data.toList 0 999)||!aj (wrd ws (nxt ws nx4)).data.toList 0 10)||!bG (wrd ws (nxt ws (nxt ws nx4))) n||decide (((bT (wrd ws (nxt ws (nxt ws nx4))) n).length:Int)<aC (wrd ws (nxt ws nx4)) 0 10))) ∧
 (k=115→∃ vl vg vo vL,e=Zr (.agg #[I .u8 115,I J v1,vl,I J v3,I J v4,I J 0,I J 0,I J 0,Z ⟨#[]⟩,I J (aC (wrd ws (nxt ws (nxt ws nx4))) 0 10),I J 0,I J 0,vg,vo,vL])∧iY w' (w.heap.size+2) [⟨66,3,vL,(bT (wrd ws (nxt ws (nxt ws (nxt ws nx4)))) n).length,aA (bT (wrd ws (nxt ws (nxt ws (nxt ws nx4)))) n)⟩,⟨3,1,vg,(bY (wrd ws nx4) n).length,(bY (wrd ws nx4) n).map (Value.int .i64)⟩,⟨3,1,vo,(fq (wrd ws (nxt ws nx4)) n).length,(fq (wrd ws (nxt ws nx4)) n).map (Value.int .i64)⟩,⟨3,1,vl,(v2).length,(v2).map (Value.int .i64)⟩]∧aJ w w' br vw ws (nxt ws (nxt ws (nxt ws (nxt ws nx4)))) n ((((wr4||!aQ (wrd ws nx4).data.toList n)||!dG (wrd ws (nxt ws nx4)) n)||!aj (wrd ws (nxt ws (nxt ws nx4))).data.toList 0 10)||!bG (wrd ws (nxt ws (nxt ws (nxt ws nx4)))) n||decide (((bT (wrd ws (nxt ws (nxt ws (nxt ws nx4)))) n).length:Int)<aC (wrd ws (nxt ws (nxt ws nx4))) 0 10))) ∧
 (k=97→∃ vl vg vo vL,e=Zr (.agg #[I .u8 97,I J v1,vl,I J v3,I J v4,I J 0,I J 0,I J 0,Z ⟨#[]⟩,I J (aC (wrd ws (nxt ws (nxt ws (nxt ws nx4)))) 0 10),I J 0,I J (aC (wrd ws nx4) 1 999),vg,vo,vL])∧iY w' (w.heap.size+2) [⟨66,3,vL,(bT (wrd ws (nxt ws (nxt ws (nxt ws (nxt ws nx4))))) n).length,aA (bT (wrd ws (nxt ws (nxt ws (nxt ws (nxt ws nx4))))) n)⟩,⟨3,1,vg,(bY (wrd ws (nxt ws nx4)) n).length,(bY (wrd ws (nxt ws nx4)) n).map (Value.int .i64)⟩,⟨3,1,vo,(fq (wrd ws (nxt ws (nxt ws nx4))) n).length,(fq (wrd ws (nxt ws (nxt ws nx4))) n).map (Value.int .i64)⟩,⟨3,1,vl,(v2).length,(v2).map (Value.int .i64)⟩]∧aJ w w' br vw ws (nxt ws (nxt ws (nxt ws (nxt ws (nxt ws nx4))))) n (((((wr4||!aj (wrd ws nx4).data.toList 1 999)||!aQ (wrd ws (nxt ws nx4)).data.toList n)||!dG (wrd ws (nxt ws (nxt ws nx4))) n)||!aj (wrd ws (nxt ws (nxt ws (nxt ws nx4)))).data.toList 0 10)||!bG (wrd ws (nxt ws (nxt ws (nxt ws (nxt ws nx4))))) n||decide (((bT (wrd ws (nxt ws (nxt ws (nxt ws (nxt ws nx4))))) n).length:Int)<aC (wrd ws (nxt ws (nxt ws (nxt ws nx4)))) 0 10))) ∧
 (¬k=112→¬k=107→¬k=99→¬k=104→¬k=103→¬k=114→¬k=116→¬k=118→¬k=115→¬k=97→∃ vl,e=Zr (.agg #[I .u8 k,I J v1,vl,I J v3,I J v4,I J 0,I J 0,I J 0,Z ⟨#[]⟩,I J 0,I J 0,I J 0,Y O 0 0,Y O 0 0,Y O 0 0])∧iY w' (w.heap.size+2) [⟨3,1,vl,(v2).length,(v2).map (Value.int .i64)⟩]∧aJ w w' br vw ws nx4 n true)
section
variable {N:Nat} {w w':World} {g:Nat} {K K':Kw} {V V':Kv}
theorem KAt.ptr {a:Option Addr} {n c:Nat} (h:KAt N w g K V) (hv:V.vN=Y a n c) {w2:World} (hw:Below w.heap.size w w2) (k:Nat) (hk:k<K.nds.length):∃ b off,a=some ⟨b,off,O⟩∧b<w2.heap.size∧w2.cell? ⟨b,off+k,O⟩=some (Zp (some ⟨K.nds[k].b,0,O⟩)):=by
 have q:=Rd.bK (h.below hw).rN;obtain⟨a',c',e⟩:=au h.rN
 rw[hv] at e;cases e;rw[hv] at q;exact Rd.AJ q (by rw[List.getElem?_map,List.getElem?_eq_getElem hk];rfl)
theorem KAt.dwn {a:Option Addr} {n c:Nat} (h:KAt N w g K V) (hv:V.vD=Y a n c) {w2:World} (hw:Below w.heap.size w w2) (k:Nat) (hk:k<K.down.length):∃ b off,a=some ⟨b,off,O⟩∧b<w2.heap.size∧w2.cell? ⟨b,off+k,O⟩=some (.bool K.down[k]):=by
 have q:=Rd.bK (h.below hw).rD;obtain⟨a',c',e⟩:=au h.rD
 rw[hv] at e;cases e;rw[hv] at q;exact Rd.AJ q (by rw[List.getElem?_map,List.getElem?_eq_getElem hk];rfl)
theorem KAt.bgn {a:Option Addr} {n c:Nat} (h:KAt N w g K V) (hv:V.vB=Y a n c) {w2:World} (hw:Below w.heap.size w w2) (k:Nat) (hk:k<K.begun.length):∃ b off,a=some ⟨b,off,O⟩∧b<w2.heap.size∧w2.cell? ⟨b,off+k,O⟩=some (I J K.begun[k]):=by
 have q:=Rd.bK (h.below hw).rB;obtain⟨a',c',e⟩:=au h.rB
 rw[hv] at e;cases e;rw[hv] at q;exact Rd.AJ q (by rw[List.getElem?_map,List.getElem?_eq_getElem hk];rfl)
theorem KAt.opn {a:Option Addr} {n c:Nat} (h:KAt N w g K V) (hv:V.vO=Y a n c) {w2:World} (hw:Below w.heap.size w w2) (k:Nat) (hk:k<K.opn.length):∃ b off,a=some ⟨b,off,O⟩∧b<w2.heap.size∧w2.cell? ⟨b,off+k,O⟩=some (I J K.opn[k]):=by
 have q:=Rd.bK (h.below hw).rO;obtain⟨a',c',e⟩:=au h.rO
 rw[hv] at e;cases e;rw[hv] at q;exact Rd.AJ q (by rw[List.getElem?_map,List.getElem?_eq_getElem hk];rfl)
theorem KAt.grp {a:Option Addr} {n c:Nat} (h:KAt N w g K V) (hv:V.vG=Y a n c) {w2:World} (hw:Below w.heap.size w w2) (k:Nat) (hk:k<K.groups.length):∃ b off,a=some ⟨b,off,O⟩∧b<w2.heap.size∧w2.cell? ⟨b,off+k,O⟩=some (Z K.groups[k]):=by
 have q:=Rd.bK (h.below hw).rG;obtain⟨a',c',e⟩:=au h.rG
 rw[hv] at e;cases e;rw[hv] at q;exact Rd.AJ q (by rw[List.getElem?_map,List.getElem?_eq_getElem hk];rfl)
theorem KAt.whr (h:KAt N w g K V) {w2:World} (hw:Below w.heap.size w w2) (k:Nat) (hk:k<K.nds.length):Calls Tryz.prog 30 #[Zp (some ⟨K.nds[k].b,0,O⟩)] w2 fun e w'=>e=Zr (.tuple #[I J K.nds[k].R.epoch,I J K.nds[k].R.view,I J K.nds[k].R.status,I J (K.nds[k].R.decided:Int)])∧∃ n,w'=w2.drewN n:=kU (h.node k hk hw)
end
structure ActP (R R':Rp) (c:Nat):Prop where
 ok:Ok R'
 sv:Rp.SvI R'
 rc:Rp.RcI R'
 n:R'.n=R.n
 id:R'.id=R.id
 mz:31*Rp.mz R+R'.out.length≤31*Rp.mz R'+c
 sil:R'.status=3→∀ x∈R'.out,Rp.jm x.2
theorem Ht {R R':Rp} (h:Ok R) (hs:Rp.SvI R) (hz:Rp.RcI R) (ho:R.out=[]) (hR:R'=R∨∃ P,Rp.MOk R.n P∧R'=R.take P):ActP R R' 1:=by
 rcases hR with rfl|⟨P,hP,rfl⟩
 ·exact⟨h,hs,hz,rfl,rfl,by rw[ho];simp,fun _=>by rw[ho];simp⟩
 ·have k:=Rp.JE h hP;have q:=Rp.JR h hz hP;refine⟨k.ok,q.sv hs,q.rci hz,k.n,k.id,?_,fun h3=>?_⟩
  ·have ko:=k.out;rw[ho] at ko;simp at ko;rcases q.adv with a|⟨a,b⟩
   ·omega
   ·rw[ho] at b;simp at b;omega
  ·rw[(q.rc h3).2.2.2.2.2,ho];simp
theorem Hr {R:Rp} (h:Ok R) (hs:Rp.SvI R) (hz:Rp.RcI R) (ho:R.out=[]):ActP R R.qY 50:=by
 have k:=Rp.JD h;have q:=Rp.Fj (r:=R);refine⟨k.ok,q.sv hs,q.rci hz,k.n,k.id,?_,fun h3=>Rp.BP ho h3⟩
 have ko:=k.out;have:=q.mz
 rw[ho] at ko;simp at ko;omega
theorem BM {R:Rp} (h:Ok R) (hs:Rp.SvI R) (hz:Rp.RcI R) (ho:R.out=[]):ActP R R.suspect 50:=by
 have k:=Rp.DF h;have q:=Rp.yM h;refine⟨k.ok,q.sv hs,q.rci hz,k.n,k.id,?_,fun h3=>by rw[Rp.yK h ho h3];simp⟩
 have ko:=k.out;have:=q.mz
 rw[ho] at ko;simp at ko;omega
def Cu:List Nod→Nat
 | []=>0
 | x :: l=>(6655000-Rp.mz x.R)+Cu l
theorem xY:∀ (l:List Nod) (q:Nat) (x x':Nod),l[q]? = some x→Cu (l.set q x')+(6655000-Rp.mz x.R)=Cu l+(6655000-Rp.mz x'.R)
 | [],_,_,_,h=>by simp at h
 | a :: l,0,x,x',h=>by simp at h;subst h;simp only[List.set_cons_zero,Cu];omega
 | a :: l,q+1,x,x',h=>by
  have:=xY l q x x' (by simpa using h)
  simp only[List.set_cons_succ,Cu];omega
theorem ET:∀ l:List Nod,Cu l≤6655000*l.length
 | []=>Nat.le_refl _
 | a :: l=>by have:=ET l;simp only[Cu,List.length_cons];omega
def dA (K:Kw):Nat:=K.net.length+K.wishes.length+31*Cu K.nds+206305000*(999-K.lives.toNat)
theorem iG (K:Kw):K.net.length≤dA K:=by unfold dA;omega
theorem Gl (K:Kw):K.wishes.length≤dA K:=by unfold dA;omega
def dK (p:Int):Prop:=p=0∨p=1∨p=4∨p=16∨p=32
structure NI (n:Int) (q:Nat) (x:Nod):Prop where
 ok:Ok x.R
 sv:Rp.SvI x.R
 rc:Rp.RcI x.R
 ou:x.R.out=[]
 vt:x.V.vt=Y O 0 0
 id:x.R.id=q
 n:x.R.n=n
structure tN (x:oJ):Prop where
 n1:1≤x.e.2.1
 n9:x.e.2.1≤999
 o1:1≤x.e.2.2.size
 o9:x.e.2.2.size≤9
 t1:1≤x.text.size
structure KI (K:Kw):Prop where
 sz:KSz K
 part:dK K.part
 nod:∀ (q:Nat) (x:Nod),K.nds[q]? = some x→NI K.n q x
 net:∀ p∈K.net,-9≤p.2.1∧p.2.1<K.n∧0<p.2.2.size
 wish:∀ x∈K.wishes,tN x
 opn:∀ v∈K.opn,-1≤v∧v<(K.wishes.length:Int)
 list:qX K.n K.list
 grps:∀ t∈K.groups,aQ t.data.toList K.n=true
 li:0≤K.lives∧K.lives≤999
 gl:K.groups.length≤K.list.length+1
def Gr (K:Kw):Prop:=∀ x∈K.nds,x.R.status=3∨x.R.epoch<(K.groups.length:Int)
section
variable {N:Nat} {w w':World} {g:Nat} {K K':Kw} {V V':Kv}
theorem KI.log (h:KI K):∀ x∈K.nds,x.R.log.length≤1000:=fun x hx=>by
 obtain⟨q,hq⟩:=List.getElem?_of_mem hx
 have:=(h.nod q x hq).ok.lg
 omega
theorem KI.ep (h:KI K):∀ x∈K.nds,0≤x.R.epoch∧x.R.epoch≤1000:=fun x hx=>by
 obtain⟨q,hq⟩:=List.getElem?_of_mem hx
 have:=(h.nod q x hq).ok.ep
 omega
theorem KI.gsz (h:KI K):∀ t∈K.groups,t.size=3∨t.size=5:=fun t ht=>by
 have hl:=jH (h.grps t ht);have e:t.data.toList.length=t.size:=by rw[Array.length_toList];rfl
 omega
theorem KI.opsz (h:KI K):∀ e∈K.list,Hg e.2.2:=fun e he=>(uq (h.list.2 e he).2.2.2.2.1).sz
theorem KI.fails (h:KI K) {p:Int} (hp:dK p):KI { K with part:=p }:=⟨⟨h.sz.n3,h.sz.n7,h.sz.nds,h.sz.down,h.sz.begun,h.sz.opn⟩,hp,h.nod,h.net,h.wish,h.opn,h.list,h.grps,h.li,h.gl⟩
theorem KI.post (h:KI K) (f t:Int) (s:ByteArray) (h1 : -9≤t∧t<K.n) (h2:0<s.size):KI { K with net:=K.net++[(f,t,s)] }:=⟨⟨h.sz.n3,h.sz.n7,h.sz.nds,h.sz.down,h.sz.begun,h.sz.opn⟩,h.part,h.nod,fun p hp=>by
 rcases List.mem_append.1 hp with q|q
 ·exact h.net p q
 ·simp at q;subst q;exact⟨h1.1,h1.2,h2⟩,h.wish,h.opn,h.list,h.grps,h.li,h.gl⟩
theorem zV (f t:Int) (s:ByteArray):dA { K with net:=K.net++[(f,t,s)] }=dA K+1:=by
 unfold dA;simp only[List.length_append,List.length_cons,List.length_nil];omega
theorem KI.gone (h:KI K) (k:Nat):KI { K with net:=K.net.take k++K.net.drop (k+1) }:=⟨⟨h.sz.n3,h.sz.n7,h.sz.nds,h.sz.down,h.sz.begun,h.sz.opn⟩,h.part,h.nod,fun p hp=>by
 rcases List.mem_append.1 hp with q|q
 ·exact h.net p (List.mem_of_mem_take q)
 ·exact h.net p (List.mem_of_mem_drop q),h.wish,h.opn,h.list,h.grps,h.li,h.gl⟩
theorem zU {k:Nat} (hk:k<K.net.length):dA { K with net:=K.net.take k++K.net.drop (k+1) }+1=dA K:=by
 unfold dA;simp only[List.length_append,List.length_take,List.length_drop];omega
structure StP (N:Nat) (w w':World) (g:Nat) (K:Kw) (V:Kv) (c:Nat) (b:Bool) (K':Kw) (V':Kv):Prop where
 kst:Kst N w w' g K V K' V'
 ki:KI K'
 ms:dA K'≤dA K+c
 net:K.net.length≤K'.net.length
 n:K'.n=K.n
 gr:b=true→Gr K'
def StE (N:Nat) (w w':World) (g:Nat) (K:Kw) (V:Kv) (c:Nat) (e:Ending):Prop:=∃ b K' V',e=Zr (.bool b)∧StP N w w' g K V c b K' V'
end
def jA:List oJ→Nat→List oJ
 | [],_=>[]
 | x :: l,0=>{ x with bad:=true } :: l
 | x :: l,k+1=>x :: jA l k
theorem ow:∀ (l:List oJ) (k:Nat),(jA l k).length=l.length
 | [],_=>rfl
 | x :: l,0=>rfl
 | x :: l,k+1=>by simp[jA,ow l k]
theorem sZ:∀ (l:List oJ) (k:Nat),k<l.length→bC (jA l k)=(bC l).set (6*k+5) (.bool true)
 | [],_,h=>by simp at h
 | x :: l,0,_=>rfl
 | x :: l,k+1,h=>by
  have:=sZ l k (by simpa using h)
  have e:6*(k+1)+5=(6*k+5)+1+1+1+1+1+1:=by omega
  rw[e];simp only[jA,bC,List.set_cons_succ,this]
theorem Ae:∀ (l:List oJ) (k:Nat),(∀ x∈l,tN x)→∀ x∈jA l k,tN x
 | [],_,_,x,hx=>by simp[jA] at hx
 | y :: l,0,h,x,hx=>by
  rcases List.mem_cons.1 hx with rfl|hx
  ·have:=h y (by simp);exact⟨this.n1,this.n9,this.o1,this.o9,this.t1⟩
  ·exact h x (by simp[hx])
 | y :: l,k+1,h,x,hx=>by
  rcases List.mem_cons.1 hx with rfl|hx
  ·exact h _ (by simp)
  ·exact Ae l k (fun x hx=>h x (by simp[hx])) x hx
theorem KI.bad {K:Kw} (h:KI K) (k:Nat):KI { K with wishes:=jA K.wishes k } :=
 ⟨⟨h.sz.n3,h.sz.n7,h.sz.nds,h.sz.down,h.sz.begun,h.sz.opn⟩,h.part,h.nod,h.net,Ae _ k h.wish,fun v hv=>by rw[ow];exact h.opn v hv,h.list,h.grps,h.li,h.gl⟩
theorem Iz (K:Kw) (k:Nat):dA { K with wishes:=jA K.wishes k }=dA K:=by unfold dA;simp only[ow]
theorem JK (l:List En) (op:ByteArray):(pF l op).size≤10:=by
 unfold pF;have e1:OKb.size=2:=rfl
 have e2:NOb.size=2:=rfl
 have e3:oI.size=1:=rfl
 have e4:∀ x,(yu x).size=1:=fun x=>rfl
 repeat' split
 all_goals (first|omega|(rw[e4];omega))
section
variable {N:Nat} {w w':World} {g:Nat} {K K':Kw} {V V':Kv}
theorem nQ {e:TypeId} {s n:Nat} {v:Value} {xs:List Value} (h:w.ownsRow 0 e s v n xs) (hn:0<n):∃ b cap,v=Y (some ⟨b,0,O⟩) n cap∧b<w.heap.size:=by
 rcases h.2 with ⟨_,h2⟩|⟨b,cap,cur,rfl,_,hb,_⟩
 ·omega
 ·exact⟨b,cap,rfl,lt_of_block hb⟩
theorem KAt.setRow (h:KAt N w g K V) {i:Nat} {r:Row} (hi:(dX K V)[i]? = some r) {b cap:Nat} (hv:r.v=Y (some ⟨b,0,O⟩) r.n cap) (j:Nat) (u:Value)
  (hc:lI K' V=lI K V) (hr:dX K' V=(dX K V).set i { r with xs:=r.xs.set j u }) (hn:K'.nds=K.nds):Kst N w (w.setCell ⟨b,j,O⟩ u) g K V K' V:=by
 have ho:=h.rows r (List.mem_of_getElem? hi);rw[hv] at ho;have hs:=ho.stored j u;refine h.inRow hi (r':={ r with xs:=r.xs.set j u }) ?_ ?_ rfl hc hr hn
 ·rw[hv];exact Kp.row hs.2
 ·show (w.setCell ⟨b,j,O⟩ u).ownsRow 0 r.e r.s r.v r.n (r.xs.set j u)
  rw[hv];exact hs.1
theorem KAt.fz (h:KAt N w g K V) {i:Nat} {r:Row} (hi:(dX K V)[i]? = some r) {b cap:Nat} (hv:r.v=Y (some ⟨b,0,O⟩) r.n cap) (j:Nat):w.frozen? ⟨b,j,O⟩=false:=by
 have ho:=h.rows r (List.mem_of_getElem? hi);rw[hv] at ho;exact ho.frozenAt j
theorem KAt.jA (h:KAt N w g K V) {b cap:Nat} (hv:V.vW=Y (some ⟨b,0,O⟩) K.wishes.length cap) (k:Nat) (hk:k<K.wishes.length):Kst N w (w.setCell ⟨b,k*6+5,O⟩ (.bool true)) g K V { K with wishes:=jA K.wishes k } V :=
 h.setRow (i:=4) (r:=⟨99,6,V.vW,K.wishes.length,bC K.wishes⟩) rfl hv (k*6+5) (.bool true) rfl (by unfold dX;simp only[ow,sZ _ k hk,Nat.mul_comm 6 k];rfl) rfl
def AnsP (N:Nat) (w w':World) (g:Nat) (K:Kw) (V:Kv) (e:Ending):Prop:=∃ b K',e=Zr (.bool b)∧Kst N w w' g K V K' V∧((b=true∧(K'=K∨∃ k,K'={ K with wishes:=jA K.wishes k }))∨(b=false∧K'={ K with part:=4 }))
theorem uN (h:KAt N w g K V) (hi:KI K) (c:Int) (hc0:1≤c) (hc1:c≤9) (t:ByteArray) :
    Calls Tryz.prog 110 #[Zp (some ⟨g,0,O⟩),I J c,Z t] w fun e w'=>AnsP N w w' g K V e:=by
  obtain⟨aL,cL,hvL⟩:=au h.rL
  have HC10 : Hid (∀ w2, Below w.heap.size w w2 → w2.cell? ⟨g, 10, O⟩ = some (Y aL K.list.length cL)) := fun w2 hw2 => by rw [← hvL]; exact (h.below hw2).cell 10
  have HL : Hid (∀ w2, Below w.heap.size w w2 → gu w2 (Y aL K.list.length cL) K.list) := fun w2 hw2 => by rw [← hvL]; exact (h.below hw2).eL
  obtain⟨aW,cW,hvW⟩:=au h.rW
  have HC8 : Hid (∀ w2, Below w.heap.size w w2 → w2.cell? ⟨g, 8, O⟩ = some (Y aW K.wishes.length cW)) := fun w2 hw2 => by rw [← hvW]; exact (h.below hw2).cell 8
  have HW : Hid (∀ w2, Below w.heap.size w w2 → jE w2 (Y aW K.wishes.length cW) K.wishes) := fun w2 hw2 => by rw [← hvW]; exact (h.below hw2).eW
  have HF4:Hid (∀ w2,Below w.heap.size w w2→Calls Tryz.prog 66 #[Zp (some ⟨g,0,O⟩),I J 4] w2 fun e w'=>e=Zr (.bool false)∧Kst N w w' g K V { K with part:=4 } V):=fun w2 hw2=>(bQ (h.below hw2) 4).mono (by
    rintro e w3 ⟨rfl,k⟩
    exact⟨rfl,((Kst.refl h).below hw2).trans k⟩)
  have HY:Hid (∀ w2,Below w.heap.size w w2→AnsP N w w2 g K V (Zr (.bool true))):=fun w2 hw2=>⟨true,K,rfl,(Kst.refl h).below hw2,.inl ⟨rfl,.inl rfl⟩⟩
  have HNo:Hid (∀ w2,Kst N w w2 g K V { K with part:=4 } V→AnsP N w w2 g K V (Zr (.bool false))):=fun w2 k=>⟨false,_,rfl,k,.inr ⟨rfl,rfl⟩⟩
  have HBad:Hid (∀ w2,Below w.heap.size w w2→∀ b,aW=some ⟨b,0,O⟩→∀ k,k<K.wishes.length→AnsP N w (w2.setCell ⟨b,k*6+5,O⟩ (.bool true)) g K V (Zr (.bool true))):=fun w2 hw2 b hb k hk=>by
    subst hb
    exact⟨true,_,rfl,((Kst.refl h).below hw2).trans ((h.below hw2).jA hvW k hk),.inl ⟨rfl,.inr ⟨k,rfl⟩⟩⟩
  have HFz:Hid (∀ w2,Below w.heap.size w w2→∀ b,aW=some ⟨b,0,O⟩→∀ j,w2.frozen? ⟨b,j,O⟩=false):=fun w2 hw2 b hb j=>by
    subst hb
    exact (h.below hw2).fz (i:=4) (r:=⟨99,6,V.vW,K.wishes.length,bC K.wishes⟩) rfl hvW j
  have HA:Hid (0<K.wishes.length→∃ b,aW=some ⟨b,0,O⟩∧b<w.heap.size):=fun hp=>by
    obtain⟨b,cap,e,hb⟩:=nQ h.rW hp
    rw[hvW] at e
    cases e
    exact⟨b,rfl,hb⟩
  have HNc : Hid (∀ w2, Calls Tryz.prog 31 #[I J c] w2 fun e w' => e = Zr (Z (dg c)) ∧ Below w2.heap.size w2 w') := fun w2 => fJ c w2 (by omega) (by omega)
  have sc := eZ c (by omega)
  have HNk:Hid (∀ k,(hk:k<K.list.length)→(∀ w2,Calls Tryz.prog 31 #[I J K.list[k].2.1] w2 fun e w'=>e=Zr (Z (dg K.list[k].2.1))∧Below w2.heap.size w2 w')∧(dg K.list[k].2.1).size≤10):=fun k hk=>by
    obtain⟨_,_,q1,q2,_⟩:=hi.list.2 _ (List.getElem_mem hk)
    exact ⟨fun w2 => fJ _ w2 (by omega) (by omega), eZ _ (by omega)⟩
  have HRes:Hid (∀ (k:Nat) (hk:k<K.list.length) w2,Below w.heap.size w w2→Calls Tryz.prog 148 #[Zp (some ⟨g,0,O⟩),I J k] w2 fun e w'=>e=Zr (Z (pF (K.list.take k) K.list[k].2.2))∧Below w2.heap.size w2 w'):=fun k hk w2 hw2=>uO (h.below hw2) k hk hi.opsz
  have HRs:Hid (∀ (k:Nat) (hk:k<K.list.length),(pF (K.list.take k) K.list[k].2.2).size≤10):=fun k hk=>JK _ _
  have HWk:Hid (∀ k,(hk:k<K.wishes.length)→(∀ w2,Calls Tryz.prog 31 #[I J K.wishes[k].e.2.1] w2 fun e w'=>e=Zr (Z (dg K.wishes[k].e.2.1))∧Below w2.heap.size w2 w')∧(dg K.wishes[k].e.2.1).size≤10∧1≤K.wishes[k].e.2.2.size):=fun k hk=>by
    have q:=hi.wish _ (List.getElem_mem hk)
    exact ⟨fun w2 => fJ _ w2 (by have := q.n1; omega) (by have := q.n9; omega), eZ _ (by have := q.n9; omega), q.o1⟩
  have hll:=hi.list.1
  have hwl:K.wishes.length≤9223372036854775807:=by
    obtain⟨_,_,_,q1,q2⟩:=h.eW.shape
    omega
  clear h hi
  generalize dg c=dc at *
  have z1 : ¬ 9223372036854775807 < 2 + dc.size := by omega
  have z2 : ¬ 9223372036854775807 < 2 + dc.size + 1 := by omega
  go_enter Tryz.func110,Tryz.ntmps110
  go_wp2_with fail
  refine (HNc.out _).mono ?_
  rintro e w1 ⟨rfl,hb1⟩
  go_wp2_with fail
  go_loopw [8] (fun i wr=>∃ k:Nat,k≤K.list.length∧i=I J k∧Below w.heap.size w wr) (fun i _=>K.list.length-(intOf i).toNat)
  case atStart=>exact⟨0,Nat.zero_le _,rfl,hb1⟩
  case round =>
    obtain⟨k,hk,rfl,hbw⟩:=hrel
    have c10:=HC10.out _ hbw
    by_cases hlt:k<K.list.length
    · obtain⟨b1',o1,rfl,_,d1,d2,d3⟩:=(HL.out _ hbw).get k hlt
      have j1 : (0 : Int) ≤ (k : Int) := by omega
      have j2 : (k : Int) < (K.list.length : Int) := by omega
      obtain⟨q1,q2⟩:=HNk.out k hlt
      have HQ1:=ah q1
      clear q1
      have HQ2:Hid (∀ w2,Below w.heap.size w w2→Calls Tryz.prog 148 #[Zp (some ⟨g,0,O⟩),I J k] w2 fun e w'=>e=Zr (Z (pF (K.list.take k) K.list[k].2.2))∧Below w2.heap.size w2 w'):=HRes.out k hlt
      have q3:=HRs.out k hlt
      have HD1:Hid (∀ w2,Below w.heap.size w w2→w2.cell? ⟨g,10,O⟩=some (Y (some ⟨b1',o1,O⟩) K.list.length cL)∧w2.cell? ⟨b1',o1+k*3,O⟩=some (I J K.list[k].1)):=fun w2 hw2=>by
        obtain⟨b2,o2,e2,_,f1,_⟩:=(HL.out _ hw2).get k hlt
        cases e2
        exact⟨HC10.out _ hw2,f1⟩
      generalize K.list[k].1=cl at *
      generalize K.list[k].2.1=nu at *
      generalize pF (K.list.take k) K.list[k].2.2=rs at *
      generalize dg nu=dn at *
      have z3 : ¬ 9223372036854775807 < 2 + dc.size + 1 + dn.size := by omega
      have z4 : ¬ 9223372036854775807 < 2 + dc.size + 1 + dn.size + 1 := by omega
      have z5 : ¬ 9223372036854775807 < 2 + dc.size + 1 + dn.size + 1 + rs.size := by omega
      go_wp2_with fail
      refine (HQ1.out _).mono ?_
      rintro e w2 ⟨rfl,hb2⟩
      have hb3:Below w.heap.size w w2:=hbw.trans (hb2.mono hbw.size)
      go_wp2_with fail
      refine (HQ2.out _ hb3).mono ?_
      rintro e w3 ⟨rfl,hb4⟩
      have hb5:Below w.heap.size w w3:=hb3.trans (hb4.mono hb3.size)
      obtain⟨f1,f2⟩:=HD1.out _ hb5
      clear c10 d1 d2 d3
      by_cases hq:cl=c
      · have hq':(cl==c)=true:=beq_iff_eq.2 hq
        clear hq
        go_wp2_with fail
        · go_ret
          exact HY.out _ hb5
        · go_roundw
          case rel => exact ⟨k + 1, by omega, by go_num, hb5⟩
          case measure=>simp[intOf];omega
      · have hq':(cl==c)=false:=beq_eq_false_iff_ne.2 hq
        clear hq
        go_wp2_with fail
        go_roundw
        case rel => exact ⟨k + 1, by omega, by go_num, hb5⟩
        case measure=>simp[intOf];omega
    · obtain⟨wL,HwL⟩:∃ x,x=wr:=⟨_,rfl⟩
      subst HwL
      go_wp2_with fail
      go_loopw [11] (fun i wr=>∃ k:Nat,k≤K.wishes.length∧i=I J k∧Below w.heap.size w wr) (fun i _=>K.wishes.length-(intOf i).toNat)
      case atStart=>exact⟨0,Nat.zero_le _,rfl,hbw⟩
      case round =>
        obtain⟨m,hm,rfl,hbv⟩:=hrel
        have c8:=HC8.out _ hbv
        by_cases hlm:m<K.wishes.length
        · obtain ⟨bW, rfl, hbW⟩ := HA.out (by omega)
          obtain⟨b2,o2,e2',_,d1,d2,d3,_⟩:=(HW.out _ hbv).get m hlm
          cases e2'
          simp only[Nat.zero_add] at d1 d2 d3
          obtain⟨q1,q2,q3⟩:=HWk.out m hlm
          have HQ1:=ah q1
          clear q1
          have j1 : (0 : Int) ≤ (m : Int) := by omega
          have j2 : (m : Int) < (K.wishes.length : Int) := by omega
          generalize K.wishes[m].e.1=cl at *
          generalize K.wishes[m].e.2.1=nu at *
          generalize K.wishes[m].e.2.2=op at *
          generalize dg nu=dn at *
          have z3 : ¬ 9223372036854775807 < 2 + dc.size + 1 + dn.size := by omega
          have z4 : ¬ 9223372036854775807 < 2 + dc.size + 1 + dn.size + 4 := by omega
          go_wp2_with fail
          refine (HQ1.out _).mono ?_
          rintro e w4 ⟨rfl,hb4⟩
          have hbx : Below w.heap.size w w4 := (hbv.alloc hbv.size _).trans (hb4.mono (by have := hbv.size; simp; omega))
          have hx := (hb4.block wr.heap.size (by simp)).trans (heap_alloc_new wr _)
          have e0 : w4.cell? ⟨wr.heap.size, 0, O⟩ = some (I J cl) := by simp [World.cell?, hx]
          have e1 : w4.cell? ⟨wr.heap.size, 1, O⟩ = some (I J nu) := by simp [World.cell?, hx]
          have e2 : w4.cell? ⟨wr.heap.size, 2, O⟩ = some (Z op) := by simp [World.cell?, hx]
          have c8':=HC8.out _ hbx
          have fz:=HFz.out _ hbx bW rfl (m*6+5)
          obtain⟨b3,o3,e3,_,_,_,_,_,_,d6⟩:=(HW.out _ hbx).get m hlm
          cases e3
          simp only[Nat.zero_add] at d6
          have j3 : (0 : Int) < (op.size : Int) := by omega
          clear hx d1 d2 d3 c8 hb4
          by_cases hq:cl=c
          · have hq':(cl==c)=true:=beq_iff_eq.2 hq
            clear hq
            go_wp2_with fail
            all_goals first
            | (go_ret;exact HBad.out _ hbx bW rfl m hlm)
            | (go_roundw
               case rel => exact ⟨m + 1, by omega, by go_num, hbx⟩
               case measure=>simp[intOf];omega)
          · have hq':(cl==c)=false:=beq_eq_false_iff_ne.2 hq
            clear hq
            go_wp2_with fail
            go_roundw
            case rel => exact ⟨m + 1, by omega, by go_num, hbx⟩
            case measure=>simp[intOf];omega
        · go_wp2_with fail
          refine (HF4.out _ hbv).mono ?_
          rintro e w2 ⟨rfl,k2⟩
          go_wp2_with fail
          go_ret
          exact HNo.out _ k2
end
end Go.Proofs.YtajakaadgagejaaGreatDoor
