import Derived.Test.YtajakaadgagejaaGreatDoorA02
import Derived.Test.YtajakaadgagejaaGreatDoorA03
set_option maxRecDepth 100000
set_option maxHeartbeats 8000000
set_option linter.unusedVariables false
set_option linter.unusedSimpArgs false
set_option linter.unusedSectionVars false
namespace Go.Proofs.YtajakaadgagejaaGreatDoor
open Go.Value renaming int→I,slice→Y,string→Z,pointer→Zp
open Go.Ending renaming returned→Zr
open _root_.ByteArray renaming empty→Ze
open Go.IntKind renaming i64→J
open Option renaming none→O
open Go.RowKit
theorem Kp.wid {S S':List Nat} {w w':World} (h:Kp S w w') (hs:∀ x∈S,x∈S'):Kp S' w w':=⟨h.os,h.tape,h.output,h.size,fun k hk hn=>h.block k hk (fun hc=>hn (hs k hc))⟩
def bB (w:World) (bm:Nat) (c:Array Value):Prop:=c.size=15∧w.heap[bm]? = some (.cells c 68 (0,0))
theorem bB.cell {w:World} {bm:Nat} {c:Array Value} (h:bB w bm c) (j:Nat):w.cell? ⟨bm,j,O⟩=c[j]?:=by
 simp[World.cell?,h.2]
theorem bB.free {w:World} {bm:Nat} {c:Array Value} (h:bB w bm c) (j:Nat):w.frozen? ⟨bm,j,O⟩=false:=by
 simp[World.frozen?,h.2]
theorem bB.set {w:World} {bm:Nat} {c:Array Value} (h:bB w bm c) (j:Nat) (v:Value):bB (w.setCell ⟨bm,j,O⟩ v) bm (c.setIfInBounds j v) :=
 ⟨by simpa using h.1,by have:=heap_setCell_same w bm j _ _ v h.2;simpa using this⟩
theorem bB.kp {w w':World} {bm:Nat} {c:Array Value} {S:List Nat} (h:bB w bm c) (k:Kp S w w') (hS:bm∉S):bB w' bm c :=
 ⟨h.1,(k.block bm (lt_of_block h.2) hS).trans h.2⟩
theorem bB.ex {w:World} {bm:Nat} {c:Array Value} (h:bB w bm c) (j:Nat) (hj:j<15):∃ v,w.cell? ⟨bm,j,O⟩=some v :=
 ⟨c[j]'(by rw[h.1];exact hj),by rw[h.cell];exact Array.getElem?_eq_getElem _⟩
theorem Jh {c:Array Value} {j:Nat} {v:Value} (h:c[j]? = some v):c.setIfInBounds j v=c:=by
 obtain⟨hj,e⟩:=Array.getElem?_eq_some_iff.1 h
 apply Array.ext
 ·simp
 ·intro i h1 h2;rw[Array.getElem_setIfInBounds (by simpa using h2)]
  split
  ·subst_vars;rfl
  ·rfl
theorem au {w:World} {base:Nat} {e:TypeId} {size:Nat} {v:Value} {n:Nat} {xs:List Value} (h:w.ownsRow base e size v n xs):∃ a cap,v=Y a n cap:=by
 rcases h.2 with ⟨hv,hn⟩|⟨g,cap,cur,q0,q1,q2,q3⟩
 ·exact⟨O,0,by rw[hv,hn]⟩
 ·exact⟨_,_,q0⟩
theorem aI.rX {w:World} {br bm:Nat} {vw:Value} {ws:List ByteArray} {nx:Nat} {n:Int} {wr:Bool} (h:aI w br vw ws nx n wr) (hne:bm≠br) (hf:Fr [bm] vw) (j:Nat) (v:Value):aI (w.setCell ⟨bm,j,O⟩ v) br vw ws nx n wr:=by
 have k:Kp [bm] w (w.setCell ⟨bm,j,O⟩ v):=(Kp.refl _ _).set bm j _ (.inl (by simp))
 exact⟨(k.block br (lt_of_block h.block) (by simpa using hne.symm)).trans h.block,h.words.kp k hf,h.fr,h.le⟩
section
variable (br:Nat) (vw:Value) (ws:List ByteArray) (nx:Nat) (n:Int) (wr:Bool) (w:World) (h:aI w br vw ws nx n wr) (hl:ws.length≤100000) (hz:∀ x∈ws,x.size≤1000)
variable (bm:Nat) (c:Array Value) (hm:bB w bm c) (hne:bm≠br) (hf:Fr [bm] vw)
theorem mF (br:Nat) (vw:Value) (ws:List ByteArray) (nx:Nat) (n:Int) (wr:Bool) (w:World) (h:aI w br vw ws nx n wr) (hl:ws.length≤100000) (hz:∀ x∈ws,x.size≤1000) (bm:Nat) (c:Array Value) (hm:bB w bm c) (hne:bm≠br) (hf:Fr [bm] vw) :
  Calls Tryz.prog 119 #[Zp (some ⟨br,0,O⟩),Zp (some ⟨bm,0,O⟩)] w fun e w'=>∃ v,e=Zr (.tuple #[])∧w'.ownsRow w.heap.size 66 3 v (bT (wrd ws (nxt ws nx)) n).length (aA (bT (wrd ws (nxt ws nx)) n))∧bB w' bm ((c.setIfInBounds 9 (I J (aC (wrd ws nx) 0 10))).setIfInBounds 14 v) ∧
   aI w' br vw ws (nxt ws (nxt ws nx)) n ((wr||!aj (wrd ws nx).data.toList 0 10)||!bG (wrd ws (nxt ws nx)) n||decide (((bT (wrd ws (nxt ws nx)) n).length:Int)<aC (wrd ws nx) 0 10))∧Kp [br,bm] w w':=by
 have hlb:=lt_of_block h.block;have hlm:=lt_of_block hm.2;have HNu:Hid (Calls Tryz.prog 114 #[Zp (some ⟨br,0,O⟩),I J 0,I J 10] w fun e w'=>e=Zr (I J (aC (wrd ws nx) 0 10))∧aJ w w' br vw ws (nxt ws nx) n (wr||!aj (wrd ws nx).data.toList 0 10)):=bU br vw ws nx n wr w h hl hz 0 10 (by omega) (by omega)
 have HLo:Hid (∀ (w:World) (wr:Bool),aI w br vw ws (nxt ws nx) n wr→Calls Tryz.prog 154 #[Zp (some ⟨br,0,O⟩)] w fun e w'=>∃ v,e=Zr v∧w'.ownsRow w.heap.size 66 3 v (bT (wrd ws (nxt ws nx)) n).length (aA (bT (wrd ws (nxt ws nx)) n))∧aJ w w' br vw ws (nxt ws (nxt ws nx)) n (wr||!bG (wrd ws (nxt ws nx)) n)):=fun w wr q=>JW br vw ws _ n wr w q hl hz
 generalize aC (wrd ws nx) 0 10=cm at *;generalize (wr||!aj (wrd ws nx).data.toList 0 10)=w0 at *
 generalize bT (wrd ws (nxt ws nx)) n=lg at *;generalize bG (wrd ws (nxt ws nx)) n=ok at *;generalize nxt ws (nxt ws nx)=nx2 at *;generalize nxt ws nx=nx1 at *;go_enter Tryz.func119,Tryz.ntmps119;go_wp2_with fail;refine HNu.out.mono ?_;rintro e w1 ⟨rfl,hP⟩;have hm1:=hm.kp hP.2 (by simpa using hne)
 obtain⟨z9,y9⟩:=hm1.ex 9 (by omega)
 have g9:=hm1.free 9;have k1:Kp [br,bm] w (w1.setCell ⟨bm,9,O⟩ (I J cm)):=(hP.2.wid (fun x hx=>by simp at hx;simp[hx])).set bm 9 _ (.inl (by simp))
 have hm2:=hm1.set 9 (I J cm);have hR2:=hP.1.rX hne hf 9 (I J cm);clear hm1 hP;go_wp2_with fail;generalize w1.setCell ⟨bm,9,O⟩ (I J cm)=w2 at *;refine (HLo.out _ _ hR2).mono ?_;rintro e w3 ⟨v3,rfl,hown3,hP3⟩;have hm3:=hm2.kp hP3.2 (by simpa using hne)
 obtain⟨z14,y14⟩:=hm3.ex 14 (by omega)
 have g14:=hm3.free 14;have k3:Kp [br,bm] w (w3.setCell ⟨bm,14,O⟩ v3):=(k1.trans' (hP3.2.wid (fun x hx=>by simp at hx;simp[hx]))).set bm 14 _ (.inl (by simp))
 have hm4:=hm3.set 14 v3;have hR4:=hP3.1.rX hne hf 14 v3;have hown4:(w3.setCell ⟨bm,14,O⟩ v3).ownsRow w.heap.size 66 3 v3 lg.length (aA lg):=dO (gM hown3 ((Kp.refl [bm] w3).set bm 14 _ (.inl (by simp))) (fun x hx=>by simp at hx;subst hx;have:=k1.size;omega)) k1.size
 obtain⟨a3,cap3,rfl⟩:=au hown4
 clear hm3 hP3 hown3 hm2 hR2;go_wp2_with fail;have hc15:=hm.1;have x9:(w3.setCell ⟨bm,14,O⟩ (Y a3 lg.length cap3)).cell? ⟨bm,9,O⟩=some (I J cm):=by rw[hm4.cell];simp[hc15]
 have x14:(w3.setCell ⟨bm,14,O⟩ (Y a3 lg.length cap3)).cell? ⟨bm,14,O⟩=some (Y a3 lg.length cap3):=by rw[hm4.cell];simp[hc15]
 generalize w3.setCell ⟨bm,14,O⟩ (Y a3 lg.length cap3)=w4 at *;clear y9 g9 y14 g14;go_quiet (fail);have b4:Below w4.heap.size w4 (w4.drewN nq):=below_drewN (Below.refl _ _) _
 have hR5:=hR4.below b4;have hm5:bB (w4.drewN nq) bm _:=⟨hm4.1,(b4.block bm (lt_of_block hm4.2)).trans hm4.2⟩
 have k5:=k3.aF b4;have hown5:=bH hown4 b4;generalize w4.drewN nq=w5 at *;have c3:=hR5.at 3 (by omega)
 have f3:=hR5.free 3;simp at c3;by_cases hcm:(lg.length:Int)<cm
 ·have HD:Hid (decide ((lg.length:Int)<cm)=true):=decide_eq_true hcm
  go_wp2_with fail;refine bodyPost_end (results_none rfl _ _ _) rfl ⟨Y a3 lg.length cap3,rfl,?_,?_,?_,k5.set br 3 _ (.inl (by simp))⟩
  ·exact gM hown5 ((Kp.refl [br] w5).set br 3 _ (.inl (by simp))) (fun x hx=>by simp at hx;subst hx;exact hlb)
  ·exact hm5.kp ((Kp.refl [br] w5).set br 3 _ (.inl (by simp))) (by simpa using hne)
  ·rw[HD.out];simpa using hR5.p8 true
 ·have HD:Hid (decide ((lg.length:Int)<cm)=false):=decide_eq_false hcm
  go_wp2_with fail;refine bodyPost_end (results_none rfl _ _ _) rfl ?_
  first|exact⟨Y a3 lg.length cap3,rfl,hown5,hm5,by rw[HD.out];simpa using hR5,k5⟩|exact⟨rfl,Y a3 lg.length cap3,hown5,hm5,by rw[HD.out];simpa using hR5,k5⟩|trace_state
def fq (s:ByteArray) (n:Int):List Int:=if (s.toList==[45])=true then [] else bY s n
def dG (s:ByteArray) (n:Int):Bool:=(s.toList==[45])||aQ s.data.toList n
theorem nU (br:Nat) (vw:Value) (ws:List ByteArray) (nx:Nat) (n:Int) (wr:Bool) (w:World) (h:aI w br vw ws nx n wr) (hl:ws.length≤100000) (hz:∀ x∈ws,x.size≤1000) (bm:Nat) (c:Array Value) (hm:bB w bm c) (hne:bm≠br) (hf:Fr [bm] vw) (h13:c[13]? = some (Y O 0 0)) :
  Calls Tryz.prog 120 #[Zp (some ⟨br,0,O⟩),Zp (some ⟨bm,0,O⟩)] w fun e w'=>∃ v u,e=Zr (.tuple #[])∧w'.ownsRow w.heap.size 3 1 v (bY (wrd ws nx) n).length ((bY (wrd ws nx) n).map (Value.int .i64))∧w'.ownsRow w.heap.size 3 1 u (fq (wrd ws (nxt ws nx)) n).length ((fq (wrd ws (nxt ws nx)) n).map (Value.int .i64))∧bB w' bm ((c.setIfInBounds 12 v).setIfInBounds 13 u) ∧
   aI w' br vw ws (nxt ws (nxt ws nx)) n ((wr||!aQ (wrd ws nx).data.toList n)||!dG (wrd ws (nxt ws nx)) n)∧Kp [br,bm] w w':=by
 have hlb:=lt_of_block h.block;have hlm:=lt_of_block hm.2;have HGr:Hid (∀ (w:World) (nx:Nat) (wr:Bool),aI w br vw ws nx n wr→Calls Tryz.prog 155 #[Zp (some ⟨br,0,O⟩)] w fun e w'=>∃ v,e=Zr v∧w'.ownsRow w.heap.size 3 1 v (bY (wrd ws nx) n).length ((bY (wrd ws nx) n).map (Value.int .i64))∧aJ w w' br vw ws (nxt ws nx) n (wr||!aQ (wrd ws nx).data.toList n)):=fun w nx wr q=>GI br vw ws nx n wr w q hl hz
 have hc15:=hm.1;have HG1:Hid (Calls Tryz.prog 155 #[Zp (some ⟨br,0,O⟩)] w fun e w'=>∃ v,e=Zr v∧w'.ownsRow w.heap.size 3 1 v (bY (wrd ws nx) n).length ((bY (wrd ws nx) n).map (Value.int .i64))∧aJ w w' br vw ws (nxt ws nx) n (wr||!aQ (wrd ws nx).data.toList n)):=HGr.out w nx wr h
 generalize bY (wrd ws nx) n=g1 at *;generalize (wr||!aQ (wrd ws nx).data.toList n)=w0 at *
 generalize nxt ws nx=nx1 at *;obtain⟨aw,cw,rfl,_,_⟩:=h.words.shape
 go_enter Tryz.func120,Tryz.ntmps120;go_wp2_with fail;refine HG1.out.mono ?_;rintro e w1 ⟨v1,rfl,hown1,hP⟩;have hm1:=hm.kp hP.2 (by simpa using hne)
 obtain⟨z12,y12⟩:=hm1.ex 12 (by omega)
 have g12:=hm1.free 12;have k1:Kp [br,bm] w (w1.setCell ⟨bm,12,O⟩ v1):=(hP.2.wid (fun x hx=>by simp at hx;simp[hx])).set bm 12 _ (.inl (by simp))
 have hm2:=hm1.set 12 v1;have hR2:=hP.1.rX hne hf 12 v1;have hown2:=gM hown1 ((Kp.refl [bm] w1).set bm 12 v1 (.inl (by simp))) (fun x hx=>by simp at hx;subst hx;exact hlm)
 obtain⟨a1,cap1,rfl⟩:=au hown2
 clear hm1 hP hown1;go_wp2_with fail;generalize w1.setCell ⟨bm,12,O⟩ (Y a1 g1.length cap1)=w2 at *;have c0:=hR2.at 0 (by omega)
 have c1:=hR2.at 1 (by omega)
 simp at c0 c1;have hle:=hR2.le;clear y12 g12;have hown3:∀ k,(w2.drewN k).ownsRow w.heap.size 3 1 (Y a1 g1.length cap1) g1.length (g1.map (Value.int .i64)):=fun k=>bH hown2 (below_drewN (Below.refl _ _) _)
 have HEl:Hid (∀ (q:Nat),((wrd ws nx1).toList==[45])=false→dG (wrd ws nx1) n=aQ (wrd ws nx1).data.toList n∧fq (wrd ws nx1) n=bY (wrd ws nx1) n):=fun _ q=>⟨by unfold dG;rw[q];rfl,by unfold fq;rw[if_neg (by simp[q])]⟩
 have HEm:Hid (((wrd ws nx1).toList==[45])=true→dG (wrd ws nx1) n=true∧fq (wrd ws nx1) n=[]):=fun q=>⟨by unfold dG;rw[q];rfl,by unfold fq;rw[if_pos q]⟩
 by_cases hlt:nx1<ws.length
 ·obtain⟨b,o,rfl,hbb,x⟩:=hR2.words.get nx1 hlt
  have HW:Hid (wrd ws nx1=ws[nx1]):=by unfold Hid wrd;simp[List.getD,hlt]
  have HN:Hid (nxt ws nx1=nx1+1):=by unfold Hid nxt;rw[if_pos hlt]
  have j1:(0:Int)≤(nx1:Int):=by omega
  have j2:(nx1:Int)<(ws.length:Int):=by omega
  by_cases hd':(ws[nx1].toList==[45])=true
  ·have hd:=hd';have HE:Hid (dG (wrd ws nx1) n=true∧fq (wrd ws nx1) n=[]):=HEm.out (by rw[HW.out];exact hd)
   clear HEm HEl;go_quiet (fail);have b4:Below w2.heap.size w2 (w2.drewN nq):=below_drewN (Below.refl _ _) _
   have hR3:=hR2.below b4;have hm3:bB (w2.drewN nq) bm _:=⟨hm2.1,(b4.block bm (lt_of_block hm2.2)).trans hm2.2⟩
   have k3:=k1.aF b4;have hown4:=hown3 nq;have hsz:w2.heap.size≤(w2.drewN nq).heap.size:=b4.size
   clear hown3 hown2 c0 c1;generalize w2.drewN nq=w3 at *;have c1:=hR3.at 1 (by omega)
   have f1:=hR3.free 1;simp at c1;have hmE:bB w3 bm ((c.setIfInBounds 12 (Y a1 g1.length cap1)).setIfInBounds 13 (Y O 0 0)):=by rw[Jh (j:=13) (by rw[Array.getElem?_setIfInBounds_ne (by omega)];exact h13)];exact hm3
   have kS:Kp [br] w3 (w3.setCell ⟨br,1,O⟩ (I J ((nx1:Int)+1))):=(Kp.refl _ _).set br 1 _ (.inl (by simp))
   have hRS:=hR3.Fb (nx1+1) (by omega)
   have hRS':aI (w3.setCell ⟨br,1,O⟩ (I J ((nx1:Int)+1))) br (Y (some ⟨b,o,O⟩) ws.length cw) ws (nx1+1) n w0:=by simpa using hRS
   have hownS:=gM hown4 kS (fun x hx=>by simp at hx;subst hx;exact hlb)
   have hmS:=hmE.kp kS (by simpa using hne)
   have kT:=k3.set br 1 (I J ((nx1:Int)+1)) (.inl (by simp))
   clear hRS;go_wp2_with fail;refine bodyPost_ret (results_none rfl _ _ _) rfl ?_;refine⟨_,Y O 0 0,rfl,hownS,by rw[HE.out.2];exact World.ownsRow_nil _ _ _ _,hmS,?_,kT⟩
   rw[HE.out.1,HN.out];simpa using hRS'
  ·have hd:(ws[nx1].toList==[45])=false:=by simpa using hd'
   have HE:Hid (dG (wrd ws nx1) n=aQ (wrd ws nx1).data.toList n∧fq (wrd ws nx1) n=bY (wrd ws nx1) n):=HEl.out 0 (by rw[HW.out];exact hd)
   clear HEm HEl hd';go_quiet (fail);have b4:Below w2.heap.size w2 (w2.drewN nq):=below_drewN (Below.refl _ _) _
   have hR3:=hR2.below b4;have hm3:bB (w2.drewN nq) bm _:=⟨hm2.1,(b4.block bm (lt_of_block hm2.2)).trans hm2.2⟩
   have k3:=k1.aF b4;have hown4:=hown3 nq;have hsz:w2.heap.size≤(w2.drewN nq).heap.size:=b4.size
   clear hown3 hown2 c0 c1;generalize w2.drewN nq=w3 at *;go_wp2_with fail;refine (HGr.out _ _ _ hR3).mono ?_;rintro e w4 ⟨v4,rfl,hownN,hP4⟩;obtain⟨a4,cap4,rfl⟩:=au hownN
   have hm4:=hm3.kp hP4.2 (by simpa using hne)
   obtain⟨z13,y13⟩:=hm4.ex 13 (by omega)
   have g13:=hm4.free 13;have hsz4:w3.heap.size≤w4.heap.size:=hP4.2.size
   have kB:Kp [bm] w4 (w4.setCell ⟨bm,13,O⟩ (Y a4 (bY (wrd ws nx1) n).length cap4)):=(Kp.refl _ _).set bm 13 _ (.inl (by simp))
   have hmS:=hm4.set 13 (Y a4 (bY (wrd ws nx1) n).length cap4);have hRS:=hP4.1.rX hne hf 13 (Y a4 (bY (wrd ws nx1) n).length cap4);have kT:=(k3.trans' (hP4.2.wid (fun x hx=>by simp at hx;simp[hx]))).set bm 13 (Y a4 (bY (wrd ws nx1) n).length cap4) (.inl (by simp))
   have hownS:=gM (gM hown4 hP4.2 (fun x hx=>by simp at hx;subst hx;exact hlb)) kB (fun x hx=>by simp at hx;subst hx;exact hlm)
   have hownT:=dO (gM hownN kB (fun x hx=>by simp at hx;subst hx;have:=k3.size;omega)) k3.size
   clear hm4 hP4 hownN hown4;go_wp2_with fail;refine bodyPost_end (results_none rfl _ _ _) rfl ?_;refine⟨_,(Y a4 (bY (wrd ws nx1) n).length cap4),rfl,hownS,by rw[HE.out.2];exact hownT,hmS,?_,kT⟩
   rw[HE.out.1];exact hRS
 ·have j2:(ws.length:Int)≤(nx1:Int):=by omega
  have HE:Hid (dG (wrd ws nx1) n=aQ (wrd ws nx1).data.toList n∧fq (wrd ws nx1) n=bY (wrd ws nx1) n):=HEl.out 0 (by rw[wh hlt,ByteArray.toList_eq];rfl)
  go_quiet (fail);have b4:Below w2.heap.size w2 (w2.drewN nq):=below_drewN (Below.refl _ _) _
  have hR3:=hR2.below b4;have hm3:bB (w2.drewN nq) bm _:=⟨hm2.1,(b4.block bm (lt_of_block hm2.2)).trans hm2.2⟩
  have k3:=k1.aF b4;have hown4:=hown3 nq;have hsz:w2.heap.size≤(w2.drewN nq).heap.size:=b4.size
  clear hown3 hown2 c0 c1;generalize w2.drewN nq=w3 at *;go_wp2_with fail;refine (HGr.out _ _ _ hR3).mono ?_;rintro e w4 ⟨v4,rfl,hownN,hP4⟩;obtain⟨a4,cap4,rfl⟩:=au hownN
  have hm4:=hm3.kp hP4.2 (by simpa using hne)
  obtain⟨z13,y13⟩:=hm4.ex 13 (by omega)
  have g13:=hm4.free 13;have hsz4:w3.heap.size≤w4.heap.size:=hP4.2.size
  have kB:Kp [bm] w4 (w4.setCell ⟨bm,13,O⟩ (Y a4 (bY (wrd ws nx1) n).length cap4)):=(Kp.refl _ _).set bm 13 _ (.inl (by simp))
  have hmS:=hm4.set 13 (Y a4 (bY (wrd ws nx1) n).length cap4);have hRS:=hP4.1.rX hne hf 13 (Y a4 (bY (wrd ws nx1) n).length cap4);have kT:=(k3.trans' (hP4.2.wid (fun x hx=>by simp at hx;simp[hx]))).set bm 13 (Y a4 (bY (wrd ws nx1) n).length cap4) (.inl (by simp))
  have hownS:=gM (gM hown4 hP4.2 (fun x hx=>by simp at hx;subst hx;exact hlb)) kB (fun x hx=>by simp at hx;subst hx;exact hlm)
  have hownT:=dO (gM hownN kB (fun x hx=>by simp at hx;subst hx;have:=k3.size;omega)) k3.size
  clear hm4 hP4 hownN hown4;go_wp2_with fail;refine bodyPost_end (results_none rfl _ _ _) rfl ?_;refine⟨_,(Y a4 (bY (wrd ws nx1) n).length cap4),rfl,hownS,by rw[HE.out.2];exact hownT,hmS,?_,kT⟩
  rw[HE.out.1];exact hRS
end
theorem Tryz.sizeMsg:(Tryz.prog.info? 68).map (fun i=>i.size)=some 15:=by kernel_rfl
def iy (k:Int):Array Value:=#[I .u8 k,I J 0,Y O 0 0,I J 0,I J 0,I J 0,I J 0,I J 0,Z ⟨#[]⟩,I J 0,I J 0,I J 0,Y O 0 0,Y O 0 0,Y O 0 0]
theorem pI {w:World} {g:Nat} {c:Array Value} (h:bB w g c):(loadVar 68 ⟨g,0,O⟩).run Tryz.prog w=.ok (.agg c) w :=
 run_loadVar_row w g 68 68 _ (0,0) _ h.2 Tryz.underlying68 rfl (by rw[h.1];exact Tryz.sizeMsg)
def cZ (W:World) (g:Nat):Nat→List Value→World
 | _,[]=>W
 | j,a :: l=>cZ (W.setCell ⟨g,j,O⟩ a) g (j+1) l
def vR (c:Array Value):Nat→List Value→Array Value
 | _,[]=>c
 | j,a :: l=>vR (c.setIfInBounds j a) (j+1) l
theorem nE {g:Nat}:∀ (l:List Value) (W:World) (c:Array Value) (j:Nat),bB W g c→bB (cZ W g j l) g (vR c j l)
 | [],_,_,_,h=>h
 | a :: l,_,_,j,h=>nE l _ _ (j+1) (h.set j a)
theorem yA {w:World} {br:Nat} {vw:Value} {ws:List ByteArray} {nx:Nat} {n:Int} {wr:Bool} {g:Nat} (hg:w.heap.size≤g) (hne:g≠br) (hf:Fr [g] vw):∀ (l:List Value) (W:World) (j:Nat),aJ w W br vw ws nx n wr→aJ w (cZ W g j l) br vw ws nx n wr
 | [],_,_,h=>h
 | a :: l,_,j,h=>yA hg hne hf l _ (j+1) ⟨h.1.rX hne hf j a,h.2.set g j a (.inr hg)⟩
structure MS (w w':World) (br:Nat) (vw:Value) (ws:List ByteArray) (nx:Nat) (n:Int) (wr:Bool) (c:Array Value):Prop where
 rdr:aI w' br vw ws nx n wr
 msg:bB w' (w.heap.size+1) c
 zero:bB w' w.heap.size (iy 0)
 kp:Kp [br] w w'
 lt:∀ k,vw.ownBlock=some k→k<w.heap.size
 blt:br<w.heap.size
theorem MS.start {w:World} {br:Nat} {vw:Value} {ws:List ByteArray} {nx:Nat} {n:Int} {wr:Bool} (h:aI w br vw ws nx n wr) (k:Int) :
  MS w ((w.alloc (.cells (iy 0) 68)).alloc (.cells (iy k) 68)) br vw ws nx n wr (iy k):=by
 have b1:Below w.heap.size w (w.alloc (.cells (iy 0) 68)):=(Below.refl _ w).alloc (Nat.le_refl _) _
 have b2:Below w.heap.size w ((w.alloc (.cells (iy 0) 68)).alloc (.cells (iy k) 68)):=b1.alloc b1.size _
 have e1:=heap_alloc_new w (.cells (iy 0) 68);have e2:=heap_alloc_new (w.alloc (.cells (iy 0) 68)) (.cells (iy k) 68);have e3:Below (w.alloc (.cells (iy 0) 68)).heap.size (w.alloc (.cells (iy 0) 68)) ((w.alloc (.cells (iy 0) 68)).alloc (.cells (iy k) 68)):=(Below.refl _ _).alloc (Nat.le_refl _) _
 refine⟨h.below b2,⟨rfl,?_⟩,⟨rfl,(e3.block _ (lt_of_block e1)).trans e1⟩,Kp.of_below b2,h.words.lt,lt_of_block h.block⟩
 have hs:(w.alloc (.cells (iy 0) 68)).heap.size=w.heap.size+1:=by simp
 rw[hs] at e2;exact e2
section
variable {w w1 w2:World} {br:Nat} {vw:Value} {ws:List ByteArray} {nx nx':Nat} {n:Int} {wr wr':Bool} {c:Array Value}
theorem MS.fr (h:MS w w1 br vw ws nx n wr c) {g:Nat} (hg:w.heap.size≤g):Fr [g] vw:=fun k hk hc=>by
 have:=h.lt k hk;simp at hc;omega
theorem MS.call (h:MS w w1 br vw ws nx n wr c) (k:aJ w1 w2 br vw ws nx' n wr'):MS w w2 br vw ws nx' n wr' c :=
 ⟨k.1,h.msg.kp k.2 (by have:=h.blt;simp;omega),h.zero.kp k.2 (by have:=h.blt;simp;omega),h.kp.trans' k.2,h.lt,h.blt⟩
theorem MS.put (h:MS w w1 br vw ws nx n wr c) (j:Nat) (v:Value):MS w (w1.setCell ⟨w.heap.size+1,j,O⟩ v) br vw ws nx n wr (c.setIfInBounds j v) :=
 ⟨h.rdr.rX (by have:=h.blt;omega) (h.fr (by omega)) j v,h.msg.set j v,h.zero.kp ((Kp.refl [w.heap.size+1] w1).set _ j v (.inl (by simp))) (by simp),h.kp.set _ j v (.inr (by omega)),h.lt,h.blt⟩
variable {a0 a1 a2 a3 a4 a5 a6 a7 a8 a9 a10 a11 a12 a13 a14:Value}
theorem MS.fin (h:MS w w1 br vw ws nx n wr #[a0,a1,a2,a3,a4,a5,a6,a7,a8,a9,a10,a11,a12,a13,a14]):aJ w (cZ w1 w.heap.size 0 [a0,a1,a2,a3,a4,a5,a6,a7,a8,a9,a10,a11,a12,a13,a14]) br vw ws nx n wr∧(loadVar 68 ⟨w.heap.size,0,O⟩).run Tryz.prog (cZ w1 w.heap.size 0 [a0,a1,a2,a3,a4,a5,a6,a7,a8,a9,a10,a11,a12,a13,a14])=.ok (.agg #[a0,a1,a2,a3,a4,a5,a6,a7,a8,a9,a10,a11,a12,a13,a14]) (cZ w1 w.heap.size 0 [a0,a1,a2,a3,a4,a5,a6,a7,a8,a9,a10,a11,a12,a13,a14]) :=
 ⟨yA (Nat.le_refl _) (by have:=h.blt;omega) (h.fr (Nat.le_refl _)) _ _ _ ⟨h.rdr,h.kp⟩,by
  have e:vR (iy 0) 0 [a0,a1,a2,a3,a4,a5,a6,a7,a8,a9,a10,a11,a12,a13,a14]=#[a0,a1,a2,a3,a4,a5,a6,a7,a8,a9,a10,a11,a12,a13,a14]:=by simp[vR,iy]
  have q:=pI (nE [a0,a1,a2,a3,a4,a5,a6,a7,a8,a9,a10,a11,a12,a13,a14] w1 _ 0 h.zero);rw[e] at q;exact q⟩
theorem bB.all {g:Nat} (h:bB w g #[a0,a1,a2,a3,a4,a5,a6,a7,a8,a9,a10,a11,a12,a13,a14]):w.cell? ⟨g,0,O⟩=some a0∧w.cell? ⟨g,1,O⟩=some a1∧w.cell? ⟨g,2,O⟩=some a2∧w.cell? ⟨g,3,O⟩=some a3∧w.cell? ⟨g,4,O⟩=some a4∧w.cell? ⟨g,5,O⟩=some a5∧w.cell? ⟨g,6,O⟩=some a6∧w.cell? ⟨g,7,O⟩=some a7∧w.cell? ⟨g,8,O⟩=some a8∧w.cell? ⟨g,9,O⟩=some a9∧w.cell? ⟨g,10,O⟩=some a10∧w.cell? ⟨g,11,O⟩=some a11∧w.cell? ⟨g,12,O⟩=some a12∧w.cell? ⟨g,13,O⟩=some a13∧w.cell? ⟨g,14,O⟩=some a14∧∀ j,w.frozen? ⟨g,j,O⟩=false :=
 ⟨h.cell 0,h.cell 1,h.cell 2,h.cell 3,h.cell 4,h.cell 5,h.cell 6,h.cell 7,h.cell 8,h.cell 9,h.cell 10,h.cell 11,h.cell 12,h.cell 13,h.cell 14,h.free⟩
end
section
variable (br:Nat) (vw:Value) (ws:List ByteArray) (nx:Nat) (n:Int) (wr:Bool) (w:World) (h:aI w br vw ws nx n wr) (hl:ws.length≤100000) (hz:∀ x∈ws,x.size≤1000)
theorem yC (br:Nat) (vw:Value) (ws:List ByteArray) (nx:Nat) (n:Int) (wr:Bool) (w:World) (h:aI w br vw ws nx n wr) (hl:ws.length≤100000) (hz:∀ x∈ws,x.size≤1000) :
  Calls Tryz.prog 71 #[Zp (some ⟨br,0,O⟩),I .u8 113] w fun e w'=>e=Zr (.agg #[I .u8 113,I J 0,Y O 0 0,I J 0,I J 0,I J 0,I J (aC (wrd ws nx) 1 9),I J (aC (wrd ws (nxt ws nx)) 1 999),Z (if dh (wrd ws (nxt ws (nxt ws nx))).data.toList then wrd ws (nxt ws (nxt ws nx)) else ⟨#[]⟩),I J 0,I J 0,I J 0,Y O 0 0,Y O 0 0,Y O 0 0]) ∧
   aJ w w' br vw ws (nxt ws (nxt ws (nxt ws nx))) n (((wr||!aj (wrd ws nx).data.toList 1 9)||!aj (wrd ws (nxt ws nx)).data.toList 1 999)||!dh (wrd ws (nxt ws (nxt ws nx))).data.toList):=by
 have hlb:=lt_of_block h.block;have HN1:Hid (∀ w',aI w' br vw ws nx n wr→Calls Tryz.prog 114 #[Zp (some ⟨br,0,O⟩),I J 1,I J 9] w' fun e w''=>e=Zr (I J (aC (wrd ws nx) 1 9))∧aJ w' w'' br vw ws (nxt ws nx) n (wr||!aj (wrd ws nx).data.toList 1 9)):=fun w' q=>bU br vw ws nx n wr w' q hl hz 1 9 (by omega) (by omega)
 generalize aC (wrd ws nx) 1 9=v1 at *;generalize (wr||!aj (wrd ws nx).data.toList 1 9)=wr1 at *
 generalize nxt ws nx=nx1 at *;have HN2:Hid (∀ w',aI w' br vw ws nx1 n wr1→Calls Tryz.prog 114 #[Zp (some ⟨br,0,O⟩),I J 1,I J 999] w' fun e w''=>e=Zr (I J (aC (wrd ws nx1) 1 999))∧aJ w' w'' br vw ws (nxt ws nx1) n (wr1||!aj (wrd ws nx1).data.toList 1 999)):=fun w' q=>bU br vw ws nx1 n wr1 w' q hl hz 1 999 (by omega) (by omega)
 generalize aC (wrd ws nx1) 1 999=v2 at *;generalize (wr1||!aj (wrd ws nx1).data.toList 1 999)=wr2 at *
 generalize nxt ws nx1=nx2 at *;have HO3:Hid (∀ w',aI w' br vw ws nx2 n wr2→Calls Tryz.prog 115 #[Zp (some ⟨br,0,O⟩)] w' fun e w''=>e=Zr (Z (if dh (wrd ws nx2).data.toList then wrd ws nx2 else ⟨#[]⟩))∧aJ w' w'' br vw ws (nxt ws nx2) n (wr2||!dh (wrd ws nx2).data.toList)):=fun w' q=>zn br vw ws nx2 n wr2 w' q hl hz
 generalize (if dh (wrd ws nx2).data.toList=true then wrd ws nx2 else ⟨#[]⟩)=v3 at *
 generalize (wr2||!dh (wrd ws nx2).data.toList)=wr3 at *
 generalize nxt ws nx2=nx3 at *;have M0:=MS.start h 113;go_enter Tryz.func71,Tryz.ntmps71;go_wp2_with fail;simp only[iy] at M0;generalize ((w.alloc _).alloc _)=wA at M0 ⊢;refine (HN1.out _ M0.rdr).mono ?_;rintro e w1 ⟨rfl,hP⟩;have M1:=M0.call hP;obtain⟨x0,x1,x2,x3,x4,x5,x6,x7,x8,x9,x10,x11,x12,x13,x14,xf⟩:=M1.msg.all
 have M2:MS w (w1.setCell ⟨w.heap.size+1,6,O⟩ (I J v1)) br vw ws nx1 n wr1 #[I .u8 113,I J 0,Y O 0 0,I J 0,I J 0,I J 0,I J v1,I J 0,Z ⟨#[]⟩,I J 0,I J 0,I J 0,Y O 0 0,Y O 0 0,Y O 0 0]:=M1.put 6 _
 clear M1 hP M0;go_wp2_with fail;generalize w1.setCell ⟨w.heap.size+1,6,O⟩ (I J v1)=w2 at *;clear x0 x1 x2 x3 x4 x5 x6 x7 x8 x9 x10 x11 x12 x13 x14 xf;refine (HN2.out _ M2.rdr).mono ?_;rintro e w3 ⟨rfl,hP⟩;have M3:=M2.call hP;obtain⟨x0,x1,x2,x3,x4,x5,x6,x7,x8,x9,x10,x11,x12,x13,x14,xf⟩:=M3.msg.all
 have M4:MS w (w3.setCell ⟨w.heap.size+1,7,O⟩ (I J v2)) br vw ws nx2 n wr2 #[I .u8 113,I J 0,Y O 0 0,I J 0,I J 0,I J 0,I J v1,I J v2,Z ⟨#[]⟩,I J 0,I J 0,I J 0,Y O 0 0,Y O 0 0,Y O 0 0]:=M3.put 7 _
 clear M2 M3 hP;go_wp2_with fail;generalize w3.setCell ⟨w.heap.size+1,7,O⟩ (I J v2)=w4 at *;clear x0 x1 x2 x3 x4 x5 x6 x7 x8 x9 x10 x11 x12 x13 x14 xf;refine (HO3.out _ M4.rdr).mono ?_;rintro e w5 ⟨rfl,hP⟩;have M5:=M4.call hP;obtain⟨x0,x1,x2,x3,x4,x5,x6,x7,x8,x9,x10,x11,x12,x13,x14,xf⟩:=M5.msg.all
 have M6:MS w (w5.setCell ⟨w.heap.size+1,8,O⟩ (Z v3)) br vw ws nx3 n wr3 #[I .u8 113,I J 0,Y O 0 0,I J 0,I J 0,I J 0,I J v1,I J v2,Z v3,I J 0,I J 0,I J 0,Y O 0 0,Y O 0 0,Y O 0 0]:=M5.put 8 _
 clear M4 M5 hP;go_upto_region 6 with fail
 generalize w5.setCell ⟨w.heap.size+1,8,O⟩ (Z v3)=w6 at *;clear x0 x1 x2 x3 x4 x5 x6 x7 x8 x9 x10 x11 x12 x13 x14 xf;obtain⟨x0,x1,x2,x3,x4,x5,x6,x7,x8,x9,x10,x11,x12,x13,x14,xf⟩:=M6.msg.all
 obtain⟨y0,y1,y2,y3,y4,y5,y6,y7,y8,y9,y10,y11,y12,y13,y14,yf⟩:=M6.zero.all
 have HG:Hid (aJ w (cZ w6 w.heap.size 0 [I .u8 113,I J 0,Y O 0 0,I J 0,I J 0,I J 0,I J v1,I J v2,Z v3,I J 0,I J 0,I J 0,Y O 0 0,Y O 0 0,Y O 0 0]) br vw ws nx3 n wr3∧(loadVar 68 ⟨w.heap.size,0,O⟩).run Tryz.prog (cZ w6 w.heap.size 0 [I .u8 113,I J 0,Y O 0 0,I J 0,I J 0,I J 0,I J v1,I J v2,Z v3,I J 0,I J 0,I J 0,Y O 0 0,Y O 0 0,Y O 0 0])=.ok (.agg #[I .u8 113,I J 0,Y O 0 0,I J 0,I J 0,I J 0,I J v1,I J v2,Z v3,I J 0,I J 0,I J 0,Y O 0 0,Y O 0 0,Y O 0 0]) (cZ w6 w.heap.size 0 [I .u8 113,I J 0,Y O 0 0,I J 0,I J 0,I J 0,I J v1,I J v2,Z v3,I J 0,I J 0,I J 0,Y O 0 0,Y O 0 0,Y O 0 0])):=M6.fin
 clear M6;go_wp2_with fail;exact bodyPost_ret (aZ rfl _ _ _ rfl HG.out.2) rfl ⟨rfl,HG.out.1⟩
end
def Au (S:Sv) (c n:Int) (op:ByteArray):Sv:=⟨(doS S.vals op).1,S.ses.set (c-1).toNat (n,(doS S.vals op).2)⟩
theorem gH.Ll {w:World} {b:Nat} {pre post:List Value} {t:TypeId} {S:Sv} (h:gH w b pre post t S) (c:Nat) (hc:c<9) (x:Int) (y:ByteArray) :
  gH ((w.setCell ⟨b,pre.length+26+c*2,O⟩ (I J x)).setCell ⟨b,pre.length+26+c*2+1,O⟩ (Z y)) b pre post t ⟨S.vals,S.ses.set c (x,y)⟩:=by
 have hv:=h.v26;have hs:=h.s9;refine⟨?_,hv,by simpa using hs,h.small⟩
 have h1:=h.set (26+2*c) (I J x) (by rw[oz];omega)
 rw[show pre.length+(26+2*c)=pre.length+26+c*2 by omega] at h1
 rw[heap_setCell_same _ b _ _ _ _ h1,List.setIfInBounds_toArray,List.set_append,if_neg (by omega),List.set_append,if_pos (by rw[List.length_set,oz];omega)]
 congr 3
 rw[show pre.length+26+c*2+1-pre.length=26+(2*c+1) by omega]
 unfold svC;rw[List.set_append,if_neg (by simp;omega),List.set_append,if_neg (by simp;omega)]
 rw[List.append_assoc,← Dj S.ses c x y (by omega)]
 rw[List.length_map,hv,show 26+2*c-26=2*c by omega,show 26+(2*c+1)-26=2*c+1 by omega,← List.append_assoc (List.map _ S.vals)]
theorem gH.kp {w w':World} {b:Nat} {pre post:List Value} {t:TypeId} {S:Sv} {X:List Nat} (h:gH w b pre post t S) (k:Kp X w w') (hX:b∉X):gH w' b pre post t S:=⟨(k.block b (lt_of_block h.block) hX).trans h.block,h.v26,h.s9,h.small⟩
theorem tC {w:World} {b:Nat} {pre post:List Value} {t:TypeId} {S:Sv} (h:gH w b pre post t S) (c n:Int) (op:ByteArray) (hs:op.size≤maxLen) (h7:∀ k,2≤k→bN op k<128) (hc1:1≤c) (hc9:c≤9) :
  Calls Tryz.prog 157 #[Zp (some ⟨b,pre.length,O⟩),oK c n op] w fun e w'=>e=Zr (Z (doS S.vals op).2)∧gH w' b pre post t (Au S c n op)∧Kp [b] w w':=by
 obtain⟨j,rfl⟩:∃ j:Nat,c=(j:Int)+1:=⟨(c-1).toNat,by omega⟩
 have ej:((j:Int)+1-1).toNat=j:=by omega
 have HD:Hid (∀ w,gH w b pre post t S→Calls Tryz.prog 169 #[Zp (some ⟨b,pre.length,O⟩),Z op] w fun e w'=>e=Zr (Z (doS S.vals op).2)∧gH w' b pre post t ⟨(doS S.vals op).1,S.ses⟩∧Kp [b] w w'):=fun w h=>Ls h op hs h7
 unfold Au;rw[ej];generalize doS S.vals op=r at *;have hbl:=lt_of_block h.block;have kb:Kp [b] w (w.alloc (.cells #[I J ((j:Int)+1),I J n,Z op] 66)):=Kp.of_below ((Below.refl _ w).alloc (Nat.le_refl _) _)
 have hA:=h.kp (X:=[]) (Kp.of_below ((Below.refl _ w).alloc (Nat.le_refl _) (.cells #[I J ((j:Int)+1),I J n,Z op] 66))) (by simp)
 have hnew:=heap_alloc_new w (.cells #[I J ((j:Int)+1),I J n,Z op] 66);have hsz:(w.alloc (.cells #[I J ((j:Int)+1),I J n,Z op] 66)).heap.size=w.heap.size+1:=by simp
 unfold oK;go_enter Tryz.func157,Tryz.ntmps157;go_wp2_with fail;generalize w.alloc (.cells #[I J ((j:Int)+1),I J n,Z op] 66)=wA at *;refine (HD.out _ hA).mono ?_;rintro e w1 ⟨rfl,h1,k1⟩;have hne:w.heap.size∉[b]:=by simp;omega
 have hE1:=(k1.block w.heap.size (by omega) hne).trans hnew
 have c0:w1.cell? ⟨w.heap.size,0,O⟩=some (I J ((j:Int)+1)):=by simp[World.cell?,hE1]
 have c1:w1.cell? ⟨w.heap.size,1,O⟩=some (I J n):=by simp[World.cell?,hE1]
 obtain⟨hv1,hv2⟩:=h1.ses j (by omega)
 have e1:pre.length+(26+2*j)=pre.length+26+j*2:=by omega
 have e2:pre.length+(26+2*j+1)=pre.length+26+j*2+1:=by omega
 rw[e1] at hv1;rw[e2] at hv2;have f1:=h1.free (pre.length+26+j*2);have f2:=h1.free (pre.length+26+j*2+1);have HS:=ah (h1.Ll j (by omega) n r.2)
 have HK:=ah (kb.trans' k1);generalize ({ vals:=r.fst,ses:=S.ses }:Sv).ses[j]'(by have:=h1.s9;omega)=old at *
 clear e1 e2 hE1 hA hnew h1 k1 HD kb;have hj9:(j:Int)<9:=by omega
 have hj8:j<9:=by omega
 have hj7:j≤8:=by omega
 have hj6:(j:Int)≤8:=by omega
 have hj5:0≤(j:Int)∧(j:Int)<9:=⟨by omega,by omega⟩
 go_wp2_with fail;go_region;go_wp2_with fail;go_ret;exact⟨rfl,HS.out.drew,((HK.out.set b _ _ (.inl (by simp))).set b _ _ (.inl (by simp))).aF (Below.refl _ _).drew⟩
structure Pm where
 kind:Int
 frm:Int
 lives:List Int
 epoch:Int
 view:Int
 place:Int
 ent:Int×Int×ByteArray
 commit:Int
 normal:Int
 life:Int
 grp:List Int
 old:List Int
 log:List (Int×Int×ByteArray)
abbrev pqC (P:Pm) (al:Option Addr) (cl:Nat) (ag:Option Addr) (cg:Nat) (ao:Option Addr) (co:Nat) (aL:Option Addr) (cL:Nat):Array Value :=
 #[I .u8 P.kind,I J P.frm,Y al P.lives.length cl,I J P.epoch,I J P.view,I J P.place,I J P.ent.1,I J P.ent.2.1,Z P.ent.2.2,I J P.commit,I J P.normal,I J P.life,Y ag P.grp.length cg,Y ao P.old.length co,Y aL P.log.length cL]
def pmC (P:Pm) (vl vg vo vL:Value):Array Value :=
 #[I .u8 P.kind,I J P.frm,vl,I J P.epoch,I J P.view,I J P.place,I J P.ent.1,I J P.ent.2.1,Z P.ent.2.2,I J P.commit,I J P.normal,I J P.life,vg,vo,vL]
structure uK (u:World) (base:Nat) (P:Pm) (vl vg vo vL:Value):Prop where
 lives:u.ownsRow base 3 1 vl P.lives.length (P.lives.map (Value.int .i64))
 grp:u.ownsRow base 3 1 vg P.grp.length (P.grp.map (Value.int .i64))
 old:u.ownsRow base 3 1 vo P.old.length (P.old.map (Value.int .i64))
 log:u.ownsRow base 66 3 vL P.log.length (aA P.log)
theorem kK {g:Nat}:∀ (l:List Value) (W:World) (j:Nat),Kp [g] W (cZ W g j l)
 | [],_,_=>Kp.refl _ _
 | a :: l,W,j=>((Kp.refl [g] W).set g j a (.inl (by simp))).trans' (kK l _ (j+1))
theorem jv {w1:World} {g:Nat} (h:bB w1 g (iy 0)) (a0 a1 a2 a3 a4 a5 a6 a7 a8 a9 a10 a11 a12 a13 a14:Value):(loadVar 68 ⟨g,0,O⟩).run Tryz.prog (cZ w1 g 0 [a0,a1,a2,a3,a4,a5,a6,a7,a8,a9,a10,a11,a12,a13,a14])=.ok (.agg #[a0,a1,a2,a3,a4,a5,a6,a7,a8,a9,a10,a11,a12,a13,a14]) (cZ w1 g 0 [a0,a1,a2,a3,a4,a5,a6,a7,a8,a9,a10,a11,a12,a13,a14]):=by
 have e:vR (iy 0) 0 [a0,a1,a2,a3,a4,a5,a6,a7,a8,a9,a10,a11,a12,a13,a14]=#[a0,a1,a2,a3,a4,a5,a6,a7,a8,a9,a10,a11,a12,a13,a14]:=by simp[vR,iy]
 have q:=pI (nE [a0,a1,a2,a3,a4,a5,a6,a7,a8,a9,a10,a11,a12,a13,a14] w1 _ 0 h);rw[e] at q;exact q
theorem E5 {w1:World} {g:Nat} (h:bB w1 g (iy 0)) (a0 a1 a2 a3 a4 a5 a6 a7 a8 a9 a10 a11 a12 a13 a14:Value):bB (cZ w1 g 0 [a0,a1,a2,a3,a4,a5,a6,a7,a8,a9,a10,a11,a12,a13,a14]) g #[a0,a1,a2,a3,a4,a5,a6,a7,a8,a9,a10,a11,a12,a13,a14]:=by
 have e:vR (iy 0) 0 [a0,a1,a2,a3,a4,a5,a6,a7,a8,a9,a10,a11,a12,a13,a14]=#[a0,a1,a2,a3,a4,a5,a6,a7,a8,a9,a10,a11,a12,a13,a14]:=by simp[vR,iy]
 have q:=nE [a0,a1,a2,a3,a4,a5,a6,a7,a8,a9,a10,a11,a12,a13,a14] w1 _ 0 h
 rwa [e] at q
theorem eP {B:Nat} {w:World} {g:Nat} (hg:B≤g):∀ (l:List Value) (W:World) (j:Nat),Below B w W→Below B w (cZ W g j l)
 | [],_,_,h=>h
 | a :: l,_,j,h=>eP hg l _ (j+1) (h.setCell (p:=⟨g,j,O⟩) hg a)
theorem p9 {w w1 w2:World} {S:List Nat} (h:Below w.heap.size w w1) (k:Kp S w1 w2) (hS:∀ x∈S,w.heap.size≤x):Below w.heap.size w w2 :=
 ⟨k.os.trans h.os,k.tape.trans h.tape,k.output.trans h.output,Nat.le_trans h.size k.size,fun j hj=>(k.block j (Nat.lt_of_lt_of_le hj h.size) (fun hc=>by have:=hS j hc;omega)).trans (h.block j hj)⟩
end Go.Proofs.YtajakaadgagejaaGreatDoor
