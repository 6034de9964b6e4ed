import Derived.Test.YtbnihoahhomooaaGreatDoorA02
set_option maxRecDepth 100000
set_option maxHeartbeats 8000000
set_option linter.all false
namespace Go.Proofs.YtbnihoahhomooaaGreatDoor
open Go.Value renaming int→I,slice→Y,string→Z,pointer→Zp
open Go.Ending renaming returned→Zr
open _root_.ByteArray renaming empty→Ze
open Go.IntKind renaming i64→J
open Option renaming none→O
open Go.RowKit
theorem Kp.wid {S S':List Nat} {w w':World} (h:Kp S w w') (hs:∀ x∈S,x∈S'):Kp S' w w':=⟨h.os,h.tape,h.output,h.size,fun k hk hn=>h.block k hk (fun hc=>hn (hs k hc))⟩
def dw (w:World) (bm:Nat) (c:Array Value):Prop:=c.size=15∧w.heap[bm]? = some (.cells c 68 (0,0))
theorem dw.cell {w:World} {bm:Nat} {c:Array Value} (h:dw w bm c) (j:Nat):w.cell? ⟨bm,j,O⟩=c[j]?:=by
 simp[World.cell?,h.2]
theorem dw.free {w:World} {bm:Nat} {c:Array Value} (h:dw w bm c) (j:Nat):w.frozen? ⟨bm,j,O⟩=false:=by
 simp[World.frozen?,h.2]
theorem dw.set {w:World} {bm:Nat} {c:Array Value} (h:dw w bm c) (j:Nat) (v:Value):dw (w.setCell ⟨bm,j,O⟩ v) bm (c.setIfInBounds j v) :=
 ⟨by simpa using h.1,by have:=heap_setCell_same w bm j _ _ v h.2;simpa using this⟩
theorem dw.kp {w w':World} {bm:Nat} {c:Array Value} {S:List Nat} (h:dw w bm c) (k:Kp S w w') (hS:bm∉S):dw w' bm c :=
 ⟨h.1,(k.block bm (lt_of_block h.2) hS).trans h.2⟩
theorem dw.ex {w:World} {bm:Nat} {c:Array Value} (h:dw w bm c) (j:Nat) (hj:j<15):∃ v,w.cell? ⟨bm,j,O⟩=some v :=
 ⟨c[j]'(by rw[h.1];exact hj),by rw[h.cell];exact Array.getElem?_eq_getElem _⟩
theorem Ma {c:Array Value} {j:Nat} {v:Value} (h:c[j]? = some v):c.setIfInBounds j v=c:=by
 obtain⟨hj,e⟩:=Array.getElem?_eq_some_iff.1 h
 apply Array.ext
 ·simp
 ·intro i h1 h2;rw[Array.getElem_setIfInBounds (by simpa using h2)]
  split
  ·subst_vars;rfl
  ·rfl
theorem aj {w:World} {base:Nat} {e:TypeId} {size:Nat} {v:Value} {n:Nat} {xs:List Value} (h:w.ownsRow base e size v n xs):∃ a cap,v=Y a n cap:=by
 rcases h.2 with ⟨hv,hn⟩|⟨g,cap,cur,q0,q1,q2,q3⟩
 ·exact⟨O,0,by rw[hv,hn]⟩
 ·exact⟨_,_,q0⟩
theorem aJ.tX {w:World} {br bm:Nat} {vw:Value} {ws:List ByteArray} {nx:Nat} {n:Int} {wr:Bool} (h:aJ w br vw ws nx n wr) (hne:bm≠br) (hf:Fr [bm] vw) (j:Nat) (v:Value):aJ (w.setCell ⟨bm,j,O⟩ v) br vw ws nx n wr:=by
 have k:Kp [bm] w (w.setCell ⟨bm,j,O⟩ v):=(Kp.refl _ _).set bm j _ (.inl (by simp))
 exact⟨(k.block br (lt_of_block h.block) (by simpa using hne.symm)).trans h.block,h.words.kp k hf,h.fr,h.le⟩
section
variable (br:Nat) (vw:Value) (ws:List ByteArray) (nx:Nat) (n:Int) (wr:Bool) (w:World) (h:aJ w br vw ws nx n wr) (hl:ws.length≤100000) (hz:∀ x∈ws,x.size≤1000)
variable (bm:Nat) (c:Array Value) (hm:dw w bm c) (hne:bm≠br) (hf:Fr [bm] vw)
theorem nQ (br:Nat) (vw:Value) (ws:List ByteArray) (nx:Nat) (n:Int) (wr:Bool) (w:World) (h:aJ w br vw ws nx n wr) (hl:ws.length≤100000) (hz:∀ x∈ws,x.size≤1000) (bm:Nat) (c:Array Value) (hm:dw w bm c) (hne:bm≠br) (hf:Fr [bm] vw) :
  Calls Tryz.prog 119 #[Zp (some ⟨br,0,O⟩),Zp (some ⟨bm,0,O⟩)] w fun e w'=>∃ v,e=Zr (.tuple #[])∧w'.ownsRow w.heap.size 66 3 v (dN (wrd ws (nxt ws nx)) n).length (aA (dN (wrd ws (nxt ws nx)) n))∧dw w' bm ((c.setIfInBounds 9 (I J (aC (wrd ws nx) 0 10))).setIfInBounds 14 v) ∧
   aJ w' br vw ws (nxt ws (nxt ws nx)) n ((wr||!au (wrd ws nx).data.toList 0 10)||!dS (wrd ws (nxt ws nx)) n||decide (((dN (wrd ws (nxt ws nx)) n).length:Int)<aC (wrd ws nx) 0 10))∧Kp [br,bm] w w':=by
 have hlb:=lt_of_block h.block;have hlm:=lt_of_block hm.2;have HNu:Hid (Calls Tryz.prog 114 #[Zp (some ⟨br,0,O⟩),I J 0,I J 10] w fun e w'=>e=Zr (I J (aC (wrd ws nx) 0 10))∧aK w w' br vw ws (nxt ws nx) n (wr||!au (wrd ws nx).data.toList 0 10)):=dx br vw ws nx n wr w h hl hz 0 10 (by omega) (by omega)
 have HLo:Hid (∀ (w:World) (wr:Bool),aJ w br vw ws (nxt ws nx) n wr→Calls Tryz.prog 154 #[Zp (some ⟨br,0,O⟩)] w fun e w'=>∃ v,e=Zr v∧w'.ownsRow w.heap.size 66 3 v (dN (wrd ws (nxt ws nx)) n).length (aA (dN (wrd ws (nxt ws nx)) n))∧aK w w' br vw ws (nxt ws (nxt ws nx)) n (wr||!dS (wrd ws (nxt ws nx)) n)):=fun w wr q=>Nw br vw ws _ n wr w q hl hz
 generalize aC (wrd ws nx) 0 10=cm at *;generalize (wr||!au (wrd ws nx).data.toList 0 10)=w0 at *
 generalize dN (wrd ws (nxt ws nx)) n=lg at *;generalize dS (wrd ws (nxt ws nx)) n=ok at *;generalize nxt ws (nxt ws nx)=nx2 at *;generalize nxt ws nx=nx1 at *;go_enter Tryz.func119,Tryz.ntmps119;go_wp2_with fail;refine HNu.out.mono ?_;rintro e w1 ⟨rfl,hP⟩;have hm1:=hm.kp hP.2 (by simpa using hne)
 obtain⟨z9,y9⟩:=hm1.ex 9 (by omega)
 have g9:=hm1.free 9;have k1:Kp [br,bm] w (w1.setCell ⟨bm,9,O⟩ (I J cm)):=(hP.2.wid (fun x hx=>by simp at hx;simp[hx])).set bm 9 _ (.inl (by simp))
 have hm2:=hm1.set 9 (I J cm);have hR2:=hP.1.tX hne hf 9 (I J cm);clear hm1 hP;go_wp2_with fail;generalize w1.setCell ⟨bm,9,O⟩ (I J cm)=w2 at *;refine (HLo.out _ _ hR2).mono ?_;rintro e w3 ⟨v3,rfl,hown3,hP3⟩;have hm3:=hm2.kp hP3.2 (by simpa using hne)
 obtain⟨z14,y14⟩:=hm3.ex 14 (by omega)
 have g14:=hm3.free 14;have k3:Kp [br,bm] w (w3.setCell ⟨bm,14,O⟩ v3):=(k1.trans' (hP3.2.wid (fun x hx=>by simp at hx;simp[hx]))).set bm 14 _ (.inl (by simp))
 have hm4:=hm3.set 14 v3;have hR4:=hP3.1.tX hne hf 14 v3;have hown4:(w3.setCell ⟨bm,14,O⟩ v3).ownsRow w.heap.size 66 3 v3 lg.length (aA lg):=eU (ig hown3 ((Kp.refl [bm] w3).set bm 14 _ (.inl (by simp))) (fun x hx=>by simp at hx;subst hx;have:=k1.size;omega)) k1.size
 obtain⟨a3,cap3,rfl⟩:=aj hown4
 clear hm3 hP3 hown3 hm2 hR2;go_wp2_with fail;have hc15:=hm.1;have x9:(w3.setCell ⟨bm,14,O⟩ (Y a3 lg.length cap3)).cell? ⟨bm,9,O⟩=some (I J cm):=by rw[hm4.cell];simp[hc15]
 have x14:(w3.setCell ⟨bm,14,O⟩ (Y a3 lg.length cap3)).cell? ⟨bm,14,O⟩=some (Y a3 lg.length cap3):=by rw[hm4.cell];simp[hc15]
 generalize w3.setCell ⟨bm,14,O⟩ (Y a3 lg.length cap3)=w4 at *;clear y9 g9 y14 g14;go_quiet (fail);have b4:Below w4.heap.size w4 (w4.drewN nq):=below_drewN (Below.refl _ _) _
 have hR5:=hR4.below b4;have hm5:dw (w4.drewN nq) bm _:=⟨hm4.1,(b4.block bm (lt_of_block hm4.2)).trans hm4.2⟩
 have k5:=k3.aS b4;have hown5:=bU hown4 b4;generalize w4.drewN nq=w5 at *;have c3:=hR5.at 3 (by omega)
 have f3:=hR5.free 3;simp at c3;by_cases hcm:(lg.length:Int)<cm
 ·have HD:Hid (decide ((lg.length:Int)<cm)=true):=decide_eq_true hcm
  go_wp2_with fail;refine bodyPost_end (results_none rfl _ _ _) rfl ⟨Y a3 lg.length cap3,rfl,?_,?_,?_,k5.set br 3 _ (.inl (by simp))⟩
  ·exact ig hown5 ((Kp.refl [br] w5).set br 3 _ (.inl (by simp))) (fun x hx=>by simp at hx;subst hx;exact hlb)
  ·exact hm5.kp ((Kp.refl [br] w5).set br 3 _ (.inl (by simp))) (by simpa using hne)
  ·rw[HD.out];simpa using hR5.qV true
 ·have HD:Hid (decide ((lg.length:Int)<cm)=false):=decide_eq_false hcm
  go_wp2_with fail;refine bodyPost_end (results_none rfl _ _ _) rfl ?_
  first|exact⟨Y a3 lg.length cap3,rfl,hown5,hm5,by rw[HD.out];simpa using hR5,k5⟩|exact⟨rfl,Y a3 lg.length cap3,hown5,hm5,by rw[HD.out];simpa using hR5,k5⟩|trace_state
def gu (s:ByteArray) (n:Int):List Int:=if (s.toList==[45])=true then [] else dz s n
def gN (s:ByteArray) (n:Int):Bool:=(s.toList==[45])||aV s.data.toList n
theorem pJ (br:Nat) (vw:Value) (ws:List ByteArray) (nx:Nat) (n:Int) (wr:Bool) (w:World) (h:aJ w br vw ws nx n wr) (hl:ws.length≤100000) (hz:∀ x∈ws,x.size≤1000) (bm:Nat) (c:Array Value) (hm:dw w bm c) (hne:bm≠br) (hf:Fr [bm] vw) (h13:c[13]? = some (Y O 0 0)) :
  Calls Tryz.prog 120 #[Zp (some ⟨br,0,O⟩),Zp (some ⟨bm,0,O⟩)] w fun e w'=>∃ v u,e=Zr (.tuple #[])∧w'.ownsRow w.heap.size 3 1 v (dz (wrd ws nx) n).length ((dz (wrd ws nx) n).map (Value.int .i64))∧w'.ownsRow w.heap.size 3 1 u (gu (wrd ws (nxt ws nx)) n).length ((gu (wrd ws (nxt ws nx)) n).map (Value.int .i64))∧dw w' bm ((c.setIfInBounds 12 v).setIfInBounds 13 u) ∧
   aJ w' br vw ws (nxt ws (nxt ws nx)) n ((wr||!aV (wrd ws nx).data.toList n)||!gN (wrd ws (nxt ws nx)) n)∧Kp [br,bm] w w':=by
 have hlb:=lt_of_block h.block;have hlm:=lt_of_block hm.2;have HGr:Hid (∀ (w:World) (nx:Nat) (wr:Bool),aJ w br vw ws nx n wr→Calls Tryz.prog 155 #[Zp (some ⟨br,0,O⟩)] w fun e w'=>∃ v,e=Zr v∧w'.ownsRow w.heap.size 3 1 v (dz (wrd ws nx) n).length ((dz (wrd ws nx) n).map (Value.int .i64))∧aK w w' br vw ws (nxt ws nx) n (wr||!aV (wrd ws nx).data.toList n)):=fun w nx wr q=>JM br vw ws nx n wr w q hl hz
 have hc15:=hm.1;have HG1:Hid (Calls Tryz.prog 155 #[Zp (some ⟨br,0,O⟩)] w fun e w'=>∃ v,e=Zr v∧w'.ownsRow w.heap.size 3 1 v (dz (wrd ws nx) n).length ((dz (wrd ws nx) n).map (Value.int .i64))∧aK w w' br vw ws (nxt ws nx) n (wr||!aV (wrd ws nx).data.toList n)):=HGr.out w nx wr h
 generalize dz (wrd ws nx) n=g1 at *;generalize (wr||!aV (wrd ws nx).data.toList n)=w0 at *
 generalize nxt ws nx=nx1 at *;obtain⟨aw,cw,rfl,_,_⟩:=h.words.shape
 go_enter Tryz.func120,Tryz.ntmps120;go_wp2_with fail;refine HG1.out.mono ?_;rintro e w1 ⟨v1,rfl,hown1,hP⟩;have hm1:=hm.kp hP.2 (by simpa using hne)
 obtain⟨z12,y12⟩:=hm1.ex 12 (by omega)
 have g12:=hm1.free 12;have k1:Kp [br,bm] w (w1.setCell ⟨bm,12,O⟩ v1):=(hP.2.wid (fun x hx=>by simp at hx;simp[hx])).set bm 12 _ (.inl (by simp))
 have hm2:=hm1.set 12 v1;have hR2:=hP.1.tX hne hf 12 v1;have hown2:=ig hown1 ((Kp.refl [bm] w1).set bm 12 v1 (.inl (by simp))) (fun x hx=>by simp at hx;subst hx;exact hlm)
 obtain⟨a1,cap1,rfl⟩:=aj hown2
 clear hm1 hP hown1;go_wp2_with fail;generalize w1.setCell ⟨bm,12,O⟩ (Y a1 g1.length cap1)=w2 at *;have c0:=hR2.at 0 (by omega)
 have c1:=hR2.at 1 (by omega)
 simp at c0 c1;have hle:=hR2.le;clear y12 g12;have hown3:∀ k,(w2.drewN k).ownsRow w.heap.size 3 1 (Y a1 g1.length cap1) g1.length (g1.map (Value.int .i64)):=fun k=>bU hown2 (below_drewN (Below.refl _ _) _)
 have HEl:Hid (∀ (q:Nat),((wrd ws nx1).toList==[45])=false→gN (wrd ws nx1) n=aV (wrd ws nx1).data.toList n∧gu (wrd ws nx1) n=dz (wrd ws nx1) n):=fun _ q=>⟨by unfold gN;rw[q];rfl,by unfold gu;rw[if_neg (by simp[q])]⟩
 have HEm:Hid (((wrd ws nx1).toList==[45])=true→gN (wrd ws nx1) n=true∧gu (wrd ws nx1) n=[]):=fun q=>⟨by unfold gN;rw[q];rfl,by unfold gu;rw[if_pos q]⟩
 by_cases hlt:nx1<ws.length
 ·obtain⟨b,o,rfl,hbb,x⟩:=hR2.words.get nx1 hlt
  have HW:Hid (wrd ws nx1=ws[nx1]):=by unfold Hid wrd;simp[List.getD,hlt]
  have HN:Hid (nxt ws nx1=nx1+1):=by unfold Hid nxt;rw[if_pos hlt]
  have j1:(0:Int)≤(nx1:Int):=by omega
  have j2:(nx1:Int)<(ws.length:Int):=by omega
  by_cases hd':(ws[nx1].toList==[45])=true
  focus
   have hd:=hd';have HE:Hid (gN (wrd ws nx1) n=true∧gu (wrd ws nx1) n=[]):=HEm.out (by rw[HW.out];exact hd)
   clear HEm HEl
  rotate_left
  focus
   have hd:(ws[nx1].toList==[45])=false:=by simpa using hd'
   have HE:Hid (gN (wrd ws nx1) n=aV (wrd ws nx1).data.toList n∧gu (wrd ws nx1) n=dz (wrd ws nx1) n):=HEl.out 0 (by rw[HW.out];exact hd)
   clear HEm HEl hd'
  rotate_left
  all_goals
   go_quiet (fail);have b4:Below w2.heap.size w2 (w2.drewN nq):=below_drewN (Below.refl _ _) _
   have hR3:=hR2.below b4;have hm3:dw (w2.drewN nq) bm _:=⟨hm2.1,(b4.block bm (lt_of_block hm2.2)).trans hm2.2⟩
   have k3:=k1.aS b4;have hown4:=hown3 nq;have hsz:w2.heap.size≤(w2.drewN nq).heap.size:=b4.size
   clear hown3 hown2 c0 c1;generalize w2.drewN nq=w3 at *
  ·have c1:=hR3.at 1 (by omega)
   have f1:=hR3.free 1;simp at c1;have hmE:dw w3 bm ((c.setIfInBounds 12 (Y a1 g1.length cap1)).setIfInBounds 13 (Y O 0 0)):=by rw[Ma (j:=13) (by rw[Array.getElem?_setIfInBounds_ne (by omega)];exact h13)];exact hm3
   have kS:Kp [br] w3 (w3.setCell ⟨br,1,O⟩ (I J ((nx1:Int)+1))):=(Kp.refl _ _).set br 1 _ (.inl (by simp))
   have hRS:=hR3.IE (nx1+1) (by omega)
   have hRS':aJ (w3.setCell ⟨br,1,O⟩ (I J ((nx1:Int)+1))) br (Y (some ⟨b,o,O⟩) ws.length cw) ws (nx1+1) n w0:=by simpa using hRS
   have hownS:=ig hown4 kS (fun x hx=>by simp at hx;subst hx;exact hlb)
   have hmS:=hmE.kp kS (by simpa using hne)
   have kT:=k3.set br 1 (I J ((nx1:Int)+1)) (.inl (by simp))
   clear hRS;go_wp2_with fail;refine bodyPost_ret (results_none rfl _ _ _) rfl ?_;refine⟨_,Y O 0 0,rfl,hownS,by rw[HE.out.2];exact World.ownsRow_nil _ _ _ _,hmS,?_,kT⟩
   rw[HE.out.1,HN.out];simpa using hRS'
  ·go_wp2_with fail;refine (HGr.out _ _ _ hR3).mono ?_;rintro e w4 ⟨v4,rfl,hownN,hP4⟩;obtain⟨a4,cap4,rfl⟩:=aj hownN
   have hm4:=hm3.kp hP4.2 (by simpa using hne)
   obtain⟨z13,y13⟩:=hm4.ex 13 (by omega)
   have g13:=hm4.free 13;have hsz4:w3.heap.size≤w4.heap.size:=hP4.2.size
   have kB:Kp [bm] w4 (w4.setCell ⟨bm,13,O⟩ (Y a4 (dz (wrd ws nx1) n).length cap4)):=(Kp.refl _ _).set bm 13 _ (.inl (by simp))
   have hmS:=hm4.set 13 (Y a4 (dz (wrd ws nx1) n).length cap4);have hRS:=hP4.1.tX hne hf 13 (Y a4 (dz (wrd ws nx1) n).length cap4);have kT:=(k3.trans' (hP4.2.wid (fun x hx=>by simp at hx;simp[hx]))).set bm 13 (Y a4 (dz (wrd ws nx1) n).length cap4) (.inl (by simp))
   have hownS:=ig (ig hown4 hP4.2 (fun x hx=>by simp at hx;subst hx;exact hlb)) kB (fun x hx=>by simp at hx;subst hx;exact hlm)
   have hownT:=eU (ig hownN kB (fun x hx=>by simp at hx;subst hx;have:=k3.size;omega)) k3.size
   clear hm4 hP4 hownN hown4;go_wp2_with fail;refine bodyPost_end (results_none rfl _ _ _) rfl ?_;refine⟨_,(Y a4 (dz (wrd ws nx1) n).length cap4),rfl,hownS,by rw[HE.out.2];exact hownT,hmS,?_,kT⟩
   rw[HE.out.1];exact hRS
 ·have j2:(ws.length:Int)≤(nx1:Int):=by omega
  have HE:Hid (gN (wrd ws nx1) n=aV (wrd ws nx1).data.toList n∧gu (wrd ws nx1) n=dz (wrd ws nx1) n):=HEl.out 0 (by rw[yF hlt,ByteArray.toList_eq];rfl)
  go_quiet (fail);have b4:Below w2.heap.size w2 (w2.drewN nq):=below_drewN (Below.refl _ _) _
  have hR3:=hR2.below b4;have hm3:dw (w2.drewN nq) bm _:=⟨hm2.1,(b4.block bm (lt_of_block hm2.2)).trans hm2.2⟩
  have k3:=k1.aS b4;have hown4:=hown3 nq;have hsz:w2.heap.size≤(w2.drewN nq).heap.size:=b4.size
  clear hown3 hown2 c0 c1;generalize w2.drewN nq=w3 at *;go_wp2_with fail;refine (HGr.out _ _ _ hR3).mono ?_;rintro e w4 ⟨v4,rfl,hownN,hP4⟩;obtain⟨a4,cap4,rfl⟩:=aj hownN
  have hm4:=hm3.kp hP4.2 (by simpa using hne)
  obtain⟨z13,y13⟩:=hm4.ex 13 (by omega)
  have g13:=hm4.free 13;have hsz4:w3.heap.size≤w4.heap.size:=hP4.2.size
  have kB:Kp [bm] w4 (w4.setCell ⟨bm,13,O⟩ (Y a4 (dz (wrd ws nx1) n).length cap4)):=(Kp.refl _ _).set bm 13 _ (.inl (by simp))
  have hmS:=hm4.set 13 (Y a4 (dz (wrd ws nx1) n).length cap4);have hRS:=hP4.1.tX hne hf 13 (Y a4 (dz (wrd ws nx1) n).length cap4);have kT:=(k3.trans' (hP4.2.wid (fun x hx=>by simp at hx;simp[hx]))).set bm 13 (Y a4 (dz (wrd ws nx1) n).length cap4) (.inl (by simp))
  have hownS:=ig (ig hown4 hP4.2 (fun x hx=>by simp at hx;subst hx;exact hlb)) kB (fun x hx=>by simp at hx;subst hx;exact hlm)
  have hownT:=eU (ig hownN kB (fun x hx=>by simp at hx;subst hx;have:=k3.size;omega)) k3.size
  clear hm4 hP4 hownN hown4;go_wp2_with fail;refine bodyPost_end (results_none rfl _ _ _) rfl ?_;refine⟨_,(Y a4 (dz (wrd ws nx1) n).length cap4),rfl,hownS,by rw[HE.out.2];exact hownT,hmS,?_,kT⟩
  rw[HE.out.1];exact hRS
end
theorem Tryz.sizeMsg:(Tryz.prog.info? 68).map (fun i=>i.size)=some 15:=by kernel_rfl
def iK (k:Int):Array Value:=#[I .u8 k,I J 0,Y O 0 0,I J 0,I J 0,I J 0,I J 0,I J 0,Z ⟨#[]⟩,I J 0,I J 0,I J 0,Y O 0 0,Y O 0 0,Y O 0 0]
theorem qJ {w:World} {g:Nat} {c:Array Value} (h:dw w g c):(loadVar 68 ⟨g,0,O⟩).run Tryz.prog w=.ok (.agg c) w :=
 run_loadVar_row w g 68 68 _ (0,0) _ h.2 Tryz.underlying68 rfl (by rw[h.1];exact Tryz.sizeMsg)
def dF (W:World) (g:Nat):Nat→List Value→World
 | _,[]=>W
 | j,a :: l=>dF (W.setCell ⟨g,j,O⟩ a) g (j+1) l
def yj (c:Array Value):Nat→List Value→Array Value
 | _,[]=>c
 | j,a :: l=>yj (c.setIfInBounds j a) (j+1) l
theorem oN {g:Nat}:∀ (l:List Value) (W:World) (c:Array Value) (j:Nat),dw W g c→dw (dF W g j l) g (yj c j l)
 | [],_,_,_,h=>h
 | a :: l,_,_,j,h=>oN l _ _ (j+1) (h.set j a)
theorem Ad {w:World} {br:Nat} {vw:Value} {ws:List ByteArray} {nx:Nat} {n:Int} {wr:Bool} {g:Nat} (hg:w.heap.size≤g) (hne:g≠br) (hf:Fr [g] vw):∀ (l:List Value) (W:World) (j:Nat),aK w W br vw ws nx n wr→aK w (dF W g j l) br vw ws nx n wr
 | [],_,_,h=>h
 | a :: l,_,j,h=>Ad hg hne hf l _ (j+1) ⟨h.1.tX hne hf j a,h.2.set g j a (.inr hg)⟩
structure MS (w w':World) (br:Nat) (vw:Value) (ws:List ByteArray) (nx:Nat) (n:Int) (wr:Bool) (c:Array Value):Prop where
 rdr:aJ w' br vw ws nx n wr
 msg:dw w' (w.heap.size+1) c
 zero:dw w' w.heap.size (iK 0)
 kp:Kp [br] w w'
 lt:∀ k,vw.ownBlock=some k→k<w.heap.size
 blt:br<w.heap.size
theorem MS.start {w:World} {br:Nat} {vw:Value} {ws:List ByteArray} {nx:Nat} {n:Int} {wr:Bool} (h:aJ w br vw ws nx n wr) (k:Int) :
  MS w ((w.alloc (.cells (iK 0) 68)).alloc (.cells (iK k) 68)) br vw ws nx n wr (iK k):=by
 have b1:Below w.heap.size w (w.alloc (.cells (iK 0) 68)):=(Below.refl _ w).alloc (Nat.le_refl _) _
 have b2:Below w.heap.size w ((w.alloc (.cells (iK 0) 68)).alloc (.cells (iK k) 68)):=b1.alloc b1.size _
 have e1:=heap_alloc_new w (.cells (iK 0) 68);have e2:=heap_alloc_new (w.alloc (.cells (iK 0) 68)) (.cells (iK k) 68);have e3:Below (w.alloc (.cells (iK 0) 68)).heap.size (w.alloc (.cells (iK 0) 68)) ((w.alloc (.cells (iK 0) 68)).alloc (.cells (iK k) 68)):=(Below.refl _ _).alloc (Nat.le_refl _) _
 refine⟨h.below b2,⟨rfl,?_⟩,⟨rfl,(e3.block _ (lt_of_block e1)).trans e1⟩,Kp.of_below b2,h.words.lt,lt_of_block h.block⟩
 have hs:(w.alloc (.cells (iK 0) 68)).heap.size=w.heap.size+1:=by simp
 rw[hs] at e2;exact e2
section
variable {w w1 w2:World} {br:Nat} {vw:Value} {ws:List ByteArray} {nx nx':Nat} {n:Int} {wr wr':Bool} {c:Array Value}
theorem MS.fr (h:MS w w1 br vw ws nx n wr c) {g:Nat} (hg:w.heap.size≤g):Fr [g] vw:=fun k hk hc=>by
 have:=h.lt k hk;simp at hc;omega
theorem MS.call (h:MS w w1 br vw ws nx n wr c) (k:aK w1 w2 br vw ws nx' n wr'):MS w w2 br vw ws nx' n wr' c :=
 ⟨k.1,h.msg.kp k.2 (by have:=h.blt;simp;omega),h.zero.kp k.2 (by have:=h.blt;simp;omega),h.kp.trans' k.2,h.lt,h.blt⟩
theorem MS.put (h:MS w w1 br vw ws nx n wr c) (j:Nat) (v:Value):MS w (w1.setCell ⟨w.heap.size+1,j,O⟩ v) br vw ws nx n wr (c.setIfInBounds j v) :=
 ⟨h.rdr.tX (by have:=h.blt;omega) (h.fr (by omega)) j v,h.msg.set j v,h.zero.kp ((Kp.refl [w.heap.size+1] w1).set _ j v (.inl (by simp))) (by simp),h.kp.set _ j v (.inr (by omega)),h.lt,h.blt⟩
variable {a0 a1 a2 a3 a4 a5 a6 a7 a8 a9 a10 a11 a12 a13 a14:Value}
theorem MS.fin (h:MS w w1 br vw ws nx n wr #[a0,a1,a2,a3,a4,a5,a6,a7,a8,a9,a10,a11,a12,a13,a14]):aK w (dF w1 w.heap.size 0 [a0,a1,a2,a3,a4,a5,a6,a7,a8,a9,a10,a11,a12,a13,a14]) br vw ws nx n wr∧(loadVar 68 ⟨w.heap.size,0,O⟩).run Tryz.prog (dF w1 w.heap.size 0 [a0,a1,a2,a3,a4,a5,a6,a7,a8,a9,a10,a11,a12,a13,a14])=.ok (.agg #[a0,a1,a2,a3,a4,a5,a6,a7,a8,a9,a10,a11,a12,a13,a14]) (dF w1 w.heap.size 0 [a0,a1,a2,a3,a4,a5,a6,a7,a8,a9,a10,a11,a12,a13,a14]) :=
 ⟨Ad (Nat.le_refl _) (by have:=h.blt;omega) (h.fr (Nat.le_refl _)) _ _ _ ⟨h.rdr,h.kp⟩,by
  have e:yj (iK 0) 0 [a0,a1,a2,a3,a4,a5,a6,a7,a8,a9,a10,a11,a12,a13,a14]=#[a0,a1,a2,a3,a4,a5,a6,a7,a8,a9,a10,a11,a12,a13,a14]:=by simp[yj,iK]
  have q:=qJ (oN [a0,a1,a2,a3,a4,a5,a6,a7,a8,a9,a10,a11,a12,a13,a14] w1 _ 0 h.zero);rw[e] at q;exact q⟩
theorem dw.all {g:Nat} (h:dw w g #[a0,a1,a2,a3,a4,a5,a6,a7,a8,a9,a10,a11,a12,a13,a14]):w.cell? ⟨g,0,O⟩=some a0∧w.cell? ⟨g,1,O⟩=some a1∧w.cell? ⟨g,2,O⟩=some a2∧w.cell? ⟨g,3,O⟩=some a3∧w.cell? ⟨g,4,O⟩=some a4∧w.cell? ⟨g,5,O⟩=some a5∧w.cell? ⟨g,6,O⟩=some a6∧w.cell? ⟨g,7,O⟩=some a7∧w.cell? ⟨g,8,O⟩=some a8∧w.cell? ⟨g,9,O⟩=some a9∧w.cell? ⟨g,10,O⟩=some a10∧w.cell? ⟨g,11,O⟩=some a11∧w.cell? ⟨g,12,O⟩=some a12∧w.cell? ⟨g,13,O⟩=some a13∧w.cell? ⟨g,14,O⟩=some a14∧∀ j,w.frozen? ⟨g,j,O⟩=false :=
 ⟨h.cell 0,h.cell 1,h.cell 2,h.cell 3,h.cell 4,h.cell 5,h.cell 6,h.cell 7,h.cell 8,h.cell 9,h.cell 10,h.cell 11,h.cell 12,h.cell 13,h.cell 14,h.free⟩
end
section
variable (br:Nat) (vw:Value) (ws:List ByteArray) (nx:Nat) (n:Int) (wr:Bool) (w:World) (h:aJ w br vw ws nx n wr) (hl:ws.length≤100000) (hz:∀ x∈ws,x.size≤1000)
theorem Af (br:Nat) (vw:Value) (ws:List ByteArray) (nx:Nat) (n:Int) (wr:Bool) (w:World) (h:aJ w br vw ws nx n wr) (hl:ws.length≤100000) (hz:∀ x∈ws,x.size≤1000) :
  Calls Tryz.prog 71 #[Zp (some ⟨br,0,O⟩),I .u8 113] w fun e w'=>e=Zr (.agg #[I .u8 113,I J 0,Y O 0 0,I J 0,I J 0,I J 0,I J (aC (wrd ws nx) 1 9),I J (aC (wrd ws (nxt ws nx)) 1 999),Z (if dU (wrd ws (nxt ws (nxt ws nx))).data.toList then wrd ws (nxt ws (nxt ws nx)) else ⟨#[]⟩),I J 0,I J 0,I J 0,Y O 0 0,Y O 0 0,Y O 0 0]) ∧
   aK w w' br vw ws (nxt ws (nxt ws (nxt ws nx))) n (((wr||!au (wrd ws nx).data.toList 1 9)||!au (wrd ws (nxt ws nx)).data.toList 1 999)||!dU (wrd ws (nxt ws (nxt ws nx))).data.toList):=by
 have hlb:=lt_of_block h.block;have HN1:Hid (∀ w',aJ w' br vw ws nx n wr→Calls Tryz.prog 114 #[Zp (some ⟨br,0,O⟩),I J 1,I J 9] w' fun e w''=>e=Zr (I J (aC (wrd ws nx) 1 9))∧aK w' w'' br vw ws (nxt ws nx) n (wr||!au (wrd ws nx).data.toList 1 9)):=fun w' q=>dx br vw ws nx n wr w' q hl hz 1 9 (by omega) (by omega)
 generalize aC (wrd ws nx) 1 9=v1 at *;generalize (wr||!au (wrd ws nx).data.toList 1 9)=wr1 at *
 generalize nxt ws nx=nx1 at *;have HN2:Hid (∀ w',aJ w' br vw ws nx1 n wr1→Calls Tryz.prog 114 #[Zp (some ⟨br,0,O⟩),I J 1,I J 999] w' fun e w''=>e=Zr (I J (aC (wrd ws nx1) 1 999))∧aK w' w'' br vw ws (nxt ws nx1) n (wr1||!au (wrd ws nx1).data.toList 1 999)):=fun w' q=>dx br vw ws nx1 n wr1 w' q hl hz 1 999 (by omega) (by omega)
 generalize aC (wrd ws nx1) 1 999=v2 at *;generalize (wr1||!au (wrd ws nx1).data.toList 1 999)=wr2 at *
 generalize nxt ws nx1=nx2 at *;have HO3:Hid (∀ w',aJ w' br vw ws nx2 n wr2→Calls Tryz.prog 115 #[Zp (some ⟨br,0,O⟩)] w' fun e w''=>e=Zr (Z (if dU (wrd ws nx2).data.toList then wrd ws nx2 else ⟨#[]⟩))∧aK w' w'' br vw ws (nxt ws nx2) n (wr2||!dU (wrd ws nx2).data.toList)):=fun w' q=>Bf br vw ws nx2 n wr2 w' q hl hz
 generalize (if dU (wrd ws nx2).data.toList=true then wrd ws nx2 else ⟨#[]⟩)=v3 at *
 generalize (wr2||!dU (wrd ws nx2).data.toList)=wr3 at *
 generalize nxt ws nx2=nx3 at *;have M0:=MS.start h 113;go_enter Tryz.func71,Tryz.ntmps71;go_wp2_with fail;simp only[iK] at M0;generalize ((w.alloc _).alloc _)=wA at M0 ⊢;refine (HN1.out _ M0.rdr).mono ?_;rintro e w1 ⟨rfl,hP⟩;have M1:=M0.call hP;obtain⟨x0,x1,x2,x3,x4,x5,x6,x7,x8,x9,x10,x11,x12,x13,x14,xf⟩:=M1.msg.all
 have M2:MS w (w1.setCell ⟨w.heap.size+1,6,O⟩ (I J v1)) br vw ws nx1 n wr1 #[I .u8 113,I J 0,Y O 0 0,I J 0,I J 0,I J 0,I J v1,I J 0,Z ⟨#[]⟩,I J 0,I J 0,I J 0,Y O 0 0,Y O 0 0,Y O 0 0]:=M1.put 6 _
 clear M1 hP M0;go_wp2_with fail;generalize w1.setCell ⟨w.heap.size+1,6,O⟩ (I J v1)=w2 at *;clear x0 x1 x2 x3 x4 x5 x6 x7 x8 x9 x10 x11 x12 x13 x14 xf;refine (HN2.out _ M2.rdr).mono ?_;rintro e w3 ⟨rfl,hP⟩;have M3:=M2.call hP;obtain⟨x0,x1,x2,x3,x4,x5,x6,x7,x8,x9,x10,x11,x12,x13,x14,xf⟩:=M3.msg.all
 have M4:MS w (w3.setCell ⟨w.heap.size+1,7,O⟩ (I J v2)) br vw ws nx2 n wr2 #[I .u8 113,I J 0,Y O 0 0,I J 0,I J 0,I J 0,I J v1,I J v2,Z ⟨#[]⟩,I J 0,I J 0,I J 0,Y O 0 0,Y O 0 0,Y O 0 0]:=M3.put 7 _
 clear M2 M3 hP;go_wp2_with fail;generalize w3.setCell ⟨w.heap.size+1,7,O⟩ (I J v2)=w4 at *;clear x0 x1 x2 x3 x4 x5 x6 x7 x8 x9 x10 x11 x12 x13 x14 xf;refine (HO3.out _ M4.rdr).mono ?_;rintro e w5 ⟨rfl,hP⟩;have M5:=M4.call hP;obtain⟨x0,x1,x2,x3,x4,x5,x6,x7,x8,x9,x10,x11,x12,x13,x14,xf⟩:=M5.msg.all
 have M6:MS w (w5.setCell ⟨w.heap.size+1,8,O⟩ (Z v3)) br vw ws nx3 n wr3 #[I .u8 113,I J 0,Y O 0 0,I J 0,I J 0,I J 0,I J v1,I J v2,Z v3,I J 0,I J 0,I J 0,Y O 0 0,Y O 0 0,Y O 0 0]:=M5.put 8 _
 clear M4 M5 hP;go_upto_region 6 with fail
 generalize w5.setCell ⟨w.heap.size+1,8,O⟩ (Z v3)=w6 at *;clear x0 x1 x2 x3 x4 x5 x6 x7 x8 x9 x10 x11 x12 x13 x14 xf;obtain⟨x0,x1,x2,x3,x4,x5,x6,x7,x8,x9,x10,x11,x12,x13,x14,xf⟩:=M6.msg.all
 obtain⟨y0,y1,y2,y3,y4,y5,y6,y7,y8,y9,y10,y11,y12,y13,y14,yf⟩:=M6.zero.all
 have HG:Hid (aK w (dF w6 w.heap.size 0 [I .u8 113,I J 0,Y O 0 0,I J 0,I J 0,I J 0,I J v1,I J v2,Z v3,I J 0,I J 0,I J 0,Y O 0 0,Y O 0 0,Y O 0 0]) br vw ws nx3 n wr3∧(loadVar 68 ⟨w.heap.size,0,O⟩).run Tryz.prog (dF w6 w.heap.size 0 [I .u8 113,I J 0,Y O 0 0,I J 0,I J 0,I J 0,I J v1,I J v2,Z v3,I J 0,I J 0,I J 0,Y O 0 0,Y O 0 0,Y O 0 0])=.ok (.agg #[I .u8 113,I J 0,Y O 0 0,I J 0,I J 0,I J 0,I J v1,I J v2,Z v3,I J 0,I J 0,I J 0,Y O 0 0,Y O 0 0,Y O 0 0]) (dF w6 w.heap.size 0 [I .u8 113,I J 0,Y O 0 0,I J 0,I J 0,I J 0,I J v1,I J v2,Z v3,I J 0,I J 0,I J 0,Y O 0 0,Y O 0 0,Y O 0 0])):=M6.fin
 clear M6;go_wp2;exact bodyPost_ret (bI rfl _ _ _ rfl HG.out.2) rfl ⟨rfl,HG.out.1⟩
end
theorem nP {g:Nat}:∀ (l:List Value) (W:World) (j:Nat),Kp [g] W (dF W g j l)
 | [],_,_=>Kp.refl _ _
 | a :: l,W,j=>((Kp.refl [g] W).set g j a (.inl (by simp))).trans' (nP l _ (j+1))
theorem jQ {w1:World} {g:Nat} (h:dw w1 g (iK 0)) (a0 a1 a2 a3 a4 a5 a6 a7 a8 a9 a10 a11 a12 a13 a14:Value):(loadVar 68 ⟨g,0,O⟩).run Tryz.prog (dF w1 g 0 [a0,a1,a2,a3,a4,a5,a6,a7,a8,a9,a10,a11,a12,a13,a14])=.ok (.agg #[a0,a1,a2,a3,a4,a5,a6,a7,a8,a9,a10,a11,a12,a13,a14]) (dF w1 g 0 [a0,a1,a2,a3,a4,a5,a6,a7,a8,a9,a10,a11,a12,a13,a14]):=by
 have e:yj (iK 0) 0 [a0,a1,a2,a3,a4,a5,a6,a7,a8,a9,a10,a11,a12,a13,a14]=#[a0,a1,a2,a3,a4,a5,a6,a7,a8,a9,a10,a11,a12,a13,a14]:=by simp[yj,iK]
 have q:=qJ (oN [a0,a1,a2,a3,a4,a5,a6,a7,a8,a9,a10,a11,a12,a13,a14] w1 _ 0 h);rw[e] at q;exact q
theorem Iq {w1:World} {g:Nat} (h:dw w1 g (iK 0)) (a0 a1 a2 a3 a4 a5 a6 a7 a8 a9 a10 a11 a12 a13 a14:Value):dw (dF w1 g 0 [a0,a1,a2,a3,a4,a5,a6,a7,a8,a9,a10,a11,a12,a13,a14]) g #[a0,a1,a2,a3,a4,a5,a6,a7,a8,a9,a10,a11,a12,a13,a14]:=by
 have e:yj (iK 0) 0 [a0,a1,a2,a3,a4,a5,a6,a7,a8,a9,a10,a11,a12,a13,a14]=#[a0,a1,a2,a3,a4,a5,a6,a7,a8,a9,a10,a11,a12,a13,a14]:=by simp[yj,iK]
 have q:=oN [a0,a1,a2,a3,a4,a5,a6,a7,a8,a9,a10,a11,a12,a13,a14] w1 _ 0 h
 rwa [e] at q
theorem fH {B:Nat} {w:World} {g:Nat} (hg:B≤g):∀ (l:List Value) (W:World) (j:Nat),Below B w W→Below B w (dF W g j l)
 | [],_,_,h=>h
 | a :: l,_,j,h=>fH hg l _ (j+1) (h.setCell (p:=⟨g,j,O⟩) hg a)
theorem qY {w w1 w2:World} {S:List Nat} (h:Below w.heap.size w w1) (k:Kp S w1 w2) (hS:∀ x∈S,w.heap.size≤x):Below w.heap.size w w2 :=
 ⟨k.os.trans h.os,k.tape.trans h.tape,k.output.trans h.output,Nat.le_trans h.size k.size,fun j hj=>(k.block j (Nat.lt_of_lt_of_le hj h.size) (fun hc=>by have:=hS j hc;omega)).trans (h.block j hj)⟩
structure Pm where
 kind:Int
 frm:Int
 lives:List Int
 epoch:Int
 view:Int
 place:Int
 ent:Int×Int×ByteArray
 commit:Int
 normal:Int
 life:Int
 grp:List Int
 old:List Int
 log:List (Int×Int×ByteArray)
abbrev pqC (P:Pm) (al:Option Addr) (cl:Nat) (ag:Option Addr) (cg:Nat) (ao:Option Addr) (co:Nat) (aL:Option Addr) (cL:Nat):Array Value :=
 #[I .u8 P.kind,I J P.frm,Y al P.lives.length cl,I J P.epoch,I J P.view,I J P.place,I J P.ent.1,I J P.ent.2.1,Z P.ent.2.2,I J P.commit,I J P.normal,I J P.life,Y ag P.grp.length cg,Y ao P.old.length co,Y aL P.log.length cL]
def pmC (P:Pm) (vl vg vo vL:Value):Array Value :=
 #[I .u8 P.kind,I J P.frm,vl,I J P.epoch,I J P.view,I J P.place,I J P.ent.1,I J P.ent.2.1,Z P.ent.2.2,I J P.commit,I J P.normal,I J P.life,vg,vo,vL]
structure xC (u:World) (base:Nat) (P:Pm) (vl vg vo vL:Value):Prop where
 lives:u.ownsRow base 3 1 vl P.lives.length (P.lives.map (Value.int .i64))
 grp:u.ownsRow base 3 1 vg P.grp.length (P.grp.map (Value.int .i64))
 old:u.ownsRow base 3 1 vo P.old.length (P.old.map (Value.int .i64))
 log:u.ownsRow base 66 3 vL P.log.length (aA P.log)
theorem xK:∀ (n:Nat) (l:List Int),l.Nodup→(∀ x∈l,0≤x∧x<n)→l.length≤n
 | 0,l,_,h=>by
  cases l with
  | nil=>simp
  | cons a l=>have:=h a (by simp);omega
 | n+1,l,hd,h=>by
  have h1:=xK n (l.filter (fun x=>decide (x<(n:Int)))) (hd.sublist List.filter_sublist) (fun x hx=>by
   rw[List.mem_filter] at hx;have:=h x hx.1
   have h2:x<(n:Int):=by simpa using hx.2
   omega)
  have h2:l.length≤(l.filter (fun x=>decide (x<(n:Int)))).length+1:=by
   have e:=List.length_eq_countP_add_countP (fun x=>decide (x<(n:Int))) (l:=l)
   rw[List.countP_eq_length_filter] at e;have e2:l.countP (fun a=>decide (¬(decide (a<(n:Int)))=true))≤1:=by
    have e3:l.countP (fun a=>decide (¬(decide (a<(n:Int)))=true))=l.count (n:Int):=by
     rw[List.count];apply List.countP_congr
     intro x hx;have:=h x hx
     simp
     omega
    rw[e3];exact List.nodup_iff_count.1 hd _
   omega
  omega
variable {X:List Nat}
theorem DR {P:Program} {ops:Array Oper} {rest:List Oper} {o:Oper} {a:Act} {Q:Exit→Act→World→Prop} (hgd:o.guard=O) (s x:Operand) (t:TypeId)
  (ho:o.op=.call { callee:=.builtin .append,args:=#[s,x],argTypes:=#[t,t] })
  (base:Nat) (e:TypeId) (i:TypeInfo) (z:Value) (size bytes:Nat) (ht:P.underlying t=some (.slice e)) (hi:P.info? e=some i) (hz:i.zero=some z)
  (hsize:i.size=size) (hby:i.bytes=bytes) (hzs:z.cells.size=size) (hsz:0<size)
  (w:World) (g:Nat) (hg:w.heap.size=g) (v:Value) (n:Nat) (xs:List Value) (hs:a.eval s=v) (hown:w.ownsRow base e size v n xs)
  (c:Nat) (news:List Value) (hx:a.eval x=Y (some ⟨g,0,O⟩) 1 c) (hl:news.length=size) (h1:∀ u∈news,u.oneCell'=true)
  (hn:n≤1000000000) (hby2:bytes≤1000) (hbase:base≤w.heap.size)
  (h:∀ v' w',w'.ownsRow base e size v' (n+1) (xs++news)→w.grownBy w' v.ownBlock→Below base w w'→v'≠Y O 0 0→wpList P ops Q rest (a.put o.dst v') w') :
  wpList P ops Q (o :: rest) a (w.alloc (.cells news.toArray e)):=by
 subst hg;exact app1 hgd s x t ho base e i z size bytes ht hi hz hsize hby hzs hsz w v n xs hs hown c news hx hl h1 hn hby2 hbase h
theorem fA {ws:List ByteArray} {f:ByteArray} {n:Int} (hfit:∀ k,k<f.size→lJ (ws.getD (k+1) Ze) (f.data.toList.getD k 0).toNat n (ws.getD k Ze)=true) (k:Nat) (c:UInt8) (h:f.data.toList[k]? = some c) :
  lJ (ws.getD (k+1) Ze) c.toNat n (ws.getD k Ze)=true:=by
 have hk:k<f.size:=by have:=(List.getElem?_eq_some_iff.1 h).1;simpa using this
 have:=hfit k hk
 have e:f.data.toList.getD k 0=c:=by rw[List.getD,h];rfl
 rwa [e] at this
theorem Na {ws:List ByteArray} {f:ByteArray} {n:Int} (hf:f.data.toList.take 4=[102,108,101,118]) (hfit:∀ k,k<f.size→lJ (ws.getD (k+1) Ze) (f.data.toList.getD k 0).toNat n (ws.getD k Ze)=true) :
  au (ws.getD 1 Ze).data.toList 0 (n-1)=true∧cu (ws.getD 2 Ze) n=true∧au (ws.getD 3 Ze).data.toList 0 10=true∧au (ws.getD 4 Ze).data.toList 0 999=true:=by
 have g:∀ k,k<4→f.data.toList[k]? = ([102,108,101,118]:List UInt8)[k]?:=fun k hk=>by rw[← hf,List.getElem?_take_of_lt hk]
 have h0:=fA hfit 0 102 (g 0 (by omega))
 have h1:=fA hfit 1 108 (g 1 (by omega))
 have h2:=fA hfit 2 101 (g 2 (by omega))
 have h3:=fA hfit 3 118 (g 3 (by omega))
 simp[lJ] at h0 h1 h2 h3;exact⟨h0,h1,h2,h3⟩
theorem K8 {s:ByteArray} {n:Int} (h:cu s n=true):((eu s).length:Int)=n∧∀ x∈eu s,0≤x∧x≤999:=by
 unfold cu at h;simp only[Bool.and_eq_true,List.all_eq_true,beq_iff_eq] at h;refine⟨by unfold eu;rw[List.length_map];exact h.2,fun x hx=>?_⟩
 unfold eu at hx;rw[List.mem_map] at hx;obtain⟨p,hp,rfl⟩:=hx
 exact dL (h.1 p hp)
theorem tH {s:ByteArray} {n:Int} (h:dS s n=true):∀ e∈lq s,dR e n=true:=by
 unfold dS at h;unfold lq
 split at h
 ·rename_i hd;rw[if_pos hd];simp
 ·rename_i hd;rw[if_neg hd];simp only[Bool.and_eq_true,List.all_eq_true] at h;exact h.1
theorem Lu {s:ByteArray} {n:Int} (h:aV s.data.toList n=true∨s.toList=[45]):s.size≤5:=by
 rcases h with h|h
 ·exact (mE h).2
 ·rw[ByteArray.toList_eq] at h;have:s.data.toList.length=1:=by rw[h];rfl
  have hl:s.size=s.data.toList.length:=by simp
  omega
def qH (k:ByteArray):Bool:=k.toList==[112]||k.toList==[107]||k.toList==[99]||k.toList==[104]||k.toList==[103]||k.toList==[114]||k.toList==[116]||k.toList==[118]||k.toList==[115]||k.toList==[97]
theorem H9 {k:ByteArray} (h:0<(bG k).size):k.toList=[113]∨k.toList=[109]∨qH k=true:=by
 cases hr:qH k
 ·by_cases h1:k.toList=[113]
  ·exact .inl h1
  ·by_cases h2:k.toList=[109]
   ·exact .inr (.inl h2)
   ·exfalso
    unfold qH at hr;simp only[Bool.or_eq_false_iff] at hr;obtain⟨⟨⟨⟨⟨⟨⟨⟨⟨r1,r2⟩,r3⟩,r4⟩,r5⟩,r6⟩,r7⟩,r8⟩,r9⟩,r10⟩:=hr
    have h1':(k.toList==[113])=false:=by rw[beq_eq_false_iff_ne];exact h1
    have h2':(k.toList==[109])=false:=by rw[beq_eq_false_iff_ne];exact h2
    unfold bG at h;rw[h1',h2',r1,r2,r3,r4,r5,r6,r7,r8,r9,r10] at h;exact absurd h (by decide)
 ·exact .inr (.inr rfl)
theorem NH {k:ByteArray} (h:qH k=true):(bG k).data.toList.take 4=[102,108,101,118]:=by
 unfold qH at h;simp only[Bool.or_eq_true,beq_iff_eq] at h;unfold bG;rcases h with ((((((((h|h)|h)|h)|h)|h)|h)|h)|h)|h <;> rw[h] <;> rfl
section
variable {s:ByteArray} {n:Int} (hw:aZ s n≠[]) (hn:n≤7) (hr:qH ((aZ s n).getD 0 Ze)=true)
theorem He {s:ByteArray} {n:Int} (hw:aZ s n≠[]) (hn:n≤7) (hr:qH ((aZ s n).getD 0 Ze)=true):OG n (fu (aZ s n))∧OC n (fu (aZ s n)):=by
 obtain⟨hs,he,hf,hlen,hfit⟩:=sj hw
 rw[he] at hr ⊢;have hz:∀ x∈bP s 32,x.size≤400:=fun x hx=>Nat.le_trans (lW s 32 x hx) hs
 have hzg:∀ k,((bP s 32).getD k Ze).size≤400:=fun k=>by
  by_cases hk:k<(bP s 32).length
  ·have e:(bP s 32).getD k Ze=(bP s 32)[k]:=by simp[List.getD,hk]
   rw[e];exact hz _ (List.getElem_mem _)
  ·have e:(bP s 32).getD k Ze=Ze:=by rw[List.getD,List.getElem?_eq_none (by omega)];rfl
   rw[e];exact Nat.zero_le _
 obtain⟨a1,a2,a3,a4⟩:=Na (NH hr) hfit
 generalize bP s 32=ws at *;have b1:=dL a1;have b2:=K8 a2;have b3:=dL a3;have b4:=dL a4;have w1:(ws.getD 1 Ze).size=1:=by have:=num1 b1.1 b1.2 (by omega);simpa using this
 have hr2:=hr;unfold qH at hr2;simp only[Bool.or_eq_true,beq_iff_eq] at hr2;rcases hr2 with ((((((((h|h)|h)|h)|h)|h)|h)|h)|h)|h
 ·have hF:bG (ws.getD 0 Ze)=⟨#[102,108,101,118,120,112,121]⟩:=by unfold bG;rw[h];rfl
  have hS:fu ws=⟨ws,ws.getD 0 Ze,aF (ws.getD 1 Ze).data.toList,eu (ws.getD 2 Ze),aF (ws.getD 3 Ze).data.toList,aF (ws.getD 4 Ze).data.toList,aF (ws.getD 7 Ze).data.toList,[]⟩:=by
   unfold fu ku;rw[h,hF];rfl
  rw[hF] at hfit hlen;have f5:=fA hfit 4 120 rfl;have f6:=fA hfit 5 112 rfl;have f7:=fA hfit 6 121 rfl;simp[lJ] at f5 f6 f7;have g5:=dL f5;have g7:=dL f7;have hl:ws.length=8:=hlen
  obtain⟨q1,q2⟩:=tF f6 (hzg 6)
  rw[hS];refine⟨⟨fun x hx=>Nat.le_trans (hz x hx) (by omega),b1.1,by have:=b1.2;show aF _<n;omega,b2.1,b2.2,b3.1,b3.2,b4.1,b4.2,g7.1,g7.2,⟨Nat.zero_le _,by simp,by simp,by simp⟩,by simp⟩,⟨by show 4<ws.length;omega,w1,fun _=>⟨⟨by show 6<ws.length;omega,g5.2,q1,hzg 6,q2,hz⟩,f6,g5.1⟩,?_,?_,?_,?_⟩⟩ <;> (intro hc;exfalso;have hc2:(ws.getD 0 Ze).toList=_:=hc;rw[h] at hc2;simp at hc2)
 ·have hF:bG (ws.getD 0 Ze)=⟨#[102,108,101,118,121]⟩:=by unfold bG;rw[h];rfl
  have hS:fu ws=⟨ws,ws.getD 0 Ze,aF (ws.getD 1 Ze).data.toList,eu (ws.getD 2 Ze),aF (ws.getD 3 Ze).data.toList,aF (ws.getD 4 Ze).data.toList,0,[]⟩:=by
   unfold fu ku;rw[h,hF];rfl
  rw[hF] at hfit hlen;have f5:=fA hfit 4 121 rfl;simp[lJ] at f5;have hl:ws.length=6:=hlen
  rw[hS];have g5:=dL f5;refine⟨⟨fun x hx=>Nat.le_trans (hz x hx) (by omega),b1.1,by have:=b1.2;show aF _<n;omega,b2.1,b2.2,b3.1,b3.2,b4.1,b4.2,Int.le_refl _,by show (0:Int)≤10;omega,⟨Nat.zero_le _,by simp,by simp,by simp⟩,by simp⟩,⟨by show 4<ws.length;omega,w1,?_,fun _=>⟨by show 5<ws.length;omega,g5.1,g5.2⟩,?_,?_,?_⟩⟩ <;> (intro hc;exfalso;have hc2:(ws.getD 0 Ze).toList=_:=hc;rw[h] at hc2;simp at hc2)
 ·have hF:bG (ws.getD 0 Ze)=⟨#[102,108,101,118,121]⟩:=by unfold bG;rw[h];rfl
  have hS:fu ws=⟨ws,ws.getD 0 Ze,aF (ws.getD 1 Ze).data.toList,eu (ws.getD 2 Ze),aF (ws.getD 3 Ze).data.toList,aF (ws.getD 4 Ze).data.toList,aF (ws.getD 5 Ze).data.toList,[]⟩:=by
   unfold fu ku;rw[h,hF];rfl
  rw[hF] at hfit hlen;have f5:=fA hfit 4 121 rfl;simp[lJ] at f5;have hl:ws.length=6:=hlen
  have gc:=dL f5;rw[hS];refine⟨⟨fun x hx=>Nat.le_trans (hz x hx) (by omega),b1.1,by have:=b1.2;show aF _<n;omega,b2.1,b2.2,b3.1,b3.2,b4.1,b4.2,gc.1,gc.2,⟨Nat.zero_le _,by simp,by simp,by simp⟩,by simp⟩,⟨by show 4<ws.length;omega,w1,?_,?_,?_,?_,?_⟩⟩ <;> (intro hc;exfalso;have hc2:(ws.getD 0 Ze).toList=_:=hc;rw[h] at hc2;simp at hc2)
 ·have hF:bG (ws.getD 0 Ze)=⟨#[102,108,101,118]⟩:=by unfold bG;rw[h];rfl
  have hS:fu ws=⟨ws,ws.getD 0 Ze,aF (ws.getD 1 Ze).data.toList,eu (ws.getD 2 Ze),aF (ws.getD 3 Ze).data.toList,aF (ws.getD 4 Ze).data.toList,0,[]⟩:=by
   unfold fu ku;rw[h,hF];rfl
  rw[hF] at hfit hlen;have hl:ws.length=5:=hlen
  rw[hS];refine⟨⟨fun x hx=>Nat.le_trans (hz x hx) (by omega),b1.1,by have:=b1.2;show aF _<n;omega,b2.1,b2.2,b3.1,b3.2,b4.1,b4.2,Int.le_refl _,by show (0:Int)≤10;omega,⟨Nat.zero_le _,by simp,by simp,by simp⟩,by simp⟩,⟨by show 4<ws.length;omega,w1,?_,?_,?_,?_,?_⟩⟩ <;> (intro hc;exfalso;have hc2:(ws.getD 0 Ze).toList=_:=hc;rw[h] at hc2;simp at hc2)
 ·have hF:bG (ws.getD 0 Ze)=⟨#[102,108,101,118]⟩:=by unfold bG;rw[h];rfl
  have hS:fu ws=⟨ws,ws.getD 0 Ze,aF (ws.getD 1 Ze).data.toList,eu (ws.getD 2 Ze),aF (ws.getD 3 Ze).data.toList,aF (ws.getD 4 Ze).data.toList,0,[]⟩:=by
   unfold fu ku;rw[h,hF];rfl
  rw[hF] at hfit hlen;have hl:ws.length=5:=hlen
  rw[hS];refine⟨⟨fun x hx=>Nat.le_trans (hz x hx) (by omega),b1.1,by have:=b1.2;show aF _<n;omega,b2.1,b2.2,b3.1,b3.2,b4.1,b4.2,Int.le_refl _,by show (0:Int)≤10;omega,⟨Nat.zero_le _,by simp,by simp,by simp⟩,by simp⟩,⟨by show 4<ws.length;omega,w1,?_,?_,?_,?_,?_⟩⟩ <;> (intro hc;exfalso;have hc2:(ws.getD 0 Ze).toList=_:=hc;rw[h] at hc2;simp at hc2)
 ·have hF:bG (ws.getD 0 Ze)=⟨#[102,108,101,118]⟩:=by unfold bG;rw[h];rfl
  have hS:fu ws=⟨ws,ws.getD 0 Ze,aF (ws.getD 1 Ze).data.toList,eu (ws.getD 2 Ze),aF (ws.getD 3 Ze).data.toList,aF (ws.getD 4 Ze).data.toList,0,[]⟩:=by
   unfold fu ku;rw[h,hF];rfl
  rw[hF] at hfit hlen;have hl:ws.length=5:=hlen
  rw[hS];refine⟨⟨fun x hx=>Nat.le_trans (hz x hx) (by omega),b1.1,by have:=b1.2;show aF _<n;omega,b2.1,b2.2,b3.1,b3.2,b4.1,b4.2,Int.le_refl _,by show (0:Int)≤10;omega,⟨Nat.zero_le _,by simp,by simp,by simp⟩,by simp⟩,⟨by show 4<ws.length;omega,w1,?_,?_,?_,?_,?_⟩⟩ <;> (intro hc;exfalso;have hc2:(ws.getD 0 Ze).toList=_:=hc;rw[h] at hc2;simp at hc2)
 ·have hF:bG (ws.getD 0 Ze)=⟨#[102,108,101,118]⟩:=by unfold bG;rw[h];rfl
  have hS:fu ws=⟨ws,ws.getD 0 Ze,aF (ws.getD 1 Ze).data.toList,eu (ws.getD 2 Ze),aF (ws.getD 3 Ze).data.toList,aF (ws.getD 4 Ze).data.toList,0,[]⟩:=by
   unfold fu ku;rw[h,hF];rfl
  rw[hF] at hfit hlen;have hl:ws.length=5:=hlen
  rw[hS];refine⟨⟨fun x hx=>Nat.le_trans (hz x hx) (by omega),b1.1,by have:=b1.2;show aF _<n;omega,b2.1,b2.2,b3.1,b3.2,b4.1,b4.2,Int.le_refl _,by show (0:Int)≤10;omega,⟨Nat.zero_le _,by simp,by simp,by simp⟩,by simp⟩,⟨by show 4<ws.length;omega,w1,?_,?_,?_,?_,?_⟩⟩ <;> (intro hc;exfalso;have hc2:(ws.getD 0 Ze).toList=_:=hc;rw[h] at hc2;simp at hc2)
 ·have hF:bG (ws.getD 0 Ze)=⟨#[102,108,101,118,118,121,76]⟩:=by unfold bG;rw[h];rfl
  have hS:fu ws=⟨ws,ws.getD 0 Ze,aF (ws.getD 1 Ze).data.toList,eu (ws.getD 2 Ze),aF (ws.getD 3 Ze).data.toList,aF (ws.getD 4 Ze).data.toList,aF (ws.getD 6 Ze).data.toList,lq (ws.getD 7 Ze)⟩:=by
   unfold fu ku;rw[h,hF];rfl
  rw[hF] at hfit hlen;have f5:=fA hfit 4 118 rfl;have f6:=fA hfit 5 121 rfl;have f7:=fA hfit 6 76 rfl;simp[lJ] at f5 f6 f7;have hl:ws.length=8:=hlen
  have gc:=dL f6;have gl:=vS f7.1 (hzg 7);have gm:=tH f7.1;rw[hS];have g5:=dL f5;refine⟨⟨fun x hx=>Nat.le_trans (hz x hx) (by omega),b1.1,by have:=b1.2;show aF _<n;omega,b2.1,b2.2,b3.1,b3.2,b4.1,b4.2,gc.1,gc.2,gl,gm⟩,⟨by show 4<ws.length;omega,w1,?_,?_,fun _=>⟨by show 5<ws.length;omega,g5.1,g5.2,f7.2⟩,?_,?_⟩⟩ <;> (intro hc;exfalso;have hc2:(ws.getD 0 Ze).toList=_:=hc;rw[h] at hc2;simp at hc2)
 ·have hF:bG (ws.getD 0 Ze)=⟨#[102,108,101,118,103,104,121,76]⟩:=by unfold bG;rw[h];rfl
  have hS:fu ws=⟨ws,ws.getD 0 Ze,aF (ws.getD 1 Ze).data.toList,eu (ws.getD 2 Ze),aF (ws.getD 3 Ze).data.toList,aF (ws.getD 4 Ze).data.toList,aF (ws.getD 7 Ze).data.toList,lq (ws.getD 8 Ze)⟩:=by
   unfold fu ku;rw[h,hF];rfl
  rw[hF] at hfit hlen;have f5:=fA hfit 4 103 rfl;have f6:=fA hfit 5 104 rfl;have f7:=fA hfit 6 121 rfl;have f8:=fA hfit 7 76 rfl;simp[lJ] at f5 f6 f7 f8;have hl:ws.length=9:=hlen
  have gc:=dL f7;have gl:=vS f8.1 (hzg 8);have gm:=tH f8.1;rw[hS];have g6:(ws.getD 6 Ze).size≤5:=Lu f6
  refine⟨⟨fun x hx=>Nat.le_trans (hz x hx) (by omega),b1.1,by have:=b1.2;show aF _<n;omega,b2.1,b2.2,b3.1,b3.2,b4.1,b4.2,gc.1,gc.2,gl,gm⟩,⟨by show 4<ws.length;omega,w1,?_,?_,?_,fun _=>⟨⟨by show 6<ws.length;omega,b3.1,b3.2,b4.1,b4.2,(mE f5).1,(mE f5).2,g6,gl,gc.1,f8.2⟩,f5,f6⟩,?_⟩⟩ <;> (intro hc;exfalso;have hc2:(ws.getD 0 Ze).toList=_:=hc;rw[h] at hc2;simp at hc2)
 ·have hF:bG (ws.getD 0 Ze)=⟨#[102,108,101,118,105,103,104,121,76]⟩:=by unfold bG;rw[h];rfl
  have hS:fu ws=⟨ws,ws.getD 0 Ze,aF (ws.getD 1 Ze).data.toList,eu (ws.getD 2 Ze),aF (ws.getD 3 Ze).data.toList,aF (ws.getD 4 Ze).data.toList,aF (ws.getD 8 Ze).data.toList,lq (ws.getD 9 Ze)⟩:=by
   unfold fu ku;rw[h,hF];rfl
  rw[hF] at hfit hlen;have f5:=fA hfit 4 105 rfl;have f6:=fA hfit 5 103 rfl;have f7:=fA hfit 6 104 rfl;have f8:=fA hfit 7 121 rfl;have f9:=fA hfit 8 76 rfl;simp[lJ] at f5 f6 f7 f8 f9;have hl:ws.length=10:=hlen
  have gc:=dL f8;have gl:=vS f9.1 (hzg 9);have gm:=tH f9.1;rw[hS];have g5:=dL f5;have g7:(ws.getD 7 Ze).size≤5:=Lu f7
  refine⟨⟨fun x hx=>Nat.le_trans (hz x hx) (by omega),b1.1,by have:=b1.2;show aF _<n;omega,b2.1,b2.2,b3.1,b3.2,b4.1,b4.2,gc.1,gc.2,gl,gm⟩,⟨by show 4<ws.length;omega,w1,?_,?_,?_,?_,fun _=>⟨⟨by show 7<ws.length;omega,b3.1,b3.2,b4.1,b4.2,(mE f6).1,(mE f6).2,g7,gl,gc.1,f9.2⟩,f6,f7,g5.1,g5.2⟩⟩⟩ <;> (intro hc;exfalso;have hc2:(ws.getD 0 Ze).toList=_:=hc;rw[h] at hc2;simp at hc2)
end
theorem Fq {l:List UInt8} {n:Int} (h:jH l n=true):∀ c∈l,97≤c.toNat∧c.toNat≤122∨48≤c.toNat∧c.toNat≤57:=by
 unfold jH at h
 split at h
 ·rename_i hh;intro c hc
  match l,hh with
  | a :: r,hh =>
   simp at hh;subst hh;rcases List.mem_cons.1 hc with rfl|hc
   ·left;decide
   ·right
    have hg:aV r n=true:=by simpa using h
    by_cases h1:48≤c.toNat∧c.toNat≤57
    ·exact h1
    ·exact absurd hc (Eb hg (by omega))
 ·exact FN h
theorem KE {a b o:ByteArray} {n:Int} (ha:au a.data.toList 1 9=true) (hb:au b.data.toList 1 999=true) (ho:jH o.data.toList n=true) :
  bP (a++DOT++b++DOT++o) 46=[a,b,o]∧dR (a++DOT++b++DOT++o) n=true:=by
 have e46:((46:UInt8).toNat:Int)=46:=rfl
 have c1:∀ a b:ByteArray,(46:UInt8)∉a.data.toList→bP (a++⟨#[46]⟩++b) 46=a :: bP b 46:=fun a b h=>by have:=@BA a b 46 h;rwa [e46] at this
 have c2:∀ a:ByteArray,(46:UInt8)∉a.data.toList→bP a 46=[a]:=fun a h=>by have:=@ug a 46 h;rwa [e46] at this
 have wa:=dL ha;have wb:=dL hb;have hc:bP (a++DOT++b++DOT++o) 46=[a,b,o]:=by
  have e:a++DOT++b++DOT++o=a++⟨#[46]⟩++(b++⟨#[46]⟩++o):=by
   apply bytes_inj;simp[ByteArray.data_append,DOT]
  rw[e,c1 _ _ (Df (by omega) (.inl (by decide))),c1 _ _ (Df (by omega) (.inl (by decide))),c2]
  intro hm;have:=Fq ho 46 hm
  revert this;decide
 refine⟨hc,?_⟩
 unfold dR;rw[hc];unfold ze;simp only[ha,hb,ho];rfl
theorem N7 {s:ByteArray} {n:Int} (hw:aZ s n≠[]) (hk:((aZ s n).getD 0 Ze).toList=[113]):s.size≤400∧aZ s n=bP s 32∧(aZ s n).length=4 ∧
  au ((aZ s n).getD 1 Ze).data.toList 1 9=true∧au ((aZ s n).getD 2 Ze).data.toList 1 999=true∧dU ((aZ s n).getD 3 Ze).data.toList=true:=by
 obtain⟨hs,he,hf,hlen,hfit⟩:=sj hw
 rw[he] at hk ⊢;generalize bP s 32=ws at *;have hF:bG (ws.getD 0 Ze)=⟨#[99,110,111]⟩:=by unfold bG;rw[hk];rfl
 rw[hF] at hfit hlen;have f1:=fA hfit 0 99 rfl;have f2:=fA hfit 1 110 rfl;have f3:=fA hfit 2 111 rfl;simp[lJ] at f1 f2 f3;exact⟨hs,rfl,hlen,f1,f2,f3⟩
theorem NZ {s:ByteArray} {n:Int} (hw:aZ s n≠[]) (hk:((aZ s n).getD 0 Ze).toList=[109]):s.size≤400∧aZ s n=bP s 32∧(aZ s n).length=5 ∧
  au ((aZ s n).getD 1 Ze).data.toList 1 9=true∧au ((aZ s n).getD 2 Ze).data.toList 1 999=true∧au ((aZ s n).getD 3 Ze).data.toList 0 999=true∧iX ((aZ s n).getD 4 Ze).data.toList=true:=by
 obtain⟨hs,he,hf,hlen,hfit⟩:=sj hw
 rw[he] at hk ⊢;generalize bP s 32=ws at *;have hF:bG (ws.getD 0 Ze)=⟨#[99,110,118,119]⟩:=by unfold bG;rw[hk];rfl
 rw[hF] at hfit hlen;have f1:=fA hfit 0 99 rfl;have f2:=fA hfit 1 110 rfl;have f3:=fA hfit 2 118 rfl;have f4:=fA hfit 3 119 rfl;simp[lJ] at f1 f2 f3 f4;exact⟨hs,rfl,hlen,f1,f2,f3,f4⟩
structure Rw where
 t:TypeId
 sz:Nat
 v:Value
 n:Nat
 xs:List Value
def jv (u:World) (base:Nat) (Rs:List Rw):Prop:=∀ r∈Rs,u.ownsRow base r.t r.sz r.v r.n r.xs
theorem jv.kp {u u':World} {base:Nat} {Rs:List Rw} {S:List Nat} (h:jv u base Rs) (k:Kp S u u') (hS:∀ x∈S,x<base):jv u' base Rs:=fun r hr=>ig (h r hr) k hS
theorem jv.cons {u:World} {base:Nat} {Rs:List Rw} {t:TypeId} {sz:Nat} {v:Value} {n:Nat} {xs:List Value} (h:jv u base Rs) (k:u.ownsRow base t sz v n xs):jv u base (⟨t,sz,v,n,xs⟩ :: Rs):=fun r hr=>by
 rcases List.mem_cons.1 hr with rfl|hr
 ·exact k
 ·exact h r hr
theorem jv.nil {u:World} {base:Nat}:jv u base []:=fun r hr=>by cases hr
def MO (w w':World) (br:Nat) (vw:Value) (ws:List ByteArray) (nx:Nat) (n:Int) (wr:Bool) (c:Array Value) (Rs:List Rw):Prop:=MS w w' br vw ws nx n wr c∧jv w' (w.heap.size+2) Rs∧w.heap.size+2≤w'.heap.size
section
variable {w w1 w2:World} {br:Nat} {vw:Value} {ws:List ByteArray} {nx nx':Nat} {n:Int} {wr wr':Bool} {c:Array Value} {Rs:List Rw}
theorem MO.start (h:aJ w br vw ws nx n wr) (k:Int):MO w ((w.alloc (.cells (iK 0) 68)).alloc (.cells (iK k) 68)) br vw ws nx n wr (iK k) [] :=
 ⟨MS.start h k,jv.nil,by simp⟩
theorem MO.call (h:MO w w1 br vw ws nx n wr c Rs) (k:aK w1 w2 br vw ws nx' n wr'):MO w w2 br vw ws nx' n wr' c Rs :=
 ⟨h.1.call k,h.2.1.kp k.2 (fun x hx=>by simp at hx;subst hx;have:=h.1.blt;omega),Nat.le_trans h.2.2 k.2.size⟩
theorem MO.own (h:MO w w1 br vw ws nx n wr c Rs) (k:aK w1 w2 br vw ws nx' n wr') {t:TypeId} {sz:Nat} {v:Value} {m:Nat} {xs:List Value} (q:w2.ownsRow w1.heap.size t sz v m xs):MO w w2 br vw ws nx' n wr' c (⟨t,sz,v,m,xs⟩ :: Rs) :=
 ⟨(h.call k).1,(h.call k).2.1.cons (eU q h.2.2),(h.call k).2.2⟩
theorem MO.put (h:MO w w1 br vw ws nx n wr c Rs) (j:Nat) (v:Value):MO w (w1.setCell ⟨w.heap.size+1,j,O⟩ v) br vw ws nx n wr (c.setIfInBounds j v) Rs :=
 ⟨h.1.put j v,h.2.1.kp ((Kp.refl [w.heap.size+1] w1).set _ j v (.inl (by simp))) (fun x hx=>by simp at hx;omega),by have:=((Kp.refl [w.heap.size+1] w1).set (w.heap.size+1) j v (.inl (by simp))).size;have:=h.2.2;omega⟩
theorem MO.big {c':Array Value} (h:MO w w1 br vw ws nx n wr c Rs) (hR:aJ w2 br vw ws nx' n wr') (hm:dw w2 (w.heap.size+1) c') (k:Kp [br,w.heap.size+1] w1 w2):MO w w2 br vw ws nx' n wr' c' Rs :=
 ⟨⟨hR,hm,h.1.zero.kp k (by have:=h.1.blt;simp;omega),h.1.kp.trans k (fun x hx hlt=>by simp at hx;rcases hx with rfl|rfl <;> first|omega|simp),h.1.lt,h.1.blt⟩,h.2.1.kp k (fun x hx=>by have:=h.1.blt;simp at hx;omega),Nat.le_trans h.2.2 k.size⟩
theorem MO.add (h:MO w w1 br vw ws nx n wr c Rs) {t:TypeId} {sz:Nat} {v:Value} {m:Nat} {xs:List Value} {b:Nat} (hb:w.heap.size+2≤b) (q:w1.ownsRow b t sz v m xs):MO w w1 br vw ws nx n wr c (⟨t,sz,v,m,xs⟩ :: Rs) :=
 ⟨h.1,h.2.1.cons (eU q hb),h.2.2⟩
theorem MO.wrong (h:MO w w1 br vw ws nx n wr c Rs) (x:Bool):MO w (w1.setCell ⟨br,3,O⟩ (.bool x)) br vw ws nx n x c Rs :=
 h.call ⟨h.1.rdr.qV x,(Kp.refl [br] w1).set br 3 _ (.inl (by simp))⟩
variable {a0 a1 a2 a3 a4 a5 a6 a7 a8 a9 a10 a11 a12 a13 a14:Value}
theorem MO.fin (h:MO w w1 br vw ws nx n wr #[a0,a1,a2,a3,a4,a5,a6,a7,a8,a9,a10,a11,a12,a13,a14] Rs):aK w (dF w1 w.heap.size 0 [a0,a1,a2,a3,a4,a5,a6,a7,a8,a9,a10,a11,a12,a13,a14]) br vw ws nx n wr∧(loadVar 68 ⟨w.heap.size,0,O⟩).run Tryz.prog (dF w1 w.heap.size 0 [a0,a1,a2,a3,a4,a5,a6,a7,a8,a9,a10,a11,a12,a13,a14])=.ok (.agg #[a0,a1,a2,a3,a4,a5,a6,a7,a8,a9,a10,a11,a12,a13,a14]) (dF w1 w.heap.size 0 [a0,a1,a2,a3,a4,a5,a6,a7,a8,a9,a10,a11,a12,a13,a14])∧jv (dF w1 w.heap.size 0 [a0,a1,a2,a3,a4,a5,a6,a7,a8,a9,a10,a11,a12,a13,a14]) (w.heap.size+2) Rs :=
 ⟨h.1.fin.1,h.1.fin.2,h.2.1.kp (nP _ _ _) (fun x hx=>by simp at hx;omega)⟩
end
def oV (w w':World) (br:Nat) (vw:Value) (ws:List ByteArray) (n k v1:Int) (v2:List Int) (v3 v4:Int) (nx4:Nat) (wr4:Bool) (e:Ending):Prop :=
 (k=112→∃ vl,e=Zr (.agg #[I .u8 112,I J v1,vl,I J v3,I J v4,I J (aC (wrd ws nx4) 1 10),I J (dX (wrd ws (nxt ws nx4)) n).1,I J (dX (wrd ws (nxt ws nx4)) n).2.1,Z (dX (wrd ws (nxt ws nx4)) n).2.2,I J (aC (wrd ws (nxt ws (nxt ws nx4))) 0 10),I J 0,I J 0,Y O 0 0,Y O 0 0,Y O 0 0])∧jv w' (w.heap.size+2) [⟨3,1,vl,(v2).length,(v2).map (Value.int .i64)⟩]∧aK w w' br vw ws (nxt ws (nxt ws (nxt ws nx4))) n (((wr4||!au (wrd ws nx4).data.toList 1 10)||!dR (wrd ws (nxt ws nx4)) n)||!au (wrd ws (nxt ws (nxt ws nx4))).data.toList 0 10)) ∧
 (k=107→∃ vl,e=Zr (.agg #[I .u8 107,I J v1,vl,I J v3,I J v4,I J (aC (wrd ws nx4) 0 10),I J 0,I J 0,Z ⟨#[]⟩,I J 0,I J 0,I J 0,Y O 0 0,Y O 0 0,Y O 0 0])∧jv w' (w.heap.size+2) [⟨3,1,vl,(v2).length,(v2).map (Value.int .i64)⟩]∧aK w w' br vw ws (nxt ws nx4) n (wr4||!au (wrd ws nx4).data.toList 0 10)) ∧
 (k=99→∃ vl,e=Zr (.agg #[I .u8 99,I J v1,vl,I J v3,I J v4,I J 0,I J 0,I J 0,Z ⟨#[]⟩,I J (aC (wrd ws nx4) 0 10),I J 0,I J 0,Y O 0 0,Y O 0 0,Y O 0 0])∧jv w' (w.heap.size+2) [⟨3,1,vl,(v2).length,(v2).map (Value.int .i64)⟩]∧aK w w' br vw ws (nxt ws nx4) n (wr4||!au (wrd ws nx4).data.toList 0 10)) ∧
 (k=104→∃ vl,e=Zr (.agg #[I .u8 104,I J v1,vl,I J v3,I J v4,I J 0,I J 0,I J 0,Z ⟨#[]⟩,I J 0,I J 0,I J 0,Y O 0 0,Y O 0 0,Y O 0 0])∧jv w' (w.heap.size+2) [⟨3,1,vl,(v2).length,(v2).map (Value.int .i64)⟩]∧aK w w' br vw ws nx4 n wr4) ∧
 (k=103→∃ vl,e=Zr (.agg #[I .u8 103,I J v1,vl,I J v3,I J v4,I J 0,I J 0,I J 0,Z ⟨#[]⟩,I J 0,I J 0,I J 0,Y O 0 0,Y O 0 0,Y O 0 0])∧jv w' (w.heap.size+2) [⟨3,1,vl,(v2).length,(v2).map (Value.int .i64)⟩]∧aK w w' br vw ws nx4 n wr4) ∧
 (k=114→∃ vl,e=Zr (.agg #[I .u8 114,I J v1,vl,I J v3,I J v4,I J 0,I J 0,I J 0,Z ⟨#[]⟩,I J 0,I J 0,I J 0,Y O 0 0,Y O 0 0,Y O 0 0])∧jv w' (w.heap.size+2) [⟨3,1,vl,(v2).length,(v2).map (Value.int .i64)⟩]∧aK w w' br vw ws nx4 n wr4) ∧
 (k=116→∃ vl,e=Zr (.agg #[I .u8 116,I J v1,vl,I J v3,I J v4,I J 0,I J 0,I J 0,Z ⟨#[]⟩,I J 0,I J 0,I J 0,Y O 0 0,Y O 0 0,Y O 0 0])∧jv w' (w.heap.size+2) [⟨3,1,vl,(v2).length,(v2).map (Value.int .i64)⟩]∧aK w w' br vw ws nx4 n wr4) ∧
 (k=118→∃ vl vL,e=Zr (.agg #[I .u8 118,I J v1,vl,I J v3,I J v4,I J 0,I J 0,I J 0,Z ⟨#[]⟩,I J (aC (wrd ws (nxt ws nx4)) 0 10),I J (aC (wrd ws nx4) 0 999),I J 0,Y O 0 0,Y O 0 0,vL])∧jv w' (w.heap.size+2) [⟨66,3,vL,(dN (wrd ws (nxt ws (nxt ws nx4))) n).length,aA (dN (wrd ws (nxt ws (nxt ws nx4))) n)⟩,⟨3,1,vl,(v2).length,(v2).map (Value.int .i64)⟩]∧aK w w' br vw ws (nxt ws (nxt ws (nxt ws nx4))) n (((wr4||!au (wrd ws nx4).data.toList 0 999)||!au (wrd ws (nxt ws nx4)).data.toList 0 10)||!dS (wrd ws (nxt ws (nxt ws nx4))) n||decide (((dN (wrd ws (nxt ws (nxt ws nx4))) n).length:Int)<aC (wrd ws (nxt ws nx4)) 0 10))) ∧
 (k=115→∃ vl vg vo vL,e=Zr (.agg #[I .u8 115,I J v1,vl,I J v3,I J v4,I J 0,I J 0,I J 0,Z ⟨#[]⟩,I J (aC (wrd ws (nxt ws (nxt ws nx4))) 0 10),I J 0,I J 0,vg,vo,vL])∧jv w' (w.heap.size+2) [⟨66,3,vL,(dN (wrd ws (nxt ws (nxt ws (nxt ws nx4)))) n).length,aA (dN (wrd ws (nxt ws (nxt ws (nxt ws nx4)))) n)⟩,⟨3,1,vg,(dz (wrd ws nx4) n).length,(dz (wrd ws nx4) n).map (Value.int .i64)⟩,⟨3,1,vo,(gu (wrd ws (nxt ws nx4)) n).length,(gu (wrd ws (nxt ws nx4)) n).map (Value.int .i64)⟩,⟨3,1,vl,(v2).length,(v2).map (Value.int .i64)⟩]∧aK w w' br vw ws (nxt ws (nxt ws (nxt ws (nxt ws nx4)))) n ((((wr4||!aV (wrd ws nx4).data.toList n)||!gN (wrd ws (nxt ws nx4)) n)||!au (wrd ws (nxt ws (nxt ws nx4))).data.toList 0 10)||!dS (wrd ws (nxt ws (nxt ws (nxt ws nx4)))) n||decide (((dN (wrd ws (nxt ws (nxt ws (nxt ws nx4)))) n).length:Int)<aC (wrd ws (nxt ws (nxt ws nx4))) 0 10))) ∧
 (k=97→∃ vl vg vo vL,e=Zr (.agg #[I .u8 97,I J v1,vl,I J v3,I J v4,I J 0,I J 0,I J 0,Z ⟨#[]⟩,I J (aC (wrd ws (nxt ws (nxt ws (nxt ws nx4)))) 0 10),I J 0,I J (aC (wrd ws nx4) 1 999),vg,vo,vL])∧jv w' (w.heap.size+2) [⟨66,3,vL,(dN (wrd ws (nxt ws (nxt ws (nxt ws (nxt ws nx4))))) n).length,aA (dN (wrd ws (nxt ws (nxt ws (nxt ws (nxt ws nx4))))) n)⟩,⟨3,1,vg,(dz (wrd ws (nxt ws nx4)) n).length,(dz (wrd ws (nxt ws nx4)) n).map (Value.int .i64)⟩,⟨3,1,vo,(gu (wrd ws (nxt ws (nxt ws nx4))) n).length,(gu (wrd ws (nxt ws (nxt ws nx4))) n).map (Value.int .i64)⟩,⟨3,1,vl,(v2).length,(v2).map (Value.int .i64)⟩]∧aK w w' br vw ws (nxt ws (nxt ws (nxt ws (nxt ws (nxt ws nx4))))) n (((((wr4||!au (wrd ws nx4).data.toList 1 999)||!aV (wrd ws (nxt ws nx4)).data.toList n)||!gN (wrd ws (nxt ws (nxt ws nx4))) n)||!au (wrd ws (nxt ws (nxt ws (nxt ws nx4)))).data.toList 0 10)||!dS (wrd ws (nxt ws (nxt ws (nxt ws (nxt ws nx4))))) n||decide (((dN (wrd ws (nxt ws (nxt ws (nxt ws (nxt ws nx4))))) n).length:Int)<aC (wrd ws (nxt ws (nxt ws (nxt ws nx4)))) 0 10))) ∧
 (¬k=112→¬k=107→¬k=99→¬k=104→¬k=103→¬k=114→¬k=116→¬k=118→¬k=115→¬k=97→∃ vl,e=Zr (.agg #[I .u8 k,I J v1,vl,I J v3,I J v4,I J 0,I J 0,I J 0,Z ⟨#[]⟩,I J 0,I J 0,I J 0,Y O 0 0,Y O 0 0,Y O 0 0])∧jv w' (w.heap.size+2) [⟨3,1,vl,(v2).length,(v2).map (Value.int .i64)⟩]∧aK w w' br vw ws nx4 n true)
section
variable (br:Nat) (vw:Value) (ws:List ByteArray) (nx:Nat) (n:Int) (wr:Bool) (w:World) (h:aJ w br vw ws nx n wr) (hl:ws.length≤100000) (hz:∀ x∈ws,x.size≤1000) (hn3:3≤n) (hn7:n≤7)
theorem Ah (br:Nat) (vw:Value) (ws:List ByteArray) (nx:Nat) (n:Int) (wr:Bool) (w:World) (h:aJ w br vw ws nx n wr) (hl:ws.length≤100000) (hz:∀ x∈ws,x.size≤1000) (hn3:3≤n) (hn7:n≤7) (k:Int) (hk:k=118∨k=115) :
  Calls Tryz.prog 72 #[Zp (some ⟨br,0,O⟩),I .u8 k] w fun e w'=>oV w w' br vw ws n k (aC (wrd ws nx) 0 (n-1)) (iY (wrd ws (nxt ws nx)) n) (aC (wrd ws (nxt ws (nxt ws nx))) 0 10) (aC (wrd ws (nxt ws (nxt ws (nxt ws nx)))) 0 999) (nxt ws (nxt ws (nxt ws (nxt ws nx))))
   ((((wr||!au (wrd ws nx).data.toList 0 (n-1))||!cu (wrd ws (nxt ws nx)) n)||!au (wrd ws (nxt ws (nxt ws nx))).data.toList 0 10)||!au (wrd ws (nxt ws (nxt ws (nxt ws nx)))).data.toList 0 999) e:=by
 have hlb:=lt_of_block h.block;have hnn:(-9223372036854775808:Int)≤n-1∧n-1≤9223372036854775807:=by omega
 have HNu:Hid (∀ (w':World) (nx:Nat) (wr:Bool) (a b:Int),0≤a→b≤999→aJ w' br vw ws nx n wr→Calls Tryz.prog 114 #[Zp (some ⟨br,0,O⟩),I J a,I J b] w' fun e w''=>e=Zr (I J (aC (wrd ws nx) a b))∧aK w' w'' br vw ws (nxt ws nx) n (wr||!au (wrd ws nx).data.toList a b)):=fun w' nx wr a b q r s=>dx br vw ws nx n wr w' s hl hz a b q r
 have HEn:Hid (∀ (w':World) (nx:Nat) (wr:Bool),aJ w' br vw ws nx n wr→Calls Tryz.prog 118 #[Zp (some ⟨br,0,O⟩)] w' fun e w''=>e=Zr (.agg #[I J (dX (wrd ws nx) n).1,I J (dX (wrd ws nx) n).2.1,Z (dX (wrd ws nx) n).2.2])∧aK w' w'' br vw ws (nxt ws nx) n (wr||!dR (wrd ws nx) n)):=fun w' nx wr s=>rT br vw ws nx n wr w' s hl hz
 have HHi:=fun (w':World) (nx:Nat) (wr:Bool) (s:aJ w' br vw ws nx n wr) (bm:Nat) (c:Array Value)=>nQ br vw ws nx n wr w' s hl hz bm c
 have HGp:=fun (w':World) (nx:Nat) (wr:Bool) (s:aJ w' br vw ws nx n wr) (bm:Nat) (c:Array Value)=>pJ br vw ws nx n wr w' s hl hz bm c
 have HHi':Hid _:=HHi
 have HGp':Hid _:=HGp
 clear HHi HGp;have HN1:Hid (∀ w',aJ w' br vw ws nx n wr→Calls Tryz.prog 114 #[Zp (some ⟨br,0,O⟩),I J 0,I J (n-1)] w' fun e w''=>e=Zr (I J (aC (wrd ws nx) 0 (n-1)))∧aK w' w'' br vw ws (nxt ws nx) n (wr||!au (wrd ws nx).data.toList 0 (n-1))):=fun w' q=>dx br vw ws nx n wr w' q hl hz 0 (n-1) (by omega) (by omega)
 generalize aC (wrd ws nx) 0 (n-1)=v1 at *;generalize (wr||!au (wrd ws nx).data.toList 0 (n-1))=wr1 at *
 generalize nxt ws nx=nx1 at *;have HL2:Hid (∀ w',aJ w' br vw ws nx1 n wr1→Calls Tryz.prog 117 #[Zp (some ⟨br,0,O⟩)] w' fun e w''=>∃ v,e=Zr v∧w''.ownsRow w'.heap.size 3 1 v (iY (wrd ws nx1) n).length ((iY (wrd ws nx1) n).map (Value.int .i64))∧aK w' w'' br vw ws (nxt ws nx1) n (wr1||!cu (wrd ws nx1) n)):=fun w' q=>rU br vw ws nx1 n wr1 w' q hl hz hn3 hn7
 generalize iY (wrd ws nx1) n=v2 at *;generalize (wr1||!cu (wrd ws nx1) n)=wr2 at *
 generalize nxt ws nx1=nx2 at *;have HN3:Hid (∀ w',aJ w' br vw ws nx2 n wr2→Calls Tryz.prog 114 #[Zp (some ⟨br,0,O⟩),I J 0,I J 10] w' fun e w''=>e=Zr (I J (aC (wrd ws nx2) 0 10))∧aK w' w'' br vw ws (nxt ws nx2) n (wr2||!au (wrd ws nx2).data.toList 0 10)):=fun w' q=>dx br vw ws nx2 n wr2 w' q hl hz 0 10 (by omega) (by omega)
 generalize aC (wrd ws nx2) 0 10=v3 at *;generalize (wr2||!au (wrd ws nx2).data.toList 0 10)=wr3 at *
 generalize nxt ws nx2=nx3 at *;have HN4:Hid (∀ w',aJ w' br vw ws nx3 n wr3→Calls Tryz.prog 114 #[Zp (some ⟨br,0,O⟩),I J 0,I J 999] w' fun e w''=>e=Zr (I J (aC (wrd ws nx3) 0 999))∧aK w' w'' br vw ws (nxt ws nx3) n (wr3||!au (wrd ws nx3).data.toList 0 999)):=fun w' q=>dx br vw ws nx3 n wr3 w' q hl hz 0 999 (by omega) (by omega)
 generalize aC (wrd ws nx3) 0 999=v4 at *;generalize (wr3||!au (wrd ws nx3).data.toList 0 999)=wr4 at *
 generalize nxt ws nx3=nx4 at *;have M0:=MO.start h k;have c2':=M0.1.rdr.at 2 (by omega)
 simp at c2';go_enter Tryz.func72,Tryz.ntmps72;simp only[iK] at M0 c2';go_wp2_with fail;clear c2';generalize ((w.alloc _).alloc _)=wA at M0 ⊢;refine (HN1.out _ M0.1.rdr).mono ?_;rintro e u1a ⟨rfl,hP⟩;have A1:=M0.call hP;obtain⟨x0,x1,x2,x3,x4,x5,x6,x7,x8,x9,x10,x11,x12,x13,x14,xf⟩:=A1.1.msg.all
 clear M0 hP;have B1:MO w (u1a.setCell ⟨w.heap.size+1,1,O⟩ (I J v1)) br vw ws nx1 n wr1 #[I .u8 k,I J v1,Y O 0 0,I J 0,I J 0,I J 0,I J 0,I J 0,Z ⟨#[]⟩,I J 0,I J 0,I J 0,Y O 0 0,Y O 0 0,Y O 0 0] []:=A1.put 1 _
 clear A1;go_wp2_with fail;generalize u1a.setCell ⟨w.heap.size+1,1,O⟩ (I J v1)=u1b at *;clear x0 x1 x2 x3 x4 x5 x6 x7 x8 x9 x10 x11 x12 x13 x14 xf;refine (HL2.out _ B1.1.rdr).mono ?_;rintro e u2a ⟨vl,rfl,hO,hP⟩;have A2:=B1.own hP hO;obtain⟨la,lc,rfl⟩:=aj hO
 obtain⟨x0,x1,x2,x3,x4,x5,x6,x7,x8,x9,x10,x11,x12,x13,x14,xf⟩:=A2.1.msg.all
 clear B1 hP hO;have B2:MO w (u2a.setCell ⟨w.heap.size+1,2,O⟩ (Y la v2.length lc)) br vw ws nx2 n wr2 #[I .u8 k,I J v1,Y la v2.length lc,I J 0,I J 0,I J 0,I J 0,I J 0,Z ⟨#[]⟩,I J 0,I J 0,I J 0,Y O 0 0,Y O 0 0,Y O 0 0] [⟨3,1,Y la v2.length lc,(v2).length,(v2).map (Value.int .i64)⟩]:=A2.put 2 _
 clear A2;go_wp2_with fail;generalize u2a.setCell ⟨w.heap.size+1,2,O⟩ (Y la v2.length lc)=u2b at *;clear x0 x1 x2 x3 x4 x5 x6 x7 x8 x9 x10 x11 x12 x13 x14 xf;refine (HN3.out _ B2.1.rdr).mono ?_;rintro e u3a ⟨rfl,hP⟩;have A3:=B2.call hP;obtain⟨x0,x1,x2,x3,x4,x5,x6,x7,x8,x9,x10,x11,x12,x13,x14,xf⟩:=A3.1.msg.all
 clear B2 hP;have B3:MO w (u3a.setCell ⟨w.heap.size+1,3,O⟩ (I J v3)) br vw ws nx3 n wr3 #[I .u8 k,I J v1,Y la v2.length lc,I J v3,I J 0,I J 0,I J 0,I J 0,Z ⟨#[]⟩,I J 0,I J 0,I J 0,Y O 0 0,Y O 0 0,Y O 0 0] [⟨3,1,Y la v2.length lc,(v2).length,(v2).map (Value.int .i64)⟩]:=A3.put 3 _
 clear A3;go_wp2_with fail;generalize u3a.setCell ⟨w.heap.size+1,3,O⟩ (I J v3)=u3b at *;clear x0 x1 x2 x3 x4 x5 x6 x7 x8 x9 x10 x11 x12 x13 x14 xf;refine (HN4.out _ B3.1.rdr).mono ?_;rintro e u4a ⟨rfl,hP⟩;have A4:=B3.call hP;obtain⟨x0,x1,x2,x3,x4,x5,x6,x7,x8,x9,x10,x11,x12,x13,x14,xf⟩:=A4.1.msg.all
 clear B3 hP;have B4:MO w (u4a.setCell ⟨w.heap.size+1,4,O⟩ (I J v4)) br vw ws nx4 n wr4 #[I .u8 k,I J v1,Y la v2.length lc,I J v3,I J v4,I J 0,I J 0,I J 0,Z ⟨#[]⟩,I J 0,I J 0,I J 0,Y O 0 0,Y O 0 0,Y O 0 0] [⟨3,1,Y la v2.length lc,(v2).length,(v2).map (Value.int .i64)⟩]:=A4.put 4 _
 clear A4;go_upto_region 6 with fail
 generalize u4a.setCell ⟨w.heap.size+1,4,O⟩ (I J v4)=u4b at *;clear x0 x1 x2 x3 x4 x5 x6 x7 x8 x9 x10 x11 x12 x13 x14 xf;clear HN1 HL2 HN3 HN4;rcases hk with h118|h115
 ·subst h118;go_wp2_with fail;refine (HNu.out _ _ _ 0 999 (by omega) (by omega) B4.1.rdr).mono ?_
  rintro e v0a ⟨rfl,hP⟩;have Av0:=B4.call hP;obtain⟨x0,x1,x2,x3,x4,x5,x6,x7,x8,x9,x10,x11,x12,x13,x14,xf⟩:=Av0.1.msg.all
  clear B4 hP;have Bv0:MO w (v0a.setCell ⟨w.heap.size+1,10,O⟩ (I J (aC (wrd ws nx4) 0 999))) br vw ws (nxt ws nx4) n (wr4||!au (wrd ws nx4).data.toList 0 999) #[I .u8 118,I J v1,(Y la v2.length lc),I J v3,I J v4,I J 0,I J 0,I J 0,Z ⟨#[]⟩,I J 0,I J (aC (wrd ws nx4) 0 999),I J 0,Y O 0 0,Y O 0 0,Y O 0 0] [⟨3,1,(Y la v2.length lc),(v2).length,(v2).map (Value.int .i64)⟩]:=Av0.put 10 _
  clear Av0;go_upto_region 22 with fail
  generalize v0a.setCell ⟨w.heap.size+1,10,O⟩ (I J (aC (wrd ws nx4) 0 999))=v0b at *;clear x0 x1 x2 x3 x4 x5 x6 x7 x8 x9 x10 x11 x12 x13 x14 xf;go_wp2_with fail;refine (HHi'.out _ _ _ Bv0.1.rdr _ _ Bv0.1.msg (by have:=Bv0.1.blt;omega) (Bv0.1.fr (by omega))).mono ?_
  rintro e v1b ⟨vL,rfl,hO1,hM,hR,hK⟩;obtain⟨ea,ec,rfl⟩:=aj hO1
  have Bv1:MO w v1b br vw ws (nxt ws (nxt ws (nxt ws nx4))) n (((wr4||!au (wrd ws nx4).data.toList 0 999)||!au (wrd ws (nxt ws nx4)).data.toList 0 10)||!dS (wrd ws (nxt ws (nxt ws nx4))) n||decide (((dN (wrd ws (nxt ws (nxt ws nx4))) n).length:Int)<aC (wrd ws (nxt ws nx4)) 0 10)) #[I .u8 118,I J v1,(Y la v2.length lc),I J v3,I J v4,I J 0,I J 0,I J 0,Z ⟨#[]⟩,I J (aC (wrd ws (nxt ws nx4)) 0 10),I J (aC (wrd ws nx4) 0 999),I J 0,Y O 0 0,Y O 0 0,(Y ea (dN (wrd ws (nxt ws (nxt ws nx4))) n).length ec)] [⟨66,3,(Y ea (dN (wrd ws (nxt ws (nxt ws nx4))) n).length ec),(dN (wrd ws (nxt ws (nxt ws nx4))) n).length,aA (dN (wrd ws (nxt ws (nxt ws nx4))) n)⟩,⟨3,1,(Y la v2.length lc),(v2).length,(v2).map (Value.int .i64)⟩]:=(Bv0.big hR hM hK).add Bv0.2.2 hO1
  clear Bv0 hO1 hM hR hK;go_upto_region 30 with fail
  obtain⟨x0,x1,x2,x3,x4,x5,x6,x7,x8,x9,x10,x11,x12,x13,x14,xf⟩:=Bv1.1.msg.all
  obtain⟨y0,y1,y2,y3,y4,y5,y6,y7,y8,y9,y10,y11,y12,y13,y14,yf⟩:=Bv1.1.zero.all
  have HG:Hid (aK w (dF v1b w.heap.size 0 [I .u8 118,I J v1,(Y la v2.length lc),I J v3,I J v4,I J 0,I J 0,I J 0,Z ⟨#[]⟩,I J (aC (wrd ws (nxt ws nx4)) 0 10),I J (aC (wrd ws nx4) 0 999),I J 0,Y O 0 0,Y O 0 0,(Y ea (dN (wrd ws (nxt ws (nxt ws nx4))) n).length ec)]) br vw ws (nxt ws (nxt ws (nxt ws nx4))) n (((wr4||!au (wrd ws nx4).data.toList 0 999)||!au (wrd ws (nxt ws nx4)).data.toList 0 10)||!dS (wrd ws (nxt ws (nxt ws nx4))) n||decide (((dN (wrd ws (nxt ws (nxt ws nx4))) n).length:Int)<aC (wrd ws (nxt ws nx4)) 0 10))∧(loadVar 68 ⟨w.heap.size,0,O⟩).run Tryz.prog (dF v1b w.heap.size 0 [I .u8 118,I J v1,(Y la v2.length lc),I J v3,I J v4,I J 0,I J 0,I J 0,Z ⟨#[]⟩,I J (aC (wrd ws (nxt ws nx4)) 0 10),I J (aC (wrd ws nx4) 0 999),I J 0,Y O 0 0,Y O 0 0,(Y ea (dN (wrd ws (nxt ws (nxt ws nx4))) n).length ec)])=.ok (.agg #[I .u8 118,I J v1,(Y la v2.length lc),I J v3,I J v4,I J 0,I J 0,I J 0,Z ⟨#[]⟩,I J (aC (wrd ws (nxt ws nx4)) 0 10),I J (aC (wrd ws nx4) 0 999),I J 0,Y O 0 0,Y O 0 0,(Y ea (dN (wrd ws (nxt ws (nxt ws nx4))) n).length ec)]) (dF v1b w.heap.size 0 [I .u8 118,I J v1,(Y la v2.length lc),I J v3,I J v4,I J 0,I J 0,I J 0,Z ⟨#[]⟩,I J (aC (wrd ws (nxt ws nx4)) 0 10),I J (aC (wrd ws nx4) 0 999),I J 0,Y O 0 0,Y O 0 0,(Y ea (dN (wrd ws (nxt ws (nxt ws nx4))) n).length ec)])∧jv (dF v1b w.heap.size 0 [I .u8 118,I J v1,(Y la v2.length lc),I J v3,I J v4,I J 0,I J 0,I J 0,Z ⟨#[]⟩,I J (aC (wrd ws (nxt ws nx4)) 0 10),I J (aC (wrd ws nx4) 0 999),I J 0,Y O 0 0,Y O 0 0,(Y ea (dN (wrd ws (nxt ws (nxt ws nx4))) n).length ec)]) (w.heap.size+2) [⟨66,3,(Y ea (dN (wrd ws (nxt ws (nxt ws nx4))) n).length ec),(dN (wrd ws (nxt ws (nxt ws nx4))) n).length,aA (dN (wrd ws (nxt ws (nxt ws nx4))) n)⟩,⟨3,1,(Y la v2.length lc),(v2).length,(v2).map (Value.int .i64)⟩]):=Bv1.fin
  clear Bv1;go_wp2;exact bodyPost_ret (bI rfl _ _ _ rfl HG.out.2.1) rfl ⟨fun q=>absurd q (by decide),fun q=>absurd q (by decide),fun q=>absurd q (by decide),fun q=>absurd q (by decide),fun q=>absurd q (by decide),fun q=>absurd q (by decide),fun q=>absurd q (by decide),fun _=>⟨Y la v2.length lc,(Y ea (dN (wrd ws (nxt ws (nxt ws nx4))) n).length ec),rfl,HG.out.2.2,HG.out.1⟩,fun q=>absurd q (by decide),fun q=>absurd q (by decide),fun q0 q1 q2 q3 q4 q5 q6 q7=>absurd rfl q7⟩
 ·subst h115;go_wp2_with fail;refine (HGp'.out _ _ _ B4.1.rdr _ _ B4.1.msg (by have:=B4.1.blt;omega) (B4.1.fr (by omega)) rfl).mono ?_
  rintro e s0b ⟨vg,vo,rfl,hO1,hO2,hM,hR,hK⟩;obtain⟨ga,gc,rfl⟩:=aj hO1
  obtain⟨oa,oc,rfl⟩:=aj hO2
  have Bs0:MO w s0b br vw ws (nxt ws (nxt ws nx4)) n ((wr4||!aV (wrd ws nx4).data.toList n)||!gN (wrd ws (nxt ws nx4)) n) #[I .u8 115,I J v1,(Y la v2.length lc),I J v3,I J v4,I J 0,I J 0,I J 0,Z ⟨#[]⟩,I J 0,I J 0,I J 0,(Y ga (dz (wrd ws nx4) n).length gc),(Y oa (gu (wrd ws (nxt ws nx4)) n).length oc),Y O 0 0] [⟨3,1,(Y ga (dz (wrd ws nx4) n).length gc),(dz (wrd ws nx4) n).length,(dz (wrd ws nx4) n).map (Value.int .i64)⟩,⟨3,1,(Y oa (gu (wrd ws (nxt ws nx4)) n).length oc),(gu (wrd ws (nxt ws nx4)) n).length,(gu (wrd ws (nxt ws nx4)) n).map (Value.int .i64)⟩,⟨3,1,(Y la v2.length lc),(v2).length,(v2).map (Value.int .i64)⟩]:=((B4.big hR hM hK).add B4.2.2 hO2).add B4.2.2 hO1
  clear B4 hO1 hO2 hM hR hK;go_upto_region 25 with fail
  go_wp2_with fail;refine (HHi'.out _ _ _ Bs0.1.rdr _ _ Bs0.1.msg (by have:=Bs0.1.blt;omega) (Bs0.1.fr (by omega))).mono ?_
  rintro e s1b ⟨vL,rfl,hO1,hM,hR,hK⟩;obtain⟨ea,ec,rfl⟩:=aj hO1
  have Bs1:MO w s1b br vw ws (nxt ws (nxt ws (nxt ws (nxt ws nx4)))) n ((((wr4||!aV (wrd ws nx4).data.toList n)||!gN (wrd ws (nxt ws nx4)) n)||!au (wrd ws (nxt ws (nxt ws nx4))).data.toList 0 10)||!dS (wrd ws (nxt ws (nxt ws (nxt ws nx4)))) n||decide (((dN (wrd ws (nxt ws (nxt ws (nxt ws nx4)))) n).length:Int)<aC (wrd ws (nxt ws (nxt ws nx4))) 0 10)) #[I .u8 115,I J v1,(Y la v2.length lc),I J v3,I J v4,I J 0,I J 0,I J 0,Z ⟨#[]⟩,I J (aC (wrd ws (nxt ws (nxt ws nx4))) 0 10),I J 0,I J 0,(Y ga (dz (wrd ws nx4) n).length gc),(Y oa (gu (wrd ws (nxt ws nx4)) n).length oc),(Y ea (dN (wrd ws (nxt ws (nxt ws (nxt ws nx4)))) n).length ec)] [⟨66,3,(Y ea (dN (wrd ws (nxt ws (nxt ws (nxt ws nx4)))) n).length ec),(dN (wrd ws (nxt ws (nxt ws (nxt ws nx4)))) n).length,aA (dN (wrd ws (nxt ws (nxt ws (nxt ws nx4)))) n)⟩,⟨3,1,(Y ga (dz (wrd ws nx4) n).length gc),(dz (wrd ws nx4) n).length,(dz (wrd ws nx4) n).map (Value.int .i64)⟩,⟨3,1,(Y oa (gu (wrd ws (nxt ws nx4)) n).length oc),(gu (wrd ws (nxt ws nx4)) n).length,(gu (wrd ws (nxt ws nx4)) n).map (Value.int .i64)⟩,⟨3,1,(Y la v2.length lc),(v2).length,(v2).map (Value.int .i64)⟩]:=(Bs0.big hR hM hK).add Bs0.2.2 hO1
  clear Bs0 hO1 hM hR hK;go_upto_region 30 with fail
  obtain⟨x0,x1,x2,x3,x4,x5,x6,x7,x8,x9,x10,x11,x12,x13,x14,xf⟩:=Bs1.1.msg.all
  obtain⟨y0,y1,y2,y3,y4,y5,y6,y7,y8,y9,y10,y11,y12,y13,y14,yf⟩:=Bs1.1.zero.all
  have HG:Hid (aK w (dF s1b w.heap.size 0 [I .u8 115,I J v1,(Y la v2.length lc),I J v3,I J v4,I J 0,I J 0,I J 0,Z ⟨#[]⟩,I J (aC (wrd ws (nxt ws (nxt ws nx4))) 0 10),I J 0,I J 0,(Y ga (dz (wrd ws nx4) n).length gc),(Y oa (gu (wrd ws (nxt ws nx4)) n).length oc),(Y ea (dN (wrd ws (nxt ws (nxt ws (nxt ws nx4)))) n).length ec)]) br vw ws (nxt ws (nxt ws (nxt ws (nxt ws nx4)))) n ((((wr4||!aV (wrd ws nx4).data.toList n)||!gN (wrd ws (nxt ws nx4)) n)||!au (wrd ws (nxt ws (nxt ws nx4))).data.toList 0 10)||!dS (wrd ws (nxt ws (nxt ws (nxt ws nx4)))) n||decide (((dN (wrd ws (nxt ws (nxt ws (nxt ws nx4)))) n).length:Int)<aC (wrd ws (nxt ws (nxt ws nx4))) 0 10))∧(loadVar 68 ⟨w.heap.size,0,O⟩).run Tryz.prog (dF s1b w.heap.size 0 [I .u8 115,I J v1,(Y la v2.length lc),I J v3,I J v4,I J 0,I J 0,I J 0,Z ⟨#[]⟩,I J (aC (wrd ws (nxt ws (nxt ws nx4))) 0 10),I J 0,I J 0,(Y ga (dz (wrd ws nx4) n).length gc),(Y oa (gu (wrd ws (nxt ws nx4)) n).length oc),(Y ea (dN (wrd ws (nxt ws (nxt ws (nxt ws nx4)))) n).length ec)])=.ok (.agg #[I .u8 115,I J v1,(Y la v2.length lc),I J v3,I J v4,I J 0,I J 0,I J 0,Z ⟨#[]⟩,I J (aC (wrd ws (nxt ws (nxt ws nx4))) 0 10),I J 0,I J 0,(Y ga (dz (wrd ws nx4) n).length gc),(Y oa (gu (wrd ws (nxt ws nx4)) n).length oc),(Y ea (dN (wrd ws (nxt ws (nxt ws (nxt ws nx4)))) n).length ec)]) (dF s1b w.heap.size 0 [I .u8 115,I J v1,(Y la v2.length lc),I J v3,I J v4,I J 0,I J 0,I J 0,Z ⟨#[]⟩,I J (aC (wrd ws (nxt ws (nxt ws nx4))) 0 10),I J 0,I J 0,(Y ga (dz (wrd ws nx4) n).length gc),(Y oa (gu (wrd ws (nxt ws nx4)) n).length oc),(Y ea (dN (wrd ws (nxt ws (nxt ws (nxt ws nx4)))) n).length ec)])∧jv (dF s1b w.heap.size 0 [I .u8 115,I J v1,(Y la v2.length lc),I J v3,I J v4,I J 0,I J 0,I J 0,Z ⟨#[]⟩,I J (aC (wrd ws (nxt ws (nxt ws nx4))) 0 10),I J 0,I J 0,(Y ga (dz (wrd ws nx4) n).length gc),(Y oa (gu (wrd ws (nxt ws nx4)) n).length oc),(Y ea (dN (wrd ws (nxt ws (nxt ws (nxt ws nx4)))) n).length ec)]) (w.heap.size+2) [⟨66,3,(Y ea (dN (wrd ws (nxt ws (nxt ws (nxt ws nx4)))) n).length ec),(dN (wrd ws (nxt ws (nxt ws (nxt ws nx4)))) n).length,aA (dN (wrd ws (nxt ws (nxt ws (nxt ws nx4)))) n)⟩,⟨3,1,(Y ga (dz (wrd ws nx4) n).length gc),(dz (wrd ws nx4) n).length,(dz (wrd ws nx4) n).map (Value.int .i64)⟩,⟨3,1,(Y oa (gu (wrd ws (nxt ws nx4)) n).length oc),(gu (wrd ws (nxt ws nx4)) n).length,(gu (wrd ws (nxt ws nx4)) n).map (Value.int .i64)⟩,⟨3,1,(Y la v2.length lc),(v2).length,(v2).map (Value.int .i64)⟩]):=Bs1.fin
  clear Bs1;go_wp2;exact bodyPost_ret (bI rfl _ _ _ rfl HG.out.2.1) rfl ⟨fun q=>absurd q (by decide),fun q=>absurd q (by decide),fun q=>absurd q (by decide),fun q=>absurd q (by decide),fun q=>absurd q (by decide),fun q=>absurd q (by decide),fun q=>absurd q (by decide),fun q=>absurd q (by decide),fun _=>⟨Y la v2.length lc,(Y ga (dz (wrd ws nx4) n).length gc),(Y oa (gu (wrd ws (nxt ws nx4)) n).length oc),(Y ea (dN (wrd ws (nxt ws (nxt ws (nxt ws nx4)))) n).length ec),rfl,HG.out.2.2,HG.out.1⟩,fun q=>absurd q (by decide),fun q0 q1 q2 q3 q4 q5 q6 q7 q8=>absurd rfl q8⟩
end
end Go.Proofs.YtbnihoahhomooaaGreatDoor
