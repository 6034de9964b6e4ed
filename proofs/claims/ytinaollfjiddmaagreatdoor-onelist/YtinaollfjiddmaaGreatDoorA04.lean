import Derived.Test.YtinaollfjiddmaaGreatDoorA02
import Derived.Test.YtinaollfjiddmaaGreatDoorA03
set_option maxRecDepth 100000
set_option maxHeartbeats 8000000
set_option linter.all false
namespace Go.Proofs.YtinaollfjiddmaaGreatDoor
open Go.Value renaming int→I,slice→Y,string→Z,pointer→Zp
open Go.Ending renaming returned→Zr
open _root_.ByteArray renaming empty→Ze
open Go.IntKind renaming i64→J
open Option renaming none→O
open Go.RowKit
theorem Kp.wid {S S':List Nat} {w w':World} (h:Kp S w w') (hs:∀ x∈S,x∈S'):Kp S' w w':=⟨h.os,h.tape,h.output,h.size,fun k hk hn=>h.block k hk (fun hc=>hn (hs k hc))⟩
def dD (w:World) (bm:Nat) (c:Array Value):Prop:=c.size=15∧w.heap[bm]? = some (.cells c 68 (0,0))
theorem dD.cell {w:World} {bm:Nat} {c:Array Value} (h:dD w bm c) (j:Nat):w.cell? ⟨bm,j,O⟩=c[j]?:=by
 simp[World.cell?,h.2]
theorem dD.free {w:World} {bm:Nat} {c:Array Value} (h:dD w bm c) (j:Nat):w.frozen? ⟨bm,j,O⟩=false:=by
 simp[World.frozen?,h.2]
theorem dD.set {w:World} {bm:Nat} {c:Array Value} (h:dD w bm c) (j:Nat) (v:Value):dD (w.setCell ⟨bm,j,O⟩ v) bm (c.setIfInBounds j v) :=
 ⟨by simpa using h.1,by have:=heap_setCell_same w bm j _ _ v h.2;simpa using this⟩
theorem dD.kp {w w':World} {bm:Nat} {c:Array Value} {S:List Nat} (h:dD w bm c) (k:Kp S w w') (hS:bm∉S):dD w' bm c :=
 ⟨h.1,(k.block bm (lt_of_block h.2) hS).trans h.2⟩
theorem dD.ex {w:World} {bm:Nat} {c:Array Value} (h:dD w bm c) (j:Nat) (hj:j<15):∃ v,w.cell? ⟨bm,j,O⟩=some v :=
 ⟨c[j]'(by rw[h.1];exact hj),by rw[h.cell];exact Array.getElem?_eq_getElem _⟩
theorem MX {c:Array Value} {j:Nat} {v:Value} (h:c[j]? = some v):c.setIfInBounds j v=c:=by
 obtain⟨a,e⟩:=Array.getElem?_eq_some_iff.1 h
 apply Array.ext
 ·simp
 ·intro i h1 h2;rw[Array.getElem_setIfInBounds (by simpa using h2)]
  split
  ·subst_vars;rfl
  ·rfl
theorem aj {w:World} {base:Nat} {e:TypeId} {size:Nat} {v:Value} {n:Nat} {xs:List Value} (h:w.ownsRow base e size v n xs):∃ a cap,v=Y a n cap:=by
 rcases h.2 with ⟨hv,hn⟩|⟨g,cap,cur,q0,q1,q2,q3⟩
 ·exact⟨O,0,by rw[hv,hn]⟩
 ·exact⟨_,_,q0⟩
theorem bf.uI {w:World} {br bm:Nat} {vw:Value} {ws:List ByteArray} {nx:Nat} {n:Int} {wr:Bool} (h:bf w br vw ws nx n wr) (hne:bm≠br) (hf:Fr [bm] vw) (j:Nat) (v:Value):bf (w.setCell ⟨bm,j,O⟩ v) br vw ws nx n wr:=by
 have k:Kp [bm] w (w.setCell ⟨bm,j,O⟩ v):=(Kp.refl _ _).set bm j _ (.inl (by simp))
 exact⟨(k.block br (lt_of_block h.block) (by simpa using hne.symm)).trans h.block,h.words.kp k hf,h.fr,h.le⟩
section
variable (br:Nat) (vw:Value) (ws:List ByteArray) (nx:Nat) (n:Int) (wr:Bool) (w:World) (h:bf w br vw ws nx n wr) (hl:ws.length≤100000) (hz:∀ x∈ws,x.size≤1000)
variable (bm:Nat) (c:Array Value) (hm:dD w bm c) (hne:bm≠br) (hf:Fr [bm] vw)
theorem rE (br:Nat) (vw:Value) (ws:List ByteArray) (nx:Nat) (n:Int) (wr:Bool) (w:World) (h:bf w br vw ws nx n wr) (hl:ws.length≤100000) (hz:∀ x∈ws,x.size≤1000) (bm:Nat) (c:Array Value) (hm:dD w bm c) (hne:bm≠br) (hf:Fr [bm] vw) :
  Calls Tryz.prog 118 #[Zp (some ⟨br,0,O⟩),Zp (some ⟨bm,0,O⟩)] w fun e w'=>∃ v,e=Zr (.tuple #[])∧w'.ownsRow w.heap.size 66 3 v (kg (wrd ws (nxt ws nx)) n).length (aA (kg (wrd ws (nxt ws nx)) n))∧dD w' bm ((c.setIfInBounds 9 (I J (aJ (wrd ws nx) 0 10))).setIfInBounds 14 v) ∧
   bf w' br vw ws (nxt ws (nxt ws nx)) n ((wr||!ay (wrd ws nx).data.toList 0 10)||!fE (wrd ws (nxt ws nx)) n||decide (((kg (wrd ws (nxt ws nx)) n).length:Int)<aJ (wrd ws nx) 0 10))∧Kp [br,bm] w w':=by
 have G:=lt_of_block h.block;have S:=lt_of_block hm.2;have H:Hid (Calls Tryz.prog 113 #[Zp (some ⟨br,0,O⟩),I J 0,I J 10] w fun e w'=>e=Zr (I J (aJ (wrd ws nx) 0 10))∧bG w w' br vw ws (nxt ws nx) n (wr||!ay (wrd ws nx).data.toList 0 10)):=dY br vw ws nx n wr w h hl hz 0 10 (by omega) (by omega)
 have K:Hid (∀ (w:World) (wr:Bool),bf w br vw ws (nxt ws nx) n wr→Calls Tryz.prog 153 #[Zp (some ⟨br,0,O⟩)] w fun e w'=>∃ v,e=Zr v∧w'.ownsRow w.heap.size 66 3 v (kg (wrd ws (nxt ws nx)) n).length (aA (kg (wrd ws (nxt ws nx)) n))∧bG w w' br vw ws (nxt ws (nxt ws nx)) n (wr||!fE (wrd ws (nxt ws nx)) n)):=fun w wr q=>Oz br vw ws _ n wr w q hl hz
 generalize aJ (wrd ws nx) 0 10=p at *;generalize (wr||!ay (wrd ws nx).data.toList 0 10)=w0 at *
 generalize kg (wrd ws (nxt ws nx)) n=d at *;generalize fE (wrd ws (nxt ws nx)) n=ok at *;generalize nxt ws (nxt ws nx)=T at *;generalize nxt ws nx=U at *;go_enter Tryz.func118,Tryz.ntmps118;go_wp2_with fail;refine H.out.mono ?_;rintro e Q ⟨rfl,D⟩;have l:=hm.kp D.2 (by simpa using hne)
 obtain⟨z9,V⟩:=l.ex 9 (by omega)
 have g9:=l.free 9;have k1:Kp [br,bm] w (Q.setCell ⟨bm,9,O⟩ (I J p)):=(D.2.wid (fun x f=>by simp at f;simp[f])).set bm 9 _ (.inl (by simp))
 have y:=l.set 9 (I J p);have z:=D.1.uI hne hf 9 (I J p);clear l D;go_wp2_with fail;generalize Q.setCell ⟨bm,9,O⟩ (I J p)=w2 at *;refine (K.out _ _ z).mono ?_;rintro e u ⟨A,rfl,g,m⟩;have o:=y.kp m.2 (by simpa using hne)
 obtain⟨W,L⟩:=o.ex 14 (by omega)
 have M:=o.free 14;have X:Kp [br,bm] w (u.setCell ⟨bm,14,O⟩ A):=(k1.trans' (m.2.wid (fun x f=>by simp at f;simp[f]))).set bm 14 _ (.inl (by simp))
 have i:=o.set 14 A;have N:=m.1.uI hne hf 14 A;have j:(u.setCell ⟨bm,14,O⟩ A).ownsRow w.heap.size 66 3 A d.length (aA d):=fB (iJ g ((Kp.refl [bm] u).set bm 14 _ (.inl (by simp))) (fun x f=>by simp at f;subst f;have:=k1.size;omega)) k1.size
 obtain⟨s,a,rfl⟩:=aj j
 clear o m g y z;go_wp2_with fail;have r:=hm.1;have x9:(u.setCell ⟨bm,14,O⟩ (Y s d.length a)).cell? ⟨bm,9,O⟩=some (I J p):=by rw[i.cell];simp[r]
 have aa:(u.setCell ⟨bm,14,O⟩ (Y s d.length a)).cell? ⟨bm,14,O⟩=some (Y s d.length a):=by rw[i.cell];simp[r]
 generalize u.setCell ⟨bm,14,O⟩ (Y s d.length a)=B at *;clear V g9 L M;go_quiet (fail);have E:Below B.heap.size B (B.drewN nq):=below_drewN (Below.refl _ _) _
 have k:=N.below E;have t:dD (B.drewN nq) bm _:=⟨i.1,(E.block bm (lt_of_block i.2)).trans i.2⟩
 have P:=X.aS E;have b:=dh j E;generalize B.drewN nq=R at *;have c3:=k.at 3 (by omega)
 have f3:=k.free 3;simp at c3;by_cases C:(d.length:Int)<p
 ·have F:Hid (decide ((d.length:Int)<p)=true):=decide_eq_true C
  go_wp2_with fail;refine bodyPost_end (results_none rfl _ _ _) rfl ⟨Y s d.length a,rfl,?_,?_,?_,P.set br 3 _ (.inl (by simp))⟩
  ·exact iJ b ((Kp.refl [br] R).set br 3 _ (.inl (by simp))) (fun x f=>by simp at f;subst f;exact G)
  ·exact t.kp ((Kp.refl [br] R).set br 3 _ (.inl (by simp))) (by simpa using hne)
  ·rw[F.out];simpa using k.rQ true
 ·have F:Hid (decide ((d.length:Int)<p)=false):=decide_eq_false C
  go_wp2_with fail;refine bodyPost_end (results_none rfl _ _ _) rfl ?_
  first|exact⟨Y s d.length a,rfl,b,t,by rw[F.out];simpa using k,P⟩|exact⟨rfl,Y s d.length a,b,t,by rw[F.out];simpa using k,P⟩|trace_state
def rA (s:ByteArray) (n:Int):List Int:=if (s.toList==[45])=true then [] else gJ s n
def jA (s:ByteArray) (n:Int):Bool:=(s.toList==[45])||bK s.data.toList n
theorem uD (br:Nat) (vw:Value) (ws:List ByteArray) (nx:Nat) (n:Int) (wr:Bool) (w:World) (h:bf w br vw ws nx n wr) (hl:ws.length≤100000) (hz:∀ x∈ws,x.size≤1000) (bm:Nat) (c:Array Value) (hm:dD w bm c) (hne:bm≠br) (hf:Fr [bm] vw) (h13:c[13]? = some (Y O 0 0)) :
  Calls Tryz.prog 119 #[Zp (some ⟨br,0,O⟩),Zp (some ⟨bm,0,O⟩)] w fun e w'=>∃ v u,e=Zr (.tuple #[])∧w'.ownsRow w.heap.size 3 1 v (gJ (wrd ws nx) n).length ((gJ (wrd ws nx) n).map (Value.int .i64))∧w'.ownsRow w.heap.size 3 1 u (rA (wrd ws (nxt ws nx)) n).length ((rA (wrd ws (nxt ws nx)) n).map (Value.int .i64))∧dD w' bm ((c.setIfInBounds 12 v).setIfInBounds 13 u) ∧
   bf w' br vw ws (nxt ws (nxt ws nx)) n ((wr||!bK (wrd ws nx).data.toList n)||!jA (wrd ws (nxt ws nx)) n)∧Kp [br,bm] w w':=by
 have R:=lt_of_block h.block;have S:=lt_of_block hm.2;have T:Hid (∀ (w:World) (nx:Nat) (wr:Bool),bf w br vw ws nx n wr→Calls Tryz.prog 154 #[Zp (some ⟨br,0,O⟩)] w fun e w'=>∃ v,e=Zr v∧w'.ownsRow w.heap.size 3 1 v (gJ (wrd ws nx) n).length ((gJ (wrd ws nx) n).map (Value.int .i64))∧bG w w' br vw ws (nxt ws nx) n (wr||!bK (wrd ws nx).data.toList n)):=fun w nx wr q=>Ki br vw ws nx n wr w q hl hz
 have an:=hm.1;have ac:Hid (Calls Tryz.prog 154 #[Zp (some ⟨br,0,O⟩)] w fun e w'=>∃ v,e=Zr v∧w'.ownsRow w.heap.size 3 1 v (gJ (wrd ws nx) n).length ((gJ (wrd ws nx) n).map (Value.int .i64))∧bG w w' br vw ws (nxt ws nx) n (wr||!bK (wrd ws nx).data.toList n)):=T.out w nx wr h
 generalize gJ (wrd ws nx) n=X at *;generalize (wr||!bK (wrd ws nx).data.toList n)=w0 at *
 generalize nxt ws nx=a at *;obtain⟨aw,cw,rfl,_,_⟩:=h.words.shape
 go_enter Tryz.func119,Tryz.ntmps119;go_wp2_with fail;refine ac.out.mono ?_;rintro e w1 ⟨v1,rfl,D,hP⟩;have H:=hm.kp hP.2 (by simpa using hne)
 obtain⟨ao,ad⟩:=H.ex 12 (by omega)
 have ae:=H.free 12;have k1:Kp [br,bm] w (w1.setCell ⟨bm,12,O⟩ v1):=(hP.2.wid (fun x f=>by simp at f;simp[f])).set bm 12 _ (.inl (by simp))
 have z:=H.set 12 v1;have A:=hP.1.uI hne hf 12 v1;have p:=iJ D ((Kp.refl [bm] w1).set bm 12 v1 (.inl (by simp))) (fun x f=>by simp at f;subst f;exact S)
 obtain⟨a1,E,rfl⟩:=aj p
 clear H hP D;go_wp2_with fail;generalize w1.setCell ⟨bm,12,O⟩ (Y a1 X.length E)=t at *;have c0:=A.at 0 (by omega)
 have c1:=A.at 1 (by omega)
 simp at c0 c1;have ap:=A.le;clear ad ae;have r:∀ k,(t.drewN k).ownsRow w.heap.size 3 1 (Y a1 X.length E) X.length (X.map (Value.int .i64)):=fun k=>dh p (below_drewN (Below.refl _ _) _)
 have K:Hid (∀ (q:Nat),((wrd ws a).toList==[45])=false→jA (wrd ws a) n=bK (wrd ws a).data.toList n∧rA (wrd ws a) n=gJ (wrd ws a) n):=fun _ q=>⟨by unfold jA;rw[q];rfl,by unfold rA;rw[if_neg (by simp[q])]⟩
 have U:Hid (((wrd ws a).toList==[45])=true→jA (wrd ws a) n=true∧rA (wrd ws a) n=[]):=fun q=>⟨by unfold jA;rw[q];rfl,by unfold rA;rw[if_pos q]⟩
 by_cases L:a<ws.length
 ·obtain⟨b,o,rfl,aq,x⟩:=A.words.get a L
  have HW:Hid (wrd ws a=ws[a]):=by unfold Hid wrd;simp[List.getD,L]
  have HN:Hid (nxt ws a=a+1):=by unfold Hid nxt;rw[if_pos L]
  have j1:(0:Int)≤(a:Int):=by omega
  have j2:(a:Int)<(ws.length:Int):=by omega
  by_cases hd':(ws[a].toList==[45])=true
  focus
   have hd:=hd';have P:Hid (jA (wrd ws a) n=true∧rA (wrd ws a) n=[]):=U.out (by rw[HW.out];exact hd)
   clear U K
  rotate_left
  focus
   have hd:(ws[a].toList==[45])=false:=by simpa using hd'
   have P:Hid (jA (wrd ws a) n=bK (wrd ws a).data.toList n∧rA (wrd ws a) n=gJ (wrd ws a) n):=K.out 0 (by rw[HW.out];exact hd)
   clear U K hd'
  rotate_left
  all_goals
   go_quiet (fail);have M:Below t.heap.size t (t.drewN nq):=below_drewN (Below.refl _ _) _
   have B:=A.below M;have N:dD (t.drewN nq) bm _:=⟨z.1,(M.block bm (lt_of_block z.2)).trans z.2⟩
   have Q:=k1.aS M;have i:=r nq;have af:t.heap.size≤(t.drewN nq).heap.size:=M.size
   clear r p c0 c1;generalize t.drewN nq=V at *
  ·have c1:=B.at 1 (by omega)
   have f1:=B.free 1;simp at c1;have ai:dD V bm ((c.setIfInBounds 12 (Y a1 X.length E)).setIfInBounds 13 (Y O 0 0)):=by rw[MX (j:=13) (by rw[Array.getElem?_setIfInBounds_ne (by omega)];exact h13)];exact N
   have kS:Kp [br] V (V.setCell ⟨br,1,O⟩ (I J ((a:Int)+1))):=(Kp.refl _ _).set br 1 _ (.inl (by simp))
   have C:=B.Jh (a+1) (by omega)
   have aa:bf (V.setCell ⟨br,1,O⟩ (I J ((a:Int)+1))) br (Y (some ⟨b,o,O⟩) ws.length cw) ws (a+1) n w0:=by simpa using C
   have m:=iJ i kS (fun x f=>by simp at f;subst f;exact R)
   have F:=ai.kp kS (by simpa using hne)
   have kT:=Q.set br 1 (I J ((a:Int)+1)) (.inl (by simp))
   clear C;go_wp2_with fail;refine bodyPost_ret (results_none rfl _ _ _) rfl ?_;refine⟨_,Y O 0 0,rfl,m,by rw[P.out.2];exact World.ownsRow_nil _ _ _ _,F,?_,kT⟩
   rw[P.out.1,HN.out];simpa using aa
  ·go_wp2_with fail;refine (T.out _ _ _ B).mono ?_;rintro e W ⟨v4,rfl,g,l⟩;obtain⟨G,d,rfl⟩:=aj g
   have s:=N.kp l.2 (by simpa using hne)
   obtain⟨ak,al⟩:=s.ex 13 (by omega)
   have am:=s.free 13;have ab:V.heap.size≤W.heap.size:=l.2.size
   have kB:Kp [bm] W (W.setCell ⟨bm,13,O⟩ (Y G (gJ (wrd ws a) n).length d)):=(Kp.refl _ _).set bm 13 _ (.inl (by simp))
   have F:=s.set 13 (Y G (gJ (wrd ws a) n).length d);have C:=l.1.uI hne hf 13 (Y G (gJ (wrd ws a) n).length d);have kT:=(Q.trans' (l.2.wid (fun x f=>by simp at f;simp[f]))).set bm 13 (Y G (gJ (wrd ws a) n).length d) (.inl (by simp))
   have m:=iJ (iJ i l.2 (fun x f=>by simp at f;subst f;exact R)) kB (fun x f=>by simp at f;subst f;exact S)
   have y:=fB (iJ g kB (fun x f=>by simp at f;subst f;have:=Q.size;omega)) Q.size
   clear s l g i;go_wp2_with fail;refine bodyPost_end (results_none rfl _ _ _) rfl ?_;refine⟨_,(Y G (gJ (wrd ws a) n).length d),rfl,m,by rw[P.out.2];exact y,F,?_,kT⟩
   rw[P.out.1];exact C
 ·have j2:(ws.length:Int)≤(a:Int):=by omega
  have P:Hid (jA (wrd ws a) n=bK (wrd ws a).data.toList n∧rA (wrd ws a) n=gJ (wrd ws a) n):=K.out 0 (by rw[yU L,ByteArray.toList_eq];rfl)
  go_quiet (fail);have M:Below t.heap.size t (t.drewN nq):=below_drewN (Below.refl _ _) _
  have B:=A.below M;have N:dD (t.drewN nq) bm _:=⟨z.1,(M.block bm (lt_of_block z.2)).trans z.2⟩
  have Q:=k1.aS M;have i:=r nq;have af:t.heap.size≤(t.drewN nq).heap.size:=M.size
  clear r p c0 c1;generalize t.drewN nq=V at *;go_wp2_with fail;refine (T.out _ _ _ B).mono ?_;rintro e W ⟨v4,rfl,g,l⟩;obtain⟨G,d,rfl⟩:=aj g
  have s:=N.kp l.2 (by simpa using hne)
  obtain⟨ak,al⟩:=s.ex 13 (by omega)
  have am:=s.free 13;have ab:V.heap.size≤W.heap.size:=l.2.size
  have kB:Kp [bm] W (W.setCell ⟨bm,13,O⟩ (Y G (gJ (wrd ws a) n).length d)):=(Kp.refl _ _).set bm 13 _ (.inl (by simp))
  have F:=s.set 13 (Y G (gJ (wrd ws a) n).length d);have C:=l.1.uI hne hf 13 (Y G (gJ (wrd ws a) n).length d);have kT:=(Q.trans' (l.2.wid (fun x f=>by simp at f;simp[f]))).set bm 13 (Y G (gJ (wrd ws a) n).length d) (.inl (by simp))
  have m:=iJ (iJ i l.2 (fun x f=>by simp at f;subst f;exact R)) kB (fun x f=>by simp at f;subst f;exact S)
  have y:=fB (iJ g kB (fun x f=>by simp at f;subst f;have:=Q.size;omega)) Q.size
  clear s l g i;go_wp2_with fail;refine bodyPost_end (results_none rfl _ _ _) rfl ?_;refine⟨_,(Y G (gJ (wrd ws a) n).length d),rfl,m,by rw[P.out.2];exact y,F,?_,kT⟩
  rw[P.out.1];exact C
end
theorem Tryz.sizeMsg:(Tryz.prog.info? 68).map (fun i=>i.size)=some 15:=by kernel_rfl
def jc (k:Int):Array Value:=#[I .u8 k,I J 0,Y O 0 0,I J 0,I J 0,I J 0,I J 0,I J 0,Z ⟨#[]⟩,I J 0,I J 0,I J 0,Y O 0 0,Y O 0 0,Y O 0 0]
theorem qY {w:World} {g:Nat} {c:Array Value} (h:dD w g c):(loadVar 68 ⟨g,0,O⟩).run Tryz.prog w=.ok (.agg c) w :=
 run_loadVar_row w g 68 68 _ (0,0) _ h.2 Tryz.underlying68 rfl (by rw[h.1];exact Tryz.sizeMsg)
def jD (W:World) (g:Nat):Nat→List Value→World
 | _,[]=>W
 | j,a :: l=>jD (W.setCell ⟨g,j,O⟩ a) g (j+1) l
def yM (c:Array Value):Nat→List Value→Array Value
 | _,[]=>c
 | j,a :: l=>yM (c.setIfInBounds j a) (j+1) l
theorem pG {g:Nat}:∀ (l:List Value) (W:World) (c:Array Value) (j:Nat),dD W g c→dD (jD W g j l) g (yM c j l)
 | [],_,_,_,h=>h
 | a :: l,_,_,j,h=>pG l _ _ (j+1) (h.set j a)
theorem Ak {w:World} {br:Nat} {vw:Value} {ws:List ByteArray} {nx:Nat} {n:Int} {wr:Bool} {g:Nat} (hg:w.heap.size≤g) (hne:g≠br) (hf:Fr [g] vw):∀ (l:List Value) (W:World) (j:Nat),bG w W br vw ws nx n wr→bG w (jD W g j l) br vw ws nx n wr
 | [],_,_,h=>h
 | a :: l,_,j,h=>Ak hg hne hf l _ (j+1) ⟨h.1.uI hne hf j a,h.2.set g j a (.inr hg)⟩
structure MS (w w':World) (br:Nat) (vw:Value) (ws:List ByteArray) (nx:Nat) (n:Int) (wr:Bool) (c:Array Value):Prop where
 rdr:bf w' br vw ws nx n wr
 msg:dD w' (w.heap.size+1) c
 zero:dD w' w.heap.size (jc 0)
 kp:Kp [br] w w'
 lt:∀ k,vw.ownBlock=some k→k<w.heap.size
 blt:br<w.heap.size
theorem MS.start {w:World} {br:Nat} {vw:Value} {ws:List ByteArray} {nx:Nat} {n:Int} {wr:Bool} (h:bf w br vw ws nx n wr) (k:Int) :
  MS w ((w.alloc (.cells (jc 0) 68)).alloc (.cells (jc k) 68)) br vw ws nx n wr (jc k):=by
 have b1:Below w.heap.size w (w.alloc (.cells (jc 0) 68)):=(Below.refl _ w).alloc (Nat.le_refl _) _
 have a:Below w.heap.size w ((w.alloc (.cells (jc 0) 68)).alloc (.cells (jc k) 68)):=b1.alloc b1.size _
 have b:=heap_alloc_new w (.cells (jc 0) 68);have c:=heap_alloc_new (w.alloc (.cells (jc 0) 68)) (.cells (jc k) 68);have d:Below (w.alloc (.cells (jc 0) 68)).heap.size (w.alloc (.cells (jc 0) 68)) ((w.alloc (.cells (jc 0) 68)).alloc (.cells (jc k) 68)):=(Below.refl _ _).alloc (Nat.le_refl _) _
 refine⟨h.below a,⟨rfl,?_⟩,⟨rfl,(d.block _ (lt_of_block b)).trans b⟩,Kp.of_below a,h.words.lt,lt_of_block h.block⟩
 have e:(w.alloc (.cells (jc 0) 68)).heap.size=w.heap.size+1:=by simp
 rw[e] at c;exact c
section
variable {w w1 w2:World} {br:Nat} {vw:Value} {ws:List ByteArray} {nx nx':Nat} {n:Int} {wr wr':Bool} {c:Array Value}
theorem MS.fr (h:MS w w1 br vw ws nx n wr c) {g:Nat} (hg:w.heap.size≤g):Fr [g] vw:=fun k hk hc=>by
 have:=h.lt k hk;simp at hc;omega
theorem MS.call (h:MS w w1 br vw ws nx n wr c) (k:bG w1 w2 br vw ws nx' n wr'):MS w w2 br vw ws nx' n wr' c :=
 ⟨k.1,h.msg.kp k.2 (by have:=h.blt;simp;omega),h.zero.kp k.2 (by have:=h.blt;simp;omega),h.kp.trans' k.2,h.lt,h.blt⟩
theorem MS.put (h:MS w w1 br vw ws nx n wr c) (j:Nat) (v:Value):MS w (w1.setCell ⟨w.heap.size+1,j,O⟩ v) br vw ws nx n wr (c.setIfInBounds j v) :=
 ⟨h.rdr.uI (by have:=h.blt;omega) (h.fr (by omega)) j v,h.msg.set j v,h.zero.kp ((Kp.refl [w.heap.size+1] w1).set _ j v (.inl (by simp))) (by simp),h.kp.set _ j v (.inr (by omega)),h.lt,h.blt⟩
variable {a0 a1 a2 a3 a4 a5 a6 a7 a8 a9 a10 a11 a12 a13 a14:Value}
theorem MS.fin (h:MS w w1 br vw ws nx n wr #[a0,a1,a2,a3,a4,a5,a6,a7,a8,a9,a10,a11,a12,a13,a14]):bG w (jD w1 w.heap.size 0 [a0,a1,a2,a3,a4,a5,a6,a7,a8,a9,a10,a11,a12,a13,a14]) br vw ws nx n wr∧(loadVar 68 ⟨w.heap.size,0,O⟩).run Tryz.prog (jD w1 w.heap.size 0 [a0,a1,a2,a3,a4,a5,a6,a7,a8,a9,a10,a11,a12,a13,a14])=.ok (.agg #[a0,a1,a2,a3,a4,a5,a6,a7,a8,a9,a10,a11,a12,a13,a14]) (jD w1 w.heap.size 0 [a0,a1,a2,a3,a4,a5,a6,a7,a8,a9,a10,a11,a12,a13,a14]) :=
 ⟨Ak (Nat.le_refl _) (by have:=h.blt;omega) (h.fr (Nat.le_refl _)) _ _ _ ⟨h.rdr,h.kp⟩,by
  have e:yM (jc 0) 0 [a0,a1,a2,a3,a4,a5,a6,a7,a8,a9,a10,a11,a12,a13,a14]=#[a0,a1,a2,a3,a4,a5,a6,a7,a8,a9,a10,a11,a12,a13,a14]:=by simp[yM,jc]
  have q:=qY (pG [a0,a1,a2,a3,a4,a5,a6,a7,a8,a9,a10,a11,a12,a13,a14] w1 _ 0 h.zero);rw[e] at q;exact q⟩
theorem dD.all {g:Nat} (h:dD w g #[a0,a1,a2,a3,a4,a5,a6,a7,a8,a9,a10,a11,a12,a13,a14]):w.cell? ⟨g,0,O⟩=some a0∧w.cell? ⟨g,1,O⟩=some a1∧w.cell? ⟨g,2,O⟩=some a2∧w.cell? ⟨g,3,O⟩=some a3∧w.cell? ⟨g,4,O⟩=some a4∧w.cell? ⟨g,5,O⟩=some a5∧w.cell? ⟨g,6,O⟩=some a6∧w.cell? ⟨g,7,O⟩=some a7∧w.cell? ⟨g,8,O⟩=some a8∧w.cell? ⟨g,9,O⟩=some a9∧w.cell? ⟨g,10,O⟩=some a10∧w.cell? ⟨g,11,O⟩=some a11∧w.cell? ⟨g,12,O⟩=some a12∧w.cell? ⟨g,13,O⟩=some a13∧w.cell? ⟨g,14,O⟩=some a14∧∀ j,w.frozen? ⟨g,j,O⟩=false :=
 ⟨h.cell 0,h.cell 1,h.cell 2,h.cell 3,h.cell 4,h.cell 5,h.cell 6,h.cell 7,h.cell 8,h.cell 9,h.cell 10,h.cell 11,h.cell 12,h.cell 13,h.cell 14,h.free⟩
end
section
variable (br:Nat) (vw:Value) (ws:List ByteArray) (nx:Nat) (n:Int) (wr:Bool) (w:World) (h:bf w br vw ws nx n wr) (hl:ws.length≤100000) (hz:∀ x∈ws,x.size≤1000)
theorem Ao (br:Nat) (vw:Value) (ws:List ByteArray) (nx:Nat) (n:Int) (wr:Bool) (w:World) (h:bf w br vw ws nx n wr) (hl:ws.length≤100000) (hz:∀ x∈ws,x.size≤1000) :
  Calls Tryz.prog 70 #[Zp (some ⟨br,0,O⟩),I .u8 113] w fun e w'=>e=Zr (.agg #[I .u8 113,I J 0,Y O 0 0,I J 0,I J 0,I J 0,I J (aJ (wrd ws nx) 1 9),I J (aJ (wrd ws (nxt ws nx)) 1 999),Z (if eF (wrd ws (nxt ws (nxt ws nx))).data.toList then wrd ws (nxt ws (nxt ws nx)) else ⟨#[]⟩),I J 0,I J 0,I J 0,Y O 0 0,Y O 0 0,Y O 0 0]) ∧
   bG w w' br vw ws (nxt ws (nxt ws (nxt ws nx))) n (((wr||!ay (wrd ws nx).data.toList 1 9)||!ay (wrd ws (nxt ws nx)).data.toList 1 999)||!eF (wrd ws (nxt ws (nxt ws nx))).data.toList):=by
 have aa:=lt_of_block h.block;have L:Hid (∀ w',bf w' br vw ws nx n wr→Calls Tryz.prog 113 #[Zp (some ⟨br,0,O⟩),I J 1,I J 9] w' fun e j=>e=Zr (I J (aJ (wrd ws nx) 1 9))∧bG w' j br vw ws (nxt ws nx) n (wr||!ay (wrd ws nx).data.toList 1 9)):=fun w' q=>dY br vw ws nx n wr w' q hl hz 1 9 (by omega) (by omega)
 generalize aJ (wrd ws nx) 1 9=m at *;generalize (wr||!ay (wrd ws nx).data.toList 1 9)=k at *
 generalize nxt ws nx=b at *;have M:Hid (∀ w',bf w' br vw ws b n k→Calls Tryz.prog 113 #[Zp (some ⟨br,0,O⟩),I J 1,I J 999] w' fun e j=>e=Zr (I J (aJ (wrd ws b) 1 999))∧bG w' j br vw ws (nxt ws b) n (k||!ay (wrd ws b).data.toList 1 999)):=fun w' q=>dY br vw ws b n k w' q hl hz 1 999 (by omega) (by omega)
 generalize aJ (wrd ws b) 1 999=o at *;generalize (k||!ay (wrd ws b).data.toList 1 999)=l at *
 generalize nxt ws b=a at *;have N:Hid (∀ w',bf w' br vw ws a n l→Calls Tryz.prog 114 #[Zp (some ⟨br,0,O⟩)] w' fun e j=>e=Zr (Z (if eF (wrd ws a).data.toList then wrd ws a else ⟨#[]⟩))∧bG w' j br vw ws (nxt ws a) n (l||!eF (wrd ws a).data.toList)):=fun w' q=>Br br vw ws a n l w' q hl hz
 generalize (if eF (wrd ws a).data.toList=true then wrd ws a else ⟨#[]⟩)=r at *
 generalize (l||!eF (wrd ws a).data.toList)=F at *
 generalize nxt ws a=G at *;have H:=MS.start h 113;go_enter Tryz.func70,Tryz.ntmps70;go_wp2_with fail;simp only[jc] at H;generalize ((w.alloc _).alloc _)=wA at H ⊢;refine (L.out _ H.rdr).mono ?_;rintro e U ⟨rfl,p⟩;have M1:=H.call p;obtain⟨s,t,u,v,y,z,A,B,C,D,c,d,f,g,i,E⟩:=M1.msg.all
 have P:MS w (U.setCell ⟨w.heap.size+1,6,O⟩ (I J m)) br vw ws b n k #[I .u8 113,I J 0,Y O 0 0,I J 0,I J 0,I J 0,I J m,I J 0,Z ⟨#[]⟩,I J 0,I J 0,I J 0,Y O 0 0,Y O 0 0,Y O 0 0]:=M1.put 6 _
 clear M1 p H;go_wp2_with fail;generalize U.setCell ⟨w.heap.size+1,6,O⟩ (I J m)=w2 at *;clear s t u v y z A B C D c d f g i E;refine (M.out _ P.rdr).mono ?_;rintro e V ⟨rfl,p⟩;have Q:=P.call p;obtain⟨s,t,u,v,y,z,A,B,C,D,c,d,f,g,i,E⟩:=Q.msg.all
 have R:MS w (V.setCell ⟨w.heap.size+1,7,O⟩ (I J o)) br vw ws a n l #[I .u8 113,I J 0,Y O 0 0,I J 0,I J 0,I J 0,I J m,I J o,Z ⟨#[]⟩,I J 0,I J 0,I J 0,Y O 0 0,Y O 0 0,Y O 0 0]:=Q.put 7 _
 clear P Q p;go_wp2_with fail;generalize V.setCell ⟨w.heap.size+1,7,O⟩ (I J o)=w4 at *;clear s t u v y z A B C D c d f g i E;refine (N.out _ R.rdr).mono ?_;rintro e W ⟨rfl,p⟩;have S:=R.call p;obtain⟨s,t,u,v,y,z,A,B,C,D,c,d,f,g,i,E⟩:=S.msg.all
 have K:MS w (W.setCell ⟨w.heap.size+1,8,O⟩ (Z r)) br vw ws G n F #[I .u8 113,I J 0,Y O 0 0,I J 0,I J 0,I J 0,I J m,I J o,Z r,I J 0,I J 0,I J 0,Y O 0 0,Y O 0 0,Y O 0 0]:=S.put 8 _
 clear R S p;go_upto_region 6 with fail
 generalize W.setCell ⟨w.heap.size+1,8,O⟩ (Z r)=T at *;clear s t u v y z A B C D c d f g i E;obtain⟨s,t,u,v,y,z,A,B,C,D,c,d,f,g,i,E⟩:=K.msg.all
 obtain⟨y0,y1,y2,y3,y4,y5,y6,y7,y8,y9,ab,ac,ad,ae,af,yf⟩:=K.zero.all
 have X:Hid (bG w (jD T w.heap.size 0 [I .u8 113,I J 0,Y O 0 0,I J 0,I J 0,I J 0,I J m,I J o,Z r,I J 0,I J 0,I J 0,Y O 0 0,Y O 0 0,Y O 0 0]) br vw ws G n F∧(loadVar 68 ⟨w.heap.size,0,O⟩).run Tryz.prog (jD T w.heap.size 0 [I .u8 113,I J 0,Y O 0 0,I J 0,I J 0,I J 0,I J m,I J o,Z r,I J 0,I J 0,I J 0,Y O 0 0,Y O 0 0,Y O 0 0])=.ok (.agg #[I .u8 113,I J 0,Y O 0 0,I J 0,I J 0,I J 0,I J m,I J o,Z r,I J 0,I J 0,I J 0,Y O 0 0,Y O 0 0,Y O 0 0]) (jD T w.heap.size 0 [I .u8 113,I J 0,Y O 0 0,I J 0,I J 0,I J 0,I J m,I J o,Z r,I J 0,I J 0,I J 0,Y O 0 0,Y O 0 0,Y O 0 0])):=K.fin
 clear K;go_wp2;exact bodyPost_ret (dO rfl _ _ _ rfl X.out.2) rfl ⟨rfl,X.out.1⟩
end
theorem oh {g:Nat}:∀ (l:List Value) (W:World) (j:Nat),Kp [g] W (jD W g j l)
 | [],_,_=>Kp.refl _ _
 | a :: l,W,j=>((Kp.refl [g] W).set g j a (.inl (by simp))).trans' (oh l _ (j+1))
theorem kG {w1:World} {g:Nat} (h:dD w1 g (jc 0)) (a0 a1 a2 a3 a4 a5 a6 a7 a8 a9 a10 a11 a12 a13 a14:Value):(loadVar 68 ⟨g,0,O⟩).run Tryz.prog (jD w1 g 0 [a0,a1,a2,a3,a4,a5,a6,a7,a8,a9,a10,a11,a12,a13,a14])=.ok (.agg #[a0,a1,a2,a3,a4,a5,a6,a7,a8,a9,a10,a11,a12,a13,a14]) (jD w1 g 0 [a0,a1,a2,a3,a4,a5,a6,a7,a8,a9,a10,a11,a12,a13,a14]):=by
 have e:yM (jc 0) 0 [a0,a1,a2,a3,a4,a5,a6,a7,a8,a9,a10,a11,a12,a13,a14]=#[a0,a1,a2,a3,a4,a5,a6,a7,a8,a9,a10,a11,a12,a13,a14]:=by simp[yM,jc]
 have q:=qY (pG [a0,a1,a2,a3,a4,a5,a6,a7,a8,a9,a10,a11,a12,a13,a14] w1 _ 0 h);rw[e] at q;exact q
theorem I8 {w1:World} {g:Nat} (h:dD w1 g (jc 0)) (a0 a1 a2 a3 a4 a5 a6 a7 a8 a9 a10 a11 a12 a13 a14:Value):dD (jD w1 g 0 [a0,a1,a2,a3,a4,a5,a6,a7,a8,a9,a10,a11,a12,a13,a14]) g #[a0,a1,a2,a3,a4,a5,a6,a7,a8,a9,a10,a11,a12,a13,a14]:=by
 have e:yM (jc 0) 0 [a0,a1,a2,a3,a4,a5,a6,a7,a8,a9,a10,a11,a12,a13,a14]=#[a0,a1,a2,a3,a4,a5,a6,a7,a8,a9,a10,a11,a12,a13,a14]:=by simp[yM,jc]
 have q:=pG [a0,a1,a2,a3,a4,a5,a6,a7,a8,a9,a10,a11,a12,a13,a14] w1 _ 0 h
 rwa [e] at q
theorem fP {B:Nat} {w:World} {g:Nat} (hg:B≤g):∀ (l:List Value) (W:World) (j:Nat),Below B w W→Below B w (jD W g j l)
 | [],_,_,h=>h
 | a :: l,_,j,h=>fP hg l _ (j+1) (h.setCell (p:=⟨g,j,O⟩) hg a)
theorem rV {w w1 w2:World} {S:List Nat} (h:Below w.heap.size w w1) (k:Kp S w1 w2) (hS:∀ x∈S,w.heap.size≤x):Below w.heap.size w w2 :=
 ⟨k.os.trans h.os,k.tape.trans h.tape,k.output.trans h.output,Nat.le_trans h.size k.size,fun j a=>(k.block j (Nat.lt_of_lt_of_le a h.size) (fun b=>by have:=hS j b;omega)).trans (h.block j a)⟩
structure Pm where
 kind:Int
 frm:Int
 lives:List Int
 epoch:Int
 view:Int
 place:Int
 ent:Int×Int×ByteArray
 commit:Int
 normal:Int
 life:Int
 grp:List Int
 old:List Int
 log:List (Int×Int×ByteArray)
abbrev pqC (P:Pm) (al:Option Addr) (cl:Nat) (ag:Option Addr) (cg:Nat) (ao:Option Addr) (co:Nat) (aL:Option Addr) (cL:Nat):Array Value :=
 #[I .u8 P.kind,I J P.frm,Y al P.lives.length cl,I J P.epoch,I J P.view,I J P.place,I J P.ent.1,I J P.ent.2.1,Z P.ent.2.2,I J P.commit,I J P.normal,I J P.life,Y ag P.grp.length cg,Y ao P.old.length co,Y aL P.log.length cL]
abbrev mz0:Array Value:=#[I .u8 0,I J 0,Y O 0 0,I J 0,I J 0,I J 0,I J 0,I J 0,Z ⟨#[]⟩,I J 0,I J 0,I J 0,Y O 0 0,Y O 0 0,Y O 0 0]
def pmC (P:Pm) (vl vg vo vL:Value):Array Value :=
 #[I .u8 P.kind,I J P.frm,vl,I J P.epoch,I J P.view,I J P.place,I J P.ent.1,I J P.ent.2.1,Z P.ent.2.2,I J P.commit,I J P.normal,I J P.life,vg,vo,vL]
structure xY (u:World) (base:Nat) (P:Pm) (vl vg vo vL:Value):Prop where
 lives:u.ownsRow base 3 1 vl P.lives.length (P.lives.map (Value.int .i64))
 grp:u.ownsRow base 3 1 vg P.grp.length (P.grp.map (Value.int .i64))
 old:u.ownsRow base 3 1 vo P.old.length (P.old.map (Value.int .i64))
 log:u.ownsRow base 66 3 vL P.log.length (aA P.log)
theorem Ms {op:ByteArray} (h:eF op.data.toList=true):2≤op.size∧ny (b1 op)=true∧(∀ k,2≤k→k<op.size→48≤bN op k∧bN op k<128)∧((b0 op=103∧op.size=2)∨(b0 op=100∧op.size=2)∨(b0 op=112∧op.size=3)∨(b0 op=99∧op.size=4)):=by
 have f:2≤op.size:=by
  unfold eF at h;simp only[Bool.and_eq_true,decide_eq_true_eq] at h;have:=h.1.1;simpa using this
 rw[zN op f] at h;simp only[Bool.and_eq_true,List.all_eq_true,beq_iff_eq,Bool.not_eq_true',beq_eq_false_iff_ne] at h;obtain⟨g,⟨i,j⟩,a⟩:=h
 refine⟨f,?_,fun k m d=>?_,?_⟩
 ·rw[Pj (by omega)];exact i
 ·have l:op[k]∈op.data.toList.drop 2:=by
   rw[List.mem_iff_getElem?];refine⟨k-2,?_⟩
   rw[List.getElem?_drop,show 2+(k-2)=k by omega,List.getElem?_eq_getElem (by simpa using d)]
   rfl
  have q:=j _ l;rw[zO] at q;unfold bN;rw[atS d];simp[nQ,iT] at q;omega
 ·have q:=Jo op[0];rw[Ph (by omega)]
  unfold gy at a g;have e:∀ c:UInt8,op[0]=c→(op[0].toNat:Int)=(c.toNat:Int):=fun c b=>by rw[b]
  split at a
  ·rename_i b;exact .inl ⟨by rw[e _ b];rfl,a⟩
  ·split at a
   ·rename_i b;exact .inr (.inl ⟨by rw[e _ b];rfl,a⟩)
   ·split at a
    ·rename_i b;exact .inr (.inr (.inl ⟨by rw[e _ b];rfl,a⟩))
    ·split at a
     ·rename_i b;exact .inr (.inr (.inr ⟨by rw[e _ b];rfl,a⟩))
     ·omega
theorem Oy {op:ByteArray} {n:Int} (h:jX op.data.toList n=true) (hr:eF op.data.toList=false):b0 op=114∧2≤op.size∧ny (b1 op)=false∧∀ k,2≤k→bN op k<128:=by
 unfold jX at h
 split at h
 ·rename_i hh;have c:=jJ h;rw[List.length_drop] at c;have d:op.data.toList.length=op.size:=by simp
  have b:∀ k,1≤k→k<op.size→48≤bN op k∧bN op k≤57:=fun k f a=>by
   have q:=(nU h (k-1) (by rw[List.length_drop];omega)).1
   rw[Ac] at q;have e:(op.data.toList.drop 1).getD (k-1) 0=op.data.toList.getD k 0:=by
    simp only[List.getD,List.getElem?_drop];rw[show 1+(k-1)=k by omega]
   rw[e] at q;unfold bN
   split at q
   ·rename_i hg;simp only[iT,Bool.and_eq_true,decide_eq_true_eq] at hg;omega
   ·omega
  have g:b0 op=114:=by
   unfold b0;rw[List.getD,← List.head?_eq_getElem?,hh];rfl
  refine⟨g,by omega,?_,fun k f=>?_⟩
  ·have:=b 1 (by omega) (by omega)
   unfold bN at this;simp[ny];unfold b1;omega
  ·by_cases a:k<op.size
   ·have:=b k (by omega) a;omega
   ·unfold bN;rw[List.getD,List.getElem?_eq_none (by omega)];decide
 ·rw[h] at hr;simp at hr
theorem Mw {op:ByteArray} {n:Int} (h:jX op.data.toList n=true) (k:Nat) (hk:2≤k):bN op k<128:=by
 cases ho:eF op.data.toList
 ·exact (Oy h ho).2.2.2 k hk
 ·by_cases a:k<op.size
  ·exact ((Ms ho).2.2.1 k hk a).2
  ·unfold bN;rw[List.getD,List.getElem?_eq_none (by simp;omega)];decide
theorem F7 {l:List UInt8} {n:Int} (h:jX l n=true):∀ c∈l,97≤c.toNat∧c.toNat≤122∨48≤c.toNat∧c.toNat≤57:=by
 unfold jX at h
 split at h
 ·rename_i hh;intro c b
  match l,hh with
  | a :: r,hh =>
   simp at hh;subst hh;rcases List.mem_cons.1 b with rfl|b
   ·left;decide
   ·right
    have d:bK r n=true:=by simpa using h
    by_cases e:48≤c.toNat∧c.toNat≤57
    ·exact e
    ·exact absurd b (Et d (by omega))
 ·exact Gs h
theorem Lu {a b o:ByteArray} {n:Int} (ha:ay a.data.toList 1 9=true) (hb:ay b.data.toList 1 999=true) (ho:jX o.data.toList n=true) :
  bU (a++DOT++b++DOT++o) 46=[a,b,o]∧eX (a++DOT++b++DOT++o) n=true:=by
 have c:((46:UInt8).toNat:Int)=46:=rfl
 have c1:∀ a b:ByteArray,(46:UInt8)∉a.data.toList→bU (a++⟨#[46]⟩++b) 46=a :: bU b 46:=fun a b h=>by have:=@BO a b 46 h;rwa [c] at this
 have c2:∀ a:ByteArray,(46:UInt8)∉a.data.toList→bU a 46=[a]:=fun a h=>by have:=@uL a 46 h;rwa [c] at this
 have f:=dW ha;have g:=dW hb;have d:bU (a++DOT++b++DOT++o) 46=[a,b,o]:=by
  have e:a++DOT++b++DOT++o=a++⟨#[46]⟩++(b++⟨#[46]⟩++o):=by
   apply bytes_inj;simp[ByteArray.data_append,DOT]
  rw[e,c1 _ _ (Dp (by omega) (.inl (by decide))),c1 _ _ (Dp (by omega) (.inl (by decide))),c2]
  intro hm;have:=F7 ho 46 hm
  revert this;decide
 refine⟨d,?_⟩
 unfold eX;rw[d];unfold zB;simp only[ha,hb,ho];rfl
theorem O8 {s:ByteArray} {n:Int} (hw:aZ s n≠[]) (hk:((aZ s n).getD 0 Ze).toList=[113]):s.size≤400∧aZ s n=bU s 32∧(aZ s n).length=4 ∧
  ay ((aZ s n).getD 1 Ze).data.toList 1 9=true∧ay ((aZ s n).getD 2 Ze).data.toList 1 999=true∧eF ((aZ s n).getD 3 Ze).data.toList=true:=by
 obtain⟨f,g,j,b,a⟩:=sQ hw
 rw[g] at hk ⊢;generalize bU s 32=h at *;have i:bM (h.getD 0 Ze)=⟨#[99,110,111]⟩:=by unfold bM;rw[hk];rfl
 rw[i] at a b;have c:=fH a 0 99 rfl;have d:=fH a 1 110 rfl;have e:=fH a 2 111 rfl;simp[mq] at c d e;exact⟨f,rfl,b,c,d,e⟩
theorem O7 {s:ByteArray} {n:Int} (hw:aZ s n≠[]) (hk:((aZ s n).getD 0 Ze).toList=[109]):s.size≤400∧aZ s n=bU s 32∧(aZ s n).length=5 ∧
  ay ((aZ s n).getD 1 Ze).data.toList 1 9=true∧ay ((aZ s n).getD 2 Ze).data.toList 1 999=true∧ay ((aZ s n).getD 3 Ze).data.toList 0 999=true∧jr ((aZ s n).getD 4 Ze).data.toList=true:=by
 obtain⟨g,h,k,b,a⟩:=sQ hw
 rw[h] at hk ⊢;generalize bU s 32=i at *;have j:bM (i.getD 0 Ze)=⟨#[99,110,118,119]⟩:=by unfold bM;rw[hk];rfl
 rw[j] at a b;have c:=fH a 0 99 rfl;have d:=fH a 1 110 rfl;have e:=fH a 2 118 rfl;have f:=fH a 3 119 rfl;simp[mq] at c d e f;exact⟨g,rfl,b,c,d,e,f⟩
end Go.Proofs.YtinaollfjiddmaaGreatDoor
