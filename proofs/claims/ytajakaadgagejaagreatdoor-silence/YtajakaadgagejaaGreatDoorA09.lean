import Derived.Test.YtajakaadgagejaaGreatDoorA07
import Derived.Test.YtajakaadgagejaaGreatDoorA08
set_option maxRecDepth 100000
set_option maxHeartbeats 8000000
set_option linter.unusedVariables false
set_option linter.unusedSimpArgs false
set_option linter.unusedSectionVars false
namespace Go.Proofs.YtajakaadgagejaaGreatDoor
open Go.Value renaming int→I,slice→Y,string→Z,pointer→Zp
open Go.Ending renaming returned→Zr
open _root_.ByteArray renaming empty→Ze
open Go.IntKind renaming i64→J
open Option renaming none→O
open Go.RowKit
def Ap (L:List (List Nat)):Prop:=L.Pairwise (fun a b=>∀ x∈a,x∉b)
theorem Ap.ne {L:List (List Nat)} {i j:Nat} {a b:List Nat} (h:Ap L) (hi:L[i]? = some a) (hj:L[j]? = some b) (hne:i≠j):∀ x∈a,x∉b:=by
 obtain⟨li,rfl⟩:=List.getElem?_eq_some_iff.1 hi
 obtain⟨lj,rfl⟩:=List.getElem?_eq_some_iff.1 hj
 have h:=List.pairwise_iff_getElem.1 h;intro x hx hc;rcases Nat.lt_or_ge i j with q|q
 ·exact h i j li lj q x hx hc
 ·exact h j i lj li (by omega) x hc hx
theorem Ap.put {L:List (List Nat)} {i N:Nat} {c:List Nat} (h:Ap L) (hl:∀ a∈L,∀ x∈a,x<N) (hc:∀ a,L[i]? = some a→∀ x∈c,x∈a∨N≤x):Ap (L.set i c):=by
 refine List.pairwise_iff_getElem.2 (fun p q hp hq hlt x hx hx2=>?_)
 simp only[List.length_set] at hp hq;have h:=List.pairwise_iff_getElem.1 h;rw[List.getElem_set] at hx hx2;by_cases e1:i=p
 ·subst e1;rw[if_pos rfl] at hx;rw[if_neg (by omega)] at hx2
  rcases hc _ (List.getElem?_eq_getElem hp) x hx with k|k
  ·exact h i q hp hq hlt x k hx2
  ·have:=hl _ (List.getElem_mem hq) x hx2;omega
 ·rw[if_neg e1] at hx;by_cases e2:i=q
  ·subst e2;rw[if_pos rfl] at hx2;rcases hc _ (List.getElem?_eq_getElem hq) x hx2 with k|k
   ·exact h p i hp hq hlt x hx k
   ·have:=hl _ (List.getElem_mem hp) x hx;omega
  ·rw[if_neg e2] at hx2;exact h p q hp hq hlt x hx hx2
structure Nod where
 b:Nat
 bl:Nat
 W:List Nat
 F:List Nat
 R:Rp
 V:Rv
structure oJ where
 e:En
 text:ByteArray
 floor:Int
 bad:Bool
structure Kw where
 part:Int
 n:Int
 nds:List Nod
 down:List Bool
 begun:List Int
 lives:Int
 top:Int
 net:List (Int×Int×ByteArray)
 wishes:List oJ
 opn:List Int
 list:List En
 groups:List ByteArray
 floor:Int
structure Kv where
 vN:Value
 vD:Value
 vB:Value
 vP:Value
 vW:Value
 vO:Value
 vL:Value
 vG:Value
structure Row where
 e:TypeId
 s:Nat
 v:Value
 n:Nat
 xs:List Value
def bC:List oJ→List Value
 | []=>[]
 | x :: l=>I J x.e.1 :: I J x.e.2.1 :: Z x.e.2.2 :: Z x.text :: I J x.floor :: .bool x.bad :: bC l
def ku (x:Nod):Value:=Zp (some ⟨x.b,0,O⟩)
def lI (K:Kw) (V:Kv):Array Value:=#[I J K.part,I J K.n,V.vN,V.vD,V.vB,I J K.lives,I J K.top,V.vP,V.vW,V.vO,V.vL,V.vG,I J K.floor]
def dX (K:Kw) (V:Kv):List Row :=
  [⟨29,1,V.vN,K.nds.length,K.nds.map ku⟩,⟨4,1,V.vD,K.down.length,K.down.map Value.bool⟩,⟨3,1,V.vB,K.begun.length,K.begun.map (Value.int .i64)⟩,
   ⟨102,3,V.vP,K.net.length,aA K.net⟩,⟨99,6,V.vW,K.wishes.length,bC K.wishes⟩,⟨3,1,V.vO,K.opn.length,K.opn.map (Value.int .i64)⟩,
   ⟨66,3,V.vL,K.list.length,aA K.list⟩,⟨9,1,V.vG,K.groups.length,K.groups.map Value.string⟩]
def bS (g:Nat) (K:Kw) (V:Kv):List (List Nat):=[g] :: ((dX K V).map (fun r=>r.v.ownBlock.toList)++K.nds.map (·.F))
def gV (g:Nat) (K:Kw) (V:Kv):List Nat:=(bS g K V).flatten
structure KAt (N:Nat) (w:World) (g:Nat) (K:Kw) (V:Kv):Prop where
 blk:w.heap[g]? = some (.cells (lI K V) 50 (0,0))
 rows:∀ r∈dX K V,w.ownsRow 0 r.e r.s r.v r.n r.xs
 nodes:∀ x∈K.nds,ay w x.b x.bl x.W x.F x.R x.V
 ap:Ap (bS g K V)
 lo:∀ c∈bS g K V,∀ x∈c,N≤x
 n0:0<N
 tab:Tab w
section
variable {N:Nat} {w w':World} {g:Nat} {K K':Kw} {V V':Kv}
theorem KAt.lt (h:KAt N w g K V):∀ c∈bS g K V,∀ x∈c,x<w.heap.size:=by
 intro c hc x hx;rcases List.mem_cons.1 hc with rfl|hc
 ·simp at hx;subst hx;exact lt_of_block h.blk
 rcases List.mem_append.1 hc with hc|hc
 ·obtain⟨r,hr,rfl⟩:=List.mem_map.1 hc
  exact ((h.rows r hr).lt x (by simpa using hx)).2
 ·obtain⟨r,hr,rfl⟩:=List.mem_map.1 hc
  exact (h.nodes r hr).fl x hx
theorem tY {i:Nat} {r:Row} (hi:(dX K V)[i]? = some r):(bS g K V)[i+1]? = some r.v.ownBlock.toList:=by
 have hl:=(List.getElem?_eq_some_iff.1 hi).1;unfold bS;rw[List.getElem?_cons_succ,List.getElem?_append_left (by simpa using hl),List.getElem?_map,hi]
 rfl
theorem xO {q:Nat} {x:Nod} (hq:K.nds[q]? = some x):(bS g K V)[q+9]? = some x.F:=by
 unfold bS;rw[List.getElem?_cons_succ,List.getElem?_append_right (by simp[dX])]
 simp[dX,hq]
theorem yV:(bS g K V)[0]? = some [g]:=rfl
def Off (L:List (List Nat)) (S:List Nat) (t:Nat):Prop:=∀ x∈S,∃ i c,i≠t∧L[i]? = some c∧x∈c
theorem Off.one {L:List (List Nat)} {S c:List Nat} {t i:Nat} (hi:L[i]? = some c) (hS:∀ x∈S,x∈c) (hne:i≠t):Off L S t:=fun x hx=>⟨i,c,hne,hi,hS x hx⟩
theorem Off.app {L:List (List Nat)} {S S':List Nat} {t:Nat} (h:Off L S t) (k:Off L S' t):Off L (S++S') t:=fun x hx=>by
 rcases List.mem_append.1 hx with q|q
 ·exact h x q
 ·exact k x q
theorem Off.no {L:List (List Nat)} {S c:List Nat} {t:Nat} (h:Off L S t) (ha:Ap L) (ht:L[t]? = some c):∀ x∈S,x∉c:=fun x hx hc=>by
 obtain⟨i,d,hne,hi,hd⟩:=h x hx
 exact ha.ne hi ht hne x hd hc
theorem KAt.xu (h:KAt N w g K V) {S:List Nat} (k:Kp S w w') (ho:Off (bS g K V) S 0):w'.heap[g]? = w.heap[g]? :=
 k.block g (lt_of_block h.blk) (fun hc=>ho.no h.ap yV g hc (by simp))
theorem KAt.nG (h:KAt N w g K V) {S:List Nat} {j:Nat} {r:Row} (k:Kp S w w') (hj:(dX K V)[j]? = some r) (ho:Off (bS g K V) S (j+1)):w'.ownsRow 0 r.e r.s r.v r.n r.xs :=
 dV (h.rows r (List.mem_of_getElem? hj)) k (fun x hx hc=>ho.no h.ap (tY hj) x hc (by simp[hx]))
theorem KAt.no0 (h:KAt N w g K V) {S:List Nat} (hS:∀ x∈S,x∈gV g K V):0∉S:=fun hc=>by
 obtain⟨c,h1,h2⟩:=List.mem_flatten.1 (hS 0 hc)
 have:=h.lo c h1 0 h2
 have:=h.n0
 omega
theorem gX {L:List (List Nat)} {i:Nat} {c:List Nat} (hi:L[i]? = some c):∀ x∈c,x∈L.flatten:=fun _ hx=>List.mem_flatten.2 ⟨c,List.mem_of_getElem? hi,hx⟩
theorem KAt.nA (h:KAt N w g K V) {S:List Nat} {q:Nat} {x:Nod} (k:Kp S w w') (hq:K.nds[q]? = some x) (ho:Off (bS g K V) S (q+9)):ay w' x.b x.bl x.W x.F x.R x.V :=
 (h.nodes x (List.mem_of_getElem? hq)).far k (ho.no h.ap (xO hq)) (h.no0 fun y hy=>by
  obtain⟨i,c,_,hi,hc⟩:=ho y hy
  exact gX hi y hc)
theorem KAt.below (h:KAt N w g K V) (k:Below w.heap.size w w'):KAt N w' g K V :=
 ⟨(k.block g (lt_of_block h.blk)).trans h.blk,fun r hr=>bH (h.rows r hr) k,fun x hx=>(h.nodes x hx).below k,h.ap,h.lo,h.n0,h.tab.below k⟩
structure Kst (N:Nat) (w w':World) (g:Nat) (K:Kw) (V:Kv) (K':Kw) (V':Kv):Prop where
 at_:KAt N w' g K' V'
 kp:Kp (gV g K V) w w'
 sub:∀ x∈gV g K' V',x∈gV g K V∨w.heap.size≤x
theorem Kst.refl (h:KAt N w g K V):Kst N w w g K V K V:=⟨h,Kp.refl _ _,fun _ h=>.inl h⟩
theorem Kst.trans {w1 w2:World} {K1 K2:Kw} {V1 V2:Kv} (h:Kst N w w1 g K V K1 V1) (k:Kst N w1 w2 g K1 V1 K2 V2):Kst N w w2 g K V K2 V2:=by
 have hs:=h.kp.size;refine⟨k.at_,h.kp.trans k.kp (fun x hx hlt=>?_),fun x hx=>?_⟩
 ·rcases h.sub x hx with q|q
  ·exact q
  ·omega
 ·rcases k.sub x hx with q|q
  ·exact h.sub x q
  ·right;omega
theorem Kst.below {w1 w2:World} {K1:Kw} {V1:Kv} (h:Kst N w w1 g K V K1 V1) (k:Below w1.heap.size w1 w2):Kst N w w2 g K V K1 V1:=⟨h.at_.below k,h.kp.aF k,h.sub⟩
theorem KAt.JB (h:KAt N w g K V):∀ x∈gV g K V,N≤x:=fun x hx=>by
 obtain⟨c,hc,hx⟩:=List.mem_flatten.1 hx
 exact h.lo c hc x hx
theorem KAt.Nlt (h:KAt N w g K V):N<w.heap.size:=Nat.lt_of_le_of_lt (h.lo [g] (by simp[bS]) g (by simp)) (lt_of_block h.blk)
theorem KAt.scalar (h:KAt N w g K V) (j:Nat) (v:Value) (hc:lI K' V=(lI K V).setIfInBounds j v) (hr:dX K' V=dX K V) (hn:K'.nds=K.nds):Kst N w (w.setCell ⟨g,j,O⟩ v) g K V K' V:=by
 have k:Kp [g] w (w.setCell ⟨g,j,O⟩ v):=(Kp.refl _ w).set g j v (.inl (by simp))
 have hcm:bS g K' V=bS g K V:=by unfold bS;rw[hr,hn]
 have hft:gV g K' V=gV g K V:=by unfold gV;rw[hcm]
 have hof:∀ t,t≠0→Off (bS g K V) [g] t:=fun t ht=>Off.one (i:=0) yV (fun _ h=>h) (fun hc=>ht hc.symm)
 refine⟨⟨?_,?_,?_,?_,?_,h.n0,h.tab.kp k (h.no0 (gX (i:=0) yV))⟩,k.wid (gX (i:=0) yV),fun x hx=>.inl (hft▸hx)⟩
 ·rw[hc];exact heap_setCell_same w g _ _ _ v h.blk
 ·intro r hr';rw[hr] at hr';obtain⟨i,hi⟩:=List.getElem?_of_mem hr'
  exact h.nG k hi (hof _ (by omega))
 ·intro x hx;rw[hn] at hx;obtain⟨q,hq⟩:=List.getElem?_of_mem hx
  exact h.nA k hq (hof _ (by omega))
 ·rw[hcm];exact h.ap
 ·rw[hcm];exact h.lo
theorem xP {i:Nat} {r':Row} (hi:i<(dX K V).length) (hr:dX K' V'=(dX K V).set i r') (hn:K'.nds=K.nds):bS g K' V'=(bS g K V).set (i+1) r'.v.ownBlock.toList:=by
 unfold bS;rw[hr,hn,List.set_cons_succ,List.map_set,List.set_append,if_pos (by simpa using hi)]
theorem KAt.newRow {w1:World} {i:Nat} {r r':Row} (h:KAt N w g K V) (hi:(dX K V)[i]? = some r) (k:Kp r.v.ownBlock.toList w w1) (ho:w1.ownsRow 0 r'.e r'.s r'.v r'.n r'.xs) (hb:∀ x,r'.v.ownBlock=some x→r.v.ownBlock=some x∨w.heap.size≤x)
  (j:Nat) (hc:lI K' V'=(lI K V).setIfInBounds j r'.v) (hr:dX K' V'=(dX K V).set i r') (hn:K'.nds=K.nds):Kst N w (w1.setCell ⟨g,j,O⟩ r'.v) g K V K' V':=by
 have hil:=(List.getElem?_eq_some_iff.1 hi).1;have hci:=tY (g:=g) hi;have k2:Kp ([g]++r.v.ownBlock.toList) w (w1.setCell ⟨g,j,O⟩ r'.v):=(k.wid (S':=[g]++r.v.ownBlock.toList) (fun x hx=>by simp at hx;simp[hx])).set g j _ (.inl (by simp))
 have hof:∀ t,t≠0→t≠i+1→Off (bS g K V) ([g]++r.v.ownBlock.toList) t:=fun t h0 h1=>Off.app (Off.one (i:=0) yV (fun _ h=>h) (fun hc=>h0 hc.symm)) (Off.one hci (fun _ h=>h) (fun hc=>h1 hc.symm))
 have hfo:∀ x∈[g]++r.v.ownBlock.toList,x∈gV g K V:=fun x hx=>by
  rcases List.mem_append.1 hx with q|q
  ·exact gX (i:=0) yV x q
  ·exact gX hci x q
 have hcm:bS g K' V'=(bS g K V).set (i+1) r'.v.ownBlock.toList:=xP hil hr hn
 have hgl:=lt_of_block h.blk;have hgb:r'.v.ownBlock≠some g:=fun hc=>by
  rcases hb g hc with q|q
  ·exact h.ap.ne hci yV (by omega) g (by simp[q]) (by simp)
  ·omega
 refine⟨⟨?_,?_,?_,?_,?_,h.n0,h.tab.kp k2 (h.no0 hfo)⟩,k2.wid hfo,?_⟩
 ·rw[hc];exact heap_setCell_same w1 g _ _ _ _ ((h.xu k (Off.one hci (fun _ h=>h) (by omega))).trans h.blk)
 ·intro r0 hr0;rw[hr] at hr0;obtain⟨m,hm⟩:=List.getElem?_of_mem hr0
  by_cases e:i=m
  ·subst e;rw[List.getElem?_set_self hil] at hm;cases hm;exact dV ho ((Kp.refl [g] w1).set g j _ (.inl (by simp))) (fun x hx hc=>by simp at hc;subst hc;exact hgb hx)
  ·rw[List.getElem?_set_ne e] at hm;exact h.nG k2 hm (hof _ (by omega) (by omega))
 ·intro x hx;rw[hn] at hx;obtain⟨q,hq⟩:=List.getElem?_of_mem hx
  have:(dX K V).length=8:=rfl
  exact h.nA k2 hq (hof _ (by omega) (by omega))
 ·rw[hcm];refine h.ap.put h.lt (fun a ha x hx=>?_)
  rw[hci] at ha;cases ha;rcases hb x (by simpa using hx) with q|q
  ·left;simp[q]
  ·exact .inr q
 ·rw[hcm];intro c hcc x hx;rcases List.mem_or_eq_of_mem_set hcc with q|rfl
  ·exact h.lo c q x hx
  ·rcases hb x (by simpa using hx) with q|q
   ·exact h.lo _ (List.mem_of_getElem? hci) x (by simp[q])
   ·have:=h.Nlt;omega
 ·intro x hx;unfold gV at hx;rw[hcm] at hx;obtain⟨c,hcc,hx⟩:=List.mem_flatten.1 hx
  rcases List.mem_or_eq_of_mem_set hcc with q|rfl
  ·exact .inl (List.mem_flatten.2 ⟨c,q,hx⟩)
  ·rcases hb x (by simpa using hx) with q|q
   ·exact .inl (gX hci x (by simp[q]))
   ·exact .inr q
theorem KAt.inRow {w1:World} {i:Nat} {r r':Row} (h:KAt N w g K V) (hi:(dX K V)[i]? = some r) (k:Kp r.v.ownBlock.toList w w1) (ho:w1.ownsRow 0 r'.e r'.s r'.v r'.n r'.xs) (hv:r'.v=r.v)
  (hc:lI K' V=lI K V) (hr:dX K' V=(dX K V).set i r') (hn:K'.nds=K.nds):Kst N w w1 g K V K' V:=by
 have hil:=(List.getElem?_eq_some_iff.1 hi).1;have hci:=tY (g:=g) hi;have hof:∀ t,t≠i+1→Off (bS g K V) r.v.ownBlock.toList t:=fun t h1=>Off.one hci (fun _ h=>h) (fun hc=>h1 hc.symm)
 have hcm:bS g K' V=bS g K V:=by
  rw[xP hil hr hn,hv];obtain⟨q1,q2⟩:=List.getElem?_eq_some_iff.1 hci
  rw[← q2];exact List.set_getElem_self q1
 have hft:gV g K' V=gV g K V:=by unfold gV;rw[hcm]
 have:(dX K V).length=8:=rfl
 refine⟨⟨?_,?_,?_,hcm▸h.ap,hcm▸h.lo,h.n0,h.tab.kp k (h.no0 (gX hci))⟩,k.wid (gX hci),fun x hx=>.inl (hft▸hx)⟩
 ·rw[hc,← h.blk];exact h.xu k (hof _ (by omega))
 ·intro r0 hr0;rw[hr] at hr0;obtain⟨m,hm⟩:=List.getElem?_of_mem hr0
  by_cases e:i=m
  ·subst e;rw[List.getElem?_set_self hil] at hm;cases hm;exact ho
  ·rw[List.getElem?_set_ne e] at hm;exact h.nG k hm (hof _ (by omega))
 ·intro x hx;rw[hn] at hx;obtain⟨q,hq⟩:=List.getElem?_of_mem hx
  exact h.nA k hq (hof _ (by omega))
theorem rH {q:Nat} {x':Nod} (hr:(dX K' V).map (fun r=>r.v.ownBlock.toList)=(dX K V).map (fun r=>r.v.ownBlock.toList)) (hn:K'.nds=K.nds.set q x'):bS g K' V=(bS g K V).set (q+9) x'.F:=by
 unfold bS;rw[hr,hn,List.set_cons_succ,List.set_append,if_neg (by simp[dX]),List.map_set]
 simp[dX]
theorem KAt.nod {w1:World} {q:Nat} {x x':Nod} (h:KAt N w g K V) (hq:K.nds[q]? = some x) (hb:x'.b=x.b) (k:Kp x.F w w1) (hR:ay w1 x'.b x'.bl x'.W x'.F x'.R x'.V) (hF:∀ y∈x'.F,y∈x.F∨w.heap.size≤y):Kst N w w1 g K V { K with nds:=K.nds.set q x' } V:=by
 have hql:=(List.getElem?_eq_some_iff.1 hq).1;have hci:=xO (g:=g) (V:=V) hq;have hof:∀ t,t≠q+9→Off (bS g K V) x.F t:=fun t h1=>Off.one hci (fun _ h=>h) (fun hc=>h1 hc.symm)
 have hr:dX { K with nds:=K.nds.set q x' } V=dX K V:=by
  have e:(K.nds.set q x').map ku=K.nds.map ku:=by
   rw[List.map_set];have:ku x'=(K.nds.map ku)[q]'(by simpa using hql):=by
    rw[List.getElem_map,(List.getElem?_eq_some_iff.1 hq).2];unfold ku;rw[hb]
   rw[this];exact List.set_getElem_self _
  unfold dX;simp only[e,List.length_set]
 have hcm:bS g { K with nds:=K.nds.set q x' } V=(bS g K V).set (q+9) x'.F:=rH (by rw[hr]) rfl
 refine⟨⟨?_,?_,?_,?_,?_,h.n0,h.tab.kp k (h.no0 (gX hci))⟩,k.wid (gX hci),?_⟩
 ·exact (h.xu k (hof _ (by omega))).trans h.blk
 ·intro r0 hr0;rw[hr] at hr0;obtain⟨m,hm⟩:=List.getElem?_of_mem hr0
  have:(dX K V).length=8:=rfl
  have:=(List.getElem?_eq_some_iff.1 hm).1
  exact h.nG k hm (hof _ (by omega))
 ·intro y hy;obtain⟨m,hm⟩:=List.getElem?_of_mem hy
  by_cases e:q=m
  ·subst e;rw[List.getElem?_set_self hql] at hm;cases hm;exact hR
  ·rw[List.getElem?_set_ne e] at hm;exact h.nA k hm (hof _ (by omega))
 ·rw[hcm];refine h.ap.put h.lt (fun a ha y hy=>?_)
  rw[hci] at ha;cases ha;exact hF y hy
 ·rw[hcm];intro c hcc y hy;rcases List.mem_or_eq_of_mem_set hcc with p|rfl
  ·exact h.lo c p y hy
  ·rcases hF y hy with p|p
   ·exact h.lo _ (List.mem_of_getElem? hci) y p
   ·have:=h.Nlt;omega
 ·intro y hy;unfold gV at hy;rw[hcm] at hy;obtain⟨c,hcc,hy⟩:=List.mem_flatten.1 hy
  rcases List.mem_or_eq_of_mem_set hcc with p|rfl
  ·exact .inl (List.mem_flatten.2 ⟨c,p,hy⟩)
  ·exact (hF y hy).imp (fun p=>gX hci y p) id
end
theorem Tryz.infoPk:(Tryz.prog.info? 102).map (fun i=>(i.zero,i.size,i.bytes))=some (some (.agg #[I J 0,I J 0,Z Ze]),3,32):=by kernel_rfl
section
variable {N:Nat} {w w':World} {g:Nat} {K K':Kw} {V V':Kv}
theorem KAt.cell (h:KAt N w g K V) (j:Nat):w.cell? ⟨g,j,O⟩=(lI K V)[j]?:=by simp[World.cell?,h.blk]
theorem KAt.free (h:KAt N w g K V) (j:Nat):w.frozen? ⟨g,j,O⟩=false:=by simp[World.frozen?,h.blk]
theorem KAt.lb (h:KAt N w g K V):g<w.heap.size:=lt_of_block h.blk
theorem KAt.rN (h:KAt N w g K V):w.ownsRow 0 29 1 V.vN K.nds.length (K.nds.map ku):=h.rows _ (List.mem_of_getElem? (i:=0) rfl)
theorem KAt.rD (h:KAt N w g K V):w.ownsRow 0 4 1 V.vD K.down.length (K.down.map Value.bool):=h.rows _ (List.mem_of_getElem? (i:=1) rfl)
theorem KAt.rB (h:KAt N w g K V):w.ownsRow 0 3 1 V.vB K.begun.length (K.begun.map (Value.int .i64)):=h.rows _ (List.mem_of_getElem? (i:=2) rfl)
theorem KAt.rP (h:KAt N w g K V):w.ownsRow 0 102 3 V.vP K.net.length (aA K.net):=h.rows _ (List.mem_of_getElem? (i:=3) rfl)
theorem KAt.rW (h:KAt N w g K V):w.ownsRow 0 99 6 V.vW K.wishes.length (bC K.wishes):=h.rows _ (List.mem_of_getElem? (i:=4) rfl)
theorem KAt.rO (h:KAt N w g K V):w.ownsRow 0 3 1 V.vO K.opn.length (K.opn.map (Value.int .i64)):=h.rows _ (List.mem_of_getElem? (i:=5) rfl)
theorem KAt.rL (h:KAt N w g K V):w.ownsRow 0 66 3 V.vL K.list.length (aA K.list):=h.rows _ (List.mem_of_getElem? (i:=6) rfl)
theorem KAt.rG (h:KAt N w g K V):w.ownsRow 0 9 1 V.vG K.groups.length (K.groups.map Value.string):=h.rows _ (List.mem_of_getElem? (i:=7) rfl)
theorem KAt.gne (h:KAt N w g K V) {i:Nat} {r:Row} (hi:(dX K V)[i]? = some r):some g≠r.v.ownBlock:=fun hc =>
 h.ap.ne (tY hi) yV (by omega) g (by simp[← hc]) (by simp)
theorem bQ (h:KAt N w g K V) (p:Int):Calls Tryz.prog 66 #[Zp (some ⟨g,0,O⟩),I J p] w fun e w'=>e=Zr (.bool false)∧Kst N w w' g K V { K with part:=p } V:=by
 have c0:w.cell? ⟨g,0,O⟩=some (I J K.part):=h.cell 0
 have f0:=h.free 0;have HS:=ah (h.scalar (K':={ K with part:=p }) 0 (I J p) rfl rfl rfl)
 clear h;go_enter Tryz.func66,Tryz.ntmps66;go_wp2_with fail;go_ret;exact⟨rfl,HS.out⟩
theorem kP (h:KAt N w g K V) (f t:Int) (s:ByteArray) (hl:K.net.length≤1000000000000) :
  Calls Tryz.prog 55 #[Zp (some ⟨g,0,O⟩),I J f,I J t,Z s] w fun e w'=>e=Zr (.tuple #[])∧∃ v,Kst N w w' g K V { K with net:=K.net++[(f,t,s)] } { V with vP:=v }:=by
 obtain⟨i0,hi,hz0,hz1,hz2⟩:=info_parts Tryz.infoPk
 have hrow:=h.rP;obtain⟨aP,cP,hvP⟩:=au hrow
 have c7:w.cell? ⟨g,7,O⟩=some V.vP:=h.cell 7
 have f7:=h.free 7;have hne:some g≠V.vP.ownBlock:=h.gne (i:=3) rfl
 rw[hvP] at hrow c7 hne;have hlb:=h.lb;have HH:=ah h;clear h;go_enter Tryz.func55,Tryz.ntmps55;go_wp2_with (refine wpList_append_lies (w:=w.alloc (.cells #[I J f,I J t,Z s] 102)) (by rfl) (.tmp 12) (.tmp 17) 45 (by rfl) 0 102 i0 (.agg #[I J 0,I J 0,Z Ze]) 3 32 Tryz.underlying45 hi hz0 hz1 hz2 rfl (by decide) (Y aP K.net.length cP) K.net.length (aA K.net) (by rfl) (hrow.alloc _) ⟨w.heap.size,0,O⟩ 1 1 [I J f,I J t,Z s] (by rfl) (by rfl) (World.news_of_block (heap_alloc_new w (.cells #[I J f,I J t,Z s] 102))) (by intro u hu;simp at hu;rcases hu with rfl|rfl|rfl <;> rfl) (by decide) (by unfold maxLen;omega) (by omega) (Nat.zero_le _) (w.heap.size+1) (by simp) ?_;intro g4 cap4 w4 hown4 hg4 hat4 hlt4;have t7:w4.cell? ⟨g,7,O⟩=some (Y aP K.net.length cP):=(hg4.cell_far ⟨g,7,O⟩ (by simp;omega) hne).trans ((((Below.refl _ w).alloc (Nat.le_refl _) _).cell (p:=⟨g,7,O⟩) hlb).trans c7);have g7:w4.frozen? ⟨g,7,O⟩=false:=(hg4.frozen_far ⟨g,7,O⟩ (by simp;omega) hne).trans ((((Below.refl _ w).alloc (Nat.le_refl _) _).frozen (p:=⟨g,7,O⟩) hlb).trans f7))
 have hb2:Below w.heap.size w (w.alloc (.cells #[I J f,I J t,Z s] 102)):=(Below.refl _ w).alloc (Nat.le_refl _) _
 have e2:aA (K.net++[(f,t,s)])=aA K.net++[I J f,I J t,Z s]:=by simp[aA]
 have ho4:w4.ownsRow 0 102 3 (Y (some ⟨g4,0,O⟩) (K.net.length+1) cap4) (K.net++[(f,t,s)]).length (aA (K.net++[(f,t,s)])):=by
  rw[e2,show (K.net++[(f,t,s)]).length=K.net.length+1 by simp];exact hown4
 have HS:=ah (HH.out.newRow (V':={ V with vP:=Y (some ⟨g4,0,O⟩) (K.net.length+1) cap4 }) (K':={ K with net:=K.net++[(f,t,s)] }) (i:=3) (w1:=w4) (r:=⟨102,3,V.vP,K.net.length,aA K.net⟩) (r':=⟨102,3,Y (some ⟨g4,0,O⟩) (K.net.length+1) cap4,(K.net++[(f,t,s)]).length,aA (K.net++[(f,t,s)])⟩) rfl
  ((Kp.of_below hb2).trans' (by rw[hvP];exact Kp.row hg4)) ho4 (fun x hx=>by
   simp[Value.ownBlock] at hx;subst hx
   show V.vP.ownBlock=_∨_
   rw[hvP];exact hat4.imp id (fun q=>by omega)) 7 rfl rfl rfl)
 clear hown4 hg4 hat4 hlt4 ho4 e2 hb2;go_wp2_with fail;exact bodyPost_end (results_none rfl _ _ _) rfl ⟨rfl,_,HS.out⟩
end
section
variable {w:World} {b bl:Nat} {W F:List Nat} {R:Rp} {V:Rv}
theorem BZ (l:List En):∀ u∈aA l,u.oneCell'=true:=fun u hu=>by
 simp only[aA,List.mem_flatMap] at hu;obtain⟨e,_,hu⟩:=hu
 simp at hu;rcases hu with rfl|rfl|rfl <;> rfl
theorem GJ (h:ay w b bl W F R V) (hl:R.lives.length≤1000) :
  Calls Tryz.prog 175 #[Zp (some ⟨b,0,O⟩)] w fun e w'=>∃ v,e=Zr v∧w'.ownsRow w.heap.size 3 1 v R.lives.length (R.lives.map (Value.int .i64))∧Below w.heap.size w w':=by
 obtain⟨i0,hi,hz0,hz1,hz2⟩:=info_parts Tryz.infoInt
 have HO:Hid (∀ u∈R.lives.map (Value.int .i64),u.oneCell'=true):=fun u hu=>by obtain⟨x,_,rfl⟩:=List.mem_map.1 hu;rfl
 have cc:=h.c2;obtain⟨cl,hv⟩:=h.g2
 have hrd:=h.lives.rd;rw[hv] at cc hrd;go_enter Tryz.func175,Tryz.ntmps175;go_wp2_with (at_builtin;refine Hz rfl _ _ 44 rfl w.heap.size 3 i0 (I J 0) 1 8 Tryz.underlying44 hi hz0 hz1 hz2 rfl (by decide) w _ _ _ (by rfl) (World.ownsRow_nil _ _ _ _) _ R.lives.length (R.lives.map (Value.int .i64)) (by rfl) hrd HO.out (by omega) (by omega) (by decide) (Nat.le_refl _) ?_)
 intro v' w1 hown _ hb1;have hown':w1.ownsRow w.heap.size 3 1 v' R.lives.length (R.lives.map (Value.int .i64)):=by simpa using hown
 obtain⟨a',c',rfl⟩:=au hown'
 clear hown;go_wp2_with fail;go_ret;exact⟨_,rfl,hown',hb1⟩
theorem Aa (h:ay w b bl W F R V) (hl:R.grp.length≤1000) :
  Calls Tryz.prog 106 #[Zp (some ⟨b,0,O⟩)] w fun e w'=>∃ v,e=Zr v∧w'.ownsRow w.heap.size 3 1 v R.grp.length (R.grp.map (Value.int .i64))∧Below w.heap.size w w':=by
 obtain⟨i0,hi,hz0,hz1,hz2⟩:=info_parts Tryz.infoInt
 have HO:Hid (∀ u∈R.grp.map (Value.int .i64),u.oneCell'=true):=fun u hu=>by obtain⟨x,_,rfl⟩:=List.mem_map.1 hu;rfl
 have cc:=h.c7;obtain⟨ag,cl,hv⟩:=h.g7
 have hrd:=h.grp;rw[hv] at cc hrd;go_enter Tryz.func106,Tryz.ntmps106;go_wp2_with (at_builtin;refine Hz rfl _ _ 44 rfl w.heap.size 3 i0 (I J 0) 1 8 Tryz.underlying44 hi hz0 hz1 hz2 rfl (by decide) w _ _ _ (by rfl) (World.ownsRow_nil _ _ _ _) _ R.grp.length (R.grp.map (Value.int .i64)) (by rfl) hrd HO.out (by omega) (by omega) (by decide) (Nat.le_refl _) ?_)
 intro v' w1 hown _ hb1;have hown':w1.ownsRow w.heap.size 3 1 v' R.grp.length (R.grp.map (Value.int .i64)):=by simpa using hown
 obtain⟨a',c',rfl⟩:=au hown'
 clear hown;go_wp2_with fail;go_ret;exact⟨_,rfl,hown',hb1⟩
theorem JY (h:ay w b bl W F R V) (hl:R.old.length≤1000) :
  Calls Tryz.prog 111 #[Zp (some ⟨b,0,O⟩)] w fun e w'=>∃ v,e=Zr v∧w'.ownsRow w.heap.size 3 1 v R.old.length (R.old.map (Value.int .i64))∧Below w.heap.size w w':=by
 obtain⟨i0,hi,hz0,hz1,hz2⟩:=info_parts Tryz.infoInt
 have HO:Hid (∀ u∈R.old.map (Value.int .i64),u.oneCell'=true):=fun u hu=>by obtain⟨x,_,rfl⟩:=List.mem_map.1 hu;rfl
 have cc:=h.c8;obtain⟨ag,cl,hv⟩:=h.g8
 have hrd:=h.old;rw[hv] at cc hrd;go_enter Tryz.func111,Tryz.ntmps111;go_wp2_with (at_builtin;refine Hz rfl _ _ 44 rfl w.heap.size 3 i0 (I J 0) 1 8 Tryz.underlying44 hi hz0 hz1 hz2 rfl (by decide) w _ _ _ (by rfl) (World.ownsRow_nil _ _ _ _) _ R.old.length (R.old.map (Value.int .i64)) (by rfl) hrd HO.out (by omega) (by omega) (by decide) (Nat.le_refl _) ?_)
 intro v' w1 hown _ hb1;have hown':w1.ownsRow w.heap.size 3 1 v' R.old.length (R.old.map (Value.int .i64)):=by simpa using hown
 obtain⟨a',c',rfl⟩:=au hown'
 clear hown;go_wp2_with fail;go_ret;exact⟨_,rfl,hown',hb1⟩
theorem qy (h:ay w b bl W F R V) (hl:R.log.length≤1000) :
  Calls Tryz.prog 104 #[Zp (some ⟨b,0,O⟩)] w fun e w'=>∃ v,e=Zr v∧w'.ownsRow w.heap.size 66 3 v R.log.length (aA R.log)∧Below w.heap.size w w':=by
 obtain⟨i0,hi,hz0,hz1,hz2⟩:=info_parts Tryz.infoEnt
 have HO:Hid (∀ u∈aA R.log,u.oneCell'=true):=BZ R.log
 have cc:=h.c9;obtain⟨ag,cl,hv⟩:=h.g9
 have hrd:=h.ents;rw[hv] at cc hrd;go_enter Tryz.func104,Tryz.ntmps104;go_wp2_with (at_builtin;refine Hz rfl _ _ 47 rfl w.heap.size 66 i0 (.agg #[I J 0,I J 0,Z Ze]) 3 32 Tryz.underlying47 hi hz0 hz1 hz2 rfl (by decide) w _ _ _ (by rfl) (World.ownsRow_nil _ _ _ _) _ R.log.length (aA R.log) (by rfl) hrd HO.out (by omega) (by omega) (by decide) (Nat.le_refl _) ?_)
 intro v' w1 hown _ hb1;have hown':w1.ownsRow w.heap.size 66 3 v' R.log.length (aA R.log):=by simpa using hown
 obtain⟨a',c',rfl⟩:=au hown'
 clear hown;go_wp2_with fail;go_ret;exact⟨_,rfl,hown',hb1⟩
end
section
variable {w:World} {b bl:Nat} {W F:List Nat} {R:Rp} {V:Rv}
theorem JM (h:ay w b bl W F R V):w.heap.size∉b :: V.vt.ownBlock.toList:=fun hc=>by
 rcases List.mem_cons.1 hc with hc|hc
 ·have:=h.lb;omega
 ·have:=(h.out.lt w.heap.size (by simpa using hc)).2;omega
theorem iT (h:ay w b bl W F R V) (vr:Value) (l:List Int) (P:Pm) (vl vg vo vL:Value) (hW:PmW P) (hR:lu w P vl vg vo vL) (hF:PmFr (b :: V.vt.ownBlock.toList) vl vg vo vL) (hr:Ints w vr l) (hrf:Fr (b :: V.vt.ownBlock.toList) vr) (hl:l.length≤1000) (ho:R.out.length≤900000) :
  Calls Tryz.prog 124 #[Zp (some ⟨b,0,O⟩),vr,.agg (pmC P vl vg vo vL)] w fun e w'=>e=Zr (.tuple #[])∧Snt w w' b bl W F V (R.gP l P):=by
 obtain⟨al,cl,rfl,_,_⟩:=hR.lives.shape
 obtain⟨ag,cg,rfl,_,_⟩:=hR.grp.shape
 obtain⟨ao,co,rfl,_,_⟩:=hR.old.shape
 obtain⟨aL,cL,rfl,_,_⟩:=hR.log.shape
 obtain⟨ar,cr,rfl,_,_⟩:=hr.shape
 have HSe:Hid (∀ (R:Rp) (V:Rv) (W F:List Nat) (qt:Int) (w:World),ay w b bl W F R V→lu w P (Y al P.lives.length cl) (Y ag P.grp.length cg) (Y ao P.old.length co) (Y aL P.log.length cL)→R.out.length≤1000000 →
  Calls Tryz.prog 88 #[Zp (some ⟨b,0,O⟩),I J qt,.agg (pqC P al cl ag cg ao co aL cL)] w fun e w'=>e=Zr (.tuple #[])∧Snt w w' b bl W F V (R.send qt P)) :=
  fun R V W F qt w h hR ho=>lU h qt P _ _ _ _ hW hR ho
 clear hW;have hbA:Below w.heap.size w (w.alloc (.cells (pqC P al cl ag cg ao co aL cL) 68)):=(Below.refl _ w).alloc (Nat.le_refl _) _
 have hnew:=heap_alloc_new w (.cells (pqC P al cl ag cg ao co aL cL) 68);have hA:=h.below hbA;have hRA:=hR.below hbA;have hrA:=hr.below hbA;have hnf:=JM h;have HL:Hid (∀ k,(R.gP (l.take k) P).out.length≤1000000):=fun k=>by
  unfold Rp.gP;simp only[List.length_append,List.length_map];have:=List.length_filter_le (fun x=>x != R.id) (l.take k)
  rw[List.length_take] at this;omega
 have HS0:Hid (R.gP (l.take 0) P=R):=by unfold Hid Rp.gP;simp
 have HSl:Hid (R.gP (l.take l.length) P=R.gP l P):=by unfold Hid;rw[List.take_length]
 have HSk:Hid (∀ k (hk:k<l.length),(l[k]==R.id)=false→(R.gP (l.take k) P).send l[k] P=R.gP (l.take (k+1)) P):=fun k hk q=>by
  unfold Rp.gP Rp.send Rp.put;rw[List.take_succ_eq_append_getElem hk,List.filter_append,List.map_append];simp[bne,q]
 have HSn:Hid (∀ k (hk:k<l.length),(l[k]==R.id)=true→R.gP (l.take k) P=R.gP (l.take (k+1)) P):=fun k hk q=>by
  unfold Rp.gP;rw[List.take_succ_eq_append_getElem hk,List.filter_append,List.map_append];simp[bne,q]
 have HId:Hid (∀ k,(R.gP (l.take k) P).id=R.id):=fun k=>rfl
 clear hR hr h;simp only[pmC];go_enter Tryz.func124,Tryz.ntmps124;go_wp2_with fail;generalize w.alloc (.cells (pqC P al cl ag cg ao co aL cL) 68)=wA at *;go_loopw [6] (fun i wr=>∃ (k:Nat) (W' F':List Nat) (vt:Value),k≤l.length∧i=I J k∧oM wA wr b bl W F V (R.gP (l.take k) P) W' F' vt∧bB wr w.heap.size (pqC P al cl ag cg ao co aL cL)) (fun i _=>l.length-(intOf i).toNat)
 case atStart=>exact⟨0,W,F,V.vt,Nat.zero_le _,rfl,by rw[HS0.out];exact oM.refl hA,⟨rfl,hnew⟩⟩
 case round =>
  obtain⟨k,W',F',vt,hk,rfl,hSk,hMk⟩:=hrel
  have d0:=hSk.rp.c0;rw[HId.out k] at d0;by_cases hlt:k<l.length
  ·obtain⟨br,orr,hbr,_,cr⟩:=Ints.get (hrA.kp hSk.kp hrf) k hlt
   subst hbr;have j1:(0:Int)≤(k:Int):=by omega
   have j2:(k:Int)<(l.length:Int):=by omega
   obtain⟨x0,x1,x2,x3,x4,x5,x6,x7,x8,x9,x10,x11,x12,x13,x14,xf⟩:=hMk.all
   cases hid:(l[k]==R.id)
   ·have hne:(l[k] != R.id)=true:=by simp[bne,hid]
    have HW0:=ah (HSk.out k hlt hid);have HLk:=ah (HL.out k);generalize R.gP (l.take k) P=Rk at *;go_wp2_with fail;go_quiet (fail);have hq:Below wr.heap.size wr (wr.drewN nq).drew:=(below_drewN (Below.refl _ _) nq).drew
    have hSq:=hSk.below hq;have hMq:=hMk.kp (Kp.of_below (S:=[]) hq) (by simp)
    have hnf2:w.heap.size∉b :: vt.ownBlock.toList:=fun hc=>hnf (show w.heap.size∈b :: V.vt.ownBlock.toList from by
     rcases List.mem_cons.1 hc with hc|hc
     ·exact List.mem_cons.2 (.inl hc)
     ·rcases hSq.vb w.heap.size (by simpa using hc) with q|q
      ·exact List.mem_cons.2 (.inr (by simpa using q))
      ·have:=lt_of_block hnew;omega)
    have HW2:=ah (HSe.out Rk _ W' F' l[k] _ hSq.rp ((hRA.kp hSk.kp hF).below hq) HLk.out);go_wp2_with fail;go_region_with (go_at_call 88;refine HW2.out.mono ?_;rintro e w2 ⟨rfl,W2,F2,vt2,hS2⟩)
    all_goals
     have hS3:=hSq.trans hS2;have hM3:=hMq.kp hS2.kp hnf2;rw[HW0.out] at hS3;go_wp2_with fail;go_roundw
     case rel=>exact⟨k+1,W2,F2,vt2,by omega,by go_num,hS3,hM3⟩
     case measure=>simp[intOf];omega
   ·have hne:(l[k] != R.id)=false:=by simp[bne,hid]
    have HW0:=ah (HSn.out k hlt hid);go_wp2_with fail;go_quiet (fail);have hq:Below wr.heap.size wr (wr.drewN nq):=below_drewN (Below.refl _ _) nq
    have hSq:=hSk.below hq;have hMq:=hMk.kp (Kp.of_below (S:=[]) hq) (by simp)
    rw[HW0.out] at hSq;go_wp2_with fail;go_roundw
    case rel=>exact⟨k+1,W',F',vt,by omega,by go_num,hSq,hMq⟩
    case measure=>simp[intOf];omega
  ·obtain rfl:k=l.length:=by omega
   rw[HSl.out] at hSk;have HH:=ah (hSk.pre hbA);go_wp2_with fail;exact bodyPost_end (results_none rfl _ _ _) rfl ⟨rfl,W',F',vt,HH.out⟩
end
theorem fH (w:World):Ints w (Y O 0 0) []:=⟨rfl,.inl ⟨rfl,rfl⟩⟩
theorem oV (w:World):gu w (Y O 0 0) []:=⟨rfl,.inl ⟨rfl,rfl⟩⟩
section
variable {w:World} {b bl:Nat} {W F:List Nat} {R:Rp} {V:Rv}
theorem EO {n:Int} {g:List Int} (h:fQ n g) (hn:n≤7):g.length≤1000∧∀ x∈g,0≤x∧x≤999999999 :=
 ⟨by have:=h.1;omega,fun x hx=>by have:=h.2 x hx;omega⟩
theorem lv_w {l:List Int} (h:∀ x∈l,0≤x∧x≤999):∀ x∈l,0≤x∧x≤999999999:=fun x hx=>by have:=h x hx;omega
structure Mk (R:Rp) (P:Pm):Prop where
 frm:P.frm=R.id
 lives:P.lives=R.lives
 ep:P.epoch=R.epoch
 vi:0≤P.view∧P.view≤999
 kd:0≤P.kind∧P.kind<128
 pl:0≤P.place∧P.place≤999
 en:rY P.ent
 co:0≤P.commit∧P.commit≤999
 no:0≤P.normal∧P.normal≤999
 li:0≤P.life∧P.life≤999
 g:fQ R.n P.grp
 o:fQ R.n P.old
 l:qX R.n P.log
theorem Mk.pw {P:Pm} (h:Ok R) (k:Mk R P):PmW P:=by
 have n7:=h.n7;have hll:=h.ll;have hi:=h.i1;refine⟨by rw[k.lives];omega,(EO k.g n7).1,(EO k.o n7).1,by have:=k.l.1;omega,by rw[k.lives];exact lv_w h.lb,(EO k.g n7).2,(EO k.o n7).2,fun x hx=>(k.l.2 x hx).w,by have:=k.pl;omega,by have:=k.co;omega,by have:=k.no;omega,by have:=k.li;omega,k.en,by rw[k.frm];have:=h.i0;omega,by rw[k.ep];have:=h.ep;omega,by have:=k.vi;omega,k.kd⟩
theorem AY (h:Ok R) {k:Int} (hk:0≤k∧k<128):Mk R (R.head k) :=
 ⟨rfl,rfl,rfl,h.vi,hk,by simp[Rp.head,pm0],ru,by simp[Rp.head,pm0],by simp[Rp.head,pm0],by simp[Rp.head,pm0],fQ.nil _,fQ.nil _,⟨by simp[Rp.head,pm0],by simp[Rp.head,pm0]⟩⟩
theorem Cr (h:Ok R):Mk R R.dQ :=
 ⟨rfl,rfl,rfl,h.vi,by simp[Rp.dQ,Rp.head],by simp[Rp.dQ,Rp.head,pm0],ru,by have:=h.dc;have:=h.lg;simp[Rp.dQ];omega,by simp[Rp.dQ,Rp.head,pm0],by simp[Rp.dQ,Rp.head,pm0],h.g,h.o,⟨h.lg,h.le⟩⟩
theorem Lc (h:Ok R):Mk R R.yP :=
 ⟨rfl,rfl,rfl,by simp[Rp.yP],by simp[Rp.yP,Rp.dQ,Rp.head],by simp[Rp.yP,Rp.dQ,Rp.head,pm0],ru,by have:=Aj R.log R.epoch;have:=h.lg;simp only[Rp.yP];omega,by simp[Rp.yP,Rp.dQ,Rp.head,pm0],by simp[Rp.yP,Rp.dQ,Rp.head,pm0],h.g,h.o,qX.upto ⟨h.lg,h.le⟩ _⟩
theorem Ld (h:Ok R):Mk R R.dR :=
 ⟨rfl,rfl,rfl,h.vi,by simp[Rp.dR,Rp.head],by simp[Rp.dR,Rp.head,pm0],ru,by have:=h.dc;have:=h.lg;simp[Rp.dR];omega,h.no,by simp[Rp.dR,Rp.head,pm0],fQ.nil _,fQ.nil _,⟨h.lg,h.le⟩⟩
theorem IB (h:Ok R) {p:Int} (h1:1≤p) (h2:p≤R.log.length):Mk R (R.iZ p) :=
 ⟨rfl,rfl,rfl,h.vi,by simp[Rp.iZ,Rp.head],by have:=h.lg;simp only[Rp.iZ];omega,(h.le _ (Kz (by omega))).w,by have:=h.dc;have:=h.lg;simp[Rp.iZ];omega,by simp[Rp.iZ,Rp.head,pm0],by simp[Rp.iZ,Rp.head,pm0],fQ.nil _,fQ.nil _,⟨by simp[Rp.iZ,Rp.head,pm0],by simp[Rp.iZ,Rp.head,pm0]⟩⟩
theorem Lb (h:Ok R):Mk R { R.head 107 with place:=R.log.length } :=
 ⟨rfl,rfl,rfl,h.vi,by simp[Rp.head],by have:=h.lg;simp;omega,ru,by simp[Rp.head,pm0],by simp[Rp.head,pm0],by simp[Rp.head,pm0],fQ.nil _,fQ.nil _,⟨by simp[Rp.head,pm0],by simp[Rp.head,pm0]⟩⟩
theorem Gn (h:Ok R):Mk R { R.head 99 with commit:=R.decided } :=
 ⟨rfl,rfl,rfl,h.vi,by simp[Rp.head],by simp[Rp.head,pm0],ru,by have:=h.dc;have:=h.lg;simp;omega,by simp[Rp.head,pm0],by simp[Rp.head,pm0],fQ.nil _,fQ.nil _,⟨by simp[Rp.head,pm0],by simp[Rp.head,pm0]⟩⟩
theorem Gm (h:Ok R) {x:Int} (hx:0≤x∧x≤999):Mk R { R.dQ with kind:=97,life:=x } :=
 ⟨rfl,rfl,rfl,h.vi,by simp,by simp[Rp.dQ,Rp.head,pm0],ru,by have:=h.dc;have:=h.lg;simp[Rp.dQ];omega,by simp[Rp.dQ,Rp.head,pm0],hx,h.g,h.o,⟨h.lg,h.le⟩⟩
theorem ay.rdH (h:ay w b bl W F R V) (k:Int):lu w (R.head k) V.vl (Y O 0 0) (Y O 0 0) (Y O 0 0):=⟨h.lives.rd,fH _,fH _,oV _⟩
theorem ay.frH (h:ay w b bl W F R V):PmFr (b :: V.vt.ownBlock.toList) V.vl (Y O 0 0) (Y O 0 0) (Y O 0 0):=⟨h.frl,Fr.nil _ _ _,Fr.nil _ _ _,Fr.nil _ _ _⟩
theorem ay.rdS (h:ay w b bl W F R V):lu w R.dQ V.vl V.vg V.vo V.vL:=⟨h.lives.rd,h.grp,h.old,h.ents⟩
theorem ay.frT (h:ay w b bl W F R V):PmFr (b :: V.vt.ownBlock.toList) V.vl V.vg V.vo V.vL:=⟨h.frl,h.frS h.sg.fr,h.frS h.so.fr,h.frL⟩
theorem Snt.pre {w0 w1:World} {R1:Rp} (hb:Below w0.heap.size w0 w) (h:Snt w w1 b bl W F V R1):Snt w0 w1 b bl W F V R1:=by
 obtain⟨W',F',vt,h⟩:=h;exact⟨W',F',vt,h.pre hb⟩
theorem Bp (h:ay w b bl W F R V) (hR:Ok R) (qt k:Int) (hk:0≤k∧k<128) (ho:R.out.length≤900000) :
  Calls Tryz.prog 91 #[Zp (some ⟨b,0,O⟩),I J qt,I .u8 k] w fun e w'=>e=Zr (.tuple #[])∧Snt w w' b bl W F V (R.bare qt k):=by
 obtain⟨cl,hvl⟩:=h.g2
 have HH:=ah (jY h k);rw[hvl] at HH;have HSe:Hid (∀ w',Below w.heap.size w w'→Calls Tryz.prog 88 #[Zp (some ⟨b,0,O⟩),I J qt,.agg #[I .u8 k,I J R.id,Y (some ⟨bl,0,O⟩) R.lives.length cl,I J R.epoch,I J R.view,I J 0,I J 0,I J 0,Z ⟨#[]⟩,I J 0,I J 0,I J 0,Y O 0 0,Y O 0 0,Y O 0 0]] w' fun e w''=>e=Zr (.tuple #[])∧Snt w w'' b bl W F V (R.bare qt k)):=fun w' hb=>by
  have hh:=(h.below hb).rdH k;rw[hvl] at hh;refine (lU (h.below hb) qt (R.head k) _ _ _ _ ((AY hR hk).pw hR) hh (by omega)).mono ?_
  rintro e w'' ⟨rfl,hs⟩;exact⟨rfl,hs.pre hb⟩
 go_enter Tryz.func91,Tryz.ntmps91;go_wp2_with fail;refine HH.out.mono ?_;rintro e w1 ⟨rfl,hb1⟩;simp only[pmC,Rp.head,pm0];go_wp2_with fail;refine (HSe.out _ (hb1.alloc hb1.size _)).mono ?_;rintro e w2 ⟨rfl,hs⟩;have HS:=ah hs;clear hs;go_wp2_with fail;exact bodyPost_end (results_none rfl _ _ _) rfl ⟨rfl,HS.out⟩
theorem JZ (h:ay w b bl W F R V) (hR:Ok R) (qt:Int) (ho:R.out.length≤900000) :
  Calls Tryz.prog 132 #[Zp (some ⟨b,0,O⟩),I J qt] w fun e w'=>e=Zr (.tuple #[])∧Snt w w' b bl W F V (R.ack qt):=by
 obtain⟨cl,hvl⟩:=h.g2
 obtain⟨aL,cL,hvL⟩:=h.g9
 have HH:=ah (jY h 107);rw[hvl] at HH;have HSe:Hid (∀ w',Below w.heap.size w w'→Calls Tryz.prog 88 #[Zp (some ⟨b,0,O⟩),I J qt,.agg #[I .u8 107,I J R.id,Y (some ⟨bl,0,O⟩) R.lives.length cl,I J R.epoch,I J R.view,I J (R.log.length:Int),I J 0,I J 0,Z ⟨#[]⟩,I J 0,I J 0,I J 0,Y O 0 0,Y O 0 0,Y O 0 0]] w' fun e w''=>e=Zr (.tuple #[])∧Snt w w'' b bl W F V (R.ack qt)):=fun w' hb=>by
  have hh:lu w' { R.head 107 with place:=R.log.length } V.vl (Y O 0 0) (Y O 0 0) (Y O 0 0):=⟨(h.below hb).lives.rd,fH _,fH _,oV _⟩
  rw[hvl] at hh;refine (lU (h.below hb) qt { R.head 107 with place:=R.log.length } _ _ _ _ ((Lb hR).pw hR) hh (by omega)).mono ?_
  rintro e w'' ⟨rfl,hs⟩;exact⟨rfl,hs.pre hb⟩
 go_enter Tryz.func132,Tryz.ntmps132;go_wp2_with fail;refine HH.out.mono ?_;rintro e w1 ⟨rfl,hb1⟩;have c9:=(h.below hb1).c9;rw[hvL] at c9;have hlb:=(h.below hb1).lb;have m9:=fun o=>(((Below.refl w1.heap.size w1).alloc (Nat.le_refl _) o).cell (p:=⟨b,9,O⟩) hlb).trans c9
 simp only[pmC,Rp.head,pm0];go_wp2_with fail;refine (HSe.out _ (hb1.alloc hb1.size _)).mono ?_;rintro e w2 ⟨rfl,hs⟩;have HS:=ah hs;clear hs;go_wp2_with fail;exact bodyPost_end (results_none rfl _ _ _) rfl ⟨rfl,HS.out⟩
theorem qA (h:ay w b bl W F R V) :
  Calls Tryz.prog 87 #[Zp (some ⟨b,0,O⟩)] w fun e w'=>e=Zr (.agg (pmC R.dQ V.vl V.vg V.vo V.vL))∧Below w.heap.size w w':=by
 obtain⟨cl,hvl⟩:=h.g2
 obtain⟨aL,cL,hvL⟩:=h.g9
 obtain⟨ag,cg,hvg⟩:=h.g7
 obtain⟨ao,co,hvo⟩:=h.g8
 have hb0:Below w.heap.size w (w.alloc (.cells #[I .u8 0,I J 0,Y O 0 0,I J 0,I J 0,I J 0,I J 0,I J 0,Z ⟨#[]⟩,I J 0,I J 0,I J 0,Y O 0 0,Y O 0 0,Y O 0 0] 68)):=(Below.refl _ w).alloc (Nat.le_refl _) _
 have hz0:bB (w.alloc (.cells #[I .u8 0,I J 0,Y O 0 0,I J 0,I J 0,I J 0,I J 0,I J 0,Z ⟨#[]⟩,I J 0,I J 0,I J 0,Y O 0 0,Y O 0 0,Y O 0 0] 68)) w.heap.size (iy 0):=⟨rfl,heap_alloc_new w _⟩
 have hA:=h.below hb0;have HH:=ah (jY hA 115);rw[hvl] at HH;go_enter Tryz.func87,Tryz.ntmps87;go_wp2_with fail;generalize w.alloc (.cells #[I .u8 0,I J 0,Y O 0 0,I J 0,I J 0,I J 0,I J 0,I J 0,Z ⟨#[]⟩,I J 0,I J 0,I J 0,Y O 0 0,Y O 0 0,Y O 0 0] 68)=wA at *;refine HH.out.mono ?_;rintro e w1 ⟨rfl,hb1⟩;have h1:=hA.below hb1;have hz1:=hz0.kp (S:=[]) (Kp.of_below hb1) (by simp)
 have c7:=h1.c7;have c8:=h1.c8;have c9:=h1.c9;have c10:=h1.c10;rw[hvg] at c7;rw[hvo] at c8;rw[hvL] at c9;have hlb:=h1.lb;have hal:=fun o=>(Below.refl w1.heap.size w1).alloc (Nat.le_refl _) o
 have m7:=fun o=>((hal o).cell (p:=⟨b,7,O⟩) hlb).trans c7
 have m8:=fun o=>((hal o).cell (p:=⟨b,8,O⟩) hlb).trans c8
 have m9:=fun o=>((hal o).cell (p:=⟨b,9,O⟩) hlb).trans c9
 have m10:=fun o=>((hal o).cell (p:=⟨b,10,O⟩) hlb).trans c10
 have hb01:Below w.heap.size w w1:=hb0.trans (hb1.mono hb0.size)
 simp only[pmC,Rp.head,pm0];have hbF:Below w1.heap.size w1 (w1.alloc (.cells #[I .u8 115,I J R.id,Y (some ⟨bl,0,O⟩) R.lives.length cl,I J R.epoch,I J R.view,I J 0,I J 0,I J 0,Z ⟨#[]⟩,I J (R.decided:Int),I J 0,I J 0,Y ag R.grp.length cg,Y ao R.old.length co,Y aL R.log.length cL] 68)):=hal _
 have hz2:=hz1.kp (S:=[]) (Kp.of_below hbF) (by simp)
 have hz3:bB (w1.alloc (.cells #[I .u8 115,I J R.id,Y (some ⟨bl,0,O⟩) R.lives.length cl,I J R.epoch,I J R.view,I J 0,I J 0,I J 0,Z ⟨#[]⟩,I J (R.decided:Int),I J 0,I J 0,Y ag R.grp.length cg,Y ao R.old.length co,Y aL R.log.length cL] 68)) w.heap.size #[I .u8 0,I J 0,Y O 0 0,I J 0,I J 0,I J 0,I J 0,I J 0,Z ⟨#[]⟩,I J 0,I J 0,I J 0,Y O 0 0,Y O 0 0,Y O 0 0]:=hz2
 have hpm:=E5 hz2 (I .u8 115) (I J R.id) (Y (some ⟨bl,0,O⟩) R.lives.length cl) (I J R.epoch) (I J R.view) (I J 0) (I J 0) (I J 0) (Z ⟨#[]⟩) (I J (R.decided:Int)) (I J 0) (I J 0) (Y ag R.grp.length cg) (Y ao R.old.length co) (Y aL R.log.length cL);have HL:=ah (pI hpm);clear hpm;have HB:=ah (eP (Nat.le_refl w.heap.size) [I .u8 115,I J R.id,Y (some ⟨bl,0,O⟩) R.lives.length cl,I J R.epoch,I J R.view,I J 0,I J 0,I J 0,Z ⟨#[]⟩,I J (R.decided:Int),I J 0,I J 0,Y ag R.grp.length cg,Y ao R.old.length co,Y aL R.log.length cL] (w1.alloc (.cells #[I .u8 115,I J R.id,Y (some ⟨bl,0,O⟩) R.lives.length cl,I J R.epoch,I J R.view,I J 0,I J 0,I J 0,Z ⟨#[]⟩,I J (R.decided:Int),I J 0,I J 0,Y ag R.grp.length cg,Y ao R.old.length co,Y aL R.log.length cL] 68)) 0 (hb01.trans (hbF.mono hb01.size)));obtain⟨y0,y1,y2,y3,y4,y5,y6,y7,y8,y9,y10,y11,y12,y13,y14,yf⟩:=hz3.all
 have HR:Hid (Value.agg (pmC R.dQ V.vl V.vg V.vo V.vL)=.agg #[I .u8 115,I J R.id,Y (some ⟨bl,0,O⟩) R.lives.length cl,I J R.epoch,I J R.view,I J 0,I J 0,I J 0,Z ⟨#[]⟩,I J (R.decided:Int),I J 0,I J 0,Y ag R.grp.length cg,Y ao R.old.length co,Y aL R.log.length cL]):=by unfold Hid;rw[hvl,hvg,hvo,hvL];rfl
 clear hz3 hz2 hbF hal hz1 hz0 h1 hA hb0 hb1 hb01;go_wp2_with fail;exact bodyPost_ret (aZ rfl _ _ _ rfl HL.out) rfl ⟨by rw[HR.out],HB.out⟩
end
section
variable {w:World} {b bl:Nat} {W F:List Nat} {R:Rp} {V:Rv}
theorem ay.Ik {w1:World} {v:Value} {l:List En} (h:ay w b bl W F R V) (hb:Below w.heap.size w w1) (hown:w1.ownsRow w.heap.size 66 3 v l.length (aA l)) :
  ∃ W' F',ay (w1.setCell ⟨b,9,O⟩ v) b bl W' F' { R with log:=l } { V with vL:=v }∧Mv w W F W' F'∧Kp W w (w1.setCell ⟨b,9,O⟩ v):=by
 have h1:=h.below hb;have ho0:w1.ownsRow 0 66 3 v l.length (aA l):=dO hown (Nat.zero_le _)
 rcases hown.2 with ⟨rfl,hl⟩|⟨g,cap,cur,rfl,q1,q2,q3⟩
 ·exact⟨W,F,h1.re (h1.k1 _ _) (h1.sv.nT 9 _ (by simp[jD])) h1.ak h1.st rfl rfl ho0 (In.nil _ _ _) h1.out h1.wt h1.grp h1.sg h1.old h1.so h1.votes h1.answers,Mv.refl _ _ _,(Kp.of_below hb).trans' (h1.nM _ _)⟩
 ·have r:=h.II (l:=l) (g:=g) (cap:=cap) (Kp.of_below hb) (hb.block b h.lb) (hb.block bl h.lives.lt) h1.out ho0 (.inr q1);exact⟨_,_,r.1,r.2.1,r.2.2⟩
theorem J7:svC sv0=[I .u8 0,I .u8 0,I .u8 0,I .u8 0,I .u8 0,I .u8 0,I .u8 0,I .u8 0,I .u8 0,I .u8 0,I .u8 0,I .u8 0,I .u8 0,I .u8 0,I .u8 0,I .u8 0,I .u8 0,I .u8 0,I .u8 0,I .u8 0,I .u8 0,I .u8 0,I .u8 0,I .u8 0,I .u8 0,I .u8 0,I J 0,Z ⟨#[]⟩,I J 0,Z ⟨#[]⟩,I J 0,Z ⟨#[]⟩,I J 0,Z ⟨#[]⟩,I J 0,Z ⟨#[]⟩,I J 0,Z ⟨#[]⟩,I J 0,Z ⟨#[]⟩,I J 0,Z ⟨#[]⟩,I J 0,Z ⟨#[]⟩]:=rfl
theorem jP (b:Nat):∀ (l:List Value) (w:World) (o:Nat),w.setCells b o l=cZ w b o l
 | [],_,_=>rfl
 | v :: l,w,o=>by show (w.setCell ⟨b,o,O⟩ v).setCells b (o+1) l=cZ (w.setCell ⟨b,o,O⟩ v) b (o+1) l;exact jP b l _ _
theorem ay.there (h:ay w b bl W F R V) (o n:Nat) (hn:o+n≤72):w.there b o n:=fun j hj=>by
 refine⟨?_,h.free _⟩
 have h1:=h.sv.v26;have h2:=h.sv.s9;have h3:=h.ak;have h4:=h.st;have hl:(svC R.sv).length=44:=by rw[oz];omega
 rw[h.cell,List.getElem?_eq_getElem (by simp[jD,fI,hl,h3,h4];omega)]
 rfl
theorem ay.Jg (h:ay w b bl W F R V):ay (w.setCells b 11 (#[I .u8 0,I .u8 0,I .u8 0,I .u8 0,I .u8 0,I .u8 0,I .u8 0,I .u8 0,I .u8 0,I .u8 0,I .u8 0,I .u8 0,I .u8 0,I .u8 0,I .u8 0,I .u8 0,I .u8 0,I .u8 0,I .u8 0,I .u8 0,I .u8 0,I .u8 0,I .u8 0,I .u8 0,I .u8 0,I .u8 0,I J 0,Z ⟨#[]⟩,I J 0,Z ⟨#[]⟩,I J 0,Z ⟨#[]⟩,I J 0,Z ⟨#[]⟩,I J 0,Z ⟨#[]⟩,I J 0,Z ⟨#[]⟩,I J 0,Z ⟨#[]⟩,I J 0,Z ⟨#[]⟩,I J 0,Z ⟨#[]⟩]:Array Value).toList) b bl W F { R with sv:=sv0 } V:=by
 rw[jP,show (#[I .u8 0,I .u8 0,I .u8 0,I .u8 0,I .u8 0,I .u8 0,I .u8 0,I .u8 0,I .u8 0,I .u8 0,I .u8 0,I .u8 0,I .u8 0,I .u8 0,I .u8 0,I .u8 0,I .u8 0,I .u8 0,I .u8 0,I .u8 0,I .u8 0,I .u8 0,I .u8 0,I .u8 0,I .u8 0,I .u8 0,I J 0,Z ⟨#[]⟩,I J 0,Z ⟨#[]⟩,I J 0,Z ⟨#[]⟩,I J 0,Z ⟨#[]⟩,I J 0,Z ⟨#[]⟩,I J 0,Z ⟨#[]⟩,I J 0,Z ⟨#[]⟩,I J 0,Z ⟨#[]⟩,I J 0,Z ⟨#[]⟩]:Array Value).toList=svC sv0 from rfl];exact h.Lp
theorem mq {w w':World} (l:List Value) (o:Nat) (h:Kp [b] w w'):Kp [b] w (w'.setCells b o l):=by rw[jP];exact nD l o w' w h
theorem J8 (S:Sv):∀ v∈svC S,v.oneCell'=true:=by
 intro v hv;unfold svC vQ at hv;rcases List.mem_append.1 hv with hv|hv
 ·obtain⟨x,_,rfl⟩:=List.mem_map.1 hv;rfl
 ·obtain⟨x,_,hv⟩:=List.mem_flatMap.1 hv
  simp at hv;rcases hv with rfl|rfl <;> rfl
theorem Fg:(#[I .u8 0,I .u8 0,I .u8 0,I .u8 0,I .u8 0,I .u8 0,I .u8 0,I .u8 0,I .u8 0,I .u8 0,I .u8 0,I .u8 0,I .u8 0,I .u8 0,I .u8 0,I .u8 0,I .u8 0,I .u8 0,I .u8 0,I .u8 0,I .u8 0,I .u8 0,I .u8 0,I .u8 0,I .u8 0,I .u8 0,I J 0,Z ⟨#[]⟩,I J 0,Z ⟨#[]⟩,I J 0,Z ⟨#[]⟩,I J 0,Z ⟨#[]⟩,I J 0,Z ⟨#[]⟩,I J 0,Z ⟨#[]⟩,I J 0,Z ⟨#[]⟩,I J 0,Z ⟨#[]⟩,I J 0,Z ⟨#[]⟩]:Array Value).all (·.oneCell')=true:=all_oneCell_toArray (cs:=[I .u8 0,I .u8 0,I .u8 0,I .u8 0,I .u8 0,I .u8 0,I .u8 0,I .u8 0,I .u8 0,I .u8 0,I .u8 0,I .u8 0,I .u8 0,I .u8 0,I .u8 0,I .u8 0,I .u8 0,I .u8 0,I .u8 0,I .u8 0,I .u8 0,I .u8 0,I .u8 0,I .u8 0,I .u8 0,I .u8 0,I J 0,Z ⟨#[]⟩,I J 0,Z ⟨#[]⟩,I J 0,Z ⟨#[]⟩,I J 0,Z ⟨#[]⟩,I J 0,Z ⟨#[]⟩,I J 0,Z ⟨#[]⟩,I J 0,Z ⟨#[]⟩,I J 0,Z ⟨#[]⟩,I J 0,Z ⟨#[]⟩]) (J7▸J8 sv0)
theorem Tryz.sizeSvc:(Tryz.prog.info? 58).map (·.size)=some 44:=by kernel_rfl
theorem uw (h:ay w b bl W F R V) (v:Int) :
  Calls Tryz.prog 139 #[Zp (some ⟨b,0,O⟩),I J v] w fun e w'=>e=Zr (.tuple #[])∧ay w' b bl W F (R.begin_ v) { V with vv:=Y O 0 0 }∧Kp [b] w w':=by
 have f3:=h.free 3;have f5:=h.free 5;have f6:=h.free 6;have f55:=h.free 55;have f56:=h.free 56;have f57:=h.free 57;have f58:=h.free 58;have f59:=h.free 59;have f60:=h.free 60;have f61:=h.free 61;have f62:=h.free 62;have c3:=h.c3;have c5:=h.c5;have c6:=h.c6;have c62:=h.c62;have a0:w.cell? ⟨b,55,O⟩=some _:=h.qE 0 (by omega)
 have a1:w.cell? ⟨b,56,O⟩=some _:=h.qE 1 (by omega)
 have a2:w.cell? ⟨b,57,O⟩=some _:=h.qE 2 (by omega)
 have a3:w.cell? ⟨b,58,O⟩=some _:=h.qE 3 (by omega)
 have a4:w.cell? ⟨b,59,O⟩=some _:=h.qE 4 (by omega)
 have a5:w.cell? ⟨b,60,O⟩=some _:=h.qE 5 (by omega)
 have a6:w.cell? ⟨b,61,O⟩=some _:=h.qE 6 (by omega)
 have HS:=ah (((((h.vZ v).uG v).iJ 1).yI).nI (Y O 0 0) [] (Pms.nil _ _ _));have HK:Hid (Kp [b] w _):=(nD [I J 0,I J 0,I J 0,I J 0,I J 0,I J 0,I J 0] 55 _ w ((((Kp.refl [b] w).set b 5 (I J v) (.inl (by simp))).set b 6 (I J v) (.inl (by simp))).set b 3 (I J 1) (.inl (by simp)))).set b 62 (Y O 0 0) (.inl (by simp))
 go_enter Tryz.func139,Tryz.ntmps139;go_wp2_with fail;exact bodyPost_end (results_none rfl _ _ _) rfl ⟨rfl,HS.out,HK.out⟩
theorem EY (R:Rp) (l:List En):({ ({ R with log:=l }:Rp) with decided:=min R.decided l.length,sv:=svF (l.take (min R.decided l.length)) }:Rp)=R.over l:=rfl
theorem Jl (l:List En) (k:Nat) (hk:k<l.length):svF (l.take (k+1))=nJ (svF (l.take k)) l[k]:=by
 unfold svF;rw[List.take_succ_eq_append_getElem hk,List.foldl_append];rfl
theorem nY (h:ay w b bl W F R V) (v:Value) (l:List En) (hv:gu w v l) (hl:qX R.n l) :
  Calls Tryz.prog 131 #[Zp (some ⟨b,0,O⟩),v] w fun e w'=>e=Zr (.tuple #[])∧Rst w w' b bl W F (R.over l):=by
 have hl10:=hl.1;obtain⟨i0,hi,hz0,hz1,hz2⟩:=info_parts Tryz.infoEnt
 have HO:Hid (∀ u∈aA l,u.oneCell'=true):=fun u hu=>by
  simp only[aA,List.mem_flatMap] at hu;obtain⟨e,_,hu⟩:=hu
  simp at hu;rcases hu with rfl|rfl|rfl <;> rfl
 have HC:Hid (∀ k (hk:k<l.length) (S:Sv) (pre post:List Value) (w:World),pre.length=11→gH w b pre post 63 S→Calls Tryz.prog 157 #[Zp (some ⟨b,11,O⟩),.agg #[I J l[k].1,I J l[k].2.1,Z l[k].2.2]] w fun e w'=>(∃ x,e=Zr x)∧gH w' b pre post 63 (nJ S l[k])∧Kp [b] w w'):=fun k hk S pre post w hp hs=>by
  have hE:=hl.2 l[k] (List.getElem_mem _);have r:=tC hs l[k].1 l[k].2.1 l[k].2.2 (by have:=hE.2.2.2.2.2;unfold maxLen;omega) hE.small hE.1 hE.2.1
  rw[hp] at r;exact r.mono (fun e w' q=>⟨⟨_,q.1⟩,q.2.1,q.2.2⟩)
 have HSv:Hid (∀ k (hk:k<l.length),svF (l.take (k+1))=nJ (svF (l.take k)) l[k]):=Jl l
 obtain⟨a,cap,rfl,hn1,hm⟩:=hv.shape
 go_enter Tryz.func131,Tryz.ntmps131;go_wp2_with (at_builtin;refine Hz rfl _ _ 47 rfl w.heap.size 66 i0 (.agg #[I J 0,I J 0,Z Ze]) 3 32 Tryz.underlying47 hi hz0 hz1 hz2 rfl (by decide) w _ _ _ (by rfl) (World.ownsRow_nil _ _ _ _) _ l.length (aA l) (by rfl) hv HO.out (by omega) (by omega) (by decide) (Nat.le_refl _) ?_)
 intro v' w1 hown hg1 hb1;have hown':w1.ownsRow w.heap.size 66 3 v' l.length (aA l):=by simpa using hown
 obtain⟨W1,F1,h1,m1,k1⟩:=h.Ik hb1 hown'
 clear hown hg1 hown';obtain⟨a',cap',hv'⟩:=h1.g9
 simp only at hv'
 subst hv';have f9:=(h.below hb1).free 9;have e9:=(h.below hb1).c9;have c9:=h1.c9;have c10:=h1.c10;have f10:=h1.free 10;simp only at c9 c10
 have hwb:=h.wb;by_cases q:l.length<R.decided
 ·have q':(l.length:Int)<(R.decided:Int):=by omega
  have hmin:min R.decided l.length=l.length:=by omega
  have HS:=ah (fun n=>((h1.drewN n).rV l.length).Jg)
  have HK:Hid (∀ (l':List Value) n,Kp W w ((((w1.setCell ⟨b,9,O⟩ (Y a' l.length cap')).drewN n).setCell ⟨b,10,O⟩ (I J (l.length:Int))).setCells b 11 l')):=fun l' n=>k1.trans' (Kp.wid (mq l' 11 ((Kp.of_below (S:=[b]) (below_drewN (Below.refl _ (w1.setCell ⟨b,9,O⟩ (Y a' l.length cap'))) n)).set b 10 (I J (l.length:Int)) (.inl (by simp)))) (by intro x hx;simp at hx;subst hx;exact hwb))
  have HT:=ah (fun n=>((h1.drewN n).rV l.length).there 11 44 (by omega))
  go_wp2_with fail;generalize w1.setCell ⟨b,9,O⟩ (Y a' l.length cap')=w2 at *;go_quiet (fail);rename_i nq;go_wp2_with (refine wpList_store_mid rfl 58 (.tmp 31) (.tmp 29) (by rfl) b 11 #[I .u8 0,I .u8 0,I .u8 0,I .u8 0,I .u8 0,I .u8 0,I .u8 0,I .u8 0,I .u8 0,I .u8 0,I .u8 0,I .u8 0,I .u8 0,I .u8 0,I .u8 0,I .u8 0,I .u8 0,I .u8 0,I .u8 0,I .u8 0,I .u8 0,I .u8 0,I .u8 0,I .u8 0,I .u8 0,I .u8 0,I J 0,Z ⟨#[]⟩,I J 0,Z ⟨#[]⟩,I J 0,Z ⟨#[]⟩,I J 0,Z ⟨#[]⟩,I J 0,Z ⟨#[]⟩,I J 0,Z ⟨#[]⟩,I J 0,Z ⟨#[]⟩,I J 0,Z ⟨#[]⟩,I J 0,Z ⟨#[]⟩] (by rfl) (by rfl) (HT.out nq) Tryz.sizeSvc Fg ?_)
  go_wp2_with fail;go_loopw [4] (fun i wr=>∃ k:Nat,k≤l.length∧i=I J k∧ay wr b bl W1 F1 { R with log:=l,decided:=l.length,sv:=svF (l.take k) } { V with vL:=Y a' l.length cap' }∧Kp W w wr) (fun i _=>l.length-(intOf i).toNat)
  case atStart=>exact⟨0,Nat.zero_le _,rfl,HS.out nq,HK.out _ nq⟩
  case round =>
   obtain⟨k,hk,rfl,hr,hkr⟩:=hrel
   have d10:=hr.c10;have d9:=hr.c9;simp only at d9 d10
   by_cases hlt:k<l.length
   ·have hkl:k<l.length:=by omega
    have hE:=hr.ents;simp only at hE
    obtain⟨be,oe,hae,hbe,e0,e1,e2⟩:=hE.get k hkl
    subst hae;have j1:(0:Int)≤(k:Int):=by omega
    have j2:(k:Int)<(l.length:Int):=by omega
    have j3:(k:Int)<(l.length:Int):=by omega
    have HCk:=ah (HC.out k hkl _ _ _ wr.drew rfl (hr.below (Below.refl _ _).drew).sv);go_wp2_with fail;go_region_with (go_at_call 157;refine HCk.out.mono ?_;rintro e w3 ⟨⟨x,rfl⟩,hs3,k3⟩)
    all_goals
     have hr3:=(hr.below (Below.refl _ _).drew).Jf hs3 k3;have hk3:Kp W w w3:=(hkr.aF (Below.refl _ _).drew).trans' (k3.wid (by intro x hx;simp at hx;subst hx;exact hwb))
     have HR3:=ah hr3;clear hr3 hs3 k3;go_wp2_with fail;go_roundw
     case rel=>exact⟨k+1,by omega,by go_num,by rw[HSv.out k hkl];exact HR3.out,hk3⟩
     case measure=>simp[intOf];omega
   ·obtain rfl:k=l.length:=by omega
    have HF:=ah hr;go_wp2_with fail;exact bodyPost_end (results_none rfl _ _ _) rfl ⟨rfl,W1,F1,_,by rw[← EY,hmin];exact HF.out,hkr,m1⟩
 ·have q':¬(l.length:Int)<(R.decided:Int):=by omega
  have hmin:min R.decided l.length=R.decided:=by omega
  have HS:=ah (fun n=>(h1.drewN n).Jg)
  have HK:Hid (∀ (l':List Value) n,Kp W w (((w1.setCell ⟨b,9,O⟩ (Y a' l.length cap')).drewN n).setCells b 11 l')):=fun l' n=>k1.trans' (Kp.wid (mq l' 11 (Kp.of_below (S:=[b]) (below_drewN (Below.refl _ (w1.setCell ⟨b,9,O⟩ (Y a' l.length cap'))) n))) (by intro x hx;simp at hx;subst hx;exact hwb))
  have HT:=ah (fun n=>(h1.drewN n).there 11 44 (by omega))
  go_wp2_with fail;generalize w1.setCell ⟨b,9,O⟩ (Y a' l.length cap')=w2 at *;go_quiet (fail);rename_i nq;go_wp2_with (refine wpList_store_mid rfl 58 (.tmp 31) (.tmp 29) (by rfl) b 11 #[I .u8 0,I .u8 0,I .u8 0,I .u8 0,I .u8 0,I .u8 0,I .u8 0,I .u8 0,I .u8 0,I .u8 0,I .u8 0,I .u8 0,I .u8 0,I .u8 0,I .u8 0,I .u8 0,I .u8 0,I .u8 0,I .u8 0,I .u8 0,I .u8 0,I .u8 0,I .u8 0,I .u8 0,I .u8 0,I .u8 0,I J 0,Z ⟨#[]⟩,I J 0,Z ⟨#[]⟩,I J 0,Z ⟨#[]⟩,I J 0,Z ⟨#[]⟩,I J 0,Z ⟨#[]⟩,I J 0,Z ⟨#[]⟩,I J 0,Z ⟨#[]⟩,I J 0,Z ⟨#[]⟩,I J 0,Z ⟨#[]⟩] (by rfl) (by rfl) (HT.out nq) Tryz.sizeSvc Fg ?_)
  go_wp2_with fail;go_loopw [4] (fun i wr=>∃ k:Nat,k≤R.decided∧i=I J k∧ay wr b bl W1 F1 { R with log:=l,decided:=R.decided,sv:=svF (l.take k) } { V with vL:=Y a' l.length cap' }∧Kp W w wr) (fun i _=>R.decided-(intOf i).toNat)
  case atStart=>exact⟨0,Nat.zero_le _,rfl,HS.out nq,HK.out _ nq⟩
  case round =>
   obtain⟨k,hk,rfl,hr,hkr⟩:=hrel
   have d10:=hr.c10;have d9:=hr.c9;simp only at d9 d10
   by_cases hlt:k<R.decided
   ·have hkl:k<l.length:=by omega
    have hE:=hr.ents;simp only at hE
    obtain⟨be,oe,hae,hbe,e0,e1,e2⟩:=hE.get k hkl
    subst hae;have j1:(0:Int)≤(k:Int):=by omega
    have j2:(k:Int)<(l.length:Int):=by omega
    have j3:(k:Int)<(R.decided:Int):=by omega
    have HCk:=ah (HC.out k hkl _ _ _ wr.drew rfl (hr.below (Below.refl _ _).drew).sv);go_wp2_with fail;go_region_with (go_at_call 157;refine HCk.out.mono ?_;rintro e w3 ⟨⟨x,rfl⟩,hs3,k3⟩)
    all_goals
     have hr3:=(hr.below (Below.refl _ _).drew).Jf hs3 k3;have hk3:Kp W w w3:=(hkr.aF (Below.refl _ _).drew).trans' (k3.wid (by intro x hx;simp at hx;subst hx;exact hwb))
     have HR3:=ah hr3;clear hr3 hs3 k3;go_wp2_with fail;go_roundw
     case rel=>exact⟨k+1,by omega,by go_num,by rw[HSv.out k hkl];exact HR3.out,hk3⟩
     case measure=>simp[intOf];omega
   ·obtain rfl:k=R.decided:=by omega
    have HF:=ah hr;go_wp2_with fail;exact bodyPost_end (results_none rfl _ _ _) rfl ⟨rfl,W1,F1,_,by rw[← EY,hmin];exact HF.out,hkr,m1⟩
end
section
variable {w:World} {b bl:Nat} {W F:List Nat} {R:Rp} {V:Rv}
theorem dF.cells {P:Pm} {vl vg vo vL:Value} (h:dF w W F P vl vg vo vL):∃ al cl ag cg ao co aL cL,vl=Y al P.lives.length cl∧vg=Y ag P.grp.length cg∧vo=Y ao P.old.length co∧vL=Y aL P.log.length cL:=by
 obtain⟨al,cl,h1,_⟩:=h.lives.shape
 obtain⟨ag,cg,h2,_⟩:=h.grp.shape
 obtain⟨ao,co,h3,_⟩:=h.old.shape
 obtain⟨aL,cL,h4,_⟩:=h.log.shape
 exact⟨al,cl,ag,cg,ao,co,aL,cL,h1,h2,h3,h4⟩
theorem GN (h:ay w b bl W F R V) (P:Pm) (vl vg vo vL:Value) (hP:dF w W F P vl vg vo vL) :
  Calls Tryz.prog 130 #[Zp (some ⟨b,0,O⟩),.agg (pmC P vl vg vo vL)] w fun e w'=>e=Zr (.tuple #[])∧ay w' b bl W F (R.enter P) { V with vg:=vg,vo:=vo,vv:=Y O 0 0 }∧Kp [b] w w':=by
 obtain⟨al,cl,ag,cg,ao,co,aL,cL,rfl,rfl,rfl,rfl⟩:=hP.cells
 have hlb:=h.lb;have HB:Hid (∀ (w:World) (R:Rp) (V:Rv),ay w b bl W F R V→Calls Tryz.prog 139 #[Zp (some ⟨b,0,O⟩),I J P.view] w fun e w'=>e=Zr (.tuple #[])∧ay w' b bl W F (R.begin_ P.view) { V with vv:=Y O 0 0 }∧Kp [b] w w'):=fun w R V h=>uw h P.view
 have HE:Hid (({ R with epoch:=P.epoch,grp:=P.grp,old:=P.old }:Rp).begin_ P.view=R.enter P):=rfl
 have c4:=h.c4;have c7:=h.c7;have c8:=h.c8;have f4:=h.free 4;have f7:=h.free 7;have f8:=h.free 8;have h3:=((h.yJ P.epoch).Jc _ P.grp (hP.grp.kp (h.nM 4 (I J P.epoch)) hP.sg.fr) hP.sg);have h4':=h3.Jd _ P.old ((hP.old.kp (h.nM 4 (I J P.epoch)) hP.so.fr).kp ((h.yJ P.epoch).nM 7 _) hP.so.fr) hP.so
 have hbS:=(Below.refl _ (((w.setCell ⟨b,4,O⟩ (I J P.epoch)).setCell ⟨b,7,O⟩ (Y ag P.grp.length cg)).setCell ⟨b,8,O⟩ (Y ao P.old.length co))).alloc (Nat.le_refl _) (.cells (pqC P al cl ag cg ao co aL cL) 68);have h4:=h4'.below hbS;have k4:Kp [b] w ((((w.setCell ⟨b,4,O⟩ (I J P.epoch)).setCell ⟨b,7,O⟩ (Y ag P.grp.length cg)).setCell ⟨b,8,O⟩ (Y ao P.old.length co)).alloc (.cells (pqC P al cl ag cg ao co aL cL) 68)):=((((Kp.refl [b] w).set b 4 _ (.inl (by simp))).set b 7 _ (.inl (by simp))).set b 8 _ (.inl (by simp))).alloc _
 have HB1:=ah (HB.out _ _ _ h4);have HK4:=ah k4;clear h3 h4 h4' k4 h hP hbS;simp only[pmC];go_enter Tryz.func130,Tryz.ntmps130;go_wp2_with fail;refine HB1.out.mono ?_;rintro e w2 ⟨rfl,h5,k5⟩;have H5:=ah h5;have HK5:=ah (HK4.out.trans' k5);clear h5 k5;go_wp2_with fail;exact bodyPost_end (results_none rfl _ _ _) rfl ⟨rfl,by rw[← HE.out];exact H5.out,HK5.out⟩
theorem iH (h:ay w b bl W F R V) :
  Calls Tryz.prog 24 #[Zp (some ⟨b,0,O⟩)] w fun e w'=>e=Zr V.vt∧lq w' 0 V.vt R.out∧Kp [b] w w'∧∃ W' F',ay w' b bl W' F' { R with out:=[] } { V with vt:=Y O 0 0 }∧(∀ x∈W',x∈W)∧(∀ x∈F',x∈F)∧Fr F' V.vt:=by
 have c71:=h.c71;obtain⟨a,cap,hvt⟩:=h.g71
 have f71:=h.free 71;have k1:Kp [b] w (w.setCell ⟨b,71,O⟩ (Y O 0 0)):=(Kp.refl _ _).set b 71 _ (.inl (by simp))
 have HO:=ah (dV h.out k1 (Fr.gZ h.out h.block (by decide)))
 have HN:Hid (∃ W' F',ay (w.setCell ⟨b,71,O⟩ (Y O 0 0)) b bl W' F' { R with out:=[] } { V with vt:=Y O 0 0 }∧(∀ x∈W',x∈W)∧(∀ x∈F',x∈F)∧Fr F' V.vt):=by
  obtain⟨c,z,q⟩:=jV h.lives
  refine⟨W.filter (fun x=>decide (some x≠V.vt.ownBlock)),F.filter (fun x=>decide (some x≠V.vt.ownBlock)),?_,fun x hx=>(List.mem_filter.1 hx).1,fun x hx=>(List.mem_filter.1 hx).1,fun k hk hc=>by simpa [hk] using (List.mem_filter.1 hc).2⟩
  have hs:∀ x∈W.filter (fun x=>decide (some x≠V.vt.ownBlock)),x∈W:=fun x hx=>(List.mem_filter.1 hx).1
  have sl:∀ {v:Value},Sl W F v→Sl (W.filter (fun x=>decide (some x≠V.vt.ownBlock))) (F.filter (fun x=>decide (some x≠V.vt.ownBlock))) v:=fun s=>⟨s.fr.sub hs,fun k hk=>List.mem_filter.2 ⟨s.inn k hk,by simpa using fun hc:some k=V.vt.ownBlock=>s.fr k hk (h.wt k hc.symm)⟩⟩
  have pa:∀ {P:Pm} {cs:List Value},gF w W F P cs→gF w (W.filter (fun x=>decide (some x≠V.vt.ownBlock))) (F.filter (fun x=>decide (some x≠V.vt.ownBlock))) P cs:=by
   rintro P cs ⟨vl,vg,vo,vL,rfl,p⟩;exact⟨vl,vg,vo,vL,rfl,p.lives,p.grp,p.old,p.log,sl p.sl,sl p.sg,sl p.so,sl p.sL⟩
  have pms:∀ {v:Value} {l:List Pm},Pms w W F v l→Pms w (W.filter (fun x=>decide (some x≠V.vt.ownBlock))) (F.filter (fun x=>decide (some x≠V.vt.ownBlock))) v l:=by
   rintro v l ⟨s,xs,r,c⟩;exact⟨sl s,xs,r,c.mono (fun _ _=>pa)⟩
  have kW:Kp (W.filter (fun x=>decide (some x≠V.vt.ownBlock))) w (w.setCell ⟨b,71,O⟩ (Y O 0 0)):=k1.wid (fun x hx=>by
   simp at hx;subst hx;exact List.mem_filter.2 ⟨h.wb,by simpa using lQ h.out h.block (by decide)⟩)
  refine⟨by have q:=h.sv.qo 16 (Y O 0 0);rw[uT h.ak h.st] at q;exact q,h.ak,h.st,h.lives.kp k1 (by simp;exact fun hc=>h.d1 hc.symm),dV h.log k1 (Fr.gZ h.log h.block (by decide)),lq.nil _ _,
   h.grp.kp kW (sl h.sg).fr,h.old.kp kW (sl h.so).fr,(pms h.votes).kp kW,(pms h.answers).kp kW,sl h.sg,sl h.so,List.mem_filter.2 ⟨h.wb,by simpa using lQ h.out h.block (by decide)⟩,List.mem_filter.2 ⟨h.wl,by simpa using lQ h.out q (by decide)⟩,?_,In.nil _ _ _,fun x hx=>List.mem_filter.2 ⟨h.wf x (hs x hx),(List.mem_filter.1 hx).2⟩,fun x hx=>Nat.lt_of_lt_of_le (h.fl x (List.mem_filter.1 hx).1) k1.size,h.tab.kp k1 (by simp;exact fun hc=>h.t0 (h.wf 0 (hc▸h.wb))),fun hc=>h.t0 (List.mem_filter.1 hc).1⟩
  intro k hk;exact List.mem_filter.2 ⟨h.wL k hk,by simpa using fun hc:some k=V.vt.ownBlock=>Fr.sO h.log h.out (by decide) k hk (by rw[← hc];simp)⟩
 have HV:Hid (Zr V.vt=Zr (Y a R.out.length cap)):=by unfold Hid;rw[hvt]
 rw[hvt] at c71;go_enter Tryz.func24,Tryz.ntmps24;go_wp2_with fail;go_ret;exact⟨HV.out.symm,HO.out,k1,HN.out⟩
end
section
variable {w w0:World} {b bl:Nat} {W F:List Nat} {R:Rp} {V:Rv} {P:Pm} {vl vg vo vL:Value}
theorem kU (h:ay w b bl W F R V):Calls Tryz.prog 30 #[Zp (some ⟨b,0,O⟩)] w fun e w'=>e=Zr (.tuple #[I J R.epoch,I J R.view,I J R.status,I J (R.decided:Int)])∧∃ n,w'=w.drewN n:=by
 have c3:=h.c3;have c4:=h.c4;have c5:=h.c5;have c10:=h.c10;go_enter Tryz.func30,Tryz.ntmps30;go_wp2_with fail;go_quiet (fail);rename_i nq;go_wp2_with fail;exact bodyPost_ret (v:=.tuple #[I J R.epoch,I J R.view,I J R.status,I J (R.decided:Int)]) (by simp[results,Tryz.results30,go_sem]) rfl ⟨rfl,nq,rfl⟩
theorem Ab (h:ay w b bl W F R V) (k:Int) (hk0:0≤k) (hk1:k≤255):Calls Tryz.prog 11 #[Zp (some ⟨b,0,O⟩),I .u8 k] w fun e w'=>e=Zr (Z (tH R.sv k))∧w'=w:=by
 have HC:Hid (Calls Tryz.prog 25 #[Zp (some ⟨b,11,O⟩),I .u8 k] w fun e w'=>e=Zr (Z (tH R.sv k))∧w'=w):=GZ h.sv k hk0 hk1
 go_enter Tryz.func11,Tryz.ntmps11;go_wp2_with fail;refine HC.out.mono ?_;rintro e w1 ⟨rfl,hw⟩;subst hw;go_wp2_with fail;go_ret;exact⟨rfl,rfl⟩
theorem CU (h:ay w b bl W F R V) (c:Int):Calls Tryz.prog 147 #[Zp (some ⟨b,0,O⟩),I J c] w fun e w'=>e=Zr (.tuple #[I J (jZ R.sv c).1,Z (jZ R.sv c).2])∧Below w.heap.size w w':=by
 have HC:Hid (Calls Tryz.prog 74 #[Zp (some ⟨b,11,O⟩),I J c] w fun e w'=>e=Zr (.tuple #[I J (jZ R.sv c).1,Z (jZ R.sv c).2])∧Below w.heap.size w w'):=uU h.sv c
 go_enter Tryz.func147,Tryz.ntmps147;go_wp2_with fail;refine HC.out.mono ?_;rintro e w1 ⟨rfl,hb⟩;go_wp2_with fail;go_ret2;exact⟨rfl,hb⟩
end
theorem idd {p:Prop} (h:p):p:=h
namespace Rp
variable {r r' X:Rp}
def rk (s:Int):Nat:=if s=3 then 0 else if s=2 then 1 else if s=1 then 2 else if s=5 then 3 else 4
def mz (r:Rp):Nat:=(((r.epoch.toNat*1000+r.view.toNat)*5+rk r.status)*11+r.log.length)*11+r.decided
theorem I8 (s:Int):rk s≤4:=by unfold rk;(repeat' split) <;> omega
theorem KM (h:Ok r):mz r<6655000:=by
 have h1:=h.ep;have h2:=h.vi;have h3:=I8 r.status;have h4:=h.lg;have h5:=h.dc;unfold mz;omega
theorem ny (h:Ok r) (h':Ok r') (hl:r.epoch<r'.epoch∨(r.epoch=r'.epoch∧(r.view<r'.view∨(r.view=r'.view∧(rk r.status<rk r'.status∨(rk r.status=rk r'.status∧(r.log.length<r'.log.length∨(r.log.length=r'.log.length∧r.decided<r'.decided)))))))):mz r<mz r':=by
 have h1:=h.ep;have h2:=h.vi;have h3:=I8 r.status;have h4:=h.lg;have h5:=h.dc;have g1:=h'.ep;have g2:=h'.vi;have g3:=I8 r'.status;have g4:=h'.lg;have g5:=h'.dc;unfold mz;rcases hl with hl|⟨he,hl|⟨hv,hl|⟨hs,hl|⟨hg,hl⟩⟩⟩⟩ <;> omega
def Adv (r r':Rp):Prop:=mz r<mz r'∨(mz r=mz r'∧r'.out.length≤r.out.length+1)
def SvI (r:Rp):Prop:=r.sv=svF (r.log.take r.decided)
structure Nx (r r':Rp):Prop where
 adv:Adv r r'
 sv:SvI r→SvI r'
 rc:r'.status=3→r.status=3∧r'.epoch=r.epoch∧r'.view=r.view∧r'.log=r.log∧r'.decided=r.decided∧r'.out=r.out
theorem Nx.refl (r:Rp):Nx r r:=⟨.inr ⟨rfl,by omega⟩,idd,fun h=>⟨h,rfl,rfl,rfl,rfl,rfl⟩⟩
theorem yc (hs:r.status≠3) (qt:Int) (t:ByteArray):Nx r (r.put qt t):=⟨.inr ⟨rfl,by simp[put]⟩,idd,fun h=>absurd h hs⟩
theorem EU (hs:r.status≠3) (qt:Int) (P:Pm):Nx r (r.send qt P):=yc hs _ _
theorem mE (hs:r.status≠3) (qt k:Int):Nx r (r.bare qt k):=yc hs _ _
theorem sN (hs:r.status≠3) (qt:Int):Nx r (r.tell qt):=yc hs _ _
theorem Em (hs:r.status≠3) (qt:Int):Nx r (r.oC qt):=yc hs _ _
theorem Cx (hs:r.status≠3) (c m:Int) (t:ByteArray):Nx r (r.reply c m t):=yc hs _ _
theorem lY (l:List En):SvI (r.over l):=by unfold SvI over;rfl
theorem EB (h:SvI r) (hd:r.decided<r.log.length):SvI (r.lF (r.log.getD r.decided (0,0,⟨#[]⟩))):=by
 unfold SvI lF at *;dsimp only;rw[h];unfold svF;rw[List.take_succ_eq_append_getElem hd,List.foldl_append];simp[List.getD,hd]
theorem uW (h:SvI r) (hd:r.decided<r.log.length):SvI (r.carried (r.log.getD r.decided (0,0,⟨#[]⟩))):=by
 have k:=EB h hd;unfold carried
 split
 ·exact k
 ·exact k
theorem Jm (h:SvI r) (g:List Int):SvI (r.turn g):=by
 unfold turn;dsimp only
 split
 ·exact h
 ·exact h
theorem yN (g:List Int):(r.turn g).epoch=r.epoch+1:=by
 unfold turn;dsimp only;split <;> rfl
theorem Dm (g:List Int):(r.turn g).status≠3:=by
 unfold turn;dsimp only;split
 ·show (1:Int)≠3;decide
 ·show (5:Int)≠3;decide
theorem oQ (e:En):(r.carried e).status=r.status:=by unfold carried;split <;> rfl
theorem Ar (e:En):(r.carried e).view=r.view:=by unfold carried;split <;> rfl
theorem zH:∀ (f:Nat) (r:Rp) (p:Int),Ok r→(iV f r p=r∨mz r<mz (iV f r p))∧(SvI r→SvI (iV f r p))∧((iV f r p).status=3→r.status=3)
 | 0,r,_,_=>⟨.inl rfl,idd,idd⟩
 | f+1,r,p,h=>by
  have hg:=rC (f+1) r p h;unfold iV at hg ⊢
  split
  ·rename_i q;rw[if_pos q] at hg;dsimp only at hg ⊢;have k:=rz h q.2 (r.log.getD r.decided (0,0,⟨#[]⟩))
   split
   ·rename_i ht;rw[if_pos ht] at hg;refine⟨.inr (ny h hg.ok (.inl ?_)),fun hs=>Jm (uW hs q.2) _,fun hs=>absurd hs (Dm _)⟩
    rw[yN,jc];omega
   ·obtain⟨h1,h2,h3⟩:=zH f (r.carried (r.log.getD r.decided (0,0,⟨#[]⟩))) p k.ok
    have hlt:mz r<mz (r.carried (r.log.getD r.decided (0,0,⟨#[]⟩))):=ny h k.ok (.inr ⟨(jc _).symm,.inr ⟨(Ar _).symm,.inr ⟨by rw[oQ],.inr ⟨by rw[oP],by rw[jd];omega⟩⟩⟩⟩)
    refine⟨.inr ?_,fun hs=>h2 (uW hs q.2),fun hs=>by have:=h3 hs;rwa [oQ] at this⟩
    rcases h1 with h1|h1
    ·rw[h1];exact hlt
    ·omega
  ·exact⟨.inl rfl,idd,idd⟩
theorem rZ (h:Ok r) (p:Int):(r.bF p=r∨mz r<mz (r.bF p))∧(SvI r→SvI (r.bF p))∧((r.bF p).status=3→r.status=3):=zH _ r p h
theorem Adv.dec (h:Adv r X) (hX:Ok X) (p:Int):Adv r (X.bF p):=by
 rcases (rZ hX p).1 with q|q
 ·rw[q];exact h
 ·rcases h with h|h
  ·exact .inl (by omega)
  ·exact .inl (by omega)
theorem Nx.dec (h:Adv r X) (hX:Ok X) (hs:SvI r→SvI X) (h3:X.status≠3) (p:Int):Nx r (X.bF p) :=
 ⟨h.dec hX p,fun q=>(rZ hX p).2.1 (hs q),fun q=>absurd ((rZ hX p).2.2 q) h3⟩
theorem Nx.lt (h:mz r<mz r') (hs:SvI r→SvI r') (h3:r'.status≠3):Nx r r':=⟨.inl h,hs,fun q=>absurd q h3⟩
theorem Nx.catch (h:mz r<mz X) (hX:Ok X) (hs:SvI r→SvI X) (h3:X.status≠3) (c:Int):Nx r (X.iC c):=by
 unfold iC
 split
 ·exact Nx.dec (.inl h) hX hs h3 c
 ·exact Nx.dec (X:=X.ack X.jJ) (.inl h) (jG hX _).ok hs h3 c
theorem Bc (hs:r.status≠3) (hp:r.dS=false):Nx r r.tJ:=by
 unfold tJ;rw[hp];exact EU hs _ _
theorem Bb (hs:r.status≠3):Nx r r.eU:=by
 unfold eU
 split
 ·exact Nx.refl r
 ·rename_i q;exact Bc hs (by simpa using q)
theorem mJ (v:Int):(r.want v).epoch=r.epoch∧(r.want v).view=v∧(r.want v).status=2∧(SvI r→SvI (r.want v)):=by
 unfold want tJ
 split
 ·exact⟨rfl,rfl,rfl,idd⟩
 ·exact⟨rfl,rfl,rfl,idd⟩
theorem AZ (h:Ok r) {v:Int} (hv:r.view<v∧v≤999):mz r<mz (r.want v):=by
 have:=h.vi
 obtain⟨e1,e2,_,_⟩:=mJ (r:=r) v
 exact ny h (sH h ⟨by omega,hv.2⟩).ok (.inr ⟨e1.symm,.inl (by rw[e2];exact hv.1)⟩)
theorem JU (h:Ok r) {v:Int} (hv:r.view<v∧v≤999):Nx r (r.want v):=by
 obtain⟨_,_,e3,e4⟩:=mJ (r:=r) v
 exact Nx.lt (AZ h hv) e4 (by rw[e3];decide)
theorem Cw (h:Ok r) (hs:r.status=2) {m:Pm} (hk:m.kind=118) (hm:eF r.n m):Nx r (r.count m):=by
 have h1:=sP h hk hm;unfold count;dsimp only
 split
 ·exact⟨.inr ⟨rfl,by simp⟩,idd,fun q=>absurd (hs.symm.trans q) (by decide)⟩
 ·unfold counted;have k1:=fC h1 (wQ h1);have k2:=lG k1.ok (v:=r.view) h.vi;have k3:=fT k2.ok;refine Nx.dec (.inl ?_) k3.ok (fun _=>lY _) (by show (1:Int)≠3;decide) _
  refine ny h k3.ok (.inr ⟨rfl,.inr ⟨rfl,.inl ?_⟩⟩);rw[hs];show rk 2<rk 1;decide
theorem Nx.after (h:mz r<mz X) (k:Nx X r') (hs:SvI r→SvI X) (h3:X.status≠3):Nx r r' :=
  ⟨by rcases k.adv with q | q
      · exact .inl (by omega)
      · exact .inl (by omega), fun q => k.sv (hs q), fun q => absurd (k.rc q).1 h3⟩
theorem uh (h:Ok r) (hs:r.status≠3) {m:Pm} (hm:eF r.n m) (hv:r.view<m.view):Nx r (r.dJ m):=by
 have k:=sH h ⟨hm.v0,hm.v1⟩;obtain⟨_,_,e3,e4⟩:=mJ (r:=r) m.view
 unfold dJ
 split
 ·split
  ·rename_i q;simp at q;exact Nx.after (AZ h ⟨hv,hm.v1⟩) (Cw k.ok e3 q.1 (by rw[k.n];exact hm)) e4 (by rw[e3];decide)
  ·exact JU h ⟨hv,hm.v1⟩
 ·exact Nx.refl r
theorem vF (h:Ok r) (hs:r.status=2) {m:Pm} (hm:eF r.n m):Nx r (r.bM m):=by
 have hs3:r.status≠3:=by rw[hs];decide
 unfold bM
 split
 ·split
  ·exact mE hs3 _ _
  ·split
   ·exact Bb hs3
   ·split
    ·rename_i q;exact Cw h hs q.1 hm
    ·exact Nx.refl r
 ·exact Nx.refl r
theorem pK (hs:r.status≠3) (m:Pm):Nx r (r.dD m):=by
 unfold dD
 split
 ·exact sN hs _
 ·split
  ·exact Em hs _
  ·split
   ·exact mE hs _ _
   ·exact Nx.refl r
theorem qI (h:Ok r) (hc:r.carries=true) {m:Pm} (hk:m.kind=115) (hm:eF r.n m):Nx r (r.aT m):=by
 have hl:=nR hm (.inr (.inl hk));have hst:r.status=1∨r.status=2:=by unfold carries at hc;simpa using hc
 have hs3:r.status≠3:=by rcases hst with q|q <;> (rw[q];decide)
 unfold aT
 split
 ·rename_i q;have k1:=lG h ⟨hm.v0,hm.v1⟩;have k2:=fC k1.ok (l:=m.log) hl;refine Nx.catch (ny h k2.ok (.inr ⟨rfl,?_⟩)) k2.ok (fun _=>lY _) (by show (1:Int)≠3;decide) _
  rcases q with q|q
  ·exact .inl q
  ·refine .inr ⟨q.1.symm,.inl ?_⟩;rw[q.2];show rk 2<rk 1;decide
 ·rename_i q
  split
  ·split
   ·exact sN hs3 _
   ·exact Nx.refl r
  ·split
   ·rename_i q2 q3;have k2:=fC h (l:=m.log) hl;exact Nx.catch (ny h k2.ok (.inr ⟨rfl,.inr ⟨rfl,.inr ⟨rfl,.inl q3.2⟩⟩⟩)) k2.ok (fun _=>lY _) hs3 _
   ·split
    ·exact Nx.refl r
    ·exact mE hs3 _ _
theorem Aw (h:Ok r) (p:Int):r.epoch≤(r.bF p).epoch:=by
 suffices hh:∀ (f:Nat) (r:Rp),r.epoch≤(iV f r p).epoch from hh _ r
 intro f
 induction f with
 | zero=>intro r;exact Int.le_refl _
 | succ f ih =>
  intro r;unfold iV
  split
  ·dsimp only
   split
   ·rw[yN,jc];omega
   ·have:=ih (r.carried (r.log.getD r.decided (0,0,⟨#[]⟩)))
    rwa [jc] at this
  ·exact Int.le_refl _
theorem sM (h:Ok r) {m:Pm} (hk:m.kind=115) (hm:eF r.n m) (he:r.epoch<m.epoch):Nx r (r.dx m):=by
 have hl:=nR hm (.inr (.inl hk));have k0:Gd r (r.enter m) 0:=⟨nC h (.inl hk) hm,rfl,rfl,Nat.le_refl _⟩
 unfold dx
 split
 ·have k1:=fC k0.ok (l:=m.log) hl;have k2:=kF k1.ok;exact Nx.catch (ny h k2.ok (.inl he)) k2.ok (fun _=>lY _) (by show (1:Int)≠3;decide) _
 ·split
  ·have kl:=Cc k0.ok hl;have j0:Gd (r.enter m) (r.enter m).leave0 0:=⟨⟨k0.ok.n3,k0.ok.n7,k0.ok.i0,k0.ok.i1,k0.ok.ll,k0.ok.lb,by simp[leave0],k0.ok.ep,by simp[leave0],by simp[leave0],k0.ok.g,k0.ok.o,k0.ok.lg,k0.ok.le,k0.ok.dc,k0.ok.vo,k0.ok.vn,k0.ok.an,k0.ok.nn⟩,rfl,rfl,Nat.le_refl _⟩
   have j1:=fC j0.ok (l:=iU m.log (r.enter m).epoch) (hl.upto _);have hD:=rZ j1.ok m.commit;have hE:=Aw j1.ok m.commit;refine Nx.lt (ny h kl.ok (.inl ?_)) (fun _=>?_) (fun q=>?_)
   ·exact Int.lt_of_lt_of_le he hE
   ·exact hD.2.1 (lY _)
   ·have:=hD.2.2 q
    exact absurd this (by show (5:Int)≠3;decide)
  ·refine Nx.lt (ny h (ji k0.ok (s:=4) (by decide)).ok (.inl he)) (fun q=>q) (by show (4:Int)≠3;decide)
theorem Ba (h:Ok r) (hs3:r.status≠3) {m:Pm} (hk:m.kind=115) (hm:eF r.n m):Nx r (r.gq m):=by
 unfold gq
 split
 ·rename_i q;exact sM h hk hm q
 ·split
  ·rename_i q
   split
   ·exact pK hs3 m
   ·exact qI h q hk hm
  ·exact Nx.refl r
theorem A9 (h:Ok r) (hs3:r.status≠3) (m:Pm):Nx r (r.fZ m):=by
 unfold fZ
 split
 ·rename_i q;simp at q;dsimp only
  split
  ·have k:=ji h (s:=4) (by decide)
   refine Nx.lt (ny h (r':={ r with started:=r.started.set m.frm.toNat true,status:=4 }) k.ok (.inr ⟨rfl,.inr ⟨rfl,.inl ?_⟩⟩)) idd (by show (4:Int)≠3;decide)
   rw[q.1.1];show rk 5<rk 4;decide
  ·exact⟨.inr ⟨rfl,by simp⟩,idd,fun q=>absurd q hs3⟩
 ·exact Nx.refl r
theorem Gu (hs3:r.status≠3) (m:Pm):Nx r (r.answer m):=by
 unfold answer
 split
 ·exact EU hs3 _ _
 ·exact Nx.refl r
theorem yg (hs3:r.status≠3) (m:Pm):Nx r (r.dI m):=by
 unfold dI
 split
 ·exact mE hs3 _ _
 ·split
  ·exact sN hs3 _
  ·exact Nx.refl r
theorem A8 (h:Ok r) (hs3:r.status≠3) {m:Pm} (hk:m.kind=112) (hm:eF r.n m):Nx r (r.dZ m):=by
 unfold dZ
 split
 ·split
  ·exact mE hs3 _ _
  ·split
   ·split
    ·exact Nx.refl r
    ·rename_i q _;have hp:=hm.pl (.inl hk);have h1:=um h (hm.en hk) (by omega)
     have k1:=jG h1 m.frm;refine Nx.dec (.inl (ny h k1.ok (.inr ⟨rfl,.inr ⟨rfl,.inr ⟨rfl,.inl (by show r.log.length<(r.log++[m.ent]).length;simp)⟩⟩⟩))) k1.ok (fun hs=>?_) hs3 _
     unfold SvI at *
     show r.sv=svF ((r.log++[m.ent]).take r.decided)
     rw[List.take_append_of_le_length h.dc];exact hs
   ·have k1:=jG h m.frm;exact Nx.dec (r:=r) (X:=r.ack m.frm) (.inr ⟨rfl,by simp[ack,send,put]⟩) k1.ok idd hs3 _
 ·exact Nx.refl r
theorem ze (h:Ok r) (hs3:r.status≠3) (m:Pm):Nx r (r.fG m):=by
 unfold fG
 split
 ·split
  ·exact mE hs3 _ _
  ·exact Nx.dec (.inr ⟨rfl,by omega⟩) h idd hs3 _
 ·exact Nx.refl r
theorem zD (q:Nat) (p:Int):mz (r.fA q p)=mz r∧(r.fA q p).out=r.out∧(SvI r→SvI (r.fA q p))∧(r.fA q p).status=r.status:=by
 unfold fA;split
 ·exact⟨rfl,rfl,idd,rfl⟩
 ·exact⟨rfl,rfl,idd,rfl⟩
theorem El (h:Ok r) (hs3:r.status≠3) (m:Pm):Nx r (r.jf m):=by
 unfold jf
 split
 ·have k:=tQ h m.frm.toNat m.place;obtain⟨e1,e2,e3,e4⟩:=zD (r:=r) m.frm.toNat m.place
  exact Nx.dec (.inr ⟨e1.symm,by rw[e2];omega⟩) k.ok e3 (by rw[e4];exact hs3) _
 ·exact Nx.refl r
theorem zi (h:Ok r) (hs3:r.status≠3) {m:Pm} (hm:eF r.n m):Nx r (r.cK m):=by
 unfold cK
 split
 ·exact sN hs3 _
 ·split
  ·split
   ·rename_i q;exact A8 h hs3 q hm
   ·split
    ·exact ze h hs3 m
    ·split
     ·exact El h hs3 m
     ·split
      ·exact sN hs3 _
      ·exact Nx.refl r
  ·exact Nx.refl r
theorem zh (h:Ok r) (hs3:r.status≠3) {m:Pm} (hm:eF r.n m):Nx r (r.bR m):=by
 unfold bR
 split
 ·split
  ·rename_i q;exact vF h q hm
  ·exact zi h hs3 hm
 ·split
  ·rename_i q
   split
   ·exact uh h hs3 hm q.2
   ·exact mE hs3 _ _
  ·split
   ·exact mE hs3 _ _
   ·exact pK hs3 m
def RcI (r:Rp):Prop:=r.status=3→r.epoch=0∧r.view=0∧r.log=[]∧r.decided=0
theorem Gv (h:Ok r) (hs:r.status=3) (hz:RcI r) {m:Pm} (hk:m.kind=97) (hm:eF r.n m):Nx r (r.resume m):=by
 have hl:=nR hm (.inr (.inr hk));have e:=nC h (.inr hk) hm;have k0:Gd r { r.enter m with answers:=[] } 0:=⟨nP e (by simp) (by simp),rfl,rfl,Nat.le_refl _⟩
 obtain⟨z1,z2,z3,z4⟩:=hz hs
 have hlt:∀ X:Rp,Ok X→X.epoch=m.epoch→X.view=m.view→0<rk X.status→mz r<mz X:=fun X hX h1 h2 h3=>by
  have a0:=hm.e0;have b0:=hm.v0;refine ny h hX ?_;rw[h1,h2,z1,z2];by_cases he:0<m.epoch
  ·exact .inl he
  ·refine .inr ⟨by omega,?_⟩
   by_cases hv:0<m.view
   ·exact .inl hv
   ·exact .inr ⟨by omega,.inl (by rw[hs];exact h3)⟩
 unfold resume;dsimp only
 split
 ·have k1:=fC k0.ok (l:=m.log) hl
  split
  ·exact Nx.dec (.inl (hlt _ k1.ok rfl rfl (by show 0<rk 1;decide))) k1.ok (fun _=>lY _) (by show (1:Int)≠3;decide) _
  ·have k2:=jG k1.ok m.frm;exact Nx.dec (.inl (hlt _ k2.ok rfl rfl (by show 0<rk 1;decide))) k2.ok (fun _=>lY _) (by show (1:Int)≠3;decide) _
 ·exact Nx.lt (hlt _ (ji k0.ok (s:=4) (by decide)).ok rfl rfl (by show 0<rk 4;decide)) idd (by show (4:Int)≠3;decide)
theorem za (h:Ok r) (hs:r.status=3) (hz:RcI r) {m:Pm} (hk:m.kind=97) (hm:eF r.n m):Nx r (r.eT m):=by
 unfold eT
 split
 ·dsimp only;have h1:=yt h hk hm;have hj:Nx r { r with answers:=bf r.answers m }:=⟨.inr ⟨rfl,by simp⟩,idd,fun q=>⟨q,rfl,rfl,rfl,rfl,rfl⟩⟩
  split
  ·rename_i a ha;have hma:=pG ha
   split
   ·have q:=h1.an a hma;have k:=Gv (r:={ r with answers:=bf r.answers m }) h1 hs hz q.1 q.2
    exact⟨k.adv,k.sv,fun e=>k.rc e⟩
   ·exact hj
  ·exact hj
 ·exact Nx.refl r
theorem uj (h:Ok r) (hz:RcI r) {m:Pm} (hm:eF r.n m):Nx r (r.bP m):=by
 unfold bP
 split
 ·rename_i hs
  split
  ·rename_i hk;exact za h hs hz hk hm
  ·exact Nx.refl r
 ·rename_i hs3
  split
  ·rename_i hk;exact Ba h hs3 hk hm
  ·split
   ·exact Gu hs3 m
   ·split
    ·exact A9 h hs3 m
    ·split
     ·exact Nx.refl r
     ·split
      ·exact yg hs3 m
      ·exact zh h hs3 hm
structure Sm (r r':Rp):Prop where
 ep:r'.epoch=r.epoch
 vi:r'.view=r.view
 st:r'.status=r.status
 lg:r'.log=r.log
 dc:r'.decided=r.decided
 ou:r'.out=r.out
 sv:r'.sv=r.sv
theorem Sm.refl (r:Rp):Sm r r:=⟨rfl,rfl,rfl,rfl,rfl,rfl,rfl⟩
theorem Sm.trans {a b c:Rp} (h:Sm a b) (k:Sm b c):Sm a c:=⟨k.ep.trans h.ep,k.vi.trans h.vi,k.st.trans h.st,k.lg.trans h.lg,k.dc.trans h.dc,k.ou.trans h.ou,k.sv.trans h.sv⟩
theorem GX (l:List Int) (r:Rp) (i:Nat):Sm r (iK l r i):=by
 unfold iK;split
 ·exact⟨rfl,rfl,rfl,rfl,rfl,rfl,rfl⟩
 ·exact Sm.refl r
theorem Ji (l:List Int):Sm r (r.learn l):=by
 unfold learn
 suffices hh:∀ (is:List Nat) (r:Rp),Sm r (is.foldl (iK l) r) from hh _ r
 intro is
 induction is with
 | nil=>intro r;exact Sm.refl r
 | cons i is ih=>intro r;exact (GX l r i).trans (ih _)
theorem GY:Sm r r.pruned:=⟨rfl,rfl,rfl,rfl,rfl,rfl,rfl⟩
theorem Sm.mz (h:Sm r r'):mz r'=mz r:=by unfold Rp.mz;rw[h.ep,h.vi,h.st,h.lg,h.dc]
theorem Sm.svi (h:Sm r r'):SvI r→SvI r':=fun q=>by unfold SvI at *;rw[h.sv,h.lg,h.dc];exact q
theorem Sm.rci (h:Sm r r'):RcI r→RcI r':=fun q=>by unfold RcI at *;rw[h.st,h.ep,h.vi,h.lg,h.dc];exact q
theorem Nx.of_sm (h:Sm r X) (k:Nx X r'):Nx r r' :=
  ⟨by rcases k.adv with q | q
      · exact .inl (by rw [← h.mz]; exact q)
      · exact .inr (by rw [← h.mz, ← h.ou]; exact q), fun q => k.sv (h.svi q), fun q => by
    obtain⟨a,b,c,d,e,f⟩:=k.rc q
    exact⟨h.st▸a,b.trans h.ep,c.trans h.vi,d.trans h.lg,e.trans h.dc,f.trans h.ou⟩⟩
theorem Ej (h:Ok r) (hs3:r.status≠3) {e:En} (he:kV r.n e):Nx r (r.propose e):=by
 unfold propose
 split
 ·exact Nx.refl r
 ·rename_i q;have h1:=um h he (by omega)
  have k:=kE h1 ((r.log.length:Int)+1);have hf:∀ p,(({ r with log:=r.log++[e] }:Rp).bL p).log=r.log++[e]∧(({ r with log:=r.log++[e] }:Rp).bL p).epoch=r.epoch∧(({ r with log:=r.log++[e] }:Rp).bL p).view=r.view∧(({ r with log:=r.log++[e] }:Rp).bL p).status=r.status∧(({ r with log:=r.log++[e] }:Rp).bL p).sv=r.sv∧(({ r with log:=r.log++[e] }:Rp).bL p).decided=r.decided:=fun p=>by
   unfold bL;split
   ·exact⟨rfl,rfl,rfl,rfl,rfl,rfl⟩
   ·exact⟨rfl,rfl,rfl,rfl,rfl,rfl⟩
  obtain⟨f1,f2,f3,f4,f5,f6⟩:=hf ((r.log.length:Int)+1)
  refine Nx.lt (ny h k.ok (.inr ⟨f2.symm,.inr ⟨f3.symm,.inr ⟨by rw[f4],.inl (by rw[f1];simp)⟩⟩⟩)) (fun hs=>?_) (by rw[f4];exact hs3)
  unfold SvI at *;rw[f5,f1,f6,List.take_append_of_le_length h.dc];exact hs
theorem yh (h:Ok r) {m:Pm} (he:gY m.ent r.n=false∨m.kind≠109→kV r.n m.ent):Nx r (r.cu m):=by
 unfold cu
 split
 ·rename_i hl;have hs3:r.status≠3:=by
   unfold leads at hl;rw[Bool.and_eq_true] at hl;have:=eq_of_beq hl.1
   omega
  split
  ·exact Nx.refl r
  ·split
   ·unfold gD
    split
    ·exact Cx hs3 _ _ _
    ·exact Nx.refl r
   ·split
    ·exact Nx.refl r
    ·split
     ·exact Cx hs3 _ _ _
     ·rename_i q1 q2;refine Ej h hs3 (he ?_);by_cases hk:m.kind=109
      ·left
       cases hn:gY m.ent r.n
       ·rfl
       ·exact absurd ⟨hk,.inr hn⟩ q2
      ·exact .inr hk
 ·exact Nx.refl r
theorem JR (h:Ok r) (hz:RcI r) {m:Pm} (hm:MOk r.n m):Nx r (r.take m):=by
 unfold take
 split
 ·rename_i q;refine yh h (fun c=>Dt (hm.1 q) q (fun d=>?_))
  rcases c with c|c
  ·rw[c] at d;exact absurd d.2 (by decide)
  ·exact c d.1
 ·rename_i q;have hp:=hm.2 q
  split
  ·have k1:=xw h hp.lb;have k2:=tO k1.ok;have k3:=k1.trans k2;have s:=(Ji (r:=r) m.lives).trans (GY (r:=r.learn m.lives));exact Nx.of_sm s (uj k2.ok (s.rci hz) (by rw[k3.n];exact hp))
  ·exact Nx.refl r
structure Tk (r r':Rp):Prop where
 mz:mz r≤Rp.mz r'
 sv:SvI r→SvI r'
 rc:r'.status=3→r.status=3∧r'.epoch=r.epoch∧r'.view=r.view∧r'.log=r.log∧r'.decided=r.decided
theorem Tk.refl (r:Rp):Tk r r:=⟨Nat.le_refl _,idd,fun h=>⟨h,rfl,rfl,rfl,rfl⟩⟩
theorem Tk.trans {a b c:Rp} (h:Tk a b) (k:Tk b c):Tk a c:=⟨Nat.le_trans h.mz k.mz,fun q=>k.sv (h.sv q),fun q=>by
 obtain⟨a1,a2,a3,a4,a5⟩:=k.rc q
 obtain⟨b1,b2,b3,b4,b5⟩:=h.rc a1
 exact⟨b1,a2.trans b2,a3.trans b3,a4.trans b4,a5.trans b5⟩⟩
theorem tF (g:List Int) (P:Pm):Tk r (r.gP g P):=⟨Nat.le_refl _,idd,fun h=>⟨h,rfl,rfl,rfl,rfl⟩⟩
theorem Jp (a:Int) (t:ByteArray):Tk r (r.put a t):=⟨Nat.le_refl _,idd,fun h=>⟨h,rfl,rfl,rfl,rfl⟩⟩
theorem BI (p:Int):Tk r (r.bL p):=by
 unfold bL;split
 ·exact Tk.refl r
 ·exact tF _ _
theorem yL:∀ (k:Nat) (r:Rp) (p:Int),Tk r (mG k r p)
 | 0,r,_=>Tk.refl r
 | k+1,r,p=>(BI p).trans (yL k _ _)
theorem G5:Tk r r.jw:=by
 unfold jw;split
 ·exact tF _ _
 ·exact yL _ _ _
theorem J9 (i:Nat):Tk r (oO r i):=by
 unfold oO;split
 ·exact Jp _ _
 ·exact Tk.refl r
theorem Fh:∀ (is:List Nat) (r:Rp),Tk r (is.foldl oO r)
 | [],r=>Tk.refl r
 | i :: is,r=>(J9 i).trans (Fh is _)
theorem Ka:Tk r r.eU:=by
 unfold eU;split
 ·exact Tk.refl r
 ·rename_i q;unfold tJ;rw[if_neg q];exact Jp _ _
theorem Fj:Tk r r.qY:=by
 unfold qY;split
 ·exact G5
 ·split
  ·exact (tF _ _).trans Ka
  ·split
   ·exact Fh _ _
   ·split
    ·exact tF _ _
    ·exact Tk.refl r
theorem yM (h:Ok r):Tk r r.suspect:=by
 unfold suspect;split
 ·rename_i q;obtain⟨_,_,e3,e4⟩:=mJ (r:=r) (r.view+1)
  exact⟨Nat.le_of_lt (AZ h ⟨by omega,by omega⟩),e4,fun hs=>absurd (e3.symm.trans hs) (by decide)⟩
 ·exact Tk.refl r
theorem Tk.rci {r r':Rp} (k:Tk r r') (h:RcI r):RcI r':=fun q=>by
 obtain⟨b1,b2,b3,b4,b5⟩:=k.rc q
 obtain⟨a1,a2,a3,a4⟩:=h b1
 exact⟨b2.trans a1,b3.trans a2,b4.trans a3,b5.trans a4⟩
theorem Nx.rci {r r':Rp} (k:Nx r r') (h:RcI r):RcI r':=fun q=>by
 obtain⟨b1,b2,b3,b4,b5,_⟩:=k.rc q
 obtain⟨a1,a2,a3,a4⟩:=h b1
 exact⟨b2.trans a1,b3.trans a2,b4.trans a3,b5.trans a4⟩
def jm (t:ByteArray):Prop:=t.data.toList.head? = some 114
theorem GA {a b:ByteArray} (h:jm a):jm (a++b):=by
 unfold jm at *;simp only[ByteArray.data_append,Array.toList_append];cases q:a.data.toList with
 | nil=>rw[q] at h;cases h
 | cons x l=>rw[q] at h;simpa using h
theorem CJ {P:Pm} (h:P.kind=114):jm (jC P):=by
 unfold jC
 repeat apply GA
 rw[h];rfl
theorem zG:∀ (is:List Nat) (r:Rp),(∀ x∈r.out,jm x.2)→∀ x∈(is.foldl oO r).out,jm x.2
 | [],_,h=>h
 | i :: is,r,h=>zG is _ (by
  unfold oO;split
  ·intro x hx;unfold bare send put at hx;rcases List.mem_append.1 hx with hx|hx
   ·exact h x hx
   ·simp at hx;subst hx;exact CJ rfl
  ·exact h)
theorem BP (ho:r.out=[]) (hs:r.qY.status=3):∀ x∈r.qY.out,jm x.2:=by
 have h3:=(Fj (r:=r)).rc hs;have hl:r.leads=false:=by unfold leads;rw[h3.1];rfl
 unfold qY;rw[hl,if_neg (by decide),if_neg (by rw[h3.1];decide),if_pos h3.1]
 exact zG _ _ (by rw[ho];simp)
theorem yK (h:Ok r) (ho:r.out=[]) (hs:r.suspect.status=3):r.suspect.out=[]:=by
 have h3:=(yM h).rc hs;unfold suspect;rw[if_neg (by unfold carries;rw[h3.1];simp)]
 exact ho
end Rp
end Go.Proofs.YtajakaadgagejaaGreatDoor
