import Derived.Test.YtbnihoahhomooaaGreatDoorA18
import Derived.Test.YtbnihoahhomooaaGreatDoorA21
set_option maxRecDepth 100000
set_option maxHeartbeats 8000000
set_option linter.all false
namespace Go.Proofs.YtbnihoahhomooaaGreatDoor
open Go.Value renaming int→I,slice→Y,string→Z,pointer→Zp
open Go.Ending renaming returned→Zr
open _root_.ByteArray renaming empty→Ze
open Go.IntKind renaming i64→J
open Option renaming none→O
open Go.RowKit
structure Up (L L':List En) (G G':List ByteArray) (B B':List Int):Prop where
 l:L <+: L'
 g:G <+: G'
 gl:G.length=regs L+1
 b:∀ k,B.getD k (-1)≤B'.getD k (-1)
section
variable {L L':List En} {T:Wt} {G G':List ByteArray} {B B':List Int}
theorem Up.regs (u:Up L L' G G' B B'):Go.Proofs.YtbnihoahhomooaaGreatDoor.regs L≤Go.Proofs.YtbnihoahhomooaaGreatDoor.regs L':=by
 obtain⟨m,rfl⟩:=u.l;rw[mR];omega
theorem Up.grp (u:Up L L' G G' B B') {e:Int} (h0:0≤e) (h1:e≤Go.Proofs.YtbnihoahhomooaaGreatDoor.regs L):G'.getD e.toNat ⟨#[]⟩=G.getD e.toNat ⟨#[]⟩:=by
 obtain⟨m,rfl⟩:=u.g
 have:=u.gl
 rw[List.getD_eq_getElem?_getD,List.getD_eq_getElem?_getD,List.getElem?_append_left (by omega)]
theorem Up.beg (u:Up L L' G G' B B') {e:Int} (h0:0≤e) (h1:e≤Go.Proofs.YtbnihoahhomooaaGreatDoor.regs L):gY L' e.toNat=gY L e.toNat:=by
 obtain⟨m,rfl⟩:=u.l
 exact oC _ _ _ (by omega)
theorem MI.up {P:Pm} (h:MI L T G B P) (u:Up L L' G G' B B'):MI L' T G' B' P :=
 ⟨h.q,h.m,fun q=>by
  obtain⟨he,a,b,c⟩:=h.p q
  refine⟨he,by have:=u.regs;omega,b,?_⟩
  rw[u.beg he a];exact c,fun q=>by
  obtain⟨a,b,c⟩:=h.s q
  refine⟨a.mono u.l,?_,c⟩
  rw[u.grp a.e0 a.le];exact b,fun q=>(h.v q).mono u.l,fun q=>Int.le_trans (h.t q) (u.b _)⟩
theorem RI.up {R:Rp} (h:RI L T G B R) (u:Up L L' G G' B B') (ho:Ok R):RI L' T G' B' R :=
 ⟨h.jl,fun a ha=>⟨(h.an a ha).1.up u,(h.an a ha).2⟩,fun v hv=>⟨(h.vo v hv).1,(h.vo v hv).2.mono u.l⟩,h.me,fun q=>by
  obtain⟨a,b⟩:=h.gp q
  refine⟨by have:=u.regs;omega,?_⟩
  rw[u.grp ho.ep.1 a];exact b,fun q=>(h.lg q).mono u.l,fun q k hk=>⟨(h.st q k hk).1,Int.le_trans (h.st q k hk).2 (u.b _)⟩⟩
theorem DL.up {R:Rp} (h:DL L R) (hl:L <+: L'):DL L' R:=by
 obtain⟨m,rfl⟩:=hl
 exact⟨by have:=h.dl;simp;omega,by rw[h.dt,List.take_append_of_le_length h.dl]⟩
def Bv (T:Wt) (y:En×ByteArray):Prop:=∀ z∈T,¬(z.1.1=y.1.1∧z.1.2.1=y.1.2.1)
theorem Bv.ne {y:En×ByteArray} (h:Bv T y) {e:En} (he:∃ z∈T,z.1=e):y.1≠e:=fun q=>by
 obtain⟨z,hz,rfl⟩:=he
 exact h z hz ⟨by rw[q],by rw[q]⟩
theorem Lg.wish {e:Int} {l:List En} (h:Lg L T e l) {y:En×ByteArray} (hf:Bv T y):Lg L (T++[y]) e l :=
 ⟨h.e0,h.le,h.ln,h.pre,h.rg,fun p hp hr z hz hze=>by
  rcases List.mem_append.1 hz with q|q
  ·exact h.jw p hp hr z q hze
  ·simp at q;subst q;exact absurd hze (hf.ne (h.pv _ (List.getElem_mem hp))),fun x hx=>by
  obtain⟨z,hz,q⟩:=h.pv x hx
  exact⟨z,List.mem_append_left _ hz,q⟩⟩
theorem MI.wish {P:Pm} (h:MI L T G B P) {y:En×ByteArray} (hf:Bv T y):MI L (T++[y]) G B P:=by
 have ex:∀ {e:En},(∃ z∈T,z.1=e)→∃ z∈T++[y],z.1=e:=fun ⟨z,hz,q⟩=>⟨z,List.mem_append_left _ hz,q⟩
 have al:∀ {e:En} {x:ByteArray},(∃ z∈T,z.1=e)→(∀ z∈T,z.1=e→z.2=x)→∀ z∈T++[y],z.1=e→z.2=x:=fun he h z hz hze=>by
  rcases List.mem_append.1 hz with q|q
  ·exact h z q hze
  ·simp at q;subst q;exact absurd hze (hf.ne he)
 refine⟨fun q=>⟨(h.q q).1,ex (h.q q).2⟩,fun q=>?_,fun q=>?_,fun q=>⟨(h.s q).1.wish hf,(h.s q).2⟩,fun q=>(h.v q).wish hf,h.t⟩
 ·obtain⟨a,a0,b,c⟩:=h.m q
  exact⟨a,a0,ex b,al b c⟩
 ·obtain⟨he,a,b,c⟩:=h.p q
  refine⟨he,a,ex b,?_⟩
  rcases c with c|c
  ·exact .inl c
  ·exact .inr fun hr=>al b (c hr)
theorem RI.wish {R:Rp} (h:RI L T G B R) {y:En×ByteArray} (hf:Bv T y):RI L (T++[y]) G B R :=
 ⟨⟨fun p hp hr z hz hze=>by
  rcases List.mem_append.1 hz with q|q
  ·exact h.jl.1 p hp hr z q hze
  ·simp at q;subst q;exact absurd hze (hf.ne (h.jl.2 _ (List.getElem_mem hp))),fun x hx=>by
  obtain⟨z,hz,q⟩:=h.jl.2 x hx
  exact⟨z,List.mem_append_left _ hz,q⟩⟩,fun a ha=>⟨(h.an a ha).1.wish hf,(h.an a ha).2⟩,fun v hv=>⟨(h.vo v hv).1,(h.vo v hv).2.wish hf⟩,h.me,h.gp,fun q=>(h.lg q).wish hf,h.st⟩
end
def qTx (e:En):ByteArray:=⟨#[113,32]⟩++dg e.1++SP++dg e.2.1++SP++e.2.2
structure Tw (y:En×ByteArray):Prop where
 c:1≤y.1.1∧y.1.1≤9
 n:1≤y.1.2.1∧y.1.2.1≤999
 q:eT y.1=false→y.2=qTx y.1∧(32:UInt8)∉y.1.2.2.data.toList
 m:eT y.1=true→(∃ E:Int,0≤E∧E≤10∧y.2=mTx y.1 E)∧(32:UInt8)∉(y.1.2.2.extract 1 y.1.2.2.size).data.toList
theorem Ph {op:ByteArray} (h:iU op=true):(⟨#[114]⟩:ByteArray)++op.extract 1 op.size=op:=by
 apply bytes_inj
 unfold iU at h;rw[ByteArray.data_append,Array.toList_append,drop1];cases hq:op.data.toList with
 | nil=>rw[hq] at h;simp at h
 | cons a l =>
  rw[hq] at h;simp at h;subst h
  rfl
theorem Ni {L:List En} {T:Wt} {G:List ByteArray} {B:List Int} {n:Int} {P:Pm} {y:En×ByteArray} (hy:y∈T) (hw:Tw y) (hu:∀ z∈T,z.1.1=y.1.1→z.1.2.1=y.1.2.1→z=y) (hM:qp n (bP y.2 32) P):MI L T G B P:=by
 have nc:=iD (x:=y.1.1) (by have:=hw.c;omega) (by have:=hw.c;omega)
 have nn:=iD (x:=y.1.2.1) (by have:=hw.n;omega) hw.n.2
 cases hr:eT y.1
 ·obtain⟨h1,h2⟩:=hw.q hr
  have e:y.2=⟨#[113]⟩++SP++(dg y.1.1++SP++(dg y.1.2.1++SP++y.1.2.2)):=by
   rw[h1];unfold qTx;apply bytes_inj;simp[ByteArray.data_append,SP]
  rw[e,fF (by decide),fF (jV _),fF (jV _),yV h2] at hM
  obtain⟨b,k1,k2⟩:=hM.kind
  have k3:P.kind=113:=by
   have:(⟨#[113]⟩:ByteArray).toList=[b]:=k1
   rw[ByteArray.toList_eq] at this;simp at this;rw[k2,← this];rfl
  have k4:P.ent=y.1:=by
   have:=hM.q (by show (⟨#[113]⟩:ByteArray).toList=[113];rw[ByteArray.toList_eq])
   rw[this]
   show (aF (dg y.1.1).data.toList,aF (dg y.1.2.1).data.toList,y.1.2.2)=y.1
   rw[nc,nn]
  exact⟨fun _=>by rw[k4];exact⟨hr,y,hy,rfl⟩,fun z=>by omega,fun z=>by omega,fun z=>by omega,fun z=>by omega,fun z=>by omega⟩
 ·obtain⟨⟨E,e0,e1,h1⟩,h2⟩:=hw.m hr
  have ne:=iD (x:=E) e0 (by omega)
  have e:y.2=⟨#[109]⟩++SP++(dg y.1.1++SP++(dg y.1.2.1++SP++(dg E++SP++y.1.2.2.extract 1 y.1.2.2.size))):=by
   rw[h1];unfold mTx;apply bytes_inj;simp[ByteArray.data_append,SP]
  rw[e,fF (by decide),fF (jV _),fF (jV _),fF (jV _),yV h2] at hM
  obtain⟨b,k1,k2⟩:=hM.kind
  have k3:P.kind=109:=by
   have:(⟨#[109]⟩:ByteArray).toList=[b]:=k1
   rw[ByteArray.toList_eq] at this;simp at this;rw[k2,← this];rfl
  obtain⟨m1,m2⟩:=hM.m (by show (⟨#[109]⟩:ByteArray).toList=[109];rw[ByteArray.toList_eq])
  have k5:P.epoch=E:=m1.trans ne
  have k4:P.ent=y.1:=by
   rw[m2]
   show (aF (dg y.1.1).data.toList,aF (dg y.1.2.1).data.toList,(⟨#[114]⟩:ByteArray)++y.1.2.2.extract 1 y.1.2.2.size)=y.1
   rw[nc,nn,Ph hr]
  exact⟨fun z=>by omega,fun _=>by
   rw[k4,k5];exact⟨hr,⟨e0,e1⟩,⟨y,hy,rfl⟩,fun z hz hze=>by rw[hu z hz (by rw[hze]) (by rw[hze])];exact h1⟩,fun z=>by omega,fun z=>by omega,fun z=>by omega,fun z=>by omega⟩
def wt (W:List jS):Wt:=W.map (fun x=>(x.e,x.text))
def NT (L:List En) (T:Wt) (G:List ByteArray) (B:List Int) (n:Int) (s:ByteArray):Prop:=∀ P,aZ s n≠[]→qp n (aZ s n) P→MI L T G B P
structure CI (K:Kw):Prop where
 gi:GI K.list K.groups K.n
 tw:∀ y∈wt K.wishes,Tw y
 un:K.wishes.Pairwise (fun a b=>a.e.1=b.e.1→a.e.2.1<b.e.2.1)
 fl:K.floor≤K.list.length∧∀ x∈K.wishes,x.floor≤K.list.length
 bd:∀ x∈K.wishes,x.bad=true→eT x.e=true∧(Rp.eH x.e K.n=true∨∃ E:Int,0≤E∧E≤10∧E<regs K.list∧x.text=mTx x.e E)
 nd:∀ x∈K.nds,RI K.list (wt K.wishes) K.groups K.begun x.R∧(x.R.status≠3→(regs (x.R.log.take x.R.decided):Int)≤x.R.epoch)∧DL K.list x.R
 nt:∀ p∈K.net,0≤p.2.1→NT K.list (wt K.wishes) K.groups K.begun K.n p.2.2
theorem CI.uniq {K:Kw} (h:CI K):∀ y∈wt K.wishes,∀ z∈wt K.wishes,z.1.1=y.1.1→z.1.2.1=y.1.2.1→z=y:=by
 intro y hy z hz h1 h2;obtain⟨a,ha,rfl⟩:=List.mem_map.1 hy
 obtain⟨b,hb,rfl⟩:=List.mem_map.1 hz
 obtain⟨i,hi,rfl⟩:=List.getElem_of_mem ha
 obtain⟨j,hj,rfl⟩:=List.getElem_of_mem hb
 have p:=List.pairwise_iff_getElem.1 h.un;rcases Nat.lt_trichotomy i j with q|q|q
 ·have:=p i j hi hj q h1.symm;simp only at h1 h2;omega
 ·subst q;rfl
 ·have:=p j i hj hi q h1;simp only at h1 h2;omega
theorem Cv {s:ByteArray} {n:Int} (h:aZ s n≠[]):aZ s n=bP s 32:=by
 rw[qW] at h ⊢;by_cases h1:400<s.size
 ·rw[if_pos h1] at h;exact absurd rfl h
 ·rw[if_neg h1] at h ⊢;by_cases h2:lU (bP s 32) n=true
  ·rw[if_pos h2]
  ·rw[if_neg h2] at h;exact absurd rfl h
theorem NT.wish {K:Kw} (h:CI K) {x:jS} (hx:x∈K.wishes):NT K.list (wt K.wishes) K.groups K.begun K.n x.text:=fun P hw hM=>by
 rw[Cv hw] at hM;have hy:(x.e,x.text)∈wt K.wishes:=List.mem_map.2 ⟨x,hx,rfl⟩
 exact Ni hy (h.tw _ hy) (fun z hz=>h.uniq _ hy z hz) hM
theorem NT.sent {L:List En} {T:Wt} {G:List ByteArray} {B:List Int} {n:Int} {P:Pm} (hn:n≤7) (hp:dQ n P) (hk:RK P.kind) (mi:MI L T G B P):NT L T G B n (gB P):=fun Q hw hM=>by
 rw[Cv hw] at hM;exact Nh hn hp hk hM mi
section
variable {N:Nat} {w w':World} {g:Nat} {K K':Kw} {V V':Kv}
theorem KAt.ptr {a:Option Addr} {n c:Nat} (h:KAt N w g K V) (hv:V.vN=Y a n c) {w2:World} (hw:Below w.heap.size w w2) (k:Nat) (hk:k<K.nds.length):∃ b off,a=some ⟨b,off,O⟩∧b<w2.heap.size∧w2.cell? ⟨b,off+k,O⟩=some (Zp (some ⟨K.nds[k].b,0,O⟩)):=by
 have q:=Rd.bR (h.below hw).rN;obtain⟨a',c',e⟩:=aj h.rN
 rw[hv] at e;cases e;rw[hv] at q;exact Rd.CW q (by rw[List.getElem?_map,List.getElem?_eq_getElem hk];rfl)
theorem KAt.dwn {a:Option Addr} {n c:Nat} (h:KAt N w g K V) (hv:V.vD=Y a n c) {w2:World} (hw:Below w.heap.size w w2) (k:Nat) (hk:k<K.down.length):∃ b off,a=some ⟨b,off,O⟩∧b<w2.heap.size∧w2.cell? ⟨b,off+k,O⟩=some (.bool K.down[k]):=by
 have q:=Rd.bR (h.below hw).rD;obtain⟨a',c',e⟩:=aj h.rD
 rw[hv] at e;cases e;rw[hv] at q;exact Rd.CW q (by rw[List.getElem?_map,List.getElem?_eq_getElem hk];rfl)
theorem KAt.bgn {a:Option Addr} {n c:Nat} (h:KAt N w g K V) (hv:V.vB=Y a n c) {w2:World} (hw:Below w.heap.size w w2) (k:Nat) (hk:k<K.begun.length):∃ b off,a=some ⟨b,off,O⟩∧b<w2.heap.size∧w2.cell? ⟨b,off+k,O⟩=some (I J K.begun[k]):=by
 have q:=Rd.bR (h.below hw).rB;obtain⟨a',c',e⟩:=aj h.rB
 rw[hv] at e;cases e;rw[hv] at q;exact Rd.CW q (by rw[List.getElem?_map,List.getElem?_eq_getElem hk];rfl)
theorem KAt.opn {a:Option Addr} {n c:Nat} (h:KAt N w g K V) (hv:V.vO=Y a n c) {w2:World} (hw:Below w.heap.size w w2) (k:Nat) (hk:k<K.opn.length):∃ b off,a=some ⟨b,off,O⟩∧b<w2.heap.size∧w2.cell? ⟨b,off+k,O⟩=some (I J K.opn[k]):=by
 have q:=Rd.bR (h.below hw).rO;obtain⟨a',c',e⟩:=aj h.rO
 rw[hv] at e;cases e;rw[hv] at q;exact Rd.CW q (by rw[List.getElem?_map,List.getElem?_eq_getElem hk];rfl)
theorem KAt.grp {a:Option Addr} {n c:Nat} (h:KAt N w g K V) (hv:V.vG=Y a n c) {w2:World} (hw:Below w.heap.size w w2) (k:Nat) (hk:k<K.groups.length):∃ b off,a=some ⟨b,off,O⟩∧b<w2.heap.size∧w2.cell? ⟨b,off+k,O⟩=some (Z K.groups[k]):=by
 have q:=Rd.bR (h.below hw).rG;obtain⟨a',c',e⟩:=aj h.rG
 rw[hv] at e;cases e;rw[hv] at q;exact Rd.CW q (by rw[List.getElem?_map,List.getElem?_eq_getElem hk];rfl)
theorem KAt.whr (h:KAt N w g K V) {w2:World} (hw:Below w.heap.size w w2) (k:Nat) (hk:k<K.nds.length):Calls Tryz.prog 30 #[Zp (some ⟨K.nds[k].b,0,O⟩)] w2 fun e w'=>e=Zr (.tuple #[I J K.nds[k].R.epoch,I J K.nds[k].R.view,I J K.nds[k].R.status,I J (K.nds[k].R.decided:Int)])∧∃ n,w'=w2.drewN n:=l6 (h.node k hk hw)
end
structure ActP (R R':Rp) (c:Nat):Prop where
 ok:Ok R'
 sv:Rp.SvI R'
 rc:Rp.RcI R'
 n:R'.n=R.n
 id:R'.id=R.id
 mz:31*Rp.mz R+R'.out.length≤31*Rp.mz R'+c
 sil:R'.status=3→∀ x∈R'.out,Rp.jM x.2
theorem DN {R R':Rp} (h:Ok R) (hs:Rp.SvI R) (hz:Rp.RcI R) (ho:R.out=[]) (hR:R'=R∨∃ P,Rp.MOk R.n P∧R'=R.take P):ActP R R' 1:=by
 rcases hR with rfl|⟨P,hP,rfl⟩
 ·exact⟨h,hs,hz,rfl,rfl,by rw[ho];simp,fun _=>by rw[ho];simp⟩
 ·have k:=Rp.MZ h hP;have q:=Rp.Np h hz hP;refine⟨k.ok,q.sv hs,q.rci hz,k.n,k.id,?_,fun h3=>?_⟩
  ·have ko:=k.out;rw[ho] at ko;simp at ko;rcases q.adv with a|⟨a,b⟩
   ·omega
   ·rw[ho] at b;simp at b;omega
  ·rw[(q.rc h3).2.2.2.2.2,ho];simp
theorem Ki {R:Rp} (h:Ok R) (hs:Rp.SvI R) (hz:Rp.RcI R) (ho:R.out=[]):ActP R R.lF 50:=by
 have k:=Rp.MX h;have q:=Rp.IK (r:=R);refine⟨k.ok,q.sv hs,q.rci hz,k.n,k.id,?_,fun h3=>Rp.DT ho h3⟩
 have ko:=k.out;have:=q.mz
 rw[ho] at ko;simp at ko;omega
theorem DK {R:Rp} (h:Ok R) (hs:Rp.SvI R) (hz:Rp.RcI R) (ho:R.out=[]):ActP R R.suspect 50:=by
 have k:=Rp.FI h;have q:=Rp.AA h;refine⟨k.ok,q.sv hs,q.rci hz,k.n,k.id,?_,fun h3=>by rw[Rp.Ay h ho h3];simp⟩
 have ko:=k.out;have:=q.mz
 rw[ho] at ko;simp at ko;omega
def Ev:List Nod→Nat
 | []=>0
 | x :: l=>(6655000-Rp.mz x.R)+Ev l
theorem zR:∀ (l:List Nod) (q:Nat) (x x':Nod),l[q]? = some x→Ev (l.set q x')+(6655000-Rp.mz x.R)=Ev l+(6655000-Rp.mz x'.R)
 | [],_,_,_,h=>by simp at h
 | a :: l,0,x,x',h=>by simp at h;subst h;simp only[List.set_cons_zero,Ev];omega
 | a :: l,q+1,x,x',h=>by
  have:=zR l q x x' (by simpa using h)
  simp only[List.set_cons_succ,Ev];omega
theorem Ik:∀ l:List Nod,Ev l≤6655000*l.length
 | []=>Nat.le_refl _
 | a :: l=>by have:=Ik l;simp only[Ev,List.length_cons];omega
def dI (K:Kw):Nat:=K.net.length+K.wishes.length+31*Ev K.nds+206305000*(999-K.lives.toNat)
theorem iV (K:Kw):K.net.length≤dI K:=by unfold dI;omega
theorem Ju (K:Kw):K.wishes.length≤dI K:=by unfold dI;omega
def sV (p:Int):Prop:=p=0∨p=1∨p=32
structure NI (n:Int) (q:Nat) (x:Nod):Prop where
 ok:Ok x.R
 sv:Rp.SvI x.R
 rc:Rp.RcI x.R
 ou:x.R.out=[]
 vt:x.V.vt=Y O 0 0
 id:x.R.id=q
 n:x.R.n=n
structure vK (x:jS):Prop where
 n1:1≤x.e.2.1
 n9:x.e.2.1≤999
 o1:1≤x.e.2.2.size
 o9:x.e.2.2.size≤9
 t1:1≤x.text.size
structure KI (K:Kw):Prop where
 sz:KSz K
 part:sV K.part
 nod:∀ (q:Nat) (x:Nod),K.nds[q]? = some x→NI K.n q x
 net:∀ p∈K.net,-9≤p.2.1∧p.2.1<K.n∧0<p.2.2.size
 wish:∀ x∈K.wishes,vK x
 opn:∀ v∈K.opn,-1≤v∧v<(K.wishes.length:Int)
 list:nZ K.n K.list
 grps:∀ t∈K.groups,aV t.data.toList K.n=true
 li:0≤K.lives∧K.lives≤999
 gl:K.groups.length≤K.list.length+1
def Gr (K:Kw):Prop:=CI K
theorem Gr.ep {K:Kw} (h:Gr K):∀ x∈K.nds,x.R.status=3∨x.R.epoch<(K.groups.length:Int):=fun x hx=>by
 by_cases h3:x.R.status=3
 ·exact .inl h3
 ·have:=((CI.nd h x hx).1.gp h3).1
  have hl:=(CI.gi h).len;exact .inr (by omega)
section
variable {N:Nat} {w w':World} {g:Nat} {K K':Kw} {V V':Kv}
theorem KI.log (h:KI K):∀ x∈K.nds,x.R.log.length≤1000:=fun x hx=>by
 obtain⟨q,hq⟩:=List.getElem?_of_mem hx
 have:=(h.nod q x hq).ok.lg
 omega
theorem KI.ep (h:KI K):∀ x∈K.nds,0≤x.R.epoch∧x.R.epoch≤1000:=fun x hx=>by
 obtain⟨q,hq⟩:=List.getElem?_of_mem hx
 have:=(h.nod q x hq).ok.ep
 omega
theorem KI.gsz (h:KI K):∀ t∈K.groups,t.size=3∨t.size=5:=fun t ht=>by
 have hl:=jq (h.grps t ht);have e:t.data.toList.length=t.size:=by rw[Array.length_toList];rfl
 omega
theorem KI.opsz (h:KI K):∀ e∈K.list,Kc e.2.2:=fun e he=>(nW (h.list.2 e he).2.2.2.2.1).sz
theorem KI.fails (h:KI K) {p:Int} (hp:sV p):KI { K with part:=p }:=⟨⟨h.sz.n3,h.sz.n7,h.sz.nds,h.sz.down,h.sz.begun,h.sz.opn⟩,hp,h.nod,h.net,h.wish,h.opn,h.list,h.grps,h.li,h.gl⟩
theorem KI.post (h:KI K) (f t:Int) (s:ByteArray) (h1 : -9≤t∧t<K.n) (h2:0<s.size):KI { K with net:=K.net++[(f,t,s)] }:=⟨⟨h.sz.n3,h.sz.n7,h.sz.nds,h.sz.down,h.sz.begun,h.sz.opn⟩,h.part,h.nod,fun p hp=>by
 rcases List.mem_append.1 hp with q|q
 ·exact h.net p q
 ·simp at q;subst q;exact⟨h1.1,h1.2,h2⟩,h.wish,h.opn,h.list,h.grps,h.li,h.gl⟩
theorem Ca (f t:Int) (s:ByteArray):dI { K with net:=K.net++[(f,t,s)] }=dI K+1:=by
 unfold dI;simp only[List.length_append,List.length_cons,List.length_nil];omega
theorem KI.gone (h:KI K) (k:Nat):KI { K with net:=K.net.take k++K.net.drop (k+1) }:=⟨⟨h.sz.n3,h.sz.n7,h.sz.nds,h.sz.down,h.sz.begun,h.sz.opn⟩,h.part,h.nod,fun p hp=>by
 rcases List.mem_append.1 hp with q|q
 ·exact h.net p (List.mem_of_mem_take q)
 ·exact h.net p (List.mem_of_mem_drop q),h.wish,h.opn,h.list,h.grps,h.li,h.gl⟩
theorem BZ {k:Nat} (hk:k<K.net.length):dI { K with net:=K.net.take k++K.net.drop (k+1) }+1=dI K:=by
 unfold dI;simp only[List.length_append,List.length_take,List.length_drop];omega
structure StP (N:Nat) (w w':World) (g:Nat) (K:Kw) (V:Kv) (c:Nat) (b:Bool) (K':Kw) (V':Kv):Prop where
 kst:Kst N w w' g K V K' V'
 ki:KI K'
 ms:dI K'≤dI K+c
 net:K.net.length≤K'.net.length
 n:K'.n=K.n
 gr:b=true→Gr K'
def StE (N:Nat) (w w':World) (g:Nat) (K:Kw) (V:Kv) (c:Nat) (e:Ending):Prop:=∃ b K' V',e=Zr (.bool b)∧StP N w w' g K V c b K' V'
end
theorem Ng {e:En} {E E':Int} (h0:0≤E) (h1:E≤10) (h0':0≤E') (h1':E'≤10) (h:mTx e E=mTx e E'):E=E':=by
 unfold mTx at h;have h2:((⟨#[109,32]⟩:ByteArray)++dg e.1++SP++dg e.2.1++SP++dg E++SP++e.2.2.extract 1 e.2.2.size).data.toList=((⟨#[109,32]⟩:ByteArray)++dg e.1++SP++dg e.2.1++SP++dg E'++SP++e.2.2.extract 1 e.2.2.size).data.toList:=by rw[h]
 simp only[ByteArray.data_append,Array.toList_append] at h2;have h3:=List.append_cancel_left (List.append_cancel_right (List.append_cancel_right h2));have a:=iD h0 (by omega:E≤999)
 have b:=iD h0' (by omega:E'≤999)
 rw[h3] at a;omega
theorem OO {a b:Int} (h0:0≤a) (h1:a≤999) (h0':0≤b) (h1':b≤999) (h:dg a=dg b):a=b:=by
 have x:=iD h0 h1;have y:=iD h0' h1';rw[h] at x;omega
def Done (R:Rp) (mi:Pm→Prop) (R':Rp):Prop:=R'=R∨R'=R.lF∨R'=R.suspect∨∃ P,Rp.MOk R.n P∧mi P∧R'=R.take P
theorem Done.same {R:Rp} {mi:Pm→Prop}:Done R mi R:=.inl rfl
theorem Done.lF {R:Rp} {mi:Pm→Prop}:Done R mi R.lF:=.inr (.inl rfl)
theorem Done.suspect {R:Rp} {mi:Pm→Prop}:Done R mi R.suspect:=.inr (.inr (.inl rfl))
theorem Done.take {R:Rp} {mi:Pm→Prop} (P:Pm) (h:Rp.MOk R.n P) (m:mi P):Done R mi (R.take P):=.inr (.inr (.inr ⟨P,h,m,rfl⟩))
section
variable {K:Kw} {q:Nat} {x:Nod} {R':Rp}
structure Nxt (K:Kw) (R':Rp) (L':List En) (G':List ByteArray):Prop where
 l:K.list <+: L'
 g:K.groups <+: G'
 gi:GI L' G' K.n
 d:R'.status≠3→R'.decided≤L'.length∧R'.log.take R'.decided=L'.take R'.decided
def jN (B:List Int) (q:Nat) (R':Rp):List Int:=if R'.status=1 then B.set q (max (B.getD q (-1)) R'.epoch) else B
theorem Hl (B:List Int) (q:Nat) (R':Rp) (k:Nat):B.getD k (-1)≤(jN B q R').getD k (-1):=by
 unfold jN
 split
 ·by_cases h:q=k
  ·subst h;by_cases hq:q<B.length
   ·rw[List.getD_eq_getElem?_getD (l:=B.set _ _),List.getElem?_set_self hq]
    show B.getD q (-1)≤max _ _
    omega
   ·rw[List.set_eq_of_length_le (by omega)];omega
  ·rw[List.getD_eq_getElem?_getD (l:=B.set _ _),List.getElem?_set_ne h,← List.getD_eq_getElem?_getD];omega
 ·omega
theorem MG {B:List Int} {q:Nat} {R':Rp} (hq:q<B.length) (h1:R'.status=1):R'.epoch≤(jN B q R').getD q (-1):=by
 unfold jN;rw[if_pos h1,List.getD_eq_getElem?_getD,List.getElem?_set_self hq]
 show R'.epoch≤max _ _
 omega
theorem Nxt.up (ci:CI K) {L':List En} {G':List ByteArray} (N:Nxt K R' L' G'):Up K.list L' K.groups G' K.begun (jN K.begun q R'):=⟨N.l,N.g,ci.gi.len,Hl _ _ _⟩
theorem CB (ci:CI K) (hi:KI K) (hx:K.nds[q]? = some x) (hd:Done x.R (MI K.list (wt K.wishes) K.groups K.begun) R') (ha:Rp.RcI R') (hid:R'.id=x.R.id) {L':List En} {G':List ByteArray} (N:Nxt K R' L' G') :
  Cs L' (wt K.wishes) G' (jN K.begun q R') x.R R':=by
 have ni:=hi.nod q x hx;obtain⟨ri,dr,dl⟩:=ci.nd x (List.mem_of_getElem? hx)
 have u:=N.up (q:=q) ci;have ri':=ri.up u ni.ok
 have dl':=dl.up N.l
 have c0:Cs L' (wt K.wishes) G' (jN K.begun q R') x.R x.R:=⟨ni.ok,rfl,rfl,ri',ni.sv,dr,fun o ho=>.inl ho⟩
 have hG:GI L' G' x.R.n:=by rw[ni.n];exact N.gi
 have hql:q<K.begun.length:=by
  have h1:=hi.sz.begun;have h2:=hi.sz.nds;have:q<K.nds.length:=by
   rcases Nat.lt_or_ge q K.nds.length with z|z
   ·exact z
   ·rw[List.getElem?_eq_none z] at hx;cases hx
  omega
 have F:Fin L' (jN K.begun q R') R':=by
  by_cases h3:R'.status=3
  ·obtain⟨_,_,z1,z2⟩:=ha h3
   exact⟨by rw[z2];omega,by rw[z2];rfl,fun h=>by omega⟩
  ·exact⟨(N.d h3).1,(N.d h3).2,fun h1=>by
    have e:R'.id.toNat=q:=by rw[hid,ni.id];rfl
    rw[e];exact MG hql h1⟩
 rcases hd with rfl|rfl|rfl|⟨P,hm,mi,rfl⟩
 ·exact c0
 ·exact c0.lF hG
 ·exact c0.suspect hG
 ·exact c0.take hG dl' ni.rc hm (mi.up u) F
theorem Ho {s:ByteArray} {n:Int} (h:aV s.data.toList n=true):jJ (dA s)=s:=by
 have hb:∀ x∈dA s,0≤x∧x<10:=fun y hy=>by
  unfold dA at hy;obtain⟨b,hb,rfl⟩:=List.mem_map.1 hy
  obtain⟨k,hk,rfl⟩:=List.getElem_of_mem hb
  have:=nJ h k hk
  rw[List.getD_eq_getElem?_getD,List.getElem?_eq_getElem hk] at this;have h0:0≤aF [s.data.toList[k]]:=this.1
  refine⟨h0,?_⟩
  have e:=yX h0;have:=yZ (aF [s.data.toList[k]]).toNat
  rcases Nat.lt_or_ge (aF [s.data.toList[k]]).toNat 10 with z|z
  ·omega
  ·have l2:2≤(jo (aF [s.data.toList[k]]).toNat).length:=by
    rw[yY (by omega),List.length_append]
    have:1≤(jo ((aF [s.data.toList[k]]).toNat / 10)).length:=by
     unfold jo;split <;> simp
    simp only[List.length_cons,List.length_nil];omega
   rw[e] at l2;simp at l2
 apply bytes_inj
 rw[tZ hb];unfold dA;rw[List.map_map]
 conv=>rhs;rw[← List.map_id s.data.toList]
 refine List.map_congr_left fun b hbm=>?_
 have h0:=(hb (aF [b]) (List.mem_map.2 ⟨b,hbm,rfl⟩));have e:=yX h0.1;rw[uq (by omega)] at e
 show UInt8.ofNat (48+(aF [b]).toNat)=b
 simpa using e
theorem Kq {L':List En} {T:Wt} {G':List ByteArray} {B':List Int} {r:Rp} {n:Int} (hG:GI L' G' n) (c:Cs L' T G' B' r R') (h3:R'.status≠3) :
  0≤R'.epoch∧R'.epoch<(G'.length:Int)∧jJ R'.grp=G'.getD R'.epoch.toNat ⟨#[]⟩∧(iQ R'.grp R'.id=true↔(R'.status=1∨R'.status=2))∧(R'.status=1→(regs R'.log:Int)=R'.epoch∨(regs R'.log:Int)=R'.epoch+1):=by
 obtain⟨g1,g2⟩:=c.ri.gp h3
 have e0:=c.ok.ep.1;refine⟨e0,by rw[hG.len];omega,?_,c.ri.me h3,fun h1=>?_⟩
 ·rw[g2];exact Ho (hG.grp e0 g1)
 ·have lg:=c.ri.lg (.inl h1);have:=lg.ge;have:=lg.rg;omega
end
theorem Aj (a b:List En):pV (a++b)=pV a++pV b:=by unfold pV;rw[List.filter_append,List.map_append]
theorem Iu {n:Int} {l:List En} (h:∀ e∈l,jd n e):∀ t∈pV l,aV t.data.toList n=true:=fun t ht=>by
 unfold pV at ht;obtain⟨e,he,rfl⟩:=List.mem_map.1 ht
 obtain⟨he1,he2⟩:=List.mem_filter.1 he
 have ha:=(h e he1).2.2.2.2.1;unfold jH at ha;have:e.2.2.data.toList.head? = some 114:=by unfold eT iU at he2;simpa using he2
 rw[if_pos this] at ha;rw[drop1];exact ha
theorem LP {n:Int} {e:En} (h:jd n e) (hr:eT e=true):Rp.eH e n=false:=by
 have ha:=h.2.2.2.2.1;unfold jH at ha;have:e.2.2.data.toList.head? = some 114:=by unfold eT iU at hr;simpa using hr
 rw[if_pos this] at ha;unfold Rp.eH;rw[hr,drop1,ha];rfl
theorem GI.more {L L':List En} {G:List ByteArray} {n:Int} (h:GI L G n) (hl:L <+: L') (ho:∀ e∈L',jd n e):∃ G',G <+: G'∧GI L' G' n:=by
 obtain⟨m,rfl⟩:=hl
 obtain⟨g0,hg⟩:=h.ex
 refine⟨G++pV m,⟨_,rfl⟩,⟨g0,by rw[hg,Aj];rfl⟩,fun t ht=>?_⟩
 rcases List.mem_append.1 ht with q|q
 ·exact h.ok t q
 ·exact Iu (fun e he=>ho e (List.mem_append_right _ he)) t q
section
variable {K:Kw} {q:Nat} {x:Nod} {R':Rp}
theorem Nb (ci:CI K) (hi:KI K) (hx:K.nds[q]? = some x) (hd:Done x.R (MI K.list (wt K.wishes) K.groups K.begun) R') (ha:Rp.RcI R') (hid:R'.id=x.R.id) (hn:R'.n=x.R.n) (hok:Ok R')
  (hp:K.list <+: R'.log.take R'.decided) {k:Nat} (hk:K.list.length≤k) (hkd:k<R'.decided):∀ w∈K.wishes,w.e=R'.log.getD k en0→w.bad=false∧w.floor≤(k:Int):=by
 intro w hw hwe;refine⟨?_,by have:=ci.fl.2 w hw;omega⟩
 have ni:=hi.nod q x hx;have dc:=hok.dc;have hen:∀ e∈R'.log,jd K.n e:=fun e he=>by have:=hok.le e he;rw[hn,ni.n] at this;exact this
 obtain⟨G',hg,gi⟩:=ci.gi.more hp (fun e he=>hen e (List.mem_of_mem_take he))
 have N:Nxt K R' (R'.log.take R'.decided) G':=⟨hp,hg,gi,fun _=>⟨by rw[List.length_take];omega,by rw[List.take_take,Nat.min_self]⟩⟩
 have c:=CB ci hi hx hd ha hid N;have hkl:k<R'.log.length:=by omega
 cases hb:w.bad
 ·rfl
 ·obtain⟨b1,b2⟩:=ci.bd w hw hb
  have e1:R'.log.getD k en0=R'.log[k]:=getD_at hkl
  rw[e1] at hwe;have hro:=hen _ (List.getElem_mem hkl);rcases b2 with b2|⟨E,e0,e10,eL,b2⟩
  ·rw[hwe,LP hro (by rw[← hwe];exact b1)] at b2;cases b2
  ·have j:=c.ri.jl.1 k hkl (by rw[← hwe];exact b1) (w.e,w.text) (List.mem_map.2 ⟨w,hw,rfl⟩) hwe
   simp only at j
   rw[b2,hwe] at j;have r1:=uR (R'.log.take k);have r2:=hok.lg;have r3:(R'.log.take k).length≤10:=by rw[List.length_take];omega
   have:=Ng e0 e10 (by omega) (by omega) j
   have h4:K.list <+: R'.log.take k:=by
    obtain⟨m,hm⟩:=hp
    refine⟨m.take (k-K.list.length),?_⟩
    have e5:(R'.log.take R'.decided).take k=R'.log.take k:=by rw[List.take_take,Nat.min_eq_left (by omega)]
    rw[← e5,← hm,List.take_append,List.take_of_length_le hk]
   obtain⟨m,hm⟩:=h4
   rw[← hm,mR] at this;omega
end
structure Bads (K:Kw) (W':List jS) (n:Int) (L':List En):Prop where
 t:wt W'=wt K.wishes
 f:∀ w∈W',∃ v∈K.wishes,v.floor=w.floor
 u:W'.Pairwise (fun a b=>a.e.1=b.e.1→a.e.2.1<b.e.2.1)
 b:∀ w∈W',w.bad=true→eT w.e=true∧(Rp.eH w.e n=true∨∃ E:Int,0≤E∧E≤10∧E<regs L'∧w.text=mTx w.e E)
theorem CI.act {K:Kw} {q:Nat} {x x1:Nod} {R':Rp} (ci:CI K) (hi:KI K) (hx:K.nds[q]? = some x) (hd:Done x.R (MI K.list (wt K.wishes) K.groups K.begun) R') (ha:Rp.RcI R') (hid:R'.id=x.R.id) (hn:R'.n=x.R.n) (hx1:x1.R={ R' with out:=[] })
  {L':List En} {G':List ByteArray} (N:Nxt K R' L' G') (hL:∀ e∈L',jd K.n e) {W':List jS} (hW:Bads K W' K.n L') {net':List (Int×Int×ByteArray)} (hnet:∀ p∈net',p∈K.net∨(0≤p.2.1→∃ o∈R'.out,o=p.2)) (ho:x.R.out=[])
  {K':Kw} (e1:K'.nds=K.nds.set q x1) (e2:K'.list=L') (e3:K'.groups=G') (e4:K'.begun=jN K.begun q R') (e5:K'.wishes=W') (e6:K'.net=net') (e7:K'.n=K.n) (e8:K'.floor=K.floor):CI K':=by
 have c:=CB ci hi hx hd ha hid N;have u:=N.up (q:=q) ci;have ll:K.list.length≤L'.length:=N.l.length_le
 refine⟨by rw[e2,e3,e7];exact N.gi,fun y hy=>?_,by rw[e5];exact hW.u,?_,?_,fun y hy=>?_,fun p hp hp0=>?_⟩
 ·rw[e5,hW.t] at hy;exact ci.tw y hy
 ·rw[e8,e2,e5];refine⟨by have:=ci.fl.1;omega,fun w hw=>?_⟩
  obtain⟨v,hv,e⟩:=hW.f w hw
  have:=ci.fl.2 v hv;omega
 ·rw[e5,e7,e2];exact hW.b
 ·rw[e1] at hy;rw[e2,e3,e4,e5,hW.t];rcases List.mem_or_eq_of_mem_set hy with h|rfl
  ·obtain⟨a,b,d⟩:=ci.nd y h
   obtain⟨j,hj⟩:=List.getElem?_of_mem h
   exact⟨a.up u (hi.nod j y hj).ok,b,d.up N.l⟩
  ·rw[hx1];refine⟨c.ri.out [],c.dr,?_⟩
   by_cases h3:R'.status=3
   ·obtain⟨_,_,z1,z2⟩:=ha h3
    exact⟨by show R'.decided≤_;rw[z2];omega,by show R'.log.take R'.decided=_;rw[z2];rfl⟩
   ·exact⟨(N.d h3).1,(N.d h3).2⟩
 ·rw[e6] at hp;rw[e2,e3,e4,e5,e7,hW.t];rcases hnet p hp with h|h
  ·exact fun P hw hM=>(ci.nt p h hp0 P hw hM).up u
  ·obtain⟨o,ho1,ho2⟩:=h hp0
   have hn7:=hi.sz.n7;rcases c.out o ho1 with z|z
   ·rw[ho] at z;simp at z
   ·rw[(hi.nod q x hx).n] at z;rcases z with ⟨_,_,_,P,p1,p2,p3,_,p5⟩|⟨k,hk,z1,_⟩|⟨e,z1,_,z3,z4,_⟩
    ·rw[← ho2,p1];exact NT.sent hn7 p2 p3 p5
    ·exfalso
     rw[ho2,getD_at hk] at z1;have:=(hL _ (List.getElem_mem hk)).1
     omega
    ·exfalso
     obtain⟨y,hy,rfl⟩:=z4
     have:=(ci.tw y hy).c
     rw[ho2] at z1;omega
section
variable {L:List En} {T:Wt} {G:List ByteArray} {B:List Int} {K K':Kw}
structure Bare (R:Rp):Prop where
 s:R.status=3
 l:R.log=[]
 d:R.decided=0
 a:R.answers=[]
 v:R.aI=[]
theorem Bare.ri {R:Rp} (h:Bare R):RI L T G B R :=
 ⟨⟨fun p hp=>by rw[h.l] at hp;simp at hp,fun e he=>by rw[h.l] at he;simp at he⟩,fun a ha=>by rw[h.a] at ha;simp at ha,fun v hv=>by rw[h.v] at hv;simp at hv,fun q=>absurd h.s q,fun q=>absurd h.s q,fun q=>by have:=h.s;omega,fun q=>by have:=h.s;omega⟩
theorem CI.of (ci:CI K) (h1:K'.n=K.n) (h2:K'.list=K.list) (h3:K'.groups=K.groups) (h4:K'.begun=K.begun) (h5:K'.wishes=K.wishes) (h6:∀ x∈K'.nds,x∈K.nds∨Bare x.R)
  (h7:∀ p∈K'.net,p∈K.net∨∃ x∈K.wishes,p.2.2=x.text) (h8:K'.floor≤K.list.length):CI K':=by
 refine⟨by rw[h1,h2,h3];exact ci.gi,by rw[h5];exact ci.tw,by rw[h5];exact ci.un,by rw[h2,h5];exact⟨h8,ci.fl.2⟩,by rw[h1,h2,h5];exact ci.bd,fun x hx=>?_,fun p hp hp0=>?_⟩
 ·rw[h2,h3,h4,h5];rcases h6 x hx with q|q
  ·exact ci.nd x q
  ·exact⟨q.ri,fun h=>absurd q.s h,by rw[q.d];omega,by rw[q.d];rfl⟩
 ·rw[h1,h2,h3,h4,h5];rcases h7 p hp with q|⟨x,hx,q⟩
  ·exact ci.nt p q hp0
  ·rw[q];exact NT.wish ci hx
theorem CI.gone (ci:CI K) (k:Nat):CI { K with net:=K.net.take k++K.net.drop (k+1) } :=
 ci.of rfl rfl rfl rfl rfl (fun x hx=>.inl hx) (fun p hp=>.inl (by
  rcases List.mem_append.1 hp with q|q
  ·exact List.mem_of_mem_take q
  ·exact List.mem_of_mem_drop q)) ci.fl.1
theorem CI.opnf (ci:CI K) (c:Nat) {f:Int} (hf:f=K.floor∨f≤(K.list.length:Int)):CI { K with opn:=K.opn.set c (-1),floor:=f } :=
 ci.of rfl rfl rfl rfl rfl (fun x hx=>.inl hx) (fun p hp=>.inl hp) (by
  show f≤(K.list.length:Int)
  rcases hf with rfl|h
  ·exact ci.fl.1
  ·exact h)
theorem CI.down (ci:CI K) (d:List Bool):CI { K with down:=d }:=ci.of rfl rfl rfl rfl rfl (fun x hx=>.inl hx) (fun p hp=>.inl hp) ci.fl.1
theorem CI.post (ci:CI K) (f t:Int) {v:jS} (hv:v∈K.wishes):CI { K with net:=K.net++[(f,t,v.text)] } :=
 ci.of rfl rfl rfl rfl rfl (fun x hx=>.inl hx) (fun p hp=>by
  rcases List.mem_append.1 hp with q|q
  ·exact .inl q
  ·simp only[List.mem_cons,List.not_mem_nil,or_false] at q;subst q;exact .inr ⟨v,hv,rfl⟩) ci.fl.1
theorem CI.ask (ci:CI K) {w:jS} (hw:Tw (w.e,w.text)) (hf:∀ x∈K.wishes,x.e.1=w.e.1→x.e.2.1<w.e.2.1) (hfl:w.floor≤K.list.length) (hb:w.bad=false) (h1:K'.n=K.n) (h2:K'.list=K.list) (h3:K'.groups=K.groups) (h4:K'.begun=K.begun) (h5:K'.wishes=K.wishes++[w])
  (h6:K'.nds=K.nds) (h7:K'.net=K.net) (h8:K'.floor=K.floor):CI K':=by
 have fr:Bv (wt K.wishes) (w.e,w.text):=fun z hz q=>by
  obtain⟨x,hx,rfl⟩:=List.mem_map.1 hz
  have:=hf x hx q.1
  have:=q.2
  simp only at this
  omega
 have ew:wt (K.wishes++[w])=wt K.wishes++[(w.e,w.text)]:=by unfold wt;simp
 refine⟨by rw[h1,h2,h3];exact ci.gi,?_,?_,?_,?_,fun x hx=>?_,fun p hp hp0=>?_⟩
 ·rw[h5,ew];intro y hy;rcases List.mem_append.1 hy with q|q
  ·exact ci.tw y q
  ·simp at q;subst q;exact hw
 ·rw[h5,List.pairwise_append];exact⟨ci.un,by simp,fun a ha b hb2=>by simp at hb2;subst hb2;exact hf a ha⟩
 ·rw[h8,h2,h5];refine⟨ci.fl.1,fun x hx=>?_⟩
  rcases List.mem_append.1 hx with q|q
  ·exact ci.fl.2 x q
  ·simp at q;subst q;exact hfl
 ·rw[h5,h1,h2];intro x hx hbx;rcases List.mem_append.1 hx with q|q
  ·exact ci.bd x q hbx
  ·simp at q;subst q;rw[hb] at hbx;cases hbx
 ·rw[h6] at hx;rw[h2,h3,h4,h5,ew];obtain⟨a,b,d⟩:=ci.nd x hx
  exact⟨a.wish fr,b,d⟩
 ·rw[h7] at hp;rw[h1,h2,h3,h4,h5,ew];exact fun P hw2 hM=>(ci.nt p hp hp0 P hw2 hM).wish fr
theorem Pf {n id:Int} {g:ByteArray} (hG:GI [] [g] n) (B:List Int):RI [] [] [g] B (Rp.new id n (dA g)):=by
 have e:(Rp.new id n (dA g)).status=if iQ (dA g) id then 1 else 4:=rfl
 refine⟨⟨fun p hp=>by simp[Rp.new,Rp.mk0] at hp,fun e he=>by simp[Rp.new,Rp.mk0] at he⟩,fun a ha=>by simp[Rp.new,Rp.mk0] at ha,fun v hv=>by simp[Rp.new,Rp.mk0] at hv,fun _=>?_,fun _=>⟨by simp[Rp.new,Rp.mk0,regs],rfl⟩,fun _=>?_,fun q=>?_⟩
 ·rw[e]
  show iQ (dA g) id=true↔_
  by_cases h:iQ (dA g) id=true
  ·rw[if_pos h];simp[h]
  ·rw[if_neg h];simp[h]
 ·exact⟨by simp[Rp.new,Rp.mk0],by simp[Rp.new,Rp.mk0,regs],by simp[Rp.new,Rp.mk0,gY],by simp[Rp.new,Rp.mk0,gY],by simp[Rp.new,Rp.mk0,regs],fun p hp=>by simp[Rp.new,Rp.mk0] at hp,fun e he=>by simp[Rp.new,Rp.mk0] at he⟩
 ·rw[e] at q;split at q <;> omega
end
def fV:List jS→Nat→List jS
 | [],_=>[]
 | x :: l,0=>{ x with bad:=true } :: l
 | x :: l,k+1=>x :: fV l k
theorem p8:∀ (l:List jS) (k:Nat),(fV l k).length=l.length
 | [],_=>rfl
 | x :: l,0=>rfl
 | x :: l,k+1=>by simp[fV,p8 l k]
theorem vC:∀ (l:List jS) (k:Nat),k<l.length→bL (fV l k)=(bL l).set (6*k+5) (.bool true)
 | [],_,h=>by simp at h
 | x :: l,0,_=>rfl
 | x :: l,k+1,h=>by
  have:=vC l k (by simpa using h)
  have e:6*(k+1)+5=(6*k+5)+1+1+1+1+1+1:=by omega
  rw[e];simp only[fV,bL,List.set_cons_succ,this]
theorem Cm:∀ (l:List jS) (k:Nat),(∀ x∈l,vK x)→∀ x∈fV l k,vK x
 | [],_,_,x,hx=>by simp[fV] at hx
 | y :: l,0,h,x,hx=>by
  rcases List.mem_cons.1 hx with rfl|hx
  ·have:=h y (by simp);exact⟨this.n1,this.n9,this.o1,this.o9,this.t1⟩
  ·exact h x (by simp[hx])
 | y :: l,k+1,h,x,hx=>by
  rcases List.mem_cons.1 hx with rfl|hx
  ·exact h _ (by simp)
  ·exact Cm l k (fun x hx=>h x (by simp[hx])) x hx
theorem KI.bad {K:Kw} (h:KI K) (k:Nat):KI { K with wishes:=fV K.wishes k } :=
 ⟨⟨h.sz.n3,h.sz.n7,h.sz.nds,h.sz.down,h.sz.begun,h.sz.opn⟩,h.part,h.nod,h.net,Cm _ k h.wish,fun v hv=>by rw[p8];exact h.opn v hv,h.list,h.grps,h.li,h.gl⟩
theorem Lc (K:Kw) (k:Nat):dI { K with wishes:=fV K.wishes k }=dI K:=by unfold dI;simp only[p8]
theorem Nc (l:List En) (op:ByteArray):(pq l op).size≤10:=by
 unfold pq;have e1:OKb.size=2:=rfl
 have e2:NOb.size=2:=rfl
 have e3:ql.size=1:=rfl
 have e4:∀ x,(jG x).size=1:=fun x=>rfl
 repeat' split
 all_goals (first|omega|(rw[e4];omega))
section
variable {N:Nat} {w w':World} {g:Nat} {K K':Kw} {V V':Kv}
theorem pF {e:TypeId} {s n:Nat} {v:Value} {xs:List Value} (h:w.ownsRow 0 e s v n xs) (hn:0<n):∃ b cap,v=Y (some ⟨b,0,O⟩) n cap∧b<w.heap.size:=by
 rcases h.2 with ⟨_,h2⟩|⟨b,cap,cur,rfl,_,hb,_⟩
 ·omega
 ·exact⟨b,cap,rfl,lt_of_block hb⟩
theorem KAt.setRow (h:KAt N w g K V) {i:Nat} {r:Row} (hi:(eY K V)[i]? = some r) {b cap:Nat} (hv:r.v=Y (some ⟨b,0,O⟩) r.n cap) (j:Nat) (u:Value)
  (hc:mF K' V=mF K V) (hr:eY K' V=(eY K V).set i { r with xs:=r.xs.set j u }) (hn:K'.nds=K.nds):Kst N w (w.setCell ⟨b,j,O⟩ u) g K V K' V:=by
 have ho:=h.rows r (List.mem_of_getElem? hi);rw[hv] at ho;have hs:=ho.stored j u;refine h.inRow hi (r':={ r with xs:=r.xs.set j u }) ?_ ?_ rfl hc hr hn
 ·rw[hv];exact Kp.row hs.2
 ·show (w.setCell ⟨b,j,O⟩ u).ownsRow 0 r.e r.s r.v r.n (r.xs.set j u)
  rw[hv];exact hs.1
theorem KAt.fz (h:KAt N w g K V) {i:Nat} {r:Row} (hi:(eY K V)[i]? = some r) {b cap:Nat} (hv:r.v=Y (some ⟨b,0,O⟩) r.n cap) (j:Nat):w.frozen? ⟨b,j,O⟩=false:=by
 have ho:=h.rows r (List.mem_of_getElem? hi);rw[hv] at ho;exact ho.frozenAt j
theorem KAt.fV (h:KAt N w g K V) {b cap:Nat} (hv:V.vW=Y (some ⟨b,0,O⟩) K.wishes.length cap) (k:Nat) (hk:k<K.wishes.length):Kst N w (w.setCell ⟨b,k*6+5,O⟩ (.bool true)) g K V { K with wishes:=fV K.wishes k } V :=
 h.setRow (i:=4) (r:=⟨99,6,V.vW,K.wishes.length,bL K.wishes⟩) rfl hv (k*6+5) (.bool true) rfl (by unfold eY;simp only[p8,vC _ k hk,Nat.mul_comm 6 k];rfl) rfl
def LMt (K:Kw) (c:Int) (t:ByteArray) (k:Nat):Prop:=∃ h:k<K.list.length,K.list[k].1=c∧t=⟨#[121,32]⟩++dg c++⟨#[32]⟩++dg K.list[k].2.1++⟨#[32]⟩++pq (K.list.take k) K.list[k].2.2
def WMt (K:Kw) (c:Int) (t:ByteArray) (k:Nat):Prop:=∃ h:k<K.wishes.length,K.wishes[k].e.1=c∧b0 K.wishes[k].e.2.2=114∧t=⟨#[121,32]⟩++dg c++⟨#[32]⟩++dg K.wishes[k].e.2.1++⟨#[32,98,97,100]⟩
def AnsP (N:Nat) (w w':World) (g:Nat) (K:Kw) (V:Kv) (c:Int) (t:ByteArray) (e:Ending):Prop:=∃ b K',e=Zr (.bool b)∧Kst N w w' g K V K' V∧((b=true∧(K'=K∨∃ k,WMt K c t k∧(∀ j,¬LMt K c t j)∧K'={ K with wishes:=fV K.wishes k }))∨(b=false∧K'={ K with part:=4 }∧(∀ k,¬LMt K c t k)∧∀ k,¬WMt K c t k))
theorem Mr {a b:ByteArray}:(a.toList==b.toList)=true↔a=b:=by
 rw[ByteArray.toList_eq,ByteArray.toList_eq,beq_iff_eq];exact⟨fun h=>by cases a;cases b;simp only[ByteArray.mk.injEq];exact Array.toList_inj.1 h,fun h=>by rw[h]⟩
theorem OA {a b:ByteArray}:(a.toList==b.toList)=false↔a≠b:=by
 cases h:(a.toList==b.toList)
 ·exact⟨fun _ q=>(by rw[Mr.2 q] at h;cases h),fun _=>rfl⟩
 ·exact⟨fun q=>absurd q (by decide),fun q=>absurd (Mr.1 h) q⟩
theorem xH (h:KAt N w g K V) (hi:KI K) (c:Int) (hc0:1≤c) (hc1:c≤9) (t:ByteArray) :
  Calls Tryz.prog 110 #[Zp (some ⟨g,0,O⟩),I J c,Z t] w fun e w'=>AnsP N w w' g K V c t e:=by
 obtain⟨aL,cL,hvL⟩:=aj h.rL
 have HC10:Hid (∀ w2,Below w.heap.size w w2→w2.cell? ⟨g,10,O⟩=some (Y aL K.list.length cL)):=fun w2 hw2=>by rw[← hvL];exact (h.below hw2).cell 10
 have HL:Hid (∀ w2,Below w.heap.size w w2→gW w2 (Y aL K.list.length cL) K.list):=fun w2 hw2=>by rw[← hvL];exact (h.below hw2).eL
 obtain⟨aW,cW,hvW⟩:=aj h.rW
 have HC8:Hid (∀ w2,Below w.heap.size w w2→w2.cell? ⟨g,8,O⟩=some (Y aW K.wishes.length cW)):=fun w2 hw2=>by rw[← hvW];exact (h.below hw2).cell 8
 have HW:Hid (∀ w2,Below w.heap.size w w2→jY w2 (Y aW K.wishes.length cW) K.wishes):=fun w2 hw2=>by rw[← hvW];exact (h.below hw2).eW
 have HF4:Hid (∀ w2,Below w.heap.size w w2→Calls Tryz.prog 66 #[Zp (some ⟨g,0,O⟩),I J 4] w2 fun e w'=>e=Zr (.bool false)∧Kst N w w' g K V { K with part:=4 } V):=fun w2 hw2=>(mG (h.below hw2) 4).mono (by
  rintro e w3 ⟨rfl,k⟩;exact⟨rfl,((Kst.refl h).below hw2).trans k⟩)
 have HY:Hid (∀ w2,Below w.heap.size w w2→AnsP N w w2 g K V c t (Zr (.bool true))):=fun w2 hw2=>⟨true,K,rfl,(Kst.refl h).below hw2,.inl ⟨rfl,.inl rfl⟩⟩
 have HNo:Hid (∀ w2,Kst N w w2 g K V { K with part:=4 } V→(∀ j,j<K.list.length→¬LMt K c t j)→(∀ j,j<K.wishes.length→¬WMt K c t j)→AnsP N w w2 g K V c t (Zr (.bool false))):=fun w2 k q1 q2=>⟨false,_,rfl,k,.inr ⟨rfl,rfl,fun j hj=>q1 j hj.1 hj,fun j hj=>q2 j hj.1 hj⟩⟩
 have HBad:Hid (∀ w2,Below w.heap.size w w2→∀ b,aW=some ⟨b,0,O⟩→∀ k,(hk:k<K.wishes.length)→WMt K c t k→(∀ j,j<K.list.length→¬LMt K c t j)→AnsP N w (w2.setCell ⟨b,k*6+5,O⟩ (.bool true)) g K V c t (Zr (.bool true))):=fun w2 hw2 b hb k hk hm hl=>by
  subst hb;exact⟨true,_,rfl,((Kst.refl h).below hw2).trans ((h.below hw2).fV hvW k hk),.inl ⟨rfl,.inr ⟨k,hm,fun j hj=>hl j hj.1 hj,rfl⟩⟩⟩
 have HFz:Hid (∀ w2,Below w.heap.size w w2→∀ b,aW=some ⟨b,0,O⟩→∀ j,w2.frozen? ⟨b,j,O⟩=false):=fun w2 hw2 b hb j=>by
  subst hb;exact (h.below hw2).fz (i:=4) (r:=⟨99,6,V.vW,K.wishes.length,bL K.wishes⟩) rfl hvW j
 have HA:Hid (0<K.wishes.length→∃ b,aW=some ⟨b,0,O⟩∧b<w.heap.size):=fun hp=>by
  obtain⟨b,cap,e,hb⟩:=pF h.rW hp
  rw[hvW] at e;cases e;exact⟨b,rfl,hb⟩
 have HNc:Hid (∀ w2,Calls Tryz.prog 31 #[I J c] w2 fun e w'=>e=Zr (Z (dg c))∧Below w2.heap.size w2 w'):=fun w2=>gI c w2 (by omega) (by omega)
 have sc:=fO c (by omega)
 have HNk:Hid (∀ k,(hk:k<K.list.length)→(∀ w2,Calls Tryz.prog 31 #[I J K.list[k].2.1] w2 fun e w'=>e=Zr (Z (dg K.list[k].2.1))∧Below w2.heap.size w2 w')∧(dg K.list[k].2.1).size≤10):=fun k hk=>by
  obtain⟨_,_,q1,q2,_⟩:=hi.list.2 _ (List.getElem_mem hk)
  exact⟨fun w2=>gI _ w2 (by omega) (by omega),fO _ (by omega)⟩
 have HRes:Hid (∀ (k:Nat) (hk:k<K.list.length) w2,Below w.heap.size w w2→Calls Tryz.prog 148 #[Zp (some ⟨g,0,O⟩),I J k] w2 fun e w'=>e=Zr (Z (pq (K.list.take k) K.list[k].2.2))∧Below w2.heap.size w2 w'):=fun k hk w2 hw2=>xI (h.below hw2) k hk hi.opsz
 have HRs:Hid (∀ (k:Nat) (hk:k<K.list.length),(pq (K.list.take k) K.list[k].2.2).size≤10):=fun k hk=>Nc _ _
 have HWk:Hid (∀ k,(hk:k<K.wishes.length)→(∀ w2,Calls Tryz.prog 31 #[I J K.wishes[k].e.2.1] w2 fun e w'=>e=Zr (Z (dg K.wishes[k].e.2.1))∧Below w2.heap.size w2 w')∧(dg K.wishes[k].e.2.1).size≤10∧1≤K.wishes[k].e.2.2.size):=fun k hk=>by
  have q:=hi.wish _ (List.getElem_mem hk);exact⟨fun w2=>gI _ w2 (by have:=q.n1;omega) (by have:=q.n9;omega),fO _ (by have:=q.n9;omega),q.o1⟩
 have hll:=hi.list.1;have hwl:K.wishes.length≤9223372036854775807:=by
  obtain⟨_,_,_,q1,q2⟩:=h.eW.shape
  omega
 have HL1:Hid (∀ (k:Nat) (hk:k<K.list.length),K.list[k].1≠c→¬LMt K c t k):=fun k hk h1 ⟨_,h2,_⟩=>h1 h2
 have HL2:Hid (∀ (k:Nat) (hk:k<K.list.length),(t.toList==(⟨#[121,32]⟩++dg c++⟨#[32]⟩++dg K.list[k].2.1++⟨#[32]⟩++pq (K.list.take k) K.list[k].2.2).toList)=false→¬LMt K c t k):=fun k hk h1 ⟨_,_,h3⟩=>OA.1 h1 h3
 have HW0:Hid (∀ (k:Nat) (hk:k<K.wishes.length),K.wishes[k].e.1=c→b0 K.wishes[k].e.2.2=114→(t.toList==(⟨#[121,32]⟩++dg c++⟨#[32]⟩++dg K.wishes[k].e.2.1++⟨#[32,98,97,100]⟩).toList)=true→WMt K c t k):=fun k hk h1 h2 h3=>⟨hk,h1,h2,Mr.1 h3⟩
 have HW1:Hid (∀ (k:Nat) (hk:k<K.wishes.length),K.wishes[k].e.1≠c→¬WMt K c t k):=fun k hk h1 ⟨_,h2,_⟩=>h1 h2
 have HW2:Hid (∀ (k:Nat) (hk:k<K.wishes.length),b0 K.wishes[k].e.2.2≠114→¬WMt K c t k):=fun k hk h1 ⟨_,_,h2,_⟩=>h1 h2
 have HW3:Hid (∀ (k:Nat) (hk:k<K.wishes.length),(t.toList==(⟨#[121,32]⟩++dg c++⟨#[32]⟩++dg K.wishes[k].e.2.1++⟨#[32,98,97,100]⟩).toList)=false→¬WMt K c t k):=fun k hk h1 ⟨_,_,_,h3⟩=>OA.1 h1 h3
 clear h hi;generalize LMt K c t=LM at *;generalize WMt K c t=WM at *;generalize dg c=dc at *;have z1:¬9223372036854775807<2+dc.size:=by omega
 have z2:¬9223372036854775807<2+dc.size+1:=by omega
 go_enter Tryz.func110,Tryz.ntmps110;go_wp2_with fail;refine (HNc.out _).mono ?_;rintro e w1 ⟨rfl,hb1⟩;go_wp2_with fail;go_loopw [8] (fun i wr=>∃ k:Nat,k≤K.list.length∧i=I J k∧Below w.heap.size w wr∧∀ j,j<k→¬LM j) (fun i _=>K.list.length-(intOf i).toNat)
 case atStart=>exact⟨0,Nat.zero_le _,rfl,hb1,fun j hj=>by omega⟩
 case round =>
  obtain⟨k,hk,rfl,hbw,hno⟩:=hrel
  have c10:=HC10.out _ hbw;by_cases hlt:k<K.list.length
  ·obtain⟨b1',o1,rfl,_,d1,d2,d3⟩:=(HL.out _ hbw).get k hlt
   have j1:(0:Int)≤(k:Int):=by omega
   have j2:(k:Int)<(K.list.length:Int):=by omega
   obtain⟨q1,q2⟩:=HNk.out k hlt
   have HQ1:=ah q1;clear q1;have HQ2:Hid (∀ w2,Below w.heap.size w w2→Calls Tryz.prog 148 #[Zp (some ⟨g,0,O⟩),I J k] w2 fun e w'=>e=Zr (Z (pq (K.list.take k) K.list[k].2.2))∧Below w2.heap.size w2 w'):=HRes.out k hlt
   have q3:=HRs.out k hlt;have HD1:Hid (∀ w2,Below w.heap.size w w2→w2.cell? ⟨g,10,O⟩=some (Y (some ⟨b1',o1,O⟩) K.list.length cL)∧w2.cell? ⟨b1',o1+k*3,O⟩=some (I J K.list[k].1)):=fun w2 hw2=>by
    obtain⟨b2,o2,e2,_,f1,_⟩:=(HL.out _ hw2).get k hlt
    cases e2;exact⟨HC10.out _ hw2,f1⟩
   have HM1:=ah (HL1.out k hlt);have HM2:=ah (HL2.out k hlt);have HSt:Hid (¬LM k→∀ j,j<k+1→¬LM j):=fun hq j hj=>by
    by_cases e:j=k
    ·subst e;exact hq
    ·exact hno j (by omega)
   clear HL1 HL2 hno;generalize K.list[k].1=cl at *;generalize K.list[k].2.1=nu at *;generalize pq (K.list.take k) K.list[k].2.2=rs at *;generalize dg nu=dn at *;have z3:¬9223372036854775807<2+dc.size+1+dn.size:=by omega
   have z4:¬9223372036854775807<2+dc.size+1+dn.size+1:=by omega
   have z5:¬9223372036854775807<2+dc.size+1+dn.size+1+rs.size:=by omega
   go_wp2_with fail;refine (HQ1.out _).mono ?_;rintro e w2 ⟨rfl,hb2⟩;have hb3:Below w.heap.size w w2:=hbw.trans (hb2.mono hbw.size)
   go_wp2_with fail;refine (HQ2.out _ hb3).mono ?_;rintro e w3 ⟨rfl,hb4⟩;have hb5:Below w.heap.size w w3:=hb3.trans (hb4.mono hb3.size)
   obtain⟨f1,f2⟩:=HD1.out _ hb5
   clear c10 d1 d2 d3;by_cases hq:cl=c
   ·have hq':(cl==c)=true:=beq_iff_eq.2 hq
    clear hq;go_wp2_with fail
    ·go_ret;exact HY.out _ hb5
    ·rename_i hte;have hst:=HSt.out (HM2.out hte);go_roundw
     case rel=>exact⟨k+1,by omega,by go_num,hb5,hst⟩
     case measure=>simp[intOf];omega
   ·have hq':(cl==c)=false:=beq_eq_false_iff_ne.2 hq
    have hst:=HSt.out (HM1.out hq);clear hq;go_wp2;go_roundw
    case rel=>exact⟨k+1,by omega,by go_num,hb5,hst⟩
    case measure=>simp[intOf];omega
  ·obtain⟨wL,HwL⟩:∃ x,x=wr:=⟨_,rfl⟩
   subst HwL;have HnL:Hid (∀ j,j<K.list.length→¬LM j):=fun j hj=>hno j (by omega)
   clear hno HL1 HL2;go_wp2_with fail;go_loopw [11] (fun i wr=>∃ k:Nat,k≤K.wishes.length∧i=I J k∧Below w.heap.size w wr∧∀ j,j<k→¬WM j) (fun i _=>K.wishes.length-(intOf i).toNat)
   case atStart=>exact⟨0,Nat.zero_le _,rfl,hbw,fun j hj=>by omega⟩
   case round =>
    obtain⟨m,hm,rfl,hbv,hnw⟩:=hrel
    have c8:=HC8.out _ hbv;by_cases hlm:m<K.wishes.length
    ·obtain⟨bW,rfl,hbW⟩:=HA.out (by omega)
     obtain⟨b2,o2,e2',_,d1,d2,d3,_⟩:=(HW.out _ hbv).get m hlm
     cases e2';simp only[Nat.zero_add] at d1 d2 d3;obtain⟨q1,q2,q3⟩:=HWk.out m hlm
     have HQ1:=ah q1;clear q1;have j1:(0:Int)≤(m:Int):=by omega
     have j2:(m:Int)<(K.wishes.length:Int):=by omega
     have HM0:=ah (HW0.out m hlm);have HM1:=ah (HW1.out m hlm);have HM2:=ah (HW2.out m hlm);have HM3:=ah (HW3.out m hlm);have HSt:Hid (¬WM m→∀ j,j<m+1→¬WM j):=fun hq j hj=>by
      by_cases e:j=m
      ·subst e;exact hq
      ·exact hnw j (by omega)
     clear HW0 HW1 HW2 HW3 hnw;generalize K.wishes[m].e.1=cl at *;generalize K.wishes[m].e.2.1=nu at *;generalize K.wishes[m].e.2.2=op at *;generalize dg nu=dn at *;have z3:¬9223372036854775807<2+dc.size+1+dn.size:=by omega
     have z4:¬9223372036854775807<2+dc.size+1+dn.size+4:=by omega
     go_wp2_with fail;refine (HQ1.out _).mono ?_;rintro e w4 ⟨rfl,hb4⟩;have hbx:Below w.heap.size w w4:=(hbv.alloc hbv.size _).trans (hb4.mono (by have:=hbv.size;simp;omega))
     have hx:=(hb4.block wr.heap.size (by simp)).trans (heap_alloc_new wr _)
     have e0:w4.cell? ⟨wr.heap.size,0,O⟩=some (I J cl):=by simp[World.cell?,hx]
     have e1:w4.cell? ⟨wr.heap.size,1,O⟩=some (I J nu):=by simp[World.cell?,hx]
     have e2:w4.cell? ⟨wr.heap.size,2,O⟩=some (Z op):=by simp[World.cell?,hx]
     have c8':=HC8.out _ hbx
     have fz:=HFz.out _ hbx bW rfl (m*6+5);obtain⟨b3,o3,e3,_,_,_,_,_,_,d6⟩:=(HW.out _ hbx).get m hlm
     cases e3;simp only[Nat.zero_add] at d6;have j3:(0:Int)<(op.size:Int):=by omega
     clear hx d1 d2 d3 c8 hb4;by_cases hq:cl=c
     ·have hq':(cl==c)=true:=beq_iff_eq.2 hq
      have HqE:=ah hq;clear hq;have e0':b0 op=(op[0].toNat:Int):=by unfold b0;rw[atS (by omega)]
      by_cases h114:(op[0].toNat:Int)=114
      ·have h114':((op[0].toNat:Int)==114)=true:=beq_iff_eq.2 h114
       have HbE:=ah (e0'.trans h114);clear h114 e0';go_wp2_with fail
       ·rename_i hte;have hm:=HM0.out HqE.out HbE.out hte;go_ret;exact HBad.out _ hbx bW rfl m hlm hm HnL.out
       ·rename_i hte;have hst:=HSt.out (HM3.out hte);go_roundw
        case rel=>exact⟨m+1,by omega,by go_num,hbx,hst⟩
        case measure=>simp[intOf];omega
      ·have h114':((op[0].toNat:Int)==114)=false:=beq_eq_false_iff_ne.2 h114
       have hst:=HSt.out (HM2.out (by rw[e0'];exact h114))
       clear h114 e0';go_wp2;go_roundw
       case rel=>exact⟨m+1,by omega,by go_num,hbx,hst⟩
       case measure=>simp[intOf];omega
     ·have hq':(cl==c)=false:=beq_eq_false_iff_ne.2 hq
      have hst:=HSt.out (HM1.out hq);clear hq;go_wp2;go_roundw
      case rel=>exact⟨m+1,by omega,by go_num,hbx,hst⟩
      case measure=>simp[intOf];omega
    ·have HnW:Hid (∀ j,j<K.wishes.length→¬WM j):=fun j hj=>hnw j (by omega)
     clear hnw;go_wp2_with fail;refine (HF4.out _ hbv).mono ?_;rintro e w2 ⟨rfl,k2⟩;go_wp2;go_ret;exact HNo.out _ k2 HnL.out HnW.out
end
theorem Fp {P:Program} {ops:Array Oper} {rest:List Oper} {o:Oper} {a:Act} {Q:Exit→Act→World→Prop} (hgd:o.guard=O) (s x:Operand) (t:TypeId)
  (ho:o.op=.call { callee:=.builtin .append,args:=#[s,x],argTypes:=#[t,t] })
  (base:Nat) (e:TypeId) (i:TypeInfo) (z:Value) (size bytes:Nat) (ht:P.underlying t=some (.slice e)) (hi:P.info? e=some i) (hz:i.zero=some z)
  (hsize:i.size=size) (hby:i.bytes=bytes) (hzs:z.cells.size=size) (hsz:0<size)
  (w:World) (v:Value) (n:Nat) (xs:List Value) (hs:a.eval s=v) (hown:w.ownsRow base e size v n xs)
  (vx:Value) (m:Nat) (news:List Value) (hx:a.eval x=vx) (hrd:Rd w size vx m news) (h1:∀ u∈news,u.oneCell'=true)
  (hn:n+m≤maxLen) (hm:(n+m)*bytes≤140737488355328) (hbase:base≤w.heap.size)
  (h:∀ v' w',w'.ownsRow base e size v' (n+m) (xs++news)→w.grownBy w' v.ownBlock→Below base w w'→wpList P ops Q rest (a.put o.dst v') w') :
  wpList P ops Q (o :: rest) a w:=by
 rcases hrd.2 with ⟨rfl,rfl⟩|⟨b,off,cap,rfl,h2,h3,h4,h5⟩
 ·have hnil:news=[]:=List.eq_nil_of_length_eq_zero (by have:=hrd.1;omega)
  subst hnil;refine wpList_append_own_none hgd s x t ho base e i size ht hi v n xs hs hown hx ?_;exact h v w (by simpa using hown) ⟨rfl,rfl,rfl,Nat.le_refl _,fun _ _ _=>rfl⟩ (Below.refl _ _)
 ·refine wpList_append_own _ hgd s x t ho base e i z size bytes ht hi hz hsize hby hzs hsz v n xs hs hown ⟨b,off,O⟩ m cap news hx hrd.1 ?_ h1 hn hm hbase ?_
  ·intro j u hj;have hplain:(⟨b,off,O⟩:Addr).add j=⟨b,off+j,O⟩:=by unfold Addr.add;split <;> simp_all
   rw[hplain];exact h5 j u hj
  ·intro v' w' k2 k3 _;exact h v' w' k2 k3 ((Below.refl _ w).grown k3 hbase (fun k hk=>(hown.lt k hk).1))
theorem nU (l:List (Int×Int×ByteArray)):(aA l).length=l.length*3:=by
 induction l with
 | nil=>rfl
 | cons a l ih=>simp[aA] at *;omega
theorem I5 {l:List (Int×Int×ByteArray)} {w:World} {b off:Nat} (hce:∀ j u,(aA l)[j]? = some u→w.cell? ⟨b,off+j,O⟩=some u) (k:Nat):∀ j u,(aA (l.take k))[j]? = some u→w.cell? ⟨b,off+j,O⟩=some u:=fun j u hj=>by
 refine hce j u ?_;rw[← List.take_append_drop k l,kF,List.getElem?_append_left (List.getElem?_eq_some_iff.1 hj).1];exact hj
theorem I4 {l:List (Int×Int×ByteArray)} {w:World} {b off:Nat} (hce:∀ j u,(aA l)[j]? = some u→w.cell? ⟨b,off+j,O⟩=some u) (k:Nat) (hk:k≤l.length):∀ j u,(aA (l.drop k))[j]? = some u→w.cell? ⟨b,off+k*3+j,O⟩=some u:=fun j u hj=>by
 have hl:(aA (l.take k)).length=k*3:=by rw[nU,List.length_take,Nat.min_eq_left hk]
 have:=hce (k*3+j) u (by
  rw[← List.take_append_drop k l,kF,List.getElem?_append_right (by omega),hl,Nat.add_sub_cancel_left]
  exact hj)
 rwa [← Nat.add_assoc] at this
section
variable {N:Nat} {w w':World} {g:Nat} {K K':Kw} {V V':Kv}
theorem BQ (h:KAt N w g K V) (k:Nat) (hk:k<K.net.length) (hl:K.net.length≤1000000000000) :
  Calls Tryz.prog 58 #[Zp (some ⟨g,0,O⟩),I J k] w fun e w'=>e=Zr (.tuple #[])∧∃ v,Kst N w w' g K V { K with net:=K.net.take k++K.net.drop (k+1) } { V with vP:=v }:=by
 obtain⟨i0,hi,hz0,hz1,hz2⟩:=info_parts Tryz.infoPk
 have hrow:Rd w 3 V.vP K.net.length (aA K.net):=Rd.bR h.rP
 have c7:w.cell? ⟨g,7,O⟩=some V.vP:=h.cell 7
 have f7:=h.free 7;have hne:some g≠V.vP.ownBlock:=h.gne (i:=3) rfl
 rcases hrow.2 with ⟨h1,h2⟩|⟨b,off,cap,hvP,hcap,hmax,hbl,hce⟩
 ·omega
 rw[hvP] at c7 hne;have hlb:=h.lb;have HH:=ah h;clear h;have j1:(0:Int)≤(k:Int):=by omega
 have j2:(k:Int)<(K.net.length:Int):=by omega
 have j3:(k:Int)≤(cap:Int):=by omega
 unfold maxLen at hmax;have hT:Rd w 3 (Y (some ⟨b,off,O⟩) k cap) k (aA (K.net.take k)):=⟨by rw[nU,List.length_take,Nat.min_eq_left (by omega)],.inr ⟨b,off,cap,rfl,by omega,by unfold maxLen;omega,hbl,I5 hce k⟩⟩
 have HD:Hid (∀ w2,Below w.heap.size w w2→Rd w2 3 (Y (some ⟨b,off+(k+1)*3,O⟩) (K.net.length-(k+1)) (cap-(k+1))) (K.net.length-(k+1)) (aA (K.net.drop (k+1)))):=fun w2 hw2 =>
  Rd.below (w:=w) ⟨by rw[nU,List.length_drop],.inr ⟨b,_,_,rfl,by omega,by unfold maxLen;omega,hbl,I4 hce (k+1) (by omega)⟩⟩ hw2
 have HO:Hid (∀ l:List (Int×Int×ByteArray),∀ u∈aA l,u.oneCell'=true):=fun l=>D7 l
 clear hce hrow;have HN:Hid (∀ v2 w2,Below w.heap.size w w2→w2.ownsRow w.heap.size 102 3 v2 (k+(K.net.length-(k+1))) (aA (K.net.take k)++aA (K.net.drop (k+1)))→Kst N w (w2.setCell ⟨g,7,O⟩ v2) g K V { K with net:=K.net.take k++K.net.drop (k+1) } { V with vP:=v2 }):=fun v2 w2 hb2 ho2=>by
  have hl2:(K.net.take k++K.net.drop (k+1)).length=k+(K.net.length-(k+1)):=by
   rw[List.length_append,List.length_take,List.length_drop,Nat.min_eq_left (by omega)]
  exact HH.out.newRow (V':={ V with vP:=v2 }) (K':={ K with net:=K.net.take k++K.net.drop (k+1) }) (i:=3) (w1:=w2) (r:=⟨102,3,V.vP,K.net.length,aA K.net⟩) (r':=⟨102,3,v2,(K.net.take k++K.net.drop (k+1)).length,aA (K.net.take k++K.net.drop (k+1))⟩) rfl
   (Kp.of_below hb2) (by rw[hl2,kF];exact eU ho2 (Nat.zero_le _)) (fun x hx=>.inr (ho2.lt x hx).1) 7 rfl rfl rfl
 by_cases hcc:cap=k+1
 ·subst hcc;have e0:K.net.length-(k+1)=0:=by omega
  have HD0:Hid (∀ w2,Below w.heap.size w w2→Rd w2 3 (Y (some ⟨b,off,O⟩) 0 0) 0 (aA (K.net.drop (k+1)))):=fun w2 hw2=>by
   have:K.net.drop (k+1)=[]:=List.drop_eq_nil_of_le (by omega)
   rw[this];exact⟨rfl,.inr ⟨b,off,0,rfl,Nat.le_refl _,by unfold maxLen;omega,Nat.lt_of_lt_of_le hbl hw2.size,fun j u hj=>by simp[aA] at hj⟩⟩
  go_enter Tryz.func58,Tryz.ntmps58;go_wp2_with (at_builtin;refine Fp rfl _ _ 45 rfl w.heap.size 102 i0 (.agg #[I J 0,I J 0,Z Ze]) 3 32 Tryz.underlying45 hi hz0 hz1 hz2 rfl (by decide) w _ _ _ (by rfl) (World.ownsRow_nil _ _ _ _) (Y (some ⟨b,off,O⟩) k (k+1)) k (aA (K.net.take k)) (by rfl) hT (HO.out _) (by unfold maxLen;omega) (by omega) (Nat.le_refl _) ?_)
  intro v1 w1 hown1 hg1 hb1;have t7:w1.cell? ⟨g,7,O⟩=some (Y (some ⟨b,off,O⟩) K.net.length (k+1)):=(hb1.cell (p:=⟨g,7,O⟩) hlb).trans c7
  have g7:w1.frozen? ⟨g,7,O⟩=false:=(hb1.frozen (p:=⟨g,7,O⟩) hlb).trans f7
  have hD1:=HD0.out w1 hb1;go_wp2_with (at_builtin;refine Fp rfl _ _ 45 rfl w.heap.size 102 i0 (.agg #[I J 0,I J 0,Z Ze]) 3 32 Tryz.underlying45 hi hz0 hz1 hz2 rfl (by decide) w1 _ _ _ (by rfl) hown1 (Y (some ⟨b,off,O⟩) 0 0) 0 (aA (K.net.drop (k+1))) (by rfl) hD1 (HO.out _) (by unfold maxLen;omega) (by omega) hb1.size ?_)
  intro v2 w2 hown2 hg2 hb2;obtain⟨a2,c2,rfl⟩:=aj hown2
  have r7:w2.cell? ⟨g,7,O⟩=some (Y (some ⟨b,off,O⟩) K.net.length (k+1)):=(hb2.cell (p:=⟨g,7,O⟩) hlb).trans t7
  have q7:w2.frozen? ⟨g,7,O⟩=false:=(hb2.frozen (p:=⟨g,7,O⟩) hlb).trans g7
  have HS:=ah (HN.out _ w2 (hb1.trans hb2) (by rw[e0];exact hown2))
  clear hown1 hown2 hg1 hg2;go_wp2;exact bodyPost_end (results_none rfl _ _ _) rfl ⟨rfl,_,HS.out⟩
 ·go_enter Tryz.func58,Tryz.ntmps58;go_wp2_with (at_builtin;refine Fp rfl _ _ 45 rfl w.heap.size 102 i0 (.agg #[I J 0,I J 0,Z Ze]) 3 32 Tryz.underlying45 hi hz0 hz1 hz2 rfl (by decide) w _ _ _ (by rfl) (World.ownsRow_nil _ _ _ _) (Y (some ⟨b,off,O⟩) k cap) k (aA (K.net.take k)) (by rfl) hT (HO.out _) (by unfold maxLen;omega) (by omega) (Nat.le_refl _) ?_)
  intro v1 w1 hown1 hg1 hb1;have t7:w1.cell? ⟨g,7,O⟩=some (Y (some ⟨b,off,O⟩) K.net.length cap):=(hb1.cell (p:=⟨g,7,O⟩) hlb).trans c7
  have g7:w1.frozen? ⟨g,7,O⟩=false:=(hb1.frozen (p:=⟨g,7,O⟩) hlb).trans f7
  have hD1:=HD.out w1 hb1;go_wp2_with (at_builtin;refine Fp rfl _ _ 45 rfl w.heap.size 102 i0 (.agg #[I J 0,I J 0,Z Ze]) 3 32 Tryz.underlying45 hi hz0 hz1 hz2 rfl (by decide) w1 _ _ _ (by rfl) hown1 (Y (some ⟨b,off+(k+1)*3,O⟩) (K.net.length-(k+1)) (cap-(k+1))) (K.net.length-(k+1)) (aA (K.net.drop (k+1))) (by rfl) hD1 (HO.out _) (by unfold maxLen;omega) (by omega) hb1.size ?_)
  intro v2 w2 hown2 hg2 hb2;obtain⟨a2,c2,rfl⟩:=aj hown2
  have r7:w2.cell? ⟨g,7,O⟩=some (Y (some ⟨b,off,O⟩) K.net.length cap):=(hb2.cell (p:=⟨g,7,O⟩) hlb).trans t7
  have q7:w2.frozen? ⟨g,7,O⟩=false:=(hb2.frozen (p:=⟨g,7,O⟩) hlb).trans g7
  have HS:=ah (HN.out _ w2 (hb1.trans hb2) hown2);clear hown1 hown2 hg1 hg2;go_wp2;exact bodyPost_end (results_none rfl _ _ _) rfl ⟨rfl,_,HS.out⟩
end
def oz (s:ByteArray) (lo hi:Nat) (w w':World) (e:Ending):Prop:=∃ b,e=Zr (.bool b)∧(b=true→(lo≤s.size∧s.size≤hi)∧(32:UInt8)∉s.data.toList∧iU s=false)∧w'=w
theorem oz.no {s:ByteArray} {lo hi:Nat} (w:World):oz s lo hi w w (Zr (.bool false)):=⟨false,rfl,fun h=>by simp at h,rfl⟩
theorem oz.any {s:ByteArray} {lo hi:Nat} (b:Bool) (w:World) (h:b=true→lo≤s.size∧s.size≤hi) (h1:(32:UInt8)∉s.data.toList) (h2:iU s=false):oz s lo hi w w (Zr (.bool b)):=⟨b,rfl,fun q=>⟨h q,h1,h2⟩,rfl⟩
theorem Ov {s:ByteArray} (h:∀ (j:Nat) (hj:j<s.size),(48:Int)≤(s[j].toNat:Int)):(32:UInt8)∉s.data.toList:=fun hm=>by
 obtain⟨j,hj,e⟩:=List.getElem_of_mem hm
 have hj':j<s.size:=by rw[Array.length_toList] at hj;exact hj
 have q:=h j hj';have e2:s.data.toList[j]=s[j]:=by simp;rfl
 rw[← e2,e] at q;have:(32:UInt8).toNat=32:=rfl
 omega
theorem Ou {s:ByteArray} (h0:0<s.size) (h:(s[0].toNat:Int)≠114):iU s=false:=by
 cases q:iU s
 ·rfl
 ·have:=yK.2 q
  unfold b0 at this;rw[atS h0] at this;exact absurd this h
theorem zJ (s:ByteArray) (w:World) (hs:s.size≤1000000000) :
  Calls Tryz.prog 28 #[Z s] w fun e w'=>oz s 1 8 w w' e:=by
 go_enter Tryz.func28,Tryz.ntmps28;go_wp2_with fail;go_loopw [3] (fun i wr=>∃ k:Nat,k≤s.size∧i=I J k∧wr=w∧Hid (∀ (j:Nat) (hj:j<s.size),j<k→(48:Int)≤(s[j].toNat:Int)∧(s[j].toNat:Int)≤57)) (fun i _=>s.size-(intOf i).toNat)
 case atStart=>exact⟨0,Nat.zero_le _,rfl,rfl,fun j hj h=>by omega⟩
 case round =>
  obtain⟨k,hk,rfl,hbw,HD⟩:=hrel
  subst hbw;by_cases hlt:k<s.size
  ·have j1:(0:Int)≤(k:Int):=by omega
   have j2:(k:Int)<(s.size:Int):=by omega
   by_cases h1:(s[k].toNat:Int)<48
   ·go_wp2;go_ret;exact oz.no _
   ·by_cases h2:(57:Int)<(s[k].toNat:Int)
    ·go_wp2;go_ret;exact oz.no _
    ·have HD2:Hid (∀ (j:Nat) (hj:j<s.size),j<k+1→(48:Int)≤(s[j].toNat:Int)∧(s[j].toNat:Int)≤57):=fun j hj h=>by
      by_cases e:j=k
      ·subst e;exact⟨by omega,by omega⟩
      ·exact HD.out j hj (by omega)
     go_wp2;go_roundw
     case rel=>exact⟨k+1,by omega,by go_num,trivial,HD2⟩
     case measure=>simp[intOf];omega
  ·by_cases h0:(0:Int)<(s.size:Int)
   ·by_cases h8:(s.size:Int)≤8
    ·have hsp:=Ov (s:=s) (fun j hj=>(HD.out j hj (by omega)).1)
     have hro:=Ou (s:=s) (by omega) (by have:=(HD.out 0 (by omega) (by omega)).2;omega)
     go_wp2;go_ret;exact oz.any true _ (fun _=>⟨by omega,by omega⟩) hsp hro
    ·go_wp2;go_ret;exact oz.no _
   ·go_wp2;go_ret;exact oz.no _
theorem Ga (s:ByteArray) (w:World) (hs:s.size≤1000000000) :
  Calls Tryz.prog 26 #[Z s] w fun e w'=>oz s 2 4 w w' e:=by
 by_cases h2:(s.size:Int)<2
 ·go_enter Tryz.func26,Tryz.ntmps26;go_wp2;go_ret;exact oz.no _
 have z1:(1:Int)<(s.size:Int):=by omega
 have z0:(0:Int)<(s.size:Int):=by omega
 by_cases ha:(s[1].toNat:Int)<97
 ·go_enter Tryz.func26,Tryz.ntmps26;go_wp2;go_ret;exact oz.no _
 by_cases hz:(122:Int)<(s[1].toNat:Int)
 ·go_enter Tryz.func26,Tryz.ntmps26;go_wp2;go_ret;exact oz.no _
 go_enter Tryz.func26,Tryz.ntmps26;go_wp2_with fail;go_loopw [3] (fun i wr=>∃ k:Nat,k≤s.size∧i=I J k∧wr=w∧Hid (∀ (j:Nat) (hj:j<s.size),1≤j→j<k→(48:Int)≤(s[j].toNat:Int))) (fun i _=>s.size-(intOf i).toNat)
 case atStart=>exact⟨2,by omega,rfl,rfl,fun j hj h1 h2=>by
   have:j=1:=by omega
   subst this;omega⟩
 case round =>
  obtain⟨k,hk,rfl,hbw,HD⟩:=hrel
  subst hbw;by_cases hlt:k<s.size
  ·have j1:(0:Int)≤(k:Int):=by omega
   have j2:(k:Int)<(s.size:Int):=by omega
   by_cases g1:(48:Int)≤(s[k].toNat:Int)
   ·have HD2:Hid (∀ (j:Nat) (hj:j<s.size),1≤j→j<k+1→(48:Int)≤(s[j].toNat:Int)):=fun j hj h1 h2=>by
     by_cases e:j=k
     ·subst e;exact g1
     ·exact HD.out j hj h1 (by omega)
    by_cases g2:(s[k].toNat:Int)≤57
    ·go_wp2;go_roundw
     case rel=>exact⟨k+1,by omega,by go_num,trivial,HD2⟩
     case measure=>simp[intOf];omega
    ·by_cases g3:(97:Int)≤(s[k].toNat:Int)
     ·by_cases g4:(s[k].toNat:Int)≤122
      ·go_wp2;go_roundw
       case rel=>exact⟨k+1,by omega,by go_num,trivial,HD2⟩
       case measure=>simp[intOf];omega
      ·go_wp2;go_ret;exact oz.no _
     ·go_wp2;go_ret;exact oz.no _
   ·have g3:¬(97:Int)≤(s[k].toNat:Int):=by omega
    go_wp2;go_ret;exact oz.no _
  ·have e1:Hid (∀ m:Nat,2≤m→m≤4→(48:Int)≤(s[0].toNat:Int)→(s[0].toNat:Int)≠114→oz s 2 4 wr wr (Zr (.bool ((s.size:Int)==m)))):=fun m hm hm4 q1 q2=>oz.any _ _ (fun h=>by have:=beq_iff_eq.1 h;omega) (Ov (fun j hj=>by
     by_cases e:j=0
     ·subst e;exact q1
     ·exact HD.out j hj (by omega) (by omega))) (Ou (by omega) q2)
   by_cases h1:(s[0].toNat:Int)=103
   ·have e2:=e1.out 2 (by omega) (by omega) (by omega) (by omega)
    have h1:((s[0].toNat:Int)==103)=true:=beq_iff_eq.2 h1
    go_wp2;go_ret;exact e2
   have h1:((s[0].toNat:Int)==103)=false:=beq_eq_false_iff_ne.2 h1
   by_cases h3:(s[0].toNat:Int)=100
   ·have e2:=e1.out 2 (by omega) (by omega) (by omega) (by omega)
    have h3:((s[0].toNat:Int)==100)=true:=beq_iff_eq.2 h3
    go_wp2;go_ret;exact e2
   have h3:((s[0].toNat:Int)==100)=false:=beq_eq_false_iff_ne.2 h3
   by_cases h4:(s[0].toNat:Int)=112
   ·have e2:=e1.out 3 (by omega) (by omega) (by omega) (by omega)
    have h4:((s[0].toNat:Int)==112)=true:=beq_iff_eq.2 h4
    go_wp2;go_ret;exact e2
   have h4:((s[0].toNat:Int)==112)=false:=beq_eq_false_iff_ne.2 h4
   by_cases h5:(s[0].toNat:Int)=99
   ·have e2:=e1.out 4 (by omega) (by omega) (by omega) (by omega)
    have h5:((s[0].toNat:Int)==99)=true:=beq_iff_eq.2 h5
    go_wp2;go_ret;exact e2
   have h5:((s[0].toNat:Int)==99)=false:=beq_eq_false_iff_ne.2 h5
   go_wp2;go_ret;exact oz.no _
end Go.Proofs.YtbnihoahhomooaaGreatDoor
