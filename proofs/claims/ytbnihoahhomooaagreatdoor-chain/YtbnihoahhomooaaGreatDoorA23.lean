import Derived.Test.YtbnihoahhomooaaGreatDoorA22
set_option maxRecDepth 100000
set_option maxHeartbeats 8000000
set_option linter.all false
namespace Go.Proofs.YtbnihoahhomooaaGreatDoor
open Go.Value renaming int→I,slice→Y,string→Z,pointer→Zp
open Go.Ending renaming returned→Zr
open _root_.ByteArray renaming empty→Ze
open Go.IntKind renaming i64→J
open Option renaming none→O
open Go.RowKit
section
variable {K:Kw} {q:Nat} {o:Int×ByteArray}
theorem Ow (ci:CI K) (hi:KI K) (ho:OI K.list (wt K.wishes) K.groups K.begun K.n q o) : -9≤o.1∧o.1<K.n∧o.1≠q∧0<o.2.size:=by
 have n3:=hi.sz.n3;rcases ho with ⟨h1,h2,h3,P,h4,_⟩|⟨k,hk,h1,h2⟩|⟨e,h1,h2,_,⟨y,hy,rfl⟩,_⟩
 ·refine⟨by omega,h2,h3,?_⟩
  rw[h4];unfold gB;simp only[ByteArray.size_append];have:(jG P.kind).size=1:=rfl
  omega
 ·have e:=hi.list.2 _ (List.getElem_mem hk);rw[getD_at hk] at h1 h2;obtain⟨e1,e2,_⟩:=e
  refine⟨by omega,by omega,by omega,?_⟩
  rw[h2];simp only[ByteArray.size_append];have:YS.size=2:=rfl
  omega
 ·have c:=(ci.tw y hy).c;refine⟨by omega,by omega,by omega,?_⟩
  rw[h2];simp only[ByteArray.size_append];have:YS.size=2:=rfl
  omega
theorem Km (c n:Int):YS++dg c++SP++dg n++SP++⟨#[98,97,100]⟩=(⟨#[121,32]⟩:ByteArray)++dg c++⟨#[32]⟩++dg n++⟨#[32,98,97,100]⟩:=by
 apply bytes_inj
 simp[ByteArray.data_append,YS,SP]
theorem Lr (ci:CI K) (hi:KI K) (ho:OI K.list (wt K.wishes) K.groups K.begun K.n q o) (h0:o.1<0):(∃ k,LMt K (-o.1) o.2 k)∨∃ k,WMt K (-o.1) o.2 k:=by
 rcases ho with ⟨h1,_⟩|⟨k,hk,h1,h2⟩|⟨e,h1,h2,h3,⟨y,hy,rfl⟩,_⟩
 ·omega
 ·rw[getD_at hk] at h1 h2;refine .inl ⟨k,hk,by omega,?_⟩
  rw[h2,C9 (nW (hi.list.2 _ (List.getElem_mem hk)).2.2.2.2.1) (fun e he=>nW (hi.list.2 _ (List.mem_of_mem_take he)).2.2.2.2.1),show -o.1=K.list[k].1 by omega]
  rfl
 ·obtain⟨x,hx,rfl⟩:=List.mem_map.1 hy
  obtain⟨k,hk,rfl⟩:=List.getElem_of_mem hx
  refine .inr ⟨k,hk,by simp only at h1;omega,yK.2 h3,?_⟩
  rw[h2,Km];simp only at h1 ⊢
  rw[show -o.1=K.wishes[k].e.1 by omega]
theorem xq:∀ (l:List jS) (k:Nat),wt (fV l k)=wt l
 | [],_=>rfl
 | x :: l,0=>rfl
 | x :: l,k+1=>by
  have:=xq l k
  unfold wt at this ⊢;simp only[fV,List.map_cons,this]
theorem p9:∀ (l:List jS) (k:Nat) (x:jS),x∈fV l k→∃ (j:Nat) (h:j<l.length),x.e=l[j].e∧x.text=l[j].text∧x.floor=l[j].floor∧(x.bad=l[j].bad∨j=k)
 | [],_,x,h=>by simp[fV] at h
 | y :: l,0,x,h=>by
  rcases List.mem_cons.1 h with rfl|h
  ·exact⟨0,by simp,rfl,rfl,rfl,.inr rfl⟩
  ·obtain⟨j,hj,rfl⟩:=List.getElem_of_mem h
   exact⟨j+1,by simp;omega,rfl,rfl,rfl,.inl rfl⟩
 | y :: l,k+1,x,h=>by
  rcases List.mem_cons.1 h with rfl|h
  ·exact⟨0,by simp,rfl,rfl,rfl,.inl rfl⟩
  ·obtain⟨j,hj,a,b,c,d⟩:=p9 l k x h
   exact⟨j+1,by simp;omega,a,b,c,d.imp id (fun q=>by omega)⟩
theorem Cn {R:En→En→Prop}:∀ (l:List jS) (k:Nat),l.Pairwise (fun a b=>R a.e b.e)→(fV l k).Pairwise (fun a b=>R a.e b.e)
 | [],_,h=>h
 | x :: l,0,h=>by
  rw[List.pairwise_cons] at h
  show ({ x with bad:=true } :: l).Pairwise _
  rw[List.pairwise_cons];exact⟨h.1,h.2⟩
 | x :: l,k+1,h=>by
  rw[List.pairwise_cons] at h
  show (x :: fV l k).Pairwise _
  rw[List.pairwise_cons];refine⟨fun y hy=>?_,Cn l k h.2⟩
  obtain⟨j,hj,e,_⟩:=p9 l k y hy
  rw[e];exact h.1 _ (List.getElem_mem hj)
theorem CI.bad (ci:CI K) (hi:KI K) (ho:OI K.list (wt K.wishes) K.groups K.begun K.n q o) (h0:o.1<0) {k:Nat} (hw:WMt K (-o.1) o.2 k) (hl:∀ j,¬LMt K (-o.1) o.2 j):CI { K with wishes:=fV K.wishes k }:=by
 obtain⟨hk,w1,w2,w3⟩:=hw
 have hmem:K.wishes[k]∈K.wishes:=List.getElem_mem hk
 have key:eT K.wishes[k].e=true∧(Rp.eH K.wishes[k].e K.n=true∨∃ E:Int,0≤E∧E≤10∧E<regs K.list∧K.wishes[k].text=mTx K.wishes[k].e E):=by
  refine⟨yK.1 w2,?_⟩
  have ho':=ho
  rcases ho with ⟨h1,_⟩|⟨j,hj,h1,h2⟩|⟨e,h1,h2,h3,⟨y,hy,rfl⟩,h5⟩
  ·omega
  ·exfalso
   rw[getD_at hj] at h1 h2;refine hl j ⟨hj,by omega,?_⟩
   rw[h2,C9 (nW (hi.list.2 _ (List.getElem_mem hj)).2.2.2.2.1) (fun e he=>nW (hi.list.2 _ (List.mem_of_mem_take he)).2.2.2.2.1),show -o.1=K.list[j].1 by omega]
   rfl
  ·have hyk:(K.wishes[k].e,K.wishes[k].text)∈wt K.wishes:=List.mem_map.2 ⟨_,hmem,rfl⟩
   have ty:=ci.tw y hy;have tk:=ci.tw _ hyk;have ec : -o.1=y.1.1:=by omega
   have en:dg K.wishes[k].e.2.1=dg y.1.2.1:=by
    have q:(⟨#[121,32]⟩:ByteArray)++dg (-o.1)++⟨#[32]⟩++dg K.wishes[k].e.2.1++⟨#[32,98,97,100]⟩=⟨#[121,32]⟩++dg (-o.1)++⟨#[32]⟩++dg y.1.2.1++⟨#[32,98,97,100]⟩:=by
     rw[← w3,h2,Km,ec]
    have q2:((⟨#[121,32]⟩:ByteArray)++dg (-o.1)++⟨#[32]⟩++dg K.wishes[k].e.2.1++⟨#[32,98,97,100]⟩).data.toList=((⟨#[121,32]⟩:ByteArray)++dg (-o.1)++⟨#[32]⟩++dg y.1.2.1++⟨#[32,98,97,100]⟩).data.toList:=by rw[q]
    simp only[ByteArray.data_append,Array.toList_append] at q2;exact bytes_inj (List.append_cancel_left (List.append_cancel_right q2))
   have en2:=OO (by have:=tk.n;simp only at this;omega) (by have:=tk.n;simp only at this;omega) (by have:=ty.n;omega) ty.n.2 en
   have eq:=ci.uniq y hy _ hyk (by simp only;omega) en2
   have e1:K.wishes[k].e=y.1:=congrArg Prod.fst eq
   have e2:K.wishes[k].text=y.2:=congrArg Prod.snd eq
   rw[e1,e2];rcases h5 with h5|h5
   ·exact .inl h5
   ·exact .inr (h5 y hy rfl)
 have ew:wt (fV K.wishes k)=wt K.wishes:=xq _ _
 refine⟨ci.gi,by show ∀ y∈wt (fV K.wishes k),_;rw[ew];exact ci.tw,Cn (R:=fun a b=>a.1=b.1→a.2.1<b.2.1) _ _ ci.un,⟨ci.fl.1,fun x hx=>?_⟩,fun x hx hb=>?_,fun x hx=>by show RI K.list (wt (fV K.wishes k)) _ _ _∧_;rw[ew];exact ci.nd x hx,fun p hp h0=>by show NT K.list (wt (fV K.wishes k)) _ _ _ _;rw[ew];exact ci.nt p hp h0⟩
 ·obtain⟨j,hj,_,_,e,_⟩:=p9 _ _ _ hx
  have:=ci.fl.2 _ (List.getElem_mem hj)
  show x.floor≤(K.list.length:Int);omega
 ·obtain⟨j,hj,a,b,c,d⟩:=p9 _ _ _ hx
  show eT x.e=true∧(Rp.eH x.e K.n=true∨∃ E:Int,0≤E∧E≤10∧E<regs K.list∧x.text=mTx x.e E)
  rw[a,b];rcases d with d|rfl
  ·exact ci.bd _ (List.getElem_mem hj) (by rw[← d];exact hb)
  ·exact key
theorem CI.top (ci:CI K) (p:Int):CI { K with top:=p }:=⟨ci.gi,ci.tw,ci.un,ci.fl,ci.bd,ci.nd,ci.nt⟩
theorem CI.sent (ci:CI K) {f t:Int} {s:ByteArray} (h:0≤t→NT K.list (wt K.wishes) K.groups K.begun K.n s):CI { K with net:=K.net++[(f,t,s)] } :=
 ⟨ci.gi,ci.tw,ci.un,ci.fl,ci.bd,ci.nd,fun p hp h0=>by
  rcases List.mem_append.1 hp with z|z
  ·exact ci.nt p z h0
  ·simp only[List.mem_cons,List.not_mem_nil,or_false] at z;subst z;exact h h0⟩
theorem Ox (hi:KI K) (ho:OI K.list (wt K.wishes) K.groups K.begun K.n q o) (ci:CI K):0≤o.1→NT K.list (wt K.wishes) K.groups K.begun K.n o.2:=fun h0=>by
 rcases ho with ⟨_,_,_,P,p1,p2,p3,_,p5⟩|⟨k,hk,h1,_⟩|⟨e,h1,_,_,⟨y,hy,rfl⟩,_⟩
 ·rw[p1];exact NT.sent hi.sz.n7 p2 p3 p5
 ·rw[getD_at hk] at h1;have:=(hi.list.2 _ (List.getElem_mem hk)).1
  omega
 ·have:=(ci.tw y hy).c
  omega
end
def yG (w:World) (v:Value) (l:List (Int×ByteArray)):Prop:=Rd w 2 v l.length (gZ l)
theorem Aa:∀ (l:List (Int×ByteArray)) (k:Nat) (h:k<l.length),(gZ l)[2*k]? = some (I J l[k].1)∧(gZ l)[2*k+1]? = some (Z l[k].2)
 | a :: l,0,_=>⟨rfl,rfl⟩
 | a :: l,k+1,h=>by
  have:=Aa l k (by simpa using h)
  simp only[List.getElem_cons_succ];exact this
theorem yG.get {w:World} {a:Option Addr} {n cap:Nat} {l:List (Int×ByteArray)} (h:yG w (Y a n cap) l) (k:Nat) (hk:k<l.length) :
  ∃ b off,a=some ⟨b,off,O⟩∧b<w.heap.size∧w.cell? ⟨b,off+k*2,O⟩=some (I J l[k].1)∧w.cell? ⟨b,off+k*2+1,O⟩=some (Z l[k].2):=by
 obtain⟨q0,q1⟩:=Aa l k hk
 rcases h.2 with ⟨h1,h2⟩|⟨b,off,cap',h1,_,_,hb,hc⟩
 ·omega
 ·simp only[Value.slice.injEq] at h1;obtain⟨rfl,rfl,rfl⟩:=h1
  refine⟨b,off,rfl,hb,?_,?_⟩
  ·have:=hc _ _ q0;rwa [show off+2*k=off+k*2 by omega] at this
  ·have:=hc _ _ q1;rwa [show off+(2*k+1)=off+k*2+1 by omega] at this
theorem xA {t:ByteArray} (h:0<t.size):t.toList.isEmpty=false:=by
 rw[ByteArray.toList_eq];have e:t.data.toList.length=t.size:=by rw[Array.length_toList];rfl
 cases hc:t.data.toList with
 | nil=>rw[hc] at e;simp at e;omega
 | cons a l=>rfl
theorem EC {t:ByteArray} (h:Rp.jM t):∃ h0:0<t.size,t[0].toNat=114:=by
 unfold Rp.jM at h;have e:t.data.toList.length=t.size:=by rw[Array.length_toList];rfl
 have hl:0<t.data.toList.length:=by
  cases hh:t.data.toList with
  | nil=>rw[hh] at h;simp at h
  | cons a l=>simp
 refine⟨by omega,?_⟩
 rw[List.head?_eq_getElem?,List.getElem?_eq_getElem hl] at h;have:t.data.toList[0]=t[0]'(by omega):=rfl
 rw[this] at h;have h:=Option.some.inj h;rw[h];rfl
section
variable {N:Nat} {w w':World} {g:Nat} {K K':Kw} {V V':Kv}
structure Lo (N:Nat) (w wr:World) (g:Nat) (K:Kw) (V:Kv) (c:Nat) (K':Kw) (V':Kv):Prop where
 kst:Kst N w wr g K V K' V'
 ki:KI K'
 nds:K'.nds=K.nds
 grp:K'.groups=K.groups
 n:K'.n=K.n
 ms:dI K'≤dI K+c
 net:K.net.length≤K'.net.length
 ci:CI K'
 ls:K'.list=K.list
 bs:K'.begun=K.begun
 ws:wt K'.wishes=wt K.wishes
def LoE (N:Nat) (w wr:World) (g:Nat) (K:Kw) (V:Kv) (c:Nat) (e:Ending):Prop:=∃ b K' V',e=Zr (.bool b)∧Lo N w wr g K V c K' V'
theorem Lo.refl (h:KAt N w g K V) (hi:KI K) (gr:Gr K):Lo N w w g K V 0 K V:=⟨Kst.refl h,hi,rfl,rfl,rfl,Nat.le_refl _,Nat.le_refl _,gr,rfl,rfl,rfl⟩
section
variable {wr w2:World} {c:Nat} {K2:Kw} {V2:Kv}
theorem Lo.below (L:Lo N w wr g K V c K' V') (hb:Below wr.heap.size wr w2):Lo N w w2 g K V c K' V':=⟨L.kst.below hb,L.ki,L.nds,L.grp,L.n,L.ms,L.net,L.ci,L.ls,L.bs,L.ws⟩
theorem Lo.post {f t:Int} {s:ByteArray} (L:Lo N w wr g K V c K' V') (k:Kst N wr w2 g K' V' { K' with net:=K'.net++[(f,t,s)] } V2) (h1 : -9≤t) (h2:t<K.n) (h3:0<s.size) (h4:0≤t→NT K.list (wt K.wishes) K.groups K.begun K.n s):Lo N w w2 g K V (c+1) { K' with net:=K'.net++[(f,t,s)] } V2 :=
 ⟨L.kst.trans k,L.ki.post f t s ⟨h1,by rw[L.n];exact h2⟩ h3,L.nds,L.grp,L.n,by rw[Ca];have:=L.ms;omega,by have:=L.net;simp;omega,L.ci.sent (fun h0=>by rw[L.ls,L.ws,L.grp,L.bs,L.n];exact h4 h0),L.ls,L.bs,L.ws⟩
theorem Lo.oi (L:Lo N w wr g K V c K' V') {q:Nat} {o:Int×ByteArray} (ho:OI K.list (wt K.wishes) K.groups K.begun K.n q o):OI K'.list (wt K'.wishes) K'.groups K'.begun K'.n q o:=by
 rw[L.ls,L.ws,L.grp,L.bs,L.n];exact ho
theorem Lo.ans (L:Lo N w wr g K V c K' V') (k:Kst N wr w2 g K' V' K2 V') {q:Nat} {o:Int×ByteArray} (ho:OI K.list (wt K.wishes) K.groups K.begun K.n q o) (h0:o.1<0) (hk:K2=K'∨∃ k,WMt K' (-o.1) o.2 k∧(∀ j,¬LMt K' (-o.1) o.2 j)∧K2={ K' with wishes:=fV K'.wishes k }):Lo N w w2 g K V c K2 V':=by
 rcases hk with rfl|⟨j,h1,h2,rfl⟩
 ·exact⟨L.kst.trans k,L.ki,L.nds,L.grp,L.n,L.ms,L.net,L.ci,L.ls,L.bs,L.ws⟩
 ·exact⟨L.kst.trans k,L.ki.bad j,L.nds,L.grp,L.n,by rw[Lc];exact L.ms,L.net,L.ci.bad L.ki (L.oi ho) h0 h1 h2,L.ls,L.bs,by show wt (fV K'.wishes j)=_;rw[xq];exact L.ws⟩
theorem Lo.ste (L:Lo N w wr g K V c K' V') {d:Nat} (hd:c≤d) (b:Bool):StE N w wr g K V d (Zr (.bool b)) :=
 ⟨b,K',V',rfl,L.kst,L.ki,by have:=L.ms;omega,L.net,L.n,fun _=>L.ci⟩
theorem Lo.c1 (L:Lo N w wr g K V c K' V') {n:Nat} (hn:K.n=n):wr.cell? ⟨g,1,O⟩=some (I J n):=by
 have:=L.kst.at_.cell 1
 rw[← hn,← L.n];exact this
end
theorem CY (h:KAt N w g K V) (hi:KI K) (gr:Gr K) (q:Nat) (hq:q<K.nds.length) (vl:Value) (l:List (Int×ByteArray)) (hl:yG w vl l) (hf:Fr (iy g K V) vl) (hs:K.nds[q].R.status=3→∀ x∈l,Rp.jM x.2) (ho:∀ o∈l,OI K.list (wt K.wishes) K.groups K.begun K.n q o) (hm:dI K+l.length≤900000000000) (s3:¬K.nds[q].R.status=3) :
  Calls Tryz.prog 63 #[Zp (some ⟨g,0,O⟩),I J q,vl] w fun e w'=>StE N w w' g K V l.length e:=by
 have z:=hi.sz;obtain⟨n,hn⟩:∃ n:Nat,K.n=n:=⟨K.n.toNat,by have:=z.n3;omega⟩
 have z3:=z.n3;have z1:=z.nds;have z7:=z.n7;have zd:=z.down;have zb:=z.begun;have z10:=z.opn;rw[hn] at z1 z7 z3 zd zb;have HC1:Hid (∀ w2,Below w.heap.size w w2→w2.cell? ⟨g,1,O⟩=some (I J n)):=fun w2 hw2=>by rw[← hn];exact (h.below hw2).cell 1
 obtain⟨aN,cN,hvN⟩:=aj h.rN
 have HC2:Hid (∀ w2,Below w.heap.size w w2→w2.cell? ⟨g,2,O⟩=some (Y aN K.nds.length cN)):=fun w2 hw2=>by rw[← hvN];exact (h.below hw2).cell 2
 have HN:=ah (fun (w2:World) (hw2:Below w.heap.size w w2)=>KAt.ptr h hvN hw2)
 have HWh:=ah (fun (w2:World) (hw2:Below w.heap.size w w2)=>KAt.whr h hw2)
 have HQ:=ah (HWh.out w (Below.refl _ _) q hq);obtain⟨b1,o1,rfl,_,d1⟩:=HN.out w (Below.refl _ _) q hq
 have c2:=HC2.out w (Below.refl _ _);have j1:(0:Int)≤(q:Int):=by omega
 have j2:(q:Int)<(K.nds.length:Int):=by omega
 obtain⟨al,cl,rfl,hcl,hml⟩:∃ a cap,vl=Y a l.length cap∧l.length≤cap∧cap≤9223372036854775807:=by
  obtain⟨a,cap,e,hn,hm,_⟩:=Rd.form hl
  exact⟨a,cap,e,hn,by unfold maxLen at hm;omega⟩
 have HL0:Hid (∀ w2,Below w.heap.size w w2→Lo N w w2 g K V 0 K V):=fun w2 hw2=>(Lo.refl h hi gr).below hw2
 have HO:Hid (∀ {w2:World} {K2:Kw} {V2:Kv},Kst N w w2 g K V K2 V2→yG w2 (Y al l.length cl) l):=fun k=>Rd.kp hl k.kp hf (fun _ h=>h)
 have HOi:Hid (∀ (k:Nat) (hk:k<l.length),OI K.list (wt K.wishes) K.groups K.begun K.n q (l[k].1,l[k].2)∧(-9≤l[k].1∧l[k].1<K.n∧l[k].1≠q∧0<l[k].2.size)∧(0≤l[k].1→NT K.list (wt K.wishes) K.groups K.begun K.n l[k].2)):=fun k hk=>by
  have a:=ho _ (List.getElem_mem hk);exact⟨a,Ow gr hi a,Ox hi a gr⟩
 clear ho;have HSt:Hid (K.nds[q].R.status=3→∀ (k:Nat) (hk:k<l.length),∃ h0:0<l[k].2.size,(l[k].2)[0].toNat=114):=fun h3 k hk=>EC (hs h3 _ (List.getElem_mem hk))
 clear h hi gr z hf hl hs HWh HN HC2;generalize K.nds[q].b=bb at *;generalize K.nds[q].R.epoch=r1 at *;generalize K.nds[q].R.view=r2 at *;generalize K.nds[q].R.status=r3 at *;generalize K.nds[q].R.decided=r4 at *;go_enter Tryz.func63,Tryz.ntmps63;go_wp2_with fail;refine HQ.out.mono ?_;rintro e w1 ⟨rfl,nn,hw1⟩;have hb1:Below w.heap.size w w1:=by rw[hw1];exact below_drewN (Below.refl _ _) nn
 clear hw1 HQ c2 d1;go_wp2_with fail;go_loopw [11] (fun i wr=>∃ (k:Nat) (K':Kw) (V':Kv),k≤l.length∧i=I J k∧Lo N w wr g K V k K' V') (fun i _=>l.length-(intOf i).toNat)
 case atStart=>exact⟨0,K,V,Nat.zero_le _,rfl,HL0.out _ hb1⟩
 case round =>
  obtain⟨k,K1,V1,hk,rfl,L⟩:=hrel
  have HL:=ah L;clear L;by_cases hlt:k<l.length
  ·obtain⟨bo,oo,rfl,_,p1,p2⟩:=(HO.out HL.out.kst).get k hlt
   have c1:=HL.out.c1 hn;have j3:(0:Int)≤(k:Int):=by omega
   have j4:(k:Int)<(l.length:Int):=by omega
   have hst:=fun h3=>HSt.out h3 k hlt
   obtain⟨hoi,hbd,hnt⟩:=HOi.out k hlt
   generalize h_qt:l[k].1=qt at *;generalize h_tx:l[k].2=tx at *;have HOo:=ah hoi;have HNt:=ah hnt;obtain⟨hb9,hbn,hbq,hb0⟩:=hbd
   rw[hn] at hbn;clear hoi hnt HOi;have s3':(r3==3)=false:=beq_eq_false_iff_ne.2 s3
   clear hst s3;have a1:¬(n:Int)≤qt:=by omega
   have g1:decide ((n:Int)≤qt)=false:=decide_eq_false a1
   have a2:¬qt=(q:Int):=hbq
   have g2:(qt==(q:Int))=false:=beq_eq_false_iff_ne.2 a2
   have a3:¬qt < -9:=by omega
   have g3:decide (qt < -9)=false:=decide_eq_false a3
   have a4:¬tx.size=0:=by omega
   have g4:¬tx=Ze:=by
    intro hc;rw[hc] at a4;exact a4 rfl
   have g5:decide (tx=Ze)=false:=decide_eq_false g4
   have g6:tx.toList.isEmpty=false:=xA (by omega)
   clear a2 hbq;go_wp2_with fail;go_quiet (fail);have Lq:=HL.out.below (below_drewN (Below.refl _ _) nq);have HLq:=ah Lq;clear Lq;generalize hwA:wr.drewN nq=wA at *;clear hwA p1 p2;obtain⟨b2,o2,e2',_,p1,p2⟩:=(HO.out HLq.out.kst).get k hlt
   cases e2';rw[h_qt] at p1;rw[h_tx] at p2;by_cases a6:qt<0
   ·have nw:IntKind.i64.wrap (-qt) = -qt:=fC (by omega) (by omega)
    have HAq:Hid (∀ w2,Below wA.heap.size wA w2→Calls Tryz.prog 110 #[Zp (some ⟨g,0,O⟩),I J (-qt),Z tx] w2 fun e w'=>LoE N w w' g K V k e):=fun w2 hw2=>by
     have L2:=HLq.out.below hw2;refine (xH L2.kst.at_ L2.ki (-qt) (by omega) (by omega) tx).mono ?_
     rintro e w3 ⟨b,K3,rfl,k3,⟨rfl,hk⟩|⟨rfl,rfl,hn1,hn2⟩⟩
     ·exact⟨true,_,_,rfl,L2.ans k3 HOo.out a6 hk⟩
     ·rcases Lr L2.ci L2.ki (L2.oi HOo.out) a6 with ⟨j,hj⟩|⟨j,hj⟩
      ·exact absurd hj (hn1 j)
      ·exact absurd hj (hn2 j)
    go_wp2_with fail;go_region_with (go_at_call 110;refine (HAq.out _ (Below.refl _ _).drew).mono ?_;rintro e w4 ⟨bA,KA,VA,rfl,LA⟩)
    all_goals
     have HLA:=ah LA;clear LA;cases bA
     ·go_wp2;go_ret;exact HLA.out.ste (by omega) false
     ·go_upto_region 13 with fail
      have HPq:Hid (∀ w2,Below w4.heap.size w4 w2→Calls Tryz.prog 55 #[Zp (some ⟨g,0,O⟩),I J q,I J qt,Z tx] w2 fun e w'=>e=Zr (.tuple #[])∧∃ v,Lo N w w' g K V (k+1) { KA with net:=KA.net++[((q:Int),qt,tx)] } { VA with vP:=v }):=fun w2 hw2=>by
       have L2:=HLA.out.below hw2;refine (lY L2.kst.at_ q qt tx (by have:=iV KA;have:=L2.ms;omega)).mono ?_
       rintro e w3 ⟨rfl,v,k3⟩;exact⟨rfl,v,L2.post k3 (by omega) (by omega) (by omega) HNt.out⟩
      clear p1 p2;obtain⟨b2,o2,e2',_,p1,p2⟩:=(HO.out HLA.out.kst).get k hlt
      cases e2';rw[h_qt] at p1;rw[h_tx] at p2;go_wp2_with fail;go_region_with (go_at_call 55;refine (HPq.out _ (Below.refl _ _).drew).mono ?_;rintro e w5 ⟨rfl,v5,L5⟩)
      all_goals
       go_wp2;go_roundw
       case rel=>exact⟨k+1,_,_,by omega,by go_num,L5⟩
       case measure=>simp[intOf];omega
   ·obtain⟨KA,VA,HLA⟩:∃ KA VA,Hid (Lo N w wA g K V k KA VA):=⟨_,_,HLq⟩
    have HPq:Hid (∀ w2,Below wA.heap.size wA w2→Calls Tryz.prog 55 #[Zp (some ⟨g,0,O⟩),I J q,I J qt,Z tx] w2 fun e w'=>e=Zr (.tuple #[])∧∃ v,Lo N w w' g K V (k+1) { KA with net:=KA.net++[((q:Int),qt,tx)] } { VA with vP:=v }):=fun w2 hw2=>by
     have L2:=HLA.out.below hw2;refine (lY L2.kst.at_ q qt tx (by have:=iV KA;have:=L2.ms;omega)).mono ?_
     rintro e w3 ⟨rfl,v,k3⟩;exact⟨rfl,v,L2.post k3 (by omega) (by omega) (by omega) HNt.out⟩
    clear p1 p2;obtain⟨b2,o2,e2',_,p1,p2⟩:=(HO.out HLA.out.kst).get k hlt
    cases e2';rw[h_qt] at p1;rw[h_tx] at p2;go_wp2_with fail;go_region_with (go_at_call 55;refine (HPq.out _ (Below.refl _ _).drew).mono ?_;rintro e w5 ⟨rfl,v5,L5⟩)
    all_goals
     go_wp2;go_roundw
     case rel=>exact⟨k+1,_,_,by omega,by go_num,L5⟩
     case measure=>simp[intOf];omega
  ·go_wp2;go_ret;exact HL.out.ste (by omega) true
end
end Go.Proofs.YtbnihoahhomooaaGreatDoor
