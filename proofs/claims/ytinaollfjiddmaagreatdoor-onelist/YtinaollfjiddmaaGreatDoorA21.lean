import Derived.Test.YtinaollfjiddmaaGreatDoorA18
import Derived.Test.YtinaollfjiddmaaGreatDoorA19
import Derived.Test.YtinaollfjiddmaaGreatDoorA20
set_option maxRecDepth 100000
set_option maxHeartbeats 8000000
set_option linter.all false
namespace Go.Proofs.YtinaollfjiddmaaGreatDoor
open Go.Value renaming int→I,slice→Y,string→Z,pointer→Zp
open Go.Ending renaming returned→Zr
open _root_.ByteArray renaming empty→Ze
open Go.IntKind renaming i64→J
open Option renaming none→O
open Go.RowKit
theorem Oe {e:En} {E E':Int} (h0:0≤E) (h1:E≤10) (h0':0≤E') (h1':E'≤10) (h:mTx e E=mTx e E'):E=E':=by
 unfold mTx at h;have c:((⟨#[109,32]⟩:ByteArray)++dg e.1++SP++dg e.2.1++SP++dg E++SP++e.2.2.extract 1 e.2.2.size).data.toList=((⟨#[109,32]⟩:ByteArray)++dg e.1++SP++dg e.2.1++SP++dg E'++SP++e.2.2.extract 1 e.2.2.size).data.toList:=by rw[h]
 simp only[ByteArray.data_append,Array.toList_append] at c;have d:=List.append_cancel_left (List.append_cancel_right (List.append_cancel_right c));have a:=iq h0 (by omega:E≤999)
 have b:=iq h0' (by omega:E'≤999)
 rw[d] at a;omega
theorem P5 {a b:Int} (h0:0≤a) (h1:a≤999) (h0':0≤b) (h1':b≤999) (h:dg a=dg b):a=b:=by
 have x:=iq h0 h1;have y:=iq h0' h1';rw[h] at x;omega
def Done (R:Rp) (mi:Pm→Prop) (R':Rp):Prop:=R'=R∨R'=R.lu∨R'=R.suspect∨∃ P,Rp.MOk R.n P∧mi P∧R'=R.take P
theorem Done.same {R:Rp} {mi:Pm→Prop}:Done R mi R:=.inl rfl
theorem Done.lu {R:Rp} {mi:Pm→Prop}:Done R mi R.lu:=.inr (.inl rfl)
theorem Done.suspect {R:Rp} {mi:Pm→Prop}:Done R mi R.suspect:=.inr (.inr (.inl rfl))
theorem Done.take {R:Rp} {mi:Pm→Prop} (P:Pm) (h:Rp.MOk R.n P) (m:mi P):Done R mi (R.take P):=.inr (.inr (.inr ⟨P,h,m,rfl⟩))
section
variable {K:Kw} {q:Nat} {x:Nod} {R':Rp}
structure Nxt (K:Kw) (R':Rp) (L':List En) (G':List ByteArray):Prop where
 l:K.list <+: L'
 g:K.groups <+: G'
 gi:GI L' G' K.n
 d:R'.status≠3→R'.decided≤L'.length∧R'.log.take R'.decided=L'.take R'.decided
def pR (B:List Int) (q:Nat) (R':Rp):List Int:=if R'.status=1 then B.set q (max (B.getD q (-1)) R'.epoch) else B
theorem Nz (B:List Int) (q:Nat) (R':Rp) (k:Nat):B.getD k (-1)≤(pR B q R').getD k (-1):=by
 unfold pR
 split
 ·by_cases h:q=k
  ·subst h;by_cases a:q<B.length
   ·rw[List.getD_eq_getElem?_getD (l:=B.set _ _),List.getElem?_set_self a]
    show B.getD q (-1)≤max _ _
    omega
   ·rw[List.set_eq_of_length_le (by omega)];omega
  ·rw[List.getD_eq_getElem?_getD (l:=B.set _ _),List.getElem?_set_ne h,← List.getD_eq_getElem?_getD];omega
 ·omega
theorem Ny {B:List Int} {q:Nat} {R':Rp} (hq:q<B.length) (h1:R'.status=1):R'.epoch≤(pR B q R').getD q (-1):=by
 unfold pR;rw[if_pos h1,List.getD_eq_getElem?_getD,List.getElem?_set_self hq]
 show R'.epoch≤max _ _
 omega
theorem Nxt.up (ci:CI K) {L':List En} {G':List ByteArray} (N:Nxt K R' L' G'):Up K.list L' K.groups G' K.begun (pR K.begun q R'):=⟨N.l,N.g,ci.gi.len,Nz _ _ _⟩
theorem yV (ci:CI K) (hi:KI K) (hx:K.nds[q]? = some x) (hd:Done x.R (Mq K q) R') (ha:Rp.RcI R') (hid:R'.id=x.R.id) {L':List En} {G':List ByteArray} (N:Nxt K R' L' G') :
  Cs L' (wt K.wishes) G' (pR K.begun q R') x.R R':=by
 have a:=hi.nod q x hx;obtain⟨ri,m,p⟩:=ci.nd x (List.mem_of_getElem? hx)
 have u:=N.up (q:=q) ci;have b:=ri.up u a.ok
 have c:=p.up N.l
 have c0:Cs L' (wt K.wishes) G' (pR K.begun q R') x.R x.R:=⟨a.ok,rfl,rfl,b,a.sv,m,fun o r=>.inl r⟩
 have f:GI L' G' x.R.n:=by rw[a.n];exact N.gi
 have g:q<K.begun.length:=by
  have j:=hi.sz.begun;have t:=hi.sz.nds;have:q<K.nds.length:=by
   rcases Nat.lt_or_ge q K.nds.length with z|z
   ·exact z
   ·rw[List.getElem?_eq_none z] at hx;cases hx
  omega
 have F:Fin L' (pR K.begun q R') R':=by
  by_cases i:R'.status=3
  ·obtain⟨_,_,v,k⟩:=ha i
   exact⟨by rw[k];omega,by rw[k];rfl,fun h=>by omega⟩
  ·exact⟨(N.d i).1,(N.d i).2,fun j=>by
    have e:R'.id.toNat=q:=by rw[hid,a.id];rfl
    rw[e];exact Ny g j⟩
 rcases hd with rfl|rfl|rfl|⟨P,s,mi,rfl⟩
 ·exact c0
 ·exact c0.lu f
 ·exact c0.suspect f
 ·exact c0.take f c a.rc s (mi.mi.up u) F
theorem ND {s:ByteArray} {n:Int} (h:bK s.data.toList n=true):lC (dN s)=s:=by
 have a:∀ x∈dN s,0≤x∧x<10:=fun y f=>by
  unfold dN at f;obtain⟨b,a,rfl⟩:=List.mem_map.1 f
  obtain⟨k,g,rfl⟩:=List.getElem_of_mem a
  have:=nU h k g
  rw[List.getD_eq_getElem?_getD,List.getElem?_eq_getElem g] at this;have c:0≤aH [s.data.toList[k]]:=this.1
  refine⟨c,?_⟩
  have e:=tX c;have:=zA (aH [s.data.toList[k]]).toNat
  rcases Nat.lt_or_ge (aH [s.data.toList[k]]).toNat 10 with z|z
  ·omega
  ·have i:2≤(jI (aH [s.data.toList[k]]).toNat).length:=by
    rw[zy (by omega),List.length_append]
    have:1≤(jI ((aH [s.data.toList[k]]).toNat / 10)).length:=by
     unfold jI;split <;> simp
    simp only[List.length_cons,List.length_nil];omega
   rw[e] at i;simp at i
 apply bytes_inj
 rw[uK a];unfold dN;rw[List.map_map]
 conv=>rhs;rw[← List.map_id s.data.toList]
 refine List.map_congr_left fun b d=>?_
 have c:=(a (aH [b]) (List.mem_map.2 ⟨b,d,rfl⟩));have e:=tX c.1;rw[uS (by omega)] at e
 show UInt8.ofNat (48+(aH [b]).toNat)=b
 simpa using e
theorem Le {L':List En} {T:Wt} {G':List ByteArray} {B':List Int} {r:Rp} {n:Int} (hG:GI L' G' n) (c:Cs L' T G' B' r R') (h3:R'.status≠3) :
  0≤R'.epoch∧R'.epoch<(G'.length:Int)∧lC R'.grp=G'.getD R'.epoch.toNat ⟨#[]⟩∧(gW R'.grp R'.id=true↔(R'.status=1∨R'.status=2))∧(R'.status=1→(regs R'.log:Int)=R'.epoch∨(regs R'.log:Int)=R'.epoch+1):=by
 obtain⟨d,g2⟩:=c.ri.gp h3
 have a:=c.ok.ep.1;refine⟨a,by rw[hG.len];omega,?_,c.ri.me h3,fun e=>?_⟩
 ·rw[g2];exact ND (hG.grp a d)
 ·have b:=c.ri.lg (.inl e);have:=b.ge;have:=b.rg;omega
end
theorem Av (a b:List En):qp (a++b)=qp a++qp b:=by unfold qp;rw[List.filter_append,List.map_append]
theorem Ja {n:Int} {l:List En} (h:∀ e∈l,iZ n e):∀ t∈qp l,bK t.data.toList n=true:=fun t d=>by
 unfold qp at d;obtain⟨e,f,rfl⟩:=List.mem_map.1 d
 obtain⟨b,a⟩:=List.mem_filter.1 f
 have c:=(h e b).2.2.2.2.1;unfold jX at c;have:e.2.2.data.toList.head? = some 114:=by unfold fA jk at a;simpa using a
 rw[if_pos this] at c;rw[drop1];exact c
theorem MK {n:Int} {e:En} (h:iZ n e) (hr:fA e=true):Rp.fu e n=false:=by
 have a:=h.2.2.2.2.1;unfold jX at a;have:e.2.2.data.toList.head? = some 114:=by unfold fA jk at hr;simpa using hr
 rw[if_pos this] at a;unfold Rp.fu;rw[hr,drop1,a];rfl
theorem GI.more {L L':List En} {G:List ByteArray} {n:Int} (h:GI L G n) (hl:L <+: L') (ho:∀ e∈L',iZ n e):∃ G',G <+: G'∧GI L' G' n:=by
 obtain⟨m,rfl⟩:=hl
 obtain⟨a,b⟩:=h.ex
 refine⟨G++qp m,⟨_,rfl⟩,⟨a,by rw[b,Av];rfl⟩,fun t c=>?_⟩
 rcases List.mem_append.1 c with q|q
 ·exact h.ok t q
 ·exact Ja (fun e d=>ho e (List.mem_append_right _ d)) t q
section
variable {K:Kw} {q:Nat} {x:Nod} {R':Rp}
theorem CI.gx (ci:CI K) (hi:KI K) (hx:K.nds[q]? = some x):Gx (gK K.groups) x.R:=by
 have b:=hi.nod q x hx;obtain⟨ri,_,_⟩:=ci.nd x (List.mem_of_getElem? hx)
 refine⟨fun h=>?_,fun a c=>?_⟩
 ·obtain⟨f,g2⟩:=ri.gp (by omega)
  have d:=Gq (ci.gi.grp b.ok.ep.1 f);exact⟨g2,by rw[g2];exact d.2,by rw[g2];exact d.1,(ri.me (by omega)).2 h⟩
 ·obtain⟨e,g2,_⟩:=(ri.an a c).1.s (.inr (b.ok.an a c).1)
  exact⟨g2,(Gq (ci.gi.grp e.e0 e.le)).2⟩
theorem KY (ci:CI K) (hi:KI K) (hx:K.nds[q]? = some x) (hd:Done x.R (Mq K q) R'):∃ M h T,HC { K with net:=M } h T∧(∀ p∈K.net,p∈M)∧Hk (gK K.groups) (cuK K.nds) h T R':=by
 have a:=hi.nod q x hx;have G:=ci.gx hi hx;obtain⟨h,T,H⟩:=ci.hs
 have c0:=H.hok hx a.ok a.ou;rcases hd with rfl|rfl|rfl|⟨P,g,mi,rfl⟩
 ·exact⟨K.net,h,T,H,fun _ z=>z,_,_,c0⟩
 ·exact⟨K.net,h,T,H,fun _ z=>z,_,_,c0.lu G⟩
 ·exact⟨K.net,h,T,H,fun _ z=>z,c0.suspect G⟩
 ·have b:=mi.mi;obtain⟨s,⟨M,f,c,i,j⟩,k,l⟩:=mi
  obtain⟨h,T,H⟩:=c.hs
  refine⟨M,h,T,H,i,(H.hok hx a.ok a.ou).take G g (fun d=>?_) (fun d=>?_)⟩
  ·rw[a.id];exact H.nt _ j (by show (0:Int)≤q;omega) P k l d
  ·obtain⟨e,g2,_⟩:=b.s (.inr d)
   exact⟨g2,(Gq (ci.gi.grp e.e0 e.le)).2⟩
theorem Im (ci:CI K) (hi:KI K) (hx:K.nds[q]? = some x) (hd:Done x.R (Mq K q) R'):Cmp K.list (R'.log.take R'.decided)∧So (R'.log.take R'.decided):=by
 obtain⟨M,h,T,H,_,h',T',k⟩:=KY ci hi hx hd
 exact Hk.one k H.ls
theorem KZ (ci:CI K) (hi:KI K) (hx:K.nds[q]? = some x) (hd:Done x.R (Mq K q) R') (ha:Rp.RcI R') (hid:R'.id=x.R.id) (hn:R'.n=x.R.n) (hok:Ok R'):∀ e∈R'.log,∃ v∈K.wishes,v.e=e:=fun e b=>by
 have dc:=hok.dc;have f:=hi.nod q x hx;obtain⟨c,a,N⟩:∃ c a,Nxt K R' c a:=by
  rcases (Im ci hi hx hd).1 with z|z
  ·obtain⟨a,g,h⟩:=ci.gi.more z (fun e b=>by have:=hok.le e (List.mem_of_mem_take b);rw[hn,f.n] at this;exact this)
   exact⟨_,a,z,g,h,fun _=>⟨by rw[List.length_take];omega,by rw[List.take_take,Nat.min_self]⟩⟩
  ·have d:=z.length_le;rw[List.length_take,Nat.min_eq_left dc] at d;refine⟨_,_,List.prefix_refl _,List.prefix_refl _,ci.gi,fun _=>⟨d,?_⟩⟩
   have:=List.prefix_iff_eq_take.1 z
   rw[List.length_take,Nat.min_eq_left dc] at this;exact this
 obtain⟨y,i,j⟩:=(yV ci hi hx hd ha hid N).ri.jl.2 e b
 obtain⟨v,k,rfl⟩:=List.mem_map.1 i
 exact⟨v,k,j⟩
theorem Oa (ci:CI K) (hi:KI K) (hx:K.nds[q]? = some x) (hd:Done x.R (Mq K q) R') (ha:Rp.RcI R') (hid:R'.id=x.R.id) (hn:R'.n=x.R.n) (hok:Ok R')
  (hp:K.list <+: R'.log.take R'.decided) {k:Nat} (hk:K.list.length≤k) (hkd:k<R'.decided):∀ w∈K.wishes,w.e=R'.log.getD k en0→w.bad=false∧w.floor≤(k:Int):=by
 intro w hw hwe;refine⟨?_,by have:=ci.fl.2 w hw;omega⟩
 have l:=hi.nod q x hx;have dc:=hok.dc;have d:∀ e∈R'.log,iZ K.n e:=fun e f=>by have:=hok.le e f;rw[hn,l.n] at this;exact this
 obtain⟨o,p,r⟩:=ci.gi.more hp (fun e f=>d e (List.mem_of_mem_take f))
 have N:Nxt K R' (R'.log.take R'.decided) o:=⟨hp,p,r,fun _=>⟨by rw[List.length_take];omega,by rw[List.take_take,Nat.min_self]⟩⟩
 have c:=yV ci hi hx hd ha hid N;have a:k<R'.log.length:=by omega
 cases hb:w.bad
 ·rfl
 ·obtain⟨b1,b⟩:=ci.bd w hw hb
  have s:R'.log.getD k en0=R'.log[k]:=getD_at a
  rw[s] at hwe;have g:=d _ (List.getElem_mem a);rcases b with b|⟨E,t,h,eL,b⟩
  ·rw[hwe,MK g (by rw[← hwe];exact b1)] at b;cases b
  ·have j:=c.ri.jl.1 k a (by rw[← hwe];exact b1) (w.e,w.text) (List.mem_map.2 ⟨w,hw,rfl⟩) hwe
   simp only at j
   rw[b,hwe] at j;have y:=vQ (R'.log.take k);have z:=hok.lg;have A:(R'.log.take k).length≤10:=by rw[List.length_take];omega
   have:=Oe t h (by omega) (by omega) j
   have u:K.list <+: R'.log.take k:=by
    obtain⟨m,i⟩:=hp
    refine⟨m.take (k-K.list.length),?_⟩
    have v:(R'.log.take R'.decided).take k=R'.log.take k:=by rw[List.take_take,Nat.min_eq_left (by omega)]
    rw[← v,← i,List.take_append,List.take_of_length_le hk]
   obtain⟨m,i⟩:=u
   rw[← i,lX] at this;omega
end
structure Bads (K:Kw) (W':List ku) (n:Int) (L':List En):Prop where
 t:wt W'=wt K.wishes
 f:∀ w∈W',∃ v∈K.wishes,v.floor=w.floor
 u:W'.Pairwise (fun a b=>a.e.1=b.e.1→a.e.2.1<b.e.2.1)
 b:∀ w∈W',w.bad=true→fA w.e=true∧(Rp.fu w.e n=true∨∃ E:Int,0≤E∧E≤10∧E<regs L'∧w.text=mTx w.e E)
theorem CI.act {K:Kw} {q:Nat} {x x1:Nod} {R':Rp} (ci:CI K) (hi:KI K) (hx:K.nds[q]? = some x) (hd:Done x.R (Mq K q) R') (ha:Rp.RcI R') (hid:R'.id=x.R.id) (hn:R'.n=x.R.n) (hx1:x1.R={ R' with out:=[] })
  {L':List En} {G':List ByteArray} (N:Nxt K R' L' G') (hL:∀ e∈L',iZ K.n e) {W':List ku} (hW:Bads K W' K.n L') (hl:L'=K.list∨L' <+: R'.log.take R'.decided) {net':List (Int×Int×ByteArray)} (hnet:∀ p∈net',p∈K.net∨(0≤p.2.1→∃ o∈R'.out,o=p.2)) (ho:x.R.out=[])
  {K':Kw} (e1:K'.nds=K.nds.set q x1) (e2:K'.list=L') (e3:K'.groups=G') (e4:K'.begun=pR K.begun q R') (e5:K'.wishes=W') (e6:K'.net=net') (e7:K'.n=K.n) (e8:K'.floor=K.floor) (e9:K'.lives=K.lives):CI K':=by
 have c:=yV ci hi hx hd ha hid N;have u:=N.up (q:=q) ci;have ll:K.list.length≤L'.length:=N.l.length_le
 refine⟨by rw[e2,e3,e7];exact N.gi,fun y i=>?_,by rw[e5];exact hW.u,?_,?_,fun y i=>?_,fun p r s=>?_,?_⟩
 ·rw[e5,hW.t] at i;exact ci.tw y i
 ·rw[e8,e2,e5];refine⟨by have:=ci.fl.1;omega,fun w B=>?_⟩
  obtain⟨v,L,e⟩:=hW.f w B
  have:=ci.fl.2 v L;omega
 ·rw[e5,e7,e2];exact hW.b
 ·rw[e1] at i;rw[e2,e3,e4,e5,hW.t];rcases List.mem_or_eq_of_mem_set i with h|rfl
  ·obtain⟨a,b,d⟩:=ci.nd y h
   obtain⟨j,Q⟩:=List.getElem?_of_mem h
   exact⟨a.up u (hi.nod j y Q).ok,b,d.up N.l⟩
  ·rw[hx1];refine⟨c.ri.out [],c.dr,?_⟩
   by_cases C:R'.status=3
   ·obtain⟨_,_,A,F⟩:=ha C
    exact⟨by show R'.decided≤_;rw[F];omega,by show R'.log.take R'.decided=_;rw[F];rfl⟩
   ·exact⟨(N.d C).1,(N.d C).2⟩
 ·rw[e6] at r;rw[e2,e3,e4,e5,e7,hW.t];rcases hnet p r with h|h
  ·exact fun P B S=>(ci.nt p h s P B S).up u
  ·obtain⟨o,D,m⟩:=h s
   have E:=hi.sz.n7;rcases c.out o D with z|z
   ·rw[ho] at z;simp at z
   ·rw[(hi.nod q x hx).n] at z;rcases z with ⟨_,_,_,P,U,V,W,_,X⟩|⟨k,G,A,_⟩|⟨e,A,_,z3,z4,_⟩
    ·rw[← m,U];exact NT.sent E V W X
    ·exfalso
     rw[m,getD_at G] at A;have:=(hL _ (List.getElem_mem G)).1
     omega
    ·exfalso
     obtain⟨y,i,rfl⟩:=z4
     have:=(ci.tw y i).c
     rw[m] at A;omega
 ·obtain⟨M,h,T,H,hs,h',T',k⟩:=KY ci hi hx hd
  exact⟨h',T',H.act (K':=K') hx k hid (by rw[hn];exact (hi.nod q x hx).n) hi.sz.n7 hx1 (by rw[e3];exact N.g) (by rw[e2];exact hl) (fun p r=>by
   rw[e6] at r;exact (hnet p r).imp (hs p) (fun z=>z)) e1 e7 e9⟩
section
variable {L:List En} {T:Wt} {G:List ByteArray} {B:List Int} {K K':Kw}
structure Bare (R:Rp):Prop where
 s:R.status=3
 l:R.log=[]
 d:R.decided=0
 a:R.answers=[]
 v:R.aI=[]
theorem Bare.ri {R:Rp} (h:Bare R):RI L T G B R :=
 ⟨⟨fun p b=>by rw[h.l] at b;simp at b,fun e c=>by rw[h.l] at c;simp at c⟩,fun a d=>by rw[h.a] at d;simp at d,fun v f=>by rw[h.v] at f;simp at f,fun q=>absurd h.s q,fun q=>absurd h.s q,fun q=>by have:=h.s;omega,fun q=>by have:=h.s;omega⟩
theorem CI.of (ci:CI K) (h1:K'.n=K.n) (h2:K'.list=K.list) (h3:K'.groups=K.groups) (h4:K'.begun=K.begun) (h5:K'.wishes=K.wishes) (h6:K'.nds=K.nds) (h9:K'.lives=K.lives)
  (h7:∀ p∈K'.net,p∈K.net∨∃ x∈K.wishes,p.2.2=x.text) (h8:K'.floor≤K.list.length):CI K':=by
 refine⟨by rw[h1,h2,h3];exact ci.gi,by rw[h5];exact ci.tw,by rw[h5];exact ci.un,by rw[h2,h5];exact⟨h8,ci.fl.2⟩,by rw[h1,h2,h5];exact ci.bd,fun x b=>?_,fun p c d=>?_,?_⟩
 ·rw[h2,h3,h4,h5];rw[h6] at b;exact ci.nd x b
 ·rw[h1,h2,h3,h4,h5];rcases h7 p c with q|⟨x,b,q⟩
  ·exact ci.nt p q d
  ·rw[q];exact NT.wish ci b
 ·obtain⟨a,T,H⟩:=ci.hs
  exact⟨a,T,H.of h1 h2 h3 h6 h9 (fun p c=>(h7 p c).imp id (fun ⟨x,b,q⟩ _=>by rw[q];exact Nj.wish ci b))⟩
theorem CI.back (ci:CI K) {q:Nat} {x x1:Nod} (hx:K.nds[q]? = some x) (hb:Bare x1.R) (e0:x1.R=Rp.mk0 q K.n ((cZ K.n.toNat).set q K'.lives) 3 []) (hn:(q:Int)<K.n) (l0:0≤K.lives) (e1:K'.nds=K.nds.set q x1) (e3:K'.lives=K.lives+1) (h1:K'.n=K.n) (h2:K'.list=K.list) (h3:K'.groups=K.groups) (h4:K'.begun=K.begun) (h5:K'.wishes=K.wishes) (h7:K'.net=K.net) (h8:K'.floor=K.floor):CI K':=by
 obtain⟨h,T,H⟩:=ci.hs
 refine⟨by rw[h1,h2,h3];exact ci.gi,by rw[h5];exact ci.tw,by rw[h5];exact ci.un,by rw[h2,h5,h8];exact ci.fl,by rw[h1,h2,h5];exact ci.bd,fun x hx=>?_,by rw[h1,h2,h3,h4,h5,h7];exact ci.nt,H.born hx e0 hn e1 h1 e3 h2 h3 h7 l0⟩
 rw[h2,h3,h4,h5];rw[e1] at hx;rcases List.mem_or_eq_of_mem_set hx with p|rfl
 ·exact ci.nd x p
 ·exact⟨hb.ri,fun h=>absurd hb.s h,by rw[hb.d];omega,by rw[hb.d];rfl⟩
theorem CI.gone (ci:CI K) (k:Nat):CI { K with net:=K.net.take k++K.net.drop (k+1) } :=
 ci.of rfl rfl rfl rfl rfl rfl rfl (fun p a=>.inl (by
  rcases List.mem_append.1 a with q|q
  ·exact List.mem_of_mem_take q
  ·exact List.mem_of_mem_drop q)) ci.fl.1
theorem CI.opnf (ci:CI K) (c:Nat) {f:Int} (hf:f=K.floor∨f≤(K.list.length:Int)):CI { K with opn:=K.opn.set c (-1),floor:=f } :=
 ci.of rfl rfl rfl rfl rfl rfl rfl (fun p a=>.inl a) (by
  show f≤(K.list.length:Int)
  rcases hf with rfl|h
  ·exact ci.fl.1
  ·exact h)
theorem CI.down (ci:CI K) (d:List Bool):CI { K with down:=d }:=ci.of rfl rfl rfl rfl rfl rfl rfl (fun p hp=>.inl hp) ci.fl.1
theorem CI.opn (ci:CI K) (d:List Int):CI { K with opn:=d }:=ci.of rfl rfl rfl rfl rfl rfl rfl (fun p hp=>.inl hp) ci.fl.1
theorem CI.post (ci:CI K) (f t:Int) {v:ku} (hv:v∈K.wishes):CI { K with net:=K.net++[(f,t,v.text)] } :=
 ci.of rfl rfl rfl rfl rfl rfl rfl (fun p a=>by
  rcases List.mem_append.1 a with q|q
  ·exact .inl q
  ·simp only[List.mem_cons,List.not_mem_nil,or_false] at q;subst q;exact .inr ⟨v,hv,rfl⟩) ci.fl.1
theorem CI.ask (ci:CI K) {w:ku} (hw:Tw (w.e,w.text)) (hf:∀ x∈K.wishes,x.e.1=w.e.1→x.e.2.1<w.e.2.1) (hfl:w.floor≤K.list.length) (hb:w.bad=false) (h1:K'.n=K.n) (h2:K'.list=K.list) (h3:K'.groups=K.groups) (h4:K'.begun=K.begun) (h5:K'.wishes=K.wishes++[w])
  (h6:K'.nds=K.nds) (h7:K'.net=K.net) (h8:K'.floor=K.floor) (h9:K'.lives=K.lives):CI K':=by
 have fr:BJ (wt K.wishes) (w.e,w.text):=fun z k q=>by
  obtain⟨x,c,rfl⟩:=List.mem_map.1 k
  have:=hf x c q.1
  have:=q.2
  simp only at this
  omega
 have h:wt (K.wishes++[w])=wt K.wishes++[(w.e,w.text)]:=by unfold wt;simp
 refine⟨by rw[h1,h2,h3];exact ci.gi,?_,?_,?_,?_,fun x c=>?_,fun p f i=>?_,?_⟩
 ·rw[h5,h];intro y hy;rcases List.mem_append.1 hy with q|q
  ·exact ci.tw y q
  ·simp at q;subst q;exact hw
 ·rw[h5,List.pairwise_append];exact⟨ci.un,by simp,fun a l b g=>by simp at g;subst g;exact hf a l⟩
 ·rw[h8,h2,h5];refine⟨ci.fl.1,fun x c=>?_⟩
  rcases List.mem_append.1 c with q|q
  ·exact ci.fl.2 x q
  ·simp at q;subst q;exact hfl
 ·rw[h5,h1,h2];intro x c hbx;rcases List.mem_append.1 c with q|q
  ·exact ci.bd x q hbx
  ·simp at q;subst q;rw[hb] at hbx;cases hbx
 ·rw[h6] at c;rw[h2,h3,h4,h5,h];obtain⟨a,b,d⟩:=ci.nd x c
  exact⟨a.wish fr,b,d⟩
 ·rw[h7] at f;rw[h1,h2,h3,h4,h5,h];exact fun P j m=>(ci.nt p f i P j m).wish fr
 ·obtain⟨a,T,H⟩:=ci.hs
  exact⟨a,T,H.of h1 h2 h3 h6 h9 (fun p f=>.inl (by rw[h7] at f;exact f))⟩
theorem Qn {n id:Int} {g:ByteArray} (hG:GI [] [g] n) (B:List Int):RI [] [] [g] B (Rp.new id n (dN g)):=by
 have e:(Rp.new id n (dN g)).status=if gW (dN g) id then 1 else 4:=rfl
 refine⟨⟨fun p b=>by simp[Rp.new,Rp.mk0] at b,fun e c=>by simp[Rp.new,Rp.mk0] at c⟩,fun a d=>by simp[Rp.new,Rp.mk0] at d,fun v f=>by simp[Rp.new,Rp.mk0] at f,fun _=>?_,fun _=>⟨by simp[Rp.new,Rp.mk0,regs],rfl⟩,fun _=>?_,fun q=>?_⟩
 ·rw[e]
  show gW (dN g) id=true↔_
  by_cases h:gW (dN g) id=true
  ·rw[if_pos h];simp[h]
  ·rw[if_neg h];simp[h]
 ·exact⟨by simp[Rp.new,Rp.mk0],by simp[Rp.new,Rp.mk0,regs],by simp[Rp.new,Rp.mk0,iG],by simp[Rp.new,Rp.mk0,iG],by simp[Rp.new,Rp.mk0,regs],fun p b=>by simp[Rp.new,Rp.mk0] at b,fun e c=>by simp[Rp.new,Rp.mk0] at c⟩
 ·rw[e] at q;split at q <;> omega
end
section
variable {K:Kw} {q:Nat} {o:Int×ByteArray}
theorem oi_bd (ci:CI K) (hi:KI K) (ho:OI K.list (wt K.wishes) K.groups K.begun K.n q o) : -9≤o.1∧o.1<K.n∧o.1≠q∧0<o.2.size:=by
 have i:=hi.sz.n3;rcases ho with ⟨b,a,f,P,g,_⟩|⟨k,d,b,a⟩|⟨e,b,a,_,⟨y,h,rfl⟩,_⟩
 ·refine⟨by omega,a,f,?_⟩
  rw[g];unfold fQ;simp only[ByteArray.size_append];have:(mJ P.kind).size=1:=rfl
  omega
 ·have e:=hi.list.2 _ (List.getElem_mem d);rw[getD_at d] at b a;obtain⟨j,l,_⟩:=e
  refine⟨by omega,by omega,by omega,?_⟩
  rw[a];simp only[ByteArray.size_append];have:YS.size=2:=rfl
  omega
 ·have c:=(ci.tw y h).c;refine⟨by omega,by omega,by omega,?_⟩
  rw[a];simp only[ByteArray.size_append];have:YS.size=2:=rfl
  omega
theorem Lb (c n:Int):YS++dg c++SP++dg n++SP++⟨#[98,97,100]⟩=(⟨#[121,32]⟩:ByteArray)++dg c++⟨#[32]⟩++dg n++⟨#[32,98,97,100]⟩:=by
 apply bytes_inj
 simp[ByteArray.data_append,YS,SP]
theorem Qo (ci:CI K) (hi:KI K) (ho:OI K.list (wt K.wishes) K.groups K.begun K.n q o) (h0:o.1<0):(∃ k,LMt K (-o.1) o.2 k)∨∃ k,WMt K (-o.1) o.2 k:=by
 rcases ho with ⟨a,_⟩|⟨k,b,a,c⟩|⟨e,a,c,d,⟨y,f,rfl⟩,_⟩
 ·omega
 ·rw[getD_at b] at a c;refine .inl ⟨k,b,by omega,?_⟩
  rw[c,Dk (oI (hi.list.2 _ (List.getElem_mem b)).2.2.2.2.1) (fun e g=>oI (hi.list.2 _ (List.mem_of_mem_take g)).2.2.2.2.1),show -o.1=K.list[k].1 by omega]
  rfl
 ·obtain⟨x,h,rfl⟩:=List.mem_map.1 f
  obtain⟨k,b,rfl⟩:=List.getElem_of_mem h
  refine .inr ⟨k,b,by simp only at a;omega,yZ.2 d,?_⟩
  rw[c,Lb];simp only at a ⊢
  rw[show -o.1=K.wishes[k].e.1 by omega]
theorem xS:∀ (l:List ku) (k:Nat),wt (gG l k)=wt l
 | [],_=>rfl
 | x :: l,0=>rfl
 | x :: l,k+1=>by
  have:=xS l k
  unfold wt at this ⊢;simp only[gG,List.map_cons,this]
theorem qA:∀ (l:List ku) (k:Nat) (x:ku),x∈gG l k→∃ (j:Nat) (h:j<l.length),x.e=l[j].e∧x.text=l[j].text∧x.floor=l[j].floor∧(x.bad=l[j].bad∨j=k)
 | [],_,x,h=>by simp[gG] at h
 | y :: l,0,x,h=>by
  rcases List.mem_cons.1 h with rfl|h
  ·exact⟨0,by simp,rfl,rfl,rfl,.inr rfl⟩
  ·obtain⟨j,hj,rfl⟩:=List.getElem_of_mem h
   exact⟨j+1,by simp;omega,rfl,rfl,rfl,.inl rfl⟩
 | y :: l,k+1,x,h=>by
  rcases List.mem_cons.1 h with rfl|h
  ·exact⟨0,by simp,rfl,rfl,rfl,.inl rfl⟩
  ·obtain⟨j,hj,a,b,c,d⟩:=qA l k x h
   exact⟨j+1,by simp;omega,a,b,c,d.imp id (fun q=>by omega)⟩
theorem Cz {R:En→En→Prop}:∀ (l:List ku) (k:Nat),l.Pairwise (fun a b=>R a.e b.e)→(gG l k).Pairwise (fun a b=>R a.e b.e)
 | [],_,h=>h
 | x :: l,0,h=>by
  rw[List.pairwise_cons] at h
  show ({ x with bad:=true } :: l).Pairwise _
  rw[List.pairwise_cons];exact⟨h.1,h.2⟩
 | x :: l,k+1,h=>by
  rw[List.pairwise_cons] at h
  show (x :: gG l k).Pairwise _
  rw[List.pairwise_cons];refine⟨fun y hy=>?_,Cz l k h.2⟩
  obtain⟨j,hj,e,_⟩:=qA l k y hy
  rw[e];exact h.1 _ (List.getElem_mem hj)
theorem CI.bad (ci:CI K) (hl:oD K.n K.list) (ho:OI K.list (wt K.wishes) K.groups K.begun K.n q o) (h0:o.1<0) {k:Nat} (hw:WMt K (-o.1) o.2 k) (hlm:∀ j,¬LMt K (-o.1) o.2 j):CI { K with wishes:=gG K.wishes k }:=by
 obtain⟨C,U,D,F⟩:=hw
 have g:K.wishes[k]∈K.wishes:=List.getElem_mem C
 have r:fA K.wishes[k].e=true∧(Rp.fu K.wishes[k].e K.n=true∨∃ E:Int,0≤E∧E≤10∧E<regs K.list∧K.wishes[k].text=mTx K.wishes[k].e E):=by
  refine⟨yZ.1 D,?_⟩
  have G:=ho
  rcases ho with ⟨s,_⟩|⟨j,f,s,m⟩|⟨e,s,m,V,⟨y,t,rfl⟩,h⟩
  ·omega
  ·exfalso
   rw[getD_at f] at s m;refine hlm j ⟨f,by omega,?_⟩
   rw[m,Dk (oI (hl.2 _ (List.getElem_mem f)).2.2.2.2.1) (fun e L=>oI (hl.2 _ (List.mem_of_mem_take L)).2.2.2.2.1),show -o.1=K.list[j].1 by omega]
   rfl
  ·have i:(K.wishes[k].e,K.wishes[k].text)∈wt K.wishes:=List.mem_map.2 ⟨_,g,rfl⟩
   have z:=ci.tw y t;have A:=ci.tw _ i;have M : -o.1=y.1.1:=by omega
   have N:dg K.wishes[k].e.2.1=dg y.1.2.1:=by
    have q:(⟨#[121,32]⟩:ByteArray)++dg (-o.1)++⟨#[32]⟩++dg K.wishes[k].e.2.1++⟨#[32,98,97,100]⟩=⟨#[121,32]⟩++dg (-o.1)++⟨#[32]⟩++dg y.1.2.1++⟨#[32,98,97,100]⟩:=by
     rw[← F,m,Lb,M]
    have B:((⟨#[121,32]⟩:ByteArray)++dg (-o.1)++⟨#[32]⟩++dg K.wishes[k].e.2.1++⟨#[32,98,97,100]⟩).data.toList=((⟨#[121,32]⟩:ByteArray)++dg (-o.1)++⟨#[32]⟩++dg y.1.2.1++⟨#[32,98,97,100]⟩).data.toList:=by rw[q]
    simp only[ByteArray.data_append,Array.toList_append] at B;exact bytes_inj (List.append_cancel_left (List.append_cancel_right B))
   have u:=P5 (by have:=A.n;simp only at this;omega) (by have:=A.n;simp only at this;omega) (by have:=z.n;omega) z.n.2 N
   have eq:=ci.uniq y t _ i (by simp only;omega) u
   have P:K.wishes[k].e=y.1:=congrArg Prod.fst eq
   have Q:K.wishes[k].text=y.2:=congrArg Prod.snd eq
   rw[P,Q];rcases h with h|h
   ·exact .inl h
   ·exact .inr (h y t rfl)
 have v:wt (gG K.wishes k)=wt K.wishes:=xS _ _
 refine⟨ci.gi,by show ∀ y∈wt (gG K.wishes k),_;rw[v];exact ci.tw,Cz (R:=fun a b=>a.1=b.1→a.2.1<b.2.1) _ _ ci.un,⟨ci.fl.1,fun x l=>?_⟩,fun x l S=>?_,fun x l=>by show RI K.list (wt (gG K.wishes k)) _ _ _∧_;rw[v];exact ci.nd x l,fun p w h0=>by show NT K.list (wt (gG K.wishes k)) _ _ _ _;rw[v];exact ci.nt p w h0,by
  obtain⟨a,T,H⟩:=ci.hs
  exact⟨a,T,H.of rfl rfl rfl rfl rfl (fun p w=>.inl w)⟩⟩
 ·obtain⟨j,f,_,_,e,_⟩:=qA _ _ _ l
  have:=ci.fl.2 _ (List.getElem_mem f)
  show x.floor≤(K.list.length:Int);omega
 ·obtain⟨j,f,a,b,c,d⟩:=qA _ _ _ l
  show fA x.e=true∧(Rp.fu x.e K.n=true∨∃ E:Int,0≤E∧E≤10∧E<regs K.list∧x.text=mTx x.e E)
  rw[a,b];rcases d with d|rfl
  ·exact ci.bd _ (List.getElem_mem f) (by rw[← d];exact S)
  ·exact r
theorem CI.part (ci:CI K) (p:Int):CI { K with part:=p }:=⟨ci.gi,ci.tw,ci.un,ci.fl,ci.bd,ci.nd,ci.nt,by
 obtain⟨a,T,H⟩:=ci.hs
 exact⟨a,T,H.of rfl rfl rfl rfl rfl (fun p b=>.inl b)⟩⟩
theorem CI.top (ci:CI K) (p:Int):CI { K with top:=p }:=⟨ci.gi,ci.tw,ci.un,ci.fl,ci.bd,ci.nd,ci.nt,by
 obtain⟨a,T,H⟩:=ci.hs
 exact⟨a,T,H.of rfl rfl rfl rfl rfl (fun p b=>.inl b)⟩⟩
end
theorem FW {P:Program} {ops:Array Oper} {rest:List Oper} {o:Oper} {a:Act} {Q:Exit→Act→World→Prop} (hgd:o.guard=O) (s x:Operand) (t:TypeId)
  (ho:o.op=.call { callee:=.builtin .append,args:=#[s,x],argTypes:=#[t,t] })
  (base:Nat) (e:TypeId) (i:TypeInfo) (z:Value) (size bytes:Nat) (ht:P.underlying t=some (.slice e)) (hi:P.info? e=some i) (hz:i.zero=some z)
  (hsize:i.size=size) (hby:i.bytes=bytes) (hzs:z.cells.size=size) (hsz:0<size)
  (w:World) (v:Value) (n:Nat) (xs:List Value) (hs:a.eval s=v) (hown:w.ownsRow base e size v n xs)
  (vx:Value) (m:Nat) (news:List Value) (hx:a.eval x=vx) (hrd:Rd w size vx m news) (h1:∀ u∈news,u.oneCell'=true)
  (hn:n+m≤maxLen) (hm:(n+m)*bytes≤140737488355328) (hbase:base≤w.heap.size)
  (h:∀ v' w',w'.ownsRow base e size v' (n+m) (xs++news)→w.grownBy w' v.ownBlock→Below base w w'→wpList P ops Q rest (a.put o.dst v') w') :
  wpList P ops Q (o :: rest) a w:=by
 rcases hrd.2 with ⟨rfl,rfl⟩|⟨b,d,g,rfl,q,r,y,l⟩
 ·have f:news=[]:=List.eq_nil_of_length_eq_zero (by have:=hrd.1;omega)
  subst f;refine wpList_append_own_none hgd s x t ho base e i size ht hi v n xs hs hown hx ?_;exact h v w (by simpa using hown) ⟨rfl,rfl,rfl,Nat.le_refl _,fun _ _ _=>rfl⟩ (Below.refl _ _)
 ·refine wpList_append_own _ hgd s x t ho base e i z size bytes ht hi hz hsize hby hzs hsz v n xs hs hown ⟨b,d,O⟩ m g news hx hrd.1 ?_ h1 hn hm hbase ?_
  ·intro j u hj;have c:(⟨b,d,O⟩:Addr).add j=⟨b,d+j,O⟩:=by unfold Addr.add;split <;> simp_all
   rw[c];exact l j u hj
  ·intro v' w' k2 k3 _;exact h v' w' k2 k3 ((Below.refl _ w).grown k3 hbase (fun k p=>(hown.lt k p).1))
theorem oG (l:List (Int×Int×ByteArray)):(aA l).length=l.length*3:=by
 induction l with
 | nil=>rfl
 | cons a l ih=>simp[aA] at *;omega
theorem Jv {l:List (Int×Int×ByteArray)} {w:World} {b off:Nat} (hce:∀ j u,(aA l)[j]? = some u→w.cell? ⟨b,off+j,O⟩=some u) (k:Nat):∀ j u,(aA (l.take k))[j]? = some u→w.cell? ⟨b,off+j,O⟩=some u:=fun j u a=>by
 refine hce j u ?_;rw[← List.take_append_drop k l,lJ,List.getElem?_append_left (List.getElem?_eq_some_iff.1 a).1];exact a
theorem Ju {l:List (Int×Int×ByteArray)} {w:World} {b off:Nat} (hce:∀ j u,(aA l)[j]? = some u→w.cell? ⟨b,off+j,O⟩=some u) (k:Nat) (hk:k≤l.length):∀ j u,(aA (l.drop k))[j]? = some u→w.cell? ⟨b,off+k*3+j,O⟩=some u:=fun j u a=>by
 have c:(aA (l.take k)).length=k*3:=by rw[oG,List.length_take,Nat.min_eq_left hk]
 have:=hce (k*3+j) u (by
  rw[← List.take_append_drop k l,lJ,List.getElem?_append_right (by omega),c,Nat.add_sub_cancel_left]
  exact a)
 rwa [← Nat.add_assoc] at this
section
variable {N:Nat} {w w':World} {g:Nat} {K K':Kw} {V V':Kv}
theorem Ce (h:KAt N w g K V) (k:Nat) (hk:k<K.net.length) (hl:K.net.length≤1000000000000) :
  Calls Tryz.prog 57 #[Zp (some ⟨g,0,O⟩),I J k] w fun e w'=>e=Zr (.tuple #[])∧∃ v,Kst N w w' g K V { K with net:=K.net.take k++K.net.drop (k+1) } { V with vP:=v }:=by
 obtain⟨E,F,n,o,q⟩:=info_parts Tryz.infoPk
 have s:Rd w 3 V.vP K.net.length (aA K.net):=Rd.bX h.rP
 have c7:w.cell? ⟨g,7,O⟩=some V.vP:=h.cell 7
 have T:=h.free 7;have H:some g≠V.vP.ownBlock:=h.gne (i:=3) rfl
 rcases s.2 with ⟨h1,h2⟩|⟨b,a,d,L,U,C,y,z⟩
 ·omega
 rw[L] at c7 H;have m:=h.lb;have HH:=ah h;clear h;have j1:(0:Int)≤(k:Int):=by omega
 have j2:(k:Int)<(K.net.length:Int):=by omega
 have j3:(k:Int)≤(d:Int):=by omega
 unfold maxLen at C;have W:Rd w 3 (Y (some ⟨b,a,O⟩) k d) k (aA (K.net.take k)):=⟨by rw[oG,List.length_take,Nat.min_eq_left (by omega)],.inr ⟨b,a,d,rfl,by omega,by unfold maxLen;omega,y,Jv z k⟩⟩
 have HD:Hid (∀ c,Below w.heap.size w c→Rd c 3 (Y (some ⟨b,a+(k+1)*3,O⟩) (K.net.length-(k+1)) (d-(k+1))) (K.net.length-(k+1)) (aA (K.net.drop (k+1)))):=fun c A =>
  Rd.below (w:=w) ⟨by rw[oG,List.length_drop],.inr ⟨b,_,_,rfl,by omega,by unfold maxLen;omega,y,Ju z (k+1) (by omega)⟩⟩ A
 have G:Hid (∀ l:List (Int×Int×ByteArray),∀ u∈aA l,u.oneCell'=true):=fun l=>El l
 clear z s;have X:Hid (∀ t c,Below w.heap.size w c→c.ownsRow w.heap.size 102 3 t (k+(K.net.length-(k+1))) (aA (K.net.take k)++aA (K.net.drop (k+1)))→Kst N w (c.setCell ⟨g,7,O⟩ t) g K V { K with net:=K.net.take k++K.net.drop (k+1) } { V with vP:=t }):=fun t c f D=>by
  have M:(K.net.take k++K.net.drop (k+1)).length=k+(K.net.length-(k+1)):=by
   rw[List.length_append,List.length_take,List.length_drop,Nat.min_eq_left (by omega)]
  exact HH.out.newRow (V':={ V with vP:=t }) (K':={ K with net:=K.net.take k++K.net.drop (k+1) }) (i:=3) (w1:=c) (r:=⟨102,3,V.vP,K.net.length,aA K.net⟩) (r':=⟨102,3,t,(K.net.take k++K.net.drop (k+1)).length,aA (K.net.take k++K.net.drop (k+1))⟩) rfl
   (Kp.of_below f) (by rw[M,lJ];exact fB D (Nat.zero_le _)) (fun x hx=>.inr (D.lt x hx).1) 7 rfl rfl rfl
 by_cases P:d=k+1
 ·subst P;have e0:K.net.length-(k+1)=0:=by omega
  have Q:Hid (∀ c,Below w.heap.size w c→Rd c 3 (Y (some ⟨b,a,O⟩) 0 0) 0 (aA (K.net.drop (k+1)))):=fun c A=>by
   have:K.net.drop (k+1)=[]:=List.drop_eq_nil_of_le (by omega)
   rw[this];exact⟨rfl,.inr ⟨b,a,0,rfl,Nat.le_refl _,by unfold maxLen;omega,Nat.lt_of_lt_of_le y A.size,fun j u hj=>by simp[aA] at hj⟩⟩
  go_enter Tryz.func57,Tryz.ntmps57;go_wp2_with (at_builtin;refine FW rfl _ _ 45 rfl w.heap.size 102 E (.agg #[I J 0,I J 0,Z Ze]) 3 32 Tryz.underlying45 F n o q rfl (by decide) w _ _ _ (by rfl) (World.ownsRow_nil _ _ _ _) (Y (some ⟨b,a,O⟩) k (k+1)) k (aA (K.net.take k)) (by rfl) W (G.out _) (by unfold maxLen;omega) (by omega) (Nat.le_refl _) ?_)
  intro v1 w1 hown1 hg1 hb1;have R:w1.cell? ⟨g,7,O⟩=some (Y (some ⟨b,a,O⟩) K.net.length (k+1)):=(hb1.cell (p:=⟨g,7,O⟩) m).trans c7
  have g7:w1.frozen? ⟨g,7,O⟩=false:=(hb1.frozen (p:=⟨g,7,O⟩) m).trans T
  have B:=Q.out w1 hb1;go_wp2_with (at_builtin;refine FW rfl _ _ 45 rfl w.heap.size 102 E (.agg #[I J 0,I J 0,Z Ze]) 3 32 Tryz.underlying45 F n o q rfl (by decide) w1 _ _ _ (by rfl) hown1 (Y (some ⟨b,a,O⟩) 0 0) 0 (aA (K.net.drop (k+1))) (by rfl) B (G.out _) (by unfold maxLen;omega) (by omega) hb1.size ?_)
  intro t c hown2 hg2 f;obtain⟨a2,c2,rfl⟩:=aj hown2
  have r7:c.cell? ⟨g,7,O⟩=some (Y (some ⟨b,a,O⟩) K.net.length (k+1)):=(f.cell (p:=⟨g,7,O⟩) m).trans R
  have q7:c.frozen? ⟨g,7,O⟩=false:=(f.frozen (p:=⟨g,7,O⟩) m).trans g7
  have S:=ah (X.out _ c (hb1.trans f) (by rw[e0];exact hown2))
  clear hown1 hown2 hg1 hg2;go_wp2;exact bodyPost_end (results_none rfl _ _ _) rfl ⟨rfl,_,S.out⟩
 ·go_enter Tryz.func57,Tryz.ntmps57;go_wp2_with (at_builtin;refine FW rfl _ _ 45 rfl w.heap.size 102 E (.agg #[I J 0,I J 0,Z Ze]) 3 32 Tryz.underlying45 F n o q rfl (by decide) w _ _ _ (by rfl) (World.ownsRow_nil _ _ _ _) (Y (some ⟨b,a,O⟩) k d) k (aA (K.net.take k)) (by rfl) W (G.out _) (by unfold maxLen;omega) (by omega) (Nat.le_refl _) ?_)
  intro v1 w1 hown1 hg1 hb1;have R:w1.cell? ⟨g,7,O⟩=some (Y (some ⟨b,a,O⟩) K.net.length d):=(hb1.cell (p:=⟨g,7,O⟩) m).trans c7
  have g7:w1.frozen? ⟨g,7,O⟩=false:=(hb1.frozen (p:=⟨g,7,O⟩) m).trans T
  have B:=HD.out w1 hb1;go_wp2_with (at_builtin;refine FW rfl _ _ 45 rfl w.heap.size 102 E (.agg #[I J 0,I J 0,Z Ze]) 3 32 Tryz.underlying45 F n o q rfl (by decide) w1 _ _ _ (by rfl) hown1 (Y (some ⟨b,a+(k+1)*3,O⟩) (K.net.length-(k+1)) (d-(k+1))) (K.net.length-(k+1)) (aA (K.net.drop (k+1))) (by rfl) B (G.out _) (by unfold maxLen;omega) (by omega) hb1.size ?_)
  intro t c hown2 hg2 f;obtain⟨a2,c2,rfl⟩:=aj hown2
  have r7:c.cell? ⟨g,7,O⟩=some (Y (some ⟨b,a,O⟩) K.net.length d):=(f.cell (p:=⟨g,7,O⟩) m).trans R
  have q7:c.frozen? ⟨g,7,O⟩=false:=(f.frozen (p:=⟨g,7,O⟩) m).trans g7
  have S:=ah (X.out _ c (hb1.trans f) hown2);clear hown1 hown2 hg1 hg2;go_wp2;exact bodyPost_end (results_none rfl _ _ _) rfl ⟨rfl,_,S.out⟩
end
section
variable {N:Nat} {w w':World} {g:Nat} {K K':Kw} {V V':Kv} {b bl:Nat} {W F:List Nat} {R:Rp} {U:Rv}
theorem EC (h:KAt N w g K V) (hx:au w b bl W F R U) (c:Nat) (hc:c≤K.list.length) (hc1:c≤1000) (hsv:R.sv=svF (K.list.take c)) (hf:∀ e∈K.list,OpF e.2.2) (hcl:∀ e∈K.list,1≤e.1∧e.1≤9) :
  Calls Tryz.prog 108 #[Zp (some ⟨g,0,O⟩),Zp (some ⟨b,0,O⟩),I J c] w fun e w'=>e=Zr (.bool true)∧Below w.heap.size w w':=by
 have s:∀ e∈K.list.take c,OpF e.2.2:=fun e t=>hf e (List.mem_of_mem_take t)
 have P:(K.list.take c).length=c:=by rw[List.length_take];omega
 have hv:=Dl _ (K.list.take c) rfl s;have D:=IJ c (K.list.take c) P s (fun e t=>hcl e (List.mem_of_mem_take t))
 have r:Hid (∀ (k:Nat),97≤k→k≤122→∀ d,Below w.heap.size w d→Calls Tryz.prog 10 #[Zp (some ⟨b,0,O⟩),I .u8 (k:Int)] d fun e w'=>e=Zr (Z (if jZ (K.list.take c) k=0 then ⟨#[]⟩ else mJ (jZ (K.list.take c) k)))∧w'=d):=fun k h1 h2 d f=>by
  have:=Cv (hx.below f) (k:Int) (by omega) (by omega)
  have e:wN R.sv (k:Int)=if jZ (K.list.take c) k=0 then ⟨#[]⟩ else mJ (jZ (K.list.take c) k):=by
   unfold wN;have o:ny (k:Int)=true:=by unfold ny;simp;omega
   rw[if_pos o,hsv];have hj:=hv.2 (k-97) (by omega)
   rw[show ((k:Int)-97).toNat=k-97 by omega,hj,show (97:Int)+((k-97:Nat):Int)=k by omega]
   by_cases z:jZ (K.list.take c) k=0
   ·rw[if_pos z,if_pos (beq_iff_eq.2 z)]
   ·rw[if_neg z,if_neg (by simpa using z)]
  rw[e] at this;exact this
 have E:Hid (∀ (k:Nat) d,Below w.heap.size w d→Calls Tryz.prog 145 #[Zp (some ⟨g,0,O⟩),I J c,I .u8 (k:Int)] d fun e w'=>e=Zr (I .u8 (jZ (K.list.take c) k))∧Below d.heap.size d w'):=fun k d f=>zU (h.below f) c hc k (fun e t=>(hf e t).sz)
 have G:Hid (∀ k:Nat,0≤jZ (K.list.take c) (k:Int)):=fun k=>IK _ _
 have H:Hid (∀ (a:Int),1≤a→a≤9→∀ d,Below w.heap.size w d→Calls Tryz.prog 146 #[Zp (some ⟨b,0,O⟩),I J a] d fun e w'=>e=Zr (.tuple #[I J (lT (K.list.take c) a c).1,Z (lT (K.list.take c) a c).2])∧Below d.heap.size d w'):=fun a h1 h9 d f=>by
  have:=E9 (hx.below f) a
  have e:kr R.sv a=lT (K.list.take c) a c:=by
   unfold kr;rw[if_neg (by omega),hsv]
   exact D.2 a h1 h9
  rw[e] at this;exact this
 have L:Hid (∀ (k:Nat) (o:k<K.list.length) d,Below w.heap.size w d→Calls Tryz.prog 147 #[Zp (some ⟨g,0,O⟩),I J k] d fun e w'=>e=Zr (Z (pW (K.list.take k) K.list[k].2.2))∧Below d.heap.size d w'):=fun k o d f=>yg (h.below f) k o (fun e t=>(hf e t).sz)
 have Q:=h.eL;obtain⟨aP,cP,M,al,am⟩:=Q.shape
 rw[M] at Q;have HC:=ah (h.cv 10 rfl M);have u:Hid (∀ (a:Int) (k:Nat),(o:k<K.list.length)→k<c→lT (K.list.take c) a (k+1)=if K.list[k].1=a then (K.list[k].2.1,pW (K.list.take k) K.list[k].2.2) else lT (K.list.take c) a k):=fun a k o y=>by
  have e1:(K.list.take c)[k]? = some K.list[k]:=by rw[List.getElem?_take,if_pos y,List.getElem?_eq_getElem o]
  have e2:(K.list.take c).take k=K.list.take k:=by rw[List.take_take,Nat.min_eq_left (by omega)]
  conv=>lhs;unfold lT
  rw[e1,e2]
 clear hv D hsv hx s hf hcl h;have S:=Lh;go_enter Tryz.func108,Tryz.ntmps108;go_wp2_with fail;go_loopw [7] (fun i wr=>∃ k:Nat,97≤k∧k≤123∧i=I .u8 k∧Below w.heap.size w wr) (fun i _=>123-(intOf i).toNat)
 case atStart=>exact⟨97,by omega,by omega,rfl,Below.refl _ _⟩
 case round =>
  obtain⟨k,T,o,rfl,l⟩:=hrel
  by_cases an:k<123
  ·have j3:(k:Int)≤122:=by omega
   have A:=ah (r.out k T (by omega) wr l)
   have X:=ah (E.out k);have nn:=G.out k;generalize jZ (K.list.take c) (k:Int)=v at *;by_cases z:v=0
   focus
    subst z;rw[if_pos rfl] at A
   rotate_left
   focus
    have z1:(v==0)=false:=beq_eq_false_iff_ne.2 z
    have z2:0<v:=by omega
    rw[if_neg z] at A;unfold mJ at A
   rotate_left
   all_goals
    go_wp2_with fail;refine A.out.mono ?_;rintro e w1 ⟨rfl,aa⟩;subst aa;go_wp2_with fail;refine (X.out _ l).mono ?_;rintro e d ⟨rfl,ab⟩;have n:Below w.heap.size w d:=l.trans (ab.mono l.size)
    go_wp2_with fail
   ·go_roundw
    case rel=>exact⟨k+1,by omega,by omega,by go_num,n⟩
    case measure=>simp[intOf];omega
   ·go_roundw
    case rel=>exact⟨k+1,by omega,by omega,by go_num,n.alloc n.size _⟩
    case measure=>simp[intOf];omega
  ·have j4:¬(k:Int)≤122:=by omega
   clear r E G S;obtain⟨wL,ac⟩:∃ x,x=wr:=⟨_,rfl⟩
   subst ac;go_wp2_with fail;go_loopw [10] (fun i wr=>∃ a:Nat,1≤a∧a≤10∧i=I J a∧Below w.heap.size w wr) (fun i _=>10-(intOf i).toNat)
   case atStart=>exact⟨1,by omega,by omega,rfl,l⟩
   case round =>
    obtain⟨a,ao,ha,rfl,p⟩:=hrel
    by_cases ap:a<10
    ·have q1:(a:Int)≤9:=by omega
     have A:=ah (H.out a (by omega) (by omega) _ p)
     go_wp2_with fail;refine A.out.mono ?_;rintro e w1 ⟨rfl,ad⟩;have n:Below w.heap.size w w1:=p.trans (ad.mono p.size)
     have HF:Hid (lT (K.list.take c) a 0=(0,⟨#[]⟩)):=rfl
     go_wp2_with fail;go_loopw [13,14,15] (fun m q i wr=>∃ k:Nat,k≤c∧i=I J k∧m=I J (lT (K.list.take c) a k).1∧q=Z (lT (K.list.take c) a k).2∧Below w.heap.size w wr) (fun _ _ i _=>c-(intOf i).toNat)
     case atStart=>exact⟨0,Nat.zero_le _,rfl,by rw[HF.out],by rw[HF.out],n⟩
     case round =>
      obtain⟨k,o,rfl,rfl,rfl,j⟩:=hrel
      by_cases ae:k<c
      ·have c10:=HC.out _ j;obtain⟨aq,o1,rfl,_,d1,d2,d3⟩:=(Q.below j).get k (by omega)
       have j1:(0:Int)≤(k:Int):=by omega
       have j2:(k:Int)<(K.list.length:Int):=by omega
       have j3:(k:Int)<(c:Int):=by omega
       have B:=ah (u.out a k (by omega) ae)
       have HR:=ah (L.out k (by omega) _ j)
       generalize K.list[k].1=cl at *;generalize K.list[k].2.1=nu at *;generalize pW (K.list.take k) K.list[k].2.2=rs at *;by_cases C:cl=(a:Int)
       ·have af:(cl==(a:Int))=true:=beq_iff_eq.2 C
        rw[if_pos C] at B;clear C;go_wp2_with fail;refine HR.out.mono ?_;rintro e d ⟨rfl,ai⟩;have ak:Below w.heap.size w d:=j.trans (ai.mono j.size)
        go_wp2;go_roundw
        case rel=>exact⟨k+1,by omega,by go_num,by rw[B.out],by rw[B.out],ak⟩
        case measure=>simp[intOf];omega
       ·have af:(cl==(a:Int))=false:=beq_eq_false_iff_ne.2 C
        rw[if_neg C] at B;clear C;go_wp2;go_roundw
        case rel=>exact⟨k+1,by omega,by go_num,by rw[B.out],by rw[B.out],j⟩
        case measure=>simp[intOf];omega
      ·have y:k=c:=by omega
       subst y;have j3:¬(k:Int)<(k:Int):=by omega
       generalize lT (K.list.take k) a k=ss at *;go_wp2;go_roundw
       case rel=>exact⟨a+1,by omega,by omega,by go_num,j⟩
       case measure=>simp[intOf];omega
    ·have q1:¬(a:Int)≤9:=by omega
     go_wp2;go_ret;exact⟨rfl,p⟩
end
section
variable {N:Nat} {w w':World} {g:Nat} {K K':Kw} {V V':Kv}
def xX (N:Nat) (w w':World) (g:Nat) (K:Kw) (V:Kv) (p:Int) (e:Ending):Prop:=∃ b K',e=Zr (.bool b)∧Kst N w w' g K V K' V∧(b=true→K'=K)∧(b=false→K'={ K with part:=p })
theorem xX.yes {p:Int} (h:KAt N w g K V) (hb:Below w.heap.size w w'):xX N w w' g K V p (Zr (.bool true)):=⟨true,K,rfl,(Kst.refl h).below hb,fun _=>rfl,fun h=>by simp at h⟩
theorem xX.no {p:Int} (k:Kst N w w' g K V { K with part:=p } V):xX N w w' g K V p (Zr (.bool false)):=⟨false,_,rfl,k,fun h=>by simp at h,fun _=>rfl⟩
theorem Bg (h:KAt N w g K V) (z:KSz K) (q:Nat) (hq:q<K.nds.length) (he0:0≤K.nds[q].R.epoch) (he:K.nds[q].R.epoch<(K.groups.length:Int)) (hg:∀ t∈K.groups,t.size≤1000000) :
    Calls Tryz.prog 61 #[Zp (some ⟨g,0,O⟩),I J q] w fun e w'=>xX N w w' g K V 16 e:=by
  obtain⟨n,hn,z3,z1,z7,zd,zb,z10⟩:=z.all
  have HC1:=ah (h.cv 1 rfl (congrArg (Value.int .i64) hn))
  obtain⟨aN,cN,hvN⟩:=aj h.rN
  have HC2:=ah (h.cv 2 rfl hvN)
  have HN:=ah (fun (w2:World) (hw2:Below w.heap.size w w2)=>KAt.ptr h hvN hw2)
  obtain⟨aG,cG,hvG⟩:=aj h.rG
  have HC11:=ah (h.cv 11 rfl hvG)
  have HG:=ah (fun (w2:World) (hw2:Below w.heap.size w w2)=>KAt.grp h hvG hw2)
  obtain⟨aB,cB,hvB⟩:=aj h.rB
  have HC4:=ah (h.cv 4 rfl hvB)
  have HB:=ah (fun (w2:World) (hw2:Below w.heap.size w w2)=>KAt.bgn h hvB hw2)
  have HWh:=ah (fun (w2:World) (hw2:Below w.heap.size w w2)=>KAt.whr h hw2)
  have HF16:Hid (∀ w2,Below w.heap.size w w2→Calls Tryz.prog 65 #[Zp (some ⟨g,0,O⟩),I J 16] w2 fun e w'=>e=Zr (.bool false)∧Kst N w w' g K V { K with part:=16 } V):=fun w2 hw2=>(uy (h.below hw2) 16).mono (by
    rintro e w3 ⟨rfl,k⟩
    exact⟨rfl,((Kst.refl h).below hw2).trans k⟩)
  have HY:Hid (∀ w2,Below w.heap.size w w2→xX N w w2 g K V 16 (Zr (.bool true))):=fun w2 hw2=>xX.yes h hw2
  obtain⟨ia,hia⟩:=Int.eq_ofNat_of_zero_le he0
  have hial : ia < K.groups.length := by omega
  have sg:=hg _ (List.getElem_mem hial)
  have HQ:=ah (HWh.out w (Below.refl _ _) q hq)
  rw[hia] at HQ
  obtain⟨b1,o1,rfl,_,d1⟩:=HN.out w (Below.refl _ _) q hq
  have c2:=HC2.out w (Below.refl _ _)
  have j1 : (0 : Int) ≤ (q : Int) := by omega
  have j2 : (q : Int) < (K.nds.length : Int) := by omega
  have j5 : (ia : Int) < (K.groups.length : Int) := by omega
  have HG1:Hid (∀ w2,Below w.heap.size w w2→∃ b off,aG=some ⟨b,off,O⟩∧b<w2.heap.size∧w2.cell? ⟨b,off+ia,O⟩=some (Z K.groups[ia])):=fun w2 hw2=>HG.out w2 hw2 ia hial
  have HB1 : Hid (∀ w2, Below w.heap.size w w2 → ∀ k, (hk : k < n) → ∃ b off, aB = some ⟨b, off, O⟩ ∧ b < w2.heap.size ∧ w2.cell? ⟨b, off + k, O⟩ = some (I J (K.begun[k]'(by omega)))) := fun w2 hw2 k hk => HB.out w2 hw2 k (by omega)
  have j6 : (n : Int) ≤ (K.begun.length : Int) := by omega
  clear h z hg he0 he HWh HG HN HB hia
  generalize K.groups[ia]=t at *
  generalize K.nds[q].b=bb at *
  generalize K.nds[q].R.view=r2 at *
  generalize K.nds[q].R.status=r3 at *
  generalize K.nds[q].R.decided=r4 at *
  have HA : Hid (∀ (k : Int) (w : World), Calls Tryz.prog 55 #[Z t, I J k] w fun e w' => ∃ b, e = Zr (.bool b) ∧ w' = w) := fun k w => uw t k w (by omega)
  go_enter Tryz.func61,Tryz.ntmps61
  go_wp2_with fail
  refine HQ.out.mono ?_
  rintro e w1 ⟨rfl,nn,hw1⟩
  have hb1 : Below w.heap.size w w1 := by rw [hw1]; exact below_drewN (Below.refl _ _) nn
  clear hw1
  have c11:=HC11.out _ hb1
  obtain⟨b3,o3,rfl,_,d3⟩:=HG1.out _ hb1
  go_wp2_with fail
  go_loopw [10,11] (fun m i wr=>∃ k c:Nat,c≤k∧k≤n∧i=I J k∧m=I J c∧Below w.heap.size w wr) (fun _ i _=>n-(intOf i).toNat)
  case atStart=>exact⟨0,0,Nat.le_refl _,Nat.zero_le _,rfl,rfl,hb1⟩
  case round =>
    obtain⟨k,c,hck,hk,rfl,rfl,hbw⟩:=hrel
    have k1:=HC1.out _ hbw
    by_cases hlt:k<n
    · obtain⟨b2,o2,rfl,_,d2⟩:=HB1.out _ hbw k hlt
      have k4:=HC4.out _ hbw
      have j1 : (0 : Int) ≤ (k : Int) := by omega
      have j3 : (k : Int) < (K.begun.length : Int) := by omega
      have j4 : (k : Int) < (n : Int) := by omega
      generalize K.begun[k]=bg at *
      go_wp2_with fail
      refine (HA.out _ _).mono ?_
      rintro e w4 ⟨bA,rfl,hw4⟩
      subst hw4
      by_cases hge:(ia:Int)≤bg
      all_goals
        cases bA
        all_goals
          go_wp2_with fail
          first
          | (go_roundw
             case rel => exact ⟨k + 1, c, by omega, by omega, by go_num, rfl, hbw⟩
             case measure=>simp[intOf];omega)
          | (go_roundw
             case rel => exact ⟨k + 1, c + 1, by omega, by omega, by go_num, by go_num, hbw⟩
             case measure=>simp[intOf];omega)
    · have j4 : ¬ (k : Int) < (n : Int) := by omega
      by_cases hgt:(t.size:Int)<2*(c:Int)
      · go_wp2
        go_ret
        exact HY.out _ hbw
      · go_wp2_with fail
        refine (HF16.out _ hbw).mono ?_
        rintro e w2 ⟨rfl,k2⟩
        go_wp2
        go_ret
        exact xX.no k2
end
theorem JI {t:ByteArray} {n m:Nat} (h:bK t.data.toList (n:Int)=true) (hm:m<t.size):48≤t[m].toNat∧t[m].toNat<48+n:=by
 have e:t.data.toList.length=t.size:=by rw[Array.length_toList];rfl
 have a:=nU h m (by omega)
 rw[atS hm,Ac] at a
 split at a
 ·omega
 ·omega
theorem Ns {x:Int} (h1:0≤x) (h2:x≤255):IntKind.u8.wrap x=x:=by
 unfold IntKind.wrap;simp[IntKind.signed,IntKind.bits];omega
section
variable {N:Nat} {w w':World} {g:Nat} {K K':Kw} {V V':Kv}
def Il (w w':World) (e:Ending):Prop:=∃ (v:Value) (l:List ByteArray),e=Zr v∧w'.ownsRow w.heap.size 9 1 v l.length (l.map Value.string)∧(∀ s∈l,s.size≤1000)∧l.length≤20∧Below w.heap.size w w'
theorem Ez (h:KAt N w g K V) (hi:KI K) (gr:Gr K) (q:Nat) (hq:q<K.nds.length) :
  Calls Tryz.prog 111 #[Zp (some ⟨g,0,O⟩),I J q] w fun e w'=>sZ w w' e:=by
 have z:=hi.sz;obtain⟨n,W,z3,z1,z7,zd,zb,aa⟩:=z.all
 have ab:=ah (h.cv 1 rfl (congrArg (Value.int .i64) W));obtain⟨aN,cN,v⟩:=aj h.rN
 have x:=ah (h.cv 2 rfl v);have X:=ah (fun (d:World) (a:Below w.heap.size w d)=>KAt.ptr h v a)
 obtain⟨aG,cG,y⟩:=aj h.rG
 have A:=ah (h.cv 11 rfl y);have HG:=ah (fun (d:World) (a:Below w.heap.size w d)=>KAt.grp h y a)
 have l:=ah (fun (d:World) (a:Below w.heap.size w d)=>KAt.whr h a)
 have o:=(hi.nod q _ (List.getElem?_eq_getElem hq)).ok;have p:=gr.ep _ (List.getElem_mem hq);have M:=o.ep;have P:=o.vi;have B:Hid (∀ (i:Nat) (hi:i<K.groups.length),bK (K.groups[i]).data.toList K.n=true∧((K.groups[i]).size=3∨(K.groups[i]).size=5)):=fun i hl=>⟨hi.grps _ (List.getElem_mem hl),hi.gsz _ (List.getElem_mem hl)⟩
 have HQ:=ah (l.out w (Below.refl _ _) q hq);obtain⟨b1,o1,rfl,_,d1⟩:=X.out w (Below.refl _ _) q hq
 have c2:=x.out w (Below.refl _ _);have j1:(0:Int)≤(q:Int):=by omega
 have j2:(q:Int)<(K.nds.length:Int):=by omega
 clear h z hi gr o;generalize K.nds[q].b=bb at *;generalize K.nds[q].R.epoch=r1 at *;generalize K.nds[q].R.view=r2 at *;generalize K.nds[q].R.status=r3 at *;generalize K.nds[q].R.decided=r4 at *;by_cases H:r3=3
 focus
  subst H;clear p
 rotate_left
 focus
  have C:r1<(K.groups.length:Int):=p.resolve_left H
  have ac:(r3==3)=false:=beq_eq_false_iff_ne.2 H
  obtain⟨r,rfl⟩:=Int.eq_ofNat_of_zero_le M.1
  obtain⟨f,rfl⟩:=Int.eq_ofNat_of_zero_le P.1
  have k:r<K.groups.length:=by omega
  have s:=B.out r k;rw[W] at s;have Q:Hid (∀ d,Below w.heap.size w d→∃ b D,aG=some ⟨b,D,O⟩∧b<d.heap.size∧d.cell? ⟨b,D+r,O⟩=some (Z K.groups[r])):=fun d a=>HG.out d a r k
  have j5:(r:Int)<(K.groups.length:Int):=by omega
  clear p C HG B H;generalize K.groups[r]=t at *;have u:0<t.size:=by omega
  have E:=Nat.mod_lt f u;have hb:=JI s.1 E;have e1:IntKind.i64.wrap ((f:Int).tmod (t.size:Int))=((f % t.size:Nat):Int):=by
   rw[Int.tmod_eq_emod_of_nonneg (by omega)]
   rw[show ((f:Int) % (t.size:Int))=((f % t.size:Nat):Int) from (Int.natCast_emod f t.size).symm]
   exact gq (by omega) (by omega)
  have e0:(f:Int).tmod (t.size:Int)=((f % t.size:Nat):Int):=by
   rw[Int.tmod_eq_emod_of_nonneg (by omega)]
   exact (Int.natCast_emod f t.size).symm
  have e3:¬(t.size:Int)=0:=by omega
  have e7:¬t=Ze:=by intro hc;rw[hc] at u;exact absurd u (by decide)
  have HJ:Hid (∀ j:Nat,j<n→j<K.nds.length):=fun j hj=>by omega
  generalize f % t.size=m at *;have e4:(0:Int)≤(m:Int):=by omega
  have e5:(m:Int)<(t.size:Int):=by omega
  obtain⟨j,hj⟩:∃ j:Nat,(t[m].toNat:Int)-48=j:=⟨t[m].toNat-48,by omega⟩
  have e8:IntKind.u8.wrap ((t[m].toNat:Int)-48)=(j:Int):=by rw[hj];exact Ns (by omega) (by omega)
  have e9:IntKind.i64.wrap (j:Int)=(j:Int):=gq (by omega) (by omega)
  have ad:(0:Int)≤(j:Int):=by omega
  have ae:(j:Int)<(K.nds.length:Int):=by omega
  have F:j<K.nds.length:=by omega
  clear s hb
 rotate_left
 all_goals
  go_enter Tryz.func111,Tryz.ntmps111;go_wp2_with fail;refine HQ.out.mono ?_;rintro e S ⟨rfl,nn,G⟩;have c:Below w.heap.size w S:=by rw[G];exact below_drewN (Below.refl _ _) nn
  clear G
 ·go_wp2;go_ret;exact⟨_,rfl,c⟩
 ·have af:=A.out _ c;have ai:=x.out _ c
  obtain⟨b3,o3,rfl,_,d3⟩:=Q.out _ c
  obtain⟨b4,o4,T,_,d4⟩:=X.out _ c j F
  cases T;have U:Hid (∀ L,Calls Tryz.prog 29 #[Zp (some ⟨K.nds[j].b,0,O⟩)] (S.drewN L) fun e w'=>e=Zr (.tuple #[I J K.nds[j].R.epoch,I J K.nds[j].R.view,I J K.nds[j].R.status,I J (K.nds[j].R.decided:Int)])∧∃ n,w'=(S.drewN L).drewN n):=fun L=>l.out _ (below_drewN c L) j F
  clear l;generalize K.nds[j].b=ak at *;generalize K.nds[j].R.epoch=s1 at *;generalize K.nds[j].R.view=s2 at *;generalize K.nds[j].R.status=s3 at *;generalize K.nds[j].R.decided=s4 at *;go_wp2_with fail;go_quiet ((go_at_call 29;exact Calls.quiet_of (U.out _)))
  go_wp2
  all_goals go_ret
  all_goals exact⟨_,rfl,below_drewN c _⟩
end
section
variable {w w0:World} {b bl:Nat} {W F:List Nat} {R:Rp} {V:Rv} {P:Pm} {vl vg vo vL:Value}
structure kU (w w':World) (b bl:Nat) (W F:List Nat) (R':Rp) (vt:Value) (W' F':List Nat) (V':Rv):Prop where
 out:mU w' 0 vt R'.out
 rp:au w' b bl W' F' { R' with out:=[] } V'
 vt0:V'.vt=Y O 0 0
 kp:Kp W w w'
 m:∀ x∈W',x∈W∨w.heap.size≤x
 g:∀ x∈F',x∈F∨w.heap.size≤x
 fr:Fr F' vt
 at_:∀ k,vt.ownBlock=some k→k∈F∨w.heap.size≤k
def TkP (w w':World) (b bl:Nat) (W F:List Nat) (R':Rp) (e:Ending):Prop:=∃ vt W' F' V',e=Zr vt∧kU w w' b bl W F R' vt W' F' V'
theorem kU.mk' {w wX wS:World} {W F WX FX WS FSs:List Nat} {RX:Rp} {VX:Rv} {a:Option Addr} {c:Nat} (h:Kp W w wX∧(∀ x∈WX,x∈W∨w.heap.size≤x)∧(∀ x∈FX,x∈F∨w.heap.size≤x)) (hwt:In WX VX.vt) (hwf:∀ x∈WX,x∈FX) (hv:VX.vt=Y a RX.out.length c)
  (ho:mU wS 0 (Y a RX.out.length c) RX.out) (kS:Kp [b] wX wS) (hR:au wS b bl WS FSs { RX with out:=[] } { VX with vt:=Y O 0 0 }) (hWS:∀ x∈WS,x∈WX) (hFS:∀ x∈FSs,x∈FX) (hf:Fr FSs (Y a RX.out.length c)) :
  TkP w wS b bl W F RX (Zr (Y a RX.out.length c)):=by
 refine⟨_,WS,FSs,_,rfl,ho,hR,rfl,?_,fun x d=>h.2.1 x (hWS x d),fun x d=>h.2.2 x (hFS x d),hf,fun k e=>?_⟩
 ·refine h.1.trans (S':=[b]) kS (fun x d f=>?_)
  simp at d;subst d;rcases h.2.1 _ (hWS _ hR.wb) with q|q
  ·exact q
  ·omega
 ·have:=hwt k (by rw[hv];exact e)
  exact h.2.2 k (hwf k this)
end
section
variable {w w0:World} {b bl:Nat} {W F:List Nat} {R:Rp} {V:Rv} {P:Pm} {vl vg vo vL:Value}
theorem MF (h:au w b bl W F R V) (hR:Ok R) (ho:R.out=[]) :
  Calls Tryz.prog 58 #[Zp (some ⟨b,0,O⟩)] w fun e w'=>TkP w w' b bl W F R.lu e:=by
 have S:=ah (Rst.refl h);have D:Hid (∀ wX G H,Kp W w wX→Mv w W F G H→Kp W w wX∧(∀ x∈G,x∈W∨w.heap.size≤x)∧(∀ x∈H,x∈F∨w.heap.size≤x)):=fun _ _ _ k m=>⟨k,m.m,m.g⟩
 have ab:R.out.length≤100000:=by rw[ho];simp
 have s:Hid (R.lu=if R.leads then R.iD else if R.status=2 then R.call.dJ else if R.status=3 then R.ask else if R.status=5 then R.bF else R):=rfl
 have M:=ah (Fz S.out hR);have N:=ah (Rp.yO hR);clear h ho;cases hl:R.leads
 ·rw[hl] at M;cases s2:(R.status==2)
  ·cases s3:(R.status==3)
   ·cases s5:(R.status==5)
    focus
     have E:Hid (R.lu=R):=by unfold Hid;rw[s.out,hl,if_neg (by decide),if_neg (by simpa using s2),if_neg (by simpa using s3),if_neg (by simpa using s5)]
    rotate_left
    focus
     have E:Hid (R.lu=R.bF):=by unfold Hid;rw[s.out,hl,if_neg (by decide),if_neg (by simpa using s2),if_neg (by simpa using s3),if_pos (by simpa using s5)]
    rotate_left
    all_goals
     clear s;go_enter Tryz.func58,Tryz.ntmps58;go_wp2_with fail;refine M.out.mono ?_;rintro e T ⟨rfl,d⟩;have t:=ah d;obtain⟨_,_,K,f,_,_⟩:=d
     have c3:=f.c3;clear f
    focus
     obtain⟨G,H,Q,c,B,C⟩:=t.out
    rotate_left
    focus
     go_wp2_with fail;refine (oJ t.out hR (by omega)).mono ?_
     rintro e U ⟨rfl,i⟩;have u:=ah i;clear i;obtain⟨G,H,Q,c,B,C⟩:=u.out
    rotate_left
    all_goals
     have j:=ah (jS c);have v:=ah (D.out _ _ _ B C);have y:=ah c.wt;have z:=ah c.wf;obtain⟨X,cX,a⟩:=c.g71
     have A:=ah a;rw[a] at j;clear c B C a;go_wp2_with fail;refine j.out.mono ?_;rintro e wS ⟨rfl,l,kS,WS,L,n,o,p,q⟩;have r:=ah (kU.mk' v.out y.out z.out A.out l kS n o p q);clear l kS n o p q;go_wp2;go_ret;exact (by rw[E.out];exact r.out)
   ·have E:Hid (R.lu=R.ask):=by unfold Hid;rw[s.out,hl,if_neg (by decide),if_neg (by simpa using s2),if_pos (by simpa using s3)]
    clear s;go_enter Tryz.func58,Tryz.ntmps58;go_wp2_with fail;refine M.out.mono ?_;rintro e T ⟨rfl,d⟩;have t:=ah d;obtain⟨_,_,K,f,_,_⟩:=d
    have c3:=f.c3;clear f;go_wp2_with fail;refine (Qu t.out hR (by omega)).mono ?_
    rintro e U ⟨rfl,i⟩;have u:=ah i;clear i;obtain⟨G,H,Q,c,B,C⟩:=u.out
    have j:=ah (jS c);have v:=ah (D.out _ _ _ B C);have y:=ah c.wt;have z:=ah c.wf;obtain⟨X,cX,a⟩:=c.g71
    have A:=ah a;rw[a] at j;clear c B C a;go_wp2_with fail;refine j.out.mono ?_;rintro e wS ⟨rfl,l,kS,WS,L,n,o,p,q⟩;have r:=ah (kU.mk' v.out y.out z.out A.out l kS n o p q);clear l kS n o p q;go_wp2;go_ret;exact (by rw[E.out];exact r.out)
  ·have E:Hid (R.lu=R.call.dJ):=by unfold Hid;rw[s.out,hl,if_neg (by decide),if_pos (by simpa using s2)]
   clear s;go_enter Tryz.func58,Tryz.ntmps58;go_wp2_with fail;refine M.out.mono ?_;rintro e T ⟨rfl,d⟩;have t:=ah d;obtain⟨_,_,K,f,_,_⟩:=d
   have c3:=f.c3;clear f;go_wp2_with fail;refine (Jb t.out hR (by omega)).mono ?_
   rintro e U ⟨rfl,i⟩;have u:=ah i;clear i;go_wp2_with fail;refine (vY u.out N.out.ok (Nat.le_trans N.out.out (by omega))).mono ?_
   rintro e w3 ⟨rfl,P⟩;have aa:=ah P;clear P;obtain⟨G,H,Q,c,B,C⟩:=aa.out
   have j:=ah (jS c);have v:=ah (D.out _ _ _ B C);have y:=ah c.wt;have z:=ah c.wf;obtain⟨X,cX,a⟩:=c.g71
   have A:=ah a;rw[a] at j;clear c B C a;go_wp2_with fail;refine j.out.mono ?_;rintro e wS ⟨rfl,l,kS,WS,L,n,o,p,q⟩;have r:=ah (kU.mk' v.out y.out z.out A.out l kS n o p q);clear l kS n o p q;go_wp2;go_ret;exact (by rw[E.out];exact r.out)
 ·rw[hl] at M;have E:Hid (R.lu=R.iD):=by unfold Hid;rw[s.out,hl,if_pos rfl]
  clear s;go_enter Tryz.func58,Tryz.ntmps58;go_wp2_with fail;refine M.out.mono ?_;rintro e T ⟨rfl,d⟩;have t:=ah d;obtain⟨_,_,K,f,_,_⟩:=d
  have c3:=f.c3;clear f;go_wp2_with fail;refine (Ko t.out hR (by omega)).mono ?_
  rintro e U ⟨rfl,i⟩;have u:=ah i;clear i;obtain⟨G,H,Q,c,B,C⟩:=u.out
  have j:=ah (jS c);have v:=ah (D.out _ _ _ B C);have y:=ah c.wt;have z:=ah c.wf;obtain⟨X,cX,a⟩:=c.g71
  have A:=ah a;rw[a] at j;clear c B C a;go_wp2_with fail;refine j.out.mono ?_;rintro e wS ⟨rfl,l,kS,WS,L,n,o,p,q⟩;have r:=ah (kU.mk' v.out y.out z.out A.out l kS n o p q);clear l kS n o p q;go_wp2;go_ret;exact (by rw[E.out];exact r.out)
theorem Fa (h:au w b bl W F R V) (hR:Ok R) (ho:R.out=[]) :
  Calls Tryz.prog 59 #[Zp (some ⟨b,0,O⟩)] w fun e w'=>TkP w w' b bl W F R.suspect e:=by
 have L:=ah (Rst.refl h);have C:Hid (∀ Q D E,Kp W w Q→Mv w W F D E→Kp W w Q∧(∀ x∈D,x∈W∨w.heap.size≤x)∧(∀ x∈E,x∈F∨w.heap.size≤x)):=fun _ _ _ k m=>⟨k,m.m,m.g⟩
 have U:R.out.length≤100000:=by rw[ho];simp
 have d:Hid (R.suspect=if R.carries=true∧R.view<999 then R.want (R.view+1) else R):=rfl
 have H:=ah (uG L.out);have X:=hR.vi;have aa:IntKind.i64.wrap (R.view+1)=R.view+1:=gq (by omega) (by omega)
 clear h ho;cases hl:R.carries
 ·rw[hl] at H;have K:Hid (R.suspect=R):=by unfold Hid;rw[d.out,hl,if_neg (fun q=>absurd q.1 (by decide))]
  clear d;go_enter Tryz.func59,Tryz.ntmps59;go_wp2_with fail;refine H.out.mono ?_;rintro e w1 ⟨rfl,f⟩;have t:=ah f;obtain⟨_,_,M,i,_,_⟩:=f
  have c5:=i.c5;clear i;obtain⟨D,E,S,c,A,B⟩:=t.out
  have j:=ah (jS c);have u:=ah (C.out _ _ _ A B);have v:=ah c.wt;have y:=ah c.wf;obtain⟨aX,cX,a⟩:=c.g71
  have z:=ah a;rw[a] at j;clear c A B a;go_wp2_with fail;refine j.out.mono ?_;rintro e wS ⟨rfl,l,kS,WS,N,n,o,p,r⟩;have s:=ah (kU.mk' u.out v.out y.out z.out l kS n o p r);clear l kS n o p r;go_wp2;go_ret;exact (by rw[K.out];exact s.out)
 ·rw[hl] at H;by_cases T:R.view<999
  focus
   have K:Hid (R.suspect=R.want (R.view+1)):=by unfold Hid;rw[d.out,if_pos ⟨hl,T⟩]
  rotate_left
  focus
   have K:Hid (R.suspect=R):=by unfold Hid;rw[d.out,if_neg (fun q=>T q.2)]
  rotate_left
  all_goals
   clear d;go_enter Tryz.func59,Tryz.ntmps59;go_wp2_with fail;refine H.out.mono ?_;rintro e w1 ⟨rfl,f⟩;have t:=ah f;obtain⟨_,_,M,i,_,_⟩:=f
   have c5:=i.c5;clear i
  focus
   go_wp2_with fail;refine (DW t.out hR (R.view+1) (by omega) (by omega)).mono ?_
   rintro e w2 ⟨rfl,G⟩;have P:=ah G;clear G;obtain⟨D,E,S,c,A,B⟩:=P.out
  rotate_left
  focus
   obtain⟨D,E,S,c,A,B⟩:=t.out
  rotate_left
  all_goals
   have j:=ah (jS c);have u:=ah (C.out _ _ _ A B);have v:=ah c.wt;have y:=ah c.wf;obtain⟨aX,cX,a⟩:=c.g71
   have z:=ah a;rw[a] at j;clear c A B a;go_wp2_with fail;refine j.out.mono ?_;rintro e wS ⟨rfl,l,kS,WS,N,n,o,p,r⟩;have s:=ah (kU.mk' u.out v.out y.out z.out l kS n o p r);clear l kS n o p r;go_wp2;go_ret;exact (by rw[K.out];exact s.out)
end
variable {X:List Nat}
def KC:ByteArray:=⟨#[99]⟩
end Go.Proofs.YtinaollfjiddmaaGreatDoor
