import Derived.Test.YtinaollfjiddmaaGreatDoorA14
set_option maxRecDepth 100000
set_option maxHeartbeats 8000000
set_option linter.all false
namespace Go.Proofs.YtinaollfjiddmaaGreatDoor
open Go.Value renaming int→I,slice→Y,string→Z,pointer→Zp
open Go.Ending renaming returned→Zr
open _root_.ByteArray renaming empty→Ze
open Go.IntKind renaming i64→J
open Option renaming none→O
open Go.RowKit
theorem idd {p:Prop} (h:p):p:=h
namespace Rp
variable {r r' X:Rp}
def rk (s:Int):Nat:=if s=3 then 0 else if s=2 then 1 else if s=1 then 2 else if s=5 then 3 else 4
def mz (r:Rp):Nat:=(((r.epoch.toNat*1000+r.view.toNat)*5+rk r.status)*11+r.log.length)*11+r.decided
theorem ML (s:Int):rk s≤4:=by unfold rk;(repeat' split) <;> omega
theorem Px (h:Ok r):mz r<6655000:=by
 have h1:=h.ep;have h2:=h.vi;have h3:=ML r.status;have h4:=h.lg;have h5:=h.dc;unfold mz;omega
theorem pz (h:Ok r) (h':Ok r') (hl:r.epoch<r'.epoch∨(r.epoch=r'.epoch∧(r.view<r'.view∨(r.view=r'.view∧(rk r.status<rk r'.status∨(rk r.status=rk r'.status∧(r.log.length<r'.log.length∨(r.log.length=r'.log.length∧r.decided<r'.decided)))))))):mz r<mz r':=by
 have a:=h.ep;have b:=h.vi;have c:=ML r.status;have d:=h.lg;have e:=h.dc;have f:=h'.ep;have g2:=h'.vi;have g3:=ML r'.status;have g:=h'.lg;have i:=h'.dc;unfold mz;rcases hl with hl|⟨j,hl|⟨k,hl|⟨l,hl|⟨m,hl⟩⟩⟩⟩ <;> omega
def Adv (r r':Rp):Prop:=mz r<mz r'∨(mz r=mz r'∧r'.out.length≤r.out.length+1)
def SvI (r:Rp):Prop:=r.sv=svF (r.log.take r.decided)
structure Nx (r r':Rp):Prop where
 adv:Adv r r'
 sv:SvI r→SvI r'
 rc:r'.status=3→r.status=3∧r'.epoch=r.epoch∧r'.view=r.view∧r'.log=r.log∧r'.decided=r.decided∧r'.out=r.out
theorem Nx.refl (r:Rp):Nx r r:=⟨.inr ⟨rfl,by omega⟩,idd,fun h=>⟨h,rfl,rfl,rfl,rfl,rfl⟩⟩
theorem Ad (hs:r.status≠3) (qt:Int) (t:ByteArray):Nx r (r.put qt t):=⟨.inr ⟨rfl,by simp[put]⟩,idd,fun h=>absurd h hs⟩
theorem IX (hs:r.status≠3) (qt:Int) (P:Pm):Nx r (r.send qt P):=Ad hs _ _
theorem nZ (hs:r.status≠3) (qt k:Int):Nx r (r.bare qt k):=Ad hs _ _
theorem vI (hs:r.status≠3) (qt:Int):Nx r (r.tell qt):=Ad hs _ _
theorem Hq (hs:r.status≠3) (qt:Int):Nx r (r.jL qt):=Ad hs _ _
theorem ET (hs:r.status≠3) (c m:Int) (t:ByteArray):Nx r (r.reply c m t):=Ad hs _ _
theorem nM (l:List En):SvI (r.over l):=by unfold SvI over;rfl
theorem Ii (h:SvI r) (hd:r.decided<r.log.length):SvI (r.l6 (r.log.getD r.decided (0,0,⟨#[]⟩))):=by
 unfold SvI l6 at *;dsimp only;rw[h];unfold svF;rw[List.take_succ_eq_append_getElem hd,List.foldl_append];simp[List.getD,hd]
theorem yB (h:SvI r) (hd:r.decided<r.log.length):SvI (r.carried (r.log.getD r.decided (0,0,⟨#[]⟩))):=by
 have k:=Ii h hd;unfold carried
 split
 ·exact k
 ·exact k
theorem Nh (h:SvI r) (g:List Int):SvI (r.turn g):=by
 unfold turn;dsimp only
 split
 ·exact h
 ·exact h
theorem AV (g:List Int):(r.turn g).epoch=r.epoch+1:=by
 unfold turn;dsimp only;split <;> rfl
theorem FN (g:List Int):(r.turn g).status≠3:=by
 unfold turn;dsimp only;split
 ·show (1:Int)≠3;decide
 ·show (5:Int)≠3;decide
theorem qL (e:En):(r.carried e).status=r.status:=by unfold carried;split <;> rfl
theorem CW (e:En):(r.carried e).view=r.view:=by unfold carried;split <;> rfl
theorem BQ:∀ (f:Nat) (r:Rp) (p:Int),Ok r→(dZ f r p=r∨mz r<mz (dZ f r p))∧(SvI r→SvI (dZ f r p))∧((dZ f r p).status=3→r.status=3)
 | 0,r,_,_=>⟨.inl rfl,idd,idd⟩
 | f+1,r,p,h=>by
  have hg:=ug (f+1) r p h;unfold dZ at hg ⊢
  split
  ·rename_i q;rw[if_pos q] at hg;dsimp only at hg ⊢;have k:=lD h q.2 (r.log.getD r.decided (0,0,⟨#[]⟩))
   split
   ·rename_i ht;rw[if_pos ht] at hg;refine⟨.inr (pz h hg.ok (.inl ?_)),fun a=>Nh (yB a q.2) _,fun a=>absurd a (FN _)⟩
    rw[AV,iL];omega
   ·obtain⟨b,d,e⟩:=BQ f (r.carried (r.log.getD r.decided (0,0,⟨#[]⟩))) p k.ok
    have c:mz r<mz (r.carried (r.log.getD r.decided (0,0,⟨#[]⟩))):=pz h k.ok (.inr ⟨(iL _).symm,.inr ⟨(CW _).symm,.inr ⟨by rw[qL],.inr ⟨by rw[lQ],by rw[iF];omega⟩⟩⟩⟩)
    refine⟨.inr ?_,fun a=>d (yB a q.2),fun a=>by have:=e a;rwa [qL] at this⟩
    rcases b with b|b
    ·rw[b];exact c
    ·omega
  ·exact⟨.inl rfl,idd,idd⟩
theorem uR (h:Ok r) (p:Int):(r.aV p=r∨mz r<mz (r.aV p))∧(SvI r→SvI (r.aV p))∧((r.aV p).status=3→r.status=3):=BQ _ r p h
theorem Adv.dec (h:Adv r X) (hX:Ok X) (p:Int):Adv r (X.aV p):=by
 rcases (uR hX p).1 with q|q
 ·rw[q];exact h
 ·rcases h with h|h
  ·exact .inl (by omega)
  ·exact .inl (by omega)
theorem Nx.dec (h:Adv r X) (hX:Ok X) (hs:SvI r→SvI X) (h3:X.status≠3) (p:Int):Nx r (X.aV p) :=
 ⟨h.dec hX p,fun q=>(uR hX p).2.1 (hs q),fun q=>absurd ((uR hX p).2.2 q) h3⟩
theorem Nx.lt (h:mz r<mz r') (hs:SvI r→SvI r') (h3:r'.status≠3):Nx r r':=⟨.inl h,hs,fun q=>absurd q h3⟩
theorem Nx.catch (h:mz r<mz X) (hX:Ok X) (hs:SvI r→SvI X) (h3:X.status≠3) (c:Int):Nx r (X.bY c):=by
 unfold bY
 split
 ·exact Nx.dec (.inl h) hX hs h3 c
 ·exact Nx.dec (X:=X.ack X.gZ) (.inl h) (l9 hX _).ok hs h3 c
theorem Dv (hs:r.status≠3) (hp:r.dG=false):Nx r r.kN:=by
 unfold kN;rw[hp];exact IX hs _ _
theorem Du (hs:r.status≠3):Nx r r.dJ:=by
 unfold dJ
 split
 ·exact Nx.refl r
 ·rename_i q;exact Dv hs (by simpa using q)
theorem oC (v:Int):(r.want v).epoch=r.epoch∧(r.want v).view=v∧(r.want v).status=2∧(SvI r→SvI (r.want v)):=by
 unfold want kN
 split
 ·exact⟨rfl,rfl,rfl,idd⟩
 ·exact⟨rfl,rfl,rfl,idd⟩
theorem Dn (h:Ok r) {v:Int} (hv:r.view<v∧v≤999):mz r<mz (r.want v):=by
 have:=h.vi
 obtain⟨a,b,_,_⟩:=oC (r:=r) v
 exact pz h (uZ h ⟨by omega,hv.2⟩).ok (.inr ⟨a.symm,.inl (by rw[b];exact hv.1)⟩)
theorem Ot (h:Ok r) {v:Int} (hv:r.view<v∧v≤999):Nx r (r.want v):=by
 obtain⟨_,_,e3,e4⟩:=oC (r:=r) v
 exact Nx.lt (Dn h hv) e4 (by rw[e3];decide)
theorem ES (h:Ok r) (hs:r.status=2) {m:Pm} (hk:m.kind=118) (hm:dF r.n m):Nx r (r.count m):=by
 have a:=lV h hk hm;unfold count;dsimp only
 split
 ·exact⟨.inr ⟨rfl,by simp⟩,idd,fun q=>absurd (hs.symm.trans q) (by decide)⟩
 ·unfold counted;have k1:=eu a (za a);have c:=jO k1.ok (v:=r.view) h.vi;have b:=gU c.ok;refine Nx.dec (.inl ?_) b.ok (fun _=>nM _) (by show (1:Int)≠3;decide) _
  refine pz h b.ok (.inr ⟨rfl,.inr ⟨rfl,.inl ?_⟩⟩);rw[hs];show rk 2<rk 1;decide
theorem Nx.after (h:mz r<mz X) (k:Nx X r') (hs:SvI r→SvI X) (h3:X.status≠3):Nx r r' :=
  ⟨by rcases k.adv with q | q
      · exact .inl (by omega)
      · exact .inl (by omega), fun q => k.sv (hs q), fun q => absurd (k.rc q).1 h3⟩
theorem xG (h:Ok r) (hs:r.status≠3) {m:Pm} (hm:dF r.n m) (hv:r.view<m.view):Nx r (r.bR m):=by
 have k:=uZ h ⟨hm.v0,hm.v1⟩;obtain⟨_,_,a,b⟩:=oC (r:=r) m.view
 unfold bR
 split
 ·split
  ·rename_i q;simp at q;exact Nx.after (Dn h ⟨hv,hm.v1⟩) (ES k.ok a q.1 (by rw[k.n];exact hm)) b (by rw[a];decide)
  ·exact Ot h ⟨hv,hm.v1⟩
 ·exact Nx.refl r
theorem yF (h:Ok r) (hs:r.status=2) {m:Pm} (hm:dF r.n m):Nx r (r.aT m):=by
 have a:r.status≠3:=by rw[hs];decide
 unfold aT
 split
 ·split
  ·exact nZ a _ _
  ·split
   ·exact Du a
   ·split
    ·rename_i q;exact ES h hs q.1 hm
    ·exact Nx.refl r
 ·exact Nx.refl r
theorem ru (hs:r.status≠3) (m:Pm):Nx r (r.bP m):=by
 unfold bP
 split
 ·exact vI hs _
 ·split
  ·exact Hq hs _
  ·split
   ·exact nZ hs _ _
   ·exact Nx.refl r
theorem sV (h:Ok r) (hc:r.carries=true) {m:Pm} (hk:m.kind=115) (hm:dF r.n m):Nx r (r.aF m):=by
 have d:=jN hm (.inr (.inl hk));have c:r.status=1∨r.status=2:=by unfold carries at hc;simpa using hc
 have a:r.status≠3:=by rcases c with q|q <;> (rw[q];decide)
 unfold aF
 split
 ·rename_i q;have k1:=jO h ⟨hm.v0,hm.v1⟩;have b:=eu k1.ok (l:=m.log) d;refine Nx.catch (pz h b.ok (.inr ⟨rfl,?_⟩)) b.ok (fun _=>nM _) (by show (1:Int)≠3;decide) _
  rcases q with q|q
  ·exact .inl q
  ·refine .inr ⟨q.1.symm,.inl ?_⟩;rw[q.2];show rk 2<rk 1;decide
 ·rename_i q
  split
  ·split
   ·exact vI a _
   ·exact Nx.refl r
  ·split
   ·rename_i q2 q3;have b:=eu h (l:=m.log) d;exact Nx.catch (pz h b.ok (.inr ⟨rfl,.inr ⟨rfl,.inr ⟨rfl,.inl q3.2⟩⟩⟩)) b.ok (fun _=>nM _) a _
   ·split
    ·exact Nx.refl r
    ·exact nZ a _ _
theorem CZ (h:Ok r) (p:Int):r.epoch≤(r.aV p).epoch:=by
 suffices hh:∀ (f:Nat) (r:Rp),r.epoch≤(dZ f r p).epoch from hh _ r
 intro f
 induction f with
 | zero=>intro r;exact Int.le_refl _
 | succ f ih =>
  intro r;unfold dZ
  split
  ·dsimp only
   split
   ·rw[AV,iL];omega
   ·have:=ih (r.carried (r.log.getD r.decided (0,0,⟨#[]⟩)))
    rwa [iL] at this
  ·exact Int.le_refl _
theorem vH (h:Ok r) {m:Pm} (hk:m.kind=115) (hm:dF r.n m) (he:r.epoch<m.epoch):Nx r (r.bI m):=by
 have b:=jN hm (.inr (.inl hk));have a:Gd r (r.enter m) 0:=⟨iW h (.inl hk) hm,rfl,rfl,Nat.le_refl _⟩
 unfold bI
 split
 ·have k1:=eu a.ok (l:=m.log) b;have c:=mG k1.ok;exact Nx.catch (pz h c.ok (.inl he)) c.ok (fun _=>nM _) (by show (1:Int)≠3;decide) _
 ·split
  ·have f:=Ep a.ok b;have i:Gd (r.enter m) (r.enter m).leave0 0:=⟨⟨a.ok.n3,a.ok.n7,a.ok.i0,a.ok.i1,a.ok.ll,a.ok.lb,by simp[leave0],a.ok.ep,by simp[leave0],by simp[leave0],a.ok.g,a.ok.o,a.ok.lg,a.ok.le,a.ok.dc,a.ok.vo,a.ok.vn,a.ok.an,a.ok.nn⟩,rfl,rfl,Nat.le_refl _⟩
   have d:=eu i.ok (l:=dP m.log (r.enter m).epoch) (b.upto _);have e:=uR d.ok m.commit;have j:=CZ d.ok m.commit;refine Nx.lt (pz h f.ok (.inl ?_)) (fun _=>?_) (fun q=>?_)
   ·exact Int.lt_of_lt_of_le he j
   ·exact e.2.1 (nM _)
   ·have:=e.2.2 q
    exact absurd this (by show (5:Int)≠3;decide)
  ·refine Nx.lt (pz h (fM a.ok (s:=4) (by decide)).ok (.inl he)) (fun q=>q) (by show (4:Int)≠3;decide)
theorem Dt (h:Ok r) (hs3:r.status≠3) {m:Pm} (hk:m.kind=115) (hm:dF r.n m):Nx r (r.dQ m):=by
 unfold dQ
 split
 ·rename_i q;exact vH h hk hm q
 ·split
  ·rename_i q
   split
   ·exact ru hs3 m
   ·exact sV h q hk hm
  ·exact Nx.refl r
theorem Dr (h:Ok r) (hs3:r.status≠3) (m:Pm):Nx r (r.dV m):=by
 unfold dV
 split
 ·rename_i q;simp at q;dsimp only
  split
  ·have k:=fM h (s:=4) (by decide)
   refine Nx.lt (pz h (r':={ r with started:=r.started.set m.frm.toNat true,status:=4 }) k.ok (.inr ⟨rfl,.inr ⟨rfl,.inl ?_⟩⟩)) idd (by show (4:Int)≠3;decide)
   rw[q.1.1];show rk 5<rk 4;decide
  ·exact⟨.inr ⟨rfl,by simp⟩,idd,fun q=>absurd q hs3⟩
 ·exact Nx.refl r
theorem J6 (hs3:r.status≠3) (m:Pm):Nx r (r.answer m):=by
 unfold answer
 split
 ·exact IX hs3 _ _
 ·exact Nx.refl r
theorem Ae (hs3:r.status≠3) (m:Pm):Nx r (r.bZ m):=by
 unfold bZ
 split
 ·exact nZ hs3 _ _
 ·split
  ·exact vI hs3 _
  ·exact Nx.refl r
theorem Dq (h:Ok r) (hs3:r.status≠3) {m:Pm} (hk:m.kind=112) (hm:dF r.n m):Nx r (r.dI m):=by
 unfold dI
 split
 ·split
  ·exact nZ hs3 _ _
  ·split
   ·split
    ·exact Nx.refl r
    ·rename_i q _;have c:=hm.pl (.inl hk);have a:=qd h (hm.en hk) (by omega)
     have k1:=l9 a m.frm;refine Nx.dec (.inl (pz h k1.ok (.inr ⟨rfl,.inr ⟨rfl,.inr ⟨rfl,.inl (by show r.log.length<(r.log++[m.ent]).length;simp)⟩⟩⟩))) k1.ok (fun b=>?_) hs3 _
     unfold SvI at *
     show r.sv=svF ((r.log++[m.ent]).take r.decided)
     rw[List.take_append_of_le_length h.dc];exact b
   ·have k1:=l9 h m.frm;exact Nx.dec (r:=r) (X:=r.ack m.frm) (.inr ⟨rfl,by simp[ack,send,put]⟩) k1.ok idd hs3 _
 ·exact Nx.refl r
theorem Bn (h:Ok r) (hs3:r.status≠3) (m:Pm):Nx r (r.dL m):=by
 unfold dL
 split
 ·split
  ·exact nZ hs3 _ _
  ·exact Nx.dec (.inr ⟨rfl,by omega⟩) h idd hs3 _
 ·exact Nx.refl r
theorem BH (q:Nat) (p:Int):mz (r.fq q p)=mz r∧(r.fq q p).out=r.out∧(SvI r→SvI (r.fq q p))∧(r.fq q p).status=r.status:=by
 unfold fq;split
 ·exact⟨rfl,rfl,idd,rfl⟩
 ·exact⟨rfl,rfl,idd,rfl⟩
theorem Ho (h:Ok r) (hs3:r.status≠3) (m:Pm):Nx r (r.fZ m):=by
 unfold fZ
 split
 ·have k:=oZ h m.frm.toNat m.place;obtain⟨a,b,c,d⟩:=BH (r:=r) m.frm.toNat m.place
  exact Nx.dec (.inr ⟨a.symm,by rw[b];omega⟩) k.ok c (by rw[d];exact hs3) _
 ·exact Nx.refl r
theorem Bp (h:Ok r) (hs3:r.status≠3) {m:Pm} (hm:dF r.n m):Nx r (r.bS m):=by
 unfold bS
 split
 ·exact vI hs3 _
 ·split
  ·split
   ·rename_i q;exact Dq h hs3 q hm
   ·split
    ·exact Bn h hs3 m
    ·split
     ·exact Ho h hs3 m
     ·split
      ·exact vI hs3 _
      ·exact Nx.refl r
  ·exact Nx.refl r
theorem Bo (h:Ok r) (hs3:r.status≠3) {m:Pm} (hm:dF r.n m):Nx r (r.bH m):=by
 unfold bH
 split
 ·split
  ·rename_i q;exact yF h q hm
  ·exact Bp h hs3 hm
 ·split
  ·rename_i q
   split
   ·exact xG h hs3 hm q.2
   ·exact nZ hs3 _ _
  ·split
   ·exact nZ hs3 _ _
   ·exact ru hs3 m
def RcI (r:Rp):Prop:=r.status=3→r.epoch=0∧r.view=0∧r.log=[]∧r.decided=0
theorem J7 (h:Ok r) (hs:r.status=3) (hz:RcI r) {m:Pm} (hk:m.kind=97) (hm:dF r.n m):Nx r (r.resume m):=by
 have d:=jN hm (.inr (.inr hk));have e:=iW h (.inr hk) hm;have b:Gd r { r.enter m with answers:=[] } 0:=⟨lG e (by simp) (by simp),rfl,rfl,Nat.le_refl _⟩
 obtain⟨f,g,t,u⟩:=hz hs
 have a:∀ X:Rp,Ok X→X.epoch=m.epoch→X.view=m.view→0<rk X.status→mz r<mz X:=fun X i j k o=>by
  have v:=hm.e0;have b0:=hm.v0;refine pz h i ?_;rw[j,k,f,g];by_cases p:0<m.epoch
  ·exact .inl p
  ·refine .inr ⟨by omega,?_⟩
   by_cases q:0<m.view
   ·exact .inl q
   ·exact .inr ⟨by omega,.inl (by rw[hs];exact o)⟩
 unfold resume;dsimp only
 split
 ·have k1:=eu b.ok (l:=m.log) d
  split
  ·exact Nx.dec (.inl (a _ k1.ok rfl rfl (by show 0<rk 1;decide))) k1.ok (fun _=>nM _) (by show (1:Int)≠3;decide) _
  ·have c:=l9 k1.ok m.frm;exact Nx.dec (.inl (a _ c.ok rfl rfl (by show 0<rk 1;decide))) c.ok (fun _=>nM _) (by show (1:Int)≠3;decide) _
 ·exact Nx.lt (a _ (fM b.ok (s:=4) (by decide)).ok rfl rfl (by show 0<rk 4;decide)) idd (by show (4:Int)≠3;decide)
theorem Bl (h:Ok r) (hs:r.status=3) (hz:RcI r) {m:Pm} (hk:m.kind=97) (hm:dF r.n m):Nx r (r.dH m):=by
 unfold dH
 split
 ·dsimp only;have c:=rz h hk hm;have d:Nx r { r with answers:=aK r.answers m }:=⟨.inr ⟨rfl,by simp⟩,idd,fun q=>⟨q,rfl,rfl,rfl,rfl,rfl⟩⟩
  split
  ·rename_i a ha;have b:=nX ha
   split
   ·have q:=c.an a b;have k:=J7 (r:={ r with answers:=aK r.answers m }) c hs hz q.1 q.2
    exact⟨k.adv,k.sv,fun e=>k.rc e⟩
   ·exact d
  ·exact d
 ·exact Nx.refl r
theorem xH (h:Ok r) (hz:RcI r) {m:Pm} (hm:dF r.n m):Nx r (r.aU m):=by
 unfold aU
 split
 ·rename_i hs
  split
  ·rename_i hk;exact Bl h hs hz hk hm
  ·exact Nx.refl r
 ·rename_i hs3
  split
  ·rename_i hk;exact Dt h hs3 hk hm
  ·split
   ·exact J6 hs3 m
   ·split
    ·exact Dr h hs3 m
    ·split
     ·exact Nx.refl r
     ·split
      ·exact Ae hs3 m
      ·exact Bo h hs3 hm
structure Sm (r r':Rp):Prop where
 ep:r'.epoch=r.epoch
 vi:r'.view=r.view
 st:r'.status=r.status
 lg:r'.log=r.log
 dc:r'.decided=r.decided
 ou:r'.out=r.out
 sv:r'.sv=r.sv
theorem Sm.refl (r:Rp):Sm r r:=⟨rfl,rfl,rfl,rfl,rfl,rfl,rfl⟩
theorem Sm.trans {a b c:Rp} (h:Sm a b) (k:Sm b c):Sm a c:=⟨k.ep.trans h.ep,k.vi.trans h.vi,k.st.trans h.st,k.lg.trans h.lg,k.dc.trans h.dc,k.ou.trans h.ou,k.sv.trans h.sv⟩
theorem Kt (l:List Int) (r:Rp) (i:Nat):Sm r (gY l r i):=by
 unfold gY;split
 ·exact⟨rfl,rfl,rfl,rfl,rfl,rfl,rfl⟩
 ·exact Sm.refl r
theorem MZ (l:List Int):Sm r (r.learn l):=by
 unfold learn
 suffices hh:∀ (a:List Nat) (r:Rp),Sm r (a.foldl (gY l) r) from hh _ r
 intro a
 induction a with
 | nil=>intro r;exact Sm.refl r
 | cons i a ih=>intro r;exact (Kt l r i).trans (ih _)
theorem Ku:Sm r r.pruned:=⟨rfl,rfl,rfl,rfl,rfl,rfl,rfl⟩
theorem Sm.mz (h:Sm r r'):mz r'=mz r:=by unfold Rp.mz;rw[h.ep,h.vi,h.st,h.lg,h.dc]
theorem Sm.svi (h:Sm r r'):SvI r→SvI r':=fun q=>by unfold SvI at *;rw[h.sv,h.lg,h.dc];exact q
theorem Sm.rci (h:Sm r r'):RcI r→RcI r':=fun q=>by unfold RcI at *;rw[h.st,h.ep,h.vi,h.lg,h.dc];exact q
theorem Nx.of_sm (h:Sm r X) (k:Nx X r'):Nx r r' :=
  ⟨by rcases k.adv with q | q
      · exact .inl (by rw [← h.mz]; exact q)
      · exact .inr (by rw [← h.mz, ← h.ou]; exact q), fun q => k.sv (h.svi q), fun q => by
    obtain⟨a,b,c,d,e,f⟩:=k.rc q
    exact⟨h.st▸a,b.trans h.ep,c.trans h.vi,d.trans h.lg,e.trans h.dc,f.trans h.ou⟩⟩
theorem Hl (h:Ok r) (hs3:r.status≠3) {e:En} (he:iZ r.n e):Nx r (r.propose e):=by
 unfold propose
 split
 ·exact Nx.refl r
 ·rename_i q;have c:=qd h he (by omega)
  have k:=mF c ((r.log.length:Int)+1);have d:∀ p,(({ r with log:=r.log++[e] }:Rp).aQ p).log=r.log++[e]∧(({ r with log:=r.log++[e] }:Rp).aQ p).epoch=r.epoch∧(({ r with log:=r.log++[e] }:Rp).aQ p).view=r.view∧(({ r with log:=r.log++[e] }:Rp).aQ p).status=r.status∧(({ r with log:=r.log++[e] }:Rp).aQ p).sv=r.sv∧(({ r with log:=r.log++[e] }:Rp).aQ p).decided=r.decided:=fun p=>by
   unfold aQ;split
   ·exact⟨rfl,rfl,rfl,rfl,rfl,rfl⟩
   ·exact⟨rfl,rfl,rfl,rfl,rfl,rfl⟩
  obtain⟨a,f,g,b,i,j⟩:=d ((r.log.length:Int)+1)
  refine Nx.lt (pz h k.ok (.inr ⟨f.symm,.inr ⟨g.symm,.inr ⟨by rw[b],.inl (by rw[a];simp)⟩⟩⟩)) (fun l=>?_) (by rw[b];exact hs3)
  unfold SvI at *;rw[i,a,j,List.take_append_of_le_length h.dc];exact l
theorem Af (h:Ok r) {m:Pm} (he:fu m.ent r.n=false∨m.kind≠109→iZ r.n m.ent):Nx r (r.bQ m):=by
 unfold bQ
 split
 ·rename_i hl;have a:r.status≠3:=by
   unfold leads at hl;rw[Bool.and_eq_true] at hl;have:=eq_of_beq hl.1
   omega
  split
  ·exact Nx.refl r
  ·split
   ·unfold eU
    split
    ·exact ET a _ _ _
    ·exact Nx.refl r
   ·split
    ·exact Nx.refl r
    ·split
     ·exact ET a _ _ _
     ·rename_i q1 q2;refine Hl h a (he ?_);by_cases b:m.kind=109
      ·left
       cases hn:fu m.ent r.n
       ·rfl
       ·exact absurd ⟨b,.inr hn⟩ q2
      ·exact .inr b
 ·exact Nx.refl r
theorem Oq (h:Ok r) (hz:RcI r) {m:Pm} (hm:MOk r.n m):Nx r (r.take m):=by
 unfold take
 split
 ·rename_i q;refine Af h (fun c=>yY (hm.1 q) q (fun d=>?_))
  rcases c with c|c
  ·rw[c] at d;exact absurd d.2 (by decide)
  ·exact c d.1
 ·rename_i q;have a:=hm.2 q
  split
  ·have k1:=qQ h a.lb;have b:=oW k1.ok;have e:=k1.trans b;have s:=(MZ (r:=r) m.lives).trans (Ku (r:=r.learn m.lives));exact Nx.of_sm s (xH b.ok (s.rci hz) (by rw[e.n];exact a))
  ·exact Nx.refl r
structure Tk (r r':Rp):Prop where
 mz:mz r≤Rp.mz r'
 sv:SvI r→SvI r'
 rc:r'.status=3→r.status=3∧r'.epoch=r.epoch∧r'.view=r.view∧r'.log=r.log∧r'.decided=r.decided
theorem Tk.refl (r:Rp):Tk r r:=⟨Nat.le_refl _,idd,fun h=>⟨h,rfl,rfl,rfl,rfl⟩⟩
theorem Tk.trans {a b c:Rp} (h:Tk a b) (k:Tk b c):Tk a c:=⟨Nat.le_trans h.mz k.mz,fun q=>k.sv (h.sv q),fun q=>by
 obtain⟨d,e,f,g,i⟩:=k.rc q
 obtain⟨b1,j,l,m,n⟩:=h.rc d
 exact⟨b1,e.trans j,f.trans l,g.trans m,i.trans n⟩⟩
theorem wo (g:List Int) (P:Pm):Tk r (r.eZ g P):=⟨Nat.le_refl _,idd,fun h=>⟨h,rfl,rfl,rfl,rfl⟩⟩
theorem Ni (a:Int) (t:ByteArray):Tk r (r.put a t):=⟨Nat.le_refl _,idd,fun h=>⟨h,rfl,rfl,rfl,rfl⟩⟩
theorem DZ (p:Int):Tk r (r.aQ p):=by
 unfold aQ;split
 ·exact Tk.refl r
 ·exact wo _ _
theorem AQ:∀ (k:Nat) (r:Rp) (p:Int),Tk r (jU k r p)
 | 0,r,_=>Tk.refl r
 | k+1,r,p=>(DZ p).trans (AQ k _ _)
theorem Kz:Tk r r.iD:=by
 unfold iD;split
 ·exact wo _ _
 ·exact AQ _ _ _
theorem OZ (i:Nat):Tk r (oF r i):=by
 unfold oF;split
 ·exact Ni _ _
 ·exact Tk.refl r
theorem Jk:∀ (is:List Nat) (r:Rp),Tk r (is.foldl oF r)
 | [],r=>Tk.refl r
 | i :: is,r=>(OZ i).trans (Jk is _)
theorem O1:Tk r r.dJ:=by
 unfold dJ;split
 ·exact Tk.refl r
 ·rename_i q;unfold kN;rw[if_neg q];exact Ni _ _
theorem Jl:Tk r r.lu:=by
 unfold lu;split
 ·exact Kz
 ·split
  ·exact (wo _ _).trans O1
  ·split
   ·exact Jk _ _
   ·split
    ·exact wo _ _
    ·exact Tk.refl r
theorem AU (h:Ok r):Tk r r.suspect:=by
 unfold suspect;split
 ·rename_i q;obtain⟨_,_,a,b⟩:=oC (r:=r) (r.view+1)
  exact⟨Nat.le_of_lt (Dn h ⟨by omega,by omega⟩),b,fun c=>absurd (a.symm.trans c) (by decide)⟩
 ·exact Tk.refl r
theorem Tk.rci {r r':Rp} (k:Tk r r') (h:RcI r):RcI r':=fun q=>by
 obtain⟨b1,a,b,c,d⟩:=k.rc q
 obtain⟨e,f,g,i⟩:=h b1
 exact⟨a.trans e,b.trans f,c.trans g,d.trans i⟩
theorem Nx.rci {r r':Rp} (k:Nx r r') (h:RcI r):RcI r':=fun q=>by
 obtain⟨b1,a,b,c,d,_⟩:=k.rc q
 obtain⟨e,f,g,i⟩:=h b1
 exact⟨a.trans e,b.trans f,c.trans g,d.trans i⟩
def l5 (t:ByteArray):Prop:=t.data.toList.head? = some 114
theorem Ke {a b:ByteArray} (h:l5 a):l5 (a++b):=by
 unfold l5 at *;simp only[ByteArray.data_append,Array.toList_append];cases q:a.data.toList with
 | nil=>rw[q] at h;cases h
 | cons x l=>rw[q] at h;simpa using h
theorem EX {P:Pm} (h:P.kind=114):l5 (fQ P):=by
 unfold fQ
 repeat apply Ke
 rw[h];rfl
theorem BL:∀ (is:List Nat) (r:Rp),(∀ x∈r.out,l5 x.2)→∀ x∈(is.foldl oF r).out,l5 x.2
 | [],_,h=>h
 | i :: is,r,h=>BL is _ (by
  unfold oF;split
  ·intro x hx;unfold bare send put at hx;rcases List.mem_append.1 hx with hx|hx
   ·exact h x hx
   ·simp at hx;subst hx;exact EX rfl
  ·exact h)
theorem Eb (ho:r.out=[]) (hs:r.lu.status=3):∀ x∈r.lu.out,l5 x.2:=by
 have a:=(Jl (r:=r)).rc hs;have b:r.leads=false:=by unfold leads;rw[a.1];rfl
 unfold lu;rw[b,if_neg (by decide),if_neg (by rw[a.1];decide),if_pos a.1]
 exact BL _ _ (by rw[ho];simp)
theorem AP (h:Ok r) (ho:r.out=[]) (hs:r.suspect.status=3):r.suspect.out=[]:=by
 have h3:=(AU h).rc hs;unfold suspect;rw[if_neg (by unfold carries;rw[h3.1];simp)]
 exact ho
end Rp
structure Cs (L:List En) (T:Wt) (G:List ByteArray) (B:List Int) (r r':Rp):Prop where
 ok:Ok r'
 n:r'.n=r.n
 id:r'.id=r.id
 ri:RI L T G B r'
 sv:Rp.SvI r'
 dr:r'.status≠3→(regs (r'.log.take r'.decided):Int)≤r'.epoch
 out:∀ o∈r'.out,o∈r.out∨OI L T G B r.n r.id o
section
variable {L:List En} {T:Wt} {G:List ByteArray} {B:List Int} {r r1:Rp}
theorem RI.out (h:RI L T G B r1) (o:List (Int×ByteArray)):RI L T G B { r1 with out:=o }:=⟨h.jl,h.an,h.vo,h.me,h.gp,h.lg,h.st⟩
theorem yR (h:Ok r) {k:Int} (hk:0≤k∧k<128) (h1:k≠112) (h2:k≠107) (h3:k≠99) (h4:k≠118) (h5:k≠97) (h6:k≠115):dF r.n (r.head k) :=
 ⟨hk.1,hk.2,h.i0,h.i1,h.ll,h.lb,h.ep.1,h.ep.2,h.vi.1,h.vi.2,by simp[Rp.head];omega,by simp[Rp.head];omega,by simp[Rp.head];omega,by simp[Rp.head];omega,by simp[Rp.head];omega,by simp[Rp.head];omega,by simp[Rp.head];omega,by simp[Rp.head];omega⟩
theorem Aj (h:Ok r):dF r.n r.aC :=
  ⟨by simp [Rp.aC, Rp.head], by simp [Rp.aC, Rp.head], h.i0, h.i1, h.ll, h.lb, h.ep.1, h.ep.2, h.vi.1, h.vi.2, by simp [Rp.aC, Rp.head], by simp [Rp.aC, Rp.head], by simp [Rp.aC, Rp.head], by simp [Rp.aC, Rp.head], by simp [Rp.aC, Rp.head],
   fun _ => ⟨by simp [Rp.aC], by have := h.dc; simp [Rp.aC]; omega⟩, fun _ => ⟨h.lg, h.le⟩, fun _ => ⟨h.g, h.o⟩⟩
theorem Cs.put1 (c:Cs L T G B r r1) {o:Int×ByteArray} (ho:OI L T G B r.n r.id o):Cs L T G B r { r1 with out:=r1.out++[o] } :=
 ⟨c.ok,c.n,c.id,c.ri.out _,c.sv,c.dr,fun x a=>by
  rcases List.mem_append.1 a with q|q
  ·exact c.out x q
  ·simp at q;subst q;exact .inr ho⟩
theorem Cs.send (c:Cs L T G B r r1) {qt:Int} {P:Pm} (h0:0≤qt) (h1:qt<r.n) (h2:qt≠r.id) (hp:dF r.n P) (hk:RK P.kind) (hf:P.frm=r.id) (hm:MI L T G B P):Cs L T G B r (r1.send qt P) :=
 c.put1 (.inl ⟨h0,h1,h2,P,rfl,hp,hk,hf,hm⟩)
theorem Cs.eZ (c:Cs L T G B r r1) {g:List Int} (hg:fG r.n g) {P:Pm} (hp:dF r.n P) (hk:RK P.kind) (hf:P.frm=r.id) (hm:MI L T G B P):Cs L T G B r (r1.eZ g P) :=
 ⟨c.ok,c.n,c.id,c.ri.out _,c.sv,c.dr,fun x d=>by
  rcases List.mem_append.1 d with q|q
  ·exact c.out x q
  ·obtain⟨y,e,rfl⟩:=List.mem_map.1 q
   obtain⟨a,b⟩:=List.mem_filter.1 e
   refine .inr (.inl ⟨(hg.2 y a).1,(hg.2 y a).2,?_,P,rfl,hp,hk,hf,hm⟩);have:y≠r1.id:=by simpa using b
   rw[← c.id];exact this⟩
theorem Cs.pmk (c:Cs L T G B r r1) {P:Pm} (h:dF r1.n P):dF r.n P:=by rw[← c.n];exact h
theorem Cs.gk (c:Cs L T G B r r1) {g:List Int} (h:fG r1.n g):fG r.n g:=by rw[← c.n];exact h
theorem Cs.bare (c:Cs L T G B r r1) {qt k:Int} (h0:0≤qt) (h1:qt<r.n) (h2:qt≠r.id) (hk:k=104∨k=103∨k=114):Cs L T G B r (r1.bare qt k) :=
 c.send h0 h1 h2 (c.pmk (yR c.ok (by omega) (by omega) (by omega) (by omega) (by omega) (by omega) (by omega))) (by unfold RK;show k=_∨_;simp only[Rp.head];omega) c.id (MI.bare (by show k=_∨k=_∨k=_∨k=_∨k=_;omega))
theorem Cs.bareT (c:Cs L T G B r r1) {qt:Int} (h0:0≤qt) (h1:qt<r.n) (h2:qt≠r.id) (hb:r1.epoch≤B.getD r.id.toNat (-1)):Cs L T G B r (r1.bare qt 116) :=
 c.send h0 h1 h2 (c.pmk (yR c.ok (by omega) (by omega) (by omega) (by omega) (by omega) (by omega) (by omega))) (by unfold RK;simp[Rp.head]) c.id
  ⟨fun q=>by simp[Rp.head] at q,fun q=>by simp[Rp.head] at q,fun q=>by simp[Rp.head] at q,fun q=>by simp[Rp.head] at q,fun q=>by simp[Rp.head] at q,fun _=>by show r1.epoch≤B.getD r1.id.toNat (-1);rw[c.id];exact hb⟩
theorem Cs.dz (c:Cs L T G B r r1) (hb:r1.epoch≤B.getD r.id.toNat (-1)):Cs L T G B r r1.dz :=
 c.eZ (c.gk c.ok.o) (c.pmk (yR c.ok (by omega) (by omega) (by omega) (by omega) (by omega) (by omega) (by omega))) (by unfold RK;simp[Rp.head]) c.id
  ⟨fun q=>by simp[Rp.head] at q,fun q=>by simp[Rp.head] at q,fun q=>by simp[Rp.head] at q,fun q=>by simp[Rp.head] at q,fun q=>by simp[Rp.head] at q,fun _=>by show r1.epoch≤B.getD r1.id.toNat (-1);rw[c.id];exact hb⟩
theorem Cs.call (c:Cs L T G B r r1):Cs L T G B r r1.call :=
 c.eZ (c.gk c.ok.g) (c.pmk (yR c.ok (by omega) (by omega) (by omega) (by omega) (by omega) (by omega) (by omega))) (by unfold RK;simp[Rp.head]) c.id (MI.bare (by simp[Rp.head]))
theorem Cs.zZ (c:Cs L T G B r r1) (hs:r1.status=1∨r1.status=2∨r1.status=5):MI L T G B r1.aC:=by
 have a:r1.status≠3:=by omega
 refine⟨fun q=>by simp[Rp.aC,Rp.head] at q,fun q=>by simp[Rp.aC,Rp.head] at q,fun q=>by simp[Rp.aC,Rp.head] at q,fun _=>⟨c.ri.lg hs,(c.ri.gp a).2,?_⟩,fun q=>by simp[Rp.aC,Rp.head] at q,fun q=>by simp[Rp.aC,Rp.head] at q⟩
 have:=c.dr a
 simpa [Rp.aC,Rp.head] using this
theorem Cs.bF (c:Cs L T G B r r1) (hs:r1.status=1∨r1.status=2∨r1.status=5):Cs L T G B r r1.bF :=
 c.eZ (c.gk c.ok.g) (c.pmk (Aj c.ok)) (by unfold RK;simp[Rp.aC,Rp.head]) c.id (c.zZ hs)
theorem Cs.tell (c:Cs L T G B r r1) (hs:r1.status=1∨r1.status=2∨r1.status=5) {qt:Int} (h0:0≤qt) (h1:qt<r.n) (h2:qt≠r.id):Cs L T G B r (r1.tell qt) :=
 c.send h0 h1 h2 (c.pmk (Aj c.ok)) (by unfold RK;simp[Rp.aC,Rp.head]) c.id (c.zZ hs)
theorem Cs.jL (c:Cs L T G B r r1) (hs:r1.status=1∨r1.status=2∨r1.status=5) (he:1≤r1.epoch) {qt:Int} (h0:0≤qt) (h1:qt<r.n) (h2:qt≠r.id):Cs L T G B r (r1.jL qt):=by
  have a : r1.status ≠ 3 := by omega
  obtain⟨e,b,d⟩:=(c.ri.lg hs).upto he
  have h:=c.ok
  refine c.send h0 h1 h2 (c.pmk ⟨by simp [Rp.iA, Rp.aC, Rp.head], by simp [Rp.iA, Rp.aC, Rp.head], h.i0, h.i1, h.ll, h.lb, h.ep.1, h.ep.2, by simp [Rp.iA], by simp [Rp.iA], by simp [Rp.iA, Rp.aC, Rp.head], by simp [Rp.iA, Rp.aC, Rp.head], by simp [Rp.iA, Rp.aC, Rp.head], by simp [Rp.iA, Rp.aC, Rp.head], by simp [Rp.iA, Rp.aC, Rp.head],
   fun _ => ⟨by simp [Rp.iA], by simp [Rp.iA]⟩, fun _ => h.log.upto _, fun _ => ⟨h.g, h.o⟩⟩) (by unfold RK; simp [Rp.iA, Rp.aC, Rp.head]) c.id ?_
  refine ⟨fun q => by simp [Rp.iA, Rp.aC, Rp.head] at q, fun q => by simp [Rp.iA, Rp.aC, Rp.head] at q, fun q => by simp [Rp.iA, Rp.aC, Rp.head] at q, fun _ => ⟨b, (c.ri.gp a).2, ?_⟩, fun q => by simp [Rp.iA, Rp.aC, Rp.head] at q, fun q => by simp [Rp.iA, Rp.aC, Rp.head] at q⟩
  show (regs ((dP r1.log r1.epoch).take ((dP r1.log r1.epoch).length:Int).toNat):Int)≤r1.epoch
  rw[Int.toNat_natCast,List.take_length,d];omega
theorem Cs.aQ (c:Cs L T G B r r1) (hs:r1.status=1) (p:Int):Cs L T G B r (r1.aQ p):=by
 unfold Rp.aQ
 split
 ·exact c
 ·rename_i q;have a:=c.ri.lg (.inl hs);have h:=c.ok;have b:(p-1).toNat<r1.log.length:=by omega
  have d:r1.log.getD (p-1).toNat (0,0,⟨#[]⟩)=r1.log[(p-1).toNat]:=by rw[List.getD_eq_getElem?_getD,List.getElem?_eq_getElem b];rfl
  have f:r1.log[(p-1).toNat]∈r1.log:=List.getElem_mem b
  refine c.eZ (c.gk h.g) (c.pmk ⟨by simp[Rp.dA,Rp.head],by simp[Rp.dA,Rp.head],h.i0,h.i1,h.ll,h.lb,h.ep.1,h.ep.2,h.vi.1,h.vi.2,fun _=>⟨by show 0≤p;omega,by show p≤10;have:=h.lg;omega⟩,fun _=>?_,fun _=>⟨by simp[Rp.dA],by have:=h.dc;have:=h.lg;simp[Rp.dA];omega⟩,by simp[Rp.dA,Rp.head],by simp[Rp.dA,Rp.head],by simp[Rp.dA,Rp.head],by simp[Rp.dA,Rp.head],by simp[Rp.dA,Rp.head]⟩) (by unfold RK;simp[Rp.dA,Rp.head]) c.id ?_
  ·show iZ r1.n (r1.log.getD (p-1).toNat (0,0,⟨#[]⟩))
   rw[d];exact h.le _ f
  ·refine⟨fun q=>by simp[Rp.dA,Rp.head] at q,fun q=>by simp[Rp.dA,Rp.head] at q,fun _=>⟨a.e0,a.le,?_,?_⟩,fun q=>by simp[Rp.dA,Rp.head] at q,fun q=>by simp[Rp.dA,Rp.head] at q,fun q=>by simp[Rp.dA,Rp.head] at q⟩
   ·show ∃ y∈T,y.1=r1.log.getD (p-1).toNat (0,0,⟨#[]⟩)
    rw[d];exact a.pv _ f
   ·show p≤_∨(fA (r1.log.getD (p-1).toNat (0,0,⟨#[]⟩))=true→∀ y∈T,y.1=r1.log.getD (p-1).toNat (0,0,⟨#[]⟩)→y.2=mTx (r1.log.getD (p-1).toNat (0,0,⟨#[]⟩)) r1.epoch)
    rw[d];by_cases l:p≤(iG L r1.epoch.toNat:Int)
    ·exact .inl l
    ·refine .inr fun k y m e=>?_
     have u:=a.e0;have o:(regs (r1.log.take (p-1).toNat):Int)=r1.epoch:=by
      have s:=jo L r1.epoch.toNat (by have:=a.le;omega)
      rw[← a.pre] at s;have v:=lI r1.log (i:=iG L r1.epoch.toNat) (j:=(p-1).toNat) (by omega)
      have t:=kH r1.log _ b;rw[if_pos k] at t;have w:=fV r1.log ((p-1).toNat+1);have x:=a.rg;omega
     rw[a.jw _ b k y m e,o]
theorem zq:∀ (k:Nat) (r1:Rp) (p:Int),Cs L T G B r r1→r1.status=1→Cs L T G B r (Rp.jU k r1 p)
 | 0,_,_,c,_=>c
 | k+1,r1,p,c,hs=>by
  unfold Rp.jU;refine zq k _ _ (c.aQ hs p) ?_;unfold Rp.aQ
  split
  ·exact hs
  ·exact hs
theorem Cs.iD (c:Cs L T G B r r1) (hs:r1.status=1):Cs L T G B r r1.iD:=by
 unfold Rp.iD;have h:=c.ok
 split
 ·refine c.eZ (c.gk h.g) (c.pmk ⟨by simp[Rp.head],by simp[Rp.head],h.i0,h.i1,h.ll,h.lb,h.ep.1,h.ep.2,h.vi.1,h.vi.2,by simp[Rp.head],by simp[Rp.head],fun _=>⟨by simp,by have:=h.dc;have:=h.lg;simp;omega⟩,by simp[Rp.head],by simp[Rp.head],by simp[Rp.head],by simp[Rp.head],by simp[Rp.head]⟩) (by unfold RK;simp[Rp.head]) c.id (MI.bare (by simp[Rp.head]))
 ·exact zq _ _ _ c hs
theorem Cs.ack (c:Cs L T G B r r1) {qt:Int} (h0:0≤qt) (h1:qt<r.n) (h2:qt≠r.id):Cs L T G B r (r1.ack qt):=by
 have h:=c.ok;exact c.send h0 h1 h2 (c.pmk ⟨by simp[Rp.head],by simp[Rp.head],h.i0,h.i1,h.ll,h.lb,h.ep.1,h.ep.2,h.vi.1,h.vi.2,fun _=>⟨by simp,by have:=h.lg;simp;omega⟩,by simp[Rp.head],by simp[Rp.head],by simp[Rp.head],by simp[Rp.head],by simp[Rp.head],by simp[Rp.head],by simp[Rp.head]⟩) (by unfold RK;simp[Rp.head]) c.id (MI.bare (by simp[Rp.head]))
theorem Ox (hG:GI L G r1.n) (c:RI L T G B r1) (h:Ok r1) (hs:r1.status=1∨r1.status=2):r1.gZ∈r1.grp:=by
 obtain⟨b,g2⟩:=c.gp (by omega)
 have d:=hG.ne h.ep.1 b;rw[← g2] at d;unfold Rp.gZ fJ;have e:=h.vi.1;rw[if_neg (by omega)]
 have a:(r1.view % (r1.grp.length:Int)).toNat<r1.grp.length:=by
  have:=Int.emod_lt_of_pos r1.view (show (0:Int)<r1.grp.length by omega)
  have:=Int.emod_nonneg r1.view (show (r1.grp.length:Int)≠0 by omega)
  omega
 rw[List.getD_eq_getElem?_getD,List.getElem?_eq_getElem a];exact List.getElem_mem a
theorem Cs.gZ (c:Cs L T G B r r1) (hG:GI L G r.n) (hs:r1.status=1∨r1.status=2) (hp:r1.dG=false):0≤r1.gZ∧r1.gZ<r.n∧r1.gZ≠r.id:=by
 have a:=Ox (by rw[c.n];exact hG) c.ri c.ok hs
 have:=c.ok.g.2 _ a
 rw[c.n] at this;refine⟨this.1,this.2,?_⟩
 unfold Rp.dG at hp;rw[← c.id]
 simpa using hp
theorem Cs.IQ (c:Cs L T G B r r1) (hs:r1.status=1∨r1.status=2):Lg L T r1.epoch r1.log:=c.ri.lg (by omega)
theorem Cs.Qf (c:Cs L T G B r r1) (hs:r1.status=1∨r1.status=2):MI L T G B r1.dw :=
 ⟨fun q=>by simp[Rp.dw,Rp.head] at q,fun q=>by simp[Rp.dw,Rp.head] at q,fun q=>by simp[Rp.dw,Rp.head] at q,fun q=>by simp[Rp.dw,Rp.head] at q,fun _=>c.IQ hs,fun q=>by simp[Rp.dw,Rp.head] at q⟩
theorem Cs.aI (c:Cs L T G B r r1) {l:List Pm} (hk:Ok { r1 with aI:=l }) (hv:∀ v∈l,v.epoch=r1.epoch∧Lg L T v.epoch v.log):Cs L T G B r { r1 with aI:=l } :=
 ⟨hk,c.n,c.id,⟨c.ri.jl,c.ri.an,hv,c.ri.me,c.ri.gp,c.ri.lg,c.ri.st⟩,c.sv,c.dr,c.out⟩
theorem Cs.kN (c:Cs L T G B r r1) (hG:GI L G r.n) (hs:r1.status=1∨r1.status=2):Cs L T G B r r1.kN:=by
 unfold Rp.kN
 split
 ·refine c.aI (Rp.lV c.ok rfl (Rp.rC c.ok)) fun v a=>?_
  rcases iH a with rfl|q
  ·exact⟨rfl,c.IQ hs⟩
  ·exact c.ri.vo v q
 ·rename_i q;obtain⟨b,d,e⟩:=c.gZ hG hs (by simpa using q)
  exact c.send b d e (c.pmk (Rp.rC c.ok)) (by unfold RK;simp[Rp.dw,Rp.head]) c.id (c.Qf hs)
theorem Cs.dJ (c:Cs L T G B r r1) (hG:GI L G r.n) (hs:r1.status=1∨r1.status=2):Cs L T G B r r1.dJ:=by
 unfold Rp.dJ
 split
 ·exact c
 ·exact c.kN hG hs
theorem Cs.want (c:Cs L T G B r r1) (hG:GI L G r.n) (hs:r1.status=1∨r1.status=2) {v:Int} (hv:0≤v∧v≤999):Cs L T G B r (r1.want v):=by
 have a:r1.status≠3:=by omega
 have c0:Cs L T G B r (r1.jH v):=⟨Rp.vM c.ok hv,c.n,c.id,⟨c.ri.jl,c.ri.an,fun x b=>by simp[Rp.jH] at b,fun _=>⟨fun _=>.inr rfl,fun _=>(c.ri.me a).2 hs⟩,fun _=>c.ri.gp a,fun _=>c.IQ hs,fun q=>by simp[Rp.jH] at q⟩,c.sv,fun _=>c.dr a,c.out⟩
 exact c0.call.kN hG (.inr rfl)
theorem Cs.begin (c:Cs L T G B r r1) (hs:r1.status=1∨r1.status=2) {v:Int} (hv:0≤v∧v≤999):Cs L T G B r (r1.begin_ v):=by
 have a:r1.status≠3:=by omega
 exact⟨(Rp.jO c.ok hv).ok,c.n,c.id,⟨c.ri.jl,c.ri.an,fun x b=>by simp[Rp.begin_] at b,fun _=>⟨fun _=>.inl rfl,fun _=>(c.ri.me a).2 hs⟩,fun _=>c.ri.gp a,fun _=>c.IQ hs,fun q=>by simp[Rp.begin_] at q⟩,c.sv,fun _=>c.dr a,c.out⟩
theorem Cs.over (c:Cs L T G B r r1) (hs:r1.status=1∨r1.status=2∨r1.status=5) {l:List En} (hk:oD r1.n l) (hl:Lg L T r1.epoch l) (hd:(regs (l.take (min r1.decided l.length)):Int)≤r1.epoch):Cs L T G B r (r1.over l) :=
 ⟨(Rp.eu c.ok hk).ok,c.n,c.id,⟨⟨hl.jw,hl.pv⟩,c.ri.an,c.ri.vo,c.ri.me,c.ri.gp,fun _=>hl,c.ri.st⟩,rfl,fun _=>hd,c.out⟩
end
def J9 (s:ByteArray):List Int:=if (s.toList==[45])=true then [] else dN s
structure PmR (n:Int) (m:Sd) (P:Pm):Prop where
 frm:P.frm=m.frm
 lives:P.lives=m.lives
 epoch:P.epoch=m.epoch
 view:P.view=m.view
 p:m.kind.toList=[112]→P.place=nmB m∧P.ent=iB (m.w.getD 6 Ze) n∧P.commit=m.commit
 k:m.kind.toList=[107]→P.place=nmB m
 c:m.kind.toList=[99]→P.commit=m.commit
 v:m.kind.toList=[118]→P.normal=nmB m∧P.commit=m.commit∧P.log=gP m.log n
 s:m.kind.toList=[115]→P.grp=dN (m.w.getD 5 Ze)∧P.old=J9 (m.w.getD 6 Ze)∧P.commit=m.commit∧P.log=gP m.log n
 a:m.kind.toList=[97]→P.life=nmB m∧P.grp=dN (m.w.getD 6 Ze)∧P.old=J9 (m.w.getD 7 Ze)∧P.commit=m.commit∧P.log=gP m.log n
structure oL (n:Int) (ws:List ByteArray) (P:Pm):Prop where
 kind:∃ b:UInt8,(ws.getD 0 Ze).toList=[b]∧P.kind=b.toNat
 rep:qX (ws.getD 0 Ze)=true→PmR n (gF ws) P
 q:(ws.getD 0 Ze).toList=[113]→P.ent=(aH (ws.getD 1 Ze).data.toList,aH (ws.getD 2 Ze).data.toList,ws.getD 3 Ze)
 m:(ws.getD 0 Ze).toList=[109]→P.epoch=aH (ws.getD 3 Ze).data.toList∧P.ent=(aH (ws.getD 1 Ze).data.toList,aH (ws.getD 2 Ze).data.toList,⟨#[114]⟩++ws.getD 4 Ze)
def mI (ws:List ByteArray) (n:Int):Bool:=decide (0<(bM (ws.getD 0 Ze)).size)&&(decide (ws.length=(bM (ws.getD 0 Ze)).size+1)&&BU ws (bM (ws.getD 0 Ze)) n (bM (ws.getD 0 Ze)).size)
theorem rT (s:ByteArray) (n:Int):aZ s n=if 400<s.size then [] else if mI (bU s 32) n=true then bU s 32 else []:=by
 unfold aZ mI;by_cases a:400<s.size
 ·rw[if_pos a,if_pos a]
 ·rw[if_neg a,if_neg a];dsimp only;generalize bU s 32=ws;by_cases d:(bM (ws.getD 0 Ze)).size=0
  ·rw[if_pos d,if_neg (by rw[d];simp)]
  ·rw[if_neg d];by_cases b:ws.length=(bM (ws.getD 0 Ze)).size+1
   ·rw[if_neg (by simpa using b)]
    by_cases c:BU ws (bM (ws.getD 0 Ze)) n (bM (ws.getD 0 Ze)).size=true
    ·rw[if_pos c,if_pos (by rw[c,decide_eq_true (by omega),decide_eq_true b];rfl)]
    ·rw[if_neg c,if_neg (by simp only[Bool.and_eq_true];exact fun q=>c q.2.2)]
   ·rw[if_pos b,if_neg (by simp only[Bool.and_eq_true,decide_eq_true_eq];exact fun q=>b q.2.1)]
def xR (ws:List ByteArray):List (ByteArray→Bool)→Nat→Bool→Nat×Bool
 | [],nx,wr=>(nx,wr)
 | f :: l,nx,wr=>xR ws l (nxt ws nx) (wr||!f (wrd ws nx))
def wU (ws:List ByteArray):List (ByteArray→Bool)→Nat→Prop
 | [],_=>True
 | f :: l,nx=>f (wrd ws nx)=true∧wU ws l (nx+1)
theorem Cx (ws:List ByteArray):∀ (l:List (ByteArray→Bool)) (nx:Nat),(xR ws l nx true).2=true
 | [],_=>rfl
 | f :: l,nx=>by unfold xR;rw[Bool.true_or];exact Cx ws l _
theorem nx_ok {ws:List ByteArray} {nx:Nat} {f:ByteArray→Bool} (hf:f ⟨#[]⟩=false) (h:f (wrd ws nx)=true):nx<ws.length∧nxt ws nx=nx+1:=by
 have a:nx<ws.length:=by
  by_cases b:nx<ws.length
  ·exact b
  ·rw[yU b,hf] at h;simp at h
 exact⟨a,by unfold nxt;rw[if_pos a]⟩
theorem FB (ws:List ByteArray):∀ (l:List (ByteArray→Bool)) (nx:Nat),(∀ f∈l,f ⟨#[]⟩=false)→nx≤ws.length→((xR ws l nx false).2=false↔wU ws l nx)∧(wU ws l nx→(xR ws l nx false).1=nx+l.length∧nx+l.length≤ws.length)
 | [],nx,_,h=>by simp[xR,wU];exact h
 | f :: l,nx,hf,h=>by
  unfold xR wU;cases hc:f (wrd ws nx)
  ·refine⟨⟨fun q=>?_,fun q=>by simp at q⟩,fun q=>by simp at q⟩
   rw[show (false||!false)=true from rfl,Cx] at q
   simp at q
  ·obtain⟨k1,k2⟩:=nx_ok (hf f (by simp)) hc
   obtain⟨i1,i2⟩:=FB ws l (nx+1) (fun g hg=>hf g (by simp[hg])) (by omega)
   rw[show (false||!true)=false from rfl,k2]
   refine⟨by rw[i1];simp,fun q=>?_⟩
   have:=i2 q.2
   simp only[List.length_cons];omega
theorem bV {s:ByteArray} {a b:Int} (h:ay s.data.toList a b=true):aJ s a b=aH s.data.toList:=by unfold aJ;rw[if_pos h]
theorem AY {a b:Int} (h:0≤a):ay (⟨#[]⟩:ByteArray).data.toList a b=false:=by
 have:aH [] = -1:=by decide
 show ay [] a b=false
 unfold ay;rw[this];simp;omega
theorem Iq (c:Int):bU ⟨#[]⟩ c=[⟨#[]⟩]:=rfl
theorem JV (n:Int):dM ⟨#[]⟩ n=false:=by
 unfold dM;rw[Iq,List.all_cons,AY (by omega)];rfl
theorem Od (n:Int):fE ⟨#[]⟩ n=false:=by
 unfold fE;rw[Iq];simp[sw]
theorem IE (n:Int):bK (⟨#[]⟩:ByteArray).data.toList n=false:=by
 show bK [] n=false
 simp[bK]
theorem Ou (n:Int):jA ⟨#[]⟩ n=false:=by
 unfold jA;rw[IE,ByteArray.toList_eq];rfl
def fT (w w':World) (br:Nat) (vw:Value) (ws:List ByteArray) (n:Int) (e:Ending):Prop :=
 ∃ P vl vg vo vL nx' wr',e=Zr (.agg (pmC P vl vg vo vL))∧xY w' (w.heap.size+2) P vl vg vo vL∧bG w w' br vw ws nx' n wr'∧((wr'=false∧nx'=ws.length)↔mI ws n=true)∧(mI ws n=true→oL n ws P)
theorem IZ {s:ByteArray} {n:Int} (h:jA s n=true):rA s n=J9 s:=by
 unfold rA J9;unfold jA at h;cases hd:(s.toList==[45])
 ·rw[hd] at h;simp only[Bool.false_or] at h;simp only[Bool.false_eq_true,if_false];exact if_pos h
 ·rfl
theorem Ov {a:Bool} {p q:Prop} (h:((a||false)=false∧p)↔q):(a=false∧p)↔q:=by rwa [Bool.or_false] at h
def ck (n c:Int) (s:ByteArray):Bool:=if c=76 then fE s n else if c=104 then jA s n else mq s c n Ze
def EK:List Int:=[99,110,105,111,119,102,108,101,121,118,120,112,103,104,76]
theorem PX {n c:Int} (h:c∈EK):ck n c ⟨#[]⟩=false:=by
 simp only[EK,List.mem_cons,List.not_mem_nil,or_false] at h;rcases h with rfl|rfl|rfl|rfl|rfl|rfl|rfl|rfl|rfl|rfl|rfl|rfl|rfl|rfl|rfl
 all_goals first|exact AY (by omega)|exact JV n|exact sw n|exact IE n|exact Ou n|exact Od n|rfl
theorem Iy {n c:Int} (s p:ByteArray) (h:c∈EK):mq s c n p=(ck n c s&&(!decide (c=76)||decide (aH p.data.toList≤(nC s).length))):=by
 simp only[EK,List.mem_cons,List.not_mem_nil,or_false] at h;rcases h with rfl|rfl|rfl|rfl|rfl|rfl|rfl|rfl|rfl|rfl|rfl|rfl|rfl|rfl|rfl
 all_goals first|exact (Bool.and_true _).symm|(show (bK _ _||_)=(jA _ _&&true);unfold jA;rw[Bool.and_true,Bool.or_comm])|rfl
theorem yX (ws:List ByteArray) (n:Int):∀ (l:List Int) (k:Nat),wU ws (l.map (ck n)) k↔∀ j (h:j<l.length),ck n l[j] (wrd ws (k+j))=true
 | [],k=>⟨fun _ j h=>absurd h (by simp),fun _=>trivial⟩
 | c :: l,k=>by
  show (_∧_)↔_
  rw[yX ws n l (k+1)]
  constructor
  ·rintro⟨a,b⟩ j h
   cases j with
   | zero=>exact a
   | succ j=>have:=b j (by simpa using h);rwa [show k+1+j=k+(j+1) by omega] at this
  ·intro h;refine⟨h 0 (by simp),fun j d=>?_⟩
   have:=h (j+1) (by simpa using d)
   rwa [show k+(j+1)=k+1+j by omega] at this
def nk (ws:List ByteArray):Nat→Nat
 | 0=>1
 | k+1=>nxt ws (nk ws k)
theorem NS {ws:List ByteArray} {n:Int} {f:ByteArray} {l:List Int} (hl:f.data.toList.map (fun c=>(c.toNat:Int))=l) (hk:∀ c∈l,c∈EK):BU ws f n f.size=true↔wU ws (l.map (ck n)) 1∧∀ j (h:j<l.length),l[j]=76→aH (wrd ws j).data.toList≤(nC (wrd ws (j+1))).length:=by
 have e:f.size=l.length:=by rw[← hl];simp
 have d:∀ j (h:j<l.length),((f.data.toList.getD j 0).toNat:Int)=l[j]:=fun j h=>by
  subst hl;simp at h ⊢;rw[Array.getElem?_eq_getElem (by simpa using h)]
  rfl
 rw[yX];unfold BU;rw[List.all_eq_true,e];simp only[List.mem_range]
 constructor
 ·intro h;have b:∀ j (a:j<l.length),ck n l[j] (wrd ws (j+1))=true∧(l[j]=76→aH (wrd ws j).data.toList≤(nC (wrd ws (j+1))).length):=fun j a=>by
   have:=h j a
   rw[d j a,Iy _ _ (hk _ (List.getElem_mem a))] at this;simp only[Bool.and_eq_true,Bool.or_eq_true,Bool.not_eq_true',decide_eq_false_iff_not,decide_eq_true_eq] at this;exact⟨this.1,fun q=>this.2.resolve_left (fun r=>r q)⟩
  exact⟨fun j a=>by rw[Nat.add_comm];exact (b j a).1,fun j a=>(b j a).2⟩
 ·rintro⟨h,b⟩ j a
  rw[d j a,Iy _ _ (hk _ (List.getElem_mem a))];simp only[Bool.and_eq_true,Bool.or_eq_true,Bool.not_eq_true',decide_eq_false_iff_not,decide_eq_true_eq];refine⟨by have:=h j a;rwa [Nat.add_comm] at this,?_⟩
  by_cases q:l[j]=76
  ·exact .inr (b j a q)
  ·exact .inl q
theorem kd {ws:List ByteArray} {n:Int} (f:ByteArray) (l:List Int) (x:Bool) (hF:bM (ws.getD 0 Ze)=f) (hl:f.data.toList.map (fun c=>(c.toNat:Int))=l) (hk:∀ c∈l,c∈EK) (hp:0<f.size) (h1:1≤ws.length)
  (hx:wU ws (l.map (ck n)) 1→(∀ k,k<l.length→nk ws k=k+1)→((∀ j (h:j<l.length),l[j]=76→aH (wrd ws j).data.toList≤(nC (wrd ws (j+1))).length)↔x=false)) :
  ((((xR ws (l.map (ck n)) 1 false).2||x)=false∧(xR ws (l.map (ck n)) 1 false).1=ws.length)↔mI ws n=true)∧(mI ws n=true→wU ws (l.map (ck n)) 1∧∀ k,k<l.length→wrd ws (nk ws k)=wrd ws (k+1)):=by
 obtain⟨e,i2⟩:=FB ws (l.map (ck n)) 1 (fun g i=>by obtain⟨c,m,rfl⟩:=List.mem_map.1 i;exact PX (hk c m)) h1
 rw[List.length_map] at i2;have o:f.size=l.length:=by rw[← hl];simp
 have d:wU ws (l.map (ck n)) 1→∀ k,k<l.length→nk ws k=k+1:=fun q k=>by
  have:=(i2 q).2
  induction k with
  | zero=>exact fun _=>rfl
  | succ k ih=>exact fun hk=>by show nxt ws (nk ws k)=_;rw[ih (by omega)];unfold nxt;rw[if_pos (by omega)]
 have hok:mI ws n=true↔ws.length=l.length+1∧wU ws (l.map (ck n)) 1∧x=false:=by
  unfold mI;rw[hF];simp only[Bool.and_eq_true,decide_eq_true_eq];rw[NS hl hk,o];exact⟨fun ⟨_,a,b,c⟩=>⟨a,b,(hx b (d b)).1 c⟩,fun ⟨a,b,c⟩=>⟨by omega,a,b,(hx b (d b)).2 c⟩⟩
 rw[hok,Bool.or_eq_false_iff,e];refine⟨⟨fun ⟨⟨a,b⟩,c⟩=>⟨by have:=i2 a;omega,a,b⟩,fun ⟨a,b,c⟩=>⟨⟨b,c⟩,by have:=i2 b;omega⟩⟩,fun ⟨_,a,_⟩=>⟨a,fun k hk=>by rw[d a k hk]⟩⟩
theorem kd0 {ws:List ByteArray} {n:Int} (f:ByteArray) (l:List Int) (hF:bM (ws.getD 0 Ze)=f) (hl:f.data.toList.map (fun c=>(c.toNat:Int))=l) (hk:∀ c∈l,c∈EK) (h7:∀ c∈l,c≠76) (hp:0<f.size) (h1:1≤ws.length) :
  (((xR ws (l.map (ck n)) 1 false).2=false∧(xR ws (l.map (ck n)) 1 false).1=ws.length)↔mI ws n=true)∧(mI ws n=true→wU ws (l.map (ck n)) 1∧∀ k,k<l.length→wrd ws (nk ws k)=wrd ws (k+1)):=by
 have:=kd (n:=n) f l false hF hl hk hp h1 (fun _ _=>⟨fun _=>rfl,fun _ j h q=>absurd q (h7 _ (List.getElem_mem h))⟩)
 rwa [Bool.or_false] at this
theorem kdL {ws:List ByteArray} {n:Int} (f:ByteArray) (l:List Int) (m:Nat) (hm:l.length=m+2) (hF:bM (ws.getD 0 Ze)=f) (hl:f.data.toList.map (fun c=>(c.toNat:Int))=l) (hk:∀ c∈l,c∈EK) (h7:∀ j (h:j<l.length),l[j]=76↔j=m+1) (h8:l[m]? = some 121) (hp:0<f.size) (h1:1≤ws.length) :
  ((((xR ws (l.map (ck n)) 1 false).2||decide (((kg (wrd ws (nk ws (m+1))) n).length:Int)<aJ (wrd ws (nk ws m)) 0 10))=false∧(xR ws (l.map (ck n)) 1 false).1=ws.length)↔mI ws n=true)∧(mI ws n=true→wU ws (l.map (ck n)) 1∧∀ k,k<l.length→wrd ws (nk ws k)=wrd ws (k+1)):=by
 refine kd (n:=n) f l _ hF hl hk hp h1 (fun a b=>?_)
 have a:=(yX ws n l 1).1 a;have d:=a m (by omega)
 have e:=a (m+1) (by omega)
 have g:l[m]'(by omega)=121:=by rw[List.getElem?_eq_getElem (by omega)] at h8;exact Option.some.inj h8
 rw[g,Nat.add_comm] at d;rw[(h7 (m+1) (by omega)).2 rfl,Nat.add_comm] at e
 rw[b (m+1) (by omega),b m (by omega),decide_eq_false_iff_not,bV (show ay (wrd ws (m+1)).data.toList 0 10=true from d)]
 have hl:(kg (wrd ws (m+1+1)) n).length=(nC (wrd ws (m+1+1))).length:=by unfold kg;rw[if_pos (show fE (wrd ws (m+1+1)) n=true from e)];simp[gP]
 rw[hl]
 constructor
 ·intro h;have:=h (m+1) (by omega) ((h7 _ (by omega)).2 rfl)
  omega
 ·intro h j hj q;obtain rfl:=(h7 j hj).1 q;omega
section
variable {w w':World} {br:Nat} {vw:Value} {ws:List ByteArray} {n:Int} {e:Ending} (h1:1≤ws.length)
abbrev RP1 (w w':World) (br:Nat) (vw:Value) (ws:List ByteArray) (n k:Int) (e:Ending):Prop:=rU w w' br vw ws n k (aJ (wrd ws 1) 0 (n-1)) (jM (wrd ws (nxt ws 1)) n) (aJ (wrd ws (nxt ws (nxt ws 1))) 0 10) (aJ (wrd ws (nxt ws (nxt ws (nxt ws 1)))) 0 999) (nxt ws (nxt ws (nxt ws (nxt ws 1)))) ((((false||!ay (wrd ws 1).data.toList 0 (n-1))||!dM (wrd ws (nxt ws 1)) n)||!ay (wrd ws (nxt ws (nxt ws 1))).data.toList 0 10)||!ay (wrd ws (nxt ws (nxt ws (nxt ws 1)))).data.toList 0 999) e
theorem rep_p {w:World} {w':World} {br:Nat} {vw:Value} {ws:List ByteArray} {n:Int} {e:Ending} (h1:1≤ws.length) (h0:(ws.getD 0 Ze).toList=[112]) (hp:RP1 w w' br vw ws n 112 e):fT w w' br vw ws n e:=by
 obtain⟨d,f,g,h⟩:=hp.1 rfl
 have c:bM (ws.getD 0 Ze)=⟨#[102,108,101,118,120,112,121]⟩:=by unfold bM;rw[h0];rfl
 have K:=kd0 (n:=n) ⟨#[102,108,101,118,120,112,121]⟩ [102,108,101,118,120,112,121] c rfl (by decide) (by decide) (by decide) h1
 refine⟨⟨112,aJ (wrd ws (nk ws 0)) 0 (n-1),jM (wrd ws (nk ws 1)) n,aJ (wrd ws (nk ws 2)) 0 10,aJ (wrd ws (nk ws 3)) 0 999,aJ (wrd ws (nk ws 4)) 1 10,iB (wrd ws (nk ws 5)) n,aJ (wrd ws (nk ws 6)) 0 10,0,0,[],[],[]⟩,d,Y O 0 0,Y O 0 0,Y O 0 0,_,_,f,⟨g _ (.head _),World.ownsRow_nil _ _ _ _,World.ownsRow_nil _ _ _ _,World.ownsRow_nil _ _ _ _⟩,h,K.1,fun i=>?_⟩
 obtain⟨⟨j,k,l,m,o,r,p,_⟩,b⟩:=K.2 i
 have q:gF ws=⟨ws,ws.getD 0 Ze,aH (ws.getD 1 Ze).data.toList,eB (ws.getD 2 Ze),aH (ws.getD 3 Ze).data.toList,aH (ws.getD 4 Ze).data.toList,aH (ws.getD 7 Ze).data.toList,[]⟩:=by
  unfold gF lF;rw[h0,c];rfl
 refine⟨⟨_,h0,rfl⟩,fun _=>?_,fun a=>by rw[h0] at a;simp at a,fun a=>by rw[h0] at a;simp at a⟩
 rw[q];simp only[b 0 (by decide),b 1 (by decide),b 2 (by decide),b 3 (by decide),b 4 (by decide),b 5 (by decide),b 6 (by decide)]
 exact⟨bV j,if_pos k,bV l,bV m,fun _=>⟨bV o,rfl,bV p⟩,fun a=>absurd (h0.symm.trans a) (by decide),fun a=>absurd (h0.symm.trans a) (by decide),fun a=>absurd (h0.symm.trans a) (by decide),fun a=>absurd (h0.symm.trans a) (by decide),fun a=>absurd (h0.symm.trans a) (by decide)⟩
theorem rep_k {w:World} {w':World} {br:Nat} {vw:Value} {ws:List ByteArray} {n:Int} {e:Ending} (h1:1≤ws.length) (h0:(ws.getD 0 Ze).toList=[107]) (hp:RP1 w w' br vw ws n 107 e):fT w w' br vw ws n e:=by
 obtain⟨d,f,g,h⟩:=hp.2.1 rfl
 have c:bM (ws.getD 0 Ze)=⟨#[102,108,101,118,121]⟩:=by unfold bM;rw[h0];rfl
 have K:=kd0 (n:=n) ⟨#[102,108,101,118,121]⟩ [102,108,101,118,121] c rfl (by decide) (by decide) (by decide) h1
 refine⟨⟨107,aJ (wrd ws (nk ws 0)) 0 (n-1),jM (wrd ws (nk ws 1)) n,aJ (wrd ws (nk ws 2)) 0 10,aJ (wrd ws (nk ws 3)) 0 999,aJ (wrd ws (nk ws 4)) 0 10,(0,0,⟨#[]⟩),0,0,0,[],[],[]⟩,d,Y O 0 0,Y O 0 0,Y O 0 0,_,_,f,⟨g _ (.head _),World.ownsRow_nil _ _ _ _,World.ownsRow_nil _ _ _ _,World.ownsRow_nil _ _ _ _⟩,h,K.1,fun i=>?_⟩
 obtain⟨⟨j,k,l,m,o,_⟩,b⟩:=K.2 i
 have p:gF ws=⟨ws,ws.getD 0 Ze,aH (ws.getD 1 Ze).data.toList,eB (ws.getD 2 Ze),aH (ws.getD 3 Ze).data.toList,aH (ws.getD 4 Ze).data.toList,0,[]⟩:=by
  unfold gF lF;rw[h0,c];rfl
 refine⟨⟨_,h0,rfl⟩,fun _=>?_,fun a=>by rw[h0] at a;simp at a,fun a=>by rw[h0] at a;simp at a⟩
 rw[p];simp only[b 0 (by decide),b 1 (by decide),b 2 (by decide),b 3 (by decide),b 4 (by decide)]
 exact⟨bV j,if_pos k,bV l,bV m,fun a=>absurd (h0.symm.trans a) (by decide),fun _=>bV o,fun a=>absurd (h0.symm.trans a) (by decide),fun a=>absurd (h0.symm.trans a) (by decide),fun a=>absurd (h0.symm.trans a) (by decide),fun a=>absurd (h0.symm.trans a) (by decide)⟩
theorem rep_c {w:World} {w':World} {br:Nat} {vw:Value} {ws:List ByteArray} {n:Int} {e:Ending} (h1:1≤ws.length) (h0:(ws.getD 0 Ze).toList=[99]) (hp:RP1 w w' br vw ws n 99 e):fT w w' br vw ws n e:=by
 obtain⟨d,f,g,h⟩:=hp.2.2.1 rfl
 have c:bM (ws.getD 0 Ze)=⟨#[102,108,101,118,121]⟩:=by unfold bM;rw[h0];rfl
 have K:=kd0 (n:=n) ⟨#[102,108,101,118,121]⟩ [102,108,101,118,121] c rfl (by decide) (by decide) (by decide) h1
 refine⟨⟨99,aJ (wrd ws (nk ws 0)) 0 (n-1),jM (wrd ws (nk ws 1)) n,aJ (wrd ws (nk ws 2)) 0 10,aJ (wrd ws (nk ws 3)) 0 999,0,(0,0,⟨#[]⟩),aJ (wrd ws (nk ws 4)) 0 10,0,0,[],[],[]⟩,d,Y O 0 0,Y O 0 0,Y O 0 0,_,_,f,⟨g _ (.head _),World.ownsRow_nil _ _ _ _,World.ownsRow_nil _ _ _ _,World.ownsRow_nil _ _ _ _⟩,h,K.1,fun i=>?_⟩
 obtain⟨⟨j,k,l,m,o,_⟩,b⟩:=K.2 i
 have p:gF ws=⟨ws,ws.getD 0 Ze,aH (ws.getD 1 Ze).data.toList,eB (ws.getD 2 Ze),aH (ws.getD 3 Ze).data.toList,aH (ws.getD 4 Ze).data.toList,aH (ws.getD 5 Ze).data.toList,[]⟩:=by
  unfold gF lF;rw[h0,c];rfl
 refine⟨⟨_,h0,rfl⟩,fun _=>?_,fun a=>by rw[h0] at a;simp at a,fun a=>by rw[h0] at a;simp at a⟩
 rw[p];simp only[b 0 (by decide),b 1 (by decide),b 2 (by decide),b 3 (by decide),b 4 (by decide)]
 exact⟨bV j,if_pos k,bV l,bV m,fun a=>absurd (h0.symm.trans a) (by decide),fun a=>absurd (h0.symm.trans a) (by decide),fun _=>bV o,fun a=>absurd (h0.symm.trans a) (by decide),fun a=>absurd (h0.symm.trans a) (by decide),fun a=>absurd (h0.symm.trans a) (by decide)⟩
theorem rep_h {w:World} {w':World} {br:Nat} {vw:Value} {ws:List ByteArray} {n:Int} {e:Ending} (h1:1≤ws.length) (h0:(ws.getD 0 Ze).toList=[104]) (hp:RP1 w w' br vw ws n 104 e):fT w w' br vw ws n e:=by
 obtain⟨d,f,g,h⟩:=hp.2.2.2.1 rfl
 have c:bM (ws.getD 0 Ze)=⟨#[102,108,101,118]⟩:=by unfold bM;rw[h0];rfl
 have K:=kd0 (n:=n) ⟨#[102,108,101,118]⟩ [102,108,101,118] c rfl (by decide) (by decide) (by decide) h1
 refine⟨⟨104,aJ (wrd ws (nk ws 0)) 0 (n-1),jM (wrd ws (nk ws 1)) n,aJ (wrd ws (nk ws 2)) 0 10,aJ (wrd ws (nk ws 3)) 0 999,0,(0,0,⟨#[]⟩),0,0,0,[],[],[]⟩,d,Y O 0 0,Y O 0 0,Y O 0 0,_,_,f,⟨g _ (.head _),World.ownsRow_nil _ _ _ _,World.ownsRow_nil _ _ _ _,World.ownsRow_nil _ _ _ _⟩,h,K.1,fun i=>?_⟩
 obtain⟨⟨j,k,l,m,_⟩,b⟩:=K.2 i
 have o:gF ws=⟨ws,ws.getD 0 Ze,aH (ws.getD 1 Ze).data.toList,eB (ws.getD 2 Ze),aH (ws.getD 3 Ze).data.toList,aH (ws.getD 4 Ze).data.toList,0,[]⟩:=by
  unfold gF lF;rw[h0,c];rfl
 refine⟨⟨_,h0,rfl⟩,fun _=>?_,fun a=>by rw[h0] at a;simp at a,fun a=>by rw[h0] at a;simp at a⟩
 rw[o];simp only[b 0 (by decide),b 1 (by decide),b 2 (by decide),b 3 (by decide)]
 exact⟨bV j,if_pos k,bV l,bV m,fun a=>absurd (h0.symm.trans a) (by decide),fun a=>absurd (h0.symm.trans a) (by decide),fun a=>absurd (h0.symm.trans a) (by decide),fun a=>absurd (h0.symm.trans a) (by decide),fun a=>absurd (h0.symm.trans a) (by decide),fun a=>absurd (h0.symm.trans a) (by decide)⟩
theorem rep_g {w:World} {w':World} {br:Nat} {vw:Value} {ws:List ByteArray} {n:Int} {e:Ending} (h1:1≤ws.length) (h0:(ws.getD 0 Ze).toList=[103]) (hp:RP1 w w' br vw ws n 103 e):fT w w' br vw ws n e:=by
 obtain⟨d,f,g,h⟩:=hp.2.2.2.2.1 rfl
 have c:bM (ws.getD 0 Ze)=⟨#[102,108,101,118]⟩:=by unfold bM;rw[h0];rfl
 have K:=kd0 (n:=n) ⟨#[102,108,101,118]⟩ [102,108,101,118] c rfl (by decide) (by decide) (by decide) h1
 refine⟨⟨103,aJ (wrd ws (nk ws 0)) 0 (n-1),jM (wrd ws (nk ws 1)) n,aJ (wrd ws (nk ws 2)) 0 10,aJ (wrd ws (nk ws 3)) 0 999,0,(0,0,⟨#[]⟩),0,0,0,[],[],[]⟩,d,Y O 0 0,Y O 0 0,Y O 0 0,_,_,f,⟨g _ (.head _),World.ownsRow_nil _ _ _ _,World.ownsRow_nil _ _ _ _,World.ownsRow_nil _ _ _ _⟩,h,K.1,fun i=>?_⟩
 obtain⟨⟨j,k,l,m,_⟩,b⟩:=K.2 i
 have o:gF ws=⟨ws,ws.getD 0 Ze,aH (ws.getD 1 Ze).data.toList,eB (ws.getD 2 Ze),aH (ws.getD 3 Ze).data.toList,aH (ws.getD 4 Ze).data.toList,0,[]⟩:=by
  unfold gF lF;rw[h0,c];rfl
 refine⟨⟨_,h0,rfl⟩,fun _=>?_,fun a=>by rw[h0] at a;simp at a,fun a=>by rw[h0] at a;simp at a⟩
 rw[o];simp only[b 0 (by decide),b 1 (by decide),b 2 (by decide),b 3 (by decide)]
 exact⟨bV j,if_pos k,bV l,bV m,fun a=>absurd (h0.symm.trans a) (by decide),fun a=>absurd (h0.symm.trans a) (by decide),fun a=>absurd (h0.symm.trans a) (by decide),fun a=>absurd (h0.symm.trans a) (by decide),fun a=>absurd (h0.symm.trans a) (by decide),fun a=>absurd (h0.symm.trans a) (by decide)⟩
theorem rep_r {w:World} {w':World} {br:Nat} {vw:Value} {ws:List ByteArray} {n:Int} {e:Ending} (h1:1≤ws.length) (h0:(ws.getD 0 Ze).toList=[114]) (hp:RP1 w w' br vw ws n 114 e):fT w w' br vw ws n e:=by
 obtain⟨d,f,g,h⟩:=hp.2.2.2.2.2.1 rfl
 have c:bM (ws.getD 0 Ze)=⟨#[102,108,101,118]⟩:=by unfold bM;rw[h0];rfl
 have K:=kd0 (n:=n) ⟨#[102,108,101,118]⟩ [102,108,101,118] c rfl (by decide) (by decide) (by decide) h1
 refine⟨⟨114,aJ (wrd ws (nk ws 0)) 0 (n-1),jM (wrd ws (nk ws 1)) n,aJ (wrd ws (nk ws 2)) 0 10,aJ (wrd ws (nk ws 3)) 0 999,0,(0,0,⟨#[]⟩),0,0,0,[],[],[]⟩,d,Y O 0 0,Y O 0 0,Y O 0 0,_,_,f,⟨g _ (.head _),World.ownsRow_nil _ _ _ _,World.ownsRow_nil _ _ _ _,World.ownsRow_nil _ _ _ _⟩,h,K.1,fun i=>?_⟩
 obtain⟨⟨j,k,l,m,_⟩,b⟩:=K.2 i
 have o:gF ws=⟨ws,ws.getD 0 Ze,aH (ws.getD 1 Ze).data.toList,eB (ws.getD 2 Ze),aH (ws.getD 3 Ze).data.toList,aH (ws.getD 4 Ze).data.toList,0,[]⟩:=by
  unfold gF lF;rw[h0,c];rfl
 refine⟨⟨_,h0,rfl⟩,fun _=>?_,fun a=>by rw[h0] at a;simp at a,fun a=>by rw[h0] at a;simp at a⟩
 rw[o];simp only[b 0 (by decide),b 1 (by decide),b 2 (by decide),b 3 (by decide)]
 exact⟨bV j,if_pos k,bV l,bV m,fun a=>absurd (h0.symm.trans a) (by decide),fun a=>absurd (h0.symm.trans a) (by decide),fun a=>absurd (h0.symm.trans a) (by decide),fun a=>absurd (h0.symm.trans a) (by decide),fun a=>absurd (h0.symm.trans a) (by decide),fun a=>absurd (h0.symm.trans a) (by decide)⟩
theorem rep_t {w:World} {w':World} {br:Nat} {vw:Value} {ws:List ByteArray} {n:Int} {e:Ending} (h1:1≤ws.length) (h0:(ws.getD 0 Ze).toList=[116]) (hp:RP1 w w' br vw ws n 116 e):fT w w' br vw ws n e:=by
 obtain⟨d,f,g,h⟩:=hp.2.2.2.2.2.2.1 rfl
 have c:bM (ws.getD 0 Ze)=⟨#[102,108,101,118]⟩:=by unfold bM;rw[h0];rfl
 have K:=kd0 (n:=n) ⟨#[102,108,101,118]⟩ [102,108,101,118] c rfl (by decide) (by decide) (by decide) h1
 refine⟨⟨116,aJ (wrd ws (nk ws 0)) 0 (n-1),jM (wrd ws (nk ws 1)) n,aJ (wrd ws (nk ws 2)) 0 10,aJ (wrd ws (nk ws 3)) 0 999,0,(0,0,⟨#[]⟩),0,0,0,[],[],[]⟩,d,Y O 0 0,Y O 0 0,Y O 0 0,_,_,f,⟨g _ (.head _),World.ownsRow_nil _ _ _ _,World.ownsRow_nil _ _ _ _,World.ownsRow_nil _ _ _ _⟩,h,K.1,fun i=>?_⟩
 obtain⟨⟨j,k,l,m,_⟩,b⟩:=K.2 i
 have o:gF ws=⟨ws,ws.getD 0 Ze,aH (ws.getD 1 Ze).data.toList,eB (ws.getD 2 Ze),aH (ws.getD 3 Ze).data.toList,aH (ws.getD 4 Ze).data.toList,0,[]⟩:=by
  unfold gF lF;rw[h0,c];rfl
 refine⟨⟨_,h0,rfl⟩,fun _=>?_,fun a=>by rw[h0] at a;simp at a,fun a=>by rw[h0] at a;simp at a⟩
 rw[o];simp only[b 0 (by decide),b 1 (by decide),b 2 (by decide),b 3 (by decide)]
 exact⟨bV j,if_pos k,bV l,bV m,fun a=>absurd (h0.symm.trans a) (by decide),fun a=>absurd (h0.symm.trans a) (by decide),fun a=>absurd (h0.symm.trans a) (by decide),fun a=>absurd (h0.symm.trans a) (by decide),fun a=>absurd (h0.symm.trans a) (by decide),fun a=>absurd (h0.symm.trans a) (by decide)⟩
theorem rep_v {w:World} {w':World} {br:Nat} {vw:Value} {ws:List ByteArray} {n:Int} {e:Ending} (h1:1≤ws.length) (h0:(ws.getD 0 Ze).toList=[118]) (hp:RP1 w w' br vw ws n 118 e):fT w w' br vw ws n e:=by
 obtain⟨f,g,h,c,i⟩:=hp.2.2.2.2.2.2.2.1 rfl
 have d:bM (ws.getD 0 Ze)=⟨#[102,108,101,118,118,121,76]⟩:=by unfold bM;rw[h0];rfl
 have K:=kdL (n:=n) ⟨#[102,108,101,118,118,121,76]⟩ [102,108,101,118,118,121,76] 5 rfl d rfl (by decide) (by decide) rfl (by decide) h1
 refine⟨⟨118,aJ (wrd ws (nk ws 0)) 0 (n-1),jM (wrd ws (nk ws 1)) n,aJ (wrd ws (nk ws 2)) 0 10,aJ (wrd ws (nk ws 3)) 0 999,0,(0,0,⟨#[]⟩),aJ (wrd ws (nk ws 5)) 0 10,aJ (wrd ws (nk ws 4)) 0 999,0,[],[],kg (wrd ws (nk ws 6)) n⟩,f,Y O 0 0,Y O 0 0,g,_,_,h,⟨c _ (.tail _ (.head _)),World.ownsRow_nil _ _ _ _,World.ownsRow_nil _ _ _ _,c _ (.head _)⟩,i,K.1,fun j=>?_⟩
 obtain⟨⟨k,l,m,o,p,q,r,_⟩,b⟩:=K.2 j
 have s:gF ws=⟨ws,ws.getD 0 Ze,aH (ws.getD 1 Ze).data.toList,eB (ws.getD 2 Ze),aH (ws.getD 3 Ze).data.toList,aH (ws.getD 4 Ze).data.toList,aH (ws.getD 6 Ze).data.toList,nC (ws.getD 7 Ze)⟩:=by
  unfold gF lF;rw[h0,d];rfl
 refine⟨⟨_,h0,rfl⟩,fun _=>?_,fun a=>by rw[h0] at a;simp at a,fun a=>by rw[h0] at a;simp at a⟩
 rw[s];simp only[b 0 (by decide),b 1 (by decide),b 2 (by decide),b 3 (by decide),b 4 (by decide),b 5 (by decide),b 6 (by decide)]
 exact⟨bV k,if_pos l,bV m,bV o,fun a=>absurd (h0.symm.trans a) (by decide),fun a=>absurd (h0.symm.trans a) (by decide),fun a=>absurd (h0.symm.trans a) (by decide),fun _=>⟨bV p,bV q,if_pos r⟩,fun a=>absurd (h0.symm.trans a) (by decide),fun a=>absurd (h0.symm.trans a) (by decide)⟩
theorem rep_s {w:World} {w':World} {br:Nat} {vw:Value} {ws:List ByteArray} {n:Int} {e:Ending} (h1:1≤ws.length) (h0:(ws.getD 0 Ze).toList=[115]) (hp:RP1 w w' br vw ws n 115 e):fT w w' br vw ws n e:=by
 obtain⟨f,g,h,i,j,c,k⟩:=hp.2.2.2.2.2.2.2.2.1 rfl
 have d:bM (ws.getD 0 Ze)=⟨#[102,108,101,118,103,104,121,76]⟩:=by unfold bM;rw[h0];rfl
 have K:=kdL (n:=n) ⟨#[102,108,101,118,103,104,121,76]⟩ [102,108,101,118,103,104,121,76] 6 rfl d rfl (by decide) (by decide) rfl (by decide) h1
 refine⟨⟨115,aJ (wrd ws (nk ws 0)) 0 (n-1),jM (wrd ws (nk ws 1)) n,aJ (wrd ws (nk ws 2)) 0 10,aJ (wrd ws (nk ws 3)) 0 999,0,(0,0,⟨#[]⟩),aJ (wrd ws (nk ws 6)) 0 10,0,0,gJ (wrd ws (nk ws 4)) n,rA (wrd ws (nk ws 5)) n,kg (wrd ws (nk ws 7)) n⟩,f,g,h,i,_,_,j,⟨c _ (.tail _ (.tail _ (.tail _ (.head _)))),c _ (.tail _ (.head _)),c _ (.tail _ (.tail _ (.head _))),c _ (.head _)⟩,k,K.1,fun l=>?_⟩
 obtain⟨⟨m,o,p,q,r,s,t,u,_⟩,b⟩:=K.2 l
 have v:gF ws=⟨ws,ws.getD 0 Ze,aH (ws.getD 1 Ze).data.toList,eB (ws.getD 2 Ze),aH (ws.getD 3 Ze).data.toList,aH (ws.getD 4 Ze).data.toList,aH (ws.getD 7 Ze).data.toList,nC (ws.getD 8 Ze)⟩:=by
  unfold gF lF;rw[h0,d];rfl
 refine⟨⟨_,h0,rfl⟩,fun _=>?_,fun a=>by rw[h0] at a;simp at a,fun a=>by rw[h0] at a;simp at a⟩
 rw[v];simp only[b 0 (by decide),b 1 (by decide),b 2 (by decide),b 3 (by decide),b 4 (by decide),b 5 (by decide),b 6 (by decide),b 7 (by decide)]
 exact⟨bV m,if_pos o,bV p,bV q,fun a=>absurd (h0.symm.trans a) (by decide),fun a=>absurd (h0.symm.trans a) (by decide),fun a=>absurd (h0.symm.trans a) (by decide),fun a=>absurd (h0.symm.trans a) (by decide),fun _=>⟨if_pos r,IZ s,bV t,if_pos u⟩,fun a=>absurd (h0.symm.trans a) (by decide)⟩
theorem rep_a {w:World} {w':World} {br:Nat} {vw:Value} {ws:List ByteArray} {n:Int} {e:Ending} (h1:1≤ws.length) (h0:(ws.getD 0 Ze).toList=[97]) (hp:RP1 w w' br vw ws n 97 e):fT w w' br vw ws n e:=by
 obtain⟨f,g,h,i,j,c,k⟩:=hp.2.2.2.2.2.2.2.2.2.1 rfl
 have d:bM (ws.getD 0 Ze)=⟨#[102,108,101,118,105,103,104,121,76]⟩:=by unfold bM;rw[h0];rfl
 have K:=kdL (n:=n) ⟨#[102,108,101,118,105,103,104,121,76]⟩ [102,108,101,118,105,103,104,121,76] 7 rfl d rfl (by decide) (by decide) rfl (by decide) h1
 refine⟨⟨97,aJ (wrd ws (nk ws 0)) 0 (n-1),jM (wrd ws (nk ws 1)) n,aJ (wrd ws (nk ws 2)) 0 10,aJ (wrd ws (nk ws 3)) 0 999,0,(0,0,⟨#[]⟩),aJ (wrd ws (nk ws 7)) 0 10,0,aJ (wrd ws (nk ws 4)) 1 999,gJ (wrd ws (nk ws 5)) n,rA (wrd ws (nk ws 6)) n,kg (wrd ws (nk ws 8)) n⟩,f,g,h,i,_,_,j,⟨c _ (.tail _ (.tail _ (.tail _ (.head _)))),c _ (.tail _ (.head _)),c _ (.tail _ (.tail _ (.head _))),c _ (.head _)⟩,k,K.1,fun l=>?_⟩
 obtain⟨⟨m,o,p,q,r,s,t,u,v,_⟩,b⟩:=K.2 l
 have x:gF ws=⟨ws,ws.getD 0 Ze,aH (ws.getD 1 Ze).data.toList,eB (ws.getD 2 Ze),aH (ws.getD 3 Ze).data.toList,aH (ws.getD 4 Ze).data.toList,aH (ws.getD 8 Ze).data.toList,nC (ws.getD 9 Ze)⟩:=by
  unfold gF lF;rw[h0,d];rfl
 refine⟨⟨_,h0,rfl⟩,fun _=>?_,fun a=>by rw[h0] at a;simp at a,fun a=>by rw[h0] at a;simp at a⟩
 rw[x];simp only[b 0 (by decide),b 1 (by decide),b 2 (by decide),b 3 (by decide),b 4 (by decide),b 5 (by decide),b 6 (by decide),b 7 (by decide),b 8 (by decide)]
 exact⟨bV m,if_pos o,bV p,bV q,fun a=>absurd (h0.symm.trans a) (by decide),fun a=>absurd (h0.symm.trans a) (by decide),fun a=>absurd (h0.symm.trans a) (by decide),fun a=>absurd (h0.symm.trans a) (by decide),fun a=>absurd (h0.symm.trans a) (by decide),fun _=>⟨bV r,if_pos s,IZ t,bV u,if_pos v⟩⟩
theorem cl_q {w:World} {w':World} {br:Nat} {vw:Value} {ws:List ByteArray} {n:Int} {e:Ending} (h1:1≤ws.length) (h0:(ws.getD 0 Ze).toList=[113]) (he:e=Zr (.agg (pmC ⟨113,0,[],0,0,0,(aJ (wrd ws 1) 1 9,aJ (wrd ws (nxt ws 1)) 1 999,if eF (wrd ws (nxt ws (nxt ws 1))).data.toList then wrd ws (nxt ws (nxt ws 1)) else ⟨#[]⟩),0,0,0,[],[],[]⟩ (Y O 0 0) (Y O 0 0) (Y O 0 0) (Y O 0 0)))) (hR:bG w w' br vw ws (nxt ws (nxt ws (nxt ws 1))) n (((false||!ay (wrd ws 1).data.toList 1 9)||!ay (wrd ws (nxt ws 1)).data.toList 1 999)||!eF (wrd ws (nxt ws (nxt ws 1))).data.toList)):fT w w' br vw ws n e:=by
 have c:bM (ws.getD 0 Ze)=⟨#[99,110,111]⟩:=by unfold bM;rw[h0];rfl
 have K:=kd0 (n:=n) ⟨#[99,110,111]⟩ [99,110,111] c rfl (by decide) (by decide) (by decide) h1
 refine⟨⟨113,0,[],0,0,0,(aJ (wrd ws (nk ws 0)) 1 9,aJ (wrd ws (nk ws 1)) 1 999,if eF (wrd ws (nk ws 2)).data.toList then (wrd ws (nk ws 2)) else ⟨#[]⟩),0,0,0,[],[],[]⟩,Y O 0 0,Y O 0 0,Y O 0 0,Y O 0 0,_,_,he,⟨World.ownsRow_nil _ _ _ _,World.ownsRow_nil _ _ _ _,World.ownsRow_nil _ _ _ _,World.ownsRow_nil _ _ _ _⟩,hR,K.1,fun d=>?_⟩
 obtain⟨⟨f,g,h,_⟩,b⟩:=K.2 d
 simp only[b 0 (by decide),b 1 (by decide),b 2 (by decide)]
 refine⟨⟨_,h0,rfl⟩,fun a=>by unfold qX at a;rw[h0] at a;exact absurd a (by decide),fun _=>?_,fun a=>by rw[h0] at a;simp at a⟩
 show (aJ (wrd ws 1) 1 9,aJ (wrd ws 2) 1 999,if eF (wrd ws 3).data.toList=true then wrd ws 3 else ⟨#[]⟩)=_
 rw[bV f,bV g,if_pos (show eF (wrd ws 3).data.toList=true from h)];rfl
theorem cl_m {w:World} {w':World} {br:Nat} {vw:Value} {ws:List ByteArray} {n:Int} {e:Ending} (h1:1≤ws.length) (h0:(ws.getD 0 Ze).toList=[109]) (he:e=Zr (.agg (pmC ⟨109,0,[],aJ (wrd ws (nxt ws (nxt ws 1))) 0 999,0,0,(aJ (wrd ws 1) 1 9,aJ (wrd ws (nxt ws 1)) 1 999,⟨#[114]⟩++tY (wrd ws (nxt ws (nxt ws (nxt ws 1))))),0,0,0,[],[],[]⟩ (Y O 0 0) (Y O 0 0) (Y O 0 0) (Y O 0 0)))) (hR:bG w w' br vw ws (nxt ws (nxt ws (nxt ws (nxt ws 1)))) n ((((false||!ay (wrd ws 1).data.toList 1 9)||!ay (wrd ws (nxt ws 1)).data.toList 1 999)||!ay (wrd ws (nxt ws (nxt ws 1))).data.toList 0 999)||!jr (wrd ws (nxt ws (nxt ws (nxt ws 1)))).data.toList)):fT w w' br vw ws n e:=by
 have c:bM (ws.getD 0 Ze)=⟨#[99,110,118,119]⟩:=by unfold bM;rw[h0];rfl
 have K:=kd0 (n:=n) ⟨#[99,110,118,119]⟩ [99,110,118,119] c rfl (by decide) (by decide) (by decide) h1
 refine⟨⟨109,0,[],aJ (wrd ws (nk ws 2)) 0 999,0,0,(aJ (wrd ws (nk ws 0)) 1 9,aJ (wrd ws (nk ws 1)) 1 999,(⟨#[114]⟩:ByteArray)++tY (wrd ws (nk ws 3))),0,0,0,[],[],[]⟩,Y O 0 0,Y O 0 0,Y O 0 0,Y O 0 0,_,_,he,⟨World.ownsRow_nil _ _ _ _,World.ownsRow_nil _ _ _ _,World.ownsRow_nil _ _ _ _,World.ownsRow_nil _ _ _ _⟩,hR,K.1,fun d=>?_⟩
 obtain⟨⟨f,g,h,i,_⟩,b⟩:=K.2 d
 simp only[b 0 (by decide),b 1 (by decide),b 2 (by decide),b 3 (by decide)]
 refine⟨⟨_,h0,rfl⟩,fun a=>by unfold qX at a;rw[h0] at a;exact absurd a (by decide),fun a=>by rw[h0] at a;simp at a,fun _=>?_⟩
 show aJ (wrd ws 3) 0 999=_∧(aJ (wrd ws 1) 1 9,aJ (wrd ws 2) 1 999,(⟨#[114]⟩:ByteArray)++tY (wrd ws 4))=_
 rw[bV f,bV g,bV h];unfold tY;rw[if_pos (show jr (wrd ws 4).data.toList=true from i)]
 exact⟨rfl,rfl⟩
theorem Iz {ws:List ByteArray} (h1:1≤ws.length) {s:ByteArray} (h:0<(bM s).size):s.size=1∧(s.toList=[113]∨s.toList=[109]∨qX s=true):=by
 have a:=IB h;have:s.toList.length=1:=by
  rcases a with a|a|a
  ·rw[a];rfl
  ·rw[a];rfl
  ·unfold qX at a;simp only[Bool.or_eq_true,beq_iff_eq] at a;rcases a with ((((((((a|a)|a)|a)|a)|a)|a)|a)|a)|a <;> (rw[a];rfl)
 rw[ByteArray.toList_eq] at this;exact⟨by simpa using this,a⟩
theorem PD {ws:List ByteArray} {n:Int} (h1:1≤ws.length) (hF:¬0<(bM (ws.getD 0 Ze)).size):mI ws n=false:=by
 unfold mI;have:decide (0<(bM (ws.getD 0 Ze)).size)=false:=decide_eq_false hF
 rw[this];rfl
theorem L9 {w:World} {w':World} {br:Nat} {vw:Value} {ws:List ByteArray} {n:Int} {e:Ending} (h1:1≤ws.length) {P:Pm} {vl vg vo vL:Value} {nx:Nat} (hF:¬0<(bM (ws.getD 0 Ze)).size) (he:e=Zr (.agg (pmC P vl vg vo vL))) (hO:xY w' (w.heap.size+2) P vl vg vo vL) (hR:bG w w' br vw ws nx n true):fT w w' br vw ws n e :=
 ⟨P,vl,vg,vo,vL,nx,true,he,hO,hR,by rw[PD h1 hF];simp,fun h=>by rw[PD h1 hF] at h;simp at h⟩
end
theorem Ka (b:UInt8):gy b≤4:=by unfold gy;(repeat' split) <;> omega
theorem ask_size {op:ByteArray} {n:Int} (h:jX op.data.toList n=true):op.size≤6:=by
 rw[yN,Bool.or_eq_true,Bool.and_eq_true] at h;rcases h with h|h
 ·unfold eF at h;simp only[Bool.and_eq_true,beq_iff_eq] at h;have a:=Ka (op.data.toList.getD 0 0);have b:=h.2.2;have:op.size=op.data.toList.length:=by simp
  omega
 ·have:=(mY h.2).2
  have e:(op.extract 1 op.size).size=op.size-1:=by simp
  omega
theorem Pp {e:ByteArray} {n:Int} (h:eX e n=true):iZ n (iB e n):=by
 have d:=h
 unfold iB;rw[if_pos h];unfold eX zB at h
 split at h
 ·rename_i p0 p1 p2 hc;have c:opB e=p2:=by unfold opB;rw[hc];rfl
  simp only[Bool.and_eq_true] at h;have a:=dW h.1.1;have b:=dW h.1.2;rw[hc,c];exact⟨a.1,a.2,b.1,b.2,h.2,by have:=ask_size h.2;show p2.size≤10;omega⟩
 ·cases h
theorem NP {l:List ByteArray} {n:Int} (h:∀ e∈l,eX e n=true):∀ e∈gP l n,iZ n e:=by
 intro e he;unfold gP at he;obtain⟨x,hx,rfl⟩:=List.mem_map.1 he
 exact Pp (h x hx)
theorem yP {s:ByteArray} {n:Int} (h:bK s.data.toList n=true):fG n (dN s):=by
 have:=rZ s n
 unfold gJ at this
 rwa [if_pos h] at this
theorem IY {s:ByteArray} {n:Int} (h:bK s.data.toList n=true∨s.toList=[45]):fG n (J9 s):=by
 unfold J9
 split
 ·exact fG.nil n
 ·rename_i q;rcases h with h|h
  ·exact yP h
  ·rw[h] at q;exact absurd rfl q
theorem Dj {n:Int} {ws:List ByteArray} {P:Pm} (hM:oL n ws P) {x:UInt8} (hx:P.kind=x.toNat):(ws.getD 0 Ze).toList=[x]:=by
 obtain⟨b,h1,h2⟩:=hM.kind
 rw[h1];have:b.toNat=x.toNat:=by omega
 rw[UInt8.toNat_inj.1 this]
theorem OD {s:ByteArray} {n:Int} {P:Pm} (hw:aZ s n≠[]) (hn:n≤7) (hM:oL n (aZ s n) P):Rp.MOk n P:=by
 obtain⟨b,D,B⟩:=hM.kind
 refine⟨fun o=>?_,fun o=>?_⟩
 ·rcases o with o|o
  ·have y:=Dj hM (x:=113) o;obtain⟨_,_,_,E,F,G⟩:=O8 hw y
   have e:=hM.q y;have b1:=dW E;have H:=dW F;have R:((aZ s n).getD 3 Ze).size≤6:=ask_size (n:=n) (by rw[yN,G];rfl)
   exact⟨by rw[e];exact b1,by rw[e];exact H,by rw[e];show ((aZ s n).getD 3 Ze).size≤10;omega,fun _=>by rw[e];exact G⟩
  ·have y:=Dj hM (x:=109) o;obtain⟨_,_,_,E,F,G,K⟩:=O7 hw y
   have e:=(hM.m y).2;have b1:=dW E;have H:=dW F;unfold jr at K;simp only[Bool.and_eq_true,decide_eq_true_eq] at K;have R:=K.2.2;refine⟨by rw[e];exact b1,by rw[e];exact H,?_,fun q=>by rw[o] at q;exact absurd q (by decide)⟩
   rw[e]
   show ((⟨#[114]⟩:ByteArray)++(aZ s n).getD 4 Ze).size≤10
   rw[ByteArray.size_append];have:((aZ s n).getD 4 Ze).size=((aZ s n).getD 4 Ze).data.toList.length:=by simp
   have C:(⟨#[114]⟩:ByteArray).size=1:=rfl
   omega
 ·have N:=sQ hw;have t:qX ((aZ s n).getD 0 Ze)=true:=by
   rcases IB (k:=(aZ s n).getD 0 Ze) (by rw[N.2.1];exact N.2.2.1) with q|q|q
   ·rw[D] at q;have:b=113:=by simpa using q
    rw[this] at B;exact absurd (.inl B) o
   ·rw[D] at q;have:b=109:=by simpa using q
    rw[this] at B;exact absurd (.inr B) o
   ·exact q
  obtain⟨g,j⟩:=Ik hw hn t
  have f:=hM.rep t;have L:(gF (aZ s n)).kind=(aZ s n).getD 0 Ze:=rfl
  have i:∀ x:UInt8,P.kind=x.toNat→(gF (aZ s n)).kind.toList=[x]:=fun x S=>by rw[L];exact Dj hM S
  have M:b.toNat<128:=by
   unfold qX at t;rw[D] at t;simp only[Bool.or_eq_true,beq_iff_eq,List.cons.injEq,and_true] at t;rcases t with ((((((((h|h)|h)|h)|h)|h)|h)|h)|h)|h <;> rw[h] <;> decide
  generalize gF (aZ s n)=m at *;refine⟨by omega,by omega,by rw[f.frm];exact g.f0,by rw[f.frm];exact g.f1,by rw[f.lives];exact g.ll,by rw[f.lives];exact g.lv,by rw[f.epoch];exact g.e0,by rw[f.epoch];exact g.e1,by rw[f.view];exact g.v0,by rw[f.view];exact g.v1,?_,?_,?_,?_,?_,?_,?_,?_⟩
  ·rintro (q|q)
   ·have d:=i 112 q;obtain⟨Q,u,w⟩:=j.p d
    rw[(f.p d).1];exact⟨by unfold nmB;omega,Q.k1⟩
   ·have d:=i 107 q;obtain⟨Q,u,w⟩:=j.k d
    rw[f.k d];exact⟨u,w⟩
  ·intro q;have d:=i 112 q;rw[(f.p d).2.1];exact Pp (j.p d).2.1
  ·rintro (q|q)
   ·have d:=i 112 q;rw[(f.p d).2.2];exact⟨g.c0,g.c1⟩
   ·have d:=i 99 q;rw[f.c d];exact⟨g.c0,g.c1⟩
  ·intro q;have d:=i 118 q;rw[(f.v d).1];exact⟨(j.v d).n0,(j.v d).n1⟩
  ·intro q;have d:=i 97 q;rw[(f.a d).1];obtain⟨_,_,_,U,T⟩:=j.a d
   exact⟨by omega,T⟩
  ·rintro (q|q|q)
   ·have d:=i 118 q;obtain⟨_,r,z⟩:=f.v d
    rw[r,z];exact⟨g.c0,by have:=(j.v d).cl;simpa [gP] using this⟩
   ·have d:=i 115 q;obtain⟨_,_,r,z⟩:=f.s d
    rw[r,z];exact⟨g.c0,by have:=(j.s d).1.c1;simpa [gP] using this⟩
   ·have d:=i 97 q;obtain⟨_,_,_,r,z⟩:=f.a d
    rw[r,z];exact⟨g.c0,by have:=(j.a d).1.c1;simpa [gP] using this⟩
  ·have A:∀ l,l=gP m.log n→l.length≤10∧∀ e∈l,iZ n e:=fun l A=>by
    rw[A];exact⟨by have:=g.log.len;simpa [gP] using this,NP g.le⟩
   rintro (q|q|q)
   ·exact A _ (f.v (i 118 q)).2.2
   ·exact A _ (f.s (i 115 q)).2.2.2
   ·exact A _ (f.a (i 97 q)).2.2.2.2
  ·rintro (q|q)
   ·have d:=i 115 q;obtain⟨_,u,w⟩:=j.s d
    obtain⟨C,r,_,_⟩:=f.s d
    rw[C,r];exact⟨yP u,IY w⟩
   ·have d:=i 97 q;obtain⟨_,u,w,_⟩:=j.a d
    obtain⟨_,C,r,_,_⟩:=f.a d
    rw[C,r];exact⟨yP u,IY w⟩
def Rp.mk0 (id n:Int) (lives:List Int) (st:Int) (g:List Int):Rp:=⟨id,n,lives,st,0,0,0,g,[],[],0,sv0,jW,[],[],st0,[]⟩
def Rp.new (id n:Int) (g:List Int):Rp:=Rp.mk0 id n (cZ n.toNat) (if gW g id then 1 else 4) g
def Rp.restart (id n life:Int):Rp:=Rp.mk0 id n ((cZ n.toNat).set id.toNat life) 3 []
def v0 (vl vg:Value):Rv:=⟨vl,vg,Y O 0 0,Y O 0 0,Y O 0 0,Y O 0 0,Y O 0 0⟩
def nH (R:Rp) (V:Rv):Array Value:=(kM R V++(svC R.sv++gM R V)).toArray
theorem au.fresh {w:World} {b bl:Nat} {F:List Nat} {id n st:Int} {lives g:List Int} {vl vg:Value} (hb:w.heap[b]? = some (.cells (nH (Rp.mk0 id n lives st g) (v0 vl vg)) 63 (0,0))) (hl:oM w vl bl lives) (hg:Ints w vg g) (hs:Sl [b,bl] (b :: bl :: F) vg) (hF:∀ x∈F,x<w.heap.size) (hT:Tab w) (h0:0∉b :: bl :: F) :
    au w b bl [b,bl] (b :: bl :: F) (Rp.mk0 id n lives st g) (v0 vl vg) :=
  ⟨⟨hb, rfl, rfl, by intro x a; have := List.eq_of_mem_replicate a; omega⟩, rfl, rfl, hl, World.ownsRow_nil _ _ _ _, mU.nil _ _, hg, gL _, Pms.nil _ _ _, Pms.nil _ _ _, hs, Sl.nil _ _, by simp, by simp, In.nil _ _ _, In.nil _ _ _, by intro x a; simp at a ⊢; rcases a with a | a <;> simp [a],
   fun x a=>by
    simp at a
    rcases a with rfl|rfl|a
    · exact lt_of_block hb
    · exact hl.lt
    · exact hF x a,hT,h0⟩
theorem rF (id n:Int) (w:World):Calls Tryz.prog 14 #[I J id,I J n] w fun e w'=>e=Zr (.bool (decide (3≤n∧n≤7∧0≤id∧id<n)))∧w'=w:=by
 obtain⟨r,c⟩:∃ r,r=decide (3≤n∧n≤7∧0≤id∧id<n):=⟨_,rfl⟩
 rw[← c];have b:=ah c;clear c;by_cases d:3≤n
 ·by_cases f:n≤7
  ·by_cases g:0≤id
   ·by_cases h:id<n
    ·have a:Hid (r=true):=b.out.trans (decide_eq_true ⟨d,f,g,h⟩)
     go_enter Tryz.func14,Tryz.ntmps14;go_wp2;go_ret;exact⟨bC a.out.symm,rfl⟩
    ·have a:Hid (r=false):=b.out.trans (decide_eq_false (fun q=>h q.2.2.2))
     go_enter Tryz.func14,Tryz.ntmps14;go_wp2;go_ret;exact⟨bC a.out.symm,rfl⟩
   ·have a:Hid (r=false):=b.out.trans (decide_eq_false (fun q=>g q.2.2.1))
    go_enter Tryz.func14,Tryz.ntmps14;go_wp2;go_ret;exact⟨bC a.out.symm,rfl⟩
  ·have a:Hid (r=false):=b.out.trans (decide_eq_false (fun q=>f q.2.1))
   go_enter Tryz.func14,Tryz.ntmps14;go_wp2;go_ret;exact⟨bC a.out.symm,rfl⟩
 ·have a:Hid (r=false):=b.out.trans (decide_eq_false (fun q=>d q.1))
  go_enter Tryz.func14,Tryz.ntmps14;go_wp2;go_ret;exact⟨bC a.out.symm,rfl⟩
def CQ (w w':World) (e:Ending) (R:Rp):Prop:=∃ b bl W F V,e=Zr (.tuple #[Zp (some ⟨b,0,O⟩),I J 0])∧au w' b bl W F R V∧V.vt=Y O 0 0∧(∀ x∈F,w.heap.size≤x)∧Below w.heap.size w w'
theorem H9 (id n:Int) (s:ByteArray) (w:World) (hs:s.size≤maxLen) (hn:3≤n∧n≤7∧0≤id∧id<n) (hg:bK s.data.toList n=false) :
  Calls Tryz.prog 8 #[I J id,I J n,Z s] w fun e w'=>e=Zr (.tuple #[Zp O,I J 1])∧Below w.heap.size w w':=by
 have f:=ah (rF id n w);rw[decide_eq_true hn] at f;have h:=ah (fun w=>sF s n w hs)
 have i:Hid (bK s.data.toList n=false):=hg
 have j:=fun w a n c=>Lib.run_eql_slice_nil (P:=Tryz.prog) w 44 3 a n c 0 0 Tryz.underlying44
 clear hg hn;go_enter Tryz.func8,Tryz.ntmps8;go_wp2_with fail;refine f.out.mono ?_;rintro e w' ⟨rfl,b⟩;subst b;go_wp2_with fail;refine (h.out _).mono ?_;rintro e k ⟨l,rfl,_,g,d⟩;have:=g.2 i.out
 subst this;clear g;go_wp2;go_ret2;exact⟨rfl,d⟩
theorem Ca {s:ByteArray} {n:Int} (h:bK s.data.toList n=true):gJ s n=dN s∧0<(dN s).length∧(dN s).length≤5:=by
 have q:=mY h;exact⟨by unfold gJ;rw[if_pos h],by rw[kF];exact q.1,by rw[kF];exact q.2⟩
theorem ow (id n:Int) (s:ByteArray) (w:World) (hT:Tab w) (hs:s.size≤maxLen) (hn:3≤n∧n≤7∧0≤id∧id<n) (hg:bK s.data.toList n=true) (h0:0<w.heap.size) :
  Calls Tryz.prog 8 #[I J id,I J n,Z s] w fun e w'=>CQ w w' e (Rp.new id n (dN s)):=by
 have HO:=ah (rF id n w);rw[decide_eq_true hn] at HO;obtain⟨b,N⟩:∃ m:Nat,n=m:=⟨n.toNat,by omega⟩
 subst N;obtain⟨g1,g2,g3⟩:=Ca hg
 have HG:Hid (∀ w,Calls Tryz.prog 15 #[Z s,I J (b:Int)] w fun e w'=>∃ v,e=Zr v∧w'.ownsRow w.heap.size 3 1 v (dN s).length ((dN s).map (Value.int .i64))∧Below w.heap.size w w'):=fun w=>(sF s b w hs).mono (fun e w' q=>by
  obtain⟨v,q1,q2,_,q4⟩:=q
  rw[g1] at q2;exact⟨v,q1,q2,q4⟩)
 have ai:=fun w a n c=>Lib.run_eql_slice_nil (P:=Tryz.prog) w 44 3 a n c 0 0 Tryz.underlying44
 have Q:=Cj (b:Int) (by omega) (by omega)
 rw[Int.toNat_natCast] at Q;have r:Hid (Rp.new id b (dN s)=if gW (dN s) id then Rp.mk0 id b (cZ b) 1 (dN s) else Rp.mk0 id b (cZ b) 4 (dN s)):=by unfold Hid Rp.new;rw[Int.toNat_natCast];split <;> rfl
 have R:Hid (Ok (Rp.mk0 id b (cZ b) 4 (dN s))):=by
  have M:(cZ b).length=b:=by simp[cZ]
  exact⟨hn.1,hn.2.1,hn.2.2.1,hn.2.2.2,by show ((cZ b).length:Int)=b;rw[M],fun x u=>by have:=List.eq_of_mem_replicate u;subst this;omega,by show (1:Int)≤4∧(4:Int)≤5;omega,by show (0:Int)≤0∧(0:Int)≤10;omega,by show (0:Int)≤0∧(0:Int)≤999;omega,by show (0:Int)≤0∧(0:Int)≤999;omega,yP hg,fG.nil _,Nat.zero_le _,(by intro e he;cases he),Nat.le_refl _,(by intro m hm;cases hm),List.nodup_nil,(by intro m hm;cases hm),List.nodup_nil⟩
 clear hg g1 hs;go_enter Tryz.func8,Tryz.ntmps8;go_wp2_with fail;refine HO.out.mono ?_;rintro e w' ⟨rfl,T⟩;subst T;obtain⟨w,Hw⟩:∃ x,x=w':=⟨_,rfl⟩
 subst Hw;go_wp2_with fail;refine (HG.out _).mono ?_;rintro e d ⟨v1,rfl,y,h⟩;rcases y.2 with ⟨rfl,h3⟩|⟨g,f,ak,rfl,al,B,U,V,W,X⟩
 ·omega
 have C:Ints d (Y (some ⟨g,0,O⟩) (dN s).length f) (dN s):=Rd.bX y
 have ad:=lt_of_block B;clear B U V W X y;have z:Below d.heap.size d (d.alloc (.cells (iY b) 3)):=(Below.refl _ d).alloc (Nat.le_refl _) _
 have D:oM (d.alloc (.cells (iY b) 3)) (Y (some ⟨d.heap.size,0,O⟩) b b) d.heap.size (cZ b):=Cq d b (by omega)
 go_upto_region 7 with fail
 have M:((((Tryz.zeroCells63.setIfInBounds 0 (I J id)).setIfInBounds 1 (I J (b:Int))).setIfInBounds 2 (Y (some ⟨d.heap.size,0,O⟩) b b)).setIfInBounds 7 (Y (some ⟨g,0,O⟩) (dN s).length f)).setIfInBounds 3 (I J 4)=nH (Rp.mk0 id b (cZ b) 4 (dN s)) (v0 (Y (some ⟨d.heap.size,0,O⟩) b b) (Y (some ⟨g,0,O⟩) (dN s).length f)):=rfl
 rw[M];have aa:(d.alloc (.cells (iY b) 3)).heap.size=d.heap.size+1:=by simp
 have i:=heap_alloc_new (d.alloc (.cells (iY b) 3)) (.cells (nH (Rp.mk0 id b (cZ b) 4 (dN s)) (v0 (Y (some ⟨d.heap.size,0,O⟩) b b) (Y (some ⟨g,0,O⟩) (dN s).length f))) 63);rw[aa] at i;have j:Below d.heap.size d ((d.alloc (.cells (iY b) 3)).alloc (.cells (nH (Rp.mk0 id b (cZ b) 4 (dN s)) (v0 (Y (some ⟨d.heap.size,0,O⟩) b b) (Y (some ⟨g,0,O⟩) (dN s).length f))) 63)):=z.alloc z.size _
 have t:=D.kp (S:=[]) (Kp.of_below ((Below.refl _ _).alloc (Nat.le_refl _) (.cells (nH (Rp.mk0 id b (cZ b) 4 (dN s)) (v0 (Y (some ⟨d.heap.size,0,O⟩) b b) (Y (some ⟨g,0,O⟩) (dN s).length f))) 63))) (by simp)
 have E:=C.below j;have G:=(hT.below h).below j;clear D z M C;generalize (d.alloc (.cells (iY b) 3)).alloc (.cells (nH (Rp.mk0 id b (cZ b) 4 (dN s)) (v0 (Y (some ⟨d.heap.size,0,O⟩) b b) (Y (some ⟨g,0,O⟩) (dN s).length f))) 63)=w2 at *;have ae:=h.size;have af:=j.size;have l:=au.fresh (F:=[g]) i t E ⟨fun k H hc=>by
  simp[Value.ownBlock] at H;subst H;simp at hc;omega,fun k H=>by simp[Value.ownBlock] at H;subst H;simp⟩ (fun x u=>by simp at u;subst u;omega) G (by simp;omega)
 have K:∀ x∈(d.heap.size+1) :: d.heap.size :: [g],w.heap.size≤x:=fun x u=>by
  simp at u;rcases u with rfl|rfl|rfl <;> omega
 have L:=ah K;have HB:=ah (h.trans (j.mono h.size));have o:=ah (mK l R.out id);have HR:=ah l;have ab:Hid ((Rp.mk0 id b (cZ b) 4 (dN s)).mem id=gW (dN s) id):=rfl
 have c3:=l.c3;have f3:=l.free 3;clear l K i t E G j h hT;rw[ab.out] at o;cases hm:gW (dN s) id
 ·rw[hm] at o r;go_wp2_with fail;refine o.out.mono ?_;rintro e w3 ⟨rfl,A⟩;subst A;go_wp2;go_ret2;exact⟨_,_,_,_,_,rfl,by rw[r.out];exact HR.out,rfl,L.out,HB.out⟩
 ·rw[hm] at o r;have HS:=ah (HR.out.jq 1);have ac:Hid (Below w.heap.size w (w2.setCell ⟨d.heap.size+1,3,O⟩ (I J 1))):=HB.out.setCell (p:=⟨d.heap.size+1,3,O⟩) (by show w.heap.size≤d.heap.size+1;omega) _
  go_wp2_with fail;refine o.out.mono ?_;rintro e w3 ⟨rfl,A⟩;subst A;go_wp2;go_ret2;exact⟨_,_,_,_,_,rfl,by rw[r.out];exact HS.out,rfl,L.out,ac.out⟩
theorem E8 (id n life:Int) (w:World) (hT:Tab w) (hn:3≤n∧n≤7∧0≤id∧id<n) (hl:1≤life∧life≤999) (h0:0<w.heap.size) :
  Calls Tryz.prog 64 #[I J id,I J n,I J life] w fun e w'=>CQ w w' e (Rp.restart id n life):=by
 have G:=ah (rF id n w);rw[decide_eq_true hn] at G;obtain⟨a,s⟩:∃ m:Nat,n=m:=⟨n.toNat,by omega⟩
 subst s;obtain⟨i,t⟩:∃ m:Nat,id=m:=⟨id.toNat,by omega⟩
 subst t;have u:=Cj (a:Int) (by omega) (by omega)
 rw[Int.toNat_natCast] at u;have y:Hid (Rp.restart i a life=Rp.mk0 i a ((cZ a).set i life) 3 []):=by unfold Hid Rp.restart;rw[Int.toNat_natCast,Int.toNat_natCast]
 have P:=hl.1;have Q:=hl.2;have R:(0:Int)≤(i:Int):=by omega
 have T:(i:Int)<(a:Int):=by omega
 go_enter Tryz.func64,Tryz.ntmps64;go_wp2_with fail;refine G.out.mono ?_;rintro e b ⟨rfl,z⟩;subst z;have h:Below b.heap.size b (b.alloc (.cells (iY a) 3)):=(Below.refl _ b).alloc (Nat.le_refl _) _
 have k:oM (b.alloc (.cells (iY a) 3)) (Y (some ⟨b.heap.size,0,O⟩) a a) b.heap.size (cZ a):=Cq b a (by omega)
 go_upto_region 4 with fail
 have H:(((Tryz.zeroCells63.setIfInBounds 0 (I J (i:Int))).setIfInBounds 1 (I J (a:Int))).setIfInBounds 2 (Y (some ⟨b.heap.size,0,O⟩) a a)).setIfInBounds 3 (I J 3)=nH (Rp.mk0 i a (cZ a) 3 []) (v0 (Y (some ⟨b.heap.size,0,O⟩) a a) (Y O 0 0)):=rfl
 rw[H];have A:(b.alloc (.cells (iY a) 3)).heap.size=b.heap.size+1:=by simp
 have c:=heap_alloc_new (b.alloc (.cells (iY a) 3)) (.cells (nH (Rp.mk0 i a (cZ a) 3 []) (v0 (Y (some ⟨b.heap.size,0,O⟩) a a) (Y O 0 0))) 63);rw[A] at c;have j:Below b.heap.size b ((b.alloc (.cells (iY a) 3)).alloc (.cells (nH (Rp.mk0 i a (cZ a) 3 []) (v0 (Y (some ⟨b.heap.size,0,O⟩) a a) (Y O 0 0))) 63)):=h.alloc h.size _
 have f:=k.kp (S:=[]) (Kp.of_below ((Below.refl _ _).alloc (Nat.le_refl _) (.cells (nH (Rp.mk0 i a (cZ a) 3 []) (v0 (Y (some ⟨b.heap.size,0,O⟩) a a) (Y O 0 0))) 63))) (by simp)
 have l:=hT.below j;clear k h H;generalize (b.alloc (.cells (iY a) 3)).alloc (.cells (nH (Rp.mk0 i a (cZ a) 3 []) (v0 (Y (some ⟨b.heap.size,0,O⟩) a a) (Y O 0 0))) 63)=B at *;have d:=au.fresh (F:=[]) c f (gL _) (Sl.nil _ _) (fun x r=>by cases r) l (by simp;omega)
 have o:∀ x∈(b.heap.size+1) :: b.heap.size :: [],b.heap.size≤x:=fun x r=>by
  simp at r;rcases r with rfl|rfl <;> omega
 have C:=ah o;have K:=ah (d.Jg i life);have D:Hid (Below b.heap.size b (B.setCell ⟨b.heap.size,i,O⟩ (I J life))):=j.setCell (p:=⟨b.heap.size,i,O⟩) (Nat.le_refl _) _
 have c2:B.cell? ⟨b.heap.size+1,2,O⟩=some (Y (some ⟨b.heap.size,0,O⟩) a a):=d.c2
 have L:(cZ a).length=a:=by simp[cZ]
 have q:=d.lives.rd;obtain⟨U,V,g,M,E⟩:=Ints.get q i (by show i<(cZ a).length;omega)
 simp only[Option.some.injEq,Addr.mk.injEq] at g;obtain⟨rfl,rfl,_⟩:=g
 simp only[Nat.zero_add] at E;have W:=d.lives.frozen i;obtain⟨X,N⟩:∃ v,B.cell? ⟨b.heap.size,i,O⟩=some (I J v):=⟨_,E⟩
 clear E;clear d o c f l j hT L q;go_wp2;go_ret2;exact⟨_,_,_,_,_,rfl,by rw[y.out];exact K.out,rfl,C.out,D.out⟩
theorem Na {c:UInt8} {a b:List UInt8} (h:c∉b):spl c (a++c :: b)=spl c a++[b]:=by
 unfold spl;have e:jG c ([],[]) (a++c :: b)=((jG c ([],[]) a).1++[(jG c ([],[]) a).2],b):=by
  have d:jG c ([],[]) (a++c :: b)=jG c (wh c (jG c ([],[]) a) c) b:=by
   unfold jG;rw[List.foldl_append,List.foldl_cons]
  rw[d];have f:wh c (jG c ([],[]) a) c=((jG c ([],[]) a).1++[(jG c ([],[]) a).2],[]):=by unfold wh;rw[if_pos (by simp)]
  rw[f,DY h];simp
 rw[e]
theorem Lj {a b:ByteArray} {c:UInt8} (h:c∉b.data.toList):bU (a++⟨#[c]⟩++b) c.toNat=bU a c.toNat++[b]:=by
 apply xD
 rw[qN,List.map_append,qN];have:(a++⟨#[c]⟩++b).data.toList=a.data.toList++c :: b.data.toList:=by simp[ByteArray.data_append]
 rw[this,Na h]
 rfl
theorem zu {l:List ByteArray} {c:UInt8} (h:∀ t∈l,c∉t.data.toList):∀ k,1≤k→k≤l.length→bU (fO l ⟨#[c]⟩ k) c.toNat=l.take k
 | 0,h1,_=>by omega
 | k+1,_,h2=>by
  have hk:k<l.length:=by omega
  have e:l.getD k Ze=l[k]:=by rw[List.getD_eq_getElem?_getD,List.getElem?_eq_getElem hk];rfl
  have b:=h _ (List.getElem_mem hk);unfold fO;rw[e,List.take_succ_eq_append_getElem hk];by_cases a:0<k
  ·rw[if_pos a,Lj b,zu h k a (by omega)]
  ·rw[if_neg a];have:k=0:=by omega
   subst this;have d:fO l ⟨#[c]⟩ 0++l[0]=l[0]:=by apply bytes_inj;simp[fO,ByteArray.data_append]
   rw[d,uL b]
   rfl
theorem fK {a b:ByteArray} (h:(32:UInt8)∉a.data.toList):bU (a++SP++b) 32=a :: bU b 32:=by
 have:=@BO a b 32 h;exact this
theorem uN {a:ByteArray} (h:(32:UInt8)∉a.data.toList):bU a 32=[a]:=by
 have:=@uL a 32 h;exact this
theorem jY (x:Int):(32:UInt8)∉(dg x).data.toList:=zx x (.inl (by decide))
theorem P8 {n:Int} {e:En} (h:iZ n e):ay (dg e.1).data.toList 1 9=true∧ay (dg e.2.1).data.toList 1 999=true:=by
 obtain⟨a,b,c,d,_⟩:=h
 unfold ay;rw[iq (by omega) (by omega),iq (by omega) (by omega)]
 simp only[Bool.and_eq_true,decide_eq_true_eq];omega
theorem Ej {n:Int} {e:En} (h:iZ n e):iB (iM e) n=e∧eX (iM e) n=true:=by
 obtain⟨d,f⟩:=P8 h
 obtain⟨g,c⟩:=Lu d f h.2.2.2.2.1
 refine⟨?_,c⟩
 unfold iB;have a:eX (iM e) n=true:=c
 have b:bU (iM e) 46=[dg e.1,dg e.2.1,e.2.2]:=g
 rw[if_pos a];unfold opB;rw[b]
 show (aH (dg e.1).data.toList,aH (dg e.2.1).data.toList,e.2.2)=e
 obtain⟨i,j,k,l,_⟩:=h
 rw[iq (by omega) (by omega),iq (by omega) (by omega)]
theorem Gf {n:Int} {e:En} (h:iZ n e) {c:UInt8} (hc:c.toNat<46):c∉(iM e).data.toList:=by
 have a:(iM e).data.toList=(dg e.1).data.toList++[46]++(dg e.2.1).data.toList++[46]++e.2.2.data.toList:=by
  unfold iM;simp[ByteArray.data_append,DOT]
 rw[a];simp only[List.mem_append,List.mem_cons,List.not_mem_nil,or_false,not_or];refine⟨⟨⟨⟨zx _ (.inl (by omega)),?_⟩,zx _ (.inl (by omega))⟩,?_⟩,fun b=>?_⟩
 ·rintro rfl;revert hc;decide
 ·rintro rfl;revert hc;decide
 ·have:=F7 h.2.2.2.2.1 c b;omega
theorem Lv {n:Int} {e:En} (h:iZ n e):(47:UInt8)∉(iM e).data.toList:=by
 have a:(iM e).data.toList=(dg e.1).data.toList++[46]++(dg e.2.1).data.toList++[46]++e.2.2.data.toList:=by
  unfold iM;simp[ByteArray.data_append,DOT]
 rw[a];simp only[List.mem_append,List.mem_cons,List.not_mem_nil,or_false,not_or];refine⟨⟨⟨⟨zx _ (.inl (by decide)),by decide⟩,zx _ (.inl (by decide))⟩,by decide⟩,fun b=>?_⟩
 have:=F7 h.2.2.2.2.1 47 b
 revert this;decide
theorem Hf {n:Int} {l:List En} (h:∀ e∈l,iZ n e):(32:UInt8)∉(iN l).data.toList:=by
 unfold iN
 split
 ·decide
 ·unfold qC;refine BZ (fun t a=>?_) (by decide) _
  obtain⟨e,b,rfl⟩:=List.mem_map.1 a
  exact Gf (h e b) (by decide)
theorem zX {n:Int} {l:List En} (h:∀ e∈l,iZ n e):gP (nC (iN l)) n=l:=by
 unfold iN;by_cases b:l.length=0
 ·rw[if_pos b];have:l=[]:=List.length_eq_zero_iff.1 b
  subst this;unfold nC;rw[if_pos (by rw[ByteArray.toList_eq];rfl)]
  rfl
 ·rw[if_neg b];have a:bU (qC (l.map iM) SLASH) 47=l.map iM:=by
   have:=zu (l:=l.map iM) (c:=47) (fun t j=>by
    obtain⟨e,d,rfl⟩:=List.mem_map.1 j
    exact Lv (h e d)) (l.map iM).length (by simp;omega) (Nat.le_refl _)
   rw[List.take_length] at this;exact this
  have f:¬((qC (l.map iM) SLASH).toList==[45])=true:=fun g=>by
   have k:qC (l.map iM) SLASH=⟨#[45]⟩:=by
    apply bytes_inj
    rw[ByteArray.toList_eq] at g
    simpa using g
   rw[k] at a;have m:bU ⟨#[45]⟩ 47=[⟨#[45]⟩]:=by have:=@uL ⟨#[45]⟩ 47 (by decide);exact this
   rw[m] at a;cases l with
   | nil=>simp at b
   | cons x r =>
    simp only[List.map_cons,List.cons.injEq] at a;have i:=Gf (h x (by simp)) (c:=45) (by decide)
    rw[← a.1] at i;exact i (by decide)
  unfold nC;rw[if_neg f,a];unfold gP;rw[List.map_map]
  conv=>rhs;rw[← List.map_id l]
  exact List.map_congr_left fun e d=>(Ej (h e d)).1
theorem dg_1 {x:Int} (h0:0≤x) (h1:x<10):(dg x).data.toList=[UInt8.ofNat (48+x.toNat)]:=by
 unfold dg
 show (jI x.toNat)=_
 rw[uS (by omega)]
theorem zi (l:List Int) (h:∀ x∈l,0≤x∧x<10):∀ k,k≤l.length→(kP l k).data.toList=(l.take k).map (fun x=>UInt8.ofNat (48+x.toNat))
 | 0,_=>by simp[kP]
 | k+1,hk=>by
  have hk':k<l.length:=by omega
  have e:l.getD k 0=l[k]:=by rw[List.getD_eq_getElem?_getD,List.getElem?_eq_getElem hk'];rfl
  have a:=h _ (List.getElem_mem hk');unfold kP;rw[ByteArray.data_append,Array.toList_append,zi l h k (by omega),e,dg_1 a.1 a.2,List.take_succ_eq_append_getElem hk',List.map_append]
  rfl
theorem uK {l:List Int} (h:∀ x∈l,0≤x∧x<10):(lC l).data.toList=l.map (fun x=>UInt8.ofNat (48+x.toNat)):=by
 unfold lC;rw[zi l h _ (Nat.le_refl _),List.take_length]
theorem Ec {l:List Int} (h:∀ x∈l,0≤x∧x<10):dN (lC l)=l:=by
 unfold dN;rw[uK h,List.map_map]
 conv=>rhs;rw[← List.map_id l]
 refine List.map_congr_left fun x a=>?_
 have b:=h x a;have:=Mf x.toNat (by omega)
 rw[uS (by omega)] at this
 show aH [UInt8.ofNat (48+x.toNat)]=x
 rw[this];omega
theorem Ga {l:List Int} (h:∀ x∈l,0≤x∧x<10):(32:UInt8)∉(lC l).data.toList:=by
 rw[uK h];intro hm;obtain⟨x,a,e⟩:=List.mem_map.1 hm
 have b:=h x a;have:=u8n x.toNat (by omega)
 rw[e] at this;have q:(32:UInt8).toNat=32:=rfl
 omega
theorem Mi {l:List Int} (h:∀ x∈l,0≤x∧x<10):(32:UInt8)∉(mh l).data.toList:=by
 unfold mh
 split
 ·decide
 ·exact Ga h
theorem Nt (P:Pm) (w:ByteArray) (hr:jm P.kind P.place P.ent P.commit P.normal P.life P.grp P.old P.log=SP++w) :
  fQ P=mJ P.kind++SP++(dg P.frm++SP++(iC P.lives++SP++(dg P.epoch++SP++(dg P.view++SP++w)))):=by
 unfold fQ;rw[hr];apply bytes_inj
 simp[ByteArray.data_append,SP]
theorem O9 (P:Pm) (hr:jm P.kind P.place P.ent P.commit P.normal P.life P.grp P.old P.log=⟨#[]⟩) :
  fQ P=mJ P.kind++SP++(dg P.frm++SP++(iC P.lives++SP++(dg P.epoch++SP++dg P.view))):=by
 unfold fQ;rw[hr];apply bytes_inj
 simp[ByteArray.data_append,SP]
theorem Mr {k:Int} (h:k=112∨k=107∨k=99∨k=104∨k=103∨k=114∨k=116∨k=118∨k=115∨k=97):(32:UInt8)∉(mJ k).data.toList:=by
 rcases h with rfl|rfl|rfl|rfl|rfl|rfl|rfl|rfl|rfl|rfl <;> decide
theorem mO (P:Pm) (hk:RK P.kind) (w:ByteArray) (hr:jm P.kind P.place P.ent P.commit P.normal P.life P.grp P.old P.log=SP++w) :
  bU (fQ P) 32=mJ P.kind :: dg P.frm :: iC P.lives :: dg P.epoch :: dg P.view :: bU w 32:=by
 rw[Nt P w hr,fK (Mr hk),fK (jY _),fK (EJ _),fK (jY _),fK (jY _)]
theorem pU (P:Pm) (hk:RK P.kind) (hr:jm P.kind P.place P.ent P.commit P.normal P.life P.grp P.old P.log=⟨#[]⟩) :
  bU (fQ P) 32=[mJ P.kind,dg P.frm,iC P.lives,dg P.epoch,dg P.view]:=by
 rw[O9 P hr,fK (Mr hk),fK (jY _),fK (EJ _),fK (jY _),uN (jY _)]
theorem su {n:Int} (hn:n≤7) {g:List Int} (h:fG n g):∀ x∈g,0≤x∧x<10:=fun x hx=>by have:=h.2 x hx;omega
theorem wQ:∀ (l:List ku) (k:Nat) (h:k<l.length),(bT l)[6*k]? = some (I J l[k].e.1)∧(bT l)[6*k+1]? = some (I J l[k].e.2.1)∧(bT l)[6*k+2]? = some (Z l[k].e.2.2)∧(bT l)[6*k+3]? = some (Z l[k].text)∧(bT l)[6*k+4]? = some (I J l[k].floor)∧(bT l)[6*k+5]? = some (.bool l[k].bad)
 | a :: l,0,_=>⟨rfl,rfl,rfl,rfl,rfl,rfl⟩
 | a :: l,k+1,h=>by
  have:=wQ l k (by simpa using h)
  simp only[List.getElem_cons_succ];exact this
theorem oK:∀ a b:List ku,bT (a++b)=bT a++bT b
 | [],_=>rfl
 | a :: l,b=>by have:=oK l b;simp[bT] at *;exact this
def kV (w:World) (v:Value) (l:List ku):Prop:=Rd w 6 v l.length (bT l)
theorem kV.get {w:World} {a:Option Addr} {n cap:Nat} {l:List ku} (h:kV w (Y a n cap) l) (k:Nat) (hk:k<l.length) :
  ∃ b off,a=some ⟨b,off,O⟩∧b<w.heap.size∧w.cell? ⟨b,off+k*6,O⟩=some (I J l[k].e.1)∧w.cell? ⟨b,off+k*6+1,O⟩=some (I J l[k].e.2.1)∧w.cell? ⟨b,off+k*6+2,O⟩=some (Z l[k].e.2.2)∧w.cell? ⟨b,off+k*6+3,O⟩=some (Z l[k].text)∧w.cell? ⟨b,off+k*6+4,O⟩=some (I J l[k].floor)∧w.cell? ⟨b,off+k*6+5,O⟩=some (.bool l[k].bad):=by
 obtain⟨g,i,j,m,o,p⟩:=wQ l k hk
 rcases h.2 with ⟨d,r⟩|⟨b,off,f,d,_,_,q,c⟩
 ·omega
 ·simp only[Value.slice.injEq] at d;obtain⟨rfl,rfl,rfl⟩:=d
  refine⟨b,off,rfl,q,?_,?_,?_,?_,?_,?_⟩
  ·have:=c _ _ g;rwa [show off+6*k=off+k*6 by omega] at this
  ·have:=c _ _ i;rwa [show off+(6*k+1)=off+k*6+1 by omega] at this
  ·have:=c _ _ j;rwa [show off+(6*k+2)=off+k*6+2 by omega] at this
  ·have:=c _ _ m;rwa [show off+(6*k+3)=off+k*6+3 by omega] at this
  ·have:=c _ _ o;rwa [show off+(6*k+4)=off+k*6+4 by omega] at this
  ·have:=c _ _ p;rwa [show off+(6*k+5)=off+k*6+5 by omega] at this
theorem kV.shape {w:World} {v:Value} {l:List ku} (h:kV w v l):∃ a cap,v=Y a l.length cap∧l.length≤cap∧cap≤9223372036854775807:=by
 obtain⟨a,cap,rfl,hn,hm,_⟩:=Rd.form h
 exact⟨a,cap,rfl,hn,by unfold maxLen at hm;omega⟩
theorem KAt.eW {N:Nat} {w:World} {g:Nat} {K:Kw} {V:Kv} (h:KAt N w g K V):kV w V.vW K.wishes:=Rd.bX h.rW
end Go.Proofs.YtinaollfjiddmaaGreatDoor
