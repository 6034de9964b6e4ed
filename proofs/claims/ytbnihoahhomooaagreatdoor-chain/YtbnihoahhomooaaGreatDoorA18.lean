import Derived.Test.YtbnihoahhomooaaGreatDoorA16
import Derived.Test.YtbnihoahhomooaaGreatDoorA17
set_option maxRecDepth 100000
set_option maxHeartbeats 8000000
set_option linter.all false
namespace Go.Proofs.YtbnihoahhomooaaGreatDoor
open Go.Value renaming int→I,slice→Y,string→Z,pointer→Zp
open Go.Ending renaming returned→Zr
open _root_.ByteArray renaming empty→Ze
open Go.IntKind renaming i64→J
open Option renaming none→O
open Go.RowKit
structure Fin (L:List En) (B:List Int) (R:Rp):Prop where
 dl:R.decided≤L.length
 dt:R.log.take R.decided=L.take R.decided
 bg:R.status=1→R.epoch≤B.getD R.id.toNat (-1)
theorem getD_take {l L:List En} {k d:Nat} (h:l.take k=L.take k) (hd:d<k):l.getD d en0=L.getD d en0:=by
 have e:(l.take k)[d]? = (L.take k)[d]?:=by rw[h]
 rw[List.getElem?_take_of_lt hd,List.getElem?_take_of_lt hd] at e;rw[List.getD_eq_getElem?_getD,List.getD_eq_getElem?_getD,e]
theorem oQ {l L:List En} {k d:Nat} (h:l.take k=L.take k) (hd:d≤k):l.take d=L.take d:=by
 have e:(l.take k).take d=(L.take k).take d:=by rw[h]
 rwa [List.take_take,List.take_take,Nat.min_eq_left hd] at e
theorem getD_at {l:List En} {d:Nat} (h:d<l.length):l.getD d en0=l[d]:=by
 rw[List.getD_eq_getElem?_getD,List.getElem?_eq_getElem h];rfl
theorem yD (l:List En) (k:Nat) (hk:k<l.length):svF (l.take (k+1))=lG (svF (l.take k)) l[k]:=by
 unfold svF;rw[List.take_succ_eq_append_getElem hk,List.foldl_append];rfl
theorem MF {L:List En} {d e:Nat} (hd:d<L.length) (hr:eT L[d]=true) (he:regs (L.take d)=e):gY L (e+1)=d+1:=by
 have s:=mU L d hd;rw[if_pos hr] at s;have le:e+1≤regs L:=by have:=iR L (d+1);omega
 obtain⟨i,h1,h2,h3⟩:=qX L (e+1) (by omega) le
 have q:=jI L (e+1) le;rw[h1] at q ⊢;rw[getD_at h2] at h3;have s2:=mU L i h2;rw[if_pos h3] at s2;rcases Nat.lt_trichotomy i d with a|a|a
 ·have:=l5 L (i:=i+1) (j:=d) (by omega);omega
 ·omega
 ·have:=l5 L (i:=d+1) (j:=i) (by omega);omega
namespace Rp
variable {r:Rp}
theorem Py (g:List Int):(r.turn g).log=r.log:=by unfold turn;dsimp only;split <;> rfl
theorem Ms (g:List Int):(r.turn g).decided=r.decided:=by unfold turn;dsimp only;split <;> rfl
theorem OB (g:List Int):(r.turn g).epoch=r.epoch+1:=by unfold turn;dsimp only;split <;> rfl
theorem tn_id (g:List Int):(r.turn g).id=r.id:=by unfold turn;dsimp only;split <;> rfl
theorem gG (e:En):(r.carried e).log=r.log:=by unfold carried;split <;> rfl
theorem fK (e:En):(r.carried e).decided=r.decided+1:=by unfold carried;split <;> rfl
theorem gK (e:En):(r.carried e).epoch=r.epoch:=by unfold carried;split <;> rfl
theorem xE (e:En):(r.carried e).status=r.status:=by unfold carried;split <;> rfl
theorem um:∀ (f:Nat) (r:Rp) (p:Int),(dZ f r p).log=r.log
 | 0,_,_=>rfl
 | f+1,r,p=>by
  unfold dZ
  split
  ·dsimp only
   split
   ·rw[Py,gG]
   ·rw[um,gG]
  ·rfl
theorem uj:∀ (f:Nat) (r:Rp) (p:Int),r.decided≤(dZ f r p).decided
 | 0,_,_=>Nat.le_refl _
 | f+1,r,p=>by
  unfold dZ
  split
  ·dsimp only
   split
   ·rw[Ms,fK];omega
   ·have:=uj f (r.carried (r.log.getD r.decided (0,0,⟨#[]⟩))) p
    rw[fK] at this;omega
  ·exact Nat.le_refl _
theorem o8:∀ (f:Nat) (r:Rp) (p:Int),(regs (r.log.take p.toNat):Int)≤r.epoch→(dZ f r p).epoch=r.epoch∧(dZ f r p).status=r.status
 | 0,_,_,_=>⟨rfl,rfl⟩
 | f+1,r,p,h=>by
  unfold dZ
  split
  ·rename_i q;dsimp only;have m:=l5 r.log (i:=r.decided+1) (j:=p.toNat) (by omega)
   rw[if_neg (by unfold turns;rw[gK,gG,fK];simp;intro;omega)]
   have:=o8 f (r.carried (r.log.getD r.decided (0,0,⟨#[]⟩))) p (by rw[gG,gK];exact h)
   rw[gK,xE] at this;exact this
  ·exact⟨rfl,rfl⟩
end Rp
section
variable {L:List En} {T:Wt} {G:List ByteArray} {B:List Int} {r r1:Rp}
theorem xD (c:Cs L T G B r r1) {d':Nat} (hd:r1.decided<r1.log.length) (h1:r1.decided<d') (h2:d'≤L.length) (h3:r1.log.take d'=L.take d') :
  ∀ o∈(r1.carried (r1.log.getD r1.decided (0,0,⟨#[]⟩))).out,o∈r.out∨OI L T G B r.n r.id o:=by
 have e:=getD_take h3 h1;unfold Rp.carried
 split
 ·intro o ho;rcases List.mem_append.1 ho with q|q
  ·exact c.out o q
  ·simp only[List.mem_cons,List.not_mem_nil,or_false] at q;subst q;refine .inr (.inr (.inl ⟨r1.decided,by omega,?_,?_⟩))
   ·rw[← e]
   ·rw[← e,← oQ h3 (by omega:r1.decided≤d'),← c.sv]
 ·exact c.out
theorem Cs.turned (hG:GI L G r.n) (c:Cs L T G B r r1) (hs:r1.status=1∨r1.status=2∨r1.status=5) (hd:r1.decided<r1.log.length) (h2:r1.decided+1≤L.length) (h3:r1.log.take (r1.decided+1)=L.take (r1.decided+1))
  (ht:(r1.carried (r1.log.getD r1.decided (0,0,⟨#[]⟩))).turns (r1.log.getD r1.decided (0,0,⟨#[]⟩))=true)
  (hb:((r1.carried (r1.log.getD r1.decided (0,0,⟨#[]⟩))).turn (Rp.qh (r1.log.getD r1.decided (0,0,⟨#[]⟩)) r1.n)).status=1→r1.epoch+1≤B.getD r.id.toNat (-1)) :
  Cs L T G B r ((r1.carried (r1.log.getD r1.decided (0,0,⟨#[]⟩))).turn (Rp.qh (r1.log.getD r1.decided (0,0,⟨#[]⟩)) r1.n)):=by
 have hso:r1.status≠3:=by omega
 have dr:=c.dr hso;have lg:=c.ri.lg hs;have hout:=xD c hd (d':=r1.decided+1) (by omega) h2 h3
 have hgd:=Rp.kr c.ok hd (r1.log.getD r1.decided (0,0,⟨#[]⟩));have hsv:(r1.carried (r1.log.getD r1.decided (0,0,⟨#[]⟩))).sv=svF (r1.log.take (r1.decided+1)):=by
  rw[yD _ _ hd,← c.sv,← getD_at hd];unfold Rp.carried;split <;> rfl
 have hel:r1.log.getD r1.decided (0,0,⟨#[]⟩)=L.getD r1.decided en0:=getD_take h3 (by omega)
 have hLd:r1.decided<L.length:=by omega
 have hten:=Rp.AJ hgd.ok ht;unfold Rp.turns at ht;simp only[Bool.and_eq_true,decide_eq_true_eq,Rp.gK,Rp.gG,Rp.fK] at ht;obtain⟨hr,hlt⟩:=ht
 have s:=mU r1.log r1.decided hd;rw[← getD_at hd,if_pos hr] at s;have ep0:=c.ok.ep.1;have e1:regs (r1.log.take r1.decided)=r1.epoch.toNat:=by omega
 have hrL:eT L[r1.decided]=true:=by rw[← getD_at hLd,← hel];exact hr
 have e2:regs (L.take r1.decided)=r1.epoch.toNat:=by rw[← oQ h3 (by omega),e1]
 have e3:=MF hLd hrL e2;have e4:=hG.at hLd hrL;rw[e2] at e4;have e5:(r1.epoch+1).toNat=r1.epoch.toNat+1:=by omega
 have sL:=mU L r1.decided hLd;rw[if_pos hrL] at sL;have e6:r1.epoch+1≤regs L:=by have:=iR L (r1.decided+1);omega
 have e7:Rp.qh (r1.log.getD r1.decided (0,0,⟨#[]⟩)) r1.n=dA (G.getD (r1.epoch+1).toNat ⟨#[]⟩):=by
  unfold Rp.qh dz;rw[hel,getD_at hLd,← e4,← e5,if_pos];rw[c.n];exact hG.grp (by omega) e6
 have hl3:Lg L T (r1.epoch+1) r1.log:=⟨by omega,e6,by rw[e5,e3];omega,by rw[e5,e3];exact h3,by have:=lg.rg;omega,lg.jw,lg.pv⟩
 rw[e7] at hb ⊢;have hgk:fE (r1.carried (r1.log.getD r1.decided (0,0,⟨#[]⟩))).n (dA (G.getD (r1.epoch+1).toNat ⟨#[]⟩)):=by rw[← e7,hgd.n];exact rC _ _
 have ok3:=Rp.zX hgd.ok hten hgk;have hid:(r1.carried (r1.log.getD r1.decided (0,0,⟨#[]⟩))).id=r1.id:=hgd.id
 have ed:(r1.carried (r1.log.getD r1.decided (0,0,⟨#[]⟩))).epoch=r1.epoch:=Rp.gK _
 have el:(r1.carried (r1.log.getD r1.decided (0,0,⟨#[]⟩))).log=r1.log:=Rp.gG _
 have edd:(r1.carried (r1.log.getD r1.decided (0,0,⟨#[]⟩))).decided=r1.decided+1:=Rp.fK _
 have ean:(r1.carried (r1.log.getD r1.decided (0,0,⟨#[]⟩))).answers=r1.answers:=by unfold Rp.carried;split <;> rfl
 have en:(r1.carried (r1.log.getD r1.decided (0,0,⟨#[]⟩))).n=r1.n:=hgd.n
 generalize r1.carried (r1.log.getD r1.decided (0,0,⟨#[]⟩))=Q at *;generalize hgg:dA (G.getD (r1.epoch+1).toNat ⟨#[]⟩)=g at *;have hdr:(regs (Q.log.take Q.decided):Int)≤Q.epoch+1:=by rw[el,edd,ed];omega
 by_cases hm:iQ g Q.id=true
 ·have eq:Q.turn g=(({ ({ Q with old:=Q.grp,grp:=g,epoch:=Q.epoch+1 }:Rp).begin_ 0 with started:=st0 }:Rp).bS).bH:=by unfold Rp.turn;dsimp only;rw[if_pos hm]
  have c3:Cs L T G B r { ({ Q with old:=Q.grp,grp:=g,epoch:=Q.epoch+1 }:Rp).begin_ 0 with started:=st0 } :=
   ⟨ok3,en.trans c.n,hid.trans c.id,⟨by show Jw T Q.log∧∀ e∈Q.log,∃ y∈T,y.1=e;rw[el];exact c.ri.jl,fun a ha=>⟨(c.ri.an a (by rw[← ean];exact ha)).1,by show a.frm≠Q.id;rw[hid];exact (c.ri.an a (by rw[← ean];exact ha)).2⟩,fun v hv=>by simp[Rp.begin_] at hv,fun _=>⟨fun _=>.inl rfl,fun _=>hm⟩,fun _=>⟨by show Q.epoch+1≤_;rw[ed];exact e6,by show g=dA (G.getD (Q.epoch+1).toNat ⟨#[]⟩);rw[ed,hgg]⟩,fun _=>by show Lg L T (Q.epoch+1) Q.log;rw[ed,el];exact hl3,fun q=>by simp[Rp.begin_] at q⟩,by show Q.sv=svF (Q.log.take Q.decided);rw[el,edd];exact hsv,fun _=>hdr,hout⟩
  have hst:(Q.turn g).status=1:=by rw[eq];rfl
  rw[eq];exact (c3.bS (.inl rfl)).bH (by show Q.epoch+1≤_;rw[ed];exact hb hst)
 ·have eq:Q.turn g=({ ({ ({ Q with old:=Q.grp,grp:=g,epoch:=Q.epoch+1 }:Rp).begin_ 0 with started:=st0 }:Rp) with status:=5 }:Rp).bS:=by unfold Rp.turn;dsimp only;rw[if_neg hm]
  have c3:Cs L T G B r { ({ ({ Q with old:=Q.grp,grp:=g,epoch:=Q.epoch+1 }:Rp).begin_ 0 with started:=st0 }:Rp) with status:=5 } :=
   ⟨(Rp.iH ok3 (s:=5) (by decide)).ok,en.trans c.n,hid.trans c.id,⟨by show Jw T Q.log∧∀ e∈Q.log,∃ y∈T,y.1=e;rw[el];exact c.ri.jl,fun a ha=>⟨(c.ri.an a (by rw[← ean];exact ha)).1,by show a.frm≠Q.id;rw[hid];exact (c.ri.an a (by rw[← ean];exact ha)).2⟩,fun v hv=>by simp[Rp.begin_] at hv,fun _=>⟨fun q=>absurd q hm,fun q=>by simp at q⟩,fun _=>⟨by show Q.epoch+1≤_;rw[ed];exact e6,by show g=dA (G.getD (Q.epoch+1).toNat ⟨#[]⟩);rw[ed,hgg]⟩,fun _=>by show Lg L T (Q.epoch+1) Q.log;rw[ed,el];exact hl3,fun _ k hk=>by
    have:st0.getD k false=false:=by unfold st0;rw[List.getD_eq_getElem?_getD];cases hq:(List.replicate 7 false)[k]? with
     | none=>rfl
     | some v=>have:=List.mem_of_getElem? hq;rw[List.mem_replicate] at this;rw[this.2];rfl
    rw[show st0.getD k false=true from hk] at this;cases this⟩,by show Q.sv=svF (Q.log.take Q.decided);rw[el,edd];exact hsv,fun _=>hdr,hout⟩
  rw[eq];exact c3.bS (.inr (.inr rfl))
theorem yT (hG:GI L G r.n):∀ (f:Nat) (r1:Rp) (p:Int),Cs L T G B r r1→(r1.status=1∨r1.status=2∨r1.status=5)→Fin L B (Rp.dZ f r1 p)→Cs L T G B r (Rp.dZ f r1 p)
 | 0,_,_,c,_,_=>c
 | f+1,r1,p,c,hs,F=>by
  have fl:=Rp.um (f+1) r1 p;have dl:=F.dl;have dt:=F.dt;have bg:=F.bg;rw[fl] at dt;unfold Rp.dZ at F dl dt bg ⊢;by_cases q:(r1.decided:Int)<p∧r1.decided<r1.log.length
  ·rw[if_pos q] at F dl dt bg ⊢;dsimp only at F dl dt bg ⊢;by_cases ht:(r1.carried (r1.log.getD r1.decided (0,0,⟨#[]⟩))).turns (r1.log.getD r1.decided (0,0,⟨#[]⟩))=true
   ·rw[if_pos ht] at F dl dt bg ⊢;rw[Rp.Ms,Rp.fK] at dl dt;refine Cs.turned hG c hs q.2 dl dt ht fun h1=>?_
    have:=bg h1
    rw[Rp.OB,Rp.tn_id,Rp.gK] at this;have hid:(r1.carried (r1.log.getD r1.decided (0,0,⟨#[]⟩))).id=r.id:=(Rp.kr c.ok q.2 _).id.trans c.id
    rw[hid] at this;exact this
   ·rw[if_neg ht] at F dl dt bg ⊢;have ge:=Rp.uj f (r1.carried (r1.log.getD r1.decided (0,0,⟨#[]⟩))) p;rw[Rp.fK] at ge;have hout:=xD c q.2 (d':=(Rp.dZ f (r1.carried (r1.log.getD r1.decided (0,0,⟨#[]⟩))) p).decided) (by omega) dl dt
    have hgd:=Rp.kr c.ok q.2 (r1.log.getD r1.decided (0,0,⟨#[]⟩));have hsv:(r1.carried (r1.log.getD r1.decided (0,0,⟨#[]⟩))).sv=svF (r1.log.take (r1.decided+1)):=by
     rw[yD _ _ q.2,← c.sv,← getD_at q.2];unfold Rp.carried;split <;> rfl
    have hdr:=c.dr (by omega)
    have s:=mU r1.log r1.decided q.2;unfold Rp.turns at ht;simp only[Bool.and_eq_true,decide_eq_true_eq,Rp.gK,Rp.gG,Rp.fK] at ht;rw[← getD_at q.2] at s;refine yT hG f _ p ⟨hgd.ok,hgd.n.trans c.n,hgd.id.trans c.id,?_,?_,fun _=>?_,hout⟩ (by rw[Rp.xE];exact hs) F
    ·have h:=c.ri;unfold Rp.carried
     split
     ·exact⟨h.jl,h.an,h.vo,h.me,h.gp,h.lg,h.st⟩
     ·exact⟨h.jl,h.an,h.vo,h.me,h.gp,h.lg,h.st⟩
    ·unfold Rp.SvI;rw[hsv,Rp.gG,Rp.fK]
    ·rw[Rp.gG,Rp.fK,Rp.gK];by_cases hr:eT (r1.log.getD r1.decided (0,0,⟨#[]⟩))=true
     ·rw[if_pos hr] at s;have:¬r1.epoch<(regs (r1.log.take (r1.decided+1)):Int):=fun h=>ht ⟨hr,h⟩
      omega
     ·rw[if_neg hr] at s;omega
  ·rw[if_neg q];exact c
theorem Cs.decide (hG:GI L G r.n) (c:Cs L T G B r r1) (hs:r1.status=1∨r1.status=2∨r1.status=5) {p:Int} (F:Fin L B (r1.aT p)):Cs L T G B r (r1.aT p):=yT hG _ _ p c hs F
end
structure DL (L:List En) (r:Rp):Prop where
 dl:r.decided≤L.length
 dt:r.log.take r.decided=L.take r.decided
theorem Ie {L:List En} {r:Rp} {e:Int} (D:DL L r) (dr:(regs (r.log.take r.decided):Int)≤e) {l:List En} {d' d0:Nat} (h1:l.take d'=L.take d') (h2:d0≤d') (h3:d0≤r.decided):(regs (l.take d0):Int)≤e:=by
 rw[oQ h1 h2,← oQ D.dt h3];have:=l5 r.log h3
 omega
structure MIn (L:List En) (T:Wt) (G:List ByteArray) (B:List Int) (r:Rp) (m:Pm):Prop where
 ok:dQ r.n m
 mi:MI L T G B m
 ne:m.frm≠r.id
namespace Rp
variable {r:Rp}
theorem qA (k:Int):(r.bZ k).log=r.log:=by unfold bZ aT;rw[um];split <;> rfl
theorem sW (k:Int):r.decided≤(r.bZ k).decided:=by
 unfold bZ aT
 split
 ·exact uj _ _ _
 ·exact uj _ (r.ack r.iB) _
theorem MK (k:Int):(r.aT k).log=r.log:=um _ _ _
theorem OM (k:Int):r.decided≤(r.aT k).decided:=uj _ _ _
theorem J7 (v:Int):(r.want v).status=2∧(r.want v).epoch=r.epoch∧(r.want v).log=r.log∧(r.want v).decided=r.decided∧(r.want v).id=r.id∧(r.want v).n=r.n:=by
 unfold want oU
 split <;> exact⟨rfl,rfl,rfl,rfl,rfl,rfl⟩
end Rp
section
variable {L:List En} {T:Wt} {G:List ByteArray} {B:List Int} {r r1:Rp} {m:Pm}
theorem Cs.bZ (hG:GI L G r.n) (c:Cs L T G B r r1) (hs:r1.status=1∨r1.status=2) {k:Int} (F:Fin L B (r1.bZ k)):Cs L T G B r (r1.bZ k):=by
 unfold Rp.bZ at F ⊢;by_cases hp:r1.dG=true
 ·rw[if_pos hp] at F ⊢;exact c.decide hG (by omega) F
 ·rw[if_neg hp] at F ⊢;obtain⟨p1,p2,p3⟩:=c.iB hG hs (by simpa using hp)
  exact (c.ack p1 p2 p3).decide hG (show r1.status=1∨r1.status=2∨r1.status=5 by omega) F
theorem Cs.bX (c:Cs L T G B r r1) (hs:r1.status=1∨r1.status=2∨r1.status=5) (hi:MIn L T G B r m):Cs L T G B r (r1.bX m):=by
 unfold Rp.bX
 split
 ·exact c.tell hs hi.ok.f0 hi.ok.f1 hi.ne
 ·split
  ·rename_i q;exact c.kM hs (by have:=hi.ok.e0;omega) hi.ok.f0 hi.ok.f1 hi.ne
  ·split
   ·exact c.bare hi.ok.f0 hi.ok.f1 hi.ne (by omega)
   ·exact c
theorem Cs.count (hG:GI L G r.n) (c:Cs L T G B r r1) (D:DL L r1) (hs:r1.status=1∨r1.status=2) (hk:m.kind=118) (hi:MIn L T G B r m) (he:m.epoch=r1.epoch) (F:Fin L B (r1.count m)):Cs L T G B r (r1.count m):=by
 have okv:=Rp.oK c.ok hk (by rw[c.n];exact hi.ok)
 have hv:∀ v∈aQ r1.aI m,v.epoch=r1.epoch∧Lg L T v.epoch v.log:=fun v hv=>by
  rcases kR hv with rfl|q
  ·exact⟨he,hi.mi.v hk⟩
  ·exact c.ri.vo v q
 have c1:=c.aI okv hv;unfold Rp.count at F ⊢;dsimp only at F ⊢;by_cases hq:((aQ r1.aI m).length:Int)≤eZ r1.grp
 ·rw[if_pos hq];exact c1
 ·rw[if_neg hq] at F ⊢;have hne:aQ r1.aI m≠[]:=fun h0=>by
   unfold aQ at h0
   split at h0
   ·rename_i ha;rw[List.map_eq_nil_iff] at h0;rw[h0] at ha;simp at ha
   ·simp at h0
  obtain⟨b,hb,hbe⟩:=Bz _ hne
  rw[hbe] at F ⊢;simp only[Option.getD_some] at F ⊢;obtain⟨b1,b2⟩:=hv b hb
  rw[b1] at b2;have bk:nZ r1.n b.log:=(okv.vo b hb).2.lg (.inl (okv.vo b hb).1)
  unfold Rp.counted at F ⊢;have hl:((((({ r1 with aI:=aQ r1.aI m }:Rp).over b.log).begin_ r1.view).bS).aT (cZ ((aQ r1.aI m).map (·.commit)))).log=b.log:=Rp.MK _
  have hge:min r1.decided b.log.length≤((((({ r1 with aI:=aQ r1.aI m }:Rp).over b.log).begin_ r1.view).bS).aT (cZ ((aQ r1.aI m).map (·.commit)))).decided:=Rp.OM (r:=((({ r1 with aI:=aQ r1.aI m }:Rp).over b.log).begin_ r1.view).bS) _
  have hd:=Ie D (c.dr (by omega)) (l:=b.log) (by have:=F.dt;rw[hl] at this;exact this) hge (Nat.min_le_left _ _)
  have c2:=c1.over (show r1.status=1∨r1.status=2∨r1.status=5 by omega) bk b2 hd
  have c3:=c2.begin (v:=r1.view) hs c.ok.vi;exact (c3.bS (.inl rfl)).decide hG (.inl rfl) F
theorem Cs.bY (hG:GI L G r.n) (c:Cs L T G B r r1) (D:DL L r1) (hs:r1.status=1∨r1.status=2) (hi:MIn L T G B r m) (he:m.epoch=r1.epoch) (F:Fin L B (r1.bY m)):Cs L T G B r (r1.bY m):=by
 unfold Rp.bY at F ⊢;by_cases hm:r1.mem m.frm=true
 ·rw[if_pos hm] at F ⊢;have cw:=c.want hG hs (v:=m.view) ⟨hi.ok.v0,hi.ok.v1⟩;obtain⟨w1,w2,w3,w4,w5,w6⟩:=Rp.J7 (r:=r1) m.view
  by_cases hq:((m.kind==118)&&(r1.want m.view).dG)=true
  ·rw[if_pos hq] at F ⊢;simp only[Bool.and_eq_true,beq_iff_eq] at hq;exact cw.count hG ⟨by rw[w4];exact D.dl,by rw[w3,w4];exact D.dt⟩ (.inr w1) hq.1 hi (by rw[w2];exact he) F
  ·rw[if_neg hq];exact cw
 ·rw[if_neg hm];exact c
theorem Cs.bC (hG:GI L G r.n) (c:Cs L T G B r r1) (D:DL L r1) (hs:r1.status=1∨r1.status=2) (hi:MIn L T G B r m) (he:m.epoch=r1.epoch) (F:Fin L B (r1.bC m)):Cs L T G B r (r1.bC m):=by
 unfold Rp.bC at F ⊢;by_cases hm:r1.mem m.frm=true
 ·rw[if_pos hm] at F ⊢;by_cases h1:m.kind=112∨m.kind=99
  ·rw[if_pos h1];exact c.bare hi.ok.f0 hi.ok.f1 hi.ne (by omega)
  ·rw[if_neg h1] at F ⊢;by_cases h2:m.kind=104
   ·rw[if_pos h2];exact c.dP hG hs
   ·rw[if_neg h2] at F ⊢;by_cases h3:m.kind=118∧r1.dG=true
    ·rw[if_pos h3] at F ⊢;exact c.count hG D hs h3.1 hi he F
    ·rw[if_neg h3];exact c
 ·rw[if_neg hm];exact c
theorem Cs.aH (hG:GI L G r.n) (c:Cs L T G B r r1) (D:DL L r1) (hs:r1.status=1∨r1.status=2) (hk:m.kind=115) (hi:MIn L T G B r m) (he:m.epoch=r1.epoch) (F:Fin L B (r1.aH m)):Cs L T G B r (r1.aH m):=by
 have lk:nZ r1.n m.log:=by rw[c.n];exact Rp.lI hi.ok (.inr (.inl hk))
 obtain⟨lg,_,_⟩:=hi.mi.s (.inl hk)
 rw[he] at lg;unfold Rp.aH at F ⊢;by_cases h1:r1.view<m.view∨(m.view=r1.view∧r1.status=2)
 ·rw[if_pos h1] at F ⊢;have hl:(((r1.begin_ m.view).over m.log).bZ m.commit).log=m.log:=Rp.qA _
  have hge:min r1.decided m.log.length≤(((r1.begin_ m.view).over m.log).bZ m.commit).decided:=Rp.sW (r:=(r1.begin_ m.view).over m.log) _
  have hd:=Ie D (c.dr (by omega)) (l:=m.log) (by have:=F.dt;rw[hl] at this;exact this) hge (Nat.min_le_left _ _)
  have c1:=c.begin hs (v:=m.view) ⟨hi.ok.v0,hi.ok.v1⟩;exact (c1.over (.inl rfl) lk lg hd).bZ hG (.inl rfl) F
 ·rw[if_neg h1] at F ⊢;by_cases h2:m.view<r1.view
  ·rw[if_pos h2] at F ⊢
   split
   ·exact c.tell (by omega) hi.ok.f0 hi.ok.f1 hi.ne
   ·exact c
  ·rw[if_neg h2] at F ⊢;have h1s:r1.status=1:=by omega
   by_cases h3:r1.dG=false∧r1.log.length<m.log.length
   ·rw[if_pos h3] at F ⊢;have hl:((r1.over m.log).bZ m.commit).log=m.log:=Rp.qA _
    have hge:min r1.decided m.log.length≤((r1.over m.log).bZ m.commit).decided:=Rp.sW (r:=r1.over m.log) _
    have hd:=Ie D (c.dr (by omega)) (l:=m.log) (by have:=F.dt;rw[hl] at this;exact this) hge (Nat.min_le_left _ _)
    exact (c.over (by omega) lk lg hd).bZ hG hs F
   ·rw[if_neg h3] at F ⊢;by_cases h4:r1.mem m.frm=true
    ·rw[if_pos h4];exact c
    ·rw[if_neg h4] at F ⊢;have:=F.bg h1s
     exact c.bareT hi.ok.f0 hi.ok.f1 hi.ne (by rw[← c.id];exact this)
theorem Cs.BH (c:Cs L T G B r r1) (hk:m.kind=115∨m.kind=97) (hm:dQ r1.n m) (hi:MI L T G B m) (hmem:iQ m.grp r1.id=true) (hd:(regs (m.log.take (min r1.decided m.log.length)):Int)≤m.epoch):Cs L T G B r ((r1.enter m).over m.log):=by
 obtain⟨lg,gp,_⟩:=hi.s hk
 have ok1:=Rp.jO c.ok hk hm;have ok2:=(Rp.fB ok1 (l:=m.log) (Rp.lI hm (by rcases hk with q|q;exact .inr (.inl q);exact .inr (.inr q)))).ok
 exact⟨ok2,c.n,c.id,⟨⟨lg.jw,lg.pv⟩,c.ri.an,fun v hv=>by simp[Rp.over,Rp.enter,Rp.begin_] at hv,fun _=>⟨fun _=>.inl rfl,fun _=>hmem⟩,fun _=>⟨lg.le,gp⟩,fun _=>lg,fun q=>by simp[Rp.over,Rp.enter,Rp.begin_] at q⟩,rfl,fun _=>hd,c.out⟩
theorem Cs.away (c:Cs L T G B r r1) (hk:m.kind=115∨m.kind=97) (hm:dQ r1.n m) (hi:MI L T G B m) (hmem:¬iQ m.grp r1.id=true) (hd:(regs (r1.log.take r1.decided):Int)≤m.epoch):Cs L T G B r { r1.enter m with status:=4 }:=by
 obtain⟨lg,gp,_⟩:=hi.s hk
 have ok1:=Rp.jO c.ok hk hm;exact⟨(Rp.iH ok1 (s:=4) (by decide)).ok,c.n,c.id,⟨c.ri.jl,c.ri.an,fun v hv=>by simp[Rp.enter,Rp.begin_] at hv,fun _=>⟨fun q=>absurd q hmem,fun q=>by simp at q⟩,fun _=>⟨lg.le,gp⟩,fun q=>by simp at q,fun q=>by simp at q⟩,c.sv,fun _=>hd,c.out⟩
theorem Pv (k:Nat):st0.getD k false=false:=by
 unfold st0;rw[List.getD_eq_getElem?_getD];cases hq:(List.replicate 7 false)[k]? with
 | none=>rfl
 | some v=>have:=List.mem_of_getElem? hq;rw[List.mem_replicate] at this;rw[this.2];rfl
theorem Cs.bK (hG:GI L G r.n) (c:Cs L T G B r r1) (D:DL L r1) (hs:r1.status≠3) (hk:m.kind=115) (hi:MIn L T G B r m) (he:r1.epoch<m.epoch) (F:Fin L B (r1.bK m)):Cs L T G B r (r1.bK m):=by
 have hm:dQ r1.n m:=by rw[c.n];exact hi.ok
 obtain⟨lg,gp,rc⟩:=hi.mi.s (.inl hk)
 have dr:=c.dr hs;unfold Rp.bK at F ⊢;by_cases h1:(r1.enter m).mem r1.id=true
 ·rw[if_pos h1] at F ⊢;have hl:((((r1.enter m).over m.log).bH).bZ m.commit).log=m.log:=Rp.qA _
  have hge:min r1.decided m.log.length≤((((r1.enter m).over m.log).bH).bZ m.commit).decided:=Rp.sW (r:=((r1.enter m).over m.log).bH) _
  have hd:=Ie D (e:=m.epoch) (by omega) (l:=m.log) (by have:=F.dt;rw[hl] at this;exact this) hge (Nat.min_le_left _ _)
  have c1:=c.BH (.inl hk) hm hi.mi h1 hd;have hq:((((r1.enter m).over m.log).bH).bZ m.commit).epoch=m.epoch∧((((r1.enter m).over m.log).bH).bZ m.commit).status=1:=by
   unfold Rp.bZ Rp.aT
   split
   ·exact Rp.o8 _ (((r1.enter m).over m.log).bH) _ rc
   ·exact Rp.o8 _ ((((r1.enter m).over m.log).bH).ack (((r1.enter m).over m.log).bH).iB) _ rc
  have hb:=F.bg hq.2;rw[hq.1] at hb;have hid:((((r1.enter m).over m.log).bH).bZ m.commit).id=r.id:=(Rp.mD (c1.bH (B:=B) (by
   have e1:((((r1.enter m).over m.log).bH).bZ m.commit).id=r1.id:=by
    have k:=Rp.mD (r:=((r1.enter m).over m.log).bH) c1.ok m.commit;exact k.id
   rw[e1,c.id] at hb;exact hb)).ok m.commit).id.trans c.id
  rw[hid] at hb;exact (c1.bH hb).bZ hG (.inl rfl) F
 ·rw[if_neg h1] at F ⊢;by_cases h2:r1.jB m=true
  ·rw[if_pos h2] at F ⊢;unfold Rp.leave at F ⊢;have he1:1≤m.epoch:=by have:=c.ok.ep.1;omega
   obtain⟨u1,u2,u3⟩:=lg.upto he1
   have lk:nZ r1.n m.log:=Rp.lI hm (.inr (.inl hk))
   have ok1:=Rp.jO c.ok (.inl hk) hm;have ok0:Ok (r1.enter m).leave0:=⟨ok1.n3,ok1.n7,ok1.i0,ok1.i1,ok1.ll,ok1.lb,by simp[Rp.leave0],ok1.ep,by simp[Rp.leave0],by simp[Rp.leave0],ok1.g,ok1.o,ok1.lg,ok1.le,ok1.dc,ok1.vo,ok1.vn,ok1.an,ok1.nn⟩
   have ok2:=(Rp.fB ok0 (l:=dW m.log m.epoch) (lk.upto _)).ok;have c1:Cs L T G B r ((r1.enter m).leave0.over (dW m.log m.epoch)) :=
    ⟨ok2,c.n,c.id,⟨⟨u2.jw,u2.pv⟩,c.ri.an,fun v hv=>by simp[Rp.over,Rp.leave0,Rp.enter,Rp.begin_] at hv,fun _=>⟨fun q=>absurd q h1,fun q=>by simp[Rp.over,Rp.leave0] at q⟩,fun _=>⟨lg.le,gp⟩,fun _=>u2,fun _ k hq=>by
     have:=Pv k
     rw[show st0.getD k false=true from hq] at this;cases this⟩,rfl,fun _=>by
      have q1:=iR (dW m.log m.epoch) (min r1.decided (dW m.log m.epoch).length)
      show (regs ((dW m.log m.epoch).take (min r1.decided (dW m.log m.epoch).length)):Int)≤m.epoch
      omega,c.out⟩
   have Fd:Fin L B (((r1.enter m).leave0.over (dW m.log m.epoch)).aT m.commit):=⟨F.dl,F.dt,F.bg⟩
   have c2:=c1.decide hG (.inr (.inr rfl)) Fd;have hq:=Rp.o8 ((dW m.log m.epoch).length-((r1.enter m).leave0.over (dW m.log m.epoch)).decided) ((r1.enter m).leave0.over (dW m.log m.epoch)) m.commit (by
    have q1:=iR (dW m.log m.epoch) m.commit.toNat
    show (regs ((dW m.log m.epoch).take m.commit.toNat):Int)≤m.epoch
    omega)
   exact c2.bS (.inr (.inr hq.2))
  ·rw[if_neg h2];exact c.away (.inl hk) hm hi.mi h1 (by omega)
theorem Cs.dY (hG:GI L G r.n) (c:Cs L T G B r r1) (D:DL L r1) (hs:r1.status≠3) (hk:m.kind=115) (hi:MIn L T G B r m) (F:Fin L B (r1.dY m)):Cs L T G B r (r1.dY m):=by
 unfold Rp.dY at F ⊢;by_cases h1:r1.epoch<m.epoch
 ·rw[if_pos h1] at F ⊢;exact c.bK hG D hs hk hi h1 F
 ·rw[if_neg h1] at F ⊢;by_cases h2:r1.carries=true
  ·rw[if_pos h2] at F ⊢;have h2':r1.status=1∨r1.status=2:=by simpa [Rp.carries] using h2
   by_cases h3:m.epoch<r1.epoch
   ·rw[if_pos h3];exact c.bX (by omega) hi
   ·rw[if_neg h3] at F ⊢;exact c.aH hG D h2' hk hi (by omega) F
  ·rw[if_neg h2];exact c
theorem Cs.eB (c:Cs L T G B r r1) (hk:m.kind=116) (hi:MIn L T G B r m):Cs L T G B r (r1.eB m):=by
 unfold Rp.eB
 split
 ·rename_i q;simp only[Bool.and_eq_true,beq_iff_eq] at q;obtain⟨⟨q1,q2⟩,q3⟩:=q
  have h:=c.ok;have hst:∀ k:Nat,(r1.started.set m.frm.toNat true).getD k false=true→iQ r1.grp k=true∧r1.epoch≤B.getD k (-1):=fun k hk'=>by
   by_cases e:m.frm.toNat=k
   ·subst e;have e2:((m.frm.toNat:Nat):Int)=m.frm:=Int.toNat_of_nonneg hi.ok.f0
    refine⟨by rw[e2];exact q3,?_⟩
    rw[← q2];exact hi.mi.t hk
   ·rw[List.getD_eq_getElem?_getD,List.getElem?_set_ne e,← List.getD_eq_getElem?_getD] at hk';exact c.ri.st q1 k hk'
  have ok1:Ok { r1 with started:=r1.started.set m.frm.toNat true }:=⟨h.n3,h.n7,h.i0,h.i1,h.ll,h.lb,h.st,h.ep,h.vi,h.no,h.g,h.o,h.lg,h.le,h.dc,h.vo,h.vn,h.an,h.nn⟩
  dsimp only
  split
  ·exact⟨(Rp.iH ok1 (s:=4) (by decide)).ok,c.n,c.id,⟨c.ri.jl,c.ri.an,c.ri.vo,fun _=>⟨fun q=>by have:=(c.ri.me (by omega)).1 q;omega,fun q=>by simp at q⟩,fun _=>c.ri.gp (by omega),fun q=>by simp at q,fun q=>by simp at q⟩,c.sv,fun _=>c.dr (by omega),c.out⟩
  ·exact⟨ok1,c.n,c.id,⟨c.ri.jl,c.ri.an,c.ri.vo,c.ri.me,c.ri.gp,c.ri.lg,fun _=>hst⟩,c.sv,c.dr,c.out⟩
 ·exact c
theorem Cs.answer (c:Cs L T G B r r1) (hk:m.kind=114) (hi:MIn L T G B r m):Cs L T G B r (r1.answer m):=by
 unfold Rp.answer
 split
 ·rename_i q;have hs:r1.status=1:=by simpa using q
  have h:=c.ok;have hl:0≤m.lives.getD m.frm.toNat 0∧m.lives.getD m.frm.toNat 0≤999:=by
   by_cases hq:m.frm.toNat<m.lives.length
   ·rw[List.getD_eq_getElem?_getD,List.getElem?_eq_getElem hq];exact hi.ok.lb _ (List.getElem_mem hq)
   ·rw[List.getD_eq_getElem?_getD,List.getElem?_eq_none (by omega)];exact⟨by decide,by decide⟩
  obtain⟨s1,s2,s3⟩:=(c.zP (.inl hs)).s (.inl rfl)
  exact c.send hi.ok.f0 hi.ok.f1 hi.ne (c.pmk ⟨by simp,by simp,h.i0,h.i1,h.ll,h.lb,h.ep.1,h.ep.2,h.vi.1,h.vi.2,by simp,by simp,by simp,by simp,fun _=>hl,fun _=>⟨by simp[Rp.bf],by have:=h.dc;simp[Rp.bf];omega⟩,fun _=>⟨h.lg,h.le⟩,fun _=>⟨h.g,h.o⟩⟩) (by unfold RK;simp) c.id
   ⟨fun q=>by simp at q,fun q=>by simp at q,fun q=>by simp at q,fun _=>⟨s1,s2,s3⟩,fun q=>by simp at q,fun q=>by simp at q⟩
 ·exact c
theorem Cs.cK (c:Cs L T G B r r1) (hi:MIn L T G B r m):Cs L T G B r (r1.cK m):=by
 unfold Rp.cK
 split
 ·exact c.bare hi.ok.f0 hi.ok.f1 hi.ne (by omega)
 ·split
  ·rename_i q;simp only[Bool.and_eq_true,beq_iff_eq] at q;exact c.tell (.inr (.inr q.1.2)) hi.ok.f0 hi.ok.f1 hi.ne
  ·exact c
end
theorem II (l:List En):∀ k,k≤l.length→(svF (l.take k)).ses.length=9
 | 0,_=>by simp[svF,sv0]
 | k+1,h=>by
  rw[yD l k (by omega)]
  show ((svF (l.take k)).ses.set _ _).length=9
  rw[List.length_set];exact II l k (by omega)
theorem IB (l:List En) (c:Int) (h1:1≤c) (h9:c≤9) (hl:∀ e∈l,1≤e.1∧e.1≤9):∀ k,k≤l.length→(jL (svF (l.take k)) c).1=0∨∃ j,∃ h:j<l.length,j<k∧l[j].1=c∧jL (svF (l.take k)) c=(l[j].2.1,(doS (svF (l.take j)).vals l[j].2.2).2)
 | 0,_=>.inl (by
   unfold jL;rw[if_neg (by omega)]
   simp only[List.take_zero,svF,sv0,List.foldl_nil];rw[List.getD_eq_getElem?_getD,List.getElem?_replicate];split <;> rfl)
 | k+1,h=>by
  have ih:=IB l c h1 h9 hl k (by omega)
  have hk:k<l.length:=by omega
  have hs:=II l k (by omega)
  have hc:=hl _ (List.getElem_mem hk);have e:svF (l.take (k+1))=lG (svF (l.take k)) l[k]:=yD l k hk
  unfold jL at ih ⊢;rw[if_neg (by omega)] at ih ⊢
  rw[e];unfold lG yP;simp only
  by_cases hq:l[k].1=c
  ·refine .inr ⟨k,hk,by omega,hq,?_⟩
   rw[hq,List.getD_eq_getElem?_getD,List.getElem?_set_self (by omega)]
   rfl
  ·rw[List.getD_eq_getElem?_getD,List.getElem?_set_ne (by omega),← List.getD_eq_getElem?_getD]
   rcases ih with q|⟨j,hj,j1,j2,j3⟩
   ·exact .inl q
   ·exact .inr ⟨j,hj,by omega,j2,j3⟩
section
variable {L:List En} {T:Wt} {G:List ByteArray} {B:List Int} {r r1:Rp} {m:Pm}
theorem Cs.resume (hG:GI L G r.n) (c:Cs L T G B r r1) (hs:r1.status=3) (hz:Rp.RcI r1) (hk:m.kind=97) (hm:dQ r1.n m) (hi:MI L T G B m) (hne:m.frm≠r.id) (F:Fin L B (r1.resume m)):Cs L T G B r (r1.resume m):=by
 obtain⟨z1,z2,z3,z4⟩:=hz hs
 have oka:=Rp.mO c.ok (l:=[]) (by simp) (by simp)
 have ca:Cs L T G B r { r1 with answers:=[] }:=⟨oka,c.n,c.id,⟨c.ri.jl,fun a ha=>by simp at ha,c.ri.vo,c.ri.me,c.ri.gp,c.ri.lg,c.ri.st⟩,c.sv,c.dr,c.out⟩
 have he:0≤m.epoch:=hm.e0
 unfold Rp.resume at F ⊢;dsimp only at F ⊢;by_cases h1:({ r1.enter m with answers:=[] }:Rp).mem r1.id=true
 ·rw[if_pos h1] at F ⊢;have c1:Cs L T G B r (({ r1.enter m with answers:=[] }:Rp).over m.log):=ca.BH (.inr hk) hm hi h1 (by
   show (regs (m.log.take (min r1.decided m.log.length)):Int)≤m.epoch
   rw[z4];simp[regs];exact he)
  by_cases h2:(({ r1.enter m with answers:=[] }:Rp).over m.log).dG=true
  ·rw[if_pos h2] at F ⊢;exact c1.decide hG (.inl rfl) F
  ·rw[if_neg h2] at F ⊢;exact (c1.ack hm.f0 (by rw[← c.n];exact hm.f1) hne).decide hG (.inl rfl) F
 ·rw[if_neg h1];exact ca.away (.inr hk) hm hi h1 (by
   show (regs (r1.log.take r1.decided):Int)≤m.epoch
   rw[z4];simp[regs];exact he)
theorem Cs.dO (hG:GI L G r.n) (c:Cs L T G B r r1) (hs:r1.status=3) (hz:Rp.RcI r1) (hk:m.kind=97) (hi:MIn L T G B r m) (F:Fin L B (r1.dO m)):Cs L T G B r (r1.dO m):=by
 have hm:dQ r1.n m:=by rw[c.n];exact hi.ok
 unfold Rp.dO at F ⊢;by_cases h1:m.life=r1.lives.getD r1.id.toNat 0
 ·rw[if_pos h1] at F ⊢;dsimp only at F ⊢;have okj:=Rp.uQ c.ok hk hm;have hmi:∀ a∈aQ r1.answers m,MI L T G B a∧a.frm≠r.id:=fun a ha=>by
   rcases kR ha with rfl|q
   ·exact⟨hi.mi,hi.ne⟩
   ·exact⟨(c.ri.an a q).1,by rw[← c.id];exact (c.ri.an a q).2⟩
  have cj:Cs L T G B r { r1 with answers:=aQ r1.answers m }:=⟨okj,c.n,c.id,⟨c.ri.jl,fun a ha=>⟨(hmi a ha).1,by show a.frm≠r1.id;rw[c.id];exact (hmi a ha).2⟩,c.ri.vo,c.ri.me,c.ri.gp,c.ri.lg,c.ri.st⟩,c.sv,c.dr,c.out⟩
  cases hq:gP (aQ r1.answers m) with
  | none=>exact cj
  | some a =>
   rw[hq] at F;dsimp only at F ⊢;have ha:=Rp.nM hq;by_cases h2:(regs a.log:Int)≤a.epoch
   ·rw[if_pos h2] at F ⊢;exact cj.resume hG hs hz (okj.an a ha).1 (okj.an a ha).2 (hmi a ha).1 (hmi a ha).2 F
   ·rw[if_neg h2];exact cj
 ·rw[if_neg h1];exact c
theorem Cs.dK (hG:GI L G r.n) (c:Cs L T G B r r1) (hs:r1.status=1) (hk:m.kind=112) (hi:MIn L T G B r m) (he:m.epoch=r1.epoch) (F:Fin L B (r1.dK m)):Cs L T G B r (r1.dK m):=by
 have lg:=c.ri.lg (.inl hs);obtain⟨_,p1,p2,p3⟩:=hi.mi.p hk
 have hp:=hi.ok.pl (.inl hk);unfold Rp.dK at F ⊢;by_cases h1:m.frm=r1.iB
 ·rw[if_pos h1] at F ⊢;by_cases h2:(r1.log.length:Int)+1<m.place
  ·rw[if_pos h2];exact c.bare hi.ok.f0 hi.ok.f1 hi.ne (by omega)
  ·rw[if_neg h2] at F ⊢;by_cases h3:m.place=(r1.log.length:Int)+1
   ·rw[if_pos h3] at F ⊢;by_cases h4:r1.closing=true
    ·rw[if_pos h4];exact c
    ·rw[if_neg h4] at F ⊢;have hcl:(regs r1.log:Int)≤r1.epoch:=by
      unfold Rp.closing at h4;simp only[decide_eq_true_eq] at h4;omega
     have ln:=lg.ln;rw[he] at p3;have ok1:=Rp.qM c.ok (e:=m.ent) (by rw[c.n];exact hi.ok.en hk) (by omega)
     have hS:=lg.snoc hcl p2 (fun hr y hy hye=>by
      rcases p3 with q|q
      ·omega
      ·exact q hr y hy hye)
     have c1:Cs L T G B r { r1 with log:=r1.log++[m.ent] }:=⟨ok1,c.n,c.id,⟨⟨hS.jw,hS.pv⟩,c.ri.an,c.ri.vo,c.ri.me,c.ri.gp,fun _=>hS,c.ri.st⟩,by
       have:=c.sv
       unfold Rp.SvI at this ⊢;simp only
       rw[List.take_append_of_le_length c.ok.dc];exact this,fun q=>by
       have:=c.dr q
       simp only
       rw[List.take_append_of_le_length c.ok.dc];exact this,c.out⟩
     exact (c1.ack hi.ok.f0 hi.ok.f1 hi.ne).decide hG (.inl hs) F
   ·rw[if_neg h3] at F ⊢;exact (c.ack hi.ok.f0 hi.ok.f1 hi.ne).decide hG (.inl hs) F
 ·rw[if_neg h1];exact c
theorem Cs.dV (hG:GI L G r.n) (c:Cs L T G B r r1) (hs:r1.status=1) (hi:MIn L T G B r m) (F:Fin L B (r1.dV m)):Cs L T G B r (r1.dV m):=by
 unfold Rp.dV at F ⊢;by_cases h1:m.frm=r1.iB
 ·rw[if_pos h1] at F ⊢;by_cases h2:(r1.log.length:Int)<m.commit
  ·rw[if_pos h2];exact c.bare hi.ok.f0 hi.ok.f1 hi.ne (by omega)
  ·rw[if_neg h2] at F ⊢;exact c.decide hG (.inl hs) F
 ·rw[if_neg h1];exact c
theorem Cs.iw (hG:GI L G r.n) (c:Cs L T G B r r1) (hs:r1.status=1) (F:Fin L B (r1.iw m)):Cs L T G B r (r1.iw m):=by
 unfold Rp.iw at F ⊢;by_cases h1:r1.leads=true∧m.place≤(r1.log.length:Int)
 ·rw[if_pos h1] at F ⊢;have k:=Rp.rA c.ok m.frm.toNat m.place;have c1:Cs L T G B r (r1.eX m.frm.toNat m.place):=by
   have h:=c.ri;have hv:=c.sv;have hd:=c.dr;have ho:=c.out;unfold Rp.eX at k ⊢;by_cases hq:r1.acks.getD m.frm.toNat 0<m.place
   ·rw[if_pos hq] at k ⊢;exact⟨k.ok,k.n.trans c.n,k.id.trans c.id,⟨h.jl,h.an,h.vo,h.me,h.gp,h.lg,h.st⟩,hv,hd,ho⟩
   ·rw[if_neg hq];exact c
  have hs1:(r1.eX m.frm.toNat m.place).status=1:=by unfold Rp.eX;split <;> exact hs
  exact c1.decide hG (.inl hs1) F
 ·rw[if_neg h1];exact c
theorem Cs.bV (hG:GI L G r.n) (c:Cs L T G B r r1) (hs:r1.status=1) (hi:MIn L T G B r m) (he:m.epoch=r1.epoch) (F:Fin L B (r1.bV m)):Cs L T G B r (r1.bV m):=by
 unfold Rp.bV at F ⊢;by_cases h1:m.kind=103
 ·rw[if_pos h1];exact c.tell (.inl hs) hi.ok.f0 hi.ok.f1 hi.ne
 ·rw[if_neg h1] at F ⊢;by_cases h2:r1.mem m.frm=true
  ·rw[if_pos h2] at F ⊢;by_cases h3:m.kind=112
   ·rw[if_pos h3] at F ⊢;exact c.dK hG hs h3 hi he F
   ·rw[if_neg h3] at F ⊢;by_cases h4:m.kind=99
    ·rw[if_pos h4] at F ⊢;exact c.dV hG hs hi F
    ·rw[if_neg h4] at F ⊢;by_cases h5:m.kind=107
     ·rw[if_pos h5] at F ⊢;exact c.iw hG hs F
     ·rw[if_neg h5] at F ⊢;by_cases h6:m.kind=104∨m.kind=118
      ·rw[if_pos h6];exact c.tell (.inl hs) hi.ok.f0 hi.ok.f1 hi.ne
      ·rw[if_neg h6];exact c
  ·rw[if_neg h2];exact c
theorem Cs.bM (hG:GI L G r.n) (c:Cs L T G B r r1) (D:DL L r1) (hs:r1.status=1∨r1.status=2) (hi:MIn L T G B r m) (F:Fin L B (r1.bM m)):Cs L T G B r (r1.bM m):=by
 unfold Rp.bM at F ⊢;by_cases h1:m.epoch=r1.epoch∧m.view=r1.view
 ·rw[if_pos h1] at F ⊢;by_cases h2:r1.status=2
  ·rw[if_pos h2] at F ⊢;exact c.bC hG D hs hi h1.1 F
  ·rw[if_neg h2] at F ⊢;exact c.bV hG (by omega) hi h1.1 F
 ·rw[if_neg h1] at F ⊢;by_cases h2:m.epoch=r1.epoch∧r1.view<m.view
  ·rw[if_pos h2] at F ⊢;by_cases h3:Rp.qG m=true
   ·rw[if_pos h3] at F ⊢;exact c.bY hG D hs hi h2.1 F
   ·rw[if_neg h3];exact c.bare hi.ok.f0 hi.ok.f1 hi.ne (by omega)
  ·rw[if_neg h2] at F ⊢;by_cases h3:r1.epoch<m.epoch
   ·rw[if_pos h3];exact c.bare hi.ok.f0 hi.ok.f1 hi.ne (by omega)
   ·rw[if_neg h3];exact c.bX (by omega) hi
theorem Cs.bB (hG:GI L G r.n) (c:Cs L T G B r r1) (D:DL L r1) (hz:Rp.RcI r1) (hi:MIn L T G B r m) (F:Fin L B (r1.bB m)):Cs L T G B r (r1.bB m):=by
 have st:=c.ok.st;unfold Rp.bB at F ⊢;by_cases h1:r1.status=3
 ·rw[if_pos h1] at F ⊢;by_cases h2:m.kind=97
  ·rw[if_pos h2] at F ⊢;exact c.dO hG h1 hz h2 hi F
  ·rw[if_neg h2];exact c
 ·rw[if_neg h1] at F ⊢;by_cases h2:m.kind=115
  ·rw[if_pos h2] at F ⊢;exact c.dY hG D h1 h2 hi F
  ·rw[if_neg h2] at F ⊢;by_cases h3:m.kind=114
   ·rw[if_pos h3];exact c.answer h3 hi
   ·rw[if_neg h3] at F ⊢;by_cases h4:m.kind=116
    ·rw[if_pos h4];exact c.eB h4 hi
    ·rw[if_neg h4] at F ⊢;by_cases h5:m.kind=97
     ·rw[if_pos h5];exact c
     ·rw[if_neg h5] at F ⊢;by_cases h6:r1.status=4∨r1.status=5
      ·rw[if_pos h6];exact c.cK hi
      ·rw[if_neg h6] at F ⊢;exact c.bM hG D (by omega) hi F
theorem uK (l:List Int):∀ (is:List Nat) (r:Rp),∃ lv ak,is.foldl (Rp.iJ l) r={ r with lives:=lv,acks:=ak }
 | [],r=>⟨r.lives,r.acks,rfl⟩
 | i :: is,r=>by
  simp only[List.foldl_cons];unfold Rp.iJ
  split
  ·obtain⟨lv,ak,h⟩:=uK l is { r with lives:=r.lives.set i (l.getD i 0),acks:=r.acks.set i 0 }
   exact⟨lv,ak,h⟩
  ·exact uK l is r
theorem Cs.propose (c:Cs L T G B r r1) (hs:r1.status=1) (hk:m.kind=113∨m.kind=109) (hm:Rp.IU m) (hn:¬(m.kind=109∧Rp.eH m.ent r1.n=true)) (he:m.kind=109→m.epoch=r1.epoch) (hi:MI L T G B m):Cs L T G B r (r1.propose m.ent):=by
 have lg:=c.ri.lg (.inl hs);unfold Rp.propose
 split
 ·exact c
 ·rename_i q;have hcl:(regs r1.log:Int)≤r1.epoch:=by
   have:¬r1.closing=true:=fun h=>q (.inl h)
   unfold Rp.closing at this;simp only[decide_eq_true_eq] at this;omega
  have ok1:=Rp.qM c.ok (Rp.CF hm hk hn) (by omega)
  have hpv:∃ y∈T,y.1=m.ent:=by
   rcases hk with q|q
   ·exact (hi.q q).2
   ·exact (hi.m q).2.2.1
  have hS:=lg.snoc hcl hpv (fun hr y hy hye=>by
   rcases hk with q|q
   ·rw[(hi.q q).1] at hr;cases hr
   ·rw[← he q];exact (hi.m q).2.2.2 y hy hye)
  have c1:Cs L T G B r { r1 with log:=r1.log++[m.ent] }:=⟨ok1,c.n,c.id,⟨⟨hS.jw,hS.pv⟩,c.ri.an,c.ri.vo,c.ri.me,c.ri.gp,fun _=>hS,c.ri.st⟩,by
    have:=c.sv
    unfold Rp.SvI at this ⊢;simp only
    rw[List.take_append_of_le_length c.ok.dc];exact this,fun q=>by
    have:=c.dr q
    simp only
    rw[List.take_append_of_le_length c.ok.dc];exact this,c.out⟩
  exact c1.bF hs _
theorem Cs.bT (c:Cs L T G B r r1) (D:DL L r1) (hk:m.kind=113∨m.kind=109) (hm:Rp.IU m) (hi:MI L T G B m):Cs L T G B r (r1.bT m):=by
 unfold Rp.bT;by_cases h1:r1.leads=true
 ·rw[if_pos h1];have hs:r1.status=1:=by unfold Rp.leads at h1;simp only[Bool.and_eq_true,beq_iff_eq] at h1;exact h1.1
  by_cases h2:m.ent.2.1<r1.iP m.ent.1
  ·rw[if_pos h2];exact c
  ·rw[if_neg h2];by_cases h3:m.ent.2.1=r1.iP m.ent.1
   ·rw[if_pos h3];unfold Rp.gy
    split
    ·rename_i q;refine c.put1 (.inr (.inl ?_));have hcl:∀ e∈r1.log,1≤e.1∧e.1≤9:=fun e he=>⟨(c.ok.le e he).1,(c.ok.le e he).2.1⟩
     have dc:=c.ok.dc;have sv:=c.sv;unfold Rp.SvI at sv;rcases IB r1.log m.ent.1 hm.c.1 hm.c.2 hcl r1.decided dc with z|⟨j,hj,j1,j2,j3⟩
     ·rw[← sv,q] at z;have:=hm.n.1;omega
     ·rw[← sv] at j3;have e1:L.getD j en0=r1.log[j]:=by rw[← getD_take D.dt j1,getD_at hj]
      refine⟨j,by have:=D.dl;omega,?_,?_⟩
      ·rw[e1,j2]
      ·rw[e1,j2,← oQ D.dt (by omega:j≤r1.decided)]
       rw[j3] at q ⊢;simp only at q ⊢
       rw[q]
    ·exact c
   ·rw[if_neg h3];by_cases h4:m.kind=109∧r1.epoch<m.epoch
    ·rw[if_pos h4];exact c
    ·rw[if_neg h4];by_cases h5:m.kind=109∧(m.epoch<r1.epoch∨Rp.eH m.ent r1.n=true)
     ·rw[if_pos h5];obtain⟨a1,a0,a2,a3⟩:=hi.m h5.1
      refine c.put1 (.inr (.inr ⟨m.ent,rfl,rfl,a1,a2,?_⟩));rcases h5.2 with q|q
      ·exact .inr fun y hy hye=>⟨m.epoch,a0.1,a0.2,by have:=(c.ri.gp (by omega)).1;omega,a3 y hy hye⟩
      ·exact .inl (by rw[← c.n];exact q)
     ·rw[if_neg h5];exact c.propose hs hk hm (fun q=>h5 ⟨q.1,.inr q.2⟩) (fun q=>by
       have a:¬(r1.epoch<m.epoch):=fun z=>h4 ⟨q,z⟩
       have b:¬(m.epoch<r1.epoch):=fun z=>h5 ⟨q,.inl z⟩
       omega) hi
 ·rw[if_neg h1];exact c
theorem Cs.take (hG:GI L G r.n) (c:Cs L T G B r r) (D:DL L r) (hz:Rp.RcI r) (hm:Rp.MOk r.n m) (hi:MI L T G B m) (F:Fin L B (r.take m)):Cs L T G B r (r.take m):=by
 unfold Rp.take at F ⊢;by_cases h1:m.kind=113∨m.kind=109
 ·rw[if_pos h1];exact c.bT D h1 (hm.1 h1) hi
 ·rw[if_neg h1] at F ⊢;have hp:=hm.2 h1;by_cases h2:r.alive m=true
  ·rw[if_pos h2] at F ⊢;have k1:=Rp.uD c.ok hp.lb;have k2:=Rp.ru k1.ok;unfold Rp.alive at h2;simp only[Bool.and_eq_true,bne_iff_ne,ne_eq,decide_eq_true_eq] at h2;obtain⟨lv,ak,hl⟩:=uK m.lives (List.range r.n.toNat) r
   have hl':r.learn m.lives={ r with lives:=lv,acks:=ak }:=hl
   rw[hl'] at k1 k2 F ⊢;have h:=c.ri;have c1:Cs L T G B r (({ r with lives:=lv,acks:=ak }:Rp).pruned):=⟨k2.ok,rfl,rfl,⟨h.jl,fun a ha=>h.an a (mM ha),fun v hv=>h.vo v (mM hv),h.me,h.gp,h.lg,h.st⟩,c.sv,c.dr,c.out⟩
   exact c1.bB hG ⟨D.dl,D.dt⟩ hz ⟨hp,hi,h2.1⟩ F
  ·rw[if_neg h2];exact c
theorem Hq:∀ (is:List Nat) (r1:Rp),(∀ i∈is,(i:Int)<r.n)→Cs L T G B r r1→Cs L T G B r (is.foldl Rp.oW r1)
 | [],_,_,c=>c
 | i :: is,r1,hi,c=>by
  simp only[List.foldl_cons];refine Hq is _ (fun j hj=>hi j (List.mem_cons_of_mem _ hj)) ?_
  unfold Rp.oW
  split
  ·rename_i q;exact c.bare (by omega) (hi i (List.mem_cons_self)) (by rw[← c.id];simpa using q) (by omega)
  ·exact c
theorem Cs.lF (hG:GI L G r.n) (c:Cs L T G B r r):Cs L T G B r r.lF:=by
 unfold Rp.lF;by_cases h1:r.leads=true
 ·rw[if_pos h1];have hs:r.status=1:=by unfold Rp.leads at h1;simp only[Bool.and_eq_true,beq_iff_eq] at h1;exact h1.1
  exact c.iZ hs
 ·rw[if_neg h1];by_cases h2:r.status=2
  ·rw[if_pos h2];exact c.call.dP hG (.inr h2)
  ·rw[if_neg h2];by_cases h3:r.status=3
   ·rw[if_pos h3];exact Hq _ _ (fun i hi=>by have:=List.mem_range.1 hi;have:=c.ok.n3;omega) c
   ·rw[if_neg h3];by_cases h4:r.status=5
    ·rw[if_pos h4];exact c.bS (.inr (.inr h4))
    ·rw[if_neg h4];exact c
theorem Cs.suspect (hG:GI L G r.n) (c:Cs L T G B r r):Cs L T G B r r.suspect:=by
 unfold Rp.suspect
 split
 ·rename_i q;have:=c.ok.vi
  exact c.want hG (by simpa [Rp.carries] using q.1) (by omega)
 ·exact c
end
theorem Mf {c:UInt8} {a b:List UInt8} (h:c∉b):spl c (a++c :: b)=spl c a++[b]:=by
 unfold spl;have e:jm c ([],[]) (a++c :: b)=((jm c ([],[]) a).1++[(jm c ([],[]) a).2],b):=by
  have e1:jm c ([],[]) (a++c :: b)=jm c (vE c (jm c ([],[]) a) c) b:=by
   unfold jm;rw[List.foldl_append,List.foldl_cons]
  rw[e1];have e2:vE c (jm c ([],[]) a) c=((jm c ([],[]) a).1++[(jm c ([],[]) a).2],[]):=by unfold vE;rw[if_pos (by simp)]
  rw[e2,DC h];simp
 rw[e]
theorem Kt {a b:ByteArray} {c:UInt8} (h:c∉b.data.toList):bP (a++⟨#[c]⟩++b) c.toNat=bP a c.toNat++[b]:=by
 apply vX
 rw[qB,List.map_append,qB];have:(a++⟨#[c]⟩++b).data.toList=a.data.toList++c :: b.data.toList:=by simp[ByteArray.data_append]
 rw[this,Mf h]
 rfl
theorem DX {l:List ByteArray} {c:UInt8} (h:∀ t∈l,c∉t.data.toList):∀ k,1≤k→k≤l.length→bP (fG l ⟨#[c]⟩ k) c.toNat=l.take k
 | 0,h1,_=>by omega
 | k+1,_,h2=>by
  have hk:k<l.length:=by omega
  have e:l.getD k Ze=l[k]:=by rw[List.getD_eq_getElem?_getD,List.getElem?_eq_getElem hk];rfl
  have hm:=h _ (List.getElem_mem hk);unfold fG;rw[e,List.take_succ_eq_append_getElem hk];by_cases h0:0<k
  ·rw[if_pos h0,Kt hm,DX h k h0 (by omega)]
  ·rw[if_neg h0];have:k=0:=by omega
   subst this;have e2:fG l ⟨#[c]⟩ 0++l[0]=l[0]:=by apply bytes_inj;simp[fG,ByteArray.data_append]
   rw[e2,ug hm]
   rfl
theorem fF {a b:ByteArray} (h:(32:UInt8)∉a.data.toList):bP (a++SP++b) 32=a :: bP b 32:=by
 have:=@BA a b 32 h;exact this
theorem yV {a:ByteArray} (h:(32:UInt8)∉a.data.toList):bP a 32=[a]:=by
 have:=@ug a 32 h;exact this
theorem jV (x:Int):(32:UInt8)∉(dg x).data.toList:=BG x (.inl (by decide))
theorem OU {n:Int} {e:En} (h:jd n e):au (dg e.1).data.toList 1 9=true∧au (dg e.2.1).data.toList 1 999=true:=by
 obtain⟨h1,h2,h3,h4,_⟩:=h
 unfold au;rw[iD (by omega) (by omega),iD (by omega) (by omega)]
 simp only[Bool.and_eq_true,decide_eq_true_eq];omega
theorem D6 {n:Int} {e:En} (h:jd n e):dX (iA e) n=e∧dR (iA e) n=true:=by
 obtain⟨w1,w2⟩:=OU h
 obtain⟨j1,j2⟩:=KE w1 w2 h.2.2.2.2.1
 refine⟨?_,j2⟩
 unfold dX;have j2':dR (iA e) n=true:=j2
 have j1':bP (iA e) 46=[dg e.1,dg e.2.1,e.2.2]:=j1
 rw[if_pos j2'];unfold opB;rw[j1']
 show (aF (dg e.1).data.toList,aF (dg e.2.1).data.toList,e.2.2)=e
 obtain⟨h1,h2,h3,h4,_⟩:=h
 rw[iD (by omega) (by omega),iD (by omega) (by omega)]
theorem FC {n:Int} {e:En} (h:jd n e) {c:UInt8} (hc:c.toNat<46):c∉(iA e).data.toList:=by
 have e1:(iA e).data.toList=(dg e.1).data.toList++[46]++(dg e.2.1).data.toList++[46]++e.2.2.data.toList:=by
  unfold iA;simp[ByteArray.data_append,DOT]
 rw[e1];simp only[List.mem_append,List.mem_cons,List.not_mem_nil,or_false,not_or];refine⟨⟨⟨⟨BG _ (.inl (by omega)),?_⟩,BG _ (.inl (by omega))⟩,?_⟩,fun hm=>?_⟩
 ·rintro rfl;revert hc;decide
 ·rintro rfl;revert hc;decide
 ·have:=Fq h.2.2.2.2.1 c hm;omega
theorem KL {n:Int} {e:En} (h:jd n e):(47:UInt8)∉(iA e).data.toList:=by
 have e1:(iA e).data.toList=(dg e.1).data.toList++[46]++(dg e.2.1).data.toList++[46]++e.2.2.data.toList:=by
  unfold iA;simp[ByteArray.data_append,DOT]
 rw[e1];simp only[List.mem_append,List.mem_cons,List.not_mem_nil,or_false,not_or];refine⟨⟨⟨⟨BG _ (.inl (by decide)),by decide⟩,BG _ (.inl (by decide))⟩,by decide⟩,fun hm=>?_⟩
 have:=Fq h.2.2.2.2.1 47 hm
 revert this;decide
theorem Gv {n:Int} {l:List En} (h:∀ e∈l,jd n e):(32:UInt8)∉(fP l).data.toList:=by
 unfold fP
 split
 ·decide
 ·unfold qd;refine BM (fun t ht=>?_) (by decide) _
  obtain⟨e,he,rfl⟩:=List.mem_map.1 ht
  exact FC (h e he) (by decide)
theorem zO {n:Int} {l:List En} (h:∀ e∈l,jd n e):gH (lq (fP l)) n=l:=by
 unfold fP;by_cases h0:l.length=0
 ·rw[if_pos h0];have:l=[]:=List.length_eq_zero_iff.1 h0
  subst this;unfold lq;rw[if_pos (by rw[ByteArray.toList_eq];rfl)]
  rfl
 ·rw[if_neg h0];have hc:bP (qd (l.map iA) SLASH) 47=l.map iA:=by
   have:=DX (l:=l.map iA) (c:=47) (fun t ht=>by
    obtain⟨e,he,rfl⟩:=List.mem_map.1 ht
    exact KL (h e he)) (l.map iA).length (by simp;omega) (Nat.le_refl _)
   rw[List.take_length] at this;exact this
  have hne:¬((qd (l.map iA) SLASH).toList==[45])=true:=fun hq=>by
   have e1:qd (l.map iA) SLASH=⟨#[45]⟩:=by
    apply bytes_inj
    rw[ByteArray.toList_eq] at hq
    simpa using hq
   rw[e1] at hc;have e2:bP ⟨#[45]⟩ 47=[⟨#[45]⟩]:=by have:=@ug ⟨#[45]⟩ 47 (by decide);exact this
   rw[e2] at hc;cases l with
   | nil=>simp at h0
   | cons x r =>
    simp only[List.map_cons,List.cons.injEq] at hc;have hx:=FC (h x (by simp)) (c:=45) (by decide)
    rw[← hc.1] at hx;exact hx (by decide)
  unfold lq;rw[if_neg hne,hc];unfold gH;rw[List.map_map]
  conv=>rhs;rw[← List.map_id l]
  exact List.map_congr_left fun e he=>(D6 (h e he)).1
theorem dg_1 {x:Int} (h0:0≤x) (h1:x<10):(dg x).data.toList=[UInt8.ofNat (48+x.toNat)]:=by
 unfold dg
 show (jo x.toNat)=_
 rw[uq (by omega)]
theorem yQ (l:List Int) (h:∀ x∈l,0≤x∧x<10):∀ k,k≤l.length→(jU l k).data.toList=(l.take k).map (fun x=>UInt8.ofNat (48+x.toNat))
 | 0,_=>by simp[jU]
 | k+1,hk=>by
  have hk':k<l.length:=by omega
  have e:l.getD k 0=l[k]:=by rw[List.getD_eq_getElem?_getD,List.getElem?_eq_getElem hk'];rfl
  have hx:=h _ (List.getElem_mem hk');unfold jU;rw[ByteArray.data_append,Array.toList_append,yQ l h k (by omega),e,dg_1 hx.1 hx.2,List.take_succ_eq_append_getElem hk',List.map_append]
  rfl
theorem tZ {l:List Int} (h:∀ x∈l,0≤x∧x<10):(jJ l).data.toList=l.map (fun x=>UInt8.ofNat (48+x.toNat)):=by
 unfold jJ;rw[yQ l h _ (Nat.le_refl _),List.take_length]
theorem DU {l:List Int} (h:∀ x∈l,0≤x∧x<10):dA (jJ l)=l:=by
 unfold dA;rw[tZ h,List.map_map]
 conv=>rhs;rw[← List.map_id l]
 refine List.map_congr_left fun x hx=>?_
 have hb:=h x hx;have:=Ll x.toNat (by omega)
 rw[uq (by omega)] at this
 show aF [UInt8.ofNat (48+x.toNat)]=x
 rw[this];omega
theorem Fv {l:List Int} (h:∀ x∈l,0≤x∧x<10):(32:UInt8)∉(jJ l).data.toList:=by
 rw[tZ h];intro hm;obtain⟨x,hx,e⟩:=List.mem_map.1 hm
 have hb:=h x hx;have:=u8n x.toNat (by omega)
 rw[e] at this;have q:(32:UInt8).toNat=32:=rfl
 omega
theorem Ls {l:List Int} (h:∀ x∈l,0≤x∧x<10):(32:UInt8)∉(jP l).data.toList:=by
 unfold jP
 split
 ·decide
 ·exact Fv h
theorem Mx (P:Pm) (w:ByteArray) (hr:gU P.kind P.place P.ent P.commit P.normal P.life P.grp P.old P.log=SP++w) :
  gB P=jG P.kind++SP++(dg P.frm++SP++(gQ P.lives++SP++(dg P.epoch++SP++(dg P.view++SP++w)))):=by
 unfold gB;rw[hr];apply bytes_inj
 simp[ByteArray.data_append,SP]
theorem N8 (P:Pm) (hr:gU P.kind P.place P.ent P.commit P.normal P.life P.grp P.old P.log=⟨#[]⟩) :
  gB P=jG P.kind++SP++(dg P.frm++SP++(gQ P.lives++SP++(dg P.epoch++SP++dg P.view))):=by
 unfold gB;rw[hr];apply bytes_inj
 simp[ByteArray.data_append,SP]
theorem Lv {k:Int} (h:k=112∨k=107∨k=99∨k=104∨k=103∨k=114∨k=116∨k=118∨k=115∨k=97):(32:UInt8)∉(jG k).data.toList:=by
 rcases h with rfl|rfl|rfl|rfl|rfl|rfl|rfl|rfl|rfl|rfl <;> decide
theorem lX (P:Pm) (hk:RK P.kind) (w:ByteArray) (hr:gU P.kind P.place P.ent P.commit P.normal P.life P.grp P.old P.log=SP++w) :
  bP (gB P) 32=jG P.kind :: dg P.frm :: gQ P.lives :: dg P.epoch :: dg P.view :: bP w 32:=by
 rw[Mx P w hr,fF (Lv hk),fF (jV _),fF (Ep _),fF (jV _),fF (jV _)]
theorem oZ (P:Pm) (hk:RK P.kind) (hr:gU P.kind P.place P.ent P.commit P.normal P.life P.grp P.old P.log=⟨#[]⟩) :
  bP (gB P) 32=[jG P.kind,dg P.frm,gQ P.lives,dg P.epoch,dg P.view]:=by
 rw[N8 P hr,fF (Lv hk),fF (jV _),fF (Ep _),fF (jV _),yV (jV _)]
theorem rE {n:Int} (hn:n≤7) {g:List Int} (h:fE n g):∀ x∈g,0≤x∧x<10:=fun x hx=>by have:=h.2 x hx;omega
theorem OV:bG (jG 118)=⟨#[102,108,101,118,118,121,76]⟩:=by unfold bG;simp only[ByteArray.toList_eq];rfl
theorem KP:bG (jG 115)=⟨#[102,108,101,118,103,104,121,76]⟩:=by unfold bG;simp only[ByteArray.toList_eq];rfl
theorem KO:bG (jG 97)=⟨#[102,108,101,118,105,103,104,121,76]⟩:=by unfold bG;simp only[ByteArray.toList_eq];rfl
section
variable {n:Int} {P0 P:Pm} {ws:List ByteArray}
theorem rH (hk:RK P0.kind) (h0:ws.getD 0 Ze=jG P0.kind) (hM:qp n ws P):P.kind=P0.kind:=by
 obtain⟨b,h1,h2⟩:=hM.kind
 rw[h0,ByteArray.toList_eq] at h1;rcases hk with q|q|q|q|q|q|q|q|q|q <;> rw[q] at h1 ⊢ <;> (rw[h2];simp[jG] at h1;rw[← h1];rfl)
theorem uV (hk:RK P0.kind) (h0:ws.getD 0 Ze=jG P0.kind) (hM:qp n ws P):PmR n (fu ws) P:=by
 refine hM.rep ?_;rw[h0];unfold qH;simp only[ByteArray.toList_eq];rcases hk with q|q|q|q|q|q|q|q|q|q <;> rw[q] <;> rfl
theorem yE (k:Int) (b:UInt8) (h:jG k=⟨#[b]⟩) (h0:ws.getD 0 Ze=jG k):(fu ws).kind.toList=[b]:=by
 show (ws.getD 0 Ze).toList=[b]
 rw[h0,h,ByteArray.toList_eq]
theorem Nh {L:List En} {T:Wt} {G:List ByteArray} {B:List Int} (hn:n≤7) (h:dQ n P0) (hk:RK P0.kind) (hM:qp n (bP (gB P0) 32) P) (mi:MI L T G B P0):MI L T G B P:=by
 have triv:(P0.kind=107∨P0.kind=99∨P0.kind=104∨P0.kind=103∨P0.kind=114)→(bP (gB P0) 32).getD 0 Ze=jG P0.kind→MI L T G B P:=fun q h0=>by
  have e:=rH hk h0 hM;exact MI.bare (by rw[e];omega)
 have fr:=iD (x:=P0.frm) h.f0 (by have:=h.f1;omega)
 have ep:=iD (x:=P0.epoch) h.e0 (by have:=h.e1;omega)
 have hk2:=hk;rcases hk2 with q|q|q|q|q|q|q|q|q|q
 ·
  have hr:gU P0.kind P0.place P0.ent P0.commit P0.normal P0.life P0.grp P0.old P0.log=SP++(dg P0.place++SP++(iA P0.ent++SP++dg P0.commit)):=by
   unfold gU;rw[q,if_pos (by rfl)];apply bytes_inj;simp[ByteArray.data_append,SP]
  have hp:=h.pl (.inl q);have he:=h.en q;have hc:=lX P0 hk _ hr;rw[fF (jV _),fF (FC he (by decide)),yV (jV _)] at hc
  rw[hc] at hM;have e0:=rH hk rfl hM;have R:=uV hk rfl hM;obtain⟨r1,r2,_⟩:=R.p (yE P0.kind 112 (by rw[q];rfl) rfl)
  have e1:P.epoch=P0.epoch:=R.epoch.trans ep
  have e2:P.place=P0.place:=r1.trans (iD hp.1 (by omega))
  have e3:P.ent=P0.ent:=r2.trans (D6 he).1
  obtain⟨m0,m1,m2,m3⟩:=mi.p q
  exact⟨fun z=>by omega,fun z=>by omega,fun _=>by rw[e1,e2,e3];exact⟨m0,m1,m2,m3⟩,fun z=>by omega,fun z=>by omega,fun z=>by omega⟩
 ·have hr:gU P0.kind P0.place P0.ent P0.commit P0.normal P0.life P0.grp P0.old P0.log=SP++dg P0.place:=by unfold gU;rw[q];rfl
  exact triv (by omega) (by rw[lX P0 hk _ hr];rfl)
 ·have hr:gU P0.kind P0.place P0.ent P0.commit P0.normal P0.life P0.grp P0.old P0.log=SP++dg P0.commit:=by unfold gU;rw[q];rfl
  exact triv (by omega) (by rw[lX P0 hk _ hr];rfl)
 ·exact triv (by omega) (by rw[oZ P0 hk (by unfold gU;rw[q];rfl)];rfl)
 ·exact triv (by omega) (by rw[oZ P0 hk (by unfold gU;rw[q];rfl)];rfl)
 ·exact triv (by omega) (by rw[oZ P0 hk (by unfold gU;rw[q];rfl)];rfl)
 ·
  rw[oZ P0 hk (by unfold gU;rw[q];rfl)] at hM
  have e0:=rH hk rfl hM;have R:=uV hk rfl hM;have e1:P.epoch=P0.epoch:=R.epoch.trans ep
  have e2:P.frm=P0.frm:=R.frm.trans fr
  exact⟨fun z=>by omega,fun z=>by omega,fun z=>by omega,fun z=>by omega,fun z=>by omega,fun _=>by rw[e1,e2];exact mi.t q⟩
 ·
  have hr:gU P0.kind P0.place P0.ent P0.commit P0.normal P0.life P0.grp P0.old P0.log=SP++(dg P0.normal++SP++(dg P0.commit++SP++fP P0.log)):=by
   unfold gU lK;rw[q];apply bytes_inj;simp[ByteArray.data_append,SP]
  have hl:=(h.lg (.inl q)).2;have hc:=lX P0 hk _ hr;rw[fF (jV _),fF (jV _),yV (Gv hl)] at hc;rw[hc] at hM;have e0:=rH hk rfl hM;have R:=uV hk rfl hM;obtain⟨_,_,r3⟩:=R.v (yE P0.kind 118 (by rw[q];rfl) rfl)
  have e1:P.epoch=P0.epoch:=R.epoch.trans ep
  have e2:P.log=P0.log:=by
   rw[r3];have:(fu [jG P0.kind,dg P0.frm,gQ P0.lives,dg P0.epoch,dg P0.view,dg P0.normal,dg P0.commit,fP P0.log]).log=lq (fP P0.log):=by
    unfold fu ku;simp only[ByteArray.toList_eq,q,List.getD_cons_zero,OV]
    rfl
   rw[this];exact zO hl
  exact⟨fun z=>by omega,fun z=>by omega,fun z=>by omega,fun z=>by omega,fun _=>by rw[e1,e2];exact mi.v q,fun z=>by omega⟩
 ·
  have hr:gU P0.kind P0.place P0.ent P0.commit P0.normal P0.life P0.grp P0.old P0.log=SP++(jJ P0.grp++SP++(jP P0.old++SP++(dg P0.commit++SP++fP P0.log))):=by
   unfold gU lK oG;rw[q];apply bytes_inj;simp[ByteArray.data_append,SP]
  have hl:=(h.lg (.inr (.inl q))).2;have hll:=(h.lg (.inr (.inl q))).1;have hco:=h.hc (.inr (.inl q));obtain⟨g1,g2⟩:=h.g (.inl q)
  have hc:=lX P0 hk _ hr;rw[fF (Fv (rE hn g1)),fF (Ls (rE hn g2)),fF (jV _),yV (Gv hl)] at hc;rw[hc] at hM;have e0:=rH hk rfl hM;have R:=uV hk rfl hM;obtain⟨r1,_,r2,r3⟩:=R.s (yE P0.kind 115 (by rw[q];rfl) rfl)
  have e1:P.epoch=P0.epoch:=R.epoch.trans ep
  have e2:P.log=P0.log:=by
   rw[r3];have:(fu [jG P0.kind,dg P0.frm,gQ P0.lives,dg P0.epoch,dg P0.view,jJ P0.grp,jP P0.old,dg P0.commit,fP P0.log]).log=lq (fP P0.log):=by
    unfold fu ku;simp only[ByteArray.toList_eq,q,List.getD_cons_zero,KP]
    rfl
   rw[this];exact zO hl
  have e3:P.commit=P0.commit:=by
   rw[r2];have:(fu [jG P0.kind,dg P0.frm,gQ P0.lives,dg P0.epoch,dg P0.view,jJ P0.grp,jP P0.old,dg P0.commit,fP P0.log]).commit=aF (dg P0.commit).data.toList:=by
    unfold fu ku;simp only[ByteArray.toList_eq,q,List.getD_cons_zero,KP]
    rfl
   rw[this];exact iD hco.1 (by omega)
  have e4:P.grp=P0.grp:=r1.trans (DU (rE hn g1))
  exact⟨fun z=>by omega,fun z=>by omega,fun z=>by omega,fun _=>by rw[e1,e2,e3,e4];exact mi.s (.inl q),fun z=>by omega,fun z=>by omega⟩
 ·
  have hr:gU P0.kind P0.place P0.ent P0.commit P0.normal P0.life P0.grp P0.old P0.log=SP++(dg P0.life++SP++(jJ P0.grp++SP++(jP P0.old++SP++(dg P0.commit++SP++fP P0.log)))):=by
   unfold gU lK oG;rw[q];apply bytes_inj;simp[ByteArray.data_append,SP]
  have hl:=(h.lg (.inr (.inr q))).2;have hll:=(h.lg (.inr (.inr q))).1;have hco:=h.hc (.inr (.inr q));obtain⟨g1,g2⟩:=h.g (.inr q)
  have hc:=lX P0 hk _ hr;rw[fF (jV _),fF (Fv (rE hn g1)),fF (Ls (rE hn g2)),fF (jV _),yV (Gv hl)] at hc;rw[hc] at hM;have e0:=rH hk rfl hM;have R:=uV hk rfl hM;obtain⟨_,r1,_,r2,r3⟩:=R.a (yE P0.kind 97 (by rw[q];rfl) rfl)
  have e1:P.epoch=P0.epoch:=R.epoch.trans ep
  have e2:P.log=P0.log:=by
   rw[r3];have:(fu [jG P0.kind,dg P0.frm,gQ P0.lives,dg P0.epoch,dg P0.view,dg P0.life,jJ P0.grp,jP P0.old,dg P0.commit,fP P0.log]).log=lq (fP P0.log):=by
    unfold fu ku;simp only[ByteArray.toList_eq,q,List.getD_cons_zero,KO]
    rfl
   rw[this];exact zO hl
  have e3:P.commit=P0.commit:=by
   rw[r2];have:(fu [jG P0.kind,dg P0.frm,gQ P0.lives,dg P0.epoch,dg P0.view,dg P0.life,jJ P0.grp,jP P0.old,dg P0.commit,fP P0.log]).commit=aF (dg P0.commit).data.toList:=by
    unfold fu ku;simp only[ByteArray.toList_eq,q,List.getD_cons_zero,KO]
    rfl
   rw[this];exact iD hco.1 (by omega)
  have e4:P.grp=P0.grp:=r1.trans (DU (rE hn g1))
  exact⟨fun z=>by omega,fun z=>by omega,fun z=>by omega,fun _=>by rw[e1,e2,e3,e4];exact mi.s (.inr q),fun z=>by omega,fun z=>by omega⟩
end
def amB (s:ByteArray) (q:Int):Bool:=s.data.toList.any (fun c=>((c.toNat:Int)-48) % 256==q)
theorem ME {s:ByteArray} {q:Int} {k:Nat} (hk:k<s.size):(s.data.toList.take (k+1)).any (fun c=>((c.toNat:Int)-48) % 256==q)=((s.data.toList.take k).any (fun c=>((c.toNat:Int)-48) % 256==q)||(((s[k].toNat:Int)-48) % 256==q)):=by
 have hl:k<s.data.toList.length:=by rw[Array.length_toList];exact hk
 rw[List.take_succ_eq_append_getElem hl,List.any_append];have e:s.data.toList[k]=s[k]:=by simp;rfl
 rw[e];simp
theorem xG (s:ByteArray) (q:Int) (w:World) (hs:s.size≤1000000000) :
  Calls Tryz.prog 56 #[Z s,I J q] w fun e w'=>e=Zr (.bool (amB s q))∧w'=w:=by
 have HA:Hid (∀ k,(hk:k<s.size)→(((s[k].toNat:Int)-48) % 256==q)=true→amB s q=true):=fun k hk h=>by
  unfold amB;rw[List.any_eq_true];have hl:k<s.data.toList.length:=by rw[Array.length_toList];exact hk
  have e:s.data.toList[k]=s[k]:=by simp;rfl
  exact⟨s.data.toList[k],List.getElem_mem hl,by rw[e];exact h⟩
 have HE:Hid ((s.data.toList.take s.size).any (fun c=>((c.toNat:Int)-48) % 256==q)=amB s q):=by
  unfold Hid amB;rw[List.take_of_length_le (by rw[Array.length_toList];exact Nat.le_refl _)]
 have HS:Hid (∀ k,(hk:k<s.size)→(s.data.toList.take k).any (fun c=>((c.toNat:Int)-48) % 256==q)=false→(((s[k].toNat:Int)-48) % 256==q)=false→(s.data.toList.take (k+1)).any (fun c=>((c.toNat:Int)-48) % 256==q)=false):=fun k hk h1 h2=>by rw[ME hk,h1,h2];rfl
 go_enter Tryz.func56,Tryz.ntmps56;go_wp2_with fail;go_loopw [5] (fun i wr=>∃ k:Nat,k≤s.size∧i=I J k∧wr=w∧(s.data.toList.take k).any (fun c=>((c.toNat:Int)-48) % 256==q)=false) (fun i _=>s.size-(intOf i).toNat)
 case atStart=>exact⟨0,Nat.zero_le _,rfl,rfl,rfl⟩
 case round =>
  obtain⟨k,hk,rfl,hbw,ha⟩:=hrel
  subst hbw;by_cases hlt:k<s.size
  ·have j1:(0:Int)≤(k:Int):=by omega
   have j2:(k:Int)<(s.size:Int):=by omega
   go_wp2_with fail
   ·rename_i hq;have:=HA.out k hlt hq
    go_ret;exact⟨by rw[this];rfl,rfl⟩
   ·rename_i hq;have:=HS.out k hlt ha hq
    go_roundw
    case rel=>exact⟨k+1,by omega,by go_num,trivial,this⟩
    case measure=>simp[intOf];omega
  ·have e:amB s q=false:=by rw[← HE.out,← (show k=s.size by omega)];exact ha
   clear HA HS HE ha;go_wp2;go_ret;exact⟨by rw[e];rfl,rfl⟩
theorem IL (l:List Int):txt l=jJ l:=by
 unfold txt jJ;have:∀ k,k≤l.length→(l.take k).foldl (fun t x=>t++dg x) Ze=jU l k:=fun k=>by
  induction k with
  | zero=>intro _;simp[jU];rfl
  | succ k ih =>
   intro hk;have hk':k<l.length:=by omega
   rw[List.take_succ_eq_append_getElem hk',List.foldl_append,ih (by omega)]
   have e:l.getD k 0=l[k]:=by rw[List.getD_eq_getElem?_getD,List.getElem?_eq_getElem hk'];rfl
   show jU l k++dg l[k]=jU l k++dg (l.getD k 0)
   rw[e]
 have:=this l.length (Nat.le_refl _)
 rwa [List.take_length] at this
theorem Kk {g:List Int} (h:∀ x∈g,0≤x∧x<10) (q:Int):amB (jJ g) q=iQ g q:=by
 unfold amB iQ;rw[tZ h,List.any_map];rw[Bool.eq_iff_iff,List.any_eq_true,List.any_eq_true]
 constructor
 ·rintro⟨x,hx,e⟩
  refine⟨x,hx,?_⟩
  have hb:=h x hx;have e1:(UInt8.ofNat (48+x.toNat)).toNat=48+x.toNat:=u8n _ (by omega)
  simp only[Function.comp,e1,beq_iff_eq] at e ⊢;omega
 ·rintro⟨x,hx,e⟩
  refine⟨x,hx,?_⟩
  have hb:=h x hx;have e1:(UInt8.ofNat (48+x.toNat)).toNat=48+x.toNat:=u8n _ (by omega)
  simp only[Function.comp,e1,beq_iff_eq] at e ⊢;omega
theorem Ee (v:Value) (l:List (Int×Int×ByteArray)) (w:World) (hv:gW w v l) (hb:∀ x∈l,0<x.2.2.size) :
  Calls Tryz.prog 108 #[v] w fun e w'=>e=Zr (I J (regs l))∧Below w.heap.size w w':=by
 obtain⟨a,cap,rfl,hcap,hm⟩:=hv.shape
 have HB:Hid (∀ k,(h:k<l.length)→0<(l[k].2.2).size):=fun k h=>hb _ (List.getElem_mem h)
 have HS:Hid (∀ k,(h:k<l.length)→regs (l.take (k+1))=regs (l.take k)+(if b0 l[k].2.2=114 then 1 else 0)):=fun k h=>by
  rw[mU l k h];by_cases q:eT l[k]=true
  ·rw[if_pos q,if_pos (yK.2 q)]
  ·rw[if_neg q,if_neg (fun z=>q (yK.1 z))]
 have H0:Hid (regs (l.take 0)=0):=by unfold Hid;rfl
 have HE:Hid (regs (l.take l.length)=regs l):=by unfold Hid;rw[List.take_length]
 have HLe:Hid (∀ k,regs (l.take k)≤k):=fun k=>by have:=uR (l.take k);rw[List.length_take] at this;omega
 generalize hrg:regs l=rl at *;clear hrg;go_enter Tryz.func108,Tryz.ntmps108;go_wp2_with fail;go_loopw [3,4] (fun t i wr=>∃ k:Nat,k≤l.length∧i=I J k∧t=I J (regs (l.take k):Nat)∧Below w.heap.size w wr) (fun _ i _=>l.length-(intOf i).toNat)
 case atStart=>exact⟨0,Nat.zero_le _,rfl,by rw[H0.out];rfl,Below.refl _ _⟩
 case round =>
  obtain⟨k,hk,rfl,rfl,hbw⟩:=hrel
  have hle:=HLe.out k;by_cases hlt:k<l.length
  ·obtain⟨b1,o1,rfl,_,c1,c2,c3⟩:=(hv.below hbw).get k hlt
   have j1:(0:Int)≤(k:Int):=by omega
   have j2:(k:Int)<(l.length:Int):=by omega
   have s1:=HB.out k hlt;have s2:=HS.out k hlt;clear HB HS HE H0 HLe;generalize l[k].2.2=op at *;have e0:b0 op=(op[0].toNat:Int):=by unfold b0;rw[atS s1]
   rw[e0] at s2;clear e0;generalize regs (l.take k)=m at *;by_cases hr:(op[0].toNat:Int)=114
   ·have hr':((op[0].toNat:Int)==114)=true:=beq_iff_eq.2 hr
    rw[if_pos hr] at s2;clear hr;go_wp2;go_roundw
    case rel=>exact⟨k+1,by omega,by go_num,by rw[s2];go_num,hbw⟩
    case measure=>simp[intOf];omega
   ·have hr':((op[0].toNat:Int)==114)=false:=beq_eq_false_iff_ne.2 hr
    rw[if_neg hr] at s2;clear hr;go_wp2;go_roundw
    case rel=>exact⟨k+1,by omega,by go_num,by rw[s2];rfl,hbw⟩
    case measure=>simp[intOf];omega
  ·have e:regs (l.take k)=rl:=by rw[← HE.out,show k=l.length by omega]
   rw[e] at hle ⊢;clear HE HS H0 HB HLe;go_wp2;go_ret;exact⟨rfl,hbw⟩
theorem l8.pms {w w':World} {base:Nat} {W F:List Nat} {v:Value} {l:List Pm} (m:l8 w w' base W F v l) (hb:Below w.heap.size w w') (hW:∀ x∈W,x<w.heap.size) (hbs:w.heap.size≤base):Pms w' W (v.ownBlock.toList++F) v l:=by
 obtain⟨xs,ho,hr⟩:=m
 have hm:Mv w W F W (v.ownBlock.toList++F):=⟨fun x hx=>.inl hx,fun x hx=>List.mem_append.2 (.inr hx),fun x hx=>by
  rcases List.mem_append.1 hx with q|q
  ·exact .inr (Nat.le_trans hbs (ho.lt x (by simpa using q)).1)
  ·exact .inl q⟩
 refine⟨⟨fun k hk hc=>?_,fun k hk=>List.mem_append.2 (.inl (by simpa using hk))⟩,xs,Rd.bR ho,hr.mono (fun P cs q=>q.mv (Kp.of_below hb) hm)⟩
 have:=hW k hc
 have:=(ho.lt k hk).1
 omega
theorem l8.ys {w w':World} {base:Nat} {W F:List Nat} {a:Option Addr} {n cap:Nat} {c:List Pm} (m:l8 w w' base W F (Y a n cap) c) (k:Nat) (hk:k<c.length) :
  ∃ b off al cl ag cg ao co aL cL,a=some ⟨b,off,O⟩∧dM w W F c[k] (Y al c[k].lives.length cl) (Y ag c[k].grp.length cg) (Y ao c[k].old.length co) (Y aL c[k].log.length cL) ∧
   ∀ j u,(#[I .u8 c[k].kind,I J c[k].frm,Y al c[k].lives.length cl,I J c[k].epoch,I J c[k].view,I J c[k].place,I J c[k].ent.1,I J c[k].ent.2.1,Z c[k].ent.2.2,I J c[k].commit,I J c[k].normal,I J c[k].life,Y ag c[k].grp.length cg,Y ao c[k].old.length co,Y aL c[k].log.length cL]:Array Value)[j]? = some u→w'.cell? ⟨b,off+k*15+j,O⟩=some u:=by
 obtain⟨xs,ho,hr⟩:=m
 obtain⟨cs,⟨vl,vg,vo,vL,rfl,q1⟩,q2⟩:=Rws.get gV.len hr k hk
 obtain⟨al,cl,ag,cg,ao,co,aL,cL,rfl,rfl,rfl,rfl⟩:=q1.cells
 have hrd:=Rd.bR ho;rcases hrd.2 with ⟨e,e2⟩|⟨b,off,cap',e,_,_,hb,hc⟩
 ·omega
 ·simp only[Value.slice.injEq] at e;obtain⟨rfl,rfl,rfl⟩:=e
  refine⟨b,off,al,cl,ag,cg,ao,co,aL,cL,rfl,q1,fun j u hj=>?_⟩
  have:=hc _ _ (q2 j u (by rw[Array.getElem?_toList];exact hj))
  rwa [← Nat.add_assoc] at this
def J8 (w w':World) (W F:List Nat) (ms:List Pm) (e:Ending):Prop :=
 Below w.heap.size w w'∧((gP ms=O∧e=Zr (.tuple #[.agg #[I .u8 0,I J 0,Y O 0 0,I J 0,I J 0,I J 0,I J 0,I J 0,Z ⟨#[]⟩,I J 0,I J 0,I J 0,Y O 0 0,Y O 0 0,Y O 0 0],.bool false]))∨∃ a vl vg vo vL,gP ms=some a∧e=Zr (.tuple #[.agg (pmC a vl vg vo vL),.bool true])∧dM w' W F a vl vg vo vL)
theorem BI {c:List Pm} {p:Pm→Bool} {k:Nat} (hk:k<c.length) (h:(c.take k).find? p=O):(c.take (k+1)).find? p=if p c[k] then some c[k] else O:=by
 rw[List.take_succ_eq_append_getElem hk,List.find?_append,h];simp only[Option.none_or,List.find?_cons,List.find?_nil];cases p c[k] <;> rfl
theorem MR {c:List Pm} {p:Pm→Bool} {k:Nat} (hk:k<c.length) (h:(c.take k).find? p=O) (hp:p c[k]=true):c.find? p=some c[k]:=by
 have q:=BI hk h;rw[hp,if_pos rfl] at q
 conv=>lhs;rw[← List.take_append_drop (k+1) c]
 rw[List.find?_append,q];rfl
theorem EO (v:Value) (ms:List Pm) (W F:List Nat) (w:World) (hv:Pms w W F v ms) (hl:ms.length≤7) (hW:∀ x∈W,x<w.heap.size) (hF:∀ x∈F,x<w.heap.size) (hgl:∀ m∈ms,m.grp.length≤5) (hvb:∀ m∈ms,m.view≤999) :
  Calls Tryz.prog 80 #[v] w fun e w'=>J8 w w' W F ms e:=by
 obtain⟨a,cap,rfl,hn1,hmx⟩:=hv.shape
 have hz:dw (w.alloc (.cells #[I .u8 0,I J 0,Y O 0 0,I J 0,I J 0,I J 0,I J 0,I J 0,Z ⟨#[]⟩,I J 0,I J 0,I J 0,Y O 0 0,Y O 0 0,Y O 0 0] 68)) w.heap.size #[I .u8 0,I J 0,Y O 0 0,I J 0,I J 0,I J 0,I J 0,I J 0,Z ⟨#[]⟩,I J 0,I J 0,I J 0,Y O 0 0,Y O 0 0,Y O 0 0]:=⟨rfl,heap_alloc_new w _⟩
 have hbZ:Below w.heap.size w (w.alloc (.cells #[I .u8 0,I J 0,Y O 0 0,I J 0,I J 0,I J 0,I J 0,I J 0,Z ⟨#[]⟩,I J 0,I J 0,I J 0,Y O 0 0,Y O 0 0,Y O 0 0] 68)):=(Below.refl _ w).alloc (Nat.le_refl _) _
 have hvZ:=hv.below hbZ;obtain⟨ep,hep⟩:∃ x,x=cZ (ms.map (·.epoch)):=⟨_,rfl⟩
 obtain⟨g,hg⟩:∃ x,x=jf ms ep:=⟨_,rfl⟩
 obtain⟨c,hc⟩:∃ x,x=gT ms ep g:=⟨_,rfl⟩
 obtain⟨vw,hvw⟩:∃ x,x=cZ (c.map (·.view)):=⟨_,rfl⟩
 have HLd:Hid (gP ms=if (c.length:Int)≤eZ g then O else c.find? (fun m=>(m.frm==oL g vw)&&(m.view==vw))):=by
  unfold Hid gP KY;rw[← hep,← hg,← hc,← hvw]
 have hcl:c.length≤7:=by rw[hc];have:=List.length_filter_le (fun m:Pm=>(m.epoch==ep)&&iQ g m.frm) ms;unfold gT;omega
 have hgl5:g.length≤1000:=by
  rw[hg];unfold jf
  split
  ·rename_i m hm;have:=hgl m (by simpa using List.mem_of_find?_eq_some hm)
   omega
  ·simp
 have hvw9:vw≤999:=by
  rw[hvw];refine (Je 999 (by omega) _ (fun x hx=>?_)).2
  obtain⟨m,hm,rfl⟩:=List.mem_map.1 hx
  rw[hc] at hm;exact hvb m (List.mem_filter.1 hm).1
 have HGe:Hid (Calls Tryz.prog 125 #[Y a ms.length cap] (w.alloc (.cells #[I .u8 0,I J 0,Y O 0 0,I J 0,I J 0,I J 0,I J 0,I J 0,Z ⟨#[]⟩,I J 0,I J 0,I J 0,Y O 0 0,Y O 0 0,Y O 0 0] 68)) fun e w'=>e=Zr (I J ep)∧w'=w.alloc (.cells #[I .u8 0,I J 0,Y O 0 0,I J 0,I J 0,I J 0,I J 0,I J 0,Z ⟨#[]⟩,I J 0,I J 0,I J 0,Y O 0 0,Y O 0 0,Y O 0 0] 68)):=by rw[hep];exact uT _ ms W F _ hvZ (by omega)
 have HGo:Hid (Calls Tryz.prog 126 #[Y a ms.length cap,I J ep] (w.alloc (.cells #[I .u8 0,I J 0,Y O 0 0,I J 0,I J 0,I J 0,I J 0,I J 0,Z ⟨#[]⟩,I J 0,I J 0,I J 0,Y O 0 0,Y O 0 0,Y O 0 0] 68)) fun e w'=>(∃ vg,e=Zr vg∧Ints (w.alloc (.cells #[I .u8 0,I J 0,Y O 0 0,I J 0,I J 0,I J 0,I J 0,I J 0,Z ⟨#[]⟩,I J 0,I J 0,I J 0,Y O 0 0,Y O 0 0,Y O 0 0] 68)) vg g∧Sl W F vg)∧w'=w.alloc (.cells #[I .u8 0,I J 0,Y O 0 0,I J 0,I J 0,I J 0,I J 0,I J 0,Z ⟨#[]⟩,I J 0,I J 0,I J 0,Y O 0 0,Y O 0 0,Y O 0 0] 68)):=by rw[hg];exact EL _ ms ep W F _ hvZ (by omega)
 have HOg:Hid (∀ vr,Ints (w.alloc (.cells #[I .u8 0,I J 0,Y O 0 0,I J 0,I J 0,I J 0,I J 0,I J 0,Z ⟨#[]⟩,I J 0,I J 0,I J 0,Y O 0 0,Y O 0 0,Y O 0 0] 68)) vr g→Calls Tryz.prog 127 #[Y a ms.length cap,I J ep,vr] (w.alloc (.cells #[I .u8 0,I J 0,Y O 0 0,I J 0,I J 0,I J 0,I J 0,I J 0,Z ⟨#[]⟩,I J 0,I J 0,I J 0,Y O 0 0,Y O 0 0,Y O 0 0] 68)) fun e w'=>∃ v',e=Zr v'∧l8 (w.alloc (.cells #[I .u8 0,I J 0,Y O 0 0,I J 0,I J 0,I J 0,I J 0,I J 0,Z ⟨#[]⟩,I J 0,I J 0,I J 0,Y O 0 0,Y O 0 0,Y O 0 0] 68)) w' (w.alloc (.cells #[I .u8 0,I J 0,Y O 0 0,I J 0,I J 0,I J 0,I J 0,I J 0,Z ⟨#[]⟩,I J 0,I J 0,I J 0,Y O 0 0,Y O 0 0,Y O 0 0] 68)).heap.size W F v' c∧Below (w.alloc (.cells #[I .u8 0,I J 0,Y O 0 0,I J 0,I J 0,I J 0,I J 0,I J 0,Z ⟨#[]⟩,I J 0,I J 0,I J 0,Y O 0 0,Y O 0 0,Y O 0 0] 68)).heap.size (w.alloc (.cells #[I .u8 0,I J 0,Y O 0 0,I J 0,I J 0,I J 0,I J 0,I J 0,Z ⟨#[]⟩,I J 0,I J 0,I J 0,Y O 0 0,Y O 0 0,Y O 0 0] 68)) w'):=fun vr hr=>by rw[hc];exact EP _ vr ms ep g W F _ hvZ (by omega) hr (by omega)
 have hWZ:∀ x∈W,x<(w.alloc (.cells #[I .u8 0,I J 0,Y O 0 0,I J 0,I J 0,I J 0,I J 0,I J 0,Z ⟨#[]⟩,I J 0,I J 0,I J 0,Y O 0 0,Y O 0 0,Y O 0 0] 68)).heap.size:=fun x hx=>Nat.lt_of_lt_of_le (hW x hx) hbZ.size
 have HPb:Hid (∀ P vl vg vo vL,dM (w.alloc (.cells #[I .u8 0,I J 0,Y O 0 0,I J 0,I J 0,I J 0,I J 0,I J 0,Z ⟨#[]⟩,I J 0,I J 0,I J 0,Y O 0 0,Y O 0 0,Y O 0 0] 68)) W F P vl vg vo vL→dM w W F P vl vg vo vL→True):=fun _ _ _ _ _ _ _=>trivial
 have HVw:=ah hvw;have HF:=ah hF;clear hep hg hc hvw HPb hv hgl hvb;go_enter Tryz.func80,Tryz.ntmps80;go_wp2_with fail;generalize w.alloc (.cells #[I .u8 0,I J 0,Y O 0 0,I J 0,I J 0,I J 0,I J 0,I J 0,Z ⟨#[]⟩,I J 0,I J 0,I J 0,Y O 0 0,Y O 0 0,Y O 0 0] 68)=wZ at *;refine HGe.out.mono ?_;rintro e w1 ⟨rfl,hw1⟩;subst hw1;go_wp2_with fail;refine HGo.out.mono ?_;rintro e w2 ⟨⟨vr,rfl,hIr,_⟩,hw2⟩;subst hw2;obtain⟨ar,cr,rfl,_,_⟩:=hIr.shape
 have HOg2:=ah (HOg.out _ hIr);clear HOg HGe HGo;go_wp2_with fail;refine HOg2.out.mono ?_;rintro e w3 ⟨v3,rfl,hms,hb3⟩;have hP3:=hms.pms hb3 hWZ (Nat.le_refl _);obtain⟨a3,cp3,rfl,hc3a,hc3b⟩:=hP3.shape
 have HMs:=ah hms;have hI3:=hIr.below hb3;have HZ3:Hid (dw w3 w.heap.size #[I .u8 0,I J 0,Y O 0 0,I J 0,I J 0,I J 0,I J 0,I J 0,Z ⟨#[]⟩,I J 0,I J 0,I J 0,Y O 0 0,Y O 0 0,Y O 0 0]):=hz.kp (S:=[]) (Kp.of_below hb3) (by simp)
 have HB03:Hid (Below w.heap.size w w3):=hbZ.trans (hb3.mono hbZ.size)
 have HBz3:=ah hb3;have HFa:=ah (pO _ g w3 hI3 hgl5);have HGv:=ah (wQ _ c W _ w3 hP3 (by omega))
 rw[← HVw.out] at HGv;have HPr:=ah (sQ _ g vw w3 hI3 hgl5 (by omega))
 clear hms hP3 hI3 hIr hb3 hz HOg2;go_wp2_with fail;refine HFa.out.mono ?_;rintro e w4 ⟨rfl,hw4⟩;subst hw4;obtain⟨w3,Hw3⟩:∃ x,x=w4:=⟨_,rfl⟩
 subst Hw3;by_cases q:(c.length:Int)≤eZ g
 ·have HE:Hid (gP ms=O):=by unfold Hid;rw[HLd.out,if_pos q]
  have HL:=ah (jQ HZ3.out (I .u8 0) (I J 0) (Y O 0 0) (I J 0) (I J 0) (I J 0) (I J 0) (I J 0) (Z ⟨#[]⟩) (I J 0) (I J 0) (I J 0) (Y O 0 0) (Y O 0 0) (Y O 0 0));have HB:=ah (fH (Nat.le_refl w.heap.size) [I .u8 0,I J 0,Y O 0 0,I J 0,I J 0,I J 0,I J 0,I J 0,Z ⟨#[]⟩,I J 0,I J 0,I J 0,Y O 0 0,Y O 0 0,Y O 0 0] w3 0 HB03.out);rw[← kH] at HL HB;have HTh:=ah HZ3.out.there;have HOne:Hid ((#[I .u8 0,I J 0,Y O 0 0,I J 0,I J 0,I J 0,I J 0,I J 0,Z ⟨#[]⟩,I J 0,I J 0,I J 0,Y O 0 0,Y O 0 0,Y O 0 0]:Array Value).all (·.oneCell')=true):=all_oneCell_toArray (cs:=[I .u8 0,I J 0,Y O 0 0,I J 0,I J 0,I J 0,I J 0,I J 0,Z ⟨#[]⟩,I J 0,I J 0,I J 0,Y O 0 0,Y O 0 0,Y O 0 0]) (by intro u hu;simp at hu;rcases hu with rfl|rfl|rfl|rfl|rfl|rfl|rfl|rfl|rfl|rfl|rfl|rfl|rfl|rfl|rfl <;> rfl)
  clear HGv HPr;go_wp2_with (refine wpList_store_mid rfl 68 (.tmp 2) (.tmp 24) (by rfl) w.heap.size 0 #[I .u8 0,I J 0,Y O 0 0,I J 0,I J 0,I J 0,I J 0,I J 0,Z ⟨#[]⟩,I J 0,I J 0,I J 0,Y O 0 0,Y O 0 0,Y O 0 0] (by rfl) (by rfl) HTh.out Tryz.sizeMsg HOne.out ?_)
  go_wp2;exact bodyPost_ret (dJ rfl _ _ _ rfl HL.out) rfl ⟨HB.out,.inl ⟨HE.out,rfl⟩⟩
 ·have HE1:Hid (gP ms=c.find? (fun m=>(m.frm==oL g vw)&&(m.view==vw))):=by unfold Hid;rw[HLd.out,if_neg q]
  clear HLd;go_wp2_with fail;refine HGv.out.mono ?_;rintro e w5 ⟨rfl,hw5⟩;subst hw5;go_wp2_with fail;refine HPr.out.mono ?_;rintro e w6 ⟨rfl,hw6⟩;subst hw6;obtain⟨w3,Hw3⟩:∃ x,x=w6:=⟨_,rfl⟩
  subst Hw3;generalize oL g vw=pr at *;go_wp2_with fail;go_loopw [9] (fun i wr=>∃ k:Nat,k≤c.length∧i=I J k∧(c.take k).find? (fun m=>(m.frm==pr)&&(m.view==vw))=O∧wr=w3) (fun i _=>c.length-(intOf i).toNat)
  case atStart=>exact⟨0,Nat.zero_le _,rfl,rfl,rfl⟩
  case round =>
   obtain⟨k,hk,rfl,hfk,hwr⟩:=hrel
   have HFk:=ah hfk;clear hfk;subst hwr;obtain⟨w3,Hw3⟩:∃ x,x=wr:=⟨_,rfl⟩
   subst Hw3;by_cases hlt:k<c.length
   ·obtain⟨b,off,al,cl,ag,cg,ao,co,aL,cL,rfl,hp2,hc2⟩:=HMs.out.ys k hlt
    have j1:(0:Int)≤(k:Int):=by omega
    have j2:(k:Int)<(c.length:Int):=by omega
    have HP2:=ah (hp2.below HBz3.out);have HSn:=ah (BI hlt HFk.out);have HAt:=ah (MR hlt HFk.out);have HOne:Hid ((#[I .u8 c[k].kind,I J c[k].frm,Y al c[k].lives.length cl,I J c[k].epoch,I J c[k].view,I J c[k].place,I J c[k].ent.1,I J c[k].ent.2.1,Z c[k].ent.2.2,I J c[k].commit,I J c[k].normal,I J c[k].life,Y ag c[k].grp.length cg,Y ao c[k].old.length co,Y aL c[k].log.length cL]:Array Value).all (·.oneCell')=true):=GK hp2
    clear hp2;have y0:=hc2 0 _ rfl;have y1:=hc2 1 _ rfl;have y2:=hc2 2 _ rfl;have y3:=hc2 3 _ rfl;have y4:=hc2 4 _ rfl;have y5:=hc2 5 _ rfl;have y6:=hc2 6 _ rfl;have y7:=hc2 7 _ rfl;have y8:=hc2 8 _ rfl;have y9:=hc2 9 _ rfl;have y10:=hc2 10 _ rfl;have y11:=hc2 11 _ rfl;have y12:=hc2 12 _ rfl;have y13:=hc2 13 _ rfl;have y14:=hc2 14 _ rfl;simp only[Nat.add_zero] at y0;clear hc2;generalize c[k]=s at *;cases hf:(s.frm==pr)
    ·go_wp2;go_roundw
     case rel=>exact⟨k+1,by omega,by go_num,by rw[HSn.out,hf];rfl,by trivial⟩
     case measure=>simp[intOf];omega
    ·cases hvv:(s.view==vw)
     ·go_wp2;go_roundw
      case rel=>exact⟨k+1,by omega,by go_num,by rw[HSn.out,hf,hvv];rfl,by trivial⟩
      case measure=>simp[intOf];omega
     ·have HE:Hid (gP ms=some s):=by unfold Hid;rw[HE1.out];exact HAt.out (by rw[hf,hvv];rfl)
      have HL:=ah (jQ HZ3.out (I .u8 s.kind) (I J s.frm) (Y al s.lives.length cl) (I J s.epoch) (I J s.view) (I J s.place) (I J s.ent.1) (I J s.ent.2.1) (Z s.ent.2.2) (I J s.commit) (I J s.normal) (I J s.life) (Y ag s.grp.length cg) (Y ao s.old.length co) (Y aL s.log.length cL));have HB:=ah (fH (Nat.le_refl w.heap.size) [I .u8 s.kind,I J s.frm,Y al s.lives.length cl,I J s.epoch,I J s.view,I J s.place,I J s.ent.1,I J s.ent.2.1,Z s.ent.2.2,I J s.commit,I J s.normal,I J s.life,Y ag s.grp.length cg,Y ao s.old.length co,Y aL s.log.length cL] w3 0 HB03.out);have HPz:Hid (dM (dF w3 w.heap.size 0 [I .u8 s.kind,I J s.frm,Y al s.lives.length cl,I J s.epoch,I J s.view,I J s.place,I J s.ent.1,I J s.ent.2.1,Z s.ent.2.2,I J s.commit,I J s.normal,I J s.life,Y ag s.grp.length cg,Y ao s.old.length co,Y aL s.log.length cL]) W F s _ _ _ _):=HP2.out.far (nP (g:=w.heap.size) [I .u8 s.kind,I J s.frm,Y al s.lives.length cl,I J s.epoch,I J s.view,I J s.place,I J s.ent.1,I J s.ent.2.1,Z s.ent.2.2,I J s.commit,I J s.normal,I J s.life,Y ag s.grp.length cg,Y ao s.old.length co,Y aL s.log.length cL] w3 0) (fun x hx hc=>by simp at hx;subst hx;have:=HF.out _ hc;omega)
      rw[← kH] at HL HB HPz;have HTh:=ah HZ3.out.there;go_wp2_with (refine wpList_store_mid rfl 68 (.tmp 2) (.tmp 55) (by rfl) w.heap.size 0 #[I .u8 s.kind,I J s.frm,Y al s.lives.length cl,I J s.epoch,I J s.view,I J s.place,I J s.ent.1,I J s.ent.2.1,Z s.ent.2.2,I J s.commit,I J s.normal,I J s.life,Y ag s.grp.length cg,Y ao s.old.length co,Y aL s.log.length cL] (by rfl) (by rfl) HTh.out Tryz.sizeMsg HOne.out ?_)
      go_wp2;exact bodyPost_ret (dJ rfl _ _ _ rfl HL.out) rfl ⟨HB.out,.inr ⟨s,_,_,_,_,HE.out,rfl,HPz.out⟩⟩
   ·obtain rfl:k=c.length:=by omega
    have HE:Hid (gP ms=O):=by unfold Hid;rw[HE1.out];have:=HFk.out;rwa [List.take_length] at this
    have HL:=ah (jQ HZ3.out (I .u8 0) (I J 0) (Y O 0 0) (I J 0) (I J 0) (I J 0) (I J 0) (I J 0) (Z ⟨#[]⟩) (I J 0) (I J 0) (I J 0) (Y O 0 0) (Y O 0 0) (Y O 0 0));have HB:=ah (fH (Nat.le_refl w.heap.size) [I .u8 0,I J 0,Y O 0 0,I J 0,I J 0,I J 0,I J 0,I J 0,Z ⟨#[]⟩,I J 0,I J 0,I J 0,Y O 0 0,Y O 0 0,Y O 0 0] w3 0 HB03.out);rw[← kH] at HL HB;have HTh:=ah HZ3.out.there;have HOne:Hid ((#[I .u8 0,I J 0,Y O 0 0,I J 0,I J 0,I J 0,I J 0,I J 0,Z ⟨#[]⟩,I J 0,I J 0,I J 0,Y O 0 0,Y O 0 0,Y O 0 0]:Array Value).all (·.oneCell')=true):=all_oneCell_toArray (cs:=[I .u8 0,I J 0,Y O 0 0,I J 0,I J 0,I J 0,I J 0,I J 0,Z ⟨#[]⟩,I J 0,I J 0,I J 0,Y O 0 0,Y O 0 0,Y O 0 0]) (by intro u hu;simp at hu;rcases hu with rfl|rfl|rfl|rfl|rfl|rfl|rfl|rfl|rfl|rfl|rfl|rfl|rfl|rfl|rfl <;> rfl)
    go_wp2_with (refine wpList_store_mid rfl 68 (.tmp 2) (.tmp 56) (by rfl) w.heap.size 0 #[I .u8 0,I J 0,Y O 0 0,I J 0,I J 0,I J 0,I J 0,I J 0,Z ⟨#[]⟩,I J 0,I J 0,I J 0,Y O 0 0,Y O 0 0,Y O 0 0] (by rfl) (by rfl) HTh.out Tryz.sizeMsg HOne.out ?_)
    go_wp2;exact bodyPost_ret (dJ rfl _ _ _ rfl HL.out) rfl ⟨HB.out,.inl ⟨HE.out,rfl⟩⟩
end Go.Proofs.YtbnihoahhomooaaGreatDoor
