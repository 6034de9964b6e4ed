import Derived.Test.YtinaollfjiddmaaGreatDoorA15
set_option maxRecDepth 100000
set_option maxHeartbeats 8000000
set_option linter.all false
namespace Go.Proofs.YtinaollfjiddmaaGreatDoor
open Go.Value renaming int→I,slice→Y,string→Z,pointer→Zp
open Go.Ending renaming returned→Zr
open _root_.ByteArray renaming empty→Ze
open Go.IntKind renaming i64→J
open Option renaming none→O
open Go.RowKit
structure Fin (L:List En) (B:List Int) (R:Rp):Prop where
 dl:R.decided≤L.length
 dt:R.log.take R.decided=L.take R.decided
 bg:R.status=1→R.epoch≤B.getD R.id.toNat (-1)
theorem getD_take {l L:List En} {k d:Nat} (h:l.take k=L.take k) (hd:d<k):l.getD d en0=L.getD d en0:=by
 have e:(l.take k)[d]? = (L.take k)[d]?:=by rw[h]
 rw[List.getElem?_take_of_lt hd,List.getElem?_take_of_lt hd] at e;rw[List.getD_eq_getElem?_getD,List.getD_eq_getElem?_getD,e]
theorem pK {l L:List En} {k d:Nat} (h:l.take k=L.take k) (hd:d≤k):l.take d=L.take d:=by
 have e:(l.take k).take d=(L.take k).take d:=by rw[h]
 rwa [List.take_take,List.take_take,Nat.min_eq_left hd] at e
theorem getD_at {l:List En} {d:Nat} (h:d<l.length):l.getD d en0=l[d]:=by
 rw[List.getD_eq_getElem?_getD,List.getElem?_eq_getElem h];rfl
theorem yT (l:List En) (k:Nat) (hk:k<l.length):svF (l.take (k+1))=l8 (svF (l.take k)) l[k]:=by
 unfold svF;rw[List.take_succ_eq_append_getElem hk,List.foldl_append];rfl
theorem Nw {L:List En} {d e:Nat} (hd:d<L.length) (hr:fA L[d]=true) (he:regs (L.take d)=e):iG L (e+1)=d+1:=by
 have s:=kH L d hd;rw[if_pos hr] at s;have le:e+1≤regs L:=by have:=fV L (d+1);omega
 obtain⟨i,f,b,c⟩:=oQ L (e+1) (by omega) le
 have q:=jo L (e+1) le;rw[f] at q ⊢;rw[getD_at b] at c;have g:=kH L i b;rw[if_pos c] at g;rcases Nat.lt_trichotomy i d with a|a|a
 ·have:=lI L (i:=i+1) (j:=d) (by omega);omega
 ·omega
 ·have:=lI L (i:=d+1) (j:=i) (by omega);omega
namespace Rp
variable {r:Rp}
theorem QG (g:List Int):(r.turn g).log=r.log:=by unfold turn;dsimp only;split <;> rfl
theorem Nl (g:List Int):(r.turn g).decided=r.decided:=by unfold turn;dsimp only;split <;> rfl
theorem tn_ep (g:List Int):(r.turn g).epoch=r.epoch+1:=by unfold turn;dsimp only;split <;> rfl
theorem tn_id (g:List Int):(r.turn g).id=r.id:=by unfold turn;dsimp only;split <;> rfl
theorem gN (e:En):(r.carried e).log=r.log:=by unfold carried;split <;> rfl
theorem fU (e:En):(r.carried e).decided=r.decided+1:=by unfold carried;split <;> rfl
theorem jd (e:En):(r.carried e).epoch=r.epoch:=by unfold carried;split <;> rfl
theorem yc (e:En):(r.carried e).status=r.status:=by unfold carried;split <;> rfl
theorem uP:∀ (f:Nat) (r:Rp) (p:Int),(dZ f r p).log=r.log
 | 0,_,_=>rfl
 | f+1,r,p=>by
  unfold dZ
  split
  ·dsimp only
   split
   ·rw[QG,gN]
   ·rw[uP,gN]
  ·rfl
theorem uO:∀ (f:Nat) (r:Rp) (p:Int),r.decided≤(dZ f r p).decided
 | 0,_,_=>Nat.le_refl _
 | f+1,r,p=>by
  unfold dZ
  split
  ·dsimp only
   split
   ·rw[Nl,fU];omega
   ·have:=uO f (r.carried (r.log.getD r.decided (0,0,⟨#[]⟩))) p
    rw[fU] at this;omega
  ·exact Nat.le_refl _
theorem pV:∀ (f:Nat) (r:Rp) (p:Int),(regs (r.log.take p.toNat):Int)≤r.epoch→(dZ f r p).epoch=r.epoch∧(dZ f r p).status=r.status
 | 0,_,_,_=>⟨rfl,rfl⟩
 | f+1,r,p,h=>by
  unfold dZ
  split
  ·rename_i q;dsimp only;have m:=lI r.log (i:=r.decided+1) (j:=p.toNat) (by omega)
   rw[if_neg (by unfold turns;rw[jd,gN,fU];simp;intro;omega)]
   have:=pV f (r.carried (r.log.getD r.decided (0,0,⟨#[]⟩))) p (by rw[gN,jd];exact h)
   rw[jd,yc] at this;exact this
  ·exact⟨rfl,rfl⟩
end Rp
section
variable {L:List En} {T:Wt} {G:List ByteArray} {B:List Int} {r r1:Rp}
theorem xZ (c:Cs L T G B r r1) {d':Nat} (hd:r1.decided<r1.log.length) (h1:r1.decided<d') (h2:d'≤L.length) (h3:r1.log.take d'=L.take d') :
  ∀ o∈(r1.carried (r1.log.getD r1.decided (0,0,⟨#[]⟩))).out,o∈r.out∨OI L T G B r.n r.id o:=by
 have e:=getD_take h3 h1;unfold Rp.carried
 split
 ·intro o ho;rcases List.mem_append.1 ho with q|q
  ·exact c.out o q
  ·simp only[List.mem_cons,List.not_mem_nil,or_false] at q;subst q;refine .inr (.inr (.inl ⟨r1.decided,by omega,?_,?_⟩))
   ·rw[← e]
   ·rw[← e,← pK h3 (by omega:r1.decided≤d'),← c.sv]
 ·exact c.out
theorem Cs.turned (hG:GI L G r.n) (c:Cs L T G B r r1) (hs:r1.status=1∨r1.status=2∨r1.status=5) (hd:r1.decided<r1.log.length) (h2:r1.decided+1≤L.length) (h3:r1.log.take (r1.decided+1)=L.take (r1.decided+1))
  (ht:(r1.carried (r1.log.getD r1.decided (0,0,⟨#[]⟩))).turns (r1.log.getD r1.decided (0,0,⟨#[]⟩))=true)
  (hb:((r1.carried (r1.log.getD r1.decided (0,0,⟨#[]⟩))).turn (Rp.qE (r1.log.getD r1.decided (0,0,⟨#[]⟩)) r1.n)).status=1→r1.epoch+1≤B.getD r.id.toNat (-1)) :
  Cs L T G B r ((r1.carried (r1.log.getD r1.decided (0,0,⟨#[]⟩))).turn (Rp.qE (r1.log.getD r1.decided (0,0,⟨#[]⟩)) r1.n)):=by
 have E:r1.status≠3:=by omega
 have dr:=c.dr E;have F:=c.ri.lg hs;have i:=xZ c hd (d':=r1.decided+1) (by omega) h2 h3
 have b:=Rp.lD c.ok hd (r1.log.getD r1.decided (0,0,⟨#[]⟩));have p:(r1.carried (r1.log.getD r1.decided (0,0,⟨#[]⟩))).sv=svF (r1.log.take (r1.decided+1)):=by
  rw[yT _ _ hd,← c.sv,← getD_at hd];unfold Rp.carried;split <;> rfl
 have t:r1.log.getD r1.decided (0,0,⟨#[]⟩)=L.getD r1.decided en0:=getD_take h3 (by omega)
 have d:r1.decided<L.length:=by omega
 have u:=Rp.wK b.ok ht;unfold Rp.turns at ht;simp only[Bool.and_eq_true,decide_eq_true_eq,Rp.jd,Rp.gN,Rp.fU] at ht;obtain⟨P,X⟩:=ht
 have s:=kH r1.log r1.decided hd;rw[← getD_at hd,if_pos P] at s;have aa:=c.ok.ep.1;have e1:regs (r1.log.take r1.decided)=r1.epoch.toNat:=by omega
 have l:fA L[r1.decided]=true:=by rw[← getD_at d,← t];exact P
 have R:regs (L.take r1.decided)=r1.epoch.toNat:=by rw[← pK h3 (by omega),e1]
 have S:=Nw d l R;have U:=hG.at d l;rw[R] at U;have H:(r1.epoch+1).toNat=r1.epoch.toNat+1:=by omega
 have sL:=kH L r1.decided d;rw[if_pos l] at sL;have C:r1.epoch+1≤regs L:=by have:=fV L (r1.decided+1);omega
 have V:Rp.qE (r1.log.getD r1.decided (0,0,⟨#[]⟩)) r1.n=dN (G.getD (r1.epoch+1).toNat ⟨#[]⟩):=by
  unfold Rp.qE gJ;rw[t,getD_at d,← U,← H,if_pos];rw[c.n];exact hG.grp (by omega) C
 have w:Lg L T (r1.epoch+1) r1.log:=⟨by omega,C,by rw[H,S];omega,by rw[H,S];exact h3,by have:=F.rg;omega,F.jw,F.pv⟩
 rw[V] at hb ⊢;have K:fG (r1.carried (r1.log.getD r1.decided (0,0,⟨#[]⟩))).n (dN (G.getD (r1.epoch+1).toNat ⟨#[]⟩)):=by rw[← V,b.n];exact rZ _ _
 have x:=Rp.vK b.ok u K;have f:(r1.carried (r1.log.getD r1.decided (0,0,⟨#[]⟩))).id=r1.id:=b.id
 have j:(r1.carried (r1.log.getD r1.decided (0,0,⟨#[]⟩))).epoch=r1.epoch:=Rp.jd _
 have m:(r1.carried (r1.log.getD r1.decided (0,0,⟨#[]⟩))).log=r1.log:=Rp.gN _
 have o:(r1.carried (r1.log.getD r1.decided (0,0,⟨#[]⟩))).decided=r1.decided+1:=Rp.fU _
 have h:(r1.carried (r1.log.getD r1.decided (0,0,⟨#[]⟩))).answers=r1.answers:=by unfold Rp.carried;split <;> rfl
 have W:(r1.carried (r1.log.getD r1.decided (0,0,⟨#[]⟩))).n=r1.n:=b.n
 generalize r1.carried (r1.log.getD r1.decided (0,0,⟨#[]⟩))=Q at *;generalize hgg:dN (G.getD (r1.epoch+1).toNat ⟨#[]⟩)=g at *;have z:(regs (Q.log.take Q.decided):Int)≤Q.epoch+1:=by rw[m,o,j];omega
 by_cases D:gW g Q.id=true
 ·have eq:Q.turn g=(({ ({ Q with old:=Q.grp,grp:=g,epoch:=Q.epoch+1 }:Rp).begin_ 0 with started:=st0 }:Rp).bF).dz:=by unfold Rp.turn;dsimp only;rw[if_pos D]
  have c3:Cs L T G B r { ({ Q with old:=Q.grp,grp:=g,epoch:=Q.epoch+1 }:Rp).begin_ 0 with started:=st0 } :=
   ⟨x,W.trans c.n,f.trans c.id,⟨by show Jw T Q.log∧∀ e∈Q.log,∃ y∈T,y.1=e;rw[m];exact c.ri.jl,fun a A=>⟨(c.ri.an a (by rw[← h];exact A)).1,by show a.frm≠Q.id;rw[f];exact (c.ri.an a (by rw[← h];exact A)).2⟩,fun v M=>by simp[Rp.begin_] at M,fun _=>⟨fun _=>.inl rfl,fun _=>D⟩,fun _=>⟨by show Q.epoch+1≤_;rw[j];exact C,by show g=dN (G.getD (Q.epoch+1).toNat ⟨#[]⟩);rw[j,hgg]⟩,fun _=>by show Lg L T (Q.epoch+1) Q.log;rw[j,m];exact w,fun q=>by simp[Rp.begin_] at q⟩,by show Q.sv=svF (Q.log.take Q.decided);rw[m,o];exact p,fun _=>z,i⟩
  have N:(Q.turn g).status=1:=by rw[eq];rfl
  rw[eq];exact (c3.bF (.inl rfl)).dz (by show Q.epoch+1≤_;rw[j];exact hb N)
 ·have eq:Q.turn g=({ ({ ({ Q with old:=Q.grp,grp:=g,epoch:=Q.epoch+1 }:Rp).begin_ 0 with started:=st0 }:Rp) with status:=5 }:Rp).bF:=by unfold Rp.turn;dsimp only;rw[if_neg D]
  have c3:Cs L T G B r { ({ ({ Q with old:=Q.grp,grp:=g,epoch:=Q.epoch+1 }:Rp).begin_ 0 with started:=st0 }:Rp) with status:=5 } :=
   ⟨(Rp.fM x (s:=5) (by decide)).ok,W.trans c.n,f.trans c.id,⟨by show Jw T Q.log∧∀ e∈Q.log,∃ y∈T,y.1=e;rw[m];exact c.ri.jl,fun a A=>⟨(c.ri.an a (by rw[← h];exact A)).1,by show a.frm≠Q.id;rw[f];exact (c.ri.an a (by rw[← h];exact A)).2⟩,fun v M=>by simp[Rp.begin_] at M,fun _=>⟨fun q=>absurd q D,fun q=>by simp at q⟩,fun _=>⟨by show Q.epoch+1≤_;rw[j];exact C,by show g=dN (G.getD (Q.epoch+1).toNat ⟨#[]⟩);rw[j,hgg]⟩,fun _=>by show Lg L T (Q.epoch+1) Q.log;rw[j,m];exact w,fun _ k hk=>by
    have:st0.getD k false=false:=by unfold st0;rw[List.getD_eq_getElem?_getD];cases hq:(List.replicate 7 false)[k]? with
     | none=>rfl
     | some v=>have:=List.mem_of_getElem? hq;rw[List.mem_replicate] at this;rw[this.2];rfl
    rw[show st0.getD k false=true from hk] at this;cases this⟩,by show Q.sv=svF (Q.log.take Q.decided);rw[m,o];exact p,fun _=>z,i⟩
  rw[eq];exact c3.bF (.inr (.inr rfl))
theorem zo (hG:GI L G r.n):∀ (f:Nat) (r1:Rp) (p:Int),Cs L T G B r r1→(r1.status=1∨r1.status=2∨r1.status=5)→Fin L B (Rp.dZ f r1 p)→Cs L T G B r (Rp.dZ f r1 p)
 | 0,_,_,c,_,_=>c
 | f+1,r1,p,c,hs,F=>by
  have fl:=Rp.uP (f+1) r1 p;have b:=F.dl;have a:=F.dt;have e:=F.bg;rw[fl] at a;unfold Rp.dZ at F b a e ⊢;by_cases q:(r1.decided:Int)<p∧r1.decided<r1.log.length
  ·rw[if_pos q] at F b a e ⊢;dsimp only at F b a e ⊢;by_cases g:(r1.carried (r1.log.getD r1.decided (0,0,⟨#[]⟩))).turns (r1.log.getD r1.decided (0,0,⟨#[]⟩))=true
   ·rw[if_pos g] at F b a e ⊢;rw[Rp.Nl,Rp.fU] at b a;refine Cs.turned hG c hs q.2 b a g fun m=>?_
    have:=e m
    rw[Rp.tn_ep,Rp.tn_id,Rp.jd] at this;have j:(r1.carried (r1.log.getD r1.decided (0,0,⟨#[]⟩))).id=r.id:=(Rp.lD c.ok q.2 _).id.trans c.id
    rw[j] at this;exact this
   ·rw[if_neg g] at F b a e ⊢;have ge:=Rp.uO f (r1.carried (r1.log.getD r1.decided (0,0,⟨#[]⟩))) p;rw[Rp.fU] at ge;have i:=xZ c q.2 (d':=(Rp.dZ f (r1.carried (r1.log.getD r1.decided (0,0,⟨#[]⟩))) p).decided) (by omega) b a
    have d:=Rp.lD c.ok q.2 (r1.log.getD r1.decided (0,0,⟨#[]⟩));have k:(r1.carried (r1.log.getD r1.decided (0,0,⟨#[]⟩))).sv=svF (r1.log.take (r1.decided+1)):=by
     rw[yT _ _ q.2,← c.sv,← getD_at q.2];unfold Rp.carried;split <;> rfl
    have o:=c.dr (by omega)
    have s:=kH r1.log r1.decided q.2;unfold Rp.turns at g;simp only[Bool.and_eq_true,decide_eq_true_eq,Rp.jd,Rp.gN,Rp.fU] at g;rw[← getD_at q.2] at s;refine zo hG f _ p ⟨d.ok,d.n.trans c.n,d.id.trans c.id,?_,?_,fun _=>?_,i⟩ (by rw[Rp.yc];exact hs) F
    ·have h:=c.ri;unfold Rp.carried
     split
     ·exact⟨h.jl,h.an,h.vo,h.me,h.gp,h.lg,h.st⟩
     ·exact⟨h.jl,h.an,h.vo,h.me,h.gp,h.lg,h.st⟩
    ·unfold Rp.SvI;rw[k,Rp.gN,Rp.fU]
    ·rw[Rp.gN,Rp.fU,Rp.jd];by_cases l:fA (r1.log.getD r1.decided (0,0,⟨#[]⟩))=true
     ·rw[if_pos l] at s;have:¬r1.epoch<(regs (r1.log.take (r1.decided+1)):Int):=fun h=>g ⟨l,h⟩
      omega
     ·rw[if_neg l] at s;omega
  ·rw[if_neg q];exact c
theorem Cs.decide (hG:GI L G r.n) (c:Cs L T G B r r1) (hs:r1.status=1∨r1.status=2∨r1.status=5) {p:Int} (F:Fin L B (r1.aV p)):Cs L T G B r (r1.aV p):=zo hG _ _ p c hs F
end
structure DL (L:List En) (r:Rp):Prop where
 dl:r.decided≤L.length
 dt:r.log.take r.decided=L.take r.decided
theorem II {L:List En} {r:Rp} {e:Int} (D:DL L r) (dr:(regs (r.log.take r.decided):Int)≤e) {l:List En} {d' d0:Nat} (h1:l.take d'=L.take d') (h2:d0≤d') (h3:d0≤r.decided):(regs (l.take d0):Int)≤e:=by
 rw[pK h1 h2,← pK D.dt h3];have:=lI r.log h3
 omega
structure MIn (L:List En) (T:Wt) (G:List ByteArray) (B:List Int) (r:Rp) (m:Pm):Prop where
 ok:dF r.n m
 mi:MI L T G B m
 ne:m.frm≠r.id
namespace Rp
variable {r:Rp}
theorem qM (k:Int):(r.bY k).log=r.log:=by unfold bY aV;rw[uP];split <;> rfl
theorem tV (k:Int):r.decided≤(r.bY k).decided:=by
 unfold bY aV
 split
 ·exact uO _ _ _
 ·exact uO _ (r.ack r.gZ) _
theorem NJ (k:Int):(r.aV k).log=r.log:=uP _ _ _
theorem PZ (k:Int):r.decided≤(r.aV k).decided:=uO _ _ _
theorem KN (v:Int):(r.want v).status=2∧(r.want v).epoch=r.epoch∧(r.want v).log=r.log∧(r.want v).decided=r.decided∧(r.want v).id=r.id∧(r.want v).n=r.n:=by
 unfold want kN
 split <;> exact⟨rfl,rfl,rfl,rfl,rfl,rfl⟩
end Rp
section
variable {L:List En} {T:Wt} {G:List ByteArray} {B:List Int} {r r1:Rp} {m:Pm}
theorem Cs.bY (hG:GI L G r.n) (c:Cs L T G B r r1) (hs:r1.status=1∨r1.status=2) {k:Int} (F:Fin L B (r1.bY k)):Cs L T G B r (r1.bY k):=by
 unfold Rp.bY at F ⊢;by_cases a:r1.dG=true
 ·rw[if_pos a] at F ⊢;exact c.decide hG (by omega) F
 ·rw[if_neg a] at F ⊢;obtain⟨b,d,e⟩:=c.gZ hG hs (by simpa using a)
  exact (c.ack b d e).decide hG (show r1.status=1∨r1.status=2∨r1.status=5 by omega) F
theorem Cs.bP (c:Cs L T G B r r1) (hs:r1.status=1∨r1.status=2∨r1.status=5) (hi:MIn L T G B r m):Cs L T G B r (r1.bP m):=by
 unfold Rp.bP
 split
 ·exact c.tell hs hi.ok.f0 hi.ok.f1 hi.ne
 ·split
  ·rename_i q;exact c.jL hs (by have:=hi.ok.e0;omega) hi.ok.f0 hi.ok.f1 hi.ne
  ·split
   ·exact c.bare hi.ok.f0 hi.ok.f1 hi.ne (by omega)
   ·exact c
theorem Cs.count (hG:GI L G r.n) (c:Cs L T G B r r1) (D:DL L r1) (hs:r1.status=1∨r1.status=2) (hk:m.kind=118) (hi:MIn L T G B r m) (he:m.epoch=r1.epoch) (F:Fin L B (r1.count m)):Cs L T G B r (r1.count m):=by
 have a:=Rp.lV c.ok hk (by rw[c.n];exact hi.ok)
 have e:∀ v∈aK r1.aI m,v.epoch=r1.epoch∧Lg L T v.epoch v.log:=fun v e=>by
  rcases iH e with rfl|q
  ·exact⟨he,hi.mi.v hk⟩
  ·exact c.ri.vo v q
 have c1:=c.aI a e;unfold Rp.count at F ⊢;dsimp only at F ⊢;by_cases j:((aK r1.aI m).length:Int)≤eP r1.grp
 ·rw[if_pos j];exact c1
 ·rw[if_neg j] at F ⊢;have f:aK r1.aI m≠[]:=fun d=>by
   unfold aK at d
   split at d
   ·rename_i ha;rw[List.map_eq_nil_iff] at d;rw[d] at ha;simp at ha
   ·simp at d
  obtain⟨b,g,h⟩:=BM _ f
  rw[h] at F ⊢;simp only[Option.getD_some] at F ⊢;obtain⟨b1,k⟩:=e b g
  rw[b1] at k;have o:oD r1.n b.log:=(a.vo b g).2.lg (.inl (a.vo b g).1)
  unfold Rp.counted at F ⊢;have p:((((({ r1 with aI:=aK r1.aI m }:Rp).over b.log).begin_ r1.view).bF).aV (cK ((aK r1.aI m).map (·.commit)))).log=b.log:=Rp.NJ _
  have i:min r1.decided b.log.length≤((((({ r1 with aI:=aK r1.aI m }:Rp).over b.log).begin_ r1.view).bF).aV (cK ((aK r1.aI m).map (·.commit)))).decided:=Rp.PZ (r:=((({ r1 with aI:=aK r1.aI m }:Rp).over b.log).begin_ r1.view).bF) _
  have s:=II D (c.dr (by omega)) (l:=b.log) (by have:=F.dt;rw[p] at this;exact this) i (Nat.min_le_left _ _)
  have c2:=c1.over (show r1.status=1∨r1.status=2∨r1.status=5 by omega) o k s
  have c3:=c2.begin (v:=r1.view) hs c.ok.vi;exact (c3.bF (.inl rfl)).decide hG (.inl rfl) F
theorem Cs.bR (hG:GI L G r.n) (c:Cs L T G B r r1) (D:DL L r1) (hs:r1.status=1∨r1.status=2) (hi:MIn L T G B r m) (he:m.epoch=r1.epoch) (F:Fin L B (r1.bR m)):Cs L T G B r (r1.bR m):=by
 unfold Rp.bR at F ⊢;by_cases b:r1.mem m.frm=true
 ·rw[if_pos b] at F ⊢;have d:=c.want hG hs (v:=m.view) ⟨hi.ok.v0,hi.ok.v1⟩;obtain⟨f,g,h,e,i,j⟩:=Rp.KN (r:=r1) m.view
  by_cases a:((m.kind==118)&&(r1.want m.view).dG)=true
  ·rw[if_pos a] at F ⊢;simp only[Bool.and_eq_true,beq_iff_eq] at a;exact d.count hG ⟨by rw[e];exact D.dl,by rw[h,e];exact D.dt⟩ (.inr f) a.1 hi (by rw[g];exact he) F
  ·rw[if_neg a];exact d
 ·rw[if_neg b];exact c
theorem Cs.aT (hG:GI L G r.n) (c:Cs L T G B r r1) (D:DL L r1) (hs:r1.status=1∨r1.status=2) (hi:MIn L T G B r m) (he:m.epoch=r1.epoch) (F:Fin L B (r1.aT m)):Cs L T G B r (r1.aT m):=by
 unfold Rp.aT at F ⊢;by_cases b:r1.mem m.frm=true
 ·rw[if_pos b] at F ⊢;by_cases d:m.kind=112∨m.kind=99
  ·rw[if_pos d];exact c.bare hi.ok.f0 hi.ok.f1 hi.ne (by omega)
  ·rw[if_neg d] at F ⊢;by_cases e:m.kind=104
   ·rw[if_pos e];exact c.dJ hG hs
   ·rw[if_neg e] at F ⊢;by_cases a:m.kind=118∧r1.dG=true
    ·rw[if_pos a] at F ⊢;exact c.count hG D hs a.1 hi he F
    ·rw[if_neg a];exact c
 ·rw[if_neg b];exact c
theorem Cs.aF (hG:GI L G r.n) (c:Cs L T G B r r1) (D:DL L r1) (hs:r1.status=1∨r1.status=2) (hk:m.kind=115) (hi:MIn L T G B r m) (he:m.epoch=r1.epoch) (F:Fin L B (r1.aF m)):Cs L T G B r (r1.aF m):=by
 have lk:oD r1.n m.log:=by rw[c.n];exact Rp.jN hi.ok (.inr (.inl hk))
 obtain⟨b,_,_⟩:=hi.mi.s (.inl hk)
 rw[he] at b;unfold Rp.aF at F ⊢;by_cases g:r1.view<m.view∨(m.view=r1.view∧r1.status=2)
 ·rw[if_pos g] at F ⊢;have d:(((r1.begin_ m.view).over m.log).bY m.commit).log=m.log:=Rp.qM _
  have a:min r1.decided m.log.length≤(((r1.begin_ m.view).over m.log).bY m.commit).decided:=Rp.tV (r:=(r1.begin_ m.view).over m.log) _
  have e:=II D (c.dr (by omega)) (l:=m.log) (by have:=F.dt;rw[d] at this;exact this) a (Nat.min_le_left _ _)
  have c1:=c.begin hs (v:=m.view) ⟨hi.ok.v0,hi.ok.v1⟩;exact (c1.over (.inl rfl) lk b e).bY hG (.inl rfl) F
 ·rw[if_neg g] at F ⊢;by_cases h:m.view<r1.view
  ·rw[if_pos h] at F ⊢
   split
   ·exact c.tell (by omega) hi.ok.f0 hi.ok.f1 hi.ne
   ·exact c
  ·rw[if_neg h] at F ⊢;have f:r1.status=1:=by omega
   by_cases i:r1.dG=false∧r1.log.length<m.log.length
   ·rw[if_pos i] at F ⊢;have d:((r1.over m.log).bY m.commit).log=m.log:=Rp.qM _
    have a:min r1.decided m.log.length≤((r1.over m.log).bY m.commit).decided:=Rp.tV (r:=r1.over m.log) _
    have e:=II D (c.dr (by omega)) (l:=m.log) (by have:=F.dt;rw[d] at this;exact this) a (Nat.min_le_left _ _)
    exact (c.over (by omega) lk b e).bY hG hs F
   ·rw[if_neg i] at F ⊢;by_cases j:r1.mem m.frm=true
    ·rw[if_pos j];exact c
    ·rw[if_neg j] at F ⊢;have:=F.bg f
     exact c.bareT hi.ok.f0 hi.ok.f1 hi.ne (by rw[← c.id];exact this)
theorem Cs.BR (c:Cs L T G B r r1) (hk:m.kind=115∨m.kind=97) (hm:dF r1.n m) (hi:MI L T G B m) (hmem:gW m.grp r1.id=true) (hd:(regs (m.log.take (min r1.decided m.log.length)):Int)≤m.epoch):Cs L T G B r ((r1.enter m).over m.log):=by
 obtain⟨a,e,_⟩:=hi.s hk
 have b:=Rp.iW c.ok hk hm;have d:=(Rp.eu b (l:=m.log) (Rp.jN hm (by rcases hk with q|q;exact .inr (.inl q);exact .inr (.inr q)))).ok
 exact⟨d,c.n,c.id,⟨⟨a.jw,a.pv⟩,c.ri.an,fun v f=>by simp[Rp.over,Rp.enter,Rp.begin_] at f,fun _=>⟨fun _=>.inl rfl,fun _=>hmem⟩,fun _=>⟨a.le,e⟩,fun _=>a,fun q=>by simp[Rp.over,Rp.enter,Rp.begin_] at q⟩,rfl,fun _=>hd,c.out⟩
theorem Cs.away (c:Cs L T G B r r1) (hk:m.kind=115∨m.kind=97) (hm:dF r1.n m) (hi:MI L T G B m) (hmem:¬gW m.grp r1.id=true) (hd:(regs (r1.log.take r1.decided):Int)≤m.epoch):Cs L T G B r { r1.enter m with status:=4 }:=by
 obtain⟨b,d,_⟩:=hi.s hk
 have a:=Rp.iW c.ok hk hm;exact⟨(Rp.fM a (s:=4) (by decide)).ok,c.n,c.id,⟨c.ri.jl,c.ri.an,fun v e=>by simp[Rp.enter,Rp.begin_] at e,fun _=>⟨fun q=>absurd q hmem,fun q=>by simp at q⟩,fun _=>⟨b.le,d⟩,fun q=>by simp at q,fun q=>by simp at q⟩,c.sv,fun _=>hd,c.out⟩
theorem QC (k:Nat):st0.getD k false=false:=by
 unfold st0;rw[List.getD_eq_getElem?_getD];cases hq:(List.replicate 7 false)[k]? with
 | none=>rfl
 | some v=>have:=List.mem_of_getElem? hq;rw[List.mem_replicate] at this;rw[this.2];rfl
theorem Cs.bI (hG:GI L G r.n) (c:Cs L T G B r r1) (D:DL L r1) (hs:r1.status≠3) (hk:m.kind=115) (hi:MIn L T G B r m) (he:r1.epoch<m.epoch) (F:Fin L B (r1.bI m)):Cs L T G B r (r1.bI m):=by
 have h:dF r1.n m:=by rw[c.n];exact hi.ok
 obtain⟨x,A,y⟩:=hi.mi.s (.inl hk)
 have P:=c.dr hs;unfold Rp.bI at F ⊢;by_cases d:(r1.enter m).mem r1.id=true
 ·rw[if_pos d] at F ⊢;have C:((((r1.enter m).over m.log).dz).bY m.commit).log=m.log:=Rp.qM _
  have i:min r1.decided m.log.length≤((((r1.enter m).over m.log).dz).bY m.commit).decided:=Rp.tV (r:=((r1.enter m).over m.log).dz) _
  have E:=II D (e:=m.epoch) (by omega) (l:=m.log) (by have:=F.dt;rw[C] at this;exact this) i (Nat.min_le_left _ _)
  have c1:=c.BR (.inl hk) h hi.mi d E;have b:((((r1.enter m).over m.log).dz).bY m.commit).epoch=m.epoch∧((((r1.enter m).over m.log).dz).bY m.commit).status=1:=by
   unfold Rp.bY Rp.aV
   split
   ·exact Rp.pV _ (((r1.enter m).over m.log).dz) _ y
   ·exact Rp.pV _ ((((r1.enter m).over m.log).dz).ack (((r1.enter m).over m.log).dz).gZ) _ y
  have f:=F.bg b.2;rw[b.1] at f;have j:((((r1.enter m).over m.log).dz).bY m.commit).id=r.id:=(Rp.mW (c1.dz (B:=B) (by
   have H:((((r1.enter m).over m.log).dz).bY m.commit).id=r1.id:=by
    have k:=Rp.mW (r:=((r1.enter m).over m.log).dz) c1.ok m.commit;exact k.id
   rw[H,c.id] at f;exact f)).ok m.commit).id.trans c.id
  rw[j] at f;exact (c1.dz f).bY hG (.inl rfl) F
 ·rw[if_neg d] at F ⊢;by_cases z:r1.jP m=true
  ·rw[if_pos z] at F ⊢;unfold Rp.leave at F ⊢;have p:1≤m.epoch:=by have:=c.ok.ep.1;omega
   obtain⟨Q,t,R⟩:=x.upto p
   have lk:oD r1.n m.log:=Rp.jN h (.inr (.inl hk))
   have a:=Rp.iW c.ok (.inl hk) h;have u:Ok (r1.enter m).leave0:=⟨a.n3,a.n7,a.i0,a.i1,a.ll,a.lb,by simp[Rp.leave0],a.ep,by simp[Rp.leave0],by simp[Rp.leave0],a.g,a.o,a.lg,a.le,a.dc,a.vo,a.vn,a.an,a.nn⟩
   have w:=(Rp.eu u (l:=dP m.log m.epoch) (lk.upto _)).ok;have c1:Cs L T G B r ((r1.enter m).leave0.over (dP m.log m.epoch)) :=
    ⟨w,c.n,c.id,⟨⟨t.jw,t.pv⟩,c.ri.an,fun v K=>by simp[Rp.over,Rp.leave0,Rp.enter,Rp.begin_] at K,fun _=>⟨fun q=>absurd q d,fun q=>by simp[Rp.over,Rp.leave0] at q⟩,fun _=>⟨x.le,A⟩,fun _=>t,fun _ k b=>by
     have:=QC k
     rw[show st0.getD k false=true from b] at this;cases this⟩,rfl,fun _=>by
      have M:=fV (dP m.log m.epoch) (min r1.decided (dP m.log m.epoch).length)
      show (regs ((dP m.log m.epoch).take (min r1.decided (dP m.log m.epoch).length)):Int)≤m.epoch
      omega,c.out⟩
   have N:Fin L B (((r1.enter m).leave0.over (dP m.log m.epoch)).aV m.commit):=⟨F.dl,F.dt,F.bg⟩
   have c2:=c1.decide hG (.inr (.inr rfl)) N;have b:=Rp.pV ((dP m.log m.epoch).length-((r1.enter m).leave0.over (dP m.log m.epoch)).decided) ((r1.enter m).leave0.over (dP m.log m.epoch)) m.commit (by
    have M:=fV (dP m.log m.epoch) m.commit.toNat
    show (regs ((dP m.log m.epoch).take m.commit.toNat):Int)≤m.epoch
    omega)
   exact c2.bF (.inr (.inr b.2))
  ·rw[if_neg z];exact c.away (.inl hk) h hi.mi d (by omega)
theorem Cs.dQ (hG:GI L G r.n) (c:Cs L T G B r r1) (D:DL L r1) (hs:r1.status≠3) (hk:m.kind=115) (hi:MIn L T G B r m) (F:Fin L B (r1.dQ m)):Cs L T G B r (r1.dQ m):=by
 unfold Rp.dQ at F ⊢;by_cases a:r1.epoch<m.epoch
 ·rw[if_pos a] at F ⊢;exact c.bI hG D hs hk hi a F
 ·rw[if_neg a] at F ⊢;by_cases b:r1.carries=true
  ·rw[if_pos b] at F ⊢;have d:r1.status=1∨r1.status=2:=by simpa [Rp.carries] using b
   by_cases e:m.epoch<r1.epoch
   ·rw[if_pos e];exact c.bP (by omega) hi
   ·rw[if_neg e] at F ⊢;exact c.aF hG D d hk hi (by omega) F
  ·rw[if_neg b];exact c
theorem Cs.dV (c:Cs L T G B r r1) (hk:m.kind=116) (hi:MIn L T G B r m):Cs L T G B r (r1.dV m):=by
 unfold Rp.dV
 split
 ·rename_i q;simp only[Bool.and_eq_true,beq_iff_eq] at q;obtain⟨⟨f,i⟩,j⟩:=q
  have h:=c.ok;have d:∀ k:Nat,(r1.started.set m.frm.toNat true).getD k false=true→gW r1.grp k=true∧r1.epoch≤B.getD k (-1):=fun k a=>by
   by_cases e:m.frm.toNat=k
   ·subst e;have l:((m.frm.toNat:Nat):Int)=m.frm:=Int.toNat_of_nonneg hi.ok.f0
    refine⟨by rw[l];exact j,?_⟩
    rw[← i];exact hi.mi.t hk
   ·rw[List.getD_eq_getElem?_getD,List.getElem?_set_ne e,← List.getD_eq_getElem?_getD] at a;exact c.ri.st f k a
  have b:Ok { r1 with started:=r1.started.set m.frm.toNat true }:=⟨h.n3,h.n7,h.i0,h.i1,h.ll,h.lb,h.st,h.ep,h.vi,h.no,h.g,h.o,h.lg,h.le,h.dc,h.vo,h.vn,h.an,h.nn⟩
  dsimp only
  split
  ·exact⟨(Rp.fM b (s:=4) (by decide)).ok,c.n,c.id,⟨c.ri.jl,c.ri.an,c.ri.vo,fun _=>⟨fun q=>by have:=(c.ri.me (by omega)).1 q;omega,fun q=>by simp at q⟩,fun _=>c.ri.gp (by omega),fun q=>by simp at q,fun q=>by simp at q⟩,c.sv,fun _=>c.dr (by omega),c.out⟩
  ·exact⟨b,c.n,c.id,⟨c.ri.jl,c.ri.an,c.ri.vo,c.ri.me,c.ri.gp,c.ri.lg,fun _=>d⟩,c.sv,c.dr,c.out⟩
 ·exact c
theorem Cs.answer (c:Cs L T G B r r1) (hk:m.kind=114) (hi:MIn L T G B r m):Cs L T G B r (r1.answer m):=by
 unfold Rp.answer
 split
 ·rename_i q;have b:r1.status=1:=by simpa using q
  have h:=c.ok;have d:0≤m.lives.getD m.frm.toNat 0∧m.lives.getD m.frm.toNat 0≤999:=by
   by_cases a:m.frm.toNat<m.lives.length
   ·rw[List.getD_eq_getElem?_getD,List.getElem?_eq_getElem a];exact hi.ok.lb _ (List.getElem_mem a)
   ·rw[List.getD_eq_getElem?_getD,List.getElem?_eq_none (by omega)];exact⟨by decide,by decide⟩
  obtain⟨e,f,i⟩:=(c.zZ (.inl b)).s (.inl rfl)
  exact c.send hi.ok.f0 hi.ok.f1 hi.ne (c.pmk ⟨by simp,by simp,h.i0,h.i1,h.ll,h.lb,h.ep.1,h.ep.2,h.vi.1,h.vi.2,by simp,by simp,by simp,by simp,fun _=>d,fun _=>⟨by simp[Rp.aC],by have:=h.dc;simp[Rp.aC];omega⟩,fun _=>⟨h.lg,h.le⟩,fun _=>⟨h.g,h.o⟩⟩) (by unfold RK;simp) c.id
   ⟨fun q=>by simp at q,fun q=>by simp at q,fun q=>by simp at q,fun _=>⟨e,f,i⟩,fun q=>by simp at q,fun q=>by simp at q⟩
 ·exact c
theorem Cs.bZ (c:Cs L T G B r r1) (hi:MIn L T G B r m):Cs L T G B r (r1.bZ m):=by
 unfold Rp.bZ
 split
 ·exact c.bare hi.ok.f0 hi.ok.f1 hi.ne (by omega)
 ·split
  ·rename_i q;simp only[Bool.and_eq_true,beq_iff_eq] at q;exact c.tell (.inr (.inr q.1.2)) hi.ok.f0 hi.ok.f1 hi.ne
  ·exact c
end
theorem Jj (l:List En):∀ k,k≤l.length→(svF (l.take k)).ses.length=9
 | 0,_=>by simp[svF,sv0]
 | k+1,h=>by
  rw[yT l k (by omega)]
  show ((svF (l.take k)).ses.set _ _).length=9
  rw[List.length_set];exact Jj l k (by omega)
theorem Jf (l:List En) (c:Int) (h1:1≤c) (h9:c≤9) (hl:∀ e∈l,1≤e.1∧e.1≤9):∀ k,k≤l.length→(kr (svF (l.take k)) c).1=0∨∃ j,∃ h:j<l.length,j<k∧l[j].1=c∧kr (svF (l.take k)) c=(l[j].2.1,(doS (svF (l.take j)).vals l[j].2.2).2)
 | 0,_=>.inl (by
   unfold kr;rw[if_neg (by omega)]
   simp only[List.take_zero,svF,sv0,List.foldl_nil];rw[List.getD_eq_getElem?_getD,List.getElem?_replicate];split <;> rfl)
 | k+1,h=>by
  have ih:=Jf l c h1 h9 hl k (by omega)
  have a:k<l.length:=by omega
  have i:=Jj l k (by omega)
  have m:=hl _ (List.getElem_mem a);have e:svF (l.take (k+1))=l8 (svF (l.take k)) l[k]:=yT l k a
  unfold kr at ih ⊢;rw[if_neg (by omega)] at ih ⊢
  rw[e];unfold l8 zh;simp only
  by_cases b:l[k].1=c
  ·refine .inr ⟨k,a,by omega,b,?_⟩
   rw[b,List.getD_eq_getElem?_getD,List.getElem?_set_self (by omega)]
   rfl
  ·rw[List.getD_eq_getElem?_getD,List.getElem?_set_ne (by omega),← List.getD_eq_getElem?_getD]
   rcases ih with q|⟨j,d,n,f,g⟩
   ·exact .inl q
   ·exact .inr ⟨j,d,by omega,f,g⟩
section
variable {L:List En} {T:Wt} {G:List ByteArray} {B:List Int} {r r1:Rp} {m:Pm}
theorem Cs.resume (hG:GI L G r.n) (c:Cs L T G B r r1) (hs:r1.status=3) (hz:Rp.RcI r1) (hk:m.kind=97) (hm:dF r1.n m) (hi:MI L T G B m) (hne:m.frm≠r.id) (F:Fin L B (r1.resume m)):Cs L T G B r (r1.resume m):=by
 obtain⟨j,k,o,e⟩:=hz hs
 have d:=Rp.lG c.ok (l:=[]) (by simp) (by simp)
 have f:Cs L T G B r { r1 with answers:=[] }:=⟨d,c.n,c.id,⟨c.ri.jl,fun a i=>by simp at i,c.ri.vo,c.ri.me,c.ri.gp,c.ri.lg,c.ri.st⟩,c.sv,c.dr,c.out⟩
 have g:0≤m.epoch:=hm.e0
 unfold Rp.resume at F ⊢;dsimp only at F ⊢;by_cases b:({ r1.enter m with answers:=[] }:Rp).mem r1.id=true
 ·rw[if_pos b] at F ⊢;have c1:Cs L T G B r (({ r1.enter m with answers:=[] }:Rp).over m.log):=f.BR (.inr hk) hm hi b (by
   show (regs (m.log.take (min r1.decided m.log.length)):Int)≤m.epoch
   rw[e];simp[regs];exact g)
  by_cases h:(({ r1.enter m with answers:=[] }:Rp).over m.log).dG=true
  ·rw[if_pos h] at F ⊢;exact c1.decide hG (.inl rfl) F
  ·rw[if_neg h] at F ⊢;exact (c1.ack hm.f0 (by rw[← c.n];exact hm.f1) hne).decide hG (.inl rfl) F
 ·rw[if_neg b];exact f.away (.inr hk) hm hi b (by
   show (regs (r1.log.take r1.decided):Int)≤m.epoch
   rw[e];simp[regs];exact g)
theorem Cs.dH (hG:GI L G r.n) (c:Cs L T G B r r1) (hs:r1.status=3) (hz:Rp.RcI r1) (hk:m.kind=97) (hi:MIn L T G B r m) (F:Fin L B (r1.dH m)):Cs L T G B r (r1.dH m):=by
 have i:dF r1.n m:=by rw[c.n];exact hi.ok
 unfold Rp.dH at F ⊢;by_cases g:m.life=r1.lives.getD r1.id.toNat 0
 ·rw[if_pos g] at F ⊢;dsimp only at F ⊢;have e:=Rp.rz c.ok hk i;have b:∀ a∈aK r1.answers m,MI L T G B a∧a.frm≠r.id:=fun a d=>by
   rcases iH d with rfl|q
   ·exact⟨hi.mi,hi.ne⟩
   ·exact⟨(c.ri.an a q).1,by rw[← c.id];exact (c.ri.an a q).2⟩
  have f:Cs L T G B r { r1 with answers:=aK r1.answers m }:=⟨e,c.n,c.id,⟨c.ri.jl,fun a d=>⟨(b a d).1,by show a.frm≠r1.id;rw[c.id];exact (b a d).2⟩,c.ri.vo,c.ri.me,c.ri.gp,c.ri.lg,c.ri.st⟩,c.sv,c.dr,c.out⟩
  cases hq:fI (aK r1.answers m) with
  | none=>exact f
  | some a =>
   rw[hq] at F;dsimp only at F ⊢;have d:=Rp.nX hq;by_cases h:(regs a.log:Int)≤a.epoch
   ·rw[if_pos h] at F ⊢;exact f.resume hG hs hz (e.an a d).1 (e.an a d).2 (b a d).1 (b a d).2 F
   ·rw[if_neg h];exact f
 ·rw[if_neg g];exact c
theorem Cs.dI (hG:GI L G r.n) (c:Cs L T G B r r1) (hs:r1.status=1) (hk:m.kind=112) (hi:MIn L T G B r m) (he:m.epoch=r1.epoch) (F:Fin L B (r1.dI m)):Cs L T G B r (r1.dI m):=by
 have h:=c.ri.lg (.inl hs);obtain⟨_,u,o,i⟩:=hi.mi.p hk
 have v:=hi.ok.pl (.inl hk);unfold Rp.dI at F ⊢;by_cases j:m.frm=r1.gZ
 ·rw[if_pos j] at F ⊢;by_cases k:(r1.log.length:Int)+1<m.place
  ·rw[if_pos k];exact c.bare hi.ok.f0 hi.ok.f1 hi.ne (by omega)
  ·rw[if_neg k] at F ⊢;by_cases l:m.place=(r1.log.length:Int)+1
   ·rw[if_pos l] at F ⊢;by_cases a:r1.closing=true
    ·rw[if_pos a];exact c
    ·rw[if_neg a] at F ⊢;have b:(regs r1.log:Int)≤r1.epoch:=by
      unfold Rp.closing at a;simp only[decide_eq_true_eq] at a;omega
     have w:=h.ln;rw[he] at i;have d:=Rp.qd c.ok (e:=m.ent) (by rw[c.n];exact hi.ok.en hk) (by omega)
     have f:=h.snoc b o (fun s y t g=>by
      rcases i with q|q
      ·omega
      ·exact q s y t g)
     have c1:Cs L T G B r { r1 with log:=r1.log++[m.ent] }:=⟨d,c.n,c.id,⟨⟨f.jw,f.pv⟩,c.ri.an,c.ri.vo,c.ri.me,c.ri.gp,fun _=>f,c.ri.st⟩,by
       have:=c.sv
       unfold Rp.SvI at this ⊢;simp only
       rw[List.take_append_of_le_length c.ok.dc];exact this,fun q=>by
       have:=c.dr q
       simp only
       rw[List.take_append_of_le_length c.ok.dc];exact this,c.out⟩
     exact (c1.ack hi.ok.f0 hi.ok.f1 hi.ne).decide hG (.inl hs) F
   ·rw[if_neg l] at F ⊢;exact (c.ack hi.ok.f0 hi.ok.f1 hi.ne).decide hG (.inl hs) F
 ·rw[if_neg j];exact c
theorem Cs.dL (hG:GI L G r.n) (c:Cs L T G B r r1) (hs:r1.status=1) (hi:MIn L T G B r m) (F:Fin L B (r1.dL m)):Cs L T G B r (r1.dL m):=by
 unfold Rp.dL at F ⊢;by_cases a:m.frm=r1.gZ
 ·rw[if_pos a] at F ⊢;by_cases b:(r1.log.length:Int)<m.commit
  ·rw[if_pos b];exact c.bare hi.ok.f0 hi.ok.f1 hi.ne (by omega)
  ·rw[if_neg b] at F ⊢;exact c.decide hG (.inl hs) F
 ·rw[if_neg a];exact c
theorem Cs.fZ (hG:GI L G r.n) (c:Cs L T G B r r1) (hs:r1.status=1) (F:Fin L B (r1.fZ m)):Cs L T G B r (r1.fZ m):=by
 unfold Rp.fZ at F ⊢;by_cases b:r1.leads=true∧m.place≤(r1.log.length:Int)
 ·rw[if_pos b] at F ⊢;have k:=Rp.oZ c.ok m.frm.toNat m.place;have c1:Cs L T G B r (r1.fq m.frm.toNat m.place):=by
   have h:=c.ri;have e:=c.sv;have f:=c.dr;have g:=c.out;unfold Rp.fq at k ⊢;by_cases d:r1.acks.getD m.frm.toNat 0<m.place
   ·rw[if_pos d] at k ⊢;exact⟨k.ok,k.n.trans c.n,k.id.trans c.id,⟨h.jl,h.an,h.vo,h.me,h.gp,h.lg,h.st⟩,e,f,g⟩
   ·rw[if_neg d];exact c
  have a:(r1.fq m.frm.toNat m.place).status=1:=by unfold Rp.fq;split <;> exact hs
  exact c1.decide hG (.inl a) F
 ·rw[if_neg b];exact c
theorem Cs.bS (hG:GI L G r.n) (c:Cs L T G B r r1) (hs:r1.status=1) (hi:MIn L T G B r m) (he:m.epoch=r1.epoch) (F:Fin L B (r1.bS m)):Cs L T G B r (r1.bS m):=by
 unfold Rp.bS at F ⊢;by_cases b:m.kind=103
 ·rw[if_pos b];exact c.tell (.inl hs) hi.ok.f0 hi.ok.f1 hi.ne
 ·rw[if_neg b] at F ⊢;by_cases d:r1.mem m.frm=true
  ·rw[if_pos d] at F ⊢;by_cases a:m.kind=112
   ·rw[if_pos a] at F ⊢;exact c.dI hG hs a hi he F
   ·rw[if_neg a] at F ⊢;by_cases e:m.kind=99
    ·rw[if_pos e] at F ⊢;exact c.dL hG hs hi F
    ·rw[if_neg e] at F ⊢;by_cases f:m.kind=107
     ·rw[if_pos f] at F ⊢;exact c.fZ hG hs F
     ·rw[if_neg f] at F ⊢;by_cases g:m.kind=104∨m.kind=118
      ·rw[if_pos g];exact c.tell (.inl hs) hi.ok.f0 hi.ok.f1 hi.ne
      ·rw[if_neg g];exact c
  ·rw[if_neg d];exact c
theorem Cs.bH (hG:GI L G r.n) (c:Cs L T G B r r1) (D:DL L r1) (hs:r1.status=1∨r1.status=2) (hi:MIn L T G B r m) (F:Fin L B (r1.bH m)):Cs L T G B r (r1.bH m):=by
 unfold Rp.bH at F ⊢;by_cases d:m.epoch=r1.epoch∧m.view=r1.view
 ·rw[if_pos d] at F ⊢;by_cases a:r1.status=2
  ·rw[if_pos a] at F ⊢;exact c.aT hG D hs hi d.1 F
  ·rw[if_neg a] at F ⊢;exact c.bS hG (by omega) hi d.1 F
 ·rw[if_neg d] at F ⊢;by_cases a:m.epoch=r1.epoch∧r1.view<m.view
  ·rw[if_pos a] at F ⊢;by_cases b:Rp.qW m=true
   ·rw[if_pos b] at F ⊢;exact c.bR hG D hs hi a.1 F
   ·rw[if_neg b];exact c.bare hi.ok.f0 hi.ok.f1 hi.ne (by omega)
  ·rw[if_neg a] at F ⊢;by_cases b:r1.epoch<m.epoch
   ·rw[if_pos b];exact c.bare hi.ok.f0 hi.ok.f1 hi.ne (by omega)
   ·rw[if_neg b];exact c.bP (by omega) hi
theorem Cs.aU (hG:GI L G r.n) (c:Cs L T G B r r1) (D:DL L r1) (hz:Rp.RcI r1) (hi:MIn L T G B r m) (F:Fin L B (r1.aU m)):Cs L T G B r (r1.aU m):=by
 have h:=c.ok.st;unfold Rp.aU at F ⊢;by_cases b:r1.status=3
 ·rw[if_pos b] at F ⊢;by_cases a:m.kind=97
  ·rw[if_pos a] at F ⊢;exact c.dH hG b hz a hi F
  ·rw[if_neg a];exact c
 ·rw[if_neg b] at F ⊢;by_cases a:m.kind=115
  ·rw[if_pos a] at F ⊢;exact c.dQ hG D b a hi F
  ·rw[if_neg a] at F ⊢;by_cases d:m.kind=114
   ·rw[if_pos d];exact c.answer d hi
   ·rw[if_neg d] at F ⊢;by_cases e:m.kind=116
    ·rw[if_pos e];exact c.dV e hi
    ·rw[if_neg e] at F ⊢;by_cases f:m.kind=97
     ·rw[if_pos f];exact c
     ·rw[if_neg f] at F ⊢;by_cases g:r1.status=4∨r1.status=5
      ·rw[if_pos g];exact c.bZ hi
      ·rw[if_neg g] at F ⊢;exact c.bH hG D (by omega) hi F
theorem zV (l:List Int):∀ (is:List Nat) (r:Rp),∃ lv ak,is.foldl (Rp.gY l) r={ r with lives:=lv,acks:=ak }
 | [],r=>⟨r.lives,r.acks,rfl⟩
 | i :: is,r=>by
  simp only[List.foldl_cons];unfold Rp.gY
  split
  ·obtain⟨lv,ak,h⟩:=zV l is { r with lives:=r.lives.set i (l.getD i 0),acks:=r.acks.set i 0 }
   exact⟨lv,ak,h⟩
  ·exact zV l is r
theorem Cs.propose (c:Cs L T G B r r1) (hs:r1.status=1) (hk:m.kind=113∨m.kind=109) (hm:Rp.FU m) (hn:¬(m.kind=109∧Rp.fu m.ent r1.n=true)) (he:m.kind=109→m.epoch=r1.epoch) (hi:MI L T G B m):Cs L T G B r (r1.propose m.ent):=by
 have i:=c.ri.lg (.inl hs);unfold Rp.propose
 split
 ·exact c
 ·rename_i q;have a:(regs r1.log:Int)≤r1.epoch:=by
   have:¬r1.closing=true:=fun h=>q (.inl h)
   unfold Rp.closing at this;simp only[decide_eq_true_eq] at this;omega
  have b:=Rp.qd c.ok (Rp.yY hm hk hn) (by omega)
  have d:∃ y∈T,y.1=m.ent:=by
   rcases hk with q|q
   ·exact (hi.q q).2
   ·exact (hi.m q).2.2.1
  have e:=i.snoc a d (fun g y j f=>by
   rcases hk with q|q
   ·rw[(hi.q q).1] at g;cases g
   ·rw[← he q];exact (hi.m q).2.2.2 y j f)
  have c1:Cs L T G B r { r1 with log:=r1.log++[m.ent] }:=⟨b,c.n,c.id,⟨⟨e.jw,e.pv⟩,c.ri.an,c.ri.vo,c.ri.me,c.ri.gp,fun _=>e,c.ri.st⟩,by
    have:=c.sv
    unfold Rp.SvI at this ⊢;simp only
    rw[List.take_append_of_le_length c.ok.dc];exact this,fun q=>by
    have:=c.dr q
    simp only
    rw[List.take_append_of_le_length c.ok.dc];exact this,c.out⟩
  exact c1.aQ hs _
theorem Cs.bQ (c:Cs L T G B r r1) (D:DL L r1) (hk:m.kind=113∨m.kind=109) (hm:Rp.FU m) (hi:MI L T G B m):Cs L T G B r (r1.bQ m):=by
 unfold Rp.bQ;by_cases f:r1.leads=true
 ·rw[if_pos f];have w:r1.status=1:=by unfold Rp.leads at f;simp only[Bool.and_eq_true,beq_iff_eq] at f;exact f.1
  by_cases l:m.ent.2.1<r1.iQ m.ent.1
  ·rw[if_pos l];exact c
  ·rw[if_neg l];by_cases o:m.ent.2.1=r1.iQ m.ent.1
   ·rw[if_pos o];unfold Rp.eU
    split
    ·rename_i q;refine c.put1 (.inr (.inl ?_));have g:∀ e∈r1.log,1≤e.1∧e.1≤9:=fun e p=>⟨(c.ok.le e p).1,(c.ok.le e p).2.1⟩
     have dc:=c.ok.dc;have h:=c.sv;unfold Rp.SvI at h;rcases Jf r1.log m.ent.1 hm.c.1 hm.c.2 g r1.decided dc with z|⟨j,x,A,s,t⟩
     ·rw[← h,q] at z;have:=hm.n.1;omega
     ·rw[← h] at t;have u:L.getD j en0=r1.log[j]:=by rw[← getD_take D.dt A,getD_at x]
      refine⟨j,by have:=D.dl;omega,?_,?_⟩
      ·rw[u,s]
      ·rw[u,s,← pK D.dt (by omega:j≤r1.decided)]
       rw[t] at q ⊢;simp only at q ⊢
       rw[q]
    ·exact c
   ·rw[if_neg o];by_cases i:m.kind=109∧r1.epoch<m.epoch
    ·rw[if_pos i];exact c
    ·rw[if_neg i];by_cases d:m.kind=109∧(m.epoch<r1.epoch∨Rp.fu m.ent r1.n=true)
     ·rw[if_pos d];obtain⟨C,v,E,F⟩:=hi.m d.1
      refine c.put1 (.inr (.inr ⟨m.ent,rfl,rfl,C,E,?_⟩));rcases d.2 with q|q
      ·exact .inr fun y H k=>⟨m.epoch,v.1,v.2,by have:=(c.ri.gp (by omega)).1;omega,F y H k⟩
      ·exact .inl (by rw[← c.n];exact q)
     ·rw[if_neg d];exact c.propose w hk hm (fun q=>d ⟨q.1,.inr q.2⟩) (fun q=>by
       have a:¬(r1.epoch<m.epoch):=fun z=>i ⟨q,z⟩
       have b:¬(m.epoch<r1.epoch):=fun z=>d ⟨q,.inl z⟩
       omega) hi
 ·rw[if_neg f];exact c
theorem Cs.take (hG:GI L G r.n) (c:Cs L T G B r r) (D:DL L r) (hz:Rp.RcI r) (hm:Rp.MOk r.n m) (hi:MI L T G B m) (F:Fin L B (r.take m)):Cs L T G B r (r.take m):=by
 unfold Rp.take at F ⊢;by_cases b:m.kind=113∨m.kind=109
 ·rw[if_pos b];exact c.bQ D b (hm.1 b) hi
 ·rw[if_neg b] at F ⊢;have f:=hm.2 b;by_cases d:r.alive m=true
  ·rw[if_pos d] at F ⊢;have k1:=Rp.qQ c.ok f.lb;have g:=Rp.oW k1.ok;unfold Rp.alive at d;simp only[Bool.and_eq_true,bne_iff_ne,ne_eq,decide_eq_true_eq] at d;obtain⟨i,j,k⟩:=zV m.lives (List.range r.n.toNat) r
   have e:r.learn m.lives={ r with lives:=i,acks:=j }:=k
   rw[e] at k1 g F ⊢;have h:=c.ri;have c1:Cs L T G B r (({ r with lives:=i,acks:=j }:Rp).pruned):=⟨g.ok,rfl,rfl,⟨h.jl,fun a l=>h.an a (nG l),fun v o=>h.vo v (nG o),h.me,h.gp,h.lg,h.st⟩,c.sv,c.dr,c.out⟩
   exact c1.aU hG ⟨D.dl,D.dt⟩ hz ⟨f,hi,d.1⟩ F
  ·rw[if_neg d];exact c
theorem Io:∀ (is:List Nat) (r1:Rp),(∀ i∈is,(i:Int)<r.n)→Cs L T G B r r1→Cs L T G B r (is.foldl Rp.oF r1)
 | [],_,_,c=>c
 | i :: is,r1,hi,c=>by
  simp only[List.foldl_cons];refine Io is _ (fun j hj=>hi j (List.mem_cons_of_mem _ hj)) ?_
  unfold Rp.oF
  split
  ·rename_i q;exact c.bare (by omega) (hi i (List.mem_cons_self)) (by rw[← c.id];simpa using q) (by omega)
  ·exact c
theorem Cs.lu (hG:GI L G r.n) (c:Cs L T G B r r):Cs L T G B r r.lu:=by
 unfold Rp.lu;by_cases a:r.leads=true
 ·rw[if_pos a];have f:r.status=1:=by unfold Rp.leads at a;simp only[Bool.and_eq_true,beq_iff_eq] at a;exact a.1
  exact c.iD f
 ·rw[if_neg a];by_cases b:r.status=2
  ·rw[if_pos b];exact c.call.dJ hG (.inr b)
  ·rw[if_neg b];by_cases e:r.status=3
   ·rw[if_pos e];exact Io _ _ (fun i g=>by have:=List.mem_range.1 g;have:=c.ok.n3;omega) c
   ·rw[if_neg e];by_cases d:r.status=5
    ·rw[if_pos d];exact c.bF (.inr (.inr d))
    ·rw[if_neg d];exact c
theorem Cs.suspect (hG:GI L G r.n) (c:Cs L T G B r r):Cs L T G B r r.suspect:=by
 unfold Rp.suspect
 split
 ·rename_i q;have:=c.ok.vi
  exact c.want hG (by simpa [Rp.carries] using q.1) (by omega)
 ·exact c
end
section
variable {n:Int} {P0 P:Pm} {ws:List ByteArray}
theorem Ob (hk:RK P0.kind) (h0:ws.getD 0 Ze=mJ P0.kind) (hM:oL n ws P):P.kind=P0.kind:=by
 obtain⟨b,a,c⟩:=hM.kind
 rw[h0,ByteArray.toList_eq] at a;rcases hk with q|q|q|q|q|q|q|q|q|q <;> rw[q] at a ⊢ <;> (rw[c];simp[mJ] at a;rw[← a];rfl)
theorem OM (hk:RK P0.kind) (h0:ws.getD 0 Ze=mJ P0.kind) (hM:oL n ws P):PmR n (gF ws) P:=by
 refine hM.rep ?_;rw[h0];unfold qX;simp only[ByteArray.toList_eq];rcases hk with q|q|q|q|q|q|q|q|q|q <;> rw[q] <;> rfl
theorem He {l:List Int} (hl:0<l.length) (hb:∀ x∈l,0≤x∧x≤999):eB (iC l)=l:=by
 have b:bU (iC l) 46=l.map dg:=by
  have:=zu (l:=l.map dg) (c:=46) (fun t d=>by
   obtain⟨e,f,rfl⟩:=List.mem_map.1 d
   exact zx e (.inl (by decide))) (l.map dg).length (by simp;omega) (Nat.le_refl _)
  rw[List.take_length] at this;exact this
 unfold eB;rw[b,List.map_map]
 conv=>rhs;rw[← List.map_id l]
 exact List.map_congr_left fun x a=>iq (hb x a).1 (hb x a).2
theorem Np (hn:n≤7) (h:dF n P0) (hk:RK P0.kind):∃ t,bU (fQ P0) 32=mJ P0.kind :: dg P0.frm :: iC P0.lives :: dg P0.epoch :: dg P0.view :: t∧(P0.kind=112→t=[dg P0.place,iM P0.ent,dg P0.commit])∧(P0.kind=107→t=[dg P0.place])∧(P0.kind=99→t=[dg P0.commit]) ∧
  (P0.kind=118→t=[dg P0.normal,dg P0.commit,iN P0.log])∧(P0.kind=115→t=[lC P0.grp,mh P0.old,dg P0.commit,iN P0.log])∧(P0.kind=97→t=[dg P0.life,lC P0.grp,mh P0.old,dg P0.commit,iN P0.log]):=by
 have a:=hk;rcases a with q|q|q|q|q|q|q|q|q|q
 ·refine⟨_,mO P0 hk (dg P0.place++SP++(iM P0.ent++SP++dg P0.commit)) ?_,fun _=>?_,fun z=>by omega,fun z=>by omega,fun z=>by omega,fun z=>by omega,fun z=>by omega⟩
  ·unfold jm;rw[q,if_pos (by rfl)];apply bytes_inj;simp[ByteArray.data_append,SP]
  ·rw[fK (jY _),fK (Gf (h.en q) (by decide)),uN (jY _)]
 ·refine⟨_,mO P0 hk (dg P0.place) (by unfold jm;rw[q];rfl),fun z=>by omega,fun _=>uN (jY _),fun z=>by omega,fun z=>by omega,fun z=>by omega,fun z=>by omega⟩
 ·refine⟨_,mO P0 hk (dg P0.commit) (by unfold jm;rw[q];rfl),fun z=>by omega,fun z=>by omega,fun _=>uN (jY _),fun z=>by omega,fun z=>by omega,fun z=>by omega⟩
 ·exact⟨[],pU P0 hk (by unfold jm;rw[q];rfl),fun z=>by omega,fun z=>by omega,fun z=>by omega,fun z=>by omega,fun z=>by omega,fun z=>by omega⟩
 ·exact⟨[],pU P0 hk (by unfold jm;rw[q];rfl),fun z=>by omega,fun z=>by omega,fun z=>by omega,fun z=>by omega,fun z=>by omega,fun z=>by omega⟩
 ·exact⟨[],pU P0 hk (by unfold jm;rw[q];rfl),fun z=>by omega,fun z=>by omega,fun z=>by omega,fun z=>by omega,fun z=>by omega,fun z=>by omega⟩
 ·exact⟨[],pU P0 hk (by unfold jm;rw[q];rfl),fun z=>by omega,fun z=>by omega,fun z=>by omega,fun z=>by omega,fun z=>by omega,fun z=>by omega⟩
 ·refine⟨_,mO P0 hk (dg P0.normal++SP++(dg P0.commit++SP++iN P0.log)) ?_,fun z=>by omega,fun z=>by omega,fun z=>by omega,fun _=>?_,fun z=>by omega,fun z=>by omega⟩
  ·unfold jm mD;rw[q];apply bytes_inj;simp[ByteArray.data_append,SP]
  ·rw[fK (jY _),fK (jY _),uN (Hf (h.lg (.inl q)).2)]
 ·obtain⟨b,g2⟩:=h.g (.inl q)
  refine⟨_,mO P0 hk (lC P0.grp++SP++(mh P0.old++SP++(dg P0.commit++SP++iN P0.log))) ?_,fun z=>by omega,fun z=>by omega,fun z=>by omega,fun z=>by omega,fun _=>?_,fun z=>by omega⟩
  ·unfold jm mD o8;rw[q];apply bytes_inj;simp[ByteArray.data_append,SP]
  ·rw[fK (Ga (su hn b)),fK (Mi (su hn g2)),fK (jY _),uN (Hf (h.lg (.inr (.inl q))).2)]
 ·obtain⟨b,g2⟩:=h.g (.inr q)
  refine⟨_,mO P0 hk (dg P0.life++SP++(lC P0.grp++SP++(mh P0.old++SP++(dg P0.commit++SP++iN P0.log)))) ?_,fun z=>by omega,fun z=>by omega,fun z=>by omega,fun z=>by omega,fun z=>by omega,fun _=>?_⟩
  ·unfold jm mD o8;rw[q];apply bytes_inj;simp[ByteArray.data_append,SP]
  ·rw[fK (jY _),fK (Ga (su hn b)),fK (Mi (su hn g2)),fK (jY _),uN (Hf (h.lg (.inr (.inr q))).2)]
structure Bk (P P0:Pm):Prop where
 k:P.kind=P0.kind
 f:P.frm=P0.frm
 lv:P.lives=P0.lives
 e:P.epoch=P0.epoch
 v:P.view=P0.view
 p:P0.kind=112→P.place=P0.place∧P.ent=P0.ent∧P.commit=P0.commit
 kk:P0.kind=107→P.place=P0.place
 c:P0.kind=99→P.commit=P0.commit
 vv:P0.kind=118→P.normal=P0.normal∧P.commit=P0.commit∧P.log=P0.log
 s:P0.kind=115∨P0.kind=97→P.grp=P0.grp∧P.commit=P0.commit∧P.log=P0.log
 a:P0.kind=97→P.life=P0.life
theorem I6 (hn:n≤7) (h:dF n P0) (hk:RK P0.kind) (hM:oL n (bU (fQ P0) 32) P):Bk P P0:=by
 obtain⟨t,y,z,A,B,C,D,u⟩:=Np hn h hk
 rw[y] at hM;have R:=OM hk rfl hM;have E:=h.ll;have F:=h.f1;have r:=h.f0;have i:∀ b:UInt8,mJ P0.kind=⟨#[b]⟩→(gF (mJ P0.kind :: dg P0.frm :: iC P0.lives :: dg P0.epoch :: dg P0.view :: t)).kind.toList=[b]:=fun b e=>by
  show (mJ P0.kind).toList=[b]
  rw[e,ByteArray.toList_eq]
 have j:∀ {x:Int},0≤x→x≤10→aH (dg x).data.toList=x:=fun G H=>iq G (by omega)
 refine⟨Ob hk rfl hM,R.frm.trans (iq r (by omega)),R.lives.trans (He (by omega) h.lb),R.epoch.trans (iq h.e0 (by have:=h.e1;omega)),R.view.trans (iq h.v0 h.v1),fun q=>?_,fun q=>?_,fun q=>?_,fun q=>?_,fun q=>?_,fun q=>?_⟩
 ·obtain⟨d,l,f⟩:=R.p (i 112 (by rw[q];rfl))
  obtain rfl:=z q;refine⟨d.trans (j (h.pl (.inl q)).1 (h.pl (.inl q)).2),l.trans (Ej (h.en q)).1,f.trans ?_⟩
  refine Eq.trans ?_ (j (h.co (.inl q)).1 (h.co (.inl q)).2);unfold gF lF bM;simp only[ByteArray.toList_eq,q,List.getD_cons_zero]
  rfl
 ·have d:=R.k (i 107 (by rw[q];rfl))
  obtain rfl:=A q;exact d.trans (j (h.pl (.inr q)).1 (h.pl (.inr q)).2)
 ·have f:=R.c (i 99 (by rw[q];rfl))
  obtain rfl:=B q;refine f.trans (Eq.trans ?_ (j (h.co (.inr q)).1 (h.co (.inr q)).2));unfold gF lF bM;simp only[ByteArray.toList_eq,q,List.getD_cons_zero]
  rfl
 ·obtain⟨d,l,f⟩:=R.v (i 118 (by rw[q];rfl))
  obtain rfl:=C q;have m:=h.hc (.inl q);have o:=h.lg (.inl q);refine⟨d.trans (iq (h.no q).1 (h.no q).2),l.trans (Eq.trans ?_ (j m.1 (by omega))),f.trans (Eq.trans ?_ (zX o.2))⟩ <;> unfold gF lF bM <;> simp only[ByteArray.toList_eq,q,List.getD_cons_zero] <;> rfl
 ·have m:=h.hc (by omega)
  have o:=h.lg (by omega)
  have w:=(h.g q).1;rcases q with q|q
  ·obtain⟨d,_,l,f⟩:=R.s (i 115 (by rw[q];rfl))
   obtain rfl:=D q;refine⟨d.trans (Ec (su hn w)),l.trans (Eq.trans ?_ (j m.1 (by omega))),f.trans (Eq.trans ?_ (zX o.2))⟩ <;> unfold gF lF bM <;> simp only[ByteArray.toList_eq,q,List.getD_cons_zero] <;> rfl
  ·obtain⟨_,d,_,l,f⟩:=R.a (i 97 (by rw[q];rfl))
   obtain rfl:=u q;refine⟨d.trans (Ec (su hn w)),l.trans (Eq.trans ?_ (j m.1 (by omega))),f.trans (Eq.trans ?_ (zX o.2))⟩ <;> unfold gF lF bM <;> simp only[ByteArray.toList_eq,q,List.getD_cons_zero] <;> rfl
 ·obtain⟨d,_⟩:=R.a (i 97 (by rw[q];rfl))
  obtain rfl:=u q;exact d.trans (iq (h.li q).1 (h.li q).2)
theorem Og {L:List En} {T:Wt} {G:List ByteArray} {B:List Int} (hn:n≤7) (h:dF n P0) (hk:RK P0.kind) (hM:oL n (bU (fQ P0) 32) P) (mi:MI L T G B P0):MI L T G B P:=by
 have b:=I6 hn h hk hM;have e:=b.k;unfold RK at hk;refine⟨fun z=>by omega,fun z=>by omega,fun z=>?_,fun z=>?_,fun z=>?_,fun z=>?_⟩ <;> rw[e] at z
 ·obtain⟨a,c,_⟩:=b.p z
  rw[b.e,a,c];exact mi.p z
 ·obtain⟨a,c,d⟩:=b.s z
  rw[b.e,a,c,d];exact mi.s z
 ·rw[b.e,(b.vv z).2.2];exact mi.v z
 ·rw[b.e,b.f];exact mi.t z
end
theorem sP {s:ByteArray} {n:Int} (h:aZ s n≠[]):aZ s n=bU s 32:=by
 rw[rT] at h ⊢;by_cases a:400<s.size
 ·rw[if_pos a] at h;exact absurd rfl h
 ·rw[if_neg a] at h ⊢;by_cases b:mI (bU s 32) n=true
  ·rw[if_pos b]
  ·rw[if_neg b] at h;exact absurd rfl h
section
variable {h:Nat→Sn} {T:Nat} {g:Int→List Int}
def Cmp (a b:List En):Prop:=a <+: b∨b <+: a
theorem Cmp.of {a b c:List En} (h1:a <+: c) (h2:b <+: c):Cmp a b:=List.prefix_or_prefix_of_prefix h1 h2
theorem Cmp.symm {a b:List En} (h:Cmp a b):Cmp b a:=Or.symm h
theorem Ar {a b:List En} (h:a <+: b):regs a≤regs b:=by obtain⟨m,rfl⟩:=h;rw[lX];omega
theorem Bs.eq {e:Int} {a b:List En} (ha:Bs e a) (hb:Bs e b) (h:a <+: b):a=b:=by
 obtain⟨m,rfl⟩:=h
 rcases Nat.eq_or_lt_of_le (Nat.zero_le m.length) with z|z
 ·rw[List.length_eq_zero_iff.1 z.symm,List.append_nil]
 ·have:=hb.2 a.length (by rw[List.length_append];omega)
  rw[List.take_left] at this;have:=ha.1
  omega
def I2 (h:Nat→Sn) (T:Nat) (g:Int→List Int) (e:Int):Prop:=∀ tA v L A p,tA≤T→Ct h g tA e v L A p→∀ j,j<T→gV (h j)→(h j).ep=e→v<(h j).nv→L <+: (h j).log
def CtC (h:Nat→Sn) (T:Nat) (g:Int→List Int) (e:Int):Prop:=∀ t v L A p t' v' L' A' p',t≤T→t'≤T→Ct h g t e v L A p→Ct h g t' e v' L' A' p'→Cmp L L'
theorem Ld (H:HX h T g) {e:Int} (hb:0<e→CtC h T g (e-1)) {i j:Nat} (hi:i<T) (hj:j<T) (ii:gV (h i)) (ij:gV (h j)) (ei:(h i).ep=e) (ej:(h j).ep=e) (b:Bs e (h i).log):(h i).log <+: (h j).log:=by
 have n:=H.nvw i hi ii;rcases Int.lt_or_eq_of_le (show 0≤e by omega) with z|z
 ·obtain⟨v,L,A,p,c,d,l⟩:=H.bas i hi ii (e-1) (by omega) (by omega)
  obtain⟨m,k,o,r,s,a,f⟩:=H.bas j hj ij (e-1) (by omega) (by omega)
  rw[show e-1+1=e by omega] at d a
  have t:=d.eq b l;have u:L=k:=by
   rcases hb z i v L A p j m k o r (by omega) (by omega) c s with q|q
   ·exact d.eq a q
   ·exact (a.eq d q).symm
  rw[← t,u];exact f
 ·rcases Nat.eq_or_lt_of_le (Nat.zero_le (h i).log.length) with w|w
  ·rw[List.length_eq_zero_iff.1 w.symm];exact List.nil_prefix
  ·have:=b.2 0 w
   simp[regs] at this;omega
theorem Lf (H:HX h T g) {e:Int} (hu:Pu h T g e) (hb:0<e→CtC h T g (e-1)) {i j:Nat} (hi:i<T) (hj:j<T) (ii:gV (h i)) (ij:gV (h j)) (ei:(h i).ep=e) (ej:(h j).ep=e) (hn:(h i).nv=(h j).nv):Cmp (h i).log (h j).log:=by
 rcases H.mst i hi ii with ⟨a,p,d,m,o,k,n⟩|⟨_,b⟩
 ·rcases H.mst j hj ij with ⟨c,c1,c2,c3,c4,c5,c6⟩|⟨_,b⟩
  ·rw[ei] at m k;rw[ej] at c3 c5;have l:=hu a c (h i).nv (by omega) (by omega) d c2 m c3 o (by rw[c4,hn]) k (by rw[c5,hn])
   have f:(h a).id=(h c).id:=by rw[k,c5,hn]
   have q:=(H.nvw a (by omega) (.inl d)).2.2.2.1 d
   have r:=(H.nvw c (by omega) (.inl c2)).2.2.2.1 c2
   rcases Nat.le_total a c with z|z
   ·have:=((H.inc a c z (by omega) f l).2 (.inl d) (.inl c2) (by omega)).2 (by omega)
    exact Cmp.of (n.trans this) c6
   ·have:=((H.inc c a z (by omega) f.symm l.symm).2 (.inl c2) (.inl d) (by omega)).2 (by omega)
    exact Cmp.of n (c6.trans this)
  ·exact .inr (Ld H hb hj hi ij ii ej ei (by rw[ej] at b;exact b))
 ·exact .inl (Ld H hb hi hj ii ij ei ej (by rw[ei] at b;exact b))
theorem i2 (H:HX h T g) {e:Int} (hc:Clo h T g e) (hb:0<e→CtC h T g (e-1)):I2 h T g e:=fun y v L A p m c=>by
 intro j
 induction j using Nat.strongRecOn with
 | _ j ih =>
  intro hj ij ej hv;have C:=H.nvw j hj ij;have D:=c.q.lt p c.pin;have n:=H.nvw p (by omega) (c.q.st p c.pin)
  have r:=n.2.2.2.1 (c.n1 p c.pin);have E:=c.vw p c.pin;obtain⟨s,B,b,d⟩:=H.est j hj ij (by omega)
  rw[ej] at d;have F:=d.le;rcases cov H hc m c _ s B (Nat.le_refl _) (by omega) d.q with ⟨k,f,x⟩|⟨k,f,a,i,o⟩
  ·refine List.IsPrefix.trans ?_ d.lg;rw[← d.bl];have lb:=d.q.lt b d.bin;have lk:=d.q.lt k f;obtain⟨G,t⟩:=d.mx k f
   rcases x.2.2 with z|⟨z,l⟩
   ·exact ih b (by omega) (by omega) (d.q.st b d.bin) (d.q.ep b d.bin) (by omega)
   ·rcases Int.lt_or_eq_of_le (show v≤(h b).nv by omega) with w|w
    ·exact ih b (by omega) (by omega) (d.q.st b d.bin) (d.q.ep b d.bin) w
    ·have u:=t (by omega)
     rcases Lf H (pu H hc) hb (by omega) (by omega) (d.q.st k f) (d.q.st b d.bin) (d.q.ep k f) (d.q.ep b d.bin) (by omega) with q|q
     ·exact l.trans q
     ·rw[q.eq_of_length (Nat.le_antisymm q.length_le u)];exact l
  ·exfalso
   have:=o.2
   rw[d.q.ep k f,c.q.ep a i,d.bv k f,c.vw a i] at this;omega
theorem ctc (H:HX h T g) {e:Int} (hc:Clo h T g e) (hi:I2 h T g e):CtC h T g e:=fun t v L A p k j m n b o f c a=>by
 have x:=c.q.lt p c.pin;have r:=a.q.lt b a.pin
 have y:=(H.nvw p (by omega) (c.q.st p c.pin)).2.2.2.1 (c.n1 p c.pin)
 have s:=(H.nvw b (by omega) (a.q.st b a.pin)).2.2.2.1 (a.n1 b a.pin)
 have u:=c.vw p c.pin;have i:=a.vw b a.pin
 rcases Int.lt_trichotomy v j with z|z|z
 ·exact Cmp.of (hi t v L A p o c b (by omega) (a.q.st b a.pin) (a.q.ep b a.pin) (by omega)) (a.lg b a.pin)
 ·subst z;have l:=pu H hc p b v (by omega) (by omega) (c.n1 p c.pin) (a.n1 b a.pin) (c.q.ep p c.pin) (a.q.ep b a.pin) u i c.pi a.pi
  have d:(h p).id=(h b).id:=by rw[c.pi,a.pi]
  rcases Nat.le_total p b with w|w
  ·have:=((H.inc p b w (by omega) d l).2 (c.q.st p c.pin) (a.q.st b a.pin) (by rw[c.q.ep p c.pin,a.q.ep b a.pin])).2 (by omega)
   exact Cmp.of ((c.lg p c.pin).trans this) (a.lg b a.pin)
  ·have:=((H.inc b p w (by omega) d.symm l.symm).2 (a.q.st b a.pin) (c.q.st p c.pin) (by rw[c.q.ep p c.pin,a.q.ep b a.pin])).2 (by omega)
   exact Cmp.of (c.lg p c.pin) ((a.lg b a.pin).trans this)
 ·exact (Cmp.of (hi k j m n b f a p (by omega) (c.q.st p c.pin) (c.q.ep p c.pin) (by omega)) (c.lg p c.pin)).symm
theorem clo (H:HX h T g) {e:Int} (ih:∀ E,0≤E→E<e→Clo h T g E∧I2 h T g E):Clo h T g e:=fun i j r S y U n W E V Q p b B=>by
 have X:=b.q.lt p b.pin;have C:=H.nvw p (by omega) (b.q.st p b.pin)
 have ep:=b.q.ep p b.pin;have D:=C.2.2.2.1 (b.n1 p b.pin);obtain⟨t,s⟩:=ih E (by omega) B
 obtain⟨v0,L,A,d,c,F,pL⟩:=H.bas i r y E (by omega) (by omega)
 have no:¬L <+: (h p).log:=fun q=>by
  have u:=Ar q;have v:=b.rg;have G:=F.1;omega
 rcases cov H t (by omega:i≤T) c _ j Q (Nat.le_refl _) (by omega) b.q with ⟨k,m,x⟩|⟨k,m,a,K,o⟩
 ·have lk:=b.q.lt k m;have nk:=(H.nvw k (by omega) (b.q.st k m)).2.2.2.1 (b.n1 k m)
  have mx:=b.mx k m;have M:=b.pv;have x2:=x.2.2;rcases Int.lt_or_eq_of_le (show v0≤V by omega) with z|z
  ·exact no (s i v0 L A d (by omega) c p (by omega) (b.q.st p b.pin) ep (by omega))
  ·have N:=c.q.lt d c.pin;have l:=pu H t p d V (by omega) (by omega) (b.n1 p b.pin) (c.n1 d c.pin) ep (c.q.ep d c.pin) M (by rw[c.vw d c.pin,z]) b.pi (by rw[c.pi,z])
   have f:(h p).id=(h d).id:=by rw[b.pi,c.pi,z]
   have P:=(H.nvw d (by omega) (c.q.st d c.pin)).2.2.2.1 (c.n1 d c.pin)
   have R:=c.vw d c.pin;rcases Nat.le_total d p with w|w
   ·have:=((H.inc d p w (by omega) f.symm l.symm).2 (c.q.st d c.pin) (b.q.st p b.pin) (by rw[ep,c.q.ep d c.pin])).2 (by omega)
    exact no ((c.lg d c.pin).trans this)
   ·have u:=(H.inc p d w (by omega) f l).1.1 (h j).id
    have v:=b.kn p b.pin;have:=H.rt i d r (by omega) (by rw[n];omega)
    omega
 ·have u:=o.1 (h j).id;have v:=b.kn k m;have G:=c.q.lt a K;have:=H.rt i a r (by omega) (by rw[n];omega)
  omega
theorem Jd (H:HX h T g):∀ (N:Nat) (e:Int),0≤e→e<N→Clo h T g e∧I2 h T g e∧CtC h T g e
 | 0,e,h0,h1=>by omega
 | N+1,e,h0,h1=>by
  have hc:Clo h T g e:=clo H fun E a c=>⟨(Jd H N E a (by omega)).1,(Jd H N E a (by omega)).2.1⟩
  have b:=i2 H hc fun d=>(Jd H N (e-1) (by omega) (by omega)).2.2
  exact⟨hc,b,ctc H hc b⟩
theorem safe (H:HX h T g) {e:Int} (h0:0≤e):Clo h T g e∧I2 h T g e∧CtC h T g e:=Jd H (e.toNat+1) e h0 (by omega)
theorem HX.pu (H:HX h T g) {e:Int} (h0:0≤e):Pu h T g e:=Go.Proofs.YtinaollfjiddmaaGreatDoor.pu H (safe H h0).1
theorem HX.cmp (H:HX h T g) {i j:Nat} (hi:i<T) (hj:j<T) (ii:gV (h i)) (ij:gV (h j)) (he:(h i).ep=(h j).ep) (hn:(h i).nv=(h j).nv):Cmp (h i).log (h j).log:=by
 have n:=H.nvw i hi ii;exact Lf H (H.pu n.1) (fun h4=>(safe H (by omega)).2.2) hi hj ii ij rfl he.symm hn
theorem HX.later (H:HX h T g) {t:Nat} {e v:Int} {L:List En} {A:List Nat} {p j:Nat} (ht:t≤T) (c:Ct h g t e v L A p) (hj:j<T) (ij:gV (h j)) (hl:e<(h j).ep):L <+: (h j).log:=by
 have r:=c.q.lt p c.pin;have s:=H.nvw p (by omega) (c.q.st p c.pin)
 have ep:=c.q.ep p c.pin;obtain⟨f,b,i,k,l,m,d⟩:=H.bas j hj ij e (by omega) hl
 rcases (safe H (show 0≤e by omega)).2.2 t v L A p j f b i k ht (by omega) c l with q|q
 ·exact q.trans d
 ·
  have a:=c.lg p c.pin;have n:=H.clo p (by omega) (c.q.st p c.pin)
  rcases Nat.eq_or_lt_of_le q.length_le with z|z
  ·rw[← q.eq_of_length z];exact d
  ·exfalso
   have:=n b.length (by have:=a.length_le;omega)
   have o:(h p).log.take b.length=b:=(List.prefix_iff_eq_take.1 (q.trans a)).symm
   rw[o,ep] at this;have:=m.1
   omega
theorem HX.one (H:HX h T g) {t t':Nat} {e e' v v':Int} {L L':List En} {A A':List Nat} {p p':Nat} (ht:t≤T) (ht':t'≤T) (c:Ct h g t e v L A p) (c':Ct h g t' e' v' L' A' p'):Cmp L L':=by
 have d:=c.q.lt p c.pin;have f:=H.nvw p (by omega) (c.q.st p c.pin)
 have ep:=c.q.ep p c.pin;have a:=c'.q.lt p' c'.pin
 have b:=c'.q.ep p' c'.pin
 rcases Int.lt_trichotomy e e' with z|z|z
 ·exact Cmp.of (H.later ht c (j:=p') (by omega) (c'.q.st p' c'.pin) (by omega)) (c'.lg p' c'.pin)
 ·subst z;exact (safe H (by omega)).2.2 t v L A p t' v' L' A' p' ht ht' c c'
 ·exact (Cmp.of (H.later ht' c' (j:=p) (by omega) (c.q.st p c.pin) (by omega)) (c.lg p c.pin)).symm
end
def upd (h:Nat→Sn) (T:Nat) (S:Sn):Nat→Sn:=fun i=>if i=T then S else h i
section
variable {h h':Nat→Sn} {T:Nat} {g:Int→List Int} {S:Sn}
theorem dK:upd h T S T=S:=if_pos rfl
theorem dx {i:Nat} (hi:i<T):upd h T S i=h i:=if_neg (by omega)
theorem Inc.refl (a:Sn):Inc a a:=⟨Lq.refl a,fun q _=>⟨q,Int.le_refl _,fun _=>List.prefix_refl _⟩,fun q _=>q,fun q=>q⟩
theorem Inc.trans {a b c:Sn} (x:Inc a b) (y:Inc b c):Inc a c:=by
 refine⟨x.lq.trans y.lq,fun q e=>?_,fun q e=>?_,fun q=>y.st (x.st q)⟩
 ·have d:=x.lq.2;have f:=y.lq.2;obtain⟨g,j,h⟩:=x.n q (by omega)
  obtain⟨b1,k,i⟩:=y.n g (by omega)
  exact⟨b1,by omega,fun z=>(h (by omega)).trans (i (by omega))⟩
 ·have d:=x.lq.2;have f:=y.lq.2;exact y.o (x.o q (by omega)) (by omega)
theorem Qr.ag {gr:List Int} {e:Int} {t:Nat} {Q:List Nat} (a:Qr h gr e t Q) (k:∀ i,i<t→h' i=h i):Qr h' gr e t Q:=by
 have c:∀ i∈Q,h' i=h i:=fun i b=>k i (a.lt i b)
 refine⟨a.lt,fun i b=>by rw[c i b];exact a.ep i b,fun i b=>by rw[c i b];exact a.st i b,fun i b=>by rw[c i b];exact a.me i b,?_,a.big,a.odd,fun i b j d=>by rw[c i b,c j d];exact a.cc i b j d⟩
 rw[List.map_congr_left (fun i b=>by rw[c i b])];exact a.nd
theorem Ct.ag {t:Nat} {e v:Int} {L:List En} {A:List Nat} {p:Nat} (a:Ct h g t e v L A p) (k:∀ i,i<t→h' i=h i):Ct h' g t e v L A p:=by
 have c:∀ i∈A,h' i=h i:=fun i b=>k i (a.q.lt i b)
 exact⟨a.q.ag k,fun i b=>by rw[c i b];exact a.n1 i b,fun i b=>by rw[c i b];exact a.vw i b,fun i b=>by rw[c i b];exact a.lg i b,a.pin,by rw[c p a.pin];exact a.pi⟩
theorem Ct.mono {t t':Nat} {e v:Int} {L:List En} {A:List Nat} {p:Nat} (a:Ct h g t e v L A p) (k:t≤t'):Ct h g t' e v L A p :=
 ⟨⟨fun i b=>Nat.lt_of_lt_of_le (a.q.lt i b) k,a.q.ep,a.q.st,a.q.me,a.q.nd,a.q.big,a.q.odd,a.q.cc⟩,a.n1,a.vw,a.lg,a.pin,a.pi⟩
theorem Ct.less {t:Nat} {e v:Int} {L L':List En} {A:List Nat} {p:Nat} (a:Ct h g t e v L A p) (k:L' <+: L):Ct h g t e v L' A p:=⟨a.q,a.n1,a.vw,fun i hi=>k.trans (a.lg i hi),a.pin,a.pi⟩
theorem Es.ag {j i0:Nat} {e v:Int} {B:List Nat} {b:Nat} (a:Es h g j i0 e v B b) (k:∀ i,i≤j→h' i=h i):Es h' g j i0 e v B b:=by
 have l:=a.le;have d:=k i0 l;have f:∀ i∈B,h' i=h i:=fun i c=>k i (by have:=a.q.lt i c;omega)
 have m:=f b a.bin;exact⟨l,by rw[d];exact a.id,by rw[d];exact a.ep,by rw[d];exact a.st,by rw[d];exact a.vw,by rw[d,k j (Nat.le_refl _)];exact a.lg,a.q.ag (fun i c=>k i (by omega)),fun i c=>by rw[f i c];exact a.bv i c,a.bin,by rw[m,d];exact a.bl,fun i c=>by rw[f i c,m];exact a.mx i c,by rw[m];exact a.lt⟩
theorem Rc.ag {j:Nat} {E V:Int} {Q:List Nat} {p:Nat} (a:Rc h g j E V Q p) (k:∀ i,i≤j→h' i=h i):Rc h' g j E V Q p:=by
 have c:∀ i∈Q,h' i=h i:=fun i b=>k i (by have:=a.q.lt i b;omega)
 have d:=k j (Nat.le_refl _);have ep:=c p a.pin;exact⟨a.q.ag (fun i b=>k i (by omega)),fun i b=>by rw[c i b];exact a.n1 i b,fun i b=>by rw[c i b,d];exact a.kn i b,fun i b=>by rw[c i b,d];exact a.ne i b,fun i b=>by rw[c i b,d];exact a.le i b,fun i b=>by rw[c i b];exact a.mx i b,a.pin,by rw[ep];exact a.pv,by rw[ep];exact a.pi,by rw[ep];exact a.rg,by rw[d,ep];exact a.lv⟩
structure Fm (h:Nat→Sn) (g:Int→List Int) (j:Nat):Prop where
 est:0<(h j).nv→∃ i0 B b,Es h g j i0 (h j).ep (h j).nv B b
 mst:(∃ i,i≤j∧(h i).st=1∧(h i).ep=(h j).ep∧(h i).vw=(h j).nv∧(h i).id=fJ (g (h j).ep) (h j).nv∧(h j).log <+: (h i).log)∨((h j).nv=0∧Bs (h j).ep (h j).log)
 bas:∀ E,0≤E→E<(h j).ep→∃ v L A p,Ct h g j E v L A p∧Bs (E+1) L∧L <+: (h j).log
 clo:∀ k,k<(h j).log.length→(regs ((h j).log.take k):Int)≤(h j).ep
 nvw:0≤(h j).ep∧0≤(h j).nv∧(h j).nv≤(h j).vw∧((h j).st=1→(h j).nv=(h j).vw)∧((h j).st=2→(h j).nv<(h j).vw)
 so:So (h j).log
theorem HX.fm (H:HX h T g) {j:Nat} (hj:j<T) (hs:gV (h j)):Fm h g j:=⟨H.est j hj hs,H.mst j hj hs,H.bas j hj hs,H.clo j hj hs,H.nvw j hj hs,H.so j hj hs⟩
theorem Fm.ag {j:Nat} (f:Fm h g j) (k:∀ i,i≤j→h' i=h i):Fm h' g j:=by
 have e:=k j (Nat.le_refl _);refine⟨?_,?_,?_,by rw[e];exact f.clo,by rw[e];exact f.nvw,by rw[e];exact f.so⟩
 ·rw[e];intro q;obtain⟨d,B,b,l⟩:=f.est q
  exact⟨d,B,b,l.ag k⟩
 ·rw[e];rcases f.mst with ⟨i,a,m⟩|q
  ·exact .inl ⟨i,a,by rw[k i a];exact m⟩
  ·exact .inr q
 ·rw[e];intro E h0 h1;obtain⟨v,L,A,p,c,q⟩:=f.bas E h0 h1
  exact⟨v,L,A,p,c.ag (fun i n=>k i (by omega)),q⟩
theorem Es.to {j i0:Nat} {e v:Int} {B:List Nat} {b:Nat} (a:Es h g j i0 e v B b) (hj:j<T) (hl:(h j).log <+: S.log):Es (upd h T S) g T i0 e v B b:=by
 have c:=a.ag (h':=upd h T S) (fun i d=>dx (by omega))
 exact⟨by have:=a.le;omega,c.id,c.ep,c.st,c.vw,by rw[dK];exact c.lg.trans (by rw[dx hj];exact hl),c.q,c.bv,c.bin,c.bl,c.mx,c.lt⟩
theorem Li {t:Nat} {e v:Int} {L:List En} {A:List Nat} {p:Nat} (a:Ct h g t e v L A p) (ht:t≤T):Ct (upd h T S) g T e v L A p:=(a.ag (fun i hi=>dx (by omega))).mono ht
theorem Fm.more {j:Nat} (f:Fm h g j) (hj:j<T) (he:S.ep=(h j).ep) (hn:S.nv=(h j).nv) (hl:(h j).log <+: S.log) (hw:S.nv≤S.vw∧(S.st=1→S.nv=S.vw)∧(S.st=2→S.nv<S.vw))
  (hm:(∃ i,i<T∧(h i).st=1∧(h i).ep=S.ep∧(h i).vw=S.nv∧(h i).id=fJ (g S.ep) S.nv∧S.log <+: (h i).log)∨(S.st=1∧S.id=fJ (g S.ep) S.nv)∨S.nv=0∧Bs S.ep S.log) (hc:∀ k,k<S.log.length→(regs (S.log.take k):Int)≤S.ep) (hso:So S.log):Fm (upd h T S) g T:=by
 refine⟨?_,?_,?_,by rw[dK];exact hc,?_,by rw[dK];exact hso⟩
 ·rw[dK];intro q;obtain⟨e,B,b,l⟩:=f.est (by omega)
  exact⟨e,B,b,by rw[he,hn];exact l.to hj hl⟩
 ·rw[dK];rcases hm with ⟨i,m,n⟩|⟨a,d⟩|q
  ·exact .inl ⟨i,by omega,by rw[dx m];exact n⟩
  ·exact .inl ⟨T,Nat.le_refl _,by rw[dK];exact⟨a,rfl,(hw.2.1 a).symm,d,List.prefix_refl _⟩⟩
  ·exact .inr q
 ·rw[dK];intro E h0 h1;obtain⟨v,L,A,p,c,a,d⟩:=f.bas E h0 (by omega)
  exact⟨v,L,A,p,Li c (by omega),a,d.trans hl⟩
 ·rw[dK];have:=f.nvw
  clear hm hc;omega
theorem Fm.same {j:Nat} (f:Fm h g j) (hj:j<T) (he:S.ep=(h j).ep) (hn:S.nv=(h j).nv) (hl:S.log=(h j).log) (hw:S.nv≤S.vw∧(S.st=1→S.nv=S.vw)∧(S.st=2→S.nv<S.vw)):Fm (upd h T S) g T :=
 f.more hj he hn (by rw[hl];exact List.prefix_refl _) hw (by
  rcases f.mst with ⟨i,l,a,b,c,d,e⟩|⟨m,k⟩
  ·exact .inl ⟨i,by omega,a,by rw[b,he],by rw[c,hn],by rw[d,he,hn],by rw[hl];exact e⟩
  ·exact .inr (.inr ⟨by omega,by rw[he,hl];exact k⟩)) (by rw[hl,he];exact f.clo) (by rw[hl];exact f.so)
structure Ba (h:Nat→Sn) (T:Nat) (g:Int→List Int) (e:Int) (l:List En):Prop where
 e0:0≤e
 bs:Bs e l
 so:So l
 ct:∀ E,0≤E→E<e→∃ v L A p,Ct h g T E v L A p∧Bs (E+1) L∧L <+: l
theorem Ba.fm (b:Ba h T g S.ep S.log) (hn:S.nv=0) (hv:S.vw=0) (hs:S.st=1):Fm (upd h T S) g T:=by
 refine⟨by rw[dK];omega,by rw[dK];exact .inr ⟨hn,b.bs⟩,?_,by rw[dK];exact fun k a=>by have:=b.bs.2 k a;omega,by rw[dK];have:=b.e0;omega,by rw[dK];exact b.so⟩
 rw[dK];intro E h0 h1;obtain⟨v,L,A,p,c,q⟩:=b.ct E h0 h1
 exact⟨v,L,A,p,Li c (Nat.le_refl _),q⟩
theorem Ba.up {T':Nat} {e:Int} {l:List En} (b:Ba h T g e l) (k:∀ i,i<T→h' i=h i) (ht:T≤T'):Ba h' T' g e l :=
 ⟨b.e0,b.bs,b.so,fun E h0 h1=>by
  obtain⟨v,L,A,p,c,q⟩:=b.ct E h0 h1
  exact⟨v,L,A,p,(c.ag k).mono ht,q⟩⟩
theorem Rc.to {i:Nat} {E V:Int} {Q:List Nat} {p:Nat} (a:Rc h g i E V Q p) (hi:i<T) (hs:gV (h i)∨(h i).st=4∨(h i).st=5) (hid:(h i).id=S.id) (hlf:life (h i)=life S) (hin:Inc (h i) S):Rc (upd h T S) g T E V Q p:=by
 have b:=a.ag (h':=upd h T S) (fun i hi=>dx (by omega))
 have d:upd h T S i=h i:=dx hi
 refine⟨⟨fun k c=>by have:=a.q.lt k c;omega,b.q.ep,b.q.st,b.q.me,b.q.nd,b.q.big,b.q.odd,b.q.cc⟩,b.n1,?_,?_,?_,b.mx,b.pin,b.pv,b.pi,b.rg,?_⟩
 ·intro k c;have:=b.kn k c
  rw[d,hlf,hid] at this;rw[dK];exact this
 ·intro k c;have:=b.ne k c
  rw[d,hid] at this;rw[dK];exact this
 ·intro k c;have:=b.le k c
  rw[d] at this;rw[dK];exact this.trans hin.lq
 ·rw[dK];intro q1 q2;have f:=(b.le p b.pin).2;rw[b.q.ep p b.pin,d] at f;have m:=hin.lq.2;have e:gV (h i):=by
   rcases hs with z|z
   ·exact z
   ·have:=hin.o z (by omega)
    unfold gV at q2;omega
  obtain⟨_,r,j⟩:=hin.n e (by omega)
  have:=b.lv
  rw[d] at this;obtain⟨s,l⟩:=this (by omega) e
  exact⟨by omega,fun z=>(l (by omega)).trans (j (by omega))⟩
theorem HX.ext (H:HX h T g) {i:Nat} (hi:i<T) (hla:∀ j,j<T→(h j).id=S.id→j≤i) (hid:(h i).id=S.id) (hlf:life (h i)=life S) (hin:Inc (h i) S) (hk:∀ j,j<T→lf (h j) S.id≤life S) (hst:gV S∨S.st=3∨S.st=4∨S.st=5)
  (hr:(h i).st=3→S.st≠3→0<life S→∃ E V Q p,Rc (upd h T S) g T E V Q p) (hf:gV S→Fm (upd h T S) g T):HX (upd h T S) (T+1) g:=by
 have lt:∀ {j},j<T+1→j=T∨j<T:=fun q=>by omega
 have ag:∀ {j},j<T→∀ i,i≤j→upd h T S i=h i:=fun q i z=>dx (by omega)
 have fm:∀ j,j<T+1→gV (upd h T S j)→Fm (upd h T S) g j:=fun j c q=>by
  rcases lt c with rfl|z
  ·rw[dK] at q;exact hf q
  ·rw[dx z] at q;exact (H.fm z q).ag (ag z)
 refine⟨fun a b f k d e=>?_,fun a b n k q=>?_,fun j c d e=>?_,fun j c q=>(fm j c q).est,fun j c q=>(fm j c q).mst,fun j c q=>(fm j c q).bas,fun j c q=>(fm j c q).clo,fun j c q=>(fm j c q).nvw,fun j c q=>(fm j c q).so,fun j c=>?_,fun j c=>?_,fun j c=>?_⟩
 ·rcases lt k with rfl|z
  ·rcases Nat.eq_or_lt_of_le f with rfl|w
   ·exact Inc.refl _
   ·rw[dx w,dK] at d e ⊢;exact (H.inc' a i (hla a w d) hi (by rw[d,hid]) (by rw[e,hlf])).trans hin
  ·rw[dx z,dx (show a<T by omega)] at d e ⊢
   exact H.inc' a b f z d e
 ·rcases lt n with rfl|z
  ·rcases lt k with rfl|w
   ·rw[dK] at q;unfold life at q;omega
   ·rw[dK,dx w] at q;have:=hk b w
    omega
  ·rcases lt k with rfl|w
   ·omega
   ·rw[dx z,dx w] at q;exact H.rt a b z w q
 ·rcases lt c with rfl|z
  ·rw[dK] at d e;by_cases m:(h i).st=3
   ·exact hr m d e
   ·obtain⟨E,V,Q,p,l⟩:=H.rcv i hi m (by omega)
    exact⟨E,V,Q,p,l.to hi (by have:=H.sts i hi;unfold gV at this ⊢;omega) hid hlf hin⟩
  ·rw[dx z] at d e;obtain⟨E,V,Q,p,l⟩:=H.rcv j z d e
   exact⟨E,V,Q,p,l.ag (ag z)⟩
 ·rcases lt c with rfl|z
  ·rw[dK,← hlf];exact H.l0 i hi
  ·rw[dx z];exact H.l0 j z
 ·rcases lt c with rfl|z
  ·rw[dK];exact hst
  ·rw[dx z];exact H.sts j z
 ·rcases lt c with rfl|z
  ·rw[dK,← hid];exact H.i0 i hi
  ·rw[dx z];exact H.i0 j z
theorem HX.born (H:HX h T g) (hs:S.st=3) (hl:∀ j,j<T→lf (h j) S.id<life S) (h0:0≤life S) (hi0:0≤S.id):HX (upd h T S) (T+1) g:=by
 have lt:∀ {j},j<T+1→j=T∨j<T:=fun q=>by omega
 have ag:∀ {j},j<T→∀ i,i≤j→upd h T S i=h i:=fun q i z=>dx (by omega)
 have no:¬gV S:=by unfold gV;omega
 have fm:∀ j,j<T+1→gV (upd h T S j)→Fm (upd h T S) g j:=fun j c q=>by
  rcases lt c with rfl|z
  ·rw[dK] at q;exact absurd q no
  ·rw[dx z] at q;exact (H.fm z q).ag (ag z)
 refine⟨fun a b f k d e=>?_,fun a b l k q=>?_,fun j c d e=>?_,fun j c q=>(fm j c q).est,fun j c q=>(fm j c q).mst,fun j c q=>(fm j c q).bas,fun j c q=>(fm j c q).clo,fun j c q=>(fm j c q).nvw,fun j c q=>(fm j c q).so,fun j c=>?_,fun j c=>?_,fun j c=>?_⟩
 ·rcases lt k with rfl|z
  ·rcases Nat.eq_or_lt_of_le f with rfl|w
   ·exact Inc.refl _
   ·rw[dx w,dK] at d e;have:=hl a w
    rw[← d] at this;unfold life at e this;omega
  ·rw[dx z,dx (show a<T by omega)] at d e ⊢
   exact H.inc' a b f z d e
 ·rcases lt l with rfl|z
  ·rcases lt k with rfl|w
   ·rw[dK] at q;unfold life at q;omega
   ·rw[dK,dx w] at q;have:=hl b w
    omega
  ·rcases lt k with rfl|w
   ·omega
   ·rw[dx z,dx w] at q;exact H.rt a b z w q
 ·rcases lt c with rfl|z
  ·rw[dK] at d;exact absurd hs d
  ·rw[dx z] at d e;obtain⟨E,V,Q,p,m⟩:=H.rcv j z d e
   exact⟨E,V,Q,p,m.ag (ag z)⟩
 ·rcases lt c with rfl|z
  ·rw[dK];exact h0
  ·rw[dx z];exact H.l0 j z
 ·rcases lt c with rfl|z
  ·rw[dK];exact .inr (.inl hs)
  ·rw[dx z];exact H.sts j z
 ·rcases lt c with rfl|z
  ·rw[dK];exact hi0
  ·rw[dx z];exact H.i0 j z
end
def sn (R:Rp):Sn:=⟨R.id,R.lives,R.status,R.epoch,R.view,if R.status=1 then R.view else R.normal,R.log⟩
section
variable {h h':Nat→Sn} {T T':Nat} {g:Int→List Int} {r:Rp} {n:Int}
def Dc (h:Nat→Sn) (T:Nat) (g:Int→List Int) (e v:Int) (l:List En) (c:Nat):Prop:=c=0∨∃ e' v' L A p,Ct h g T e' v' L A p∧(e'<e∨(e'=e∧v'≤v))∧l.take c <+: L∧c≤l.length
theorem Dc.up {e v:Int} {l:List En} {c:Nat} (d:Dc h T g e v l c) (k:∀ i,i<T→h' i=h i) (ht:T≤T'):Dc h' T' g e v l c:=by
 rcases d with d|⟨e',v',L,A,p,c1,cl,c2,c3⟩
 ·exact .inl d
 ·exact .inr ⟨e',v',L,A,p,(c1.ag k).mono ht,cl,c2,c3⟩
theorem Dc.le {e v:Int} {l:List En} {c c':Nat} (d:Dc h T g e v l c) (k:c'≤c):Dc h T g e v l c':=by
 rcases d with d|⟨a,b,L,A,p,c1,f,c2,c3⟩
 ·exact .inl (by omega)
 ·exact .inr ⟨a,b,L,A,p,c1,f,(List.take_prefix_take_left k).trans c2,by omega⟩
theorem Dc.lift {e v e1 v1:Int} {l:List En} {c:Nat} (d:Dc h T g e v l c) (k:e<e1∨(e=e1∧v≤v1)):Dc h T g e1 v1 l c:=by
 rcases d with d|⟨e',v',L,A,p,c1,cl,c2,c3⟩
 ·exact .inl d
 ·exact .inr ⟨e',v',L,A,p,c1,by omega,c2,c3⟩
theorem rR {l l':List En} {c:Nat} (hl:l <+: l') (hc:c≤l.length):l'.take c=l.take c:=by
 obtain⟨m,rfl⟩:=hl
 exact List.take_append_of_le_length hc
theorem Dc.log {e v:Int} {l l':List En} {c:Nat} (d:Dc h T g e v l c) (hl:l <+: l'):Dc h T g e v l' c:=by
 rcases d with d|⟨a,b,L,A,p,c1,f,c2,c3⟩
 ·exact .inl d
 ·exact .inr ⟨a,b,L,A,p,c1,f,by rw[rR hl c3];exact c2,by have:=hl.length_le;omega⟩
theorem Dc.back {e v:Int} {l l':List En} {c:Nat} (d:Dc h T g e v l' c) (hl:l <+: l') (hc:c≤l.length):Dc h T g e v l c:=by
 rcases d with d|⟨a,b,L,A,p,c1,f,c2,c3⟩
 ·exact .inl d
 ·exact .inr ⟨a,b,L,A,p,c1,f,by rw[← rR hl hc];exact c2,hc⟩
theorem HX.has (H:HX h T g) {e v:Int} {l:List En} {c j:Nat} (d:Dc h T g e v l c) (hj:j<T) (ij:gV (h j)) (hl:e<(h j).ep∨(e=(h j).ep∧v<(h j).nv)):Dc h T g (h j).ep (h j).nv (h j).log c:=by
 rcases d with d|⟨b,f,L,A,p,c1,i,c2,c3⟩
 ·exact .inl d
 ·have q:L <+: (h j).log:=by
   rcases Int.lt_or_eq_of_le (show b≤(h j).ep by omega) with z|z
   ·exact H.later (Nat.le_refl _) c1 hj ij z
   ·have n:=H.nvw j hj ij;exact (safe H (show 0≤b by omega)).2.1 T f L A p (Nat.le_refl _) c1 j hj ij z.symm (by omega)
  have a:c≤L.length:=by
   have:=c2.length_le
   rw[List.length_take] at this;omega
  exact .inr ⟨b,f,L,A,p,c1,by omega,by rw[rR q a];exact List.take_prefix _ _,by have:=q.length_le;omega⟩
structure Mb (h:Nat→Sn) (T:Nat) (g:Int→List Int) (qt:Int) (P:Pm) (i:Nat):Prop where
 lt:i<T
 id:(h i).id=P.frm
 lv:(h i).lv=P.lives
 n1:P.kind=107∨P.kind=112∨P.kind=99∨P.kind=97→(h i).st=1∧(h i).ep=P.epoch∧(h i).vw=P.view
 k:P.kind=107→P.place≤(h i).log.length
 pc:P.kind=112∨P.kind=99→(h i).id=fJ (g P.epoch) P.view∧Dc h T g P.epoch P.view (h i).log P.commit.toNat
 p:P.kind=112→1≤P.place∧(h i).log[(P.place-1).toNat]? = some P.ent
 v:P.kind=118→(h i).st=2∧(h i).ep=P.epoch∧(h i).vw=P.view∧(h i).nv=P.normal∧(h i).log=P.log
 s:P.kind=115→((h i).st=1∧(h i).ep=P.epoch∧(h i).vw=P.view∧(h i).log=P.log)∨(P.view=0∧Ba h T g P.epoch P.log)
 a:P.kind=97→(h i).log=P.log∧P.life≤lf (h i) qt
 d:P.kind=118∨P.kind=115∨P.kind=97→Dc h T g P.epoch (if P.kind=118 then P.normal else P.view) P.log P.commit.toNat
def Mj (h:Nat→Sn) (T:Nat) (g:Int→List Int) (qt:Int) (P:Pm):Prop:=∃ i,Mb h T g qt P i
theorem Mb.up {qt:Int} {P:Pm} {i:Nat} (b:Mb h T g qt P i) (k:∀ i,i<T→h' i=h i) (ht:T≤T'):Mb h' T' g qt P i:=by
 have e:=k i b.lt;refine⟨by have:=b.lt;omega,by rw[e];exact b.id,by rw[e];exact b.lv,by rw[e];exact b.n1,by rw[e];exact b.k,fun q=>?_,by rw[e];exact b.p,by rw[e];exact b.v,fun q=>?_,by rw[e];exact b.a,fun q=>(b.d q).up k ht⟩
 ·rw[e];exact⟨(b.pc q).1,(b.pc q).2.up k ht⟩
 ·rw[e];exact (b.s q).imp (fun z=>z) (fun z=>⟨z.1,z.2.up k ht⟩)
theorem Mj.up {qt:Int} {P:Pm} (m:Mj h T g qt P) (k:∀ i,i<T→h' i=h i) (ht:T≤T'):Mj h' T' g qt P:=by
 obtain⟨i,b⟩:=m
 exact⟨i,b.up k ht⟩
def Oj (h:Nat→Sn) (T:Nat) (g:Int→List Int) (n:Int) (o:Int×ByteArray):Prop:=0≤o.1→∃ P,o.2=fQ P∧dF n P∧RK P.kind∧Mj h T g o.1 P
structure Nr (h:Nat→Sn) (T:Nat) (g:Int→List Int) (r:Rp):Prop where
 lst:∃ i,i<T∧h i=sn r∧∀ j,j<T→(h j).id=r.id→j≤i
 dc:Dc h T g r.epoch (sn r).nv r.log r.decided
 ak:∀ x:Nat,0<r.acks.getD x 0→r.status=1∧∃ a,a<T∧(h a).id=(x:Int)∧(h a).st=1∧(h a).ep=r.epoch∧(h a).vw=r.view∧r.acks.getD x 0≤(h a).log.length∧life (h a)=lf (sn r) x∧∀ q,lf (h a) q≤lf (sn r) q
 vo:∀ v∈r.aI,r.status=2∧∃ i,i<T∧(h i).id=v.frm∧(h i).st=2∧(h i).ep=r.epoch∧(h i).vw=r.view∧(h i).nv=v.normal∧(h i).log=v.log∧(h i).lv=v.lives∧gW r.grp v.frm=true∧Dc h T g r.epoch v.normal v.log v.commit.toNat∧lf (sn r) v.frm≤life (h i)∧∀ q,lf (h i) q≤lf (sn r) q
 an:∀ a∈r.answers,r.status=3∧∃ i,i<T∧(h i).id=a.frm∧a.frm≠r.id∧(h i).st=1∧(h i).ep=a.epoch∧(h i).vw=a.view∧(h i).log=a.log∧(h i).lv=a.lives∧Dc h T g a.epoch a.view a.log a.commit.toNat∧life (sn r)≤lf (h i) r.id∧lf (sn r) a.frm≤life (h i)∧∀ q,lf (h i) q≤lf (sn r) q
 ba:(r.status=5→Ba h T g r.epoch r.log∧r.view=0∧r.normal=0)∧(r.status=3→r.epoch=0∧r.view=0∧r.log=[])
structure Hok (g:Int→List Int) (cu:Int→Int) (h0:Nat→Sn) (T0:Nat) (h:Nat→Sn) (T:Nat) (r:Rp):Prop where
 le:T0≤T
 ag:∀ i,i<T0→h i=h0 i
 hx:HX h T g
 kn:∀ i,i<T→∀ q,lf (h i) q≤cu q
 own:life (sn r)=cu r.id
 ok:Ok r
 nr:Nr h T g r
 out:∀ o∈r.out,Oj h T g r.n o
 nw:∀ j,T0≤j→j<T→(h j).id=r.id
def Hk (g:Int→List Int) (cu:Int→Int) (h0:Nat→Sn) (T0:Nat) (r:Rp):Prop:=∃ h T,Hok g cu h0 T0 h T r
variable {cu:Int→Int} {h0:Nat→Sn} {T0:Nat}
theorem Hok.same {r':Rp} (c:Hok g cu h0 T0 h T r) (hn:r'.n=r.n) (hs:sn r'=sn r) (hk:Ok r') (nr:Nr h T g r') (ho:∀ o∈r'.out,o∈r.out∨Oj h T g r.n o):Hok g cu h0 T0 h T r' :=
 ⟨c.le,c.ag,c.hx,c.kn,by rw[hs];have:r'.id=r.id:=congrArg Sn.id hs;rw[this];exact c.own,hk,nr,fun o q=>by
  rw[hn];rcases ho o q with z|z
  ·exact c.out o z
  ·exact z,fun j a b=>by rw[c.nw j a b];exact (congrArg Sn.id hs).symm⟩
theorem Nr.out (x:Nr h T g r) (o:List (Int×ByteArray)):Nr h T g { r with out:=o }:=⟨x.lst,x.dc,x.ak,x.vo,x.an,x.ba⟩
theorem Hok.put (c:Hok g cu h0 T0 h T r) {o:Int×ByteArray} (ho:Oj h T g r.n o):Hok g cu h0 T0 h T { r with out:=r.out++[o] } :=
 c.same rfl rfl c.ok (c.nr.out _) fun x a=>by
  rcases List.mem_append.1 a with q|q
  ·exact .inl q
  ·simp at q;subst q;exact .inr ho
theorem Hok.send (c:Hok g cu h0 T0 h T r) {qt:Int} {P:Pm} (hp:dF r.n P) (hk:RK P.kind) (hm:Mj h T g qt P):Hok g cu h0 T0 h T (r.send qt P):=c.put fun _=>⟨P,rfl,hp,hk,hm⟩
theorem Hok.eZ (c:Hok g cu h0 T0 h T r) {gr:List Int} {P:Pm} (hp:dF r.n P) (hk:RK P.kind) (hm:∀ qt,Mj h T g qt P):Hok g cu h0 T0 h T (r.eZ gr P) :=
 c.same rfl rfl c.ok (c.nr.out _) fun x a=>by
  rcases List.mem_append.1 a with q|q
  ·exact .inl q
  ·obtain⟨y,_,rfl⟩:=List.mem_map.1 q
   exact .inr fun _=>⟨P,rfl,hp,hk,hm y⟩
theorem Hok.reply (c:Hok g cu h0 T0 h T r) {a m:Int} {t:ByteArray} (ha:1≤a):Hok g cu h0 T0 h T (r.reply a m t):=c.put fun q=>by simp at q;omega
theorem EY (h:Ok r) {k:Int} (hk:k=104∨k=103∨k=114∨k=116):dF r.n (r.head k) :=
 ⟨by show 0≤k;omega,by show k<128;omega,h.i0,h.i1,h.ll,h.lb,h.ep.1,h.ep.2,h.vi.1,h.vi.2,by simp[Rp.head];omega,by simp[Rp.head];omega,by simp[Rp.head];omega,by simp[Rp.head];omega,by simp[Rp.head];omega,by simp[Rp.head];omega,by simp[Rp.head];omega,by simp[Rp.head];omega⟩
theorem Nr.mj0 (x:Nr h T g r) {k:Int} (hk:k=104∨k=103∨k=114∨k=116) (qt:Int):Mj h T g qt (r.head k):=by
 obtain⟨i,a,i2,_⟩:=x.lst
 exact⟨i,a,by rw[i2];rfl,by rw[i2];rfl,by simp[Rp.head];omega,by simp[Rp.head];omega,by simp[Rp.head];omega,by simp[Rp.head];omega,by simp[Rp.head];omega,by simp[Rp.head];omega,by simp[Rp.head];omega,by simp[Rp.head];omega⟩
theorem Hok.bare (c:Hok g cu h0 T0 h T r) {qt k:Int} (hk:k=104∨k=103∨k=114∨k=116):Hok g cu h0 T0 h T (r.bare qt k) :=
 c.send (EY c.ok hk) (by unfold RK;show k=_∨_;simp only[Rp.head];omega) (c.nr.mj0 hk qt)
theorem Hok.LP (c:Hok g cu h0 T0 h T r) {gr:List Int} {k:Int} (hk:k=104∨k=103∨k=114∨k=116):Hok g cu h0 T0 h T (r.eZ gr (r.head k)) :=
 c.eZ (EY c.ok hk) (by unfold RK;show k=_∨_;simp only[Rp.head];omega) (c.nr.mj0 hk)
theorem Hok.ack (c:Hok g cu h0 T0 h T r) (hs:r.status=1) {qt:Int}:Hok g cu h0 T0 h T (r.ack qt):=by
 have k:=c.ok;obtain⟨i,a,i2,_⟩:=c.nr.lst
 refine c.send ⟨by simp[Rp.head],by simp[Rp.head],k.i0,k.i1,k.ll,k.lb,k.ep.1,k.ep.2,k.vi.1,k.vi.2,fun _=>⟨by simp,by have:=k.lg;simp;omega⟩,by simp[Rp.head],by simp[Rp.head],by simp[Rp.head],by simp[Rp.head],by simp[Rp.head],by simp[Rp.head],by simp[Rp.head]⟩ (by unfold RK;simp[Rp.head])
  ⟨i,a,by rw[i2];rfl,by rw[i2];rfl,fun _=>by rw[i2];exact⟨hs,rfl,rfl⟩,fun _=>by rw[i2];show (r.log.length:Int)≤r.log.length;omega,by simp[Rp.head],by simp[Rp.head],by simp[Rp.head],by simp[Rp.head],by simp[Rp.head],by simp[Rp.head]⟩
theorem I7 (h:Ok r):dF r.n r.aC :=
  ⟨by simp [Rp.aC, Rp.head], by simp [Rp.aC, Rp.head], h.i0, h.i1, h.ll, h.lb, h.ep.1, h.ep.2, h.vi.1, h.vi.2, by simp [Rp.aC, Rp.head], by simp [Rp.aC, Rp.head], by simp [Rp.aC, Rp.head], by simp [Rp.aC, Rp.head], by simp [Rp.aC, Rp.head],
   fun _ => ⟨by simp [Rp.aC], by have := h.dc; simp [Rp.aC]; omega⟩, fun _ => ⟨h.lg, h.le⟩, fun _ => ⟨h.g, h.o⟩⟩
theorem Nr.mjS (x:Nr h T g r) (hs:r.status=1∨r.status=5) (qt:Int):Mj h T g qt r.aC:=by
 obtain⟨i,a,i2,_⟩:=x.lst
 refine⟨i,a,by rw[i2];rfl,by rw[i2];rfl,by simp[Rp.aC,Rp.head],by simp[Rp.aC,Rp.head],by simp[Rp.aC,Rp.head],by simp[Rp.aC,Rp.head],by simp[Rp.aC,Rp.head],fun _=>?_,by simp[Rp.aC,Rp.head],fun _=>?_⟩
 ·rcases hs with q|q
  ·exact .inl (by rw[i2];exact⟨q,rfl,rfl,rfl⟩)
  ·exact .inr ⟨(x.ba.1 q).2.1,(x.ba.1 q).1⟩
 ·show Dc h T g r.epoch r.view r.log (r.decided:Int).toNat
  rw[Int.toNat_natCast];refine x.dc.lift (.inr ⟨rfl,?_⟩)
  show (if r.status=1 then r.view else r.normal)≤r.view
  rcases hs with q|q
  ·rw[if_pos q];omega
  ·have:=(x.ba.1 q).2;rw[if_neg (by omega)];omega
theorem Hok.tell (c:Hok g cu h0 T0 h T r) (hs:r.status=1∨r.status=5) {qt:Int}:Hok g cu h0 T0 h T (r.tell qt):=c.send (I7 c.ok) (by unfold RK;simp[Rp.aC,Rp.head]) (c.nr.mjS hs qt)
theorem Hok.bF (c:Hok g cu h0 T0 h T r) (hs:r.status=1∨r.status=5):Hok g cu h0 T0 h T r.bF:=c.eZ (I7 c.ok) (by unfold RK;simp[Rp.aC,Rp.head]) (c.nr.mjS hs)
theorem Hok.answer (c:Hok g cu h0 T0 h T r) {m:Pm} (hm:dF r.n m) (hl:m.lives.getD m.frm.toNat 0≤lf (sn r) m.frm):Hok g cu h0 T0 h T (r.answer m):=by
 unfold Rp.answer
 split
 ·rename_i a;have a:r.status=1:=by simpa using a
  have k:=c.ok;have lb:0≤m.lives.getD m.frm.toNat 0∧m.lives.getD m.frm.toNat 0≤999:=by
   have d:=hm.f0;have e:=hm.f1;have f:=hm.ll;rw[List.getD_eq_getElem?_getD,List.getElem?_eq_getElem (by omega)]
   exact hm.lb _ (List.getElem_mem _)
  obtain⟨i,b,i2,_⟩:=c.nr.lst
  refine c.send ⟨by simp[Rp.aC],by simp[Rp.aC],k.i0,k.i1,k.ll,k.lb,k.ep.1,k.ep.2,k.vi.1,k.vi.2,by simp[Rp.aC],by simp[Rp.aC],by simp[Rp.aC],by simp[Rp.aC],fun _=>lb,fun _=>⟨by simp[Rp.aC],by have:=k.dc;simp[Rp.aC];omega⟩,fun _=>⟨k.lg,k.le⟩,fun _=>⟨k.g,k.o⟩⟩ (by unfold RK;simp)
   ⟨i,b,by rw[i2];rfl,by rw[i2];rfl,fun _=>by rw[i2];exact⟨a,rfl,rfl⟩,by simp[Rp.aC],by simp[Rp.aC],by simp[Rp.aC],by simp[Rp.aC],by simp[Rp.aC],fun _=>by rw[i2];exact⟨rfl,hl⟩,fun _=>by show Dc h T g r.epoch r.view r.log (r.decided:Int).toNat;rw[Int.toNat_natCast];have:=c.nr.dc;simp only[sn,if_pos a] at this;exact this⟩
 ·exact c
theorem Hok.aQ (c:Hok g cu h0 T0 h T r) (hl:r.leads=true) (hg:r.grp=g r.epoch) (p:Int):Hok g cu h0 T0 h T (r.aQ p):=by
 unfold Rp.aQ
 split
 ·exact c
 ·rename_i q;have k:=c.ok;have a:(p-1).toNat<r.log.length:=by omega
  have b:r.log.getD (p-1).toNat (0,0,⟨#[]⟩)=r.log[(p-1).toNat]:=by rw[List.getD_eq_getElem?_getD,List.getElem?_eq_getElem a];rfl
  unfold Rp.leads Rp.dG Rp.gZ at hl;simp only[Bool.and_eq_true,beq_iff_eq] at hl;obtain⟨i,d,i2,_⟩:=c.nr.lst
  refine c.eZ ⟨by simp[Rp.dA,Rp.head],by simp[Rp.dA,Rp.head],k.i0,k.i1,k.ll,k.lb,k.ep.1,k.ep.2,k.vi.1,k.vi.2,fun _=>⟨by show 0≤p;omega,by show p≤10;have:=k.lg;omega⟩,fun _=>?_,fun _=>⟨by simp[Rp.dA],by have:=k.dc;have:=k.lg;simp[Rp.dA];omega⟩,by simp[Rp.dA,Rp.head],by simp[Rp.dA,Rp.head],by simp[Rp.dA,Rp.head],by simp[Rp.dA,Rp.head],by simp[Rp.dA,Rp.head]⟩ (by unfold RK;simp[Rp.dA,Rp.head]) fun e =>
   ⟨i,d,by rw[i2];rfl,by rw[i2];rfl,fun _=>by rw[i2];exact⟨hl.1,rfl,rfl⟩,by simp[Rp.dA,Rp.head],fun _=>by rw[i2];exact⟨by show r.id=fJ (g r.epoch) r.view;rw[← hg];exact hl.2.symm,by show Dc h T g r.epoch r.view r.log (r.decided:Int).toNat;rw[Int.toNat_natCast];have:=c.nr.dc;simp only[sn,if_pos hl.1] at this;exact this⟩,fun _=>by rw[i2];exact⟨by show 1≤p;omega,by show r.log[(p-1).toNat]? = some (r.log.getD (p-1).toNat (0,0,⟨#[]⟩));rw[b,List.getElem?_eq_getElem a]⟩,by simp[Rp.dA,Rp.head],by simp[Rp.dA,Rp.head],by simp[Rp.dA,Rp.head],by simp[Rp.dA,Rp.head]⟩
  show iZ r.n (r.log.getD (p-1).toNat (0,0,⟨#[]⟩))
  rw[b];exact k.le _ (List.getElem_mem a)
theorem AB (r:Rp) (p:Int):∃ o,r.aQ p={ r with out:=o }:=by
 unfold Rp.aQ
 split
 ·exact⟨r.out,rfl⟩
 ·exact⟨_,rfl⟩
theorem Er (k:Nat):∀ {r:Rp} (p:Int),Hok g cu h0 T0 h T r→r.leads=true→r.grp=g r.epoch→Hok g cu h0 T0 h T (Rp.jU k r p):=by
 induction k with
 | zero=>exact fun _ c _ _=>c
 | succ k ih =>
  intro r p c hl hg;unfold Rp.jU;obtain⟨o,e⟩:=AB r p
  exact ih (p+1) (c.aQ hl hg p) (by rw[e];exact hl) (by rw[e];exact hg)
theorem Hok.iD (c:Hok g cu h0 T0 h T r) (hl:r.leads=true) (hg:r.grp=g r.epoch):Hok g cu h0 T0 h T r.iD:=by
 unfold Rp.iD;have k:=c.ok
 split
 ·obtain⟨i,a,i2,_⟩:=c.nr.lst
  unfold Rp.leads Rp.dG Rp.gZ at hl;simp only[Bool.and_eq_true,beq_iff_eq] at hl;exact c.eZ ⟨by simp[Rp.head],by simp[Rp.head],k.i0,k.i1,k.ll,k.lb,k.ep.1,k.ep.2,k.vi.1,k.vi.2,by simp[Rp.head],by simp[Rp.head],fun _=>⟨by simp,by have:=k.dc;have:=k.lg;simp;omega⟩,by simp[Rp.head],by simp[Rp.head],by simp[Rp.head],by simp[Rp.head],by simp[Rp.head]⟩ (by unfold RK;simp[Rp.head]) fun b =>
   ⟨i,a,by rw[i2];rfl,by rw[i2];rfl,fun _=>by rw[i2];exact⟨hl.1,rfl,rfl⟩,by simp[Rp.head],fun _=>by rw[i2];exact⟨by show r.id=fJ (g r.epoch) r.view;rw[← hg];exact hl.2.symm,by show Dc h T g r.epoch r.view r.log (r.decided:Int).toNat;rw[Int.toNat_natCast];have:=c.nr.dc;simp only[sn,if_pos hl.1] at this;exact this⟩,by simp[Rp.head],by simp[Rp.head],by simp[Rp.head],by simp[Rp.head],by simp[Rp.head]⟩
 ·exact Er _ _ c hl hg
theorem Bs.upto {l:List En} {e:Nat} (h1:1≤e) (h2:e≤regs l):Bs e (dP l e)∧dP l e <+: l:=by
 unfold dP;rw[AX h1 h2];refine⟨⟨by rw[jo l e h2],fun k d=>?_⟩,List.take_prefix _ _⟩
 obtain⟨i,f,a,b⟩:=oQ l e h1 h2
 rw[List.length_take] at d;rw[List.take_take,Nat.min_eq_left (by omega)]
 have c:=jo l e h2;rw[f,kH l i a] at c;rw[List.getD_eq_getElem?_getD,List.getElem?_eq_getElem a] at b;rw[if_pos (by simpa using b)] at c
 have:=lI l (i:=k) (j:=i) (by omega)
 omega
theorem Bs.in {E e:Int} {L M l:List En} (a:Bs E L) (b:Bs e M) (he:E≤e) (h1:L <+: l) (h2:M <+: l):L <+: M:=by
 rcases List.prefix_or_prefix_of_prefix h1 h2 with q|q
 ·exact q
 ·rcases Nat.eq_or_lt_of_le q.length_le with z|z
  ·rw[q.eq_of_length z];exact List.prefix_refl _
  ·have:=a.2 M.length z
   rw[(List.prefix_iff_eq_take.1 q).symm] at this;have:=b.1
   omega
theorem Ba.upto {j:Nat} (f:Fm h g j) (hj:j<T) (h1:1≤(h j).ep):Ba h T g (h j).ep (dP (h j).log (h j).ep):=by
 obtain⟨e,k⟩:∃ e:Nat,(h j).ep=e:=⟨(h j).ep.toNat,by omega⟩
 obtain⟨v,L,A,p,c,a,b⟩:=f.bas ((h j).ep-1) (by omega) (by omega)
 have l:e≤regs (h j).log:=by
  have:=Ar b
  have:=a.1
  omega
 rw[k];obtain⟨d,i⟩:=Bs.upto (by omega) l
 refine⟨by omega,d,List.Pairwise.sublist i.sublist f.so,fun E m n=>?_⟩
 obtain⟨v,L,A,p,c,a,b⟩:=f.bas E m (by omega)
 exact⟨v,L,A,p,c.mono (by omega),a,a.in d (by omega) b i⟩
theorem Hok.jL (c:Hok g cu h0 T0 h T r) (hs:r.status=1∨r.status=2) (he:1≤r.epoch) {qt:Int}:Hok g cu h0 T0 h T (r.jL qt):=by
 have k:=c.ok;obtain⟨i,a,i2,_⟩:=c.nr.lst
 have e:gV (h i):=by rw[i2];exact hs
 have b:=Ba.upto (c.hx.fm a e) a (by rw[i2];exact he)
 rw[i2] at b;have b:Ba h T g r.epoch (dP r.log r.epoch):=b
 refine c.send ⟨by simp[Rp.iA,Rp.aC,Rp.head],by simp[Rp.iA,Rp.aC,Rp.head],k.i0,k.i1,k.ll,k.lb,k.ep.1,k.ep.2,by simp[Rp.iA],by simp[Rp.iA],by simp[Rp.iA,Rp.aC,Rp.head],by simp[Rp.iA,Rp.aC,Rp.head],by simp[Rp.iA,Rp.aC,Rp.head],by simp[Rp.iA,Rp.aC,Rp.head],by simp[Rp.iA,Rp.aC,Rp.head],fun _=>⟨by simp[Rp.iA],by simp[Rp.iA]⟩,fun _=>k.log.upto _,fun _=>⟨k.g,k.o⟩⟩ (by unfold RK;simp[Rp.iA,Rp.aC,Rp.head])
  ⟨i,a,by rw[i2];rfl,by rw[i2];rfl,by simp[Rp.iA,Rp.aC,Rp.head],by simp[Rp.iA,Rp.aC,Rp.head],by simp[Rp.iA,Rp.aC,Rp.head],by simp[Rp.iA,Rp.aC,Rp.head],by simp[Rp.iA,Rp.aC,Rp.head],fun _=>.inr ⟨rfl,b⟩,by simp[Rp.iA,Rp.aC,Rp.head],fun _=>?_⟩
 obtain⟨v,L,A,p,ct,d,f⟩:=b.ct (r.epoch-1) (by omega) (by omega)
 rw[show r.epoch-1+1=r.epoch by omega] at d
 refine .inr ⟨_,v,L,A,p,ct,.inl (by show r.epoch-1<r.epoch;omega),?_,by simp[Rp.iA]⟩
 have:=d.eq b.bs f
 rw[this];exact List.take_prefix _ _
end
section
variable {h:Nat→Sn} {T:Nat} {g:Int→List Int} {r r':Rp} {n:Int} {cu:Int→Int} {h0:Nat→Sn} {T0:Nat}
structure Nq (h:Nat→Sn) (T:Nat) (g:Int→List Int) (r:Rp):Prop where
 dc:Dc h T g r.epoch (sn r).nv r.log r.decided
 ak:∀ x:Nat,0<r.acks.getD x 0→r.status=1∧∃ a,a<T∧(h a).id=(x:Int)∧(h a).st=1∧(h a).ep=r.epoch∧(h a).vw=r.view∧r.acks.getD x 0≤(h a).log.length∧life (h a)=lf (sn r) x∧∀ q,lf (h a) q≤lf (sn r) q
 vo:∀ v∈r.aI,r.status=2∧∃ i,i<T∧(h i).id=v.frm∧(h i).st=2∧(h i).ep=r.epoch∧(h i).vw=r.view∧(h i).nv=v.normal∧(h i).log=v.log∧(h i).lv=v.lives∧gW r.grp v.frm=true∧Dc h T g r.epoch v.normal v.log v.commit.toNat∧lf (sn r) v.frm≤life (h i)∧∀ q,lf (h i) q≤lf (sn r) q
 an:∀ a∈r.answers,r.status=3∧∃ i,i<T∧(h i).id=a.frm∧a.frm≠r.id∧(h i).st=1∧(h i).ep=a.epoch∧(h i).vw=a.view∧(h i).log=a.log∧(h i).lv=a.lives∧Dc h T g a.epoch a.view a.log a.commit.toNat∧life (sn r)≤lf (h i) r.id∧lf (sn r) a.frm≤life (h i)∧∀ q,lf (h i) q≤lf (sn r) q
 ba:(r.status=5→Ba h T g r.epoch r.log∧r.view=0∧r.normal=0)∧(r.status=3→r.epoch=0∧r.view=0∧r.log=[])
theorem Nr.nq (x:Nr h T g r):Nq h T g r:=⟨x.dc,x.ak,x.vo,x.an,x.ba⟩
theorem Nq.nr (x:Nq h T g r):Nr (upd h T (sn r)) (T+1) g r:=by
 have k:∀ i,i<T→upd h T (sn r) i=h i:=fun i t=>dx t
 refine⟨⟨T,by omega,dK,fun j B _=>by omega⟩,x.dc.up k (by omega),fun y u=>?_,fun v w=>?_,fun a z=>?_,⟨fun q=>⟨(x.ba.1 q).1.up k (by omega),(x.ba.1 q).2⟩,x.ba.2⟩⟩
 ·obtain⟨b,a,c,A⟩:=x.ak y u
  exact⟨b,a,by omega,by rw[k a c];exact A⟩
 ·obtain⟨b,a,c,b1,d,e,f,l,m,n,o,p,s⟩:=x.vo v w
  exact⟨b,a,by omega,by rw[k a c];exact⟨b1,d,e,f,l,m,n,o,p.up k (by omega),s⟩⟩
 ·obtain⟨b,i,c,b1,d,e,f,l,m,n,o,p⟩:=x.an a z
  exact⟨b,i,by omega,by rw[k i c];exact⟨b1,d,e,f,l,m,n,o.up k (by omega),p⟩⟩
theorem Oj.up {o:Int×ByteArray} {S:Sn} (x:Oj h T g n o):Oj (upd h T S) (T+1) g n o:=fun q=>by
 obtain⟨P,a,b,c,d⟩:=x q
 exact⟨P,a,b,c,d.up (fun i hi=>dx hi) (by omega)⟩
theorem Hok.ext (c:Hok g cu h0 T0 h T r) (hid:r'.id=r.id) (hn:r'.n=r.n) (hlf:life (sn r')=life (sn r)) (hin:Inc (sn r) (sn r')) (hkn:∀ q,lf (sn r') q≤cu q) (hok:Ok r') (nq:Nq h T g r')
  (hr:r.status=3→r'.status≠3→0<life (sn r')→∃ E V Q p,Rc (upd h T (sn r')) g T E V Q p) (hf:gV (sn r')→Fm (upd h T (sn r')) g T) (ho:r'.out=r.out):Hok g cu h0 T0 (upd h T (sn r')) (T+1) r':=by
 obtain⟨i,b,i2,d⟩:=c.nr.lst
 have le:=c.le;refine⟨by omega,fun j a=>by rw[dx (by omega)];exact c.ag j a,?_,fun j a q=>?_,by rw[hlf,hid];exact c.own,hok,nq.nr,fun o q=>by rw[ho] at q;rw[hn];exact (c.out o q).up,fun j f k=>?_⟩
 ·refine c.hx.ext b (fun j a q=>d j a (by rw[q];exact hid)) (by rw[i2];exact hid.symm) (by rw[i2];exact hlf.symm) (by rw[i2];exact hin) (fun j a=>?_) ?_ (fun q=>hr (by rw[i2] at q;exact q)) hf
  ·have:=c.kn j a r'.id
   have e:=c.own;rw[← hlf,← hid] at e
   show lf (h j) r'.id≤life (sn r')
   omega
  ·have:=hok.st
   show (r'.status=1∨r'.status=2)∨r'.status=3∨r'.status=4∨r'.status=5
   omega
 ·by_cases z:j=T
  ·subst z;rw[dK];exact hkn q
  ·rw[dx (by omega)];exact c.kn j (by omega) q
 ·by_cases z:j=T
  ·subst z;rw[dK];rfl
  ·rw[dx (by omega),hid];exact c.nw j f (by omega)
structure Lr (l:List Int) (is:List Nat) (r r':Rp):Prop where
 eq:∃ lv ak,r'={ r with lives:=lv,acks:=ak }
 len:r'.lives.length=r.lives.length
 ge:∀ q,r.lives.getD q 0≤r'.lives.getD q 0
 or:∀ q,r'.lives.getD q 0=r.lives.getD q 0∨(r'.lives.getD q 0=l.getD q 0∧(q:Int)≠r.id)
 al:∀ q∈is,(q:Int)≠r.id→q<r.lives.length→l.getD q 0≤r'.lives.getD q 0
 ak:∀ x,r'.acks.getD x 0=0∨(r'.acks.getD x 0=r.acks.getD x 0∧r'.lives.getD x 0=r.lives.getD x 0)
theorem pX (l:List Int) (i x:Nat) (v:Int):(l.set i v).getD x 0=if x=i∧i<l.length then v else l.getD x 0:=by
 rw[List.getD_eq_getElem?_getD,List.getElem?_set,List.getD_eq_getElem?_getD];by_cases e:i=x
 ·subst e;by_cases z:i<l.length
  ·simp[z]
  ·rw[if_pos rfl,if_neg z,if_neg (by omega),List.getElem?_eq_none (by omega)]
 ·rw[if_neg e,if_neg (fun q=>e q.1.symm)]
theorem lr1 (l:List Int) (r:Rp) (i:Nat):Lr l [i] r (Rp.gY l r i):=by
 unfold Rp.gY
 split
 ·rename_i q;simp only[Bool.and_eq_true,bne_iff_ne,decide_eq_true_eq] at q;refine⟨⟨_,_,rfl⟩,List.length_set,fun x=>?_,fun x=>?_,fun x a b c=>?_,fun x=>?_⟩
  ·show _≤(r.lives.set i _).getD x 0
   rw[pX]
   split
   ·rename_i z;rw[z.1];omega
   ·omega
  ·show (r.lives.set i _).getD x 0=_∨(r.lives.set i _).getD x 0=_∧_
   rw[pX]
   split
   ·rename_i z;rw[z.1];exact .inr ⟨rfl,q.1⟩
   ·exact .inl rfl
  ·simp at a;subst a
   show _≤(r.lives.set x _).getD x 0
   rw[pX,if_pos ⟨rfl,c⟩];omega
  ·show (r.acks.set i 0).getD x 0=0∨(r.acks.set i 0).getD x 0=_∧(r.lives.set i _).getD x 0=_
   rw[pX,pX];by_cases e:x=i
   ·subst e
    left
    split
    ·rfl
    ·rw[List.getD_eq_getElem?_getD,List.getElem?_eq_none (by omega)];rfl
   ·right
    rw[if_neg (fun z=>e z.1),if_neg (fun z=>e z.1)];exact⟨rfl,rfl⟩
 ·rename_i q;simp only[Bool.and_eq_true,bne_iff_ne,decide_eq_true_eq] at q;refine⟨⟨_,_,rfl⟩,rfl,fun x=>Int.le_refl _,fun x=>.inl rfl,fun x a b c=>?_,fun x=>.inr ⟨rfl,rfl⟩⟩
  simp at a;subst a;have:¬r.lives.getD x 0<l.getD x 0:=fun z=>q ⟨b,z⟩
  omega
theorem Lr.trans {l:List Int} {is js:List Nat} {r1 r2:Rp} (a:Lr l is r r1) (b:Lr l js r1 r2):Lr l (is++js) r r2:=by
 obtain⟨n,o,f⟩:=a.eq
 obtain⟨d,e,i⟩:=b.eq
 have c:r1.id=r.id:=by rw[f]
 refine⟨⟨d,e,by rw[i,f]⟩,by rw[b.len,a.len],fun q=>Int.le_trans (a.ge q) (b.ge q),fun q=>?_,fun q j g h=>?_,fun x=>?_⟩
 ·rcases b.or q with z|z
  ·rw[z];exact a.or q
  ·rw[c] at z;exact .inr z
 ·rcases List.mem_append.1 j with z|z
  ·exact Int.le_trans (a.al q z g h) (b.ge q)
  ·exact b.al q z (by rw[c];exact g) (by rw[a.len];exact h)
 ·rcases b.ak x with z|⟨k,m⟩
  ·exact .inl z
  ·rw[k,m];exact a.ak x
theorem lrL (l:List Int):∀ (is:List Nat) (r:Rp),Lr l is r (is.foldl (Rp.gY l) r)
 | [],r=>⟨⟨_,_,rfl⟩,rfl,fun _=>Int.le_refl _,fun _=>.inl rfl,fun _ hq=>by simp at hq,fun _=>.inr ⟨rfl,rfl⟩⟩
 | i :: is,r=>by
  rw[List.foldl_cons];exact (lr1 l r i).trans (lrL l is _)
theorem lr (l:List Int) (r:Rp):Lr l (List.range r.n.toNat) r (r.learn l):=lrL l _ r
structure Lnd (m:Pm) (i:Nat) (h:Nat→Sn) (r1:Rp):Prop where
 all:∀ q,lf (h i) q≤lf (sn r1) q
 eq:lf (sn r1) m.frm=life (h i)
theorem Hok.learn (c:Hok g cu h0 T0 h T r) {m:Pm} {qt:Int} {i:Nat} (mb:Mb h T g qt m i) (hm:dF r.n m) (ha:r.alive m=true) :
  Hok g cu h0 T0 (upd h T (sn (r.learn m.lives).pruned)) (T+1) (r.learn m.lives).pruned∧(∃ lv ak vo an,(r.learn m.lives).pruned={ r with lives:=lv,acks:=ak,aI:=vo,answers:=an })∧Lnd m i (upd h T (sn (r.learn m.lives).pruned)) (r.learn m.lives).pruned:=by
 have L:=lr m.lives r;obtain⟨lv,ak,e⟩:=L.eq
 have V:=L.len;have b:=L.ge;have d:=L.or;have E:=L.al;have o:=L.ak;have F:Ok (r.learn m.lives).pruned:=by
  have R:=(Rp.qQ c.ok (l:=m.lives) hm.lb).ok;exact (Rp.oW R).ok
 unfold Rp.alive at ha;simp only[Bool.and_eq_true,bne_iff_ne,decide_eq_true_eq] at ha;rw[e] at V b d E o F ⊢;have V:lv.length=r.lives.length:=V
 have b:∀ q,r.lives.getD q 0≤lv.getD q 0:=b
 have d:∀ q,lv.getD q 0=r.lives.getD q 0∨(lv.getD q 0=m.lives.getD q 0∧(q:Int)≠r.id):=d
 have o:∀ x,ak.getD x 0=0∨(ak.getD x 0=r.acks.getD x 0∧lv.getD x 0=r.lives.getD x 0):=o
 have own:lv.getD r.id.toNat 0=r.lives.getD r.id.toNat 0:=by
  rcases d r.id.toNat with z|z
  ·exact z
  ·have:=c.ok.i0;omega
 have hl:=c.ok.ll;have ab:=c.ok.i0;have ac:=c.ok.i1;have ad:=hm.ll;have G:=c.kn i mb.lt;have p:∀ q,lf (h i) q=m.lives.getD q.toNat 0:=fun q=>by unfold lf;rw[mb.lv]
 have s:∀ q:Int,m.lives.getD q.toNat 0≤lv.getD q.toNat 0:=fun q=>by
  by_cases z:q.toNat<r.lives.length
  ·by_cases w:(q.toNat:Int)=r.id
   ·have R:=G r.id;rw[p,← c.own] at R;have:q.toNat=r.id.toNat:=by omega
    rw[this,own];exact R
   ·exact E q.toNat (List.mem_range.2 (by omega)) w z
  ·rw[List.getD_eq_getElem?_getD,List.getElem?_eq_none (by omega)]
   show 0≤lv.getD q.toNat 0
   rw[List.getD_eq_getElem?_getD,List.getElem?_eq_none (by omega)]
   exact Int.le_refl _
 have W:lv.getD m.frm.toNat 0=m.lives.getD m.frm.toNat 0:=by
  rcases d m.frm.toNat with z|z
  ·have:=s m.frm;omega
  ·exact z.1
 have X:∀ q:Int,lv.getD q.toNat 0≤cu q:=fun q=>by
  rcases d q.toNat with z|z
  ·rw[z];obtain⟨j,S,t,_⟩:=c.nr.lst
   have:=c.kn j S q
   rw[t] at this;exact this
  ·rw[z.1,← p];exact G q
 obtain⟨j,S,t,_⟩:=c.nr.lst
 refine⟨c.ext rfl rfl own ⟨⟨fun q=>b q.toNat,.inr ⟨rfl,Int.le_refl _⟩⟩,fun q _=>⟨q,Int.le_refl _,fun _=>List.prefix_refl _⟩,fun q _=>q,fun q=>q⟩ X F ⟨c.nr.dc,fun x U=>?_,fun v hv=>?_,fun a U=>?_,c.nr.ba⟩ (fun q1 q2=>absurd q1 q2) (fun q=>?_) rfl,⟨_,_,_,_,rfl⟩,fun q=>?_,?_⟩
 ·have U:0<ak.getD x 0:=U
  rcases o x with z|⟨z1,z2⟩
  ·omega
  ·obtain⟨b1,a,H,u,K,M,N,P,Q,y⟩:=c.nr.ak x (by omega)
   exact⟨b1,a,H,u,K,M,N,by show ak.getD x 0≤_;rw[z1];exact P,by rw[Q];exact z2.symm,fun q=>Int.le_trans (y q) (b q.toNat)⟩
 ·obtain⟨v1,A⟩:=List.mem_filter.1 hv
  have A:lv.getD v.frm.toNat 0≤v.lives.getD v.frm.toNat 0:=by simpa using A
  obtain⟨b1,a,H,u,K,M,N,P,Q,y,B,C,aa,D⟩:=c.nr.vo v v1
  exact⟨b1,a,H,u,K,M,N,P,Q,y,B,C,by show lv.getD v.frm.toNat 0≤_;unfold life lf;rw[u,y];exact A,fun q=>Int.le_trans (D q) (b q.toNat)⟩
 ·obtain⟨v1,A⟩:=List.mem_filter.1 U
  have A:lv.getD a.frm.toNat 0≤a.lives.getD a.frm.toNat 0:=by simpa using A
  obtain⟨b1,k,H,u,K,M,N,P,Q,y,B,C,aa,D⟩:=c.nr.an a v1
  exact⟨b1,k,H,u,K,M,N,P,Q,y,B,by show lv.getD r.id.toNat 0≤_;rw[own];exact C,by show lv.getD a.frm.toNat 0≤_;unfold life lf;rw[u,y];exact A,fun q=>Int.le_trans (D q) (b q.toNat)⟩
 ·have hi:gV (h j):=by rw[t];exact q
  have f:=c.hx.fm S hi;have n:=f.nvw;rw[t] at n;exact f.same S (by rw[t];rfl) (by rw[t];rfl) (by rw[t];rfl) n.2.2
 ·rw[dx mb.lt,p];exact s q
 ·rw[dx mb.lt]
  show lv.getD m.frm.toNat 0=_
  unfold life;rw[p,mb.id];exact W
end
section
variable {h:Nat→Sn} {T:Nat} {g:Int→List Int} {r:Rp} {cu:Int→Int} {h0:Nat→Sn} {T0:Nat}
theorem Ed {l:List En} {e:Int} (he:0≤e) (hc:∀ k,k<l.length→(regs (l.take k):Int)≤e):(regs l:Int)≤e+1:=by
 rcases Nat.eq_or_lt_of_le (Nat.zero_le l.length) with z|z
 ·rw[List.length_eq_zero_iff.1 z.symm];simp[regs];omega
 ·have b:=hc (l.length-1) (by omega)
  have a:=kH l (l.length-1) (by omega)
  rw[show l.length-1+1=l.length by omega,List.take_length] at a
  split at a <;> omega
theorem Dc.all {e v:Int} {l:List En} (d:Dc h T g e v l l.length) (hl:0<l.length):∃ e' v' L A p,Ct h g T e' v' L A p∧l <+: L:=by
 rcases d with d|⟨e',v',L,A,p,c1,_,c2,_⟩
 ·omega
 ·exact⟨e',v',L,A,p,c1,by rw[List.take_length] at c2;exact c2⟩
theorem Ba.turn (H:HX h T g) {j:Nat} (hj:j<T) (ij:gV (h j)) (hb:Bs ((h j).ep+1) (h j).log) {e v:Int} (hd:Dc h T g e v (h j).log (h j).log.length):Ba h T g ((h j).ep+1) (h j).log:=by
 have f:=H.fm hj ij;have n:=f.nvw;refine⟨by omega,hb,f.so,fun E k B=>?_⟩
 by_cases z:E<(h j).ep
 ·obtain⟨v,L,A,p,c,q⟩:=f.bas E k z
  exact⟨v,L,A,p,c.mono (by omega),q⟩
 ·obtain rfl:E=(h j).ep:=by omega
  have l:0<(h j).log.length:=by
   rcases Nat.eq_or_lt_of_le (Nat.zero_le (h j).log.length) with z|z
   ·have:=hb.1
    rw[List.length_eq_zero_iff.1 z.symm] at this;simp[regs] at this;omega
   ·exact z
  obtain⟨m,v,L,A,p,c,d⟩:=hd.all l
  have o:=c.q.lt p c.pin;have b:=H.fm o (c.q.st p c.pin);have ep:=c.q.ep p c.pin;have a:=d.trans (c.lg p c.pin);rcases Int.lt_trichotomy m (h j).ep with w|w|w
  ·exfalso
   have i:=Ed b.nvw.1 b.clo;have C:=Ar a;have D:=hb.1;omega
  ·subst w;exact⟨v,_,A,p,c.less d,hb,List.prefix_refl _⟩
  ·obtain⟨r,s,t,u,x,b0,y⟩:=b.bas (h j).ep n.1 (by omega)
   have i:=b0.in hb (Int.le_refl _) y a;exact⟨r,s,t,u,x.mono (by omega),b0,i⟩
theorem jy (x:Nat):jW.getD x 0=0:=by
 unfold jW;rw[List.getD_eq_getElem?_getD,List.getElem?_replicate];split <;> rfl
theorem Hok.carried (c:Hok g cu h0 T0 h T r) (hd:r.decided<r.log.length) (hD:Dc h T g r.epoch (sn r).nv r.log (r.decided+1)):Hok g cu h0 T0 h T (r.carried (r.log.getD r.decided (0,0,⟨#[]⟩))):=by
 have a:iZ r.n (r.log.getD r.decided (0,0,⟨#[]⟩)):=by
  rw[List.getD_eq_getElem?_getD,List.getElem?_eq_getElem hd];exact c.ok.le _ (List.getElem_mem hd)
 have c1:Hok g cu h0 T0 h T (r.l6 (r.log.getD r.decided (0,0,⟨#[]⟩))):=c.same rfl rfl (Rp.xg c.ok hd _).ok ⟨c.nr.lst,hD,c.nr.ak,c.nr.vo,c.nr.an,c.nr.ba⟩ fun o q=>.inl q
 unfold Rp.carried
 split
 ·exact c1.reply (by have:=a.1;omega)
 ·exact c1
theorem BN (e:En):(r.carried e).status=r.status∧(r.carried e).n=r.n∧sn (r.carried e)=sn r:=by unfold Rp.carried;split <;> exact⟨rfl,rfl,rfl⟩
theorem Hok.turn (c:Hok g cu h0 T0 h T r) (hs:r.status=1) (he:r.epoch+1≤10) {gr:List Int} (hg:fG r.n gr) (hb:Bs (r.epoch+1) r.log) (hd:Dc h T g r.epoch (sn r).nv r.log r.log.length):Hk g cu h0 T0 (r.turn gr):=by
 obtain⟨i,j,i2,_⟩:=c.nr.lst
 have k:Ba h T g (r.epoch+1) r.log:=by
  have:=Ba.turn c.hx j (by rw[i2];exact .inl hs) (by rw[i2];exact hb) (by rw[i2];exact hd)
  rw[i2] at this;exact this
 have l:=Rp.vK c.ok he hg;have m:∀ q,lf (sn r) q≤cu q:=fun q=>by have:=c.kn i j q;rw[i2] at this;exact this
 have b:∀ a∈r.answers,False:=fun a d=>by have:=(c.nr.an a d).1;omega
 have nq:∀ s:Int,s≠3→Nq h T g { ({ r with old:=r.grp,grp:=gr,epoch:=r.epoch+1 }:Rp).begin_ 0 with started:=st0,status:=s }:=fun s e =>
  ⟨c.nr.dc.lift (.inl (by show r.epoch<r.epoch+1;omega)),fun x f=>by have f:0<jW.getD x 0:=f;rw[jy] at f;omega,fun v o=>by simp[Rp.begin_] at o,fun a d=>(b a d).elim,fun _=>⟨k,rfl,rfl⟩,fun q=>absurd q e⟩
 unfold Rp.turn;dsimp only
 split
 ·have c3:Hok g cu h0 T0 _ (T+1) { ({ r with old:=r.grp,grp:=gr,epoch:=r.epoch+1 }:Rp).begin_ 0 with started:=st0 }:=c.ext rfl rfl rfl ⟨⟨fun q=>Int.le_refl _,.inl (by show r.epoch<r.epoch+1;omega)⟩,fun _ q=>by have q:r.epoch=r.epoch+1:=q;omega,fun _ q=>by have q:r.epoch=r.epoch+1:=q;omega,fun _=>by show (1:Int)≠3;decide⟩ m l (nq 1 (by decide)) (fun q=>by omega) (fun _=>Ba.fm k rfl rfl rfl) rfl
  exact⟨_,_,(c3.bF (.inl rfl)).LP (by omega)⟩
 ·have c3:Hok g cu h0 T0 _ (T+1) { ({ r with old:=r.grp,grp:=gr,epoch:=r.epoch+1 }:Rp).begin_ 0 with started:=st0,status:=5 }:=c.ext rfl rfl rfl ⟨⟨fun q=>Int.le_refl _,.inl (by show r.epoch<r.epoch+1;omega)⟩,fun _ q=>by have q:r.epoch=r.epoch+1:=q;omega,fun _ q=>by have q:r.epoch=r.epoch+1:=q;omega,fun _=>by show (5:Int)≠3;decide⟩ m (Rp.fM l (by decide)).ok (nq 5 (by decide)) (fun q=>by omega) (fun q=>by have q:(5:Int)=1∨(5:Int)=2:=q;omega) rfl
  exact⟨_,_,c3.bF (.inr rfl)⟩
theorem zM:∀ (f:Nat) (r:Rp) (p:Int) (c:Nat),Hok g cu h0 T0 h T r→(r.status=1∨(r.status=5∧(regs r.log:Int)≤r.epoch))→Dc h T g r.epoch (sn r).nv r.log c→(∀ k:Nat,(k:Int)≤p→k≤r.log.length→k≤c)→Hk g cu h0 T0 (Rp.dZ f r p)
 | 0,r,_,_,hh,_,_,_=>⟨_,_,hh⟩
 | f+1,r,p,c,hh,hs,hD,hc=>by
  unfold Rp.dZ
  split
  ·rename_i q;dsimp only;have hd:Dc h T g r.epoch (sn r).nv r.log (r.decided+1):=hD.le (hc _ (by omega) (by omega))
   have c1:=hh.carried q.2 hd;obtain⟨s1,s2,s3⟩:=BN (r:=r) (r.log.getD r.decided (0,0,⟨#[]⟩))
   have lg:=Rp.lQ (r:=r) (r.log.getD r.decided (0,0,⟨#[]⟩));have dd:=Rp.iF (r:=r) (r.log.getD r.decided (0,0,⟨#[]⟩));have ep:=Rp.iL (r:=r) (r.log.getD r.decided (0,0,⟨#[]⟩))
   split
   ·rename_i ht;have hle:=Rp.wK c1.ok ht;unfold Rp.turns at ht;simp only[Bool.and_eq_true,decide_eq_true_eq] at ht;have ht:=ht.2;rw[lg,dd,ep] at ht;have hs1:r.status=1:=by
     rcases hs with z|z
     ·exact z
     ·have:=fV r.log (r.decided+1);omega
    obtain⟨i,i1,i2,_⟩:=hh.nr.lst
    have fm:=hh.hx.fm i1 (by rw[i2];exact .inl hs1)
    have clo:=fm.clo;have hl:r.decided+1=r.log.length:=by
     rcases Nat.eq_or_lt_of_le (show r.decided+1≤r.log.length by omega) with z|z
     ·exact z
     ·have:=clo (r.decided+1) (by rw[i2];exact z)
      rw[i2] at this;have:(regs (r.log.take (r.decided+1)):Int)≤r.epoch:=this
      omega
    have clo2:∀ k,k<r.log.length→(regs (r.log.take k):Int)≤r.epoch:=fun k hk=>by
     have:=clo k (by rw[i2];exact hk)
     rw[i2] at this;exact this
    have h1:=Ed hh.ok.ep.1 clo2;have ht2:(regs r.log:Int)=r.epoch+1:=by
     rw[hl,List.take_length] at ht;omega
    refine c1.turn (by rw[s1];exact hs1) (by omega) (by rw[s2];exact rZ _ _) (by rw[ep,lg];exact⟨ht2,fun k hk=>by have:=clo2 k hk;omega⟩) (by rw[s3,ep,lg,← hl];exact hd)
   ·exact zM f _ p c c1 (by rw[s1,lg,ep];exact hs) (by rw[s3,ep,lg];exact hD) (by rw[lg];exact hc)
  ·exact⟨_,_,hh⟩
theorem Hok.decide (c:Hok g cu h0 T0 h T r) (hs:r.status=1∨(r.status=5∧(regs r.log:Int)≤r.epoch)) {p:Int} {k:Nat} (hD:Dc h T g r.epoch (sn r).nv r.log k) (hc:∀ j:Nat,(j:Int)≤p→j≤r.log.length→j≤k):Hk g cu h0 T0 (r.aV p):=zM _ _ _ k c hs hD hc
theorem Hok.bY (c:Hok g cu h0 T0 h T r) (hs:r.status=1) {p:Int} (hD:Dc h T g r.epoch (sn r).nv r.log p.toNat):Hk g cu h0 T0 (r.bY p):=by
 unfold Rp.bY
 split
 ·exact c.decide (.inl hs) hD fun j _ _=>by omega
 ·exact (c.ack hs).decide (.inl hs) hD fun j _ _=>by omega
end
def pW (l:List En) (op:ByteArray):ByteArray :=
 if b0 op=114 then OKb else if b0 op=103 then (if (0:Int)<jZ l (b1 op) then mJ (jZ l (b1 op)) else qG)
 else if b0 op=100 then (if jZ l (b1 op)=0 then qG else OKb) else if b0 op=99 then (if jZ l (b1 op)=bN op 2 then OKb else NOb) else OKb
section
variable {N:Nat} {w w':World} {g:Nat} {K K':Kw} {V V':Kv}
theorem yg (h:KAt N w g K V) (k:Nat) (hk:k<K.list.length) (hs:∀ e∈K.list,KR e.2.2) :
  Calls Tryz.prog 147 #[Zp (some ⟨g,0,O⟩),I J k] w fun e w'=>e=Zr (Z (pW (K.list.take k) K.list[k].2.2))∧Below w.heap.size w w':=by
 have o:=h.eL;obtain⟨D,E,j,y,z⟩:=o.shape
 rw[j] at o;have c10:w.cell? ⟨g,10,O⟩=some (Y D K.list.length E):=by rw[← j];exact h.cell 10
 have p:=hs _ (List.getElem_mem hk);have A:Hid (∀ f,Calls Tryz.prog 145 #[Zp (some ⟨g,0,O⟩),I J k,I .u8 f] w fun e w'=>e=Zr (I .u8 (jZ (K.list.take k) f))∧Below w.heap.size w w'):=fun f=>zU h k (by omega) f hs
 obtain⟨F,P,rfl,_,d1,Q,R⟩:=o.get k hk
 clear h hs j o;have S:(0:Int)≤(k:Int):=by omega
 have T:(k:Int)<(K.list.length:Int):=by omega
 generalize K.list[k].2.2=a at *;have U:=p.s2;have W:(0:Int)<(a.size:Int):=by omega
 have X:(1:Int)<(a.size:Int):=by omega
 have i:∀ (k:Nat) (hk:k<a.size),bN a k=(a[k].toNat:Int):=fun k hk=>by unfold bN;rw[atS hk]
 have q:b0 a=(a[0].toNat:Int):=i 0 (by omega)
 have B:b1 a=(a[1].toNat:Int):=i 1 (by omega)
 have G:Hid ((a[0].toNat:Int)=99→(2:Int)<(a.size:Int)∧∃ h:2<a.size,bN a 2=(a[2].toNat:Int)):=fun H=>by
  have:=p.s4 (q.trans H);exact⟨by omega,by omega,i 2 (by omega)⟩
 have HX:Hid (pW (K.list.take k) a=if (a[0].toNat:Int)=114 then OKb else if (a[0].toNat:Int)=103 then (if (0:Int)<jZ (K.list.take k) (a[1].toNat:Int) then mJ (jZ (K.list.take k) (a[1].toNat:Int)) else qG)
   else if (a[0].toNat:Int)=100 then (if jZ (K.list.take k) (a[1].toNat:Int)=(0:Int) then qG else OKb) else if (a[0].toNat:Int)=99 then (if jZ (K.list.take k) (a[1].toNat:Int)=bN a 2 then OKb else NOb) else OKb):=by
  unfold pW;rw[q,B];trivial
 have b:=ah (A.out (a[1].toNat:Int));clear A q B i p;have L:=Lh;generalize pW (K.list.take k) a=M at *;by_cases m:(a[0].toNat:Int)=114
 ·have r:((a[0].toNat:Int)==114)=true:=beq_iff_eq.2 m
  rw[if_pos m] at HX;clear m;go_enter Tryz.func147,Tryz.ntmps147;go_wp2;go_ret;exact⟨by rw[HX.out];rfl,Below.refl _ _⟩
 have r:((a[0].toNat:Int)==114)=false:=beq_eq_false_iff_ne.2 m
 rw[if_neg m] at HX;clear m;generalize jZ (K.list.take k) (a[1].toNat:Int)=v at *;by_cases n:(a[0].toNat:Int)=103
 ·have s:((a[0].toNat:Int)==103)=true:=beq_iff_eq.2 n
  rw[if_pos n] at HX;clear n;by_cases d:(0:Int)<v
  ·rw[if_pos d] at HX;go_enter Tryz.func147,Tryz.ntmps147;go_wp2_with fail;refine b.out.mono ?_;rintro e l ⟨rfl,c⟩;go_wp2;go_ret;exact⟨by rw[HX.out];rfl,c.trans (((Below.refl _ l).alloc (Nat.le_refl _) _).mono c.size)⟩
  ·rw[if_neg d] at HX;go_enter Tryz.func147,Tryz.ntmps147;go_wp2_with fail;refine b.out.mono ?_;rintro e l ⟨rfl,c⟩;go_wp2;go_ret;exact⟨by rw[HX.out];rfl,c⟩
 have s:((a[0].toNat:Int)==103)=false:=beq_eq_false_iff_ne.2 n
 rw[if_neg n] at HX;clear n;by_cases g2:(a[0].toNat:Int)=100
 ·have t:((a[0].toNat:Int)==100)=true:=beq_iff_eq.2 g2
  rw[if_pos g2] at HX;clear g2;by_cases d:v=0
  ·have u:(v==0)=true:=beq_iff_eq.2 d
   rw[if_pos d] at HX;clear d;go_enter Tryz.func147,Tryz.ntmps147;go_wp2_with fail;refine b.out.mono ?_;rintro e l ⟨rfl,c⟩;go_wp2;go_ret;exact⟨by rw[HX.out];rfl,c⟩
  ·have u:(v==0)=false:=beq_eq_false_iff_ne.2 d
   rw[if_neg d] at HX;clear d;go_enter Tryz.func147,Tryz.ntmps147;go_wp2_with fail;refine b.out.mono ?_;rintro e l ⟨rfl,c⟩;go_wp2;go_ret;exact⟨by rw[HX.out];rfl,c⟩
 have t:((a[0].toNat:Int)==100)=false:=beq_eq_false_iff_ne.2 g2
 rw[if_neg g2] at HX;clear g2;by_cases g3:(a[0].toNat:Int)=99
 ·obtain⟨y3,y5,C⟩:=G.out g3
  have x:((a[0].toNat:Int)==99)=true:=beq_iff_eq.2 g3
  rw[if_pos g3,C] at HX;clear g3 C;by_cases d:v=(a[2].toNat:Int)
  ·rw[if_pos d] at HX;go_enter Tryz.func147,Tryz.ntmps147;go_wp2_with fail;refine b.out.mono ?_;rintro e l ⟨rfl,c⟩;go_wp2;go_ret;exact⟨by rw[HX.out];rfl,c⟩
  ·rw[if_neg d] at HX;go_enter Tryz.func147,Tryz.ntmps147;go_wp2_with fail;refine b.out.mono ?_;rintro e l ⟨rfl,c⟩;go_wp2;go_ret;exact⟨by rw[HX.out];rfl,c⟩
 have x:((a[0].toNat:Int)==99)=false:=beq_eq_false_iff_ne.2 g3
 rw[if_neg g3] at HX;clear g3;go_enter Tryz.func147,Tryz.ntmps147;go_wp2_with fail;refine b.out.mono ?_;rintro e l ⟨rfl,c⟩;go_wp2;go_ret;exact⟨by rw[HX.out];rfl,c⟩
end
structure OpF (op:ByteArray):Prop where
 sz:KR op
 r:b0 op=114→ny (b1 op)=false
 k:b0 op≠114→ny (b1 op)=true
theorem zI (v:List Int) (i j:Nat) (x:Int) (hi:i<v.length):(v.set i x).getD j 0=if i=j then x else v.getD j 0:=by
 simp only[List.getD_eq_getElem?_getD,List.getElem?_set];by_cases h:i=j
 ·subst h;simp[hi]
 ·simp[h]
theorem Iu {v:List Int} {op:ByteArray} (h:OpF op) (hv:v.length=26) (j:Nat) (hj:j<26):(doS v op).1.length=26∧(doS v op).1.getD j 0=jg (97+(j:Int)) (v.getD j 0) op:=by
 have w:=h.sz.s2;by_cases l:b0 op=114
 ·have b:=h.r l;have e:doS v op=(v,OKb):=by unfold doS;rw[if_pos (by rw[b];simp)]
  rw[e];refine⟨hv,?_⟩
  unfold jg;rw[if_neg (fun m=>m.2 l)]
 have b:=h.k l;have s:97≤b1 op∧b1 op≤122:=by unfold ny at b;simpa using b
 obtain⟨i,y⟩:∃ i:Nat,b1 op=97+(i:Int):=⟨(b1 op-97).toNat,by omega⟩
 have n:(b1 op-97).toNat=i:=by omega
 have a:i<v.length:=by omega
 have f:∀ x,b1 op=97+(x:Nat)↔i=x:=fun x=>by omega
 unfold doS;rw[if_neg (by rw[b];simp;omega),n]
 have o:∀ x,jg (97+(j:Int)) x op=if i=j then (if b0 op=112 then bN op 2 else if b0 op=100 then 0 else if b0 op=99 then (if x=bN op 2 then bN op 3 else x) else x) else x:=fun x=>by
  unfold jg;by_cases q:i=j
  ·rw[if_pos ⟨(f j).2 q,l⟩,if_pos q]
  ·rw[if_neg (fun m=>q ((f j).1 m.1)),if_neg q]
 rw[o];by_cases g:b0 op=103
 ·rw[if_pos (beq_iff_eq.2 g)];refine⟨hv,?_⟩
  have:¬b0 op=112:=by omega
  have:¬b0 op=100:=by omega
  have:¬b0 op=99:=by omega
  simp[*]
 rw[if_neg (by simpa using g)]
 by_cases d:b0 op=100
 ·have t:¬b0 op=112:=by omega
  rw[if_pos (beq_iff_eq.2 d),if_neg t,if_pos d];by_cases z:(v.getD i 0==0)=true
  ·rw[if_pos z];refine⟨hv,?_⟩
   by_cases q:i=j
   ·subst q;rw[if_pos rfl];simpa using z
   ·rw[if_neg q]
  ·rw[if_neg z];exact⟨by simpa using hv,zI v i j 0 a⟩
 rw[if_neg (by simpa using d)]
 by_cases p:b0 op=112
 ·have u:2<op.size:=by have:=h.sz.s3 p;omega
  rw[if_pos (beq_iff_eq.2 p),if_pos u,if_pos p];exact⟨by simpa using hv,zI v i j _ a⟩
 rw[if_neg (by simpa using p),if_neg p,if_neg d]
 by_cases c:b0 op=99
 ·have:=h.sz.s4 c
  rw[if_pos (beq_iff_eq.2 c),if_pos c];by_cases z:v.getD i 0=bN op 2
  ·rw[if_neg (by simp only[Bool.or_eq_true,decide_eq_true_eq,Bool.not_eq_true',beq_eq_false_iff_ne];intro q;rcases q with q|q;(· omega);(· exact q z))]
   refine⟨by simpa using hv,?_⟩
   rw[zI v i j _ a];by_cases q:i=j
   ·subst q;rw[if_pos rfl,if_pos rfl,if_pos z]
   ·rw[if_neg q,if_neg q]
  ·rw[if_pos (by simp only[Bool.or_eq_true,decide_eq_true_eq,Bool.not_eq_true',beq_eq_false_iff_ne];exact .inr z)]
   refine⟨hv,?_⟩
   by_cases q:i=j
   ·subst q;rw[if_pos rfl,if_neg z]
   ·rw[if_neg q]
 ·rw[if_neg (by simpa using c),if_neg c]
  refine⟨hv,?_⟩
  split <;> rfl
theorem FJ (l:List En) (e:En):svF (l++[e])=l8 (svF l) e:=by unfold svF;rw[List.foldl_append];rfl
theorem JR (l:List En) (e:En) (k:Int):jZ (l++[e]) k=jg k (jZ l k) e.2.2:=by unfold jZ;rw[List.foldl_append];rfl
theorem Dl:∀ (n:Nat) (l:List En),l.length=n→(∀ e∈l,OpF e.2.2)→(svF l).vals.length=26∧∀ j,j<26→(svF l).vals.getD j 0=jZ l (97+(j:Int))
 | 0,l,hl,_=>by
  have:l=[]:=List.eq_nil_of_length_eq_zero hl
  subst this;refine⟨rfl,fun j a=>?_⟩
  show (List.replicate 26 (0:Int)).getD j 0=0
  rw[List.getD_eq_getElem?_getD,List.getElem?_replicate,if_pos a]
  rfl
 | n+1,l,hl,hf=>by
  have b:l≠[]:=by intro hc;rw[hc] at hl;simp at hl
  have c:=List.dropLast_concat_getLast b;obtain⟨d,e,rfl⟩:∃ d e,l=d++[e]:=⟨_,_,c.symm⟩
  have f:=Dl n d (by simpa using hl) (fun x h=>hf x (by simp[h]))
  have g:=hf e (by simp)
  rw[FJ];refine⟨(Iu g f.1 0 (by omega)).1,fun j a=>?_⟩
  rw[JR,← f.2 j a];exact (Iu g f.1 j a).2
theorem Pk (op:ByteArray) (k:Nat):0≤bN op k:=by unfold bN;omega
theorem JQ {key v:Int} {op:ByteArray} (h:0≤v):0≤jg key v op:=by
 have h2:=Pk op 2;have h3:=Pk op 3;unfold jg
 repeat' split
 all_goals omega
theorem Em (key:Int):∀ (l:List En) (v:Int),0≤v→0≤l.foldl (fun v e=>jg key v e.2.2) v
 | [],_,h=>h
 | _ :: l,_,h=>Em key l _ (JQ h)
theorem IK (l:List En) (key:Int):0≤jZ l key:=Em key l 0 (Int.le_refl _)
theorem Dk {l:List En} {op:ByteArray} (h:OpF op) (hl:∀ e∈l,OpF e.2.2):(doS (svF l).vals op).2=pW l op:=by
 have w:=h.sz.s2;have n:=Dl _ l rfl hl;by_cases f:b0 op=114
 ·have a:=h.r f;unfold doS pW;rw[if_pos (by rw[a];simp),if_pos f]
 have a:=h.k f;have o:97≤b1 op∧b1 op≤122:=by unfold ny at a;simpa using a
 obtain⟨i,s⟩:∃ i:Nat,b1 op=97+(i:Int):=⟨(b1 op-97).toNat,by omega⟩
 have j:(b1 op-97).toNat=i:=by omega
 have b:=n.2 i (by omega)
 rw[← s] at b;have t:=IK l (b1 op);unfold doS pW;rw[if_neg (by rw[a];simp;omega),j,b,if_neg f]
 generalize jZ l (b1 op)=x at *;by_cases g:b0 op=103
 ·rw[if_pos (beq_iff_eq.2 g),if_pos g];by_cases z:x=0
  ·have m:¬0<x:=by omega
   rw[if_pos (beq_iff_eq.2 z),if_neg m]
  ·have m:0<x:=by omega
   rw[if_neg (by simpa using z),if_pos m]
 rw[if_neg (by simpa using g),if_neg g]
 by_cases d:b0 op=100
 ·rw[if_pos (beq_iff_eq.2 d),if_pos d];by_cases z:x=0
  ·rw[if_pos (beq_iff_eq.2 z),if_pos z]
  ·rw[if_neg (by simpa using z),if_neg z]
 rw[if_neg (by simpa using d),if_neg d]
 by_cases p:b0 op=112
 ·have u:¬b0 op=99:=by omega
  have v:2<op.size:=by have:=h.sz.s3 p;omega
  rw[if_pos (beq_iff_eq.2 p),if_pos v,if_neg u]
 rw[if_neg (by simpa using p)]
 by_cases c:b0 op=99
 ·have:=h.sz.s4 c
  rw[if_pos (beq_iff_eq.2 c),if_pos c];by_cases z:x=bN op 2
  ·rw[if_neg (by simp only[Bool.or_eq_true,decide_eq_true_eq,Bool.not_eq_true',beq_eq_false_iff_ne];intro q;rcases q with q|q;(· omega);(· exact q z)),if_pos z]
  ·rw[if_pos (by simp only[Bool.or_eq_true,decide_eq_true_eq,Bool.not_eq_true',beq_eq_false_iff_ne];exact .inr z),if_neg z]
 ·rw[if_neg (by simpa using c),if_neg c]
def lT (l:List En) (a:Int):Nat→Int×ByteArray
 | 0=>(0,⟨#[]⟩)
 | k+1=>match l[k]? with
  | some e=>if e.1=a then (e.2.1,pW (l.take k) e.2.2) else lT l a k
  | none=>lT l a k
theorem Ch (l m:List En) (a:Int):∀ k,k≤l.length→lT (l++m) a k=lT l a k
 | 0,_=>rfl
 | k+1,hk=>by
  unfold lT;rw[List.getElem?_append_left (by omega),List.take_append_of_le_length (by omega),Ch l m a k (by omega)]
theorem IJ:∀ (n:Nat) (l:List En),l.length=n→(∀ e∈l,OpF e.2.2)→(∀ e∈l,1≤e.1∧e.1≤9)→(svF l).ses.length=9∧∀ a:Int,1≤a→a≤9→(svF l).ses.getD (a-1).toNat (0,⟨#[]⟩)=lT l a n
 | 0,l,hl,_,_=>by
  have:l=[]:=List.eq_nil_of_length_eq_zero hl
  subst this;refine⟨rfl,fun a j k=>?_⟩
  show (List.replicate 9 ((0:Int),(⟨#[]⟩:ByteArray))).getD (a-1).toNat (0,⟨#[]⟩)=(0,⟨#[]⟩)
  rw[List.getD_eq_getElem?_getD,List.getElem?_replicate,if_pos (by omega)]
  rfl
 | n+1,l,hl,hf,hc=>by
  have f:l≠[]:=by intro hc;rw[hc] at hl;simp at hl
  obtain⟨b,e,rfl⟩:∃ b e,l=b++[e]:=⟨_,_,(List.dropLast_concat_getLast f).symm⟩
  have c:b.length=n:=by simpa using hl
  have g:=IJ n b c (fun x d=>hf x (by simp[d])) (fun x d=>hc x (by simp[d]))
  have m:=hf e (by simp)
  have o:=hc e (by simp)
  have p:=Dk m (fun x d=>hf x (by simp[d]):∀ x∈b,OpF x.2.2)
  rw[FJ];refine⟨by show ((svF b).ses.set _ _).length=9;simpa using g.1,fun a j k=>?_⟩
  have h:(b++[e])[n]? = some e:=by rw[← c];simp
  have i:(b++[e]).take n=b:=by rw[← c];simp
  unfold lT;rw[h,i,Ch b [e] a n (by omega),← g.2 a j k]
  show ((svF b).ses.set (e.1-1).toNat (e.2.1,(doS (svF b).vals e.2.2).2)).getD (a-1).toNat (0,⟨#[]⟩)=_
  rw[p,List.getD_eq_getElem?_getD,List.getElem?_set];by_cases q:e.1=a
  ·rw[if_pos (by omega),if_pos (by rw[g.1];omega)]
   simp[q]
  ·rw[if_neg (by omega)]
   simp[q,List.getD_eq_getElem?_getD]
theorem oI {op:ByteArray} {n:Int} (h:jX op.data.toList n=true):OpF op:=by
  have hbn : ∀ (k : Nat) (hk : k < op.size), ((op.data.toList.getD k 0).toNat : Int) = (op[k].toNat : Int) := fun k hk => by rw [atS hk]
  by_cases h0:0<op.size
  · by_cases hr:((op[0].toNat:Int)==114)=true
    · rw[Pg h0 hr] at h
      have hl:=jJ h
      have hs:(op.extract 1 op.size).data.toList.length=op.size-1:=by
        rw[Array.length_toList]
        show (op.extract 1 op.size).size=_
        rw[ByteArray.size_extract];omega
      have h2 : 2 ≤ op.size := by omega
      have e0 : b0 op = (op[0].toNat : Int) := hbn 0 (by omega)
      have e1 : b1 op = (op[1].toNat : Int) := hbn 1 (by omega)
      have hr':=beq_iff_eq.1 hr
      have hk:ny (b1 op)=false:=by
        cases hc:ny (b1 op)
        · rfl
        · exfalso
          have hkk : 97 ≤ b1 op ∧ b1 op ≤ 122 := by unfold ny at hc; simpa using hc
          refine Et h (c := op[1]) (.inr (by omega)) ?_
          have : (op.extract 1 op.size).data.toList = op.data.toList.drop 1 := by simp [ByteArray.data_extract, Array.toList_extract, List.extract_eq_take_drop]; rw [List.take_of_length_le (by simp)]
          rw[this]
          have hm : op.data.toList[1]'(by simp; omega) = op[1] := rfl
          rw[← hm]
          exact List.mem_drop_iff_getElem.2 ⟨0, by simp; omega, rfl⟩
      exact ⟨⟨h2, fun q => by omega, fun q => by omega⟩, fun _ => hk, fun q => absurd (e0.trans hr') q⟩
    · have hr : ((op[0].toNat : Int) == 114) = false := by simpa using hr
      rw[ask_o h0 hr] at h
      by_cases h2:2≤op.size
      · rw[zN op h2] at h
        have e0 : b0 op = (op[0].toNat : Int) := hbn 0 (by omega)
        have e1 : b1 op = (op[1].toNat : Int) := hbn 1 (by omega)
        simp only[Bool.and_eq_true,beq_iff_eq] at h
        obtain⟨h3,⟨h4,h5⟩,h6⟩:=h
        have hw : ∀ x : UInt8, b0 op = (x.toNat : Int) → op[0] = x := fun x hx => UInt8.toNat_inj.1 (by omega)
        refine⟨⟨h2,fun q=>?_,fun q=>?_⟩,fun q=>?_,fun _=>?_⟩
        · have := hw 112 q; rw [this] at h6; have : gy 112 = 3 := by decide
          omega
        · have := hw 99 q; rw [this] at h6; have : gy 99 = 4 := by decide
          omega
        · have:=beq_eq_false_iff_ne.1 hr;omega
        · rw[e1];exact h4
      · rw [Gt (by omega)] at h; simp at h
  · have : op.data.toList = [] := List.eq_nil_of_length_eq_zero (by have : op.data.toList.length = op.size := by rw [Array.length_toList]; rfl
                                                                    omega)
    rw[this] at h
    simp[jX,eF] at h
section
variable {N:Nat} {w w':World} {g:Nat} {K K':Kw} {V V':Kv}
theorem KAt.Ql {w1 w2:World} {q:Nat} {x':Nod} (h:KAt N w g K V) (hB:Below w.heap.size w w1) (hq:q<K.nds.length) (hR:au w1 x'.b x'.bl x'.W x'.F x'.R x'.V) (hF:∀ y∈x'.F,w.heap.size≤y)
  (k:Kp V.vN.ownBlock.toList w1 w2) (ho:w2.ownsRow 0 29 1 V.vN (K.nds.set q x').length ((K.nds.set q x').map nR)):Kst N w w2 g K V { K with nds:=K.nds.set q x' } V:=by
 have j:=h.below hB;have hq? : K.nds[q]? = some K.nds[q]:=List.getElem?_eq_getElem hq
 have A:=zP (g:=g) (V:=V) hq?;have f:(dB g K V)[1]? = some V.vN.ownBlock.toList:=xA (i:=0) (r:=⟨29,1,V.vN,K.nds.length,K.nds.map nR⟩) rfl
 have n:∀ t,t≠1→Off (dB g K V) V.vN.ownBlock.toList t:=fun t j=>Off.one f (fun _ h=>h) (fun v=>j v.symm)
 have o:dB g { K with nds:=K.nds.set q x' } V=(dB g K V).set (q+9) x'.F:=uo rfl rfl
 have l:=j.no0 (iP f);refine⟨⟨?_,?_,?_,?_,?_,h.n0,j.tab.kp k l⟩,((Kp.of_below hB).trans' (k.wid (iP f))),?_⟩
 ·exact (j.zC k (n _ (by omega))).trans j.blk
 ·intro r0 hr0;obtain⟨m,s⟩:=List.getElem?_of_mem hr0
  cases m with
  | zero =>
   have:r0=⟨29,1,V.vN,(K.nds.set q x').length,(K.nds.set q x').map nR⟩:=by
    have:some _=some r0:=s
    exact (Option.some.inj this).symm
   subst this;exact ho
  | succ m =>
   have x:(fC K V)[m+1]? = some r0:=s
   exact j.pI k x (n _ (by omega))
 ·intro y d;obtain⟨m,s⟩:=List.getElem?_of_mem d
  by_cases e:q=m
  ·subst e;rw[List.getElem?_set_self hq] at s;cases s;refine hR.far k (fun z B v=>?_) l
   have:=h.lt _ (List.mem_of_getElem? f) z B
   have:=hF z v
   omega
  ·rw[List.getElem?_set_ne e] at s;exact j.pE k s (n _ (by omega))
 ·rw[o];exact h.ap.put h.lt (fun a C y d=>.inr (hF y d))
 ·rw[o];intro c u y d;rcases List.mem_or_eq_of_mem_set u with p|rfl
  ·exact h.lo c p y d
  ·have:=h.Nlt;have:=hF y d;omega
 ·intro y d;unfold je at d;rw[o] at d;obtain⟨c,u,d⟩:=List.mem_flatten.1 d
  rcases List.mem_or_eq_of_mem_set u with p|rfl
  ·exact .inl (List.mem_flatten.2 ⟨c,p,d⟩)
  ·exact .inr (hF y d)
end
section
variable {w w0:World} {b bl:Nat} {W F:List Nat} {R:Rp} {V:Rv} {P:Pm} {vl vg vo vL:Value}
theorem Az (h:Rst w0 w b bl W F R) (hR:Ok R) (E:En) (hE:iZ R.n E) (ho:R.out.length≤700000) :
  Calls Tryz.prog 46 #[Zp (some ⟨b,0,O⟩),.agg #[I J E.1,I J E.2.1,Z E.2.2]] w fun e w'=>e=Zr (.tuple #[])∧Rst w0 w' b bl W F (R.propose E):=by
 obtain⟨i0,hi,z,A,B⟩:=info_parts Tryz.infoEnt
 obtain⟨W1,F1,V1,P,k1,m1⟩:=h
 have t:Below w.heap.size w (w.alloc (.cells #[I J E.1,I J E.2.1,Z E.2.2] 66)):=(Below.refl _ w).alloc (Nat.le_refl _) _
 have s:(w.alloc (.cells #[I J E.1,I J E.2.1,Z E.2.2] 66)).heap[w.heap.size]? = _:=heap_alloc_new w (.cells #[I J E.1,I J E.2.1,Z E.2.2] 66)
 have Q:w.heap.size∉W1:=fun hc=>by have:=P.wlt _ hc;omega
 have C:=ah (Rst.refl (P.below t));have v:Hid (∀ w' S,Rst (w.alloc (.cells #[I J E.1,I J E.2.1,Z E.2.2] 66)) w' b bl W1 F1 S→Rst w0 w' b bl W F S):=fun w' S q=>Rst.step (k1.aS t) m1 q
 have m:Hid (R.propose E=if R.closing=true∨10≤R.log.length then R else ({ R with log:=R.log++[E] }:Rp).aQ ((R.log.length:Int)+1)):=rfl
 have ae:=hR.lg;have T:=ah hE;clear P t k1 m1 hE;cases hcl:R.closing
 ·by_cases D:10≤R.log.length
  focus
   have G:Hid (R.propose E=R):=by unfold Hid;rw[m.out,if_pos (.inr D)]
   have H:(10:Int)≤(R.log.length:Int):=by omega
  rotate_left
  focus
   have G:Hid (R.propose E=({ R with log:=R.log++[E] }:Rp).aQ ((R.log.length:Int)+1)):=by unfold Hid;rw[m.out,hcl,if_neg (by simpa using D)]
   have H:¬(10:Int)≤(R.log.length:Int):=by omega
   have U:=ah (Rp.qd hR T.out (by omega))
  rotate_left
  all_goals
   clear m;go_enter Tryz.func46,Tryz.ntmps46;go_upto_region 1 with fail
   generalize w.alloc (.cells #[I J E.1,I J E.2.1,Z E.2.2] 66)=wA at *;have HC:=ah (qx C.out hR);rw[hcl] at HC;go_wp2_with fail;refine HC.out.mono ?_;rintro e a ⟨rfl,o⟩;have r:=ah o;clear o
  ·obtain⟨_,_,V2,V,_,_⟩:=r.out
   have c9:=V.c9;obtain⟨j,k,d⟩:=V.g9
   rw[d] at c9;clear V;go_wp2;exact bodyPost_ret (results_none rfl _ _ _) rfl ⟨rfl,by rw[G.out];exact v.out _ _ r.out⟩
  ·obtain⟨WZ,FZ,VZ,y,kZ,mZ⟩:=r.out
   have c9:=y.c9;have f9:=y.free 9;obtain⟨j,k,d⟩:=y.g9
   have c:=y.log;rw[d] at c9 c;have f:=(kZ.block w.heap.size (lt_of_block s) Q).trans s;have e0:a.cell? ⟨w.heap.size,0,O⟩=some (I J E.1):=by simp[World.cell?,f]
   have e1:a.cell? ⟨w.heap.size,1,O⟩=some (I J E.2.1):=by simp[World.cell?,f]
   have N:a.cell? ⟨w.heap.size,2,O⟩=some (Z E.2.2):=by simp[World.cell?,f]
   go_wp2_with fail;have g:some b≠(Y j R.log.length k).ownBlock:=nD c y.block (by decide)
   have i:b<a.heap.size:=y.lb
   have af:=World.new_ne a ⟨b,9,O⟩ c9;go_region_law (first|(refine step_append_lies (w:=(a.alloc (.cells #[I J E.1,I J E.2.1,Z E.2.2] 66)).drew) (by rfl) (.tmp 18) (.tmp 20) 47 (by rfl) 0 66 i0 (.agg #[I J 0,I J 0,Z Ze]) 3 32 Tryz.underlying47 hi z A B rfl (by decide) (Y j R.log.length k) R.log.length (aA R.log) (by rfl) (dh (c.alloc _) (Below.refl _ _).drew) ⟨a.heap.size,0,O⟩ 1 1 [I J E.1,I J E.2.1,Z E.2.2] (by rfl) (by rfl) (World.news_of_block (show ((a.alloc (.cells #[I J E.1,I J E.2.1,Z E.2.2] 66)).drew).heap[a.heap.size]? = _ from heap_alloc_new a (.cells #[I J E.1,I J E.2.1,Z E.2.2] 66))) (by intro u hu;simp at hu;rcases hu with rfl|rfl|rfl <;> rfl) (by decide) (by unfold maxLen;omega) (by omega) (Nat.zero_le _) (a.heap.size+1) (by simp) ?_;intro g4 cap4 w4 hown4 hg4 hat4 hlt4;have l:Below a.heap.size a ((a.alloc (.cells #[I J E.1,I J E.2.1,Z E.2.2] 66)).drew):=(((Below.refl _ a).alloc (Nat.le_refl _) _).drew);have t9:w4.cell? ⟨b,9,O⟩=some (Y j R.log.length k):=(hg4.cell_far ⟨b,9,O⟩ (by simp;omega) g).trans ((l.cell (p:=⟨b,9,O⟩) i).trans c9);have g9:w4.frozen? ⟨b,9,O⟩=false:=(hg4.frozen_far ⟨b,9,O⟩ (by simp;omega) g).trans ((l.frozen (p:=⟨b,9,O⟩) i).trans f9))|(refine step_append_lies (w:=a.drew.alloc (.cells #[I J E.1,I J E.2.1,Z E.2.2] 66)) (by rfl) (.tmp 18) (.tmp 20) 47 (by rfl) 0 66 i0 (.agg #[I J 0,I J 0,Z Ze]) 3 32 Tryz.underlying47 hi z A B rfl (by decide) (Y j R.log.length k) R.log.length (aA R.log) (by rfl) ((dh c (Below.refl _ _).drew).alloc _) ⟨a.heap.size,0,O⟩ 1 1 [I J E.1,I J E.2.1,Z E.2.2] (by rfl) (by rfl) (World.news_of_block (heap_alloc_new a.drew (.cells #[I J E.1,I J E.2.1,Z E.2.2] 66))) (by intro u hu;simp at hu;rcases hu with rfl|rfl|rfl <;> rfl) (by decide) (by unfold maxLen;omega) (by omega) (Nat.zero_le _) (a.heap.size+1) (by simp) ?_;intro g4 cap4 w4 hown4 hg4 hat4 hlt4;have l:Below a.heap.size a (a.drew.alloc (.cells #[I J E.1,I J E.2.1,Z E.2.2] 66)):=((Below.refl _ a).drew.alloc (Nat.le_refl _) _);have t9:w4.cell? ⟨b,9,O⟩=some (Y j R.log.length k):=(hg4.cell_far ⟨b,9,O⟩ (by simp;omega) g).trans ((l.cell (p:=⟨b,9,O⟩) i).trans c9);have g9:w4.frozen? ⟨b,9,O⟩=false:=(hg4.frozen_far ⟨b,9,O⟩ (by simp;omega) g).trans ((l.frozen (p:=⟨b,9,O⟩) i).trans f9)))
   all_goals
    clear N;have N:aA (R.log++[E])=aA R.log++[I J E.1,I J E.2.1,Z E.2.2]:=by simp[aA]
    have K:w4.ownsRow 0 66 3 (Y (some ⟨g4,0,O⟩) (R.log.length+1) cap4) (R.log.length+1) (aA (R.log++[E])):=by rw[N];exact hown4
    have L:=ah (Rst.step kZ mZ (y.IU (x:=E) l (by rw[d];exact hg4) K (by rw[d];exact hat4.imp (fun q=>q) (fun q=>by omega))))
    clear K N;obtain⟨WY,FY,VY,X,_,_⟩:=L.out
    have y9:=X.c9;obtain⟨aY,cY,aa⟩:=X.g9
    rw[aa] at y9;have ab:(({ R with log:=R.log++[E] }:Rp)).log.length=R.log.length+1:=by simp
    simp only[List.length_append,List.length_cons,List.length_nil,Nat.zero_add] at y9;clear X t9 g9 ab;go_upto_region 3 with fail
    generalize w4.setCell ⟨b,9,O⟩ (Y (some ⟨g4,0,O⟩) (R.log.length+1) cap4)=w5 at *;have ac:=ah (vV L.out U.out ((R.log.length:Int)+1) (by omega) (by omega) (by show R.out.length≤800000;omega))
    go_wp2_with fail;refine ac.out.mono ?_;rintro e w6 ⟨rfl,M⟩;have ad:=ah M;clear M;go_wp2;exact bodyPost_end (results_none rfl _ _ _) rfl ⟨rfl,by rw[G.out];exact v.out _ _ ad.out⟩
 ·have G:Hid (R.propose E=R):=by unfold Hid;rw[m.out,hcl,if_pos (.inl rfl)]
  clear m;go_enter Tryz.func46,Tryz.ntmps46;go_upto_region 1 with fail
  generalize w.alloc (.cells #[I J E.1,I J E.2.1,Z E.2.2] 66)=wA at *;have HC:=ah (qx C.out hR);rw[hcl] at HC;go_wp2_with fail;refine (HC.out).mono ?_;rintro e a ⟨rfl,o⟩;have r:=ah o;clear o;go_wp2;exact bodyPost_ret (results_none rfl _ _ _) rfl ⟨rfl,by rw[G.out];exact v.out _ _ r.out⟩
end
section
variable {N:Nat} {w w':World} {g:Nat} {K K':Kw} {V V':Kv}
theorem JN (h:KAt N w g K V) (z:KSz K) (hlog:∀ x∈K.nds,x.R.log.length≤1000) :
    Calls Tryz.prog 66 #[Zp (some ⟨g,0,O⟩)] w fun e w'=>sZ w w' e:=by
  obtain ⟨n, hn⟩ : ∃ n : Nat, K.n = n := ⟨K.n.toNat, by have := z.n3; omega⟩
  have z1:=z.nds
  have z7:=z.n7
  have z10:=z.opn
  rw[hn] at z1 z7
  obtain⟨aN,cN,hvN⟩:=aj h.rN
  obtain⟨aO,cO,hvO⟩:=aj h.rO
  have HO:=ah (fun (w2:World) (hw2:Below w.heap.size w w2)=>KAt.opn h hvO hw2)
  have HN:=ah (fun (w2:World) (hw2:Below w.heap.size w w2)=>KAt.ptr h hvN hw2)
  have HC1:=ah (h.cv 1 rfl (congrArg (Value.int .i64) hn))
  have HC2:=ah (h.cv 2 rfl hvN)
  have HC5:Hid (∀ w2,Below w.heap.size w w2→w2.cell? ⟨g,5,O⟩=some (I J K.lives)):=fun w2 hw2=>(h.below hw2).cell 5
  have HC6:Hid (∀ w2,Below w.heap.size w w2→w2.cell? ⟨g,6,O⟩=some (I J K.top)):=fun w2 hw2=>(h.below hw2).cell 6
  have HC9:=ah (h.cv 9 rfl hvO)
  have HLg:Hid (∀ w2,Below w.heap.size w w2→∀ k,(hk:k<K.nds.length)→Calls Tryz.prog 103 #[Zp (some ⟨K.nds[k].b,0,O⟩)] w2 fun e w'=>∃ (a:Option Addr) (m c:Nat),e=Zr (Y a m c)∧m≤1000∧Below w2.heap.size w2 w'):=fun w2 hw2 k hk=>by
    refine (vR (h.node k hk hw2) (hlog _ (List.getElem_mem hk))).mono ?_
    rintro e w3 ⟨v,rfl,ho,hb⟩
    obtain⟨a,c,rfl⟩:=aj ho
    exact⟨a,_,c,rfl,hlog _ (List.getElem_mem hk),hb⟩
  clear h z hlog
  go_enter Tryz.func66,Tryz.ntmps66
  go_wp2_with fail
  go_loopw [3,4] (fun m i wr=>∃ k c:Nat,c≤k∧1≤k∧k≤10∧i=I J k∧m=I J c∧Below w.heap.size w wr) (fun _ i _=>10-(intOf i).toNat)
  case atStart => exact ⟨1, 0, by omega, by omega, by omega, rfl, rfl, Below.refl _ _⟩
  case round =>
    obtain⟨k,c,hck,hk1,hk,rfl,rfl,hbw⟩:=hrel
    by_cases hlt:k<10
    · obtain ⟨b2, o2, rfl, hb2, d2⟩ := HO.out _ hbw k (by omega)
      have c9:=HC9.out _ hbw
      have j1 : (0 : Int) ≤ (k : Int) := by omega
      have j3 : (k : Int) < (K.opn.length : Int) := by omega
      have j4 : (k : Int) ≤ 9 := by omega
      generalize K.opn[k]=ov at *
      by_cases hv:(0:Int)≤ov
      · go_wp2
        go_roundw
        case rel => exact ⟨k + 1, c + 1, by omega, by omega, by omega, by go_num, by go_num, hbw⟩
        case measure=>simp[intOf];omega
      · go_wp2
        go_roundw
        case rel => exact ⟨k + 1, c, by omega, by omega, by omega, by go_num, rfl, hbw⟩
        case measure=>simp[intOf];omega
    · have j4 : ¬ (k : Int) ≤ 9 := by omega
      obtain⟨wL,HwL⟩:∃ x,x=wr:=⟨_,rfl⟩
      subst HwL
      go_wp2_with fail
      go_loopw [5] (fun i wr=>∃ k:Nat,k≤n∧i=I J k∧Below w.heap.size w wr) (fun i _=>n-(intOf i).toNat)
      case atStart=>exact⟨0,Nat.zero_le _,rfl,hbw⟩
      case round =>
        obtain⟨q,hq,rfl,hbv⟩:=hrel
        have c1:=HC1.out _ hbv
        by_cases hlq:q<n
        · obtain ⟨b2, o2, rfl, hb2, d2⟩ := HN.out _ hbv q (by omega)
          have c2:=HC2.out _ hbv
          have j1 : (0 : Int) ≤ (q : Int) := by omega
          have j3 : (q : Int) < (K.nds.length : Int) := by omega
          have j5 : (q : Int) < (n : Int) := by omega
          have HQ := ah (HLg.out _ hbv q (by omega))
          generalize K.nds[q].b=bb at *
          go_wp2_with fail
          refine HQ.out.mono ?_
          rintro e w3 ⟨al,ml,cl,rfl,hml,hb3⟩
          have hb3':Below w.heap.size w w3:=hbv.trans (hb3.mono hbv.size)
          go_wp2_with fail
          all_goals first
            | (go_ret;exact⟨_,rfl,hb3'⟩)
            | (go_roundw
               case rel => exact ⟨q + 1, by omega, by go_num, hb3'⟩
               case measure=>simp[intOf];omega)
        · have c5:=HC5.out _ hbv
          have c6:=HC6.out _ hbv
          have j5 : ¬ (q : Int) < (n : Int) := by omega
          by_cases ht:K.top≤903
          · have ht':decide (K.top≤903)=true:=decide_eq_true ht
            have nw : IntKind.i64.wrap (999 - (n : Int)) = 999 - (n : Int) := gq (by omega) (by omega)
            by_cases hl:K.lives<999-(n:Int)
            · have hl':decide (K.lives<999-(n:Int))=true:=decide_eq_true hl
              go_wp2_with fail
              go_quiet (fail)
              have hbq:=below_drewN hbv nq
              go_wp2
              go_ret
              exact⟨_,rfl,hbq⟩
            · have hl':decide (K.lives<999-(n:Int))=false:=decide_eq_false hl
              go_wp2_with fail
              go_quiet (fail)
              have hbq:=below_drewN hbv nq
              go_wp2
              go_ret
              exact⟨_,rfl,hbq⟩
          · have ht':decide (K.top≤903)=false:=decide_eq_false ht
            go_wp2_with fail
            go_quiet (fail)
            have hbq:=below_drewN hbv nq
            go_wp2
            go_ret
            exact⟨_,rfl,hbq⟩
end
end Go.Proofs.YtinaollfjiddmaaGreatDoor
