import Derived.Test.YtbnihoahhomooaaGreatDoorA08
import Derived.Test.YtbnihoahhomooaaGreatDoorA10
import Derived.Test.YtbnihoahhomooaaGreatDoorA09
set_option maxRecDepth 100000
set_option maxHeartbeats 8000000
set_option linter.all false
namespace Go.Proofs.YtbnihoahhomooaaGreatDoor
open Go.Value renaming int→I,slice→Y,string→Z,pointer→Zp
open Go.Ending renaming returned→Zr
open _root_.ByteArray renaming empty→Ze
open Go.IntKind renaming i64→J
open Option renaming none→O
open Go.RowKit
theorem kC (x:En) (l:List En):regs (x :: l)=(if eT x then 1 else 0)+regs l:=by
 unfold regs;rw[List.countP_cons];omega
theorem mR (l m:List En):regs (l++m)=regs l+regs m:=by unfold regs;rw[List.countP_append]
theorem Ai (l:List En) (k:Nat):regs l=regs (l.take k)+regs (l.drop k):=by
 rw[← mR,List.take_append_drop]
theorem iR (l:List En) (k:Nat):regs (l.take k)≤regs l:=by rw[Ai l k];omega
theorem l5 (l:List En) {i j:Nat} (h:i≤j):regs (l.take i)≤regs (l.take j):=by
 have:l.take i=(l.take j).take i:=by rw[List.take_take,Nat.min_eq_left h]
 rw[this];exact iR _ _
theorem mU (l:List En) (k:Nat) (hk:k<l.length):regs (l.take (k+1))=regs (l.take k)+(if eT l[k] then 1 else 0):=by
 rw[List.take_succ_eq_append_getElem hk,mR,kC];simp[regs]
def gY:List En→Nat→Nat
 | _,0=>0
 | [],_+1=>0
 | x :: l,e+1=>1+gY l (if eT x then e else e+1)
theorem oD (l:List En):gY l 0=0:=by cases l <;> rfl
theorem CG:∀ (l:List En) (e:Nat),gY l e≤l.length
 | l,0=>by rw[oD];omega
 | [],_+1=>Nat.le_refl _
 | x :: l,e+1=>by
  have:=CG l (if eT x then e else e+1)
  simp only[gY,List.length_cons];omega
theorem jI:∀ (l:List En) (e:Nat),e≤regs l→regs (l.take (gY l e))=e
 | l,0,_=>by rw[oD];rfl
 | [],e+1,h=>by simp[regs] at h
 | x :: l,e+1,h=>by
  rw[kC] at h;simp only[gY];rw[Nat.add_comm 1,List.take_succ_cons,kC];by_cases hx:eT x=true
  ·rw[if_pos hx] at h ⊢;rw[if_pos hx,jI l e (by omega)];omega
  ·rw[if_neg hx] at h ⊢;rw[if_neg hx,jI l (e+1) (by omega)];omega
theorem oC:∀ (l m:List En) (e:Nat),e≤regs l→gY (l++m) e=gY l e
 | l,m,0,_=>by rw[oD,oD]
 | [],m,e+1,h=>by simp[regs] at h
 | x :: l,m,e+1,h=>by
  rw[kC] at h;simp only[List.cons_append,gY];by_cases hx:eT x=true
  ·rw[if_pos hx] at h ⊢;rw[oC l m e (by omega)]
  ·rw[if_neg hx] at h ⊢;rw[oC l m (e+1) (by omega)]
theorem Ko {l L:List En} {e:Nat} (he:e≤regs L) (h:l.take (gY L e)=L.take (gY L e)):gY l e=gY L e:=by
 have r:=jI L e he;have h1:gY (l.take (gY L e)++l.drop (gY L e)) e=gY (l.take (gY L e)) e:=oC _ _ _ (by rw[h,r];omega)
 have h2:gY (L.take (gY L e)++L.drop (gY L e)) e=gY (L.take (gY L e)) e:=oC _ _ _ (by rw[r];omega)
 rw[List.take_append_drop] at h1 h2;rw[h1,h,← h2]
theorem qX:∀ (l:List En) (e:Nat),1≤e→e≤regs l→∃ i,gY l e=i+1∧i<l.length∧eT (l.getD i (0,0,⟨#[]⟩))=true
 | l,0,h,_=>by omega
 | [],e+1,_,h=>by simp[regs] at h
 | x :: l,e+1,_,h=>by
  rw[kC] at h;simp only[gY];by_cases hx:eT x=true
  ·rw[if_pos hx] at h ⊢;cases e with
   | zero=>exact⟨0,by rw[oD],by simp,by simpa using hx⟩
   | succ e =>
    obtain⟨i,h1,h2,h3⟩:=qX l (e+1) (by omega) (by omega)
    exact⟨i+1,by omega,by simp;omega,by simpa using h3⟩
  ·rw[if_neg hx] at h ⊢;obtain⟨i,h1,h2,h3⟩:=qX l (e+1) (by omega) (by omega)
   exact⟨i+1,by omega,by simp;omega,by simpa using h3⟩
theorem G9 {l:List En} {e:Nat} (h1:1≤e) (h2:e≤regs l):Ct l (e:Int)=gY l e:=by
 obtain⟨i,hi,hl,hr⟩:=qX l e h1 h2
 have q:=jI l e h2;rw[hi] at q ⊢;have key:(List.range l.length).find? (fun i=>eT (l.getD i (0,0,⟨#[]⟩))&&((regs (l.take (i+1)):Int)==(e:Int)))=some i:=by
  rw[List.find?_range_eq_some];refine⟨?_,List.mem_range.2 hl,fun j hj=>?_⟩
  ·rw[hr,q];simp
  ·have m:=l5 l (i:=j+1) (j:=i) (by omega)
   have s:regs (l.take (i+1))=regs (l.take i)+1:=by
    rw[List.take_succ_eq_append_getElem hl,mR];have:eT l[i]=true:=by rw[List.getD_eq_getElem?_getD,List.getElem?_eq_getElem hl] at hr;exact hr
    rw[kC,if_pos this];simp[regs]
   have:¬(regs (l.take (j+1))=e):=by omega
   simp only[Bool.not_eq_true',Bool.and_eq_false_iff];exact .inr (by rw[beq_eq_false_iff_ne];omega)
 unfold Ct;rw[key]
def mTx (e:En) (E:Int):ByteArray:=⟨#[109,32]⟩++dg e.1++SP++dg e.2.1++SP++dg E++SP++e.2.2.extract 1 e.2.2.size
abbrev Wt:=List (En×ByteArray)
def Jw (T:Wt) (l:List En):Prop:=∀ (p:Nat) (h:p<l.length),eT l[p]=true→∀ y∈T,y.1=l[p]→y.2=mTx l[p] (regs (l.take p))
structure Lg (L:List En) (T:Wt) (e:Int) (l:List En):Prop where
 e0:0≤e
 le:e≤regs L
 ln:gY L e.toNat≤l.length
 pre:l.take (gY L e.toNat)=L.take (gY L e.toNat)
 rg:(regs l:Int)≤e+1
 jw:Jw T l
 pv:∀ x∈l,∃ y∈T,y.1=x
theorem Lg.ge {L:List En} {T:Wt} {e:Int} {l:List En} (h:Lg L T e l):e≤regs l:=by
 have r:=jI L e.toNat (by have:=h.le;have:=h.e0;omega)
 rw[← h.pre] at r;have:=iR l (gY L e.toNat)
 have:=h.e0
 omega
theorem Lg.mono {L L':List En} {T:Wt} {e:Int} {l:List En} (h:Lg L T e l) (hL:L <+: L'):Lg L' T e l:=by
 obtain⟨m,rfl⟩:=hL
 have le:e.toNat≤regs L:=by have:=h.le;have:=h.e0;omega
 have b:=oC L m e.toNat le;have bl:=CG L e.toNat;refine⟨h.e0,?_,by rw[b];exact h.ln,?_,h.rg,h.jw,h.pv⟩
 ·rw[mR];have:=h.le;omega
 ·rw[b,h.pre,List.take_append_of_le_length bl]
theorem Lg.upto {L:List En} {T:Wt} {e:Int} {l:List En} (h:Lg L T e l) (h1:1≤e):dW l e=L.take (gY L e.toNat)∧Lg L T e (dW l e)∧(regs (dW l e):Int)=e:=by
 have le:e.toNat≤regs L:=by have:=h.le;have:=h.e0;omega
 have hg:=h.ge;have bl:=CG L e.toNat;have e1:Ct l e=gY L e.toNat:=by
  have:=G9 (l:=l) (e:=e.toNat) (by omega) (by omega)
  rw[Int.toNat_of_nonneg h.e0] at this;rw[this];exact Ko le h.pre
 have e2:dW l e=L.take (gY L e.toNat):=by unfold dW;rw[e1,h.pre]
 have r:=jI L e.toNat le;have e3:dW l e=l.take (gY L e.toNat):=by rw[e2,h.pre]
 refine⟨e2,⟨h.e0,h.le,?_,?_,?_,?_,?_⟩,?_⟩
 ·rw[e2,List.length_take];omega
 ·rw[e2,List.take_take,Nat.min_self]
 ·rw[e2,r];omega
 ·rw[e3];intro p hp hr y hy hye;have hp':p<l.length:=by rw[List.length_take] at hp;omega
  have q:(l.take (gY L e.toNat))[p]=l[p]:=by simp
  rw[q] at hr hye ⊢;have:(l.take (gY L e.toNat)).take p=l.take p:=by rw[List.take_take,Nat.min_eq_left (by rw[List.length_take] at hp;omega)]
  rw[this];exact h.jw p hp' hr y hy hye
 ·rw[e3];exact fun x hx=>h.pv x (List.mem_of_mem_take hx)
 ·rw[e2,r];have:=h.e0;omega
theorem Lg.snoc {L:List En} {T:Wt} {e:Int} {l:List En} (h:Lg L T e l) (hc:(regs l:Int)≤e) {x:En} (hp:∃ y∈T,y.1=x) (hx:eT x=true→∀ y∈T,y.1=x→y.2=mTx x e):Lg L T e (l++[x]):=by
 have hg:=h.ge;refine⟨h.e0,h.le,by have:=h.ln;simp;omega,?_,?_,?_,?_⟩
 ·rw[List.take_append_of_le_length h.ln];exact h.pre
 ·rw[mR,kC];simp[regs];split <;> (simp only[regs] at hc;omega)
 ·intro p hp' hr y hy hye;by_cases q:p<l.length
  ·rw[List.getElem_append_left q] at hr hye ⊢;rw[List.take_append_of_le_length (by omega)]
   exact h.jw p q hr y hy hye
  ·have e1:p=l.length:=by simp at hp';omega
   subst e1;simp only[List.getElem_append_right (Nat.le_refl _),Nat.sub_self,List.getElem_cons_zero] at hr hye ⊢;rw[List.take_append_of_le_length (Nat.le_refl _),List.take_length,show (regs l:Int)=e by omega]
   exact hx hr y hy hye
 ·intro z hz;rcases List.mem_append.1 hz with q|q
  ·exact h.pv z q
  ·simp at q;subst q;exact hp
theorem yK {op:ByteArray}:b0 op=114↔iU op=true:=by
  unfold iU b0
  cases op.data.toList with
  | nil=>simp
  | cons a l =>
    simp only[List.getD_cons_zero,List.head?_cons,beq_iff_eq,Option.some.injEq]
    constructor
    · intro q
      exact UInt8.toNat_inj.1 (by have : a.toNat = 114 := by omega
                                  rw[this];rfl)
    · rintro rfl;rfl
abbrev en0:En:=(0,0,⟨#[]⟩)
def pV (L:List En):List ByteArray:=(L.filter eT).map (fun e=>e.2.2.extract 1 e.2.2.size)
theorem ES (L:List En):(pV L).length=regs L:=by unfold pV regs;rw[List.length_map,List.countP_eq_length_filter]
theorem NJ {L:List En} {d:Nat} (hd:d<L.length) (hr:eT L[d]=true):(pV L)[regs (L.take d)]? = some (L[d].2.2.extract 1 L[d].2.2.size):=by
 have e:L=L.take d++L[d] :: L.drop (d+1):=by rw[List.getElem_cons_drop,List.take_append_drop]
 have q:pV L=pV (L.take d)++(L[d].2.2.extract 1 L[d].2.2.size) :: pV (L.drop (d+1)):=by
  conv=>lhs;rw[e]
  unfold pV;rw[List.filter_append,List.filter_cons,if_pos hr,List.map_append,List.map_cons]
 rw[q,← ES,List.getElem?_append_right (Nat.le_refl _),Nat.sub_self]
 rfl
structure GI (L:List En) (G:List ByteArray) (n:Int):Prop where
 ex:∃ g0,G=g0 :: pV L
 ok:∀ t∈G,aV t.data.toList n=true
theorem GI.len {L:List En} {G:List ByteArray} {n:Int} (h:GI L G n):G.length=regs L+1:=by
 obtain⟨g0,rfl⟩:=h.ex
 simp[ES]
theorem GI.at {L:List En} {G:List ByteArray} {n:Int} (h:GI L G n) {d:Nat} (hd:d<L.length) (hr:eT L[d]=true):G.getD (regs (L.take d)+1) ⟨#[]⟩=L[d].2.2.extract 1 L[d].2.2.size:=by
 obtain⟨g0,rfl⟩:=h.ex
 rw[List.getD_eq_getElem?_getD,List.getElem?_cons_succ,NJ hd hr]
 rfl
theorem GI.grp {L:List En} {G:List ByteArray} {n:Int} (h:GI L G n) {e:Int} (h0:0≤e) (h1:e≤regs L):aV (G.getD e.toNat ⟨#[]⟩).data.toList n=true:=by
 have hl:=h.len;have:e.toNat<G.length:=by omega
 rw[List.getD_eq_getElem?_getD,List.getElem?_eq_getElem this];exact h.ok _ (List.getElem_mem this)
theorem GI.ne {L:List En} {G:List ByteArray} {n:Int} (h:GI L G n) {e:Int} (h0:0≤e) (h1:e≤regs L):3≤(dA (G.getD e.toNat ⟨#[]⟩)).length:=by
 have:=jq (h.grp h0 h1)
 rw[jA];have e:(G.getD e.toNat ⟨#[]⟩).data.toList.length=(G.getD e.toNat ⟨#[]⟩).size:=by rw[Array.length_toList];rfl
 omega
structure MI (L:List En) (T:Wt) (G:List ByteArray) (B:List Int) (P:Pm):Prop where
 q:P.kind=113→eT P.ent=false∧∃ y∈T,y.1=P.ent
 m:P.kind=109→eT P.ent=true∧(0≤P.epoch∧P.epoch≤10)∧(∃ y∈T,y.1=P.ent)∧∀ y∈T,y.1=P.ent→y.2=mTx P.ent P.epoch
 p:P.kind=112→0≤P.epoch∧P.epoch≤regs L∧(∃ y∈T,y.1=P.ent)∧(P.place≤(gY L P.epoch.toNat:Int)∨(eT P.ent=true→∀ y∈T,y.1=P.ent→y.2=mTx P.ent P.epoch))
 s:P.kind=115∨P.kind=97→Lg L T P.epoch P.log∧P.grp=dA (G.getD P.epoch.toNat ⟨#[]⟩)∧(regs (P.log.take P.commit.toNat):Int)≤P.epoch
 v:P.kind=118→Lg L T P.epoch P.log
 t:P.kind=116→P.epoch≤B.getD P.frm.toNat (-1)
def RK (k:Int):Prop:=k=112∨k=107∨k=99∨k=104∨k=103∨k=114∨k=116∨k=118∨k=115∨k=97
theorem MI.bare {L:List En} {T:Wt} {G:List ByteArray} {B:List Int} {P:Pm} (h:P.kind=104∨P.kind=103∨P.kind=114∨P.kind=107∨P.kind=99):MI L T G B P :=
 ⟨fun q=>by omega,fun q=>by omega,fun q=>by omega,fun q=>by omega,fun q=>by omega,fun q=>by omega⟩
def OI (L:List En) (T:Wt) (G:List ByteArray) (B:List Int) (n id:Int) (o:Int×ByteArray):Prop :=
 (0≤o.1∧o.1<n∧o.1≠id∧∃ P,o.2=gB P∧dQ n P∧RK P.kind∧P.frm=id∧MI L T G B P) ∨
 (∃ k,k<L.length∧o.1 = -(L.getD k en0).1∧o.2=YS++dg (L.getD k en0).1++SP++dg (L.getD k en0).2.1++SP++(doS (svF (L.take k)).vals (L.getD k en0).2.2).2) ∨
 (∃ e:En,o.1 = -e.1∧o.2=YS++dg e.1++SP++dg e.2.1++SP++⟨#[98,97,100]⟩∧eT e=true∧(∃ y∈T,y.1=e)∧(Rp.eH e n=true∨∀ y∈T,y.1=e→∃ E:Int,0≤E∧E≤10∧E<regs L∧y.2=mTx e E))
structure RI (L:List En) (T:Wt) (G:List ByteArray) (B:List Int) (R:Rp):Prop where
 jl:Jw T R.log∧∀ e∈R.log,∃ y∈T,y.1=e
 an:∀ a∈R.answers,MI L T G B a∧a.frm≠R.id
 vo:∀ v∈R.aI,v.epoch=R.epoch∧Lg L T v.epoch v.log
 me:R.status≠3→(R.mem R.id=true↔(R.status=1∨R.status=2))
 gp:R.status≠3→R.epoch≤regs L∧R.grp=dA (G.getD R.epoch.toNat ⟨#[]⟩)
 lg:R.status=1∨R.status=2∨R.status=5→Lg L T R.epoch R.log
 st:R.status=5→∀ k:Nat,R.started.getD k false=true→iQ R.grp k=true∧R.epoch≤B.getD k (-1)
theorem idd {p:Prop} (h:p):p:=h
namespace Rp
variable {r r' X:Rp}
def rk (s:Int):Nat:=if s=3 then 0 else if s=2 then 1 else if s=1 then 2 else if s=5 then 3 else 4
def mz (r:Rp):Nat:=(((r.epoch.toNat*1000+r.view.toNat)*5+rk r.status)*11+r.log.length)*11+r.decided
theorem LQ (s:Int):rk s≤4:=by unfold rk;(repeat' split) <;> omega
theorem Ot (h:Ok r):mz r<6655000:=by
 have h1:=h.ep;have h2:=h.vi;have h3:=LQ r.status;have h4:=h.lg;have h5:=h.dc;unfold mz;omega
theorem oI (h:Ok r) (h':Ok r') (hl:r.epoch<r'.epoch∨(r.epoch=r'.epoch∧(r.view<r'.view∨(r.view=r'.view∧(rk r.status<rk r'.status∨(rk r.status=rk r'.status∧(r.log.length<r'.log.length∨(r.log.length=r'.log.length∧r.decided<r'.decided)))))))):mz r<mz r':=by
 have h1:=h.ep;have h2:=h.vi;have h3:=LQ r.status;have h4:=h.lg;have h5:=h.dc;have g1:=h'.ep;have g2:=h'.vi;have g3:=LQ r'.status;have g4:=h'.lg;have g5:=h'.dc;unfold mz;rcases hl with hl|⟨he,hl|⟨hv,hl|⟨hs,hl|⟨hg,hl⟩⟩⟩⟩ <;> omega
def Adv (r r':Rp):Prop:=mz r<mz r'∨(mz r=mz r'∧r'.out.length≤r.out.length+1)
def SvI (r:Rp):Prop:=r.sv=svF (r.log.take r.decided)
structure Nx (r r':Rp):Prop where
 adv:Adv r r'
 sv:SvI r→SvI r'
 rc:r'.status=3→r.status=3∧r'.epoch=r.epoch∧r'.view=r.view∧r'.log=r.log∧r'.decided=r.decided∧r'.out=r.out
theorem Nx.refl (r:Rp):Nx r r:=⟨.inr ⟨rfl,by omega⟩,idd,fun h=>⟨h,rfl,rfl,rfl,rfl,rfl⟩⟩
theorem zT (hs:r.status≠3) (qt:Int) (t:ByteArray):Nx r (r.put qt t):=⟨.inr ⟨rfl,by simp[put]⟩,idd,fun h=>absurd h hs⟩
theorem Il (hs:r.status≠3) (qt:Int) (P:Pm):Nx r (r.send qt P):=zT hs _ _
theorem nO (hs:r.status≠3) (qt k:Int):Nx r (r.bare qt k):=zT hs _ _
theorem uO (hs:r.status≠3) (qt:Int):Nx r (r.tell qt):=zT hs _ _
theorem Gz (hs:r.status≠3) (qt:Int):Nx r (r.kM qt):=zT hs _ _
theorem Ez (hs:r.status≠3) (c m:Int) (t:ByteArray):Nx r (r.reply c m t):=zT hs _ _
theorem ny (l:List En):SvI (r.over l):=by unfold SvI over;rfl
theorem G7 (h:SvI r) (hd:r.decided<r.log.length):SvI (r.mq (r.log.getD r.decided (0,0,⟨#[]⟩))):=by
 unfold SvI mq at *;dsimp only;rw[h];unfold svF;rw[List.take_succ_eq_append_getElem hd,List.foldl_append];simp[List.getD,hd]
theorem xR (h:SvI r) (hd:r.decided<r.log.length):SvI (r.carried (r.log.getD r.decided (0,0,⟨#[]⟩))):=by
 have k:=G7 h hd;unfold carried
 split
 ·exact k
 ·exact k
theorem Mj (h:SvI r) (g:List Int):SvI (r.turn g):=by
 unfold turn;dsimp only
 split
 ·exact h
 ·exact h
theorem AB (g:List Int):(r.turn g).epoch=r.epoch+1:=by
 unfold turn;dsimp only;split <;> rfl
theorem Fb (g:List Int):(r.turn g).status≠3:=by
 unfold turn;dsimp only;split
 ·show (1:Int)≠3;decide
 ·show (5:Int)≠3;decide
theorem qz (e:En):(r.carried e).status=r.status:=by unfold carried;split <;> rfl
theorem CJ (e:En):(r.carried e).view=r.view:=by unfold carried;split <;> rfl
theorem BF:∀ (f:Nat) (r:Rp) (p:Int),Ok r→(dZ f r p=r∨mz r<mz (dZ f r p))∧(SvI r→SvI (dZ f r p))∧((dZ f r p).status=3→r.status=3)
 | 0,r,_,_=>⟨.inl rfl,idd,idd⟩
 | f+1,r,p,h=>by
  have hg:=tC (f+1) r p h;unfold dZ at hg ⊢
  split
  ·rename_i q;rw[if_pos q] at hg;dsimp only at hg ⊢;have k:=kr h q.2 (r.log.getD r.decided (0,0,⟨#[]⟩))
   split
   ·rename_i ht;rw[if_pos ht] at hg;refine⟨.inr (oI h hg.ok (.inl ?_)),fun hs=>Mj (xR hs q.2) _,fun hs=>absurd hs (Fb _)⟩
    rw[AB,jy];omega
   ·obtain⟨h1,h2,h3⟩:=BF f (r.carried (r.log.getD r.decided (0,0,⟨#[]⟩))) p k.ok
    have hlt:mz r<mz (r.carried (r.log.getD r.decided (0,0,⟨#[]⟩))):=oI h k.ok (.inr ⟨(jy _).symm,.inr ⟨(CJ _).symm,.inr ⟨by rw[qz],.inr ⟨by rw[qy],by rw[jE];omega⟩⟩⟩⟩)
    refine⟨.inr ?_,fun hs=>h2 (xR hs q.2),fun hs=>by have:=h3 hs;rwa [qz] at this⟩
    rcases h1 with h1|h1
    ·rw[h1];exact hlt
    ·omega
  ·exact⟨.inl rfl,idd,idd⟩
theorem uo (h:Ok r) (p:Int):(r.aT p=r∨mz r<mz (r.aT p))∧(SvI r→SvI (r.aT p))∧((r.aT p).status=3→r.status=3):=BF _ r p h
theorem Adv.dec (h:Adv r X) (hX:Ok X) (p:Int):Adv r (X.aT p):=by
 rcases (uo hX p).1 with q|q
 ·rw[q];exact h
 ·rcases h with h|h
  ·exact .inl (by omega)
  ·exact .inl (by omega)
theorem Nx.dec (h:Adv r X) (hX:Ok X) (hs:SvI r→SvI X) (h3:X.status≠3) (p:Int):Nx r (X.aT p) :=
 ⟨h.dec hX p,fun q=>(uo hX p).2.1 (hs q),fun q=>absurd ((uo hX p).2.2 q) h3⟩
theorem Nx.lt (h:mz r<mz r') (hs:SvI r→SvI r') (h3:r'.status≠3):Nx r r':=⟨.inl h,hs,fun q=>absurd q h3⟩
theorem Nx.catch (h:mz r<mz X) (hX:Ok X) (hs:SvI r→SvI X) (h3:X.status≠3) (c:Int):Nx r (X.bZ c):=by
 unfold bZ
 split
 ·exact Nx.dec (.inl h) hX hs h3 c
 ·exact Nx.dec (X:=X.ack X.iB) (.inl h) (lH hX _).ok hs h3 c
theorem Dk (hs:r.status≠3) (hp:r.dG=false):Nx r r.oU:=by
 unfold oU;rw[hp];exact Il hs _ _
theorem Dj (hs:r.status≠3):Nx r r.dP:=by
 unfold dP
 split
 ·exact Nx.refl r
 ·rename_i q;exact Dk hs (by simpa using q)
theorem nT (v:Int):(r.want v).epoch=r.epoch∧(r.want v).view=v∧(r.want v).status=2∧(SvI r→SvI (r.want v)):=by
 unfold want oU
 split
 ·exact⟨rfl,rfl,rfl,idd⟩
 ·exact⟨rfl,rfl,rfl,idd⟩
theorem Dc (h:Ok r) {v:Int} (hv:r.view<v∧v≤999):mz r<mz (r.want v):=by
 have:=h.vi
 obtain⟨e1,e2,_,_⟩:=nT (r:=r) v
 exact oI h (uH h ⟨by omega,hv.2⟩).ok (.inr ⟨e1.symm,.inl (by rw[e2];exact hv.1)⟩)
theorem Nq (h:Ok r) {v:Int} (hv:r.view<v∧v≤999):Nx r (r.want v):=by
 obtain⟨_,_,e3,e4⟩:=nT (r:=r) v
 exact Nx.lt (Dc h hv) e4 (by rw[e3];decide)
theorem Ey (h:Ok r) (hs:r.status=2) {m:Pm} (hk:m.kind=118) (hm:dQ r.n m):Nx r (r.count m):=by
 have h1:=oK h hk hm;unfold count;dsimp only
 split
 ·exact⟨.inr ⟨rfl,by simp⟩,idd,fun q=>absurd (hs.symm.trans q) (by decide)⟩
 ·unfold counted;have k1:=fB h1 (yN h1);have k2:=kP k1.ok (v:=r.view) h.vi;have k3:=gL k2.ok;refine Nx.dec (.inl ?_) k3.ok (fun _=>ny _) (by show (1:Int)≠3;decide) _
  refine oI h k3.ok (.inr ⟨rfl,.inr ⟨rfl,.inl ?_⟩⟩);rw[hs];show rk 2<rk 1;decide
theorem Nx.after (h:mz r<mz X) (k:Nx X r') (hs:SvI r→SvI X) (h3:X.status≠3):Nx r r' :=
  ⟨by rcases k.adv with q | q
      · exact .inl (by omega)
      · exact .inl (by omega), fun q => k.sv (hs q), fun q => absurd (k.rc q).1 h3⟩
theorem wh (h:Ok r) (hs:r.status≠3) {m:Pm} (hm:dQ r.n m) (hv:r.view<m.view):Nx r (r.bY m):=by
 have k:=uH h ⟨hm.v0,hm.v1⟩;obtain⟨_,_,e3,e4⟩:=nT (r:=r) m.view
 unfold bY
 split
 ·split
  ·rename_i q;simp at q;exact Nx.after (Dc h ⟨hv,hm.v1⟩) (Ey k.ok e3 q.1 (by rw[k.n];exact hm)) e4 (by rw[e3];decide)
  ·exact Nq h ⟨hv,hm.v1⟩
 ·exact Nx.refl r
theorem xW (h:Ok r) (hs:r.status=2) {m:Pm} (hm:dQ r.n m):Nx r (r.bC m):=by
 have hs3:r.status≠3:=by rw[hs];decide
 unfold bC
 split
 ·split
  ·exact nO hs3 _ _
  ·split
   ·exact Dj hs3
   ·split
    ·rename_i q;exact Ey h hs q.1 hm
    ·exact Nx.refl r
 ·exact Nx.refl r
theorem qL (hs:r.status≠3) (m:Pm):Nx r (r.bX m):=by
 unfold bX
 split
 ·exact uO hs _
 ·split
  ·exact Gz hs _
  ·split
   ·exact nO hs _ _
   ·exact Nx.refl r
theorem sF (h:Ok r) (hc:r.carries=true) {m:Pm} (hk:m.kind=115) (hm:dQ r.n m):Nx r (r.aH m):=by
 have hl:=lI hm (.inr (.inl hk));have hst:r.status=1∨r.status=2:=by unfold carries at hc;simpa using hc
 have hs3:r.status≠3:=by rcases hst with q|q <;> (rw[q];decide)
 unfold aH
 split
 ·rename_i q;have k1:=kP h ⟨hm.v0,hm.v1⟩;have k2:=fB k1.ok (l:=m.log) hl;refine Nx.catch (oI h k2.ok (.inr ⟨rfl,?_⟩)) k2.ok (fun _=>ny _) (by show (1:Int)≠3;decide) _
  rcases q with q|q
  ·exact .inl q
  ·refine .inr ⟨q.1.symm,.inl ?_⟩;rw[q.2];show rk 2<rk 1;decide
 ·rename_i q
  split
  ·split
   ·exact uO hs3 _
   ·exact Nx.refl r
  ·split
   ·rename_i q2 q3;have k2:=fB h (l:=m.log) hl;exact Nx.catch (oI h k2.ok (.inr ⟨rfl,.inr ⟨rfl,.inr ⟨rfl,.inl q3.2⟩⟩⟩)) k2.ok (fun _=>ny _) hs3 _
   ·split
    ·exact Nx.refl r
    ·exact nO hs3 _ _
theorem CO (h:Ok r) (p:Int):r.epoch≤(r.aT p).epoch:=by
 suffices hh:∀ (f:Nat) (r:Rp),r.epoch≤(dZ f r p).epoch from hh _ r
 intro f
 induction f with
 | zero=>intro r;exact Int.le_refl _
 | succ f ih =>
  intro r;unfold dZ
  split
  ·dsimp only
   split
   ·rw[AB,jy];omega
   ·have:=ih (r.carried (r.log.getD r.decided (0,0,⟨#[]⟩)))
    rwa [jy] at this
  ·exact Int.le_refl _
theorem uN (h:Ok r) {m:Pm} (hk:m.kind=115) (hm:dQ r.n m) (he:r.epoch<m.epoch):Nx r (r.bK m):=by
 have hl:=lI hm (.inr (.inl hk));have k0:Gd r (r.enter m) 0:=⟨jO h (.inl hk) hm,rfl,rfl,Nat.le_refl _⟩
 unfold bK
 split
 ·have k1:=fB k0.ok (l:=m.log) hl;have k2:=lS k1.ok;exact Nx.catch (oI h k2.ok (.inl he)) k2.ok (fun _=>ny _) (by show (1:Int)≠3;decide) _
 ·split
  ·have kl:=Ea k0.ok hl;have j0:Gd (r.enter m) (r.enter m).leave0 0:=⟨⟨k0.ok.n3,k0.ok.n7,k0.ok.i0,k0.ok.i1,k0.ok.ll,k0.ok.lb,by simp[leave0],k0.ok.ep,by simp[leave0],by simp[leave0],k0.ok.g,k0.ok.o,k0.ok.lg,k0.ok.le,k0.ok.dc,k0.ok.vo,k0.ok.vn,k0.ok.an,k0.ok.nn⟩,rfl,rfl,Nat.le_refl _⟩
   have j1:=fB j0.ok (l:=dW m.log (r.enter m).epoch) (hl.upto _);have hD:=uo j1.ok m.commit;have hE:=CO j1.ok m.commit;refine Nx.lt (oI h kl.ok (.inl ?_)) (fun _=>?_) (fun q=>?_)
   ·exact Int.lt_of_lt_of_le he hE
   ·exact hD.2.1 (ny _)
   ·have:=hD.2.2 q
    exact absurd this (by show (5:Int)≠3;decide)
  ·refine Nx.lt (oI h (iH k0.ok (s:=4) (by decide)).ok (.inl he)) (fun q=>q) (by show (4:Int)≠3;decide)
theorem Di (h:Ok r) (hs3:r.status≠3) {m:Pm} (hk:m.kind=115) (hm:dQ r.n m):Nx r (r.dY m):=by
 unfold dY
 split
 ·rename_i q;exact uN h hk hm q
 ·split
  ·rename_i q
   split
   ·exact qL hs3 m
   ·exact sF h q hk hm
  ·exact Nx.refl r
theorem Dh (h:Ok r) (hs3:r.status≠3) (m:Pm):Nx r (r.eB m):=by
 unfold eB
 split
 ·rename_i q;simp at q;dsimp only
  split
  ·have k:=iH h (s:=4) (by decide)
   refine Nx.lt (oI h (r':={ r with started:=r.started.set m.frm.toNat true,status:=4 }) k.ok (.inr ⟨rfl,.inr ⟨rfl,.inl ?_⟩⟩)) idd (by show (4:Int)≠3;decide)
   rw[q.1.1];show rk 5<rk 4;decide
  ·exact⟨.inr ⟨rfl,by simp⟩,idd,fun q=>absurd q hs3⟩
 ·exact Nx.refl r
theorem JD (hs3:r.status≠3) (m:Pm):Nx r (r.answer m):=by
 unfold answer
 split
 ·exact Il hs3 _ _
 ·exact Nx.refl r
theorem zU (hs3:r.status≠3) (m:Pm):Nx r (r.cK m):=by
 unfold cK
 split
 ·exact nO hs3 _ _
 ·split
  ·exact uO hs3 _
  ·exact Nx.refl r
theorem Dg (h:Ok r) (hs3:r.status≠3) {m:Pm} (hk:m.kind=112) (hm:dQ r.n m):Nx r (r.dK m):=by
 unfold dK
 split
 ·split
  ·exact nO hs3 _ _
  ·split
   ·split
    ·exact Nx.refl r
    ·rename_i q _;have hp:=hm.pl (.inl hk);have h1:=qM h (hm.en hk) (by omega)
     have k1:=lH h1 m.frm;refine Nx.dec (.inl (oI h k1.ok (.inr ⟨rfl,.inr ⟨rfl,.inr ⟨rfl,.inl (by show r.log.length<(r.log++[m.ent]).length;simp)⟩⟩⟩))) k1.ok (fun hs=>?_) hs3 _
     unfold SvI at *
     show r.sv=svF ((r.log++[m.ent]).take r.decided)
     rw[List.take_append_of_le_length h.dc];exact hs
   ·have k1:=lH h m.frm;exact Nx.dec (r:=r) (X:=r.ack m.frm) (.inr ⟨rfl,by simp[ack,send,put]⟩) k1.ok idd hs3 _
 ·exact Nx.refl r
theorem Ba (h:Ok r) (hs3:r.status≠3) (m:Pm):Nx r (r.dV m):=by
 unfold dV
 split
 ·split
  ·exact nO hs3 _ _
  ·exact Nx.dec (.inr ⟨rfl,by omega⟩) h idd hs3 _
 ·exact Nx.refl r
theorem Bt (q:Nat) (p:Int):mz (r.eX q p)=mz r∧(r.eX q p).out=r.out∧(SvI r→SvI (r.eX q p))∧(r.eX q p).status=r.status:=by
 unfold eX;split
 ·exact⟨rfl,rfl,idd,rfl⟩
 ·exact⟨rfl,rfl,idd,rfl⟩
theorem Gy (h:Ok r) (hs3:r.status≠3) (m:Pm):Nx r (r.iw m):=by
 unfold iw
 split
 ·have k:=rA h m.frm.toNat m.place;obtain⟨e1,e2,e3,e4⟩:=Bt (r:=r) m.frm.toNat m.place
  exact Nx.dec (.inr ⟨e1.symm,by rw[e2];omega⟩) k.ok e3 (by rw[e4];exact hs3) _
 ·exact Nx.refl r
theorem Bc (h:Ok r) (hs3:r.status≠3) {m:Pm} (hm:dQ r.n m):Nx r (r.bV m):=by
 unfold bV
 split
 ·exact uO hs3 _
 ·split
  ·split
   ·rename_i q;exact Dg h hs3 q hm
   ·split
    ·exact Ba h hs3 m
    ·split
     ·exact Gy h hs3 m
     ·split
      ·exact uO hs3 _
      ·exact Nx.refl r
  ·exact Nx.refl r
theorem Bb (h:Ok r) (hs3:r.status≠3) {m:Pm} (hm:dQ r.n m):Nx r (r.bM m):=by
 unfold bM
 split
 ·split
  ·rename_i q;exact xW h q hm
  ·exact Bc h hs3 hm
 ·split
  ·rename_i q
   split
   ·exact wh h hs3 hm q.2
   ·exact nO hs3 _ _
  ·split
   ·exact nO hs3 _ _
   ·exact qL hs3 m
def RcI (r:Rp):Prop:=r.status=3→r.epoch=0∧r.view=0∧r.log=[]∧r.decided=0
theorem JE (h:Ok r) (hs:r.status=3) (hz:RcI r) {m:Pm} (hk:m.kind=97) (hm:dQ r.n m):Nx r (r.resume m):=by
 have hl:=lI hm (.inr (.inr hk));have e:=jO h (.inr hk) hm;have k0:Gd r { r.enter m with answers:=[] } 0:=⟨mO e (by simp) (by simp),rfl,rfl,Nat.le_refl _⟩
 obtain⟨z1,z2,z3,z4⟩:=hz hs
 have hlt:∀ X:Rp,Ok X→X.epoch=m.epoch→X.view=m.view→0<rk X.status→mz r<mz X:=fun X hX h1 h2 h3=>by
  have a0:=hm.e0;have b0:=hm.v0;refine oI h hX ?_;rw[h1,h2,z1,z2];by_cases he:0<m.epoch
  ·exact .inl he
  ·refine .inr ⟨by omega,?_⟩
   by_cases hv:0<m.view
   ·exact .inl hv
   ·exact .inr ⟨by omega,.inl (by rw[hs];exact h3)⟩
 unfold resume;dsimp only
 split
 ·have k1:=fB k0.ok (l:=m.log) hl
  split
  ·exact Nx.dec (.inl (hlt _ k1.ok rfl rfl (by show 0<rk 1;decide))) k1.ok (fun _=>ny _) (by show (1:Int)≠3;decide) _
  ·have k2:=lH k1.ok m.frm;exact Nx.dec (.inl (hlt _ k2.ok rfl rfl (by show 0<rk 1;decide))) k2.ok (fun _=>ny _) (by show (1:Int)≠3;decide) _
 ·exact Nx.lt (hlt _ (iH k0.ok (s:=4) (by decide)).ok rfl rfl (by show 0<rk 4;decide)) idd (by show (4:Int)≠3;decide)
theorem A9 (h:Ok r) (hs:r.status=3) (hz:RcI r) {m:Pm} (hk:m.kind=97) (hm:dQ r.n m):Nx r (r.dO m):=by
 unfold dO
 split
 ·dsimp only;have h1:=uQ h hk hm;have hj:Nx r { r with answers:=aQ r.answers m }:=⟨.inr ⟨rfl,by simp⟩,idd,fun q=>⟨q,rfl,rfl,rfl,rfl,rfl⟩⟩
  split
  ·rename_i a ha;have hma:=nM ha
   split
   ·have q:=h1.an a hma;have k:=JE (r:={ r with answers:=aQ r.answers m }) h1 hs hz q.1 q.2
    exact⟨k.adv,k.sv,fun e=>k.rc e⟩
   ·exact hj
  ·exact hj
 ·exact Nx.refl r
theorem wm (h:Ok r) (hz:RcI r) {m:Pm} (hm:dQ r.n m):Nx r (r.bB m):=by
 unfold bB
 split
 ·rename_i hs
  split
  ·rename_i hk;exact A9 h hs hz hk hm
  ·exact Nx.refl r
 ·rename_i hs3
  split
  ·rename_i hk;exact Di h hs3 hk hm
  ·split
   ·exact JD hs3 m
   ·split
    ·exact Dh h hs3 m
    ·split
     ·exact Nx.refl r
     ·split
      ·exact zU hs3 m
      ·exact Bb h hs3 hm
structure Sm (r r':Rp):Prop where
 ep:r'.epoch=r.epoch
 vi:r'.view=r.view
 st:r'.status=r.status
 lg:r'.log=r.log
 dc:r'.decided=r.decided
 ou:r'.out=r.out
 sv:r'.sv=r.sv
theorem Sm.refl (r:Rp):Sm r r:=⟨rfl,rfl,rfl,rfl,rfl,rfl,rfl⟩
theorem Sm.trans {a b c:Rp} (h:Sm a b) (k:Sm b c):Sm a c:=⟨k.ep.trans h.ep,k.vi.trans h.vi,k.st.trans h.st,k.lg.trans h.lg,k.dc.trans h.dc,k.ou.trans h.ou,k.sv.trans h.sv⟩
theorem JY (l:List Int) (r:Rp) (i:Nat):Sm r (iJ l r i):=by
 unfold iJ;split
 ·exact⟨rfl,rfl,rfl,rfl,rfl,rfl,rfl⟩
 ·exact Sm.refl r
theorem Mc (l:List Int):Sm r (r.learn l):=by
 unfold learn
 suffices hh:∀ (is:List Nat) (r:Rp),Sm r (is.foldl (iJ l) r) from hh _ r
 intro is
 induction is with
 | nil=>intro r;exact Sm.refl r
 | cons i is ih=>intro r;exact (JY l r i).trans (ih _)
theorem JZ:Sm r r.pruned:=⟨rfl,rfl,rfl,rfl,rfl,rfl,rfl⟩
theorem Sm.mz (h:Sm r r'):mz r'=mz r:=by unfold Rp.mz;rw[h.ep,h.vi,h.st,h.lg,h.dc]
theorem Sm.svi (h:Sm r r'):SvI r→SvI r':=fun q=>by unfold SvI at *;rw[h.sv,h.lg,h.dc];exact q
theorem Sm.rci (h:Sm r r'):RcI r→RcI r':=fun q=>by unfold RcI at *;rw[h.st,h.ep,h.vi,h.lg,h.dc];exact q
theorem Nx.of_sm (h:Sm r X) (k:Nx X r'):Nx r r' :=
  ⟨by rcases k.adv with q | q
      · exact .inl (by rw [← h.mz]; exact q)
      · exact .inr (by rw [← h.mz, ← h.ou]; exact q), fun q => k.sv (h.svi q), fun q => by
    obtain⟨a,b,c,d,e,f⟩:=k.rc q
    exact⟨h.st▸a,b.trans h.ep,c.trans h.vi,d.trans h.lg,e.trans h.dc,f.trans h.ou⟩⟩
theorem Gx (h:Ok r) (hs3:r.status≠3) {e:En} (he:jd r.n e):Nx r (r.propose e):=by
 unfold propose
 split
 ·exact Nx.refl r
 ·rename_i q;have h1:=qM h he (by omega)
  have k:=lQ h1 ((r.log.length:Int)+1);have hf:∀ p,(({ r with log:=r.log++[e] }:Rp).bF p).log=r.log++[e]∧(({ r with log:=r.log++[e] }:Rp).bF p).epoch=r.epoch∧(({ r with log:=r.log++[e] }:Rp).bF p).view=r.view∧(({ r with log:=r.log++[e] }:Rp).bF p).status=r.status∧(({ r with log:=r.log++[e] }:Rp).bF p).sv=r.sv∧(({ r with log:=r.log++[e] }:Rp).bF p).decided=r.decided:=fun p=>by
   unfold bF;split
   ·exact⟨rfl,rfl,rfl,rfl,rfl,rfl⟩
   ·exact⟨rfl,rfl,rfl,rfl,rfl,rfl⟩
  obtain⟨f1,f2,f3,f4,f5,f6⟩:=hf ((r.log.length:Int)+1)
  refine Nx.lt (oI h k.ok (.inr ⟨f2.symm,.inr ⟨f3.symm,.inr ⟨by rw[f4],.inl (by rw[f1];simp)⟩⟩⟩)) (fun hs=>?_) (by rw[f4];exact hs3)
  unfold SvI at *;rw[f5,f1,f6,List.take_append_of_le_length h.dc];exact hs
theorem zV (h:Ok r) {m:Pm} (he:eH m.ent r.n=false∨m.kind≠109→jd r.n m.ent):Nx r (r.bT m):=by
 unfold bT
 split
 ·rename_i hl;have hs3:r.status≠3:=by
   unfold leads at hl;rw[Bool.and_eq_true] at hl;have:=eq_of_beq hl.1
   omega
  split
  ·exact Nx.refl r
  ·split
   ·unfold gy
    split
    ·exact Ez hs3 _ _ _
    ·exact Nx.refl r
   ·split
    ·exact Nx.refl r
    ·split
     ·exact Ez hs3 _ _ _
     ·rename_i q1 q2;refine Gx h hs3 (he ?_);by_cases hk:m.kind=109
      ·left
       cases hn:eH m.ent r.n
       ·rfl
       ·exact absurd ⟨hk,.inr hn⟩ q2
      ·exact .inr hk
 ·exact Nx.refl r
theorem Np (h:Ok r) (hz:RcI r) {m:Pm} (hm:MOk r.n m):Nx r (r.take m):=by
 unfold take
 split
 ·rename_i q;refine zV h (fun c=>CF (hm.1 q) q (fun d=>?_))
  rcases c with c|c
  ·rw[c] at d;exact absurd d.2 (by decide)
  ·exact c d.1
 ·rename_i q;have hp:=hm.2 q
  split
  ·have k1:=uD h hp.lb;have k2:=ru k1.ok;have k3:=k1.trans k2;have s:=(Mc (r:=r) m.lives).trans (JZ (r:=r.learn m.lives));exact Nx.of_sm s (wm k2.ok (s.rci hz) (by rw[k3.n];exact hp))
  ·exact Nx.refl r
structure Tk (r r':Rp):Prop where
 mz:mz r≤Rp.mz r'
 sv:SvI r→SvI r'
 rc:r'.status=3→r.status=3∧r'.epoch=r.epoch∧r'.view=r.view∧r'.log=r.log∧r'.decided=r.decided
theorem Tk.refl (r:Rp):Tk r r:=⟨Nat.le_refl _,idd,fun h=>⟨h,rfl,rfl,rfl,rfl⟩⟩
theorem Tk.trans {a b c:Rp} (h:Tk a b) (k:Tk b c):Tk a c:=⟨Nat.le_trans h.mz k.mz,fun q=>k.sv (h.sv q),fun q=>by
 obtain⟨a1,a2,a3,a4,a5⟩:=k.rc q
 obtain⟨b1,b2,b3,b4,b5⟩:=h.rc a1
 exact⟨b1,a2.trans b2,a3.trans b3,a4.trans b4,a5.trans b5⟩⟩
theorem vH (g:List Int) (P:Pm):Tk r (r.fI g P):=⟨Nat.le_refl _,idd,fun h=>⟨h,rfl,rfl,rfl,rfl⟩⟩
theorem Mq (a:Int) (t:ByteArray):Tk r (r.put a t):=⟨Nat.le_refl _,idd,fun h=>⟨h,rfl,rfl,rfl,rfl⟩⟩
theorem DF (p:Int):Tk r (r.bF p):=by
 unfold bF;split
 ·exact Tk.refl r
 ·exact vH _ _
theorem Az:∀ (k:Nat) (r:Rp) (p:Int),Tk r (kK k r p)
 | 0,r,_=>Tk.refl r
 | k+1,r,p=>(DF p).trans (Az k _ _)
theorem J3:Tk r r.iZ:=by
 unfold iZ;split
 ·exact vH _ _
 ·exact Az _ _ _
theorem NS (i:Nat):Tk r (oW r i):=by
 unfold oW;split
 ·exact Mq _ _
 ·exact Tk.refl r
theorem IJ:∀ (is:List Nat) (r:Rp),Tk r (is.foldl oW r)
 | [],r=>Tk.refl r
 | i :: is,r=>(NS i).trans (IJ is _)
theorem NU:Tk r r.dP:=by
 unfold dP;split
 ·exact Tk.refl r
 ·rename_i q;unfold oU;rw[if_neg q];exact Mq _ _
theorem IK:Tk r r.lF:=by
 unfold lF;split
 ·exact J3
 ·split
  ·exact (vH _ _).trans NU
  ·split
   ·exact IJ _ _
   ·split
    ·exact vH _ _
    ·exact Tk.refl r
theorem AA (h:Ok r):Tk r r.suspect:=by
 unfold suspect;split
 ·rename_i q;obtain⟨_,_,e3,e4⟩:=nT (r:=r) (r.view+1)
  exact⟨Nat.le_of_lt (Dc h ⟨by omega,by omega⟩),e4,fun hs=>absurd (e3.symm.trans hs) (by decide)⟩
 ·exact Tk.refl r
theorem Tk.rci {r r':Rp} (k:Tk r r') (h:RcI r):RcI r':=fun q=>by
 obtain⟨b1,b2,b3,b4,b5⟩:=k.rc q
 obtain⟨a1,a2,a3,a4⟩:=h b1
 exact⟨b2.trans a1,b3.trans a2,b4.trans a3,b5.trans a4⟩
theorem Nx.rci {r r':Rp} (k:Nx r r') (h:RcI r):RcI r':=fun q=>by
 obtain⟨b1,b2,b3,b4,b5,_⟩:=k.rc q
 obtain⟨a1,a2,a3,a4⟩:=h b1
 exact⟨b2.trans a1,b3.trans a2,b4.trans a3,b5.trans a4⟩
def jM (t:ByteArray):Prop:=t.data.toList.head? = some 114
theorem JJ {a b:ByteArray} (h:jM a):jM (a++b):=by
 unfold jM at *;simp only[ByteArray.data_append,Array.toList_append];cases q:a.data.toList with
 | nil=>rw[q] at h;cases h
 | cons x l=>rw[q] at h;simpa using h
theorem ED {P:Pm} (h:P.kind=114):jM (gB P):=by
 unfold gB
 repeat apply JJ
 rw[h];rfl
theorem Bw:∀ (is:List Nat) (r:Rp),(∀ x∈r.out,jM x.2)→∀ x∈(is.foldl oW r).out,jM x.2
 | [],_,h=>h
 | i :: is,r,h=>Bw is _ (by
  unfold oW;split
  ·intro x hx;unfold bare send put at hx;rcases List.mem_append.1 hx with hx|hx
   ·exact h x hx
   ·simp at hx;subst hx;exact ED rfl
  ·exact h)
theorem DT (ho:r.out=[]) (hs:r.lF.status=3):∀ x∈r.lF.out,jM x.2:=by
 have h3:=(IK (r:=r)).rc hs;have hl:r.leads=false:=by unfold leads;rw[h3.1];rfl
 unfold lF;rw[hl,if_neg (by decide),if_neg (by rw[h3.1];decide),if_pos h3.1]
 exact Bw _ _ (by rw[ho];simp)
theorem Ay (h:Ok r) (ho:r.out=[]) (hs:r.suspect.status=3):r.suspect.out=[]:=by
 have h3:=(AA h).rc hs;unfold suspect;rw[if_neg (by unfold carries;rw[h3.1];simp)]
 exact ho
end Rp
section
variable {w:World} {b bl:Nat} {W F:List Nat} {R:Rp} {V:Rv}
theorem ay.KQ {w1:World} {v:Value} {l:List En} (h:ay w b bl W F R V) (hb:Below w.heap.size w w1) (hown:w1.ownsRow w.heap.size 66 3 v l.length (aA l)) :
  ∃ W' F',ay (w1.setCell ⟨b,9,O⟩ v) b bl W' F' { R with log:=l } { V with vL:=v }∧Mv w W F W' F'∧Kp W w (w1.setCell ⟨b,9,O⟩ v):=by
 have h1:=h.below hb;have ho0:w1.ownsRow 0 66 3 v l.length (aA l):=eU hown (Nat.zero_le _)
 rcases hown.2 with ⟨rfl,hl⟩|⟨g,cap,cur,rfl,q1,q2,q3⟩
 ·exact⟨W,F,h1.re (h1.k1 _ _) (h1.sv.pI 9 _ (by simp[jT])) h1.ak h1.st rfl rfl ho0 (In.nil _ _ _) h1.out h1.wt h1.grp h1.sg h1.old h1.so h1.aI h1.answers,Mv.refl _ _ _,(Kp.of_below hb).trans' (h1.qo _ _)⟩
 ·have r:=h.Li (l:=l) (g:=g) (cap:=cap) (Kp.of_below hb) (hb.block b h.lb) (hb.block bl h.lives.lt) h1.out ho0 (.inr q1);exact⟨_,_,r.1,r.2.1,r.2.2⟩
theorem NP:svC sv0=[I .u8 0,I .u8 0,I .u8 0,I .u8 0,I .u8 0,I .u8 0,I .u8 0,I .u8 0,I .u8 0,I .u8 0,I .u8 0,I .u8 0,I .u8 0,I .u8 0,I .u8 0,I .u8 0,I .u8 0,I .u8 0,I .u8 0,I .u8 0,I .u8 0,I .u8 0,I .u8 0,I .u8 0,I .u8 0,I .u8 0,I J 0,Z ⟨#[]⟩,I J 0,Z ⟨#[]⟩,I J 0,Z ⟨#[]⟩,I J 0,Z ⟨#[]⟩,I J 0,Z ⟨#[]⟩,I J 0,Z ⟨#[]⟩,I J 0,Z ⟨#[]⟩,I J 0,Z ⟨#[]⟩,I J 0,Z ⟨#[]⟩]:=rfl
theorem kH (b:Nat):∀ (l:List Value) (w:World) (o:Nat),w.setCells b o l=dF w b o l
 | [],_,_=>rfl
 | v :: l,w,o=>by show (w.setCell ⟨b,o,O⟩ v).setCells b (o+1) l=dF (w.setCell ⟨b,o,O⟩ v) b (o+1) l;exact kH b l _ _
theorem ay.there (h:ay w b bl W F R V) (o n:Nat) (hn:o+n≤72):w.there b o n:=fun j hj=>by
 refine⟨?_,h.free _⟩
 have h1:=h.sv.v26;have h2:=h.sv.s9;have h3:=h.ak;have h4:=h.st;have hl:(svC R.sv).length=44:=by rw[qc];omega
 rw[h.cell,List.getElem?_eq_getElem (by simp[jT,gF,hl,h3,h4];omega)]
 rfl
theorem ay.L9 (h:ay w b bl W F R V):ay (w.setCells b 11 (#[I .u8 0,I .u8 0,I .u8 0,I .u8 0,I .u8 0,I .u8 0,I .u8 0,I .u8 0,I .u8 0,I .u8 0,I .u8 0,I .u8 0,I .u8 0,I .u8 0,I .u8 0,I .u8 0,I .u8 0,I .u8 0,I .u8 0,I .u8 0,I .u8 0,I .u8 0,I .u8 0,I .u8 0,I .u8 0,I .u8 0,I J 0,Z ⟨#[]⟩,I J 0,Z ⟨#[]⟩,I J 0,Z ⟨#[]⟩,I J 0,Z ⟨#[]⟩,I J 0,Z ⟨#[]⟩,I J 0,Z ⟨#[]⟩,I J 0,Z ⟨#[]⟩,I J 0,Z ⟨#[]⟩,I J 0,Z ⟨#[]⟩]:Array Value).toList) b bl W F { R with sv:=sv0 } V:=by
 rw[kH,show (#[I .u8 0,I .u8 0,I .u8 0,I .u8 0,I .u8 0,I .u8 0,I .u8 0,I .u8 0,I .u8 0,I .u8 0,I .u8 0,I .u8 0,I .u8 0,I .u8 0,I .u8 0,I .u8 0,I .u8 0,I .u8 0,I .u8 0,I .u8 0,I .u8 0,I .u8 0,I .u8 0,I .u8 0,I .u8 0,I .u8 0,I J 0,Z ⟨#[]⟩,I J 0,Z ⟨#[]⟩,I J 0,Z ⟨#[]⟩,I J 0,Z ⟨#[]⟩,I J 0,Z ⟨#[]⟩,I J 0,Z ⟨#[]⟩,I J 0,Z ⟨#[]⟩,I J 0,Z ⟨#[]⟩,I J 0,Z ⟨#[]⟩]:Array Value).toList=svC sv0 from rfl];exact h.Pp
theorem nK {w w':World} (l:List Value) (o:Nat) (h:Kp [b] w w'):Kp [b] w (w'.setCells b o l):=by rw[kH];exact oM l o w' w h
theorem NR (S:Sv):∀ v∈svC S,v.oneCell'=true:=by
 intro v hv;unfold svC yh at hv;rcases List.mem_append.1 hv with hv|hv
 ·obtain⟨x,_,rfl⟩:=List.mem_map.1 hv;rfl
 ·obtain⟨x,_,hv⟩:=List.mem_flatMap.1 hv
  simp at hv;rcases hv with rfl|rfl <;> rfl
theorem NQ:(#[I .u8 0,I .u8 0,I .u8 0,I .u8 0,I .u8 0,I .u8 0,I .u8 0,I .u8 0,I .u8 0,I .u8 0,I .u8 0,I .u8 0,I .u8 0,I .u8 0,I .u8 0,I .u8 0,I .u8 0,I .u8 0,I .u8 0,I .u8 0,I .u8 0,I .u8 0,I .u8 0,I .u8 0,I .u8 0,I .u8 0,I J 0,Z ⟨#[]⟩,I J 0,Z ⟨#[]⟩,I J 0,Z ⟨#[]⟩,I J 0,Z ⟨#[]⟩,I J 0,Z ⟨#[]⟩,I J 0,Z ⟨#[]⟩,I J 0,Z ⟨#[]⟩,I J 0,Z ⟨#[]⟩,I J 0,Z ⟨#[]⟩]:Array Value).all (·.oneCell')=true:=all_oneCell_toArray (cs:=[I .u8 0,I .u8 0,I .u8 0,I .u8 0,I .u8 0,I .u8 0,I .u8 0,I .u8 0,I .u8 0,I .u8 0,I .u8 0,I .u8 0,I .u8 0,I .u8 0,I .u8 0,I .u8 0,I .u8 0,I .u8 0,I .u8 0,I .u8 0,I .u8 0,I .u8 0,I .u8 0,I .u8 0,I .u8 0,I .u8 0,I J 0,Z ⟨#[]⟩,I J 0,Z ⟨#[]⟩,I J 0,Z ⟨#[]⟩,I J 0,Z ⟨#[]⟩,I J 0,Z ⟨#[]⟩,I J 0,Z ⟨#[]⟩,I J 0,Z ⟨#[]⟩,I J 0,Z ⟨#[]⟩,I J 0,Z ⟨#[]⟩]) (NP▸NR sv0)
theorem Tryz.sizeSvc:(Tryz.prog.info? 58).map (·.size)=some 44:=by kernel_rfl
theorem wN (h:ay w b bl W F R V) (v:Int) :
  Calls Tryz.prog 139 #[Zp (some ⟨b,0,O⟩),I J v] w fun e w'=>e=Zr (.tuple #[])∧ay w' b bl W F (R.begin_ v) { V with vv:=Y O 0 0 }∧Kp [b] w w':=by
 have f3:=h.free 3;have f5:=h.free 5;have f6:=h.free 6;have f55:=h.free 55;have f56:=h.free 56;have f57:=h.free 57;have f58:=h.free 58;have f59:=h.free 59;have f60:=h.free 60;have f61:=h.free 61;have f62:=h.free 62;have c3:=h.c3;have c5:=h.c5;have c6:=h.c6;have c62:=h.c62;have a0:w.cell? ⟨b,55,O⟩=some _:=h.su 0 (by omega)
 have a1:w.cell? ⟨b,56,O⟩=some _:=h.su 1 (by omega)
 have a2:w.cell? ⟨b,57,O⟩=some _:=h.su 2 (by omega)
 have a3:w.cell? ⟨b,58,O⟩=some _:=h.su 3 (by omega)
 have a4:w.cell? ⟨b,59,O⟩=some _:=h.su 4 (by omega)
 have a5:w.cell? ⟨b,60,O⟩=some _:=h.su 5 (by omega)
 have a6:w.cell? ⟨b,61,O⟩=some _:=h.su 6 (by omega)
 have HS:=ah (((((h.yC v).xu v).iW 1).Au).oP (Y O 0 0) [] (Pms.nil _ _ _));have HK:Hid (Kp [b] w _):=(oM [I J 0,I J 0,I J 0,I J 0,I J 0,I J 0,I J 0] 55 _ w ((((Kp.refl [b] w).set b 5 (I J v) (.inl (by simp))).set b 6 (I J v) (.inl (by simp))).set b 3 (I J 1) (.inl (by simp)))).set b 62 (Y O 0 0) (.inl (by simp))
 go_enter Tryz.func139,Tryz.ntmps139;go_wp2;exact bodyPost_end (results_none rfl _ _ _) rfl ⟨rfl,HS.out,HK.out⟩
theorem Ip (R:Rp) (l:List En):({ ({ R with log:=l }:Rp) with decided:=min R.decided l.length,sv:=svF (l.take (min R.decided l.length)) }:Rp)=R.over l:=rfl
theorem Mi (l:List En) (k:Nat) (hk:k<l.length):svF (l.take (k+1))=lG (svF (l.take k)) l[k]:=by
 unfold svF;rw[List.take_succ_eq_append_getElem hk,List.foldl_append];rfl
theorem pU (h:ay w b bl W F R V) (v:Value) (l:List En) (hv:gW w v l) (hl:nZ R.n l) :
  Calls Tryz.prog 131 #[Zp (some ⟨b,0,O⟩),v] w fun e w'=>e=Zr (.tuple #[])∧Rst w w' b bl W F (R.over l):=by
 have hl10:=hl.1;obtain⟨i0,hi,hz0,hz1,hz2⟩:=info_parts Tryz.infoEnt
 have HO:Hid (∀ u∈aA l,u.oneCell'=true):=fun u hu=>by
  simp only[aA,List.mem_flatMap] at hu;obtain⟨e,_,hu⟩:=hu
  simp at hu;rcases hu with rfl|rfl|rfl <;> rfl
 have HC:Hid (∀ k (hk:k<l.length) (S:Sv) (pre post:List Value) (w:World),pre.length=11→gX w b pre post 63 S→Calls Tryz.prog 157 #[Zp (some ⟨b,11,O⟩),.agg #[I J l[k].1,I J l[k].2.1,Z l[k].2.2]] w fun e w'=>(∃ x,e=Zr x)∧gX w' b pre post 63 (lG S l[k])∧Kp [b] w w'):=fun k hk S pre post w hp hs=>by
  have hE:=hl.2 l[k] (List.getElem_mem _);have r:=vF hs l[k].1 l[k].2.1 l[k].2.2 (by have:=hE.2.2.2.2.2;unfold maxLen;omega) hE.small hE.1 hE.2.1
  rw[hp] at r;exact r.mono (fun e w' q=>⟨⟨_,q.1⟩,q.2.1,q.2.2⟩)
 have HSv:Hid (∀ k (hk:k<l.length),svF (l.take (k+1))=lG (svF (l.take k)) l[k]):=Mi l
 obtain⟨a,cap,rfl,hn1,hm⟩:=hv.shape
 go_enter Tryz.func131,Tryz.ntmps131;go_wp2_with (at_builtin;refine Kl rfl _ _ 47 rfl w.heap.size 66 i0 (.agg #[I J 0,I J 0,Z Ze]) 3 32 Tryz.underlying47 hi hz0 hz1 hz2 rfl (by decide) w _ _ _ (by rfl) (World.ownsRow_nil _ _ _ _) _ l.length (aA l) (by rfl) hv HO.out (by omega) (by omega) (by decide) (Nat.le_refl _) ?_)
 intro v' w1 hown hg1 hb1;have hown':w1.ownsRow w.heap.size 66 3 v' l.length (aA l):=by simpa using hown
 obtain⟨W1,F1,h1,m1,k1⟩:=h.KQ hb1 hown'
 clear hown hg1 hown';obtain⟨a',cap',hv'⟩:=h1.g9
 simp only at hv'
 subst hv';have f9:=(h.below hb1).free 9;have e9:=(h.below hb1).c9;have c9:=h1.c9;have c10:=h1.c10;have f10:=h1.free 10;simp only at c9 c10
 have hwb:=h.wb;by_cases q:l.length<R.decided
 focus
  have q':(l.length:Int)<(R.decided:Int):=by omega
  have hmin:min R.decided l.length=l.length:=by omega
  have HS:=ah (fun n=>((h1.drewN n).tV l.length).L9)
  have HK:Hid (∀ (l':List Value) n,Kp W w ((((w1.setCell ⟨b,9,O⟩ (Y a' l.length cap')).drewN n).setCell ⟨b,10,O⟩ (I J (l.length:Int))).setCells b 11 l')):=fun l' n=>k1.trans' (Kp.wid (nK l' 11 ((Kp.of_below (S:=[b]) (below_drewN (Below.refl _ (w1.setCell ⟨b,9,O⟩ (Y a' l.length cap'))) n)).set b 10 (I J (l.length:Int)) (.inl (by simp)))) (by intro x hx;simp at hx;subst hx;exact hwb))
  have HT:=ah (fun n=>((h1.drewN n).tV l.length).there 11 44 (by omega))
 rotate_left
 focus
  have q':¬(l.length:Int)<(R.decided:Int):=by omega
  have hmin:min R.decided l.length=R.decided:=by omega
  have HS:=ah (fun n=>(h1.drewN n).L9)
  have HK:Hid (∀ (l':List Value) n,Kp W w (((w1.setCell ⟨b,9,O⟩ (Y a' l.length cap')).drewN n).setCells b 11 l')):=fun l' n=>k1.trans' (Kp.wid (nK l' 11 (Kp.of_below (S:=[b]) (below_drewN (Below.refl _ (w1.setCell ⟨b,9,O⟩ (Y a' l.length cap'))) n))) (by intro x hx;simp at hx;subst hx;exact hwb))
  have HT:=ah (fun n=>(h1.drewN n).there 11 44 (by omega))
 rotate_left
 all_goals
  go_wp2_with fail;generalize w1.setCell ⟨b,9,O⟩ (Y a' l.length cap')=w2 at *;go_quiet (fail);rename_i nq;go_wp2_with (refine wpList_store_mid rfl 58 (.tmp 31) (.tmp 29) (by rfl) b 11 #[I .u8 0,I .u8 0,I .u8 0,I .u8 0,I .u8 0,I .u8 0,I .u8 0,I .u8 0,I .u8 0,I .u8 0,I .u8 0,I .u8 0,I .u8 0,I .u8 0,I .u8 0,I .u8 0,I .u8 0,I .u8 0,I .u8 0,I .u8 0,I .u8 0,I .u8 0,I .u8 0,I .u8 0,I .u8 0,I .u8 0,I J 0,Z ⟨#[]⟩,I J 0,Z ⟨#[]⟩,I J 0,Z ⟨#[]⟩,I J 0,Z ⟨#[]⟩,I J 0,Z ⟨#[]⟩,I J 0,Z ⟨#[]⟩,I J 0,Z ⟨#[]⟩,I J 0,Z ⟨#[]⟩,I J 0,Z ⟨#[]⟩] (by rfl) (by rfl) (HT.out nq) Tryz.sizeSvc NQ ?_)
  go_wp2_with fail
 ·go_loopw [4] (fun i wr=>∃ k:Nat,k≤l.length∧i=I J k∧ay wr b bl W1 F1 { R with log:=l,decided:=l.length,sv:=svF (l.take k) } { V with vL:=Y a' l.length cap' }∧Kp W w wr) (fun i _=>l.length-(intOf i).toNat)
  case atStart=>exact⟨0,Nat.zero_le _,rfl,HS.out nq,HK.out _ nq⟩
  case round =>
   obtain⟨k,hk,rfl,hr,hkr⟩:=hrel
   have d10:=hr.c10;have d9:=hr.c9;simp only at d9 d10
   by_cases hlt:k<l.length
   ·have hkl:k<l.length:=by omega
    have hE:=hr.ents;simp only at hE
    obtain⟨be,oe,hae,hbe,e0,e1,e2⟩:=hE.get k hkl
    subst hae;have j1:(0:Int)≤(k:Int):=by omega
    have j2:(k:Int)<(l.length:Int):=by omega
    have j3:(k:Int)<(l.length:Int):=by omega
    have HCk:=ah (HC.out k hkl _ _ _ wr.drew rfl (hr.below (Below.refl _ _).drew).sv);go_wp2_with fail;go_region_with (go_at_call 157;refine HCk.out.mono ?_;rintro e w3 ⟨⟨x,rfl⟩,hs3,k3⟩)
    all_goals
     have hr3:=(hr.below (Below.refl _ _).drew).L8 hs3 k3;have hk3:Kp W w w3:=(hkr.aS (Below.refl _ _).drew).trans' (k3.wid (by intro x hx;simp at hx;subst hx;exact hwb))
     have HR3:=ah hr3;clear hr3 hs3 k3;go_wp2;go_roundw
     case rel=>exact⟨k+1,by omega,by go_num,by rw[HSv.out k hkl];exact HR3.out,hk3⟩
     case measure=>simp[intOf];omega
   ·obtain rfl:k=l.length:=by omega
    have HF:=ah hr;go_wp2;exact bodyPost_end (results_none rfl _ _ _) rfl ⟨rfl,W1,F1,_,by rw[← Ip,hmin];exact HF.out,hkr,m1⟩
 ·go_loopw [4] (fun i wr=>∃ k:Nat,k≤R.decided∧i=I J k∧ay wr b bl W1 F1 { R with log:=l,decided:=R.decided,sv:=svF (l.take k) } { V with vL:=Y a' l.length cap' }∧Kp W w wr) (fun i _=>R.decided-(intOf i).toNat)
  case atStart=>exact⟨0,Nat.zero_le _,rfl,HS.out nq,HK.out _ nq⟩
  case round =>
   obtain⟨k,hk,rfl,hr,hkr⟩:=hrel
   have d10:=hr.c10;have d9:=hr.c9;simp only at d9 d10
   by_cases hlt:k<R.decided
   ·have hkl:k<l.length:=by omega
    have hE:=hr.ents;simp only at hE
    obtain⟨be,oe,hae,hbe,e0,e1,e2⟩:=hE.get k hkl
    subst hae;have j1:(0:Int)≤(k:Int):=by omega
    have j2:(k:Int)<(l.length:Int):=by omega
    have j3:(k:Int)<(R.decided:Int):=by omega
    have HCk:=ah (HC.out k hkl _ _ _ wr.drew rfl (hr.below (Below.refl _ _).drew).sv);go_wp2_with fail;go_region_with (go_at_call 157;refine HCk.out.mono ?_;rintro e w3 ⟨⟨x,rfl⟩,hs3,k3⟩)
    all_goals
     have hr3:=(hr.below (Below.refl _ _).drew).L8 hs3 k3;have hk3:Kp W w w3:=(hkr.aS (Below.refl _ _).drew).trans' (k3.wid (by intro x hx;simp at hx;subst hx;exact hwb))
     have HR3:=ah hr3;clear hr3 hs3 k3;go_wp2;go_roundw
     case rel=>exact⟨k+1,by omega,by go_num,by rw[HSv.out k hkl];exact HR3.out,hk3⟩
     case measure=>simp[intOf];omega
   ·obtain rfl:k=R.decided:=by omega
    have HF:=ah hr;go_wp2;exact bodyPost_end (results_none rfl _ _ _) rfl ⟨rfl,W1,F1,_,by rw[← Ip,hmin];exact HF.out,hkr,m1⟩
end
section
variable {w:World} {b bl:Nat} {W F:List Nat} {R:Rp} {V:Rv}
theorem dM.cells {P:Pm} {vl vg vo vL:Value} (h:dM w W F P vl vg vo vL):∃ al cl ag cg ao co aL cL,vl=Y al P.lives.length cl∧vg=Y ag P.grp.length cg∧vo=Y ao P.old.length co∧vL=Y aL P.log.length cL:=by
 obtain⟨al,cl,h1,_⟩:=h.lives.shape
 obtain⟨ag,cg,h2,_⟩:=h.grp.shape
 obtain⟨ao,co,h3,_⟩:=h.old.shape
 obtain⟨aL,cL,h4,_⟩:=h.log.shape
 exact⟨al,cl,ag,cg,ao,co,aL,cL,h1,h2,h3,h4⟩
theorem JR (h:ay w b bl W F R V) (P:Pm) (vl vg vo vL:Value) (hP:dM w W F P vl vg vo vL) :
  Calls Tryz.prog 130 #[Zp (some ⟨b,0,O⟩),.agg (pmC P vl vg vo vL)] w fun e w'=>e=Zr (.tuple #[])∧ay w' b bl W F (R.enter P) { V with vg:=vg,vo:=vo,vv:=Y O 0 0 }∧Kp [b] w w':=by
 obtain⟨al,cl,ag,cg,ao,co,aL,cL,rfl,rfl,rfl,rfl⟩:=hP.cells
 have hlb:=h.lb;have HB:Hid (∀ (w:World) (R:Rp) (V:Rv),ay w b bl W F R V→Calls Tryz.prog 139 #[Zp (some ⟨b,0,O⟩),I J P.view] w fun e w'=>e=Zr (.tuple #[])∧ay w' b bl W F (R.begin_ P.view) { V with vv:=Y O 0 0 }∧Kp [b] w w'):=fun w R V h=>wN h P.view
 have HE:Hid (({ R with epoch:=P.epoch,grp:=P.grp,old:=P.old }:Rp).begin_ P.view=R.enter P):=rfl
 have c4:=h.c4;have c7:=h.c7;have c8:=h.c8;have f4:=h.free 4;have f7:=h.free 7;have f8:=h.free 8;have h3:=((h.Av P.epoch).LX _ P.grp (hP.grp.kp (h.qo 4 (I J P.epoch)) hP.sg.fr) hP.sg);have h4':=h3.LY _ P.old ((hP.old.kp (h.qo 4 (I J P.epoch)) hP.so.fr).kp ((h.Av P.epoch).qo 7 _) hP.so.fr) hP.so
 have hbS:=(Below.refl _ (((w.setCell ⟨b,4,O⟩ (I J P.epoch)).setCell ⟨b,7,O⟩ (Y ag P.grp.length cg)).setCell ⟨b,8,O⟩ (Y ao P.old.length co))).alloc (Nat.le_refl _) (.cells (pqC P al cl ag cg ao co aL cL) 68);have h4:=h4'.below hbS;have k4:Kp [b] w ((((w.setCell ⟨b,4,O⟩ (I J P.epoch)).setCell ⟨b,7,O⟩ (Y ag P.grp.length cg)).setCell ⟨b,8,O⟩ (Y ao P.old.length co)).alloc (.cells (pqC P al cl ag cg ao co aL cL) 68)):=((((Kp.refl [b] w).set b 4 _ (.inl (by simp))).set b 7 _ (.inl (by simp))).set b 8 _ (.inl (by simp))).alloc _
 have HB1:=ah (HB.out _ _ _ h4);have HK4:=ah k4;clear h3 h4 h4' k4 h hP hbS;simp only[pmC];go_enter Tryz.func130,Tryz.ntmps130;go_wp2_with fail;refine HB1.out.mono ?_;rintro e w2 ⟨rfl,h5,k5⟩;have H5:=ah h5;have HK5:=ah (HK4.out.trans' k5);clear h5 k5;go_wp2;exact bodyPost_end (results_none rfl _ _ _) rfl ⟨rfl,by rw[← HE.out];exact H5.out,HK5.out⟩
theorem jD (h:ay w b bl W F R V) :
  Calls Tryz.prog 24 #[Zp (some ⟨b,0,O⟩)] w fun e w'=>e=Zr V.vt∧l9 w' 0 V.vt R.out∧Kp [b] w w'∧∃ W' F',ay w' b bl W' F' { R with out:=[] } { V with vt:=Y O 0 0 }∧(∀ x∈W',x∈W)∧(∀ x∈F',x∈F)∧Fr F' V.vt:=by
 have c71:=h.c71;obtain⟨a,cap,hvt⟩:=h.g71
 have f71:=h.free 71;have k1:Kp [b] w (w.setCell ⟨b,71,O⟩ (Y O 0 0)):=(Kp.refl _ _).set b 71 _ (.inl (by simp))
 have HO:=ah (fq h.out k1 (Fr.iE h.out h.block (by decide)))
 have HN:Hid (∃ W' F',ay (w.setCell ⟨b,71,O⟩ (Y O 0 0)) b bl W' F' { R with out:=[] } { V with vt:=Y O 0 0 }∧(∀ x∈W',x∈W)∧(∀ x∈F',x∈F)∧Fr F' V.vt):=by
  obtain⟨c,z,q⟩:=kY h.lives
  refine⟨W.filter (fun x=>decide (some x≠V.vt.ownBlock)),F.filter (fun x=>decide (some x≠V.vt.ownBlock)),?_,fun x hx=>(List.mem_filter.1 hx).1,fun x hx=>(List.mem_filter.1 hx).1,fun k hk hc=>by simpa [hk] using (List.mem_filter.1 hc).2⟩
  have hs:∀ x∈W.filter (fun x=>decide (some x≠V.vt.ownBlock)),x∈W:=fun x hx=>(List.mem_filter.1 hx).1
  have sl:∀ {v:Value},Sl W F v→Sl (W.filter (fun x=>decide (some x≠V.vt.ownBlock))) (F.filter (fun x=>decide (some x≠V.vt.ownBlock))) v:=fun s=>⟨s.fr.sub hs,fun k hk=>List.mem_filter.2 ⟨s.inn k hk,by simpa using fun hc:some k=V.vt.ownBlock=>s.fr k hk (h.wt k hc.symm)⟩⟩
  have pa:∀ {P:Pm} {cs:List Value},gV w W F P cs→gV w (W.filter (fun x=>decide (some x≠V.vt.ownBlock))) (F.filter (fun x=>decide (some x≠V.vt.ownBlock))) P cs:=by
   rintro P cs ⟨vl,vg,vo,vL,rfl,p⟩;exact⟨vl,vg,vo,vL,rfl,p.lives,p.grp,p.old,p.log,sl p.sl,sl p.sg,sl p.so,sl p.sL⟩
  have pms:∀ {v:Value} {l:List Pm},Pms w W F v l→Pms w (W.filter (fun x=>decide (some x≠V.vt.ownBlock))) (F.filter (fun x=>decide (some x≠V.vt.ownBlock))) v l:=by
   rintro v l ⟨s,xs,r,c⟩;exact⟨sl s,xs,r,c.mono (fun _ _=>pa)⟩
  have kW:Kp (W.filter (fun x=>decide (some x≠V.vt.ownBlock))) w (w.setCell ⟨b,71,O⟩ (Y O 0 0)):=k1.wid (fun x hx=>by
   simp at hx;subst hx;exact List.mem_filter.2 ⟨h.wb,by simpa using mJ h.out h.block (by decide)⟩)
  refine⟨by have q:=h.sv.rR 16 (Y O 0 0);rw[xM h.ak h.st] at q;exact q,h.ak,h.st,h.lives.kp k1 (by simp;exact fun hc=>h.d1 hc.symm),fq h.log k1 (Fr.iE h.log h.block (by decide)),l9.nil _ _,
   h.grp.kp kW (sl h.sg).fr,h.old.kp kW (sl h.so).fr,(pms h.aI).kp kW,(pms h.answers).kp kW,sl h.sg,sl h.so,List.mem_filter.2 ⟨h.wb,by simpa using mJ h.out h.block (by decide)⟩,List.mem_filter.2 ⟨h.wl,by simpa using mJ h.out q (by decide)⟩,?_,In.nil _ _ _,fun x hx=>List.mem_filter.2 ⟨h.wf x (hs x hx),(List.mem_filter.1 hx).2⟩,fun x hx=>Nat.lt_of_lt_of_le (h.fl x (List.mem_filter.1 hx).1) k1.size,h.tab.kp k1 (by simp;exact fun hc=>h.t0 (h.wf 0 (hc▸h.wb))),fun hc=>h.t0 (List.mem_filter.1 hc).1⟩
  intro k hk;exact List.mem_filter.2 ⟨h.wL k hk,by simpa using fun hc:some k=V.vt.ownBlock=>Fr.uP h.log h.out (by decide) k hk (by rw[← hc];simp)⟩
 have HV:Hid (Zr V.vt=Zr (Y a R.out.length cap)):=by unfold Hid;rw[hvt]
 rw[hvt] at c71;go_enter Tryz.func24,Tryz.ntmps24;go_wp2;go_ret;exact⟨HV.out.symm,HO.out,k1,HN.out⟩
end
theorem Tryz.infoMsg:(Tryz.prog.info? 68).map (fun i=>(i.zero,i.size,i.bytes))=some (some (.agg #[I .u8 0,I J 0,Y O 0 0,I J 0,I J 0,I J 0,I J 0,I J 0,Z Ze,I J 0,I J 0,I J 0,Y O 0 0,Y O 0 0,Y O 0 0]),15,192):=by kernel_rfl
theorem Sl.fresh {w w':World} {v:Value} {n:Nat} {xs:List Value} {e:TypeId} {size:Nat} {b bl:Nat} {W F:List Nat} {R:Rp} {V:Rv} (h:ay w b bl W F R V) (hb:Below w.heap.size w w') (ho:w'.ownsRow w.heap.size e size v n xs) :
  ∃ F',ay w' b bl W F' R V∧Sl W F' v∧Mv w W F W F':=by
 rcases ho.2 with ⟨rfl,_⟩|⟨g,cap,cur,rfl,q1,q2,q3⟩
 ·exact⟨F,h.below hb,Sl.nil _ _,Mv.refl _ _ _⟩
 ·have h1:=h.below hb;have hlt:=lt_of_block q2;have h0:g≠0:=by have:=h.lb;omega
  refine⟨g :: F,h1.more (fun x hx=>List.mem_cons_of_mem _ hx) (fun x hx=>?_) ?_,⟨fun k hk hc=>?_,fun k hk=>?_⟩,⟨fun x hx=>.inl hx,fun x hx=>List.mem_cons_of_mem _ hx,fun x hx=>?_⟩⟩
  ·rcases List.mem_cons.1 hx with rfl|hx
   ·exact hlt
   ·exact h1.fl x hx
  ·simp;exact⟨fun hc=>h0 hc.symm,h.t0⟩
  ·simp[Value.ownBlock] at hk;subst hk;have:=h.wlt _ hc;omega
  ·simp[Value.ownBlock] at hk;subst hk;simp
  ·rcases List.mem_cons.1 hx with rfl|hx
   ·exact .inr q1
   ·exact .inl hx
def tL (ms:List Pm) (P:Pm) (k:Nat):List Pm:=(ms.take k).map (fun x=>if x.frm==P.frm then P else x)
def uz (ms:List Pm) (P:Pm) (k:Nat):Bool:=(ms.take k).any (fun x=>x.frm==P.frm)
theorem JL {ms:List Pm} {P:Pm} {k:Nat} (h:k<ms.length):tL ms P (k+1)=tL ms P k++[if (ms[k].frm==P.frm)=true then P else ms[k]]:=by
 unfold tL;rw[List.take_succ_eq_append_getElem h,List.map_append];rfl
theorem I6 {ms:List Pm} {P:Pm} {k:Nat} (h:k<ms.length):uz ms P (k+1)=(uz ms P k||(ms[k].frm==P.frm)):=by
 unfold uz;rw[List.take_succ_eq_append_getElem h,List.any_append];simp
theorem LC {ms:List Pm} {P:Pm} {k:Nat} (h:k≤ms.length):(tL ms P k).length=k:=by unfold tL;simp;omega
theorem Jh {ms:List Pm} {P:Pm} (h:uz ms P ms.length=false):aQ ms P=tL ms P ms.length++[P]:=by
 unfold uz at h;rw[List.take_length] at h;unfold aQ tL;rw[List.take_length,h];have:ms.map (fun x=>if x.frm==P.frm then P else x)=ms:=by
  conv=>rhs;rw[← List.map_id ms]
  apply List.map_congr_left
  intro x hx;rw[List.any_eq_false] at h;rw[if_neg (h x hx)];rfl
 rw[this];rfl
theorem Ji {ms:List Pm} {P:Pm} (h:uz ms P ms.length=true):aQ ms P=tL ms P ms.length:=by
 unfold uz at h;rw[List.take_length] at h;unfold aQ tL;rw[List.take_length,h];rfl
theorem Pms.ys {w:World} {W F:List Nat} {a:Option Addr} {n cap:Nat} {l:List Pm} (h:Pms w W F (Y a n cap) l) (k:Nat) (hk:k<l.length) :
  ∃ b off al cl ag cg ao co aL cL,a=some ⟨b,off,O⟩∧dM w W F l[k] (Y al l[k].lives.length cl) (Y ag l[k].grp.length cg) (Y ao l[k].old.length co) (Y aL l[k].log.length cL) ∧
   ∀ j u,(#[I .u8 l[k].kind,I J l[k].frm,Y al l[k].lives.length cl,I J l[k].epoch,I J l[k].view,I J l[k].place,I J l[k].ent.1,I J l[k].ent.2.1,Z l[k].ent.2.2,I J l[k].commit,I J l[k].normal,I J l[k].life,Y ag l[k].grp.length cg,Y ao l[k].old.length co,Y aL l[k].log.length cL]:Array Value)[j]? = some u→w.cell? ⟨b,off+k*15+j,O⟩=some u:=by
 obtain⟨b,off,vl,vg,vo,vL,rfl,_,hp,hc⟩:=h.get k hk
 obtain⟨al,cl,ag,cg,ao,co,aL,cL,rfl,rfl,rfl,rfl⟩:=hp.cells
 exact⟨b,off,al,cl,ag,cg,ao,co,aL,cL,rfl,hp,hc⟩
def l8 (w w':World) (base:Nat) (W F:List Nat) (v:Value) (l:List Pm):Prop:=∃ xs,w'.ownsRow base 68 15 v l.length xs∧Rws (gV w W F) l xs
theorem l8.rep {w w':World} {base b bl:Nat} {W F:List Nat} {R:Rp} {V:Rv} {v:Value} {l:List Pm} (h:ay w b bl W F R V) (hb:Below w.heap.size w w') (m:l8 w w' base W F v l) (hbs:w.heap.size≤base) :
  ∃ F',ay w' b bl W F' R V∧Pms w' W F' v l∧Mv w W F W F':=by
 obtain⟨xs,ho,hr⟩:=m
 obtain⟨F',h1,h2,h3⟩:=Sl.fresh h hb (eU ho hbs)
 exact⟨F',h1,⟨h2,xs,Rd.bR ho,hr.mono (fun P cs q=>q.mv (Kp.of_below hb) h3)⟩,h3⟩
theorem tQ (v:Value) (ms:List Pm) (P:Pm) (vl vg vo vL:Value) (W F:List Nat) (w:World) (hv:Pms w W F v ms) (hl:ms.length≤1000000) (hm:dM w W F P vl vg vo vL) :
  Calls Tryz.prog 79 #[v,.agg (pmC P vl vg vo vL)] w fun e w'=>∃ v',e=Zr v'∧l8 w w' (w.heap.size+1) W F v' (aQ ms P)∧Below w.heap.size w w':=by
 obtain⟨i0,hi,hz0,hz1,hz2⟩:=info_parts Tryz.infoMsg
 obtain⟨a,cap,rfl,hn1,hmx⟩:=hv.shape
 obtain⟨al,cl,ag,cg,ao,co,aL,cL,rfl,rfl,rfl,rfl⟩:=hm.cells
 have HM:Hid (gV w W F P [I .u8 P.kind,I J P.frm,Y al P.lives.length cl,I J P.epoch,I J P.view,I J P.place,I J P.ent.1,I J P.ent.2.1,Z P.ent.2.2,I J P.commit,I J P.normal,I J P.life,Y ag P.grp.length cg,Y ao P.old.length co,Y aL P.log.length cL]):=⟨_,_,_,_,rfl,hm⟩
 have HPs:Hid (∀ k (hk:k<ms.length),tL ms P (k+1)=tL ms P k++[if (ms[k].frm==P.frm)=true then P else ms[k]]):=fun k hk=>JL hk
 have HFs:Hid (∀ k (hk:k<ms.length),uz ms P (k+1)=(uz ms P k||(ms[k].frm==P.frm))):=fun k hk=>I6 hk
 have HJf:Hid (uz ms P ms.length=false→aQ ms P=tL ms P ms.length++[P]):=Jh
 have HJt:Hid (uz ms P ms.length=true→aQ ms P=tL ms P ms.length):=Ji
 have HLn:Hid ((tL ms P ms.length).length=ms.length):=LC (Nat.le_refl _)
 clear hm;simp only[pmC];go_enter Tryz.func79,Tryz.ntmps79;go_wp2_with fail;go_loopw [5,6,7] (fun out fd i wr=>∃ (k:Nat) (xs:List Value),k≤ms.length∧i=I J k∧fd=.bool (!(uz ms P k))∧wr.ownsRow (w.heap.size+1) 68 15 out k xs∧Rws (gV w W F) (tL ms P k) xs ∧
   dw wr w.heap.size (pqC P al cl ag cg ao co aL cL)∧Below w.heap.size w wr) (fun _ _ i _=>ms.length-(intOf i).toNat)
 case atStart=>exact⟨0,[],Nat.zero_le _,rfl,rfl,World.ownsRow_nil _ _ _ _,rfl,⟨rfl,heap_alloc_new _ _⟩,(Below.refl _ _).alloc (Nat.le_refl _) _⟩
 case round =>
  obtain⟨k,xs,hk,rfl,rfl,hown,hxs,hbox,hb⟩:=hrel
  have HXS:=ah hxs;clear hxs;by_cases hlt:k<ms.length
  ·obtain⟨b,off,al2,cl2,ag2,cg2,ao2,co2,aL2,cL2,rfl,hp2,hc2⟩:=hv.ys k hlt
   have j1:(0:Int)≤(k:Int):=by omega
   have j2:(k:Int)<(ms.length:Int):=by omega
   have hS:gV w W F ms[k] [I .u8 ms[k].kind,I J ms[k].frm,Y al2 ms[k].lives.length cl2,I J ms[k].epoch,I J ms[k].view,I J ms[k].place,I J ms[k].ent.1,I J ms[k].ent.2.1,Z ms[k].ent.2.2,I J ms[k].commit,I J ms[k].normal,I J ms[k].life,Y ag2 ms[k].grp.length cg2,Y ao2 ms[k].old.length co2,Y aL2 ms[k].log.length cL2]:=⟨_,_,_,_,rfl,hp2⟩
   have HSc:=ah hS;have HPk:=ah (HPs.out k hlt);have HFk:=ah (HFs.out k hlt);have hbb:b<w.heap.size:=by
    obtain⟨xs',hrd,_⟩:=hv.rd
    exact hrd.lt b rfl
   clear hS hp2;have hc3:∀ j u,(#[I .u8 ms[k].kind,I J ms[k].frm,Y al2 ms[k].lives.length cl2,I J ms[k].epoch,I J ms[k].view,I J ms[k].place,I J ms[k].ent.1,I J ms[k].ent.2.1,Z ms[k].ent.2.2,I J ms[k].commit,I J ms[k].normal,I J ms[k].life,Y ag2 ms[k].grp.length cg2,Y ao2 ms[k].old.length co2,Y aL2 ms[k].log.length cL2]:Array Value)[j]? = some u→wr.cell? ⟨b,off+k*15+j,O⟩=some u:=fun j u q=>(hb.cell (p:=⟨b,off+k*15+j,O⟩) hbb).trans (hc2 j u q)
   clear hc2;generalize uz ms P k=fk at *;generalize ms[k]=s at *;obtain⟨x0,x1,x2,x3,x4,x5,x6,x7,x8,x9,x10,x11,x12,x13,x14,xf⟩:=hbox.all
   have y1:=hc3 1 _ rfl;cases hq:(s.frm==P.frm)
   focus
    go_wp2_with fail;go_quiet (fail);rename_i nq;clear x0 x1 x2 x3 x4 x5 x6 x7 x8 x9 x10 x11 x12 x13 x14 xf y1
   rotate_left
   focus
    go_wp2_with fail;go_quiet (fail);rename_i nq;clear x0 x1 x2 x3 x4 x5 x6 x7 x8 x9 x10 x11 x12 x13 x14 xf y1 hc3
   rotate_left
   all_goals
    have hbq:Below wr.heap.size wr (wr.drewN nq):=below_drewN (Below.refl _ wr) nq
    have hbox2:dw (wr.drewN nq) w.heap.size (pqC P al cl ag cg ao co aL cL):=hbox.kp (S:=[]) (Kp.of_below hbq) (by simp)
    have hown2:=bU hown hbq;have hb2:=hb.trans (hbq.mono hb.size)
   focus
    have hc4:∀ j u,(#[I .u8 s.kind,I J s.frm,Y al2 s.lives.length cl2,I J s.epoch,I J s.view,I J s.place,I J s.ent.1,I J s.ent.2.1,Z s.ent.2.2,I J s.commit,I J s.normal,I J s.life,Y ag2 s.grp.length cg2,Y ao2 s.old.length co2,Y aL2 s.log.length cL2]:Array Value)[j]? = some u→(wr.drewN nq).cell? ⟨b,off+k*15+j,O⟩=some u:=fun j u q=>(hbq.cell (p:=⟨b,off+k*15+j,O⟩) (Nat.lt_of_lt_of_le hbb hb.size)).trans (hc3 j u q)
    clear hc3 hown hb hbox hbq;generalize wr.drewN nq=wq at *;have hbz:=lt_of_block hbox2.2;have hbne:¬w.heap.size=wq.heap.size:=by omega
    have y0:=hc4 0 _ rfl;have y1:=hc4 1 _ rfl;have y2:=hc4 2 _ rfl;have y3:=hc4 3 _ rfl;have y4:=hc4 4 _ rfl;have y5:=hc4 5 _ rfl;have y6:=hc4 6 _ rfl;have y7:=hc4 7 _ rfl;have y8:=hc4 8 _ rfl;have y9:=hc4 9 _ rfl;have y10:=hc4 10 _ rfl;have y11:=hc4 11 _ rfl;have y12:=hc4 12 _ rfl;have y13:=hc4 13 _ rfl;have y14:=hc4 14 _ rfl;simp only[Nat.add_zero] at y0;clear hc4;go_wp2_with (at_builtin;go_loud (refine DR rfl _ _ 60 rfl (w.heap.size+1) 68 i0 _ 15 192 Tryz.underlying60 hi hz0 hz1 hz2 rfl (by decide) wq wq.heap.size rfl _ _ _ (by rfl) hown2 1 [I .u8 s.kind,I J s.frm,Y al2 s.lives.length cl2,I J s.epoch,I J s.view,I J s.place,I J s.ent.1,I J s.ent.2.1,Z s.ent.2.2,I J s.commit,I J s.normal,I J s.life,Y ag2 s.grp.length cg2,Y ao2 s.old.length co2,Y aL2 s.log.length cL2] (by rfl) rfl ?c8 (by omega) (by decide) (by omega) ?_))
    case c8=>intro u hu;simp at hu;rcases hu with rfl|rfl|rfl|rfl|rfl|rfl|rfl|rfl|rfl|rfl|rfl|rfl|rfl|rfl|rfl <;> rfl
   rotate_left
   focus
    clear hown hb hbox hbq;generalize wr.drewN nq=wq at *;have hbz:=lt_of_block hbox2.2;have hbne:¬w.heap.size=wq.heap.size:=by omega
    obtain⟨x0,x1,x2,x3,x4,x5,x6,x7,x8,x9,x10,x11,x12,x13,x14,xf⟩:=hbox2.all
    go_wp2_with (at_builtin;go_loud (refine DR rfl _ _ 60 rfl (w.heap.size+1) 68 i0 _ 15 192 Tryz.underlying60 hi hz0 hz1 hz2 rfl (by decide) wq wq.heap.size rfl _ _ _ (by rfl) hown2 1 [I .u8 P.kind,I J P.frm,Y al P.lives.length cl,I J P.epoch,I J P.view,I J P.place,I J P.ent.1,I J P.ent.2.1,Z P.ent.2.2,I J P.commit,I J P.normal,I J P.life,Y ag P.grp.length cg,Y ao P.old.length co,Y aL P.log.length cL] (by rfl) rfl ?c8 (by omega) (by decide) (by omega) ?_))
    case c8=>intro u hu;simp at hu;rcases hu with rfl|rfl|rfl|rfl|rfl|rfl|rfl|rfl|rfl|rfl|rfl|rfl|rfl|rfl|rfl <;> rfl
   rotate_left
   all_goals
    intro v3 w3 hown3 hg3 hb3 _;have hb03:Below w.heap.size w w3:=hb2.trans (hb3.mono (by omega))
    have hbox3:dw w3 w.heap.size (pqC P al cl ag cg ao co aL cL):=⟨rfl,(hg3.block w.heap.size (by omega) (fun hc=>by have:=(hown2.lt _ hc.symm).1;omega)).trans hbox2.2⟩
   ·clear y0 y1 y2 y3 y4 y5 y6 y7 y8 y9 y10 y11 y12 y13 y14 hown2 hb2 hb3 hg3 hbox2;go_wp2;go_roundw
    case rel=>exact⟨k+1,_,by omega,by go_num,by rw[HFk.out,hq];simp,hown3,by rw[HPk.out,hq];exact HXS.out.app (Rws.one HSc.out),hbox3,hb03⟩
    case measure=>simp[intOf];omega
   ·clear x0 x1 x2 x3 x4 x5 x6 x7 x8 x9 x10 x11 x12 x13 x14 xf hown2 hb2 hb3 hg3 hbox2;go_wp2;go_roundw
    case rel=>exact⟨k+1,_,by omega,by go_num,by rw[HFk.out,hq];simp,hown3,by rw[HPk.out,hq];exact HXS.out.app (Rws.one HM.out),hbox3,hb03⟩
    case measure=>simp[intOf];omega
  ·have hke:k=ms.length:=by omega
   subst hke;obtain⟨x0,x1,x2,x3,x4,x5,x6,x7,x8,x9,x10,x11,x12,x13,x14,xf⟩:=hbox.all
   have hbz:=lt_of_block hbox.2;cases hf:uz ms P ms.length
   ·have HJ:=ah (HJf.out hf);go_wp2_with (at_builtin;go_loud (refine DR rfl _ _ 60 rfl (w.heap.size+1) 68 i0 _ 15 192 Tryz.underlying60 hi hz0 hz1 hz2 rfl (by decide) wr wr.heap.size rfl _ _ _ (by rfl) hown 1 [I .u8 P.kind,I J P.frm,Y al P.lives.length cl,I J P.epoch,I J P.view,I J P.place,I J P.ent.1,I J P.ent.2.1,Z P.ent.2.2,I J P.commit,I J P.normal,I J P.life,Y ag P.grp.length cg,Y ao P.old.length co,Y aL P.log.length cL] (by rfl) rfl ?c8 (by omega) (by decide) (by omega) ?_))
    case c8=>intro u hu;simp at hu;rcases hu with rfl|rfl|rfl|rfl|rfl|rfl|rfl|rfl|rfl|rfl|rfl|rfl|rfl|rfl|rfl <;> rfl
    intro v3 w3 hown3 hg3 hb3 _;have hb03:Below w.heap.size w w3:=hb.trans (hb3.mono (by omega))
    go_wp2;go_ret;refine⟨v3,rfl,⟨xs++[I .u8 P.kind,I J P.frm,Y al P.lives.length cl,I J P.epoch,I J P.view,I J P.place,I J P.ent.1,I J P.ent.2.1,Z P.ent.2.2,I J P.commit,I J P.normal,I J P.life,Y ag P.grp.length cg,Y ao P.old.length co,Y aL P.log.length cL],?_,?_⟩,hb03⟩
    ·rw[HJ.out,List.length_append,HLn.out];exact hown3
    ·rw[HJ.out];exact HXS.out.app (Rws.one HM.out)
   ·have HJ:=ah (HJt.out hf);go_wp2;go_ret;refine⟨_,rfl,⟨xs,?_,?_⟩,hb⟩
    ·rw[HJ.out,HLn.out];exact hown
    ·rw[HJ.out];exact HXS.out
def JG (s:ByteArray):List Int:=if (s.toList==[45])=true then [] else dA s
structure PmR (n:Int) (m:Sd) (P:Pm):Prop where
 frm:P.frm=m.frm
 lives:P.lives=m.lives
 epoch:P.epoch=m.epoch
 view:P.view=m.view
 p:m.kind.toList=[112]→P.place=nmB m∧P.ent=dX (m.w.getD 6 Ze) n∧P.commit=m.commit
 k:m.kind.toList=[107]→P.place=nmB m
 c:m.kind.toList=[99]→P.commit=m.commit
 v:m.kind.toList=[118]→P.normal=nmB m∧P.commit=m.commit∧P.log=gH m.log n
 s:m.kind.toList=[115]→P.grp=dA (m.w.getD 5 Ze)∧P.old=JG (m.w.getD 6 Ze)∧P.commit=m.commit∧P.log=gH m.log n
 a:m.kind.toList=[97]→P.life=nmB m∧P.grp=dA (m.w.getD 6 Ze)∧P.old=JG (m.w.getD 7 Ze)∧P.commit=m.commit∧P.log=gH m.log n
structure qp (n:Int) (ws:List ByteArray) (P:Pm):Prop where
 kind:∃ b:UInt8,(ws.getD 0 Ze).toList=[b]∧P.kind=b.toNat
 rep:qH (ws.getD 0 Ze)=true→PmR n (fu ws) P
 q:(ws.getD 0 Ze).toList=[113]→P.ent=(aF (ws.getD 1 Ze).data.toList,aF (ws.getD 2 Ze).data.toList,ws.getD 3 Ze)
 m:(ws.getD 0 Ze).toList=[109]→P.epoch=aF (ws.getD 3 Ze).data.toList∧P.ent=(aF (ws.getD 1 Ze).data.toList,aF (ws.getD 2 Ze).data.toList,⟨#[114]⟩++ws.getD 4 Ze)
def lU (ws:List ByteArray) (n:Int):Bool:=decide (0<(bG (ws.getD 0 Ze)).size)&&(decide (ws.length=(bG (ws.getD 0 Ze)).size+1)&&BJ ws (bG (ws.getD 0 Ze)) n (bG (ws.getD 0 Ze)).size)
theorem qW (s:ByteArray) (n:Int):aZ s n=if 400<s.size then [] else if lU (bP s 32) n=true then bP s 32 else []:=by
 unfold aZ lU;by_cases h4:400<s.size
 ·rw[if_pos h4,if_pos h4]
 ·rw[if_neg h4,if_neg h4];dsimp only;generalize bP s 32=ws;by_cases h5:(bG (ws.getD 0 Ze)).size=0
  ·rw[if_pos h5,if_neg (by rw[h5];simp)]
  ·rw[if_neg h5];by_cases h6:ws.length=(bG (ws.getD 0 Ze)).size+1
   ·rw[if_neg (by simpa using h6)]
    by_cases h7:BJ ws (bG (ws.getD 0 Ze)) n (bG (ws.getD 0 Ze)).size=true
    ·rw[if_pos h7,if_pos (by rw[h7,decide_eq_true (by omega),decide_eq_true h6];rfl)]
    ·rw[if_neg h7,if_neg (by simp only[Bool.and_eq_true];exact fun q=>h7 q.2.2)]
   ·rw[if_pos h6,if_neg (by simp only[Bool.and_eq_true,decide_eq_true_eq];exact fun q=>h6 q.2.1)]
def xg (ws:List ByteArray):List (ByteArray→Bool)→Nat→Bool→Nat×Bool
 | [],nx,wr=>(nx,wr)
 | f :: l,nx,wr=>xg ws l (nxt ws nx) (wr||!f (wrd ws nx))
def vM (ws:List ByteArray):List (ByteArray→Bool)→Nat→Prop
 | [],_=>True
 | f :: l,nx=>f (wrd ws nx)=true∧vM ws l (nx+1)
theorem Ck (ws:List ByteArray):∀ (l:List (ByteArray→Bool)) (nx:Nat),(xg ws l nx true).2=true
 | [],_=>rfl
 | f :: l,nx=>by unfold xg;rw[Bool.true_or];exact Ck ws l _
theorem nx_ok {ws:List ByteArray} {nx:Nat} {f:ByteArray→Bool} (hf:f ⟨#[]⟩=false) (h:f (wrd ws nx)=true):nx<ws.length∧nxt ws nx=nx+1:=by
 have hl:nx<ws.length:=by
  by_cases hc:nx<ws.length
  ·exact hc
  ·rw[yF hc,hf] at h;simp at h
 exact⟨hl,by unfold nxt;rw[if_pos hl]⟩
theorem EY (ws:List ByteArray):∀ (l:List (ByteArray→Bool)) (nx:Nat),(∀ f∈l,f ⟨#[]⟩=false)→nx≤ws.length→((xg ws l nx false).2=false↔vM ws l nx)∧(vM ws l nx→(xg ws l nx false).1=nx+l.length∧nx+l.length≤ws.length)
 | [],nx,_,h=>by simp[xg,vM];exact h
 | f :: l,nx,hf,h=>by
  unfold xg vM;cases hc:f (wrd ws nx)
  ·refine⟨⟨fun q=>?_,fun q=>by simp at q⟩,fun q=>by simp at q⟩
   rw[show (false||!false)=true from rfl,Ck] at q
   simp at q
  ·obtain⟨k1,k2⟩:=nx_ok (hf f (by simp)) hc
   obtain⟨i1,i2⟩:=EY ws l (nx+1) (fun g hg=>hf g (by simp[hg])) (by omega)
   rw[show (false||!true)=false from rfl,k2]
   refine⟨by rw[i1];simp,fun q=>?_⟩
   have:=i2 q.2
   simp only[List.length_cons];omega
theorem bQ {s:ByteArray} {a b:Int} (h:au s.data.toList a b=true):aC s a b=aF s.data.toList:=by unfold aC;rw[if_pos h]
theorem AL {a b:Int} (h:0≤a):au (⟨#[]⟩:ByteArray).data.toList a b=false:=by
 have:aF [] = -1:=by decide
 show au [] a b=false
 unfold au;rw[this];simp;omega
theorem Hr (c:Int):bP ⟨#[]⟩ c=[⟨#[]⟩]:=rfl
theorem Js (n:Int):cu ⟨#[]⟩ n=false:=by
 unfold cu;rw[Hr,List.all_cons,AL (by omega)];rfl
theorem Nf (n:Int):dS ⟨#[]⟩ n=false:=by
 unfold dS;rw[Hr];simp[rF]
theorem Ib (n:Int):aV (⟨#[]⟩:ByteArray).data.toList n=false:=by
 show aV [] n=false
 simp[aV]
theorem Nr (n:Int):gN ⟨#[]⟩ n=false:=by
 unfold gN;rw[Ib,ByteArray.toList_eq];rfl
def fJ (w w':World) (br:Nat) (vw:Value) (ws:List ByteArray) (n:Int) (e:Ending):Prop :=
 ∃ P vl vg vo vL nx' wr',e=Zr (.agg (pmC P vl vg vo vL))∧xC w' (w.heap.size+2) P vl vg vo vL∧aK w w' br vw ws nx' n wr'∧((wr'=false∧nx'=ws.length)↔lU ws n=true)∧(lU ws n=true→qp n ws P)
theorem Io {s:ByteArray} {n:Int} (h:gN s n=true):gu s n=JG s:=by
 unfold gu JG;unfold gN at h;cases hd:(s.toList==[45])
 ·rw[hd] at h;simp only[Bool.false_or] at h;simp only[Bool.false_eq_true,if_false];exact if_pos h
 ·rfl
theorem Ns {a:Bool} {p q:Prop} (h:((a||false)=false∧p)↔q):(a=false∧p)↔q:=by rwa [Bool.or_false] at h
def ck (n c:Int) (s:ByteArray):Bool:=if c=76 then dS s n else if c=104 then gN s n else lJ s c n Ze
def Er:List Int:=[99,110,105,111,119,102,108,101,121,118,120,112,103,104,76]
theorem OL {n c:Int} (h:c∈Er):ck n c ⟨#[]⟩=false:=by
 simp only[Er,List.mem_cons,List.not_mem_nil,or_false] at h;rcases h with rfl|rfl|rfl|rfl|rfl|rfl|rfl|rfl|rfl|rfl|rfl|rfl|rfl|rfl|rfl
 all_goals first|exact AL (by omega)|exact Js n|exact rF n|exact Ib n|exact Nr n|exact Nf n|rfl
theorem Hz {n c:Int} (s p:ByteArray) (h:c∈Er):lJ s c n p=(ck n c s&&(!decide (c=76)||decide (aF p.data.toList≤(lq s).length))):=by
 simp only[Er,List.mem_cons,List.not_mem_nil,or_false] at h;rcases h with rfl|rfl|rfl|rfl|rfl|rfl|rfl|rfl|rfl|rfl|rfl|rfl|rfl|rfl|rfl
 all_goals first|exact (Bool.and_true _).symm|(show (aV _ _||_)=(gN _ _&&true);unfold gN;rw[Bool.and_true,Bool.or_comm])|rfl
theorem yJ (ws:List ByteArray) (n:Int):∀ (l:List Int) (k:Nat),vM ws (l.map (ck n)) k↔∀ j (h:j<l.length),ck n l[j] (wrd ws (k+j))=true
 | [],k=>⟨fun _ j h=>absurd h (by simp),fun _=>trivial⟩
 | c :: l,k=>by
  show (_∧_)↔_
  rw[yJ ws n l (k+1)]
  constructor
  ·rintro⟨a,b⟩ j h
   cases j with
   | zero=>exact a
   | succ j=>have:=b j (by simpa using h);rwa [show k+1+j=k+(j+1) by omega] at this
  ·intro h;refine⟨h 0 (by simp),fun j hj=>?_⟩
   have:=h (j+1) (by simpa using hj)
   rwa [show k+(j+1)=k+1+j by omega] at this
def nk (ws:List ByteArray):Nat→Nat
 | 0=>1
 | k+1=>nxt ws (nk ws k)
theorem MU {ws:List ByteArray} {n:Int} {f:ByteArray} {l:List Int} (hl:f.data.toList.map (fun c=>(c.toNat:Int))=l) (hk:∀ c∈l,c∈Er):BJ ws f n f.size=true↔vM ws (l.map (ck n)) 1∧∀ j (h:j<l.length),l[j]=76→aF (wrd ws j).data.toList≤(lq (wrd ws (j+1))).length:=by
 have hz:f.size=l.length:=by rw[← hl];simp
 have hg:∀ j (h:j<l.length),((f.data.toList.getD j 0).toNat:Int)=l[j]:=fun j h=>by
  subst hl;simp at h ⊢;rw[Array.getElem?_eq_getElem (by simpa using h)]
  rfl
 rw[yJ];unfold BJ;rw[List.all_eq_true,hz];simp only[List.mem_range]
 constructor
 ·intro h;have h2:∀ j (hj:j<l.length),ck n l[j] (wrd ws (j+1))=true∧(l[j]=76→aF (wrd ws j).data.toList≤(lq (wrd ws (j+1))).length):=fun j hj=>by
   have:=h j hj
   rw[hg j hj,Hz _ _ (hk _ (List.getElem_mem hj))] at this;simp only[Bool.and_eq_true,Bool.or_eq_true,Bool.not_eq_true',decide_eq_false_iff_not,decide_eq_true_eq] at this;exact⟨this.1,fun q=>this.2.resolve_left (fun r=>r q)⟩
  exact⟨fun j hj=>by rw[Nat.add_comm];exact (h2 j hj).1,fun j hj=>(h2 j hj).2⟩
 ·rintro⟨h,h2⟩ j hj
  rw[hg j hj,Hz _ _ (hk _ (List.getElem_mem hj))];simp only[Bool.and_eq_true,Bool.or_eq_true,Bool.not_eq_true',decide_eq_false_iff_not,decide_eq_true_eq];refine⟨by have:=h j hj;rwa [Nat.add_comm] at this,?_⟩
  by_cases q:l[j]=76
  ·exact .inr (h2 j hj q)
  ·exact .inl q
theorem kd {ws:List ByteArray} {n:Int} (f:ByteArray) (l:List Int) (x:Bool) (hF:bG (ws.getD 0 Ze)=f) (hl:f.data.toList.map (fun c=>(c.toNat:Int))=l) (hk:∀ c∈l,c∈Er) (hp:0<f.size) (h1:1≤ws.length)
  (hx:vM ws (l.map (ck n)) 1→(∀ k,k<l.length→nk ws k=k+1)→((∀ j (h:j<l.length),l[j]=76→aF (wrd ws j).data.toList≤(lq (wrd ws (j+1))).length)↔x=false)) :
  ((((xg ws (l.map (ck n)) 1 false).2||x)=false∧(xg ws (l.map (ck n)) 1 false).1=ws.length)↔lU ws n=true)∧(lU ws n=true→vM ws (l.map (ck n)) 1∧∀ k,k<l.length→wrd ws (nk ws k)=wrd ws (k+1)):=by
 obtain⟨i1,i2⟩:=EY ws (l.map (ck n)) 1 (fun g hg=>by obtain⟨c,hc,rfl⟩:=List.mem_map.1 hg;exact OL (hk c hc)) h1
 rw[List.length_map] at i2;have hz:f.size=l.length:=by rw[← hl];simp
 have hN:vM ws (l.map (ck n)) 1→∀ k,k<l.length→nk ws k=k+1:=fun q k=>by
  have:=(i2 q).2
  induction k with
  | zero=>exact fun _=>rfl
  | succ k ih=>exact fun hk=>by show nxt ws (nk ws k)=_;rw[ih (by omega)];unfold nxt;rw[if_pos (by omega)]
 have hok:lU ws n=true↔ws.length=l.length+1∧vM ws (l.map (ck n)) 1∧x=false:=by
  unfold lU;rw[hF];simp only[Bool.and_eq_true,decide_eq_true_eq];rw[MU hl hk,hz];exact⟨fun ⟨_,a,b,c⟩=>⟨a,b,(hx b (hN b)).1 c⟩,fun ⟨a,b,c⟩=>⟨by omega,a,b,(hx b (hN b)).2 c⟩⟩
 rw[hok,Bool.or_eq_false_iff,i1];refine⟨⟨fun ⟨⟨a,b⟩,c⟩=>⟨by have:=i2 a;omega,a,b⟩,fun ⟨a,b,c⟩=>⟨⟨b,c⟩,by have:=i2 b;omega⟩⟩,fun ⟨_,a,_⟩=>⟨a,fun k hk=>by rw[hN a k hk]⟩⟩
theorem kd0 {ws:List ByteArray} {n:Int} (f:ByteArray) (l:List Int) (hF:bG (ws.getD 0 Ze)=f) (hl:f.data.toList.map (fun c=>(c.toNat:Int))=l) (hk:∀ c∈l,c∈Er) (h7:∀ c∈l,c≠76) (hp:0<f.size) (h1:1≤ws.length) :
  (((xg ws (l.map (ck n)) 1 false).2=false∧(xg ws (l.map (ck n)) 1 false).1=ws.length)↔lU ws n=true)∧(lU ws n=true→vM ws (l.map (ck n)) 1∧∀ k,k<l.length→wrd ws (nk ws k)=wrd ws (k+1)):=by
 have:=kd (n:=n) f l false hF hl hk hp h1 (fun _ _=>⟨fun _=>rfl,fun _ j h q=>absurd q (h7 _ (List.getElem_mem h))⟩)
 rwa [Bool.or_false] at this
theorem kdL {ws:List ByteArray} {n:Int} (f:ByteArray) (l:List Int) (m:Nat) (hm:l.length=m+2) (hF:bG (ws.getD 0 Ze)=f) (hl:f.data.toList.map (fun c=>(c.toNat:Int))=l) (hk:∀ c∈l,c∈Er) (h7:∀ j (h:j<l.length),l[j]=76↔j=m+1) (h8:l[m]? = some 121) (hp:0<f.size) (h1:1≤ws.length) :
  ((((xg ws (l.map (ck n)) 1 false).2||decide (((dN (wrd ws (nk ws (m+1))) n).length:Int)<aC (wrd ws (nk ws m)) 0 10))=false∧(xg ws (l.map (ck n)) 1 false).1=ws.length)↔lU ws n=true)∧(lU ws n=true→vM ws (l.map (ck n)) 1∧∀ k,k<l.length→wrd ws (nk ws k)=wrd ws (k+1)):=by
 refine kd (n:=n) f l _ hF hl hk hp h1 (fun hA hN=>?_)
 have hA:=(yJ ws n l 1).1 hA;have q1:=hA m (by omega)
 have q2:=hA (m+1) (by omega)
 have e8:l[m]'(by omega)=121:=by rw[List.getElem?_eq_getElem (by omega)] at h8;exact Option.some.inj h8
 rw[e8,Nat.add_comm] at q1;rw[(h7 (m+1) (by omega)).2 rfl,Nat.add_comm] at q2
 rw[hN (m+1) (by omega),hN m (by omega),decide_eq_false_iff_not,bQ (show au (wrd ws (m+1)).data.toList 0 10=true from q1)]
 have hl:(dN (wrd ws (m+1+1)) n).length=(lq (wrd ws (m+1+1))).length:=by unfold dN;rw[if_pos (show dS (wrd ws (m+1+1)) n=true from q2)];simp[gH]
 rw[hl]
 constructor
 ·intro h;have:=h (m+1) (by omega) ((h7 _ (by omega)).2 rfl)
  omega
 ·intro h j hj q;obtain rfl:=(h7 j hj).1 q;omega
section
variable {w w':World} {br:Nat} {vw:Value} {ws:List ByteArray} {n:Int} {e:Ending} (h1:1≤ws.length)
abbrev RP1 (w w':World) (br:Nat) (vw:Value) (ws:List ByteArray) (n k:Int) (e:Ending):Prop:=oV w w' br vw ws n k (aC (wrd ws 1) 0 (n-1)) (iY (wrd ws (nxt ws 1)) n) (aC (wrd ws (nxt ws (nxt ws 1))) 0 10) (aC (wrd ws (nxt ws (nxt ws (nxt ws 1)))) 0 999) (nxt ws (nxt ws (nxt ws (nxt ws 1)))) ((((false||!au (wrd ws 1).data.toList 0 (n-1))||!cu (wrd ws (nxt ws 1)) n)||!au (wrd ws (nxt ws (nxt ws 1))).data.toList 0 10)||!au (wrd ws (nxt ws (nxt ws (nxt ws 1)))).data.toList 0 999) e
theorem rep_p {w:World} {w':World} {br:Nat} {vw:Value} {ws:List ByteArray} {n:Int} {e:Ending} (h1:1≤ws.length) (h0:(ws.getD 0 Ze).toList=[112]) (hp:RP1 w w' br vw ws n 112 e):fJ w w' br vw ws n e:=by
 obtain⟨vl,he,hO,hR⟩:=hp.1 rfl
 have hF:bG (ws.getD 0 Ze)=⟨#[102,108,101,118,120,112,121]⟩:=by unfold bG;rw[h0];rfl
 have K:=kd0 (n:=n) ⟨#[102,108,101,118,120,112,121]⟩ [102,108,101,118,120,112,121] hF rfl (by decide) (by decide) (by decide) h1
 refine⟨⟨112,aC (wrd ws (nk ws 0)) 0 (n-1),iY (wrd ws (nk ws 1)) n,aC (wrd ws (nk ws 2)) 0 10,aC (wrd ws (nk ws 3)) 0 999,aC (wrd ws (nk ws 4)) 1 10,dX (wrd ws (nk ws 5)) n,aC (wrd ws (nk ws 6)) 0 10,0,0,[],[],[]⟩,vl,Y O 0 0,Y O 0 0,Y O 0 0,_,_,he,⟨hO _ (.head _),World.ownsRow_nil _ _ _ _,World.ownsRow_nil _ _ _ _,World.ownsRow_nil _ _ _ _⟩,hR,K.1,fun hk=>?_⟩
 obtain⟨⟨q1,q2,q3,q4,q5,q6,q7,_⟩,hN⟩:=K.2 hk
 have hS:fu ws=⟨ws,ws.getD 0 Ze,aF (ws.getD 1 Ze).data.toList,eu (ws.getD 2 Ze),aF (ws.getD 3 Ze).data.toList,aF (ws.getD 4 Ze).data.toList,aF (ws.getD 7 Ze).data.toList,[]⟩:=by
  unfold fu ku;rw[h0,hF];rfl
 refine⟨⟨_,h0,rfl⟩,fun _=>?_,fun hc=>by rw[h0] at hc;simp at hc,fun hc=>by rw[h0] at hc;simp at hc⟩
 rw[hS];simp only[hN 0 (by decide),hN 1 (by decide),hN 2 (by decide),hN 3 (by decide),hN 4 (by decide),hN 5 (by decide),hN 6 (by decide)]
 exact⟨bQ q1,if_pos q2,bQ q3,bQ q4,fun _=>⟨bQ q5,rfl,bQ q7⟩,fun hc=>absurd (h0.symm.trans hc) (by decide),fun hc=>absurd (h0.symm.trans hc) (by decide),fun hc=>absurd (h0.symm.trans hc) (by decide),fun hc=>absurd (h0.symm.trans hc) (by decide),fun hc=>absurd (h0.symm.trans hc) (by decide)⟩
theorem rep_k {w:World} {w':World} {br:Nat} {vw:Value} {ws:List ByteArray} {n:Int} {e:Ending} (h1:1≤ws.length) (h0:(ws.getD 0 Ze).toList=[107]) (hp:RP1 w w' br vw ws n 107 e):fJ w w' br vw ws n e:=by
 obtain⟨vl,he,hO,hR⟩:=hp.2.1 rfl
 have hF:bG (ws.getD 0 Ze)=⟨#[102,108,101,118,121]⟩:=by unfold bG;rw[h0];rfl
 have K:=kd0 (n:=n) ⟨#[102,108,101,118,121]⟩ [102,108,101,118,121] hF rfl (by decide) (by decide) (by decide) h1
 refine⟨⟨107,aC (wrd ws (nk ws 0)) 0 (n-1),iY (wrd ws (nk ws 1)) n,aC (wrd ws (nk ws 2)) 0 10,aC (wrd ws (nk ws 3)) 0 999,aC (wrd ws (nk ws 4)) 0 10,(0,0,⟨#[]⟩),0,0,0,[],[],[]⟩,vl,Y O 0 0,Y O 0 0,Y O 0 0,_,_,he,⟨hO _ (.head _),World.ownsRow_nil _ _ _ _,World.ownsRow_nil _ _ _ _,World.ownsRow_nil _ _ _ _⟩,hR,K.1,fun hk=>?_⟩
 obtain⟨⟨q1,q2,q3,q4,q5,_⟩,hN⟩:=K.2 hk
 have hS:fu ws=⟨ws,ws.getD 0 Ze,aF (ws.getD 1 Ze).data.toList,eu (ws.getD 2 Ze),aF (ws.getD 3 Ze).data.toList,aF (ws.getD 4 Ze).data.toList,0,[]⟩:=by
  unfold fu ku;rw[h0,hF];rfl
 refine⟨⟨_,h0,rfl⟩,fun _=>?_,fun hc=>by rw[h0] at hc;simp at hc,fun hc=>by rw[h0] at hc;simp at hc⟩
 rw[hS];simp only[hN 0 (by decide),hN 1 (by decide),hN 2 (by decide),hN 3 (by decide),hN 4 (by decide)]
 exact⟨bQ q1,if_pos q2,bQ q3,bQ q4,fun hc=>absurd (h0.symm.trans hc) (by decide),fun _=>bQ q5,fun hc=>absurd (h0.symm.trans hc) (by decide),fun hc=>absurd (h0.symm.trans hc) (by decide),fun hc=>absurd (h0.symm.trans hc) (by decide),fun hc=>absurd (h0.symm.trans hc) (by decide)⟩
theorem rep_c {w:World} {w':World} {br:Nat} {vw:Value} {ws:List ByteArray} {n:Int} {e:Ending} (h1:1≤ws.length) (h0:(ws.getD 0 Ze).toList=[99]) (hp:RP1 w w' br vw ws n 99 e):fJ w w' br vw ws n e:=by
 obtain⟨vl,he,hO,hR⟩:=hp.2.2.1 rfl
 have hF:bG (ws.getD 0 Ze)=⟨#[102,108,101,118,121]⟩:=by unfold bG;rw[h0];rfl
 have K:=kd0 (n:=n) ⟨#[102,108,101,118,121]⟩ [102,108,101,118,121] hF rfl (by decide) (by decide) (by decide) h1
 refine⟨⟨99,aC (wrd ws (nk ws 0)) 0 (n-1),iY (wrd ws (nk ws 1)) n,aC (wrd ws (nk ws 2)) 0 10,aC (wrd ws (nk ws 3)) 0 999,0,(0,0,⟨#[]⟩),aC (wrd ws (nk ws 4)) 0 10,0,0,[],[],[]⟩,vl,Y O 0 0,Y O 0 0,Y O 0 0,_,_,he,⟨hO _ (.head _),World.ownsRow_nil _ _ _ _,World.ownsRow_nil _ _ _ _,World.ownsRow_nil _ _ _ _⟩,hR,K.1,fun hk=>?_⟩
 obtain⟨⟨q1,q2,q3,q4,q5,_⟩,hN⟩:=K.2 hk
 have hS:fu ws=⟨ws,ws.getD 0 Ze,aF (ws.getD 1 Ze).data.toList,eu (ws.getD 2 Ze),aF (ws.getD 3 Ze).data.toList,aF (ws.getD 4 Ze).data.toList,aF (ws.getD 5 Ze).data.toList,[]⟩:=by
  unfold fu ku;rw[h0,hF];rfl
 refine⟨⟨_,h0,rfl⟩,fun _=>?_,fun hc=>by rw[h0] at hc;simp at hc,fun hc=>by rw[h0] at hc;simp at hc⟩
 rw[hS];simp only[hN 0 (by decide),hN 1 (by decide),hN 2 (by decide),hN 3 (by decide),hN 4 (by decide)]
 exact⟨bQ q1,if_pos q2,bQ q3,bQ q4,fun hc=>absurd (h0.symm.trans hc) (by decide),fun hc=>absurd (h0.symm.trans hc) (by decide),fun _=>bQ q5,fun hc=>absurd (h0.symm.trans hc) (by decide),fun hc=>absurd (h0.symm.trans hc) (by decide),fun hc=>absurd (h0.symm.trans hc) (by decide)⟩
theorem rep_h {w:World} {w':World} {br:Nat} {vw:Value} {ws:List ByteArray} {n:Int} {e:Ending} (h1:1≤ws.length) (h0:(ws.getD 0 Ze).toList=[104]) (hp:RP1 w w' br vw ws n 104 e):fJ w w' br vw ws n e:=by
 obtain⟨vl,he,hO,hR⟩:=hp.2.2.2.1 rfl
 have hF:bG (ws.getD 0 Ze)=⟨#[102,108,101,118]⟩:=by unfold bG;rw[h0];rfl
 have K:=kd0 (n:=n) ⟨#[102,108,101,118]⟩ [102,108,101,118] hF rfl (by decide) (by decide) (by decide) h1
 refine⟨⟨104,aC (wrd ws (nk ws 0)) 0 (n-1),iY (wrd ws (nk ws 1)) n,aC (wrd ws (nk ws 2)) 0 10,aC (wrd ws (nk ws 3)) 0 999,0,(0,0,⟨#[]⟩),0,0,0,[],[],[]⟩,vl,Y O 0 0,Y O 0 0,Y O 0 0,_,_,he,⟨hO _ (.head _),World.ownsRow_nil _ _ _ _,World.ownsRow_nil _ _ _ _,World.ownsRow_nil _ _ _ _⟩,hR,K.1,fun hk=>?_⟩
 obtain⟨⟨q1,q2,q3,q4,_⟩,hN⟩:=K.2 hk
 have hS:fu ws=⟨ws,ws.getD 0 Ze,aF (ws.getD 1 Ze).data.toList,eu (ws.getD 2 Ze),aF (ws.getD 3 Ze).data.toList,aF (ws.getD 4 Ze).data.toList,0,[]⟩:=by
  unfold fu ku;rw[h0,hF];rfl
 refine⟨⟨_,h0,rfl⟩,fun _=>?_,fun hc=>by rw[h0] at hc;simp at hc,fun hc=>by rw[h0] at hc;simp at hc⟩
 rw[hS];simp only[hN 0 (by decide),hN 1 (by decide),hN 2 (by decide),hN 3 (by decide)]
 exact⟨bQ q1,if_pos q2,bQ q3,bQ q4,fun hc=>absurd (h0.symm.trans hc) (by decide),fun hc=>absurd (h0.symm.trans hc) (by decide),fun hc=>absurd (h0.symm.trans hc) (by decide),fun hc=>absurd (h0.symm.trans hc) (by decide),fun hc=>absurd (h0.symm.trans hc) (by decide),fun hc=>absurd (h0.symm.trans hc) (by decide)⟩
theorem rep_g {w:World} {w':World} {br:Nat} {vw:Value} {ws:List ByteArray} {n:Int} {e:Ending} (h1:1≤ws.length) (h0:(ws.getD 0 Ze).toList=[103]) (hp:RP1 w w' br vw ws n 103 e):fJ w w' br vw ws n e:=by
 obtain⟨vl,he,hO,hR⟩:=hp.2.2.2.2.1 rfl
 have hF:bG (ws.getD 0 Ze)=⟨#[102,108,101,118]⟩:=by unfold bG;rw[h0];rfl
 have K:=kd0 (n:=n) ⟨#[102,108,101,118]⟩ [102,108,101,118] hF rfl (by decide) (by decide) (by decide) h1
 refine⟨⟨103,aC (wrd ws (nk ws 0)) 0 (n-1),iY (wrd ws (nk ws 1)) n,aC (wrd ws (nk ws 2)) 0 10,aC (wrd ws (nk ws 3)) 0 999,0,(0,0,⟨#[]⟩),0,0,0,[],[],[]⟩,vl,Y O 0 0,Y O 0 0,Y O 0 0,_,_,he,⟨hO _ (.head _),World.ownsRow_nil _ _ _ _,World.ownsRow_nil _ _ _ _,World.ownsRow_nil _ _ _ _⟩,hR,K.1,fun hk=>?_⟩
 obtain⟨⟨q1,q2,q3,q4,_⟩,hN⟩:=K.2 hk
 have hS:fu ws=⟨ws,ws.getD 0 Ze,aF (ws.getD 1 Ze).data.toList,eu (ws.getD 2 Ze),aF (ws.getD 3 Ze).data.toList,aF (ws.getD 4 Ze).data.toList,0,[]⟩:=by
  unfold fu ku;rw[h0,hF];rfl
 refine⟨⟨_,h0,rfl⟩,fun _=>?_,fun hc=>by rw[h0] at hc;simp at hc,fun hc=>by rw[h0] at hc;simp at hc⟩
 rw[hS];simp only[hN 0 (by decide),hN 1 (by decide),hN 2 (by decide),hN 3 (by decide)]
 exact⟨bQ q1,if_pos q2,bQ q3,bQ q4,fun hc=>absurd (h0.symm.trans hc) (by decide),fun hc=>absurd (h0.symm.trans hc) (by decide),fun hc=>absurd (h0.symm.trans hc) (by decide),fun hc=>absurd (h0.symm.trans hc) (by decide),fun hc=>absurd (h0.symm.trans hc) (by decide),fun hc=>absurd (h0.symm.trans hc) (by decide)⟩
theorem rep_r {w:World} {w':World} {br:Nat} {vw:Value} {ws:List ByteArray} {n:Int} {e:Ending} (h1:1≤ws.length) (h0:(ws.getD 0 Ze).toList=[114]) (hp:RP1 w w' br vw ws n 114 e):fJ w w' br vw ws n e:=by
 obtain⟨vl,he,hO,hR⟩:=hp.2.2.2.2.2.1 rfl
 have hF:bG (ws.getD 0 Ze)=⟨#[102,108,101,118]⟩:=by unfold bG;rw[h0];rfl
 have K:=kd0 (n:=n) ⟨#[102,108,101,118]⟩ [102,108,101,118] hF rfl (by decide) (by decide) (by decide) h1
 refine⟨⟨114,aC (wrd ws (nk ws 0)) 0 (n-1),iY (wrd ws (nk ws 1)) n,aC (wrd ws (nk ws 2)) 0 10,aC (wrd ws (nk ws 3)) 0 999,0,(0,0,⟨#[]⟩),0,0,0,[],[],[]⟩,vl,Y O 0 0,Y O 0 0,Y O 0 0,_,_,he,⟨hO _ (.head _),World.ownsRow_nil _ _ _ _,World.ownsRow_nil _ _ _ _,World.ownsRow_nil _ _ _ _⟩,hR,K.1,fun hk=>?_⟩
 obtain⟨⟨q1,q2,q3,q4,_⟩,hN⟩:=K.2 hk
 have hS:fu ws=⟨ws,ws.getD 0 Ze,aF (ws.getD 1 Ze).data.toList,eu (ws.getD 2 Ze),aF (ws.getD 3 Ze).data.toList,aF (ws.getD 4 Ze).data.toList,0,[]⟩:=by
  unfold fu ku;rw[h0,hF];rfl
 refine⟨⟨_,h0,rfl⟩,fun _=>?_,fun hc=>by rw[h0] at hc;simp at hc,fun hc=>by rw[h0] at hc;simp at hc⟩
 rw[hS];simp only[hN 0 (by decide),hN 1 (by decide),hN 2 (by decide),hN 3 (by decide)]
 exact⟨bQ q1,if_pos q2,bQ q3,bQ q4,fun hc=>absurd (h0.symm.trans hc) (by decide),fun hc=>absurd (h0.symm.trans hc) (by decide),fun hc=>absurd (h0.symm.trans hc) (by decide),fun hc=>absurd (h0.symm.trans hc) (by decide),fun hc=>absurd (h0.symm.trans hc) (by decide),fun hc=>absurd (h0.symm.trans hc) (by decide)⟩
theorem rep_t {w:World} {w':World} {br:Nat} {vw:Value} {ws:List ByteArray} {n:Int} {e:Ending} (h1:1≤ws.length) (h0:(ws.getD 0 Ze).toList=[116]) (hp:RP1 w w' br vw ws n 116 e):fJ w w' br vw ws n e:=by
 obtain⟨vl,he,hO,hR⟩:=hp.2.2.2.2.2.2.1 rfl
 have hF:bG (ws.getD 0 Ze)=⟨#[102,108,101,118]⟩:=by unfold bG;rw[h0];rfl
 have K:=kd0 (n:=n) ⟨#[102,108,101,118]⟩ [102,108,101,118] hF rfl (by decide) (by decide) (by decide) h1
 refine⟨⟨116,aC (wrd ws (nk ws 0)) 0 (n-1),iY (wrd ws (nk ws 1)) n,aC (wrd ws (nk ws 2)) 0 10,aC (wrd ws (nk ws 3)) 0 999,0,(0,0,⟨#[]⟩),0,0,0,[],[],[]⟩,vl,Y O 0 0,Y O 0 0,Y O 0 0,_,_,he,⟨hO _ (.head _),World.ownsRow_nil _ _ _ _,World.ownsRow_nil _ _ _ _,World.ownsRow_nil _ _ _ _⟩,hR,K.1,fun hk=>?_⟩
 obtain⟨⟨q1,q2,q3,q4,_⟩,hN⟩:=K.2 hk
 have hS:fu ws=⟨ws,ws.getD 0 Ze,aF (ws.getD 1 Ze).data.toList,eu (ws.getD 2 Ze),aF (ws.getD 3 Ze).data.toList,aF (ws.getD 4 Ze).data.toList,0,[]⟩:=by
  unfold fu ku;rw[h0,hF];rfl
 refine⟨⟨_,h0,rfl⟩,fun _=>?_,fun hc=>by rw[h0] at hc;simp at hc,fun hc=>by rw[h0] at hc;simp at hc⟩
 rw[hS];simp only[hN 0 (by decide),hN 1 (by decide),hN 2 (by decide),hN 3 (by decide)]
 exact⟨bQ q1,if_pos q2,bQ q3,bQ q4,fun hc=>absurd (h0.symm.trans hc) (by decide),fun hc=>absurd (h0.symm.trans hc) (by decide),fun hc=>absurd (h0.symm.trans hc) (by decide),fun hc=>absurd (h0.symm.trans hc) (by decide),fun hc=>absurd (h0.symm.trans hc) (by decide),fun hc=>absurd (h0.symm.trans hc) (by decide)⟩
theorem rep_v {w:World} {w':World} {br:Nat} {vw:Value} {ws:List ByteArray} {n:Int} {e:Ending} (h1:1≤ws.length) (h0:(ws.getD 0 Ze).toList=[118]) (hp:RP1 w w' br vw ws n 118 e):fJ w w' br vw ws n e:=by
 obtain⟨vl,vL,he,hO,hR⟩:=hp.2.2.2.2.2.2.2.1 rfl
 have hF:bG (ws.getD 0 Ze)=⟨#[102,108,101,118,118,121,76]⟩:=by unfold bG;rw[h0];rfl
 have K:=kdL (n:=n) ⟨#[102,108,101,118,118,121,76]⟩ [102,108,101,118,118,121,76] 5 rfl hF rfl (by decide) (by decide) rfl (by decide) h1
 refine⟨⟨118,aC (wrd ws (nk ws 0)) 0 (n-1),iY (wrd ws (nk ws 1)) n,aC (wrd ws (nk ws 2)) 0 10,aC (wrd ws (nk ws 3)) 0 999,0,(0,0,⟨#[]⟩),aC (wrd ws (nk ws 5)) 0 10,aC (wrd ws (nk ws 4)) 0 999,0,[],[],dN (wrd ws (nk ws 6)) n⟩,vl,Y O 0 0,Y O 0 0,vL,_,_,he,⟨hO _ (.tail _ (.head _)),World.ownsRow_nil _ _ _ _,World.ownsRow_nil _ _ _ _,hO _ (.head _)⟩,hR,K.1,fun hk=>?_⟩
 obtain⟨⟨q1,q2,q3,q4,q5,q6,q7,_⟩,hN⟩:=K.2 hk
 have hS:fu ws=⟨ws,ws.getD 0 Ze,aF (ws.getD 1 Ze).data.toList,eu (ws.getD 2 Ze),aF (ws.getD 3 Ze).data.toList,aF (ws.getD 4 Ze).data.toList,aF (ws.getD 6 Ze).data.toList,lq (ws.getD 7 Ze)⟩:=by
  unfold fu ku;rw[h0,hF];rfl
 refine⟨⟨_,h0,rfl⟩,fun _=>?_,fun hc=>by rw[h0] at hc;simp at hc,fun hc=>by rw[h0] at hc;simp at hc⟩
 rw[hS];simp only[hN 0 (by decide),hN 1 (by decide),hN 2 (by decide),hN 3 (by decide),hN 4 (by decide),hN 5 (by decide),hN 6 (by decide)]
 exact⟨bQ q1,if_pos q2,bQ q3,bQ q4,fun hc=>absurd (h0.symm.trans hc) (by decide),fun hc=>absurd (h0.symm.trans hc) (by decide),fun hc=>absurd (h0.symm.trans hc) (by decide),fun _=>⟨bQ q5,bQ q6,if_pos q7⟩,fun hc=>absurd (h0.symm.trans hc) (by decide),fun hc=>absurd (h0.symm.trans hc) (by decide)⟩
theorem rep_s {w:World} {w':World} {br:Nat} {vw:Value} {ws:List ByteArray} {n:Int} {e:Ending} (h1:1≤ws.length) (h0:(ws.getD 0 Ze).toList=[115]) (hp:RP1 w w' br vw ws n 115 e):fJ w w' br vw ws n e:=by
 obtain⟨vl,vg,vo,vL,he,hO,hR⟩:=hp.2.2.2.2.2.2.2.2.1 rfl
 have hF:bG (ws.getD 0 Ze)=⟨#[102,108,101,118,103,104,121,76]⟩:=by unfold bG;rw[h0];rfl
 have K:=kdL (n:=n) ⟨#[102,108,101,118,103,104,121,76]⟩ [102,108,101,118,103,104,121,76] 6 rfl hF rfl (by decide) (by decide) rfl (by decide) h1
 refine⟨⟨115,aC (wrd ws (nk ws 0)) 0 (n-1),iY (wrd ws (nk ws 1)) n,aC (wrd ws (nk ws 2)) 0 10,aC (wrd ws (nk ws 3)) 0 999,0,(0,0,⟨#[]⟩),aC (wrd ws (nk ws 6)) 0 10,0,0,dz (wrd ws (nk ws 4)) n,gu (wrd ws (nk ws 5)) n,dN (wrd ws (nk ws 7)) n⟩,vl,vg,vo,vL,_,_,he,⟨hO _ (.tail _ (.tail _ (.tail _ (.head _)))),hO _ (.tail _ (.head _)),hO _ (.tail _ (.tail _ (.head _))),hO _ (.head _)⟩,hR,K.1,fun hk=>?_⟩
 obtain⟨⟨q1,q2,q3,q4,q5,q6,q7,q8,_⟩,hN⟩:=K.2 hk
 have hS:fu ws=⟨ws,ws.getD 0 Ze,aF (ws.getD 1 Ze).data.toList,eu (ws.getD 2 Ze),aF (ws.getD 3 Ze).data.toList,aF (ws.getD 4 Ze).data.toList,aF (ws.getD 7 Ze).data.toList,lq (ws.getD 8 Ze)⟩:=by
  unfold fu ku;rw[h0,hF];rfl
 refine⟨⟨_,h0,rfl⟩,fun _=>?_,fun hc=>by rw[h0] at hc;simp at hc,fun hc=>by rw[h0] at hc;simp at hc⟩
 rw[hS];simp only[hN 0 (by decide),hN 1 (by decide),hN 2 (by decide),hN 3 (by decide),hN 4 (by decide),hN 5 (by decide),hN 6 (by decide),hN 7 (by decide)]
 exact⟨bQ q1,if_pos q2,bQ q3,bQ q4,fun hc=>absurd (h0.symm.trans hc) (by decide),fun hc=>absurd (h0.symm.trans hc) (by decide),fun hc=>absurd (h0.symm.trans hc) (by decide),fun hc=>absurd (h0.symm.trans hc) (by decide),fun _=>⟨if_pos q5,Io q6,bQ q7,if_pos q8⟩,fun hc=>absurd (h0.symm.trans hc) (by decide)⟩
theorem rep_a {w:World} {w':World} {br:Nat} {vw:Value} {ws:List ByteArray} {n:Int} {e:Ending} (h1:1≤ws.length) (h0:(ws.getD 0 Ze).toList=[97]) (hp:RP1 w w' br vw ws n 97 e):fJ w w' br vw ws n e:=by
 obtain⟨vl,vg,vo,vL,he,hO,hR⟩:=hp.2.2.2.2.2.2.2.2.2.1 rfl
 have hF:bG (ws.getD 0 Ze)=⟨#[102,108,101,118,105,103,104,121,76]⟩:=by unfold bG;rw[h0];rfl
 have K:=kdL (n:=n) ⟨#[102,108,101,118,105,103,104,121,76]⟩ [102,108,101,118,105,103,104,121,76] 7 rfl hF rfl (by decide) (by decide) rfl (by decide) h1
 refine⟨⟨97,aC (wrd ws (nk ws 0)) 0 (n-1),iY (wrd ws (nk ws 1)) n,aC (wrd ws (nk ws 2)) 0 10,aC (wrd ws (nk ws 3)) 0 999,0,(0,0,⟨#[]⟩),aC (wrd ws (nk ws 7)) 0 10,0,aC (wrd ws (nk ws 4)) 1 999,dz (wrd ws (nk ws 5)) n,gu (wrd ws (nk ws 6)) n,dN (wrd ws (nk ws 8)) n⟩,vl,vg,vo,vL,_,_,he,⟨hO _ (.tail _ (.tail _ (.tail _ (.head _)))),hO _ (.tail _ (.head _)),hO _ (.tail _ (.tail _ (.head _))),hO _ (.head _)⟩,hR,K.1,fun hk=>?_⟩
 obtain⟨⟨q1,q2,q3,q4,q5,q6,q7,q8,q9,_⟩,hN⟩:=K.2 hk
 have hS:fu ws=⟨ws,ws.getD 0 Ze,aF (ws.getD 1 Ze).data.toList,eu (ws.getD 2 Ze),aF (ws.getD 3 Ze).data.toList,aF (ws.getD 4 Ze).data.toList,aF (ws.getD 8 Ze).data.toList,lq (ws.getD 9 Ze)⟩:=by
  unfold fu ku;rw[h0,hF];rfl
 refine⟨⟨_,h0,rfl⟩,fun _=>?_,fun hc=>by rw[h0] at hc;simp at hc,fun hc=>by rw[h0] at hc;simp at hc⟩
 rw[hS];simp only[hN 0 (by decide),hN 1 (by decide),hN 2 (by decide),hN 3 (by decide),hN 4 (by decide),hN 5 (by decide),hN 6 (by decide),hN 7 (by decide),hN 8 (by decide)]
 exact⟨bQ q1,if_pos q2,bQ q3,bQ q4,fun hc=>absurd (h0.symm.trans hc) (by decide),fun hc=>absurd (h0.symm.trans hc) (by decide),fun hc=>absurd (h0.symm.trans hc) (by decide),fun hc=>absurd (h0.symm.trans hc) (by decide),fun hc=>absurd (h0.symm.trans hc) (by decide),fun _=>⟨bQ q5,if_pos q6,Io q7,bQ q8,if_pos q9⟩⟩
theorem cl_q {w:World} {w':World} {br:Nat} {vw:Value} {ws:List ByteArray} {n:Int} {e:Ending} (h1:1≤ws.length) (h0:(ws.getD 0 Ze).toList=[113]) (he:e=Zr (.agg (pmC ⟨113,0,[],0,0,0,(aC (wrd ws 1) 1 9,aC (wrd ws (nxt ws 1)) 1 999,if dU (wrd ws (nxt ws (nxt ws 1))).data.toList then wrd ws (nxt ws (nxt ws 1)) else ⟨#[]⟩),0,0,0,[],[],[]⟩ (Y O 0 0) (Y O 0 0) (Y O 0 0) (Y O 0 0)))) (hR:aK w w' br vw ws (nxt ws (nxt ws (nxt ws 1))) n (((false||!au (wrd ws 1).data.toList 1 9)||!au (wrd ws (nxt ws 1)).data.toList 1 999)||!dU (wrd ws (nxt ws (nxt ws 1))).data.toList)):fJ w w' br vw ws n e:=by
 have hF:bG (ws.getD 0 Ze)=⟨#[99,110,111]⟩:=by unfold bG;rw[h0];rfl
 have K:=kd0 (n:=n) ⟨#[99,110,111]⟩ [99,110,111] hF rfl (by decide) (by decide) (by decide) h1
 refine⟨⟨113,0,[],0,0,0,(aC (wrd ws (nk ws 0)) 1 9,aC (wrd ws (nk ws 1)) 1 999,if dU (wrd ws (nk ws 2)).data.toList then (wrd ws (nk ws 2)) else ⟨#[]⟩),0,0,0,[],[],[]⟩,Y O 0 0,Y O 0 0,Y O 0 0,Y O 0 0,_,_,he,⟨World.ownsRow_nil _ _ _ _,World.ownsRow_nil _ _ _ _,World.ownsRow_nil _ _ _ _,World.ownsRow_nil _ _ _ _⟩,hR,K.1,fun hk=>?_⟩
 obtain⟨⟨q1,q2,q3,_⟩,hN⟩:=K.2 hk
 simp only[hN 0 (by decide),hN 1 (by decide),hN 2 (by decide)]
 refine⟨⟨_,h0,rfl⟩,fun hc=>by unfold qH at hc;rw[h0] at hc;exact absurd hc (by decide),fun _=>?_,fun hc=>by rw[h0] at hc;simp at hc⟩
 show (aC (wrd ws 1) 1 9,aC (wrd ws 2) 1 999,if dU (wrd ws 3).data.toList=true then wrd ws 3 else ⟨#[]⟩)=_
 rw[bQ q1,bQ q2,if_pos (show dU (wrd ws 3).data.toList=true from q3)];rfl
theorem cl_m {w:World} {w':World} {br:Nat} {vw:Value} {ws:List ByteArray} {n:Int} {e:Ending} (h1:1≤ws.length) (h0:(ws.getD 0 Ze).toList=[109]) (he:e=Zr (.agg (pmC ⟨109,0,[],aC (wrd ws (nxt ws (nxt ws 1))) 0 999,0,0,(aC (wrd ws 1) 1 9,aC (wrd ws (nxt ws 1)) 1 999,⟨#[114]⟩++sZ (wrd ws (nxt ws (nxt ws (nxt ws 1))))),0,0,0,[],[],[]⟩ (Y O 0 0) (Y O 0 0) (Y O 0 0) (Y O 0 0)))) (hR:aK w w' br vw ws (nxt ws (nxt ws (nxt ws (nxt ws 1)))) n ((((false||!au (wrd ws 1).data.toList 1 9)||!au (wrd ws (nxt ws 1)).data.toList 1 999)||!au (wrd ws (nxt ws (nxt ws 1))).data.toList 0 999)||!iX (wrd ws (nxt ws (nxt ws (nxt ws 1)))).data.toList)):fJ w w' br vw ws n e:=by
 have hF:bG (ws.getD 0 Ze)=⟨#[99,110,118,119]⟩:=by unfold bG;rw[h0];rfl
 have K:=kd0 (n:=n) ⟨#[99,110,118,119]⟩ [99,110,118,119] hF rfl (by decide) (by decide) (by decide) h1
 refine⟨⟨109,0,[],aC (wrd ws (nk ws 2)) 0 999,0,0,(aC (wrd ws (nk ws 0)) 1 9,aC (wrd ws (nk ws 1)) 1 999,(⟨#[114]⟩:ByteArray)++sZ (wrd ws (nk ws 3))),0,0,0,[],[],[]⟩,Y O 0 0,Y O 0 0,Y O 0 0,Y O 0 0,_,_,he,⟨World.ownsRow_nil _ _ _ _,World.ownsRow_nil _ _ _ _,World.ownsRow_nil _ _ _ _,World.ownsRow_nil _ _ _ _⟩,hR,K.1,fun hk=>?_⟩
 obtain⟨⟨q1,q2,q3,q4,_⟩,hN⟩:=K.2 hk
 simp only[hN 0 (by decide),hN 1 (by decide),hN 2 (by decide),hN 3 (by decide)]
 refine⟨⟨_,h0,rfl⟩,fun hc=>by unfold qH at hc;rw[h0] at hc;exact absurd hc (by decide),fun hc=>by rw[h0] at hc;simp at hc,fun _=>?_⟩
 show aC (wrd ws 3) 0 999=_∧(aC (wrd ws 1) 1 9,aC (wrd ws 2) 1 999,(⟨#[114]⟩:ByteArray)++sZ (wrd ws 4))=_
 rw[bQ q1,bQ q2,bQ q3];unfold sZ;rw[if_pos (show iX (wrd ws 4).data.toList=true from q4)]
 exact⟨rfl,rfl⟩
theorem H8 {ws:List ByteArray} (h1:1≤ws.length) {s:ByteArray} (h:0<(bG s).size):s.size=1∧(s.toList=[113]∨s.toList=[109]∨qH s=true):=by
 have hr:=H9 h;have:s.toList.length=1:=by
  rcases hr with hr|hr|hr
  ·rw[hr];rfl
  ·rw[hr];rfl
  ·unfold qH at hr;simp only[Bool.or_eq_true,beq_iff_eq] at hr;rcases hr with ((((((((hr|hr)|hr)|hr)|hr)|hr)|hr)|hr)|hr)|hr <;> (rw[hr];rfl)
 rw[ByteArray.toList_eq] at this;exact⟨by simpa using this,hr⟩
theorem Oy {ws:List ByteArray} {n:Int} (h1:1≤ws.length) (hF:¬0<(bG (ws.getD 0 Ze)).size):lU ws n=false:=by
 unfold lU;have:decide (0<(bG (ws.getD 0 Ze)).size)=false:=decide_eq_false hF
 rw[this];rfl
theorem Lf {w:World} {w':World} {br:Nat} {vw:Value} {ws:List ByteArray} {n:Int} {e:Ending} (h1:1≤ws.length) {P:Pm} {vl vg vo vL:Value} {nx:Nat} (hF:¬0<(bG (ws.getD 0 Ze)).size) (he:e=Zr (.agg (pmC P vl vg vo vL))) (hO:xC w' (w.heap.size+2) P vl vg vo vL) (hR:aK w w' br vw ws nx n true):fJ w w' br vw ws n e :=
 ⟨P,vl,vg,vo,vL,nx,true,he,hO,hR,by rw[Oy h1 hF];simp,fun h=>by rw[Oy h1 hF] at h;simp at h⟩
end
theorem JH (b:UInt8):fQ b≤4:=by unfold fQ;(repeat' split) <;> omega
theorem ask_size {op:ByteArray} {n:Int} (h:jH op.data.toList n=true):op.size≤6:=by
 rw[yt,Bool.or_eq_true,Bool.and_eq_true] at h;rcases h with h|h
 ·unfold dU at h;simp only[Bool.and_eq_true,beq_iff_eq] at h;have h1:=JH (op.data.toList.getD 0 0);have h2:=h.2.2;have:op.size=op.data.toList.length:=by simp
  omega
 ·have:=(mE h.2).2
  have e:(op.extract 1 op.size).size=op.size-1:=by simp
  omega
theorem Oj {e:ByteArray} {n:Int} (h:dR e n=true):jd n (dX e n):=by
 have h':=h
 unfold dX;rw[if_pos h];unfold dR ze at h
 split at h
 ·rename_i p0 p1 p2 hc;have ho:opB e=p2:=by unfold opB;rw[hc];rfl
  simp only[Bool.and_eq_true] at h;have w1:=dL h.1.1;have w2:=dL h.1.2;rw[hc,ho];exact⟨w1.1,w1.2,w2.1,w2.2,h.2,by have:=ask_size h.2;show p2.size≤10;omega⟩
 ·cases h
theorem MP {l:List ByteArray} {n:Int} (h:∀ e∈l,dR e n=true):∀ e∈gH l n,jd n e:=by
 intro e he;unfold gH at he;obtain⟨x,hx,rfl⟩:=List.mem_map.1 he
 exact Oj (h x hx)
theorem yx {s:ByteArray} {n:Int} (h:aV s.data.toList n=true):fE n (dA s):=by
 have:=rC s n
 unfold dz at this
 rwa [if_pos h] at this
theorem Im {s:ByteArray} {n:Int} (h:aV s.data.toList n=true∨s.toList=[45]):fE n (JG s):=by
 unfold JG
 split
 ·exact fE.nil n
 ·rename_i q;rcases h with h|h
  ·exact yx h
  ·rw[h] at q;exact absurd rfl q
theorem C8 {n:Int} {ws:List ByteArray} {P:Pm} (hM:qp n ws P) {x:UInt8} (hx:P.kind=x.toNat):(ws.getD 0 Ze).toList=[x]:=by
 obtain⟨b,h1,h2⟩:=hM.kind
 rw[h1];have:b.toNat=x.toNat:=by omega
 rw[UInt8.toNat_inj.1 this]
theorem Ny {s:ByteArray} {n:Int} {P:Pm} (hw:aZ s n≠[]) (hn:n≤7) (hM:qp n (aZ s n) P):Rp.MOk n P:=by
 obtain⟨b,hb,hk⟩:=hM.kind
 refine⟨fun hc=>?_,fun hc=>?_⟩
 ·rcases hc with hc|hc
  ·have h0:=C8 hM (x:=113) hc;obtain⟨_,_,_,w1,w2,w3⟩:=N7 hw h0
   have e:=hM.q h0;have b1:=dL w1;have b2:=dL w2;have hz:((aZ s n).getD 3 Ze).size≤6:=ask_size (n:=n) (by rw[yt,w3];rfl)
   exact⟨by rw[e];exact b1,by rw[e];exact b2,by rw[e];show ((aZ s n).getD 3 Ze).size≤10;omega,fun _=>by rw[e];exact w3⟩
  ·have h0:=C8 hM (x:=109) hc;obtain⟨_,_,_,w1,w2,w3,w4⟩:=NZ hw h0
   have e:=(hM.m h0).2;have b1:=dL w1;have b2:=dL w2;unfold iX at w4;simp only[Bool.and_eq_true,decide_eq_true_eq] at w4;have hz:=w4.2.2;refine⟨by rw[e];exact b1,by rw[e];exact b2,?_,fun q=>by rw[hc] at q;exact absurd q (by decide)⟩
   rw[e]
   show ((⟨#[114]⟩:ByteArray)++(aZ s n).getD 4 Ze).size≤10
   rw[ByteArray.size_append];have:((aZ s n).getD 4 Ze).size=((aZ s n).getD 4 Ze).data.toList.length:=by simp
   have h1:(⟨#[114]⟩:ByteArray).size=1:=rfl
   omega
 ·have hf:=sj hw;have hr:qH ((aZ s n).getD 0 Ze)=true:=by
   rcases H9 (k:=(aZ s n).getD 0 Ze) (by rw[hf.2.1];exact hf.2.2.1) with q|q|q
   ·rw[hb] at q;have:b=113:=by simpa using q
    rw[this] at hk;exact absurd (.inl hk) hc
   ·rw[hb] at q;have:b=109:=by simpa using q
    rw[this] at hk;exact absurd (.inr hk) hc
   ·exact q
  obtain⟨hS,hK⟩:=He hw hn hr
  have hR:=hM.rep hr;have hkd:(fu (aZ s n)).kind=(aZ s n).getD 0 Ze:=rfl
  have e1:∀ x:UInt8,P.kind=x.toNat→(fu (aZ s n)).kind.toList=[x]:=fun x hx=>by rw[hkd];exact C8 hM hx
  have hb128:b.toNat<128:=by
   unfold qH at hr;rw[hb] at hr;simp only[Bool.or_eq_true,beq_iff_eq,List.cons.injEq,and_true] at hr;rcases hr with ((((((((h|h)|h)|h)|h)|h)|h)|h)|h)|h <;> rw[h] <;> decide
  generalize fu (aZ s n)=m at *;refine⟨by omega,by omega,by rw[hR.frm];exact hS.f0,by rw[hR.frm];exact hS.f1,by rw[hR.lives];exact hS.ll,by rw[hR.lives];exact hS.lv,by rw[hR.epoch];exact hS.e0,by rw[hR.epoch];exact hS.e1,by rw[hR.view];exact hS.v0,by rw[hR.view];exact hS.v1,?_,?_,?_,?_,?_,?_,?_,?_⟩
  ·rintro (q|q)
   ·have q1:=e1 112 q;obtain⟨a1,a2,a3⟩:=hK.p q1
    rw[(hR.p q1).1];exact⟨by unfold nmB;omega,a1.k1⟩
   ·have q1:=e1 107 q;obtain⟨a1,a2,a3⟩:=hK.k q1
    rw[hR.k q1];exact⟨a2,a3⟩
  ·intro q;have q1:=e1 112 q;rw[(hR.p q1).2.1];exact Oj (hK.p q1).2.1
  ·rintro (q|q)
   ·have q1:=e1 112 q;rw[(hR.p q1).2.2];exact⟨hS.c0,hS.c1⟩
   ·have q1:=e1 99 q;rw[hR.c q1];exact⟨hS.c0,hS.c1⟩
  ·intro q;have q1:=e1 118 q;rw[(hR.v q1).1];exact⟨(hK.v q1).n0,(hK.v q1).n1⟩
  ·intro q;have q1:=e1 97 q;rw[(hR.a q1).1];obtain⟨_,_,_,a4,a5⟩:=hK.a q1
   exact⟨by omega,a5⟩
  ·rintro (q|q|q)
   ·have q1:=e1 118 q;obtain⟨_,h2,h3⟩:=hR.v q1
    rw[h2,h3];exact⟨hS.c0,by have:=(hK.v q1).cl;simpa [gH] using this⟩
   ·have q1:=e1 115 q;obtain⟨_,_,h2,h3⟩:=hR.s q1
    rw[h2,h3];exact⟨hS.c0,by have:=(hK.s q1).1.c1;simpa [gH] using this⟩
   ·have q1:=e1 97 q;obtain⟨_,_,_,h2,h3⟩:=hR.a q1
    rw[h2,h3];exact⟨hS.c0,by have:=(hK.a q1).1.c1;simpa [gH] using this⟩
  ·have hl:∀ l,l=gH m.log n→l.length≤10∧∀ e∈l,jd n e:=fun l hl=>by
    rw[hl];exact⟨by have:=hS.log.len;simpa [gH] using this,MP hS.le⟩
   rintro (q|q|q)
   ·exact hl _ (hR.v (e1 118 q)).2.2
   ·exact hl _ (hR.s (e1 115 q)).2.2.2
   ·exact hl _ (hR.a (e1 97 q)).2.2.2.2
  ·rintro (q|q)
   ·have q1:=e1 115 q;obtain⟨_,a2,a3⟩:=hK.s q1
    obtain⟨h1,h2,_,_⟩:=hR.s q1
    rw[h1,h2];exact⟨yx a2,Im a3⟩
   ·have q1:=e1 97 q;obtain⟨_,a2,a3,_⟩:=hK.a q1
    obtain⟨_,h1,h2,_,_⟩:=hR.a q1
    rw[h1,h2];exact⟨yx a2,Im a3⟩
section
variable {w:World} {b bl:Nat} {W F:List Nat} {R:Rp} {V:Rv}
theorem D7 (l:List En):∀ u∈aA l,u.oneCell'=true:=fun u hu=>by
 simp only[aA,List.mem_flatMap] at hu;obtain⟨e,_,hu⟩:=hu
 simp at hu;rcases hu with rfl|rfl|rfl <;> rfl
theorem JN (h:ay w b bl W F R V) (hl:R.lives.length≤1000) :
  Calls Tryz.prog 175 #[Zp (some ⟨b,0,O⟩)] w fun e w'=>∃ v,e=Zr v∧w'.ownsRow w.heap.size 3 1 v R.lives.length (R.lives.map (Value.int .i64))∧Below w.heap.size w w':=by
 obtain⟨i0,hi,hz0,hz1,hz2⟩:=info_parts Tryz.infoInt
 have HO:Hid (∀ u∈R.lives.map (Value.int .i64),u.oneCell'=true):=fun u hu=>by obtain⟨x,_,rfl⟩:=List.mem_map.1 hu;rfl
 have cc:=h.c2;obtain⟨cl,hv⟩:=h.g2
 have hrd:=h.lives.rd;rw[hv] at cc hrd;go_enter Tryz.func175,Tryz.ntmps175;go_wp2_with (at_builtin;refine Kl rfl _ _ 44 rfl w.heap.size 3 i0 (I J 0) 1 8 Tryz.underlying44 hi hz0 hz1 hz2 rfl (by decide) w _ _ _ (by rfl) (World.ownsRow_nil _ _ _ _) _ R.lives.length (R.lives.map (Value.int .i64)) (by rfl) hrd HO.out (by omega) (by omega) (by decide) (Nat.le_refl _) ?_)
 intro v' w1 hown _ hb1;have hown':w1.ownsRow w.heap.size 3 1 v' R.lives.length (R.lives.map (Value.int .i64)):=by simpa using hown
 obtain⟨a',c',rfl⟩:=aj hown'
 clear hown;go_wp2;go_ret;exact⟨_,rfl,hown',hb1⟩
theorem Ch (h:ay w b bl W F R V) (hl:R.grp.length≤1000) :
  Calls Tryz.prog 106 #[Zp (some ⟨b,0,O⟩)] w fun e w'=>∃ v,e=Zr v∧w'.ownsRow w.heap.size 3 1 v R.grp.length (R.grp.map (Value.int .i64))∧Below w.heap.size w w':=by
 obtain⟨i0,hi,hz0,hz1,hz2⟩:=info_parts Tryz.infoInt
 have HO:Hid (∀ u∈R.grp.map (Value.int .i64),u.oneCell'=true):=fun u hu=>by obtain⟨x,_,rfl⟩:=List.mem_map.1 hu;rfl
 have cc:=h.c7;obtain⟨ag,cl,hv⟩:=h.g7
 have hrd:=h.grp;rw[hv] at cc hrd;go_enter Tryz.func106,Tryz.ntmps106;go_wp2_with (at_builtin;refine Kl rfl _ _ 44 rfl w.heap.size 3 i0 (I J 0) 1 8 Tryz.underlying44 hi hz0 hz1 hz2 rfl (by decide) w _ _ _ (by rfl) (World.ownsRow_nil _ _ _ _) _ R.grp.length (R.grp.map (Value.int .i64)) (by rfl) hrd HO.out (by omega) (by omega) (by decide) (Nat.le_refl _) ?_)
 intro v' w1 hown _ hb1;have hown':w1.ownsRow w.heap.size 3 1 v' R.grp.length (R.grp.map (Value.int .i64)):=by simpa using hown
 obtain⟨a',c',rfl⟩:=aj hown'
 clear hown;go_wp2;go_ret;exact⟨_,rfl,hown',hb1⟩
theorem Nz (h:ay w b bl W F R V) (hl:R.old.length≤1000) :
  Calls Tryz.prog 111 #[Zp (some ⟨b,0,O⟩)] w fun e w'=>∃ v,e=Zr v∧w'.ownsRow w.heap.size 3 1 v R.old.length (R.old.map (Value.int .i64))∧Below w.heap.size w w':=by
 obtain⟨i0,hi,hz0,hz1,hz2⟩:=info_parts Tryz.infoInt
 have HO:Hid (∀ u∈R.old.map (Value.int .i64),u.oneCell'=true):=fun u hu=>by obtain⟨x,_,rfl⟩:=List.mem_map.1 hu;rfl
 have cc:=h.c8;obtain⟨ag,cl,hv⟩:=h.g8
 have hrd:=h.old;rw[hv] at cc hrd;go_enter Tryz.func111,Tryz.ntmps111;go_wp2_with (at_builtin;refine Kl rfl _ _ 44 rfl w.heap.size 3 i0 (I J 0) 1 8 Tryz.underlying44 hi hz0 hz1 hz2 rfl (by decide) w _ _ _ (by rfl) (World.ownsRow_nil _ _ _ _) _ R.old.length (R.old.map (Value.int .i64)) (by rfl) hrd HO.out (by omega) (by omega) (by decide) (Nat.le_refl _) ?_)
 intro v' w1 hown _ hb1;have hown':w1.ownsRow w.heap.size 3 1 v' R.old.length (R.old.map (Value.int .i64)):=by simpa using hown
 obtain⟨a',c',rfl⟩:=aj hown'
 clear hown;go_wp2;go_ret;exact⟨_,rfl,hown',hb1⟩
theorem uS (h:ay w b bl W F R V) (hl:R.log.length≤1000) :
  Calls Tryz.prog 104 #[Zp (some ⟨b,0,O⟩)] w fun e w'=>∃ v,e=Zr v∧w'.ownsRow w.heap.size 66 3 v R.log.length (aA R.log)∧Below w.heap.size w w':=by
 obtain⟨i0,hi,hz0,hz1,hz2⟩:=info_parts Tryz.infoEnt
 have HO:Hid (∀ u∈aA R.log,u.oneCell'=true):=D7 R.log
 have cc:=h.c9;obtain⟨ag,cl,hv⟩:=h.g9
 have hrd:=h.ents;rw[hv] at cc hrd;go_enter Tryz.func104,Tryz.ntmps104;go_wp2_with (at_builtin;refine Kl rfl _ _ 47 rfl w.heap.size 66 i0 (.agg #[I J 0,I J 0,Z Ze]) 3 32 Tryz.underlying47 hi hz0 hz1 hz2 rfl (by decide) w _ _ _ (by rfl) (World.ownsRow_nil _ _ _ _) _ R.log.length (aA R.log) (by rfl) hrd HO.out (by omega) (by omega) (by decide) (Nat.le_refl _) ?_)
 intro v' w1 hown _ hb1;have hown':w1.ownsRow w.heap.size 66 3 v' R.log.length (aA R.log):=by simpa using hown
 obtain⟨a',c',rfl⟩:=aj hown'
 clear hown;go_wp2;go_ret;exact⟨_,rfl,hown',hb1⟩
end
section
variable (br:Nat) (vw:Value) (ws:List ByteArray) (nx:Nat) (n:Int) (wr:Bool) (w:World) (h:aJ w br vw ws nx n wr) (hl:ws.length≤100000) (hz:∀ x∈ws,x.size≤1000) (hn3:3≤n) (hn7:n≤7)
theorem Bd (br:Nat) (vw:Value) (ws:List ByteArray) (nx:Nat) (n:Int) (wr:Bool) (w:World) (h:aJ w br vw ws nx n wr) (hl:ws.length≤100000) (hz:∀ x∈ws,x.size≤1000) (hn3:3≤n) (hn7:n≤7) (k:Int) :
  Calls Tryz.prog 72 #[Zp (some ⟨br,0,O⟩),I .u8 k] w fun e w'=>oV w w' br vw ws n k (aC (wrd ws nx) 0 (n-1)) (iY (wrd ws (nxt ws nx)) n) (aC (wrd ws (nxt ws (nxt ws nx))) 0 10) (aC (wrd ws (nxt ws (nxt ws (nxt ws nx)))) 0 999) (nxt ws (nxt ws (nxt ws (nxt ws nx))))
   ((((wr||!au (wrd ws nx).data.toList 0 (n-1))||!cu (wrd ws (nxt ws nx)) n)||!au (wrd ws (nxt ws (nxt ws nx))).data.toList 0 10)||!au (wrd ws (nxt ws (nxt ws (nxt ws nx)))).data.toList 0 999) e:=by
 by_cases h112:k=112
 ·exact tN br vw ws nx n wr w h hl hz hn3 hn7 k (Or.inl h112)
 by_cases h107:k=107
 ·exact tN br vw ws nx n wr w h hl hz hn3 hn7 k (Or.inr (Or.inl h107))
 by_cases h99:k=99
 ·exact tN br vw ws nx n wr w h hl hz hn3 hn7 k (Or.inr (Or.inr (h99)))
 by_cases h104:k=104
 ·exact pK br vw ws nx n wr w h hl hz hn3 hn7 k (Or.inl h104)
 by_cases h103:k=103
 ·exact pK br vw ws nx n wr w h hl hz hn3 hn7 k (Or.inr (Or.inl h103))
 by_cases h114:k=114
 ·exact pK br vw ws nx n wr w h hl hz hn3 hn7 k (Or.inr (Or.inr (Or.inl h114)))
 by_cases h116:k=116
 ·exact pK br vw ws nx n wr w h hl hz hn3 hn7 k (Or.inr (Or.inr (Or.inr (h116))))
 by_cases h118:k=118
 ·exact Ah br vw ws nx n wr w h hl hz hn3 hn7 k (Or.inl h118)
 by_cases h115:k=115
 ·exact Ah br vw ws nx n wr w h hl hz hn3 hn7 k (Or.inr (h115))
 exact GN br vw ws nx n wr w h hl hz hn3 hn7 k h112 h107 h99 h104 h103 h114 h116 h118 h115
end
section
theorem NC {w:World} {w':World} {br:Nat} {vw:Value} {ws:List ByteArray} {n:Int} {e:Ending} (h1:1≤ws.length) (b:UInt8) (h0:(ws.getD 0 Ze).toList=[b]) (hq:b≠113) (hm:b≠109) (hp:oV w w' br vw ws n (b.toNat:Int) (aC (wrd ws 1) 0 (n-1)) (iY (wrd ws (nxt ws 1)) n) (aC (wrd ws (nxt ws (nxt ws 1))) 0 10) (aC (wrd ws (nxt ws (nxt ws (nxt ws 1)))) 0 999) (nxt ws (nxt ws (nxt ws (nxt ws 1)))) ((((false||!au (wrd ws 1).data.toList 0 (n-1))||!cu (wrd ws (nxt ws 1)) n)||!au (wrd ws (nxt ws (nxt ws 1))).data.toList 0 10)||!au (wrd ws (nxt ws (nxt ws (nxt ws 1)))).data.toList 0 999) e):fJ w w' br vw ws n e:=by
 by_cases b112:b=112
 ·subst b112;exact rep_p h1 h0 hp
 by_cases b107:b=107
 ·subst b107;exact rep_k h1 h0 hp
 by_cases b99:b=99
 ·subst b99;exact rep_c h1 h0 hp
 by_cases b104:b=104
 ·subst b104;exact rep_h h1 h0 hp
 by_cases b103:b=103
 ·subst b103;exact rep_g h1 h0 hp
 by_cases b114:b=114
 ·subst b114;exact rep_r h1 h0 hp
 by_cases b116:b=116
 ·subst b116;exact rep_t h1 h0 hp
 by_cases b118:b=118
 ·subst b118;exact rep_v h1 h0 hp
 by_cases b115:b=115
 ·subst b115;exact rep_s h1 h0 hp
 by_cases b97:b=97
 ·subst b97;exact rep_a h1 h0 hp
 have hno:∀ c:UInt8,b≠c→¬(b.toNat:Int)=(c.toNat:Int):=fun c hc he=>hc (UInt8.toNat_inj.1 (by omega))
 obtain⟨vl,he,hO,hR⟩:=hp.2.2.2.2.2.2.2.2.2.2 (hno 112 b112) (hno 107 b107) (hno 99 b99) (hno 104 b104) (hno 103 b103) (hno 114 b114) (hno 116 b116) (hno 118 b118) (hno 115 b115) (hno 97 b97)
 refine Lf h1 (P:=⟨(b.toNat:Int),aC (wrd ws 1) 0 (n-1),iY (wrd ws (nxt ws 1)) n,aC (wrd ws (nxt ws (nxt ws 1))) 0 10,aC (wrd ws (nxt ws (nxt ws (nxt ws 1)))) 0 999,0,(0,0,⟨#[]⟩),0,0,0,[],[],[]⟩) ?_ he ⟨hO _ List.mem_cons_self,World.ownsRow_nil _ _ _ _,World.ownsRow_nil _ _ _ _,World.ownsRow_nil _ _ _ _⟩ hR;intro hf;obtain⟨_,hh⟩:=H8 h1 hf
 have hk:∀ c:UInt8,b≠c→¬(ws.getD 0 Ze).toList=[c]:=fun c hc he=>hc (by rw[h0] at he;simpa using he)
 rcases hh with hh|hh|hh
 ·exact hk 113 hq hh
 ·exact hk 109 hm hh
 ·unfold qH at hh;simp only[Bool.or_eq_true,beq_iff_eq] at hh;rcases hh with ((((((((hh|hh)|hh)|hh)|hh)|hh)|hh)|hh)|hh)|hh
  ·exact hk 112 b112 hh
  ·exact hk 107 b107 hh
  ·exact hk 99 b99 hh
  ·exact hk 104 b104 hh
  ·exact hk 103 b103 hh
  ·exact hk 114 b114 hh
  ·exact hk 116 b116 hh
  ·exact hk 118 b118 hh
  ·exact hk 115 b115 hh
  ·exact hk 97 b97 hh
end
structure M1 (w w1:World) (br:Nat) (vw:Value) (ws:List ByteArray) (nx:Nat) (n:Int) (wr:Bool):Prop where
 rdr:aJ w1 br vw ws nx n wr
 zero:dw w1 w.heap.size (iK 0)
 kp:Kp [br] w w1
 lt:∀ k,vw.ownBlock=some k→k<w.heap.size
 blt:br<w.heap.size
section
variable {w w1 w2:World} {br:Nat} {vw:Value} {ws:List ByteArray} {nx nx':Nat} {n:Int} {wr wr':Bool}
theorem M1.start (h:aJ w br vw ws nx n wr):M1 w (w.alloc (.cells (iK 0) 68)) br vw ws nx n wr:=by
 have b1:Below w.heap.size w (w.alloc (.cells (iK 0) 68)):=(Below.refl _ w).alloc (Nat.le_refl _) _
 exact⟨h.below b1,⟨rfl,heap_alloc_new w _⟩,Kp.of_below b1,h.words.lt,lt_of_block h.block⟩
theorem M1.call (h:M1 w w1 br vw ws nx n wr) (k:aK w1 w2 br vw ws nx' n wr'):M1 w w2 br vw ws nx' n wr' :=
 ⟨k.1,h.zero.kp k.2 (by have:=h.blt;simp;omega),h.kp.trans' k.2,h.lt,h.blt⟩
theorem M1.wrong (h:M1 w w1 br vw ws nx n wr) (x:Bool):M1 w (w1.setCell ⟨br,3,O⟩ (.bool x)) br vw ws nx n x :=
 h.call ⟨h.rdr.qV x,(Kp.refl [br] w1).set br 3 _ (.inl (by simp))⟩
variable {a0 a1 a2 a3 a4 a5 a6 a7 a8 a9 a10 a11 a12 a13 a14:Value}
theorem M1.fin (h:M1 w w1 br vw ws nx n wr):aK w (dF w1 w.heap.size 0 [a0,a1,a2,a3,a4,a5,a6,a7,a8,a9,a10,a11,a12,a13,a14]) br vw ws nx n wr∧(loadVar 68 ⟨w.heap.size,0,O⟩).run Tryz.prog (dF w1 w.heap.size 0 [a0,a1,a2,a3,a4,a5,a6,a7,a8,a9,a10,a11,a12,a13,a14])=.ok (.agg #[a0,a1,a2,a3,a4,a5,a6,a7,a8,a9,a10,a11,a12,a13,a14]) (dF w1 w.heap.size 0 [a0,a1,a2,a3,a4,a5,a6,a7,a8,a9,a10,a11,a12,a13,a14]) :=
 ⟨Ad (Nat.le_refl _) (by have:=h.blt;omega) (fun k hk hc=>by have:=h.lt k hk;simp at hc;omega) _ _ _ ⟨h.rdr,h.kp⟩,by
  have e:yj (iK 0) 0 [a0,a1,a2,a3,a4,a5,a6,a7,a8,a9,a10,a11,a12,a13,a14]=#[a0,a1,a2,a3,a4,a5,a6,a7,a8,a9,a10,a11,a12,a13,a14]:=by simp[yj,iK]
  have q:=qJ (oN [a0,a1,a2,a3,a4,a5,a6,a7,a8,a9,a10,a11,a12,a13,a14] w1 _ 0 h.zero);rw[e] at q;exact q⟩
end
theorem xC.kp {u u':World} {base base':Nat} {P:Pm} {vl vg vo vL:Value} {S:List Nat} (h:xC u base P vl vg vo vL) (k:Kp S u u') (hS:∀ x∈S,x<base) (hb:base'≤base):xC u' base' P vl vg vo vL :=
 ⟨eU (ig h.lives k hS) hb,eU (ig h.grp k hS) hb,eU (ig h.old k hS) hb,eU (ig h.log k hS) hb⟩
section
theorem Nj (br:Nat) (vw:Value) (ws:List ByteArray) (n:Int) (w:World) (h:aJ w br vw ws 0 n false) (hl:ws.length≤100000) (hz:∀ x∈ws,x.size≤1000) (hn3:3≤n) (hn7:n≤7) (h1:1≤ws.length) (s0:ByteArray) (hs:ws.getD 0 Ze=s0) (h8:s0.size=1) (w1:World) (hr:aJ w1 br vw ws 1 n false) :
  ((s0.toList==[113])=true∨(s0.toList==[109])=true→Calls Tryz.prog 71 #[Zp (some ⟨br,0,O⟩),I .u8 (s0[0].toNat:Int)] w1 fun e w'=>fJ w1 w' br vw ws n e) ∧
  ((s0.toList==[113])=false→(s0.toList==[109])=false→Calls Tryz.prog 72 #[Zp (some ⟨br,0,O⟩),I .u8 (s0[0].toNat:Int)] w1 fun e w'=>fJ w1 w' br vw ws n e):=by
 have hb:s0.toList=[s0[0]]:=by
  rw[ByteArray.toList_eq];have:=ext1 s0 0 (by omega)
  rw[← this]
  congr 1
  rw[show (0:Nat)+1=s0.size by omega]
  simp
 have hw0:(ws.getD 0 Ze).toList=[s0[0]]:=by rw[hs,hb]
 refine⟨fun hk=>?_,fun hq hm=>?_⟩
 ·rcases hk with hk|hk
  ·rw[beq_iff_eq,hb] at hk;have hk2:s0[0]=113:=by simpa using hk
   rw[hk2];refine (Af br vw ws 1 n false w1 hr hl hz).mono ?_;rintro e w2 ⟨he,hR⟩;exact cl_q h1 (by rw[hw0,hk2]) he hR
  ·rw[beq_iff_eq,hb] at hk;have hk2:s0[0]=109:=by simpa using hk
   rw[hk2];refine (Ae br vw ws 1 n false w1 hr hl hz).mono ?_;rintro e w2 ⟨he,hR⟩;exact cl_m h1 (by rw[hw0,hk2]) he hR
 ·refine (Bd br vw ws 1 n false w1 hr hl hz hn3 hn7 (s0[0].toNat:Int)).mono ?_;intro e w2 hp;rw[beq_eq_false_iff_ne,hb] at hq hm;exact NC h1 s0[0] hw0 (fun hc=>hq (by rw[hc])) (fun hc=>hm (by rw[hc])) hp
theorem EG (br:Nat) (vw:Value) (ws:List ByteArray) (n:Int) (w:World) (h:aJ w br vw ws 0 n false) (hl:ws.length≤100000) (hz:∀ x∈ws,x.size≤1000) (hn3:3≤n) (hn7:n≤7) (h1:1≤ws.length):Calls Tryz.prog 41 #[Zp (some ⟨br,0,O⟩)] w fun e w'=>fJ w w' br vw ws n e:=by
 have HW:Hid (∀ w',aJ w' br vw ws 0 n false→Calls Tryz.prog 70 #[Zp (some ⟨br,0,O⟩)] w' fun e w''=>e=Zr (Z (ws.getD 0 Ze))∧aK w' w'' br vw ws 1 n false):=fun w' q=>by
  refine (lu br vw ws 0 n false w' q hl).mono ?_;rintro e w2 ⟨he,hp⟩;have e1:nxt ws 0=1:=by unfold nxt;rw[if_pos (by omega)]
  have e2:(false||!decide (0<ws.length))=false:=by rw[decide_eq_true (by omega)];rfl
  rw[e1,e2] at hp;exact⟨he,hp⟩
 have HA:=ah (Nj br vw ws n w h hl hz hn3 hn7 h1 _ rfl);have HF:Hid (¬(ws.getD 0 Ze).size=1→¬0<(bG (ws.getD 0 Ze)).size):=fun h8 hf=>h8 (H8 h1 hf).1
 have hs0:(ws.getD 0 Ze).size≤1000:=jR (nx:=0) hz
 have M0:=M1.start h;clear hz;have HMP:Hid (∀ e w',fJ w w' br vw ws n e→fJ w w' br vw ws n e):=fun _ _ q=>q
 have HMN:Hid (∀ (e:Ending) (w':World) (P:Pm) (vl vg vo vL:Value) (nx:Nat),¬0<(bG (ws.getD 0 Ze)).size→e=Zr (.agg (pmC P vl vg vo vL))→xC w' (w.heap.size+2) P vl vg vo vL→aK w w' br vw ws nx n true→fJ w w' br vw ws n e):=fun e w' P vl vg vo vL nx hF he hO hR=>Lf h1 hF he hO hR
 generalize ws.getD 0 Ze=s0 at *;go_enter Tryz.func41,Tryz.ntmps41;simp only[iK] at M0;go_wp2_with fail;generalize w.alloc _=wA at *;refine (HW.out _ M0.rdr).mono ?_;rintro e w1 ⟨rfl,hP⟩;have A1:=M0.call hP;clear M0 hP;by_cases h8:s0.size=1
 ·have h8':((s0.size:Int) != 1)=false:=by rw[h8];rfl
  have h8i:(0:Int)<(s0.size:Int):=by omega
  obtain⟨HA1,HA2⟩:=HA.out h8 w1 A1.rdr
  cases q1:(s0.toList==[113])
  ·cases q2:(s0.toList==[109])
   focus
    have HC:=ah (HA2 q1 q2)
   rotate_left
   focus
    have HC:=ah (HA1 (.inr q2))
   rotate_left
   all_goals
    clear HA1 HA2;go_wp2_with fail;refine HC.out.mono ?_;intro e w2 hp;obtain⟨P,vl,vg,vo,vL,nx',wr',rfl,hO,hR,hI,hM⟩:=hp
    obtain⟨al,cl,rfl⟩:=aj hO.lives
    obtain⟨ag,cg,rfl⟩:=aj hO.grp
    obtain⟨ao,co,rfl⟩:=aj hO.old
    obtain⟨aL,cL,rfl⟩:=aj hO.log
    have A2:=A1.call hR;obtain⟨y0,y1,y2,y3,y4,y5,y6,y7,y8,y9,y10,y11,y12,y13,y14,yf⟩:=A2.zero.all
    have HG:=ah (A2.fin (a0:=I .u8 P.kind) (a1:=I J P.frm) (a2:=Y al P.lives.length cl) (a3:=I J P.epoch) (a4:=I J P.view) (a5:=I J P.place) (a6:=I J P.ent.1) (a7:=I J P.ent.2.1) (a8:=Z P.ent.2.2) (a9:=I J P.commit) (a10:=I J P.normal) (a11:=I J P.life) (a12:=Y ag P.grp.length cg) (a13:=Y ao P.old.length co) (a14:=Y aL P.log.length cL));have hs1:=A1.kp.size;have HO:=ah (hO.kp (base':=w.heap.size+2) (nP (g:=w.heap.size) [I .u8 P.kind,I J P.frm,Y al P.lives.length cl,I J P.epoch,I J P.view,I J P.place,I J P.ent.1,I J P.ent.2.1,Z P.ent.2.2,I J P.commit,I J P.normal,I J P.life,Y ag P.grp.length cg,Y ao P.old.length co,Y aL P.log.length cL] w2 0) (fun x hx=>by simp at hx;omega) (by omega))
    have HI:=ah hI;have HMr:=ah hM;clear A1 A2 hR hO hI hM;simp only[pmC];go_wp2_with fail;refine bodyPost_ret (bI rfl _ _ _ rfl HG.out.2) rfl ?_;exact⟨P,_,_,_,_,nx',wr',rfl,HO.out,HG.out.1,HI.out,HMr.out⟩
  ·have HC:=ah (HA1 (.inl q1));clear HA1 HA2;go_wp2_with fail;refine HC.out.mono ?_;intro e w2 hp;obtain⟨P,vl,vg,vo,vL,nx',wr',rfl,hO,hR,hI,hM⟩:=hp
   obtain⟨al,cl,rfl⟩:=aj hO.lives
   obtain⟨ag,cg,rfl⟩:=aj hO.grp
   obtain⟨ao,co,rfl⟩:=aj hO.old
   obtain⟨aL,cL,rfl⟩:=aj hO.log
   have A2:=A1.call hR;obtain⟨y0,y1,y2,y3,y4,y5,y6,y7,y8,y9,y10,y11,y12,y13,y14,yf⟩:=A2.zero.all
   have HG:=ah (A2.fin (a0:=I .u8 P.kind) (a1:=I J P.frm) (a2:=Y al P.lives.length cl) (a3:=I J P.epoch) (a4:=I J P.view) (a5:=I J P.place) (a6:=I J P.ent.1) (a7:=I J P.ent.2.1) (a8:=Z P.ent.2.2) (a9:=I J P.commit) (a10:=I J P.normal) (a11:=I J P.life) (a12:=Y ag P.grp.length cg) (a13:=Y ao P.old.length co) (a14:=Y aL P.log.length cL));have hs1:=A1.kp.size;have HO:=ah (hO.kp (base':=w.heap.size+2) (nP (g:=w.heap.size) [I .u8 P.kind,I J P.frm,Y al P.lives.length cl,I J P.epoch,I J P.view,I J P.place,I J P.ent.1,I J P.ent.2.1,Z P.ent.2.2,I J P.commit,I J P.normal,I J P.life,Y ag P.grp.length cg,Y ao P.old.length co,Y aL P.log.length cL] w2 0) (fun x hx=>by simp at hx;omega) (by omega))
   have HI:=ah hI;have HMr:=ah hM;clear A1 A2 hR hO hI hM;simp only[pmC];go_wp2_with fail;refine bodyPost_ret (bI rfl _ _ _ rfl HG.out.2) rfl ?_;exact⟨P,_,_,_,_,nx',wr',rfl,HO.out,HG.out.1,HI.out,HMr.out⟩
 ·have h8':((s0.size:Int) != 1)=true:=by simp[bne];omega
  have c3:=A1.rdr.at 3 (by omega)
  have f3:=A1.rdr.free 3;simp at c3;have A2:=A1.wrong true;clear A1;go_upto_region 4 with fail
  generalize w1.setCell ⟨br,3,O⟩ (.bool true)=w2 at *;clear c3 f3;obtain⟨y0,y1,y2,y3,y4,y5,y6,y7,y8,y9,y10,y11,y12,y13,y14,yf⟩:=A2.zero.all
  have HG:=ah (A2.fin (a0:=I .u8 0) (a1:=I J 0) (a2:=Y O 0 0) (a3:=I J 0) (a4:=I J 0) (a5:=I J 0) (a6:=I J 0) (a7:=I J 0) (a8:=Z ⟨#[]⟩) (a9:=I J 0) (a10:=I J 0) (a11:=I J 0) (a12:=Y O 0 0) (a13:=Y O 0 0) (a14:=Y O 0 0));clear A2;go_wp2_with fail;refine bodyPost_ret (bI rfl _ _ _ rfl HG.out.2) rfl ?_;exact HMN.out _ _ ⟨0,0,[],0,0,0,(0,0,⟨#[]⟩),0,0,0,[],[],[]⟩ (Y O 0 0) (Y O 0 0) (Y O 0 0) (Y O 0 0) 1 (HF.out h8) rfl ⟨World.ownsRow_nil _ _ _ _,World.ownsRow_nil _ _ _ _,World.ownsRow_nil _ _ _ _,World.ownsRow_nil _ _ _ _⟩ HG.out.1
end
section
variable {w w0:World} {b bl:Nat} {W F:List Nat} {R:Rp} {V:Rv} {P:Pm} {vl vg vo vL:Value}
structure jX (w w':World) (b bl:Nat) (W F:List Nat) (R':Rp) (vt:Value) (W' F':List Nat) (V':Rv):Prop where
 out:l9 w' 0 vt R'.out
 rp:ay w' b bl W' F' { R' with out:=[] } V'
 vt0:V'.vt=Y O 0 0
 kp:Kp W w w'
 m:∀ x∈W',x∈W∨w.heap.size≤x
 g:∀ x∈F',x∈F∨w.heap.size≤x
 fr:Fr F' vt
 at_:∀ k,vt.ownBlock=some k→k∈F∨w.heap.size≤k
def TkP (w w':World) (b bl:Nat) (W F:List Nat) (R':Rp) (e:Ending):Prop:=∃ vt W' F' V',e=Zr vt∧jX w w' b bl W F R' vt W' F' V'
theorem jX.mk' {w wX wS:World} {W F WX FX WS FSs:List Nat} {RX:Rp} {VX:Rv} {a:Option Addr} {c:Nat} (h:Kp W w wX∧(∀ x∈WX,x∈W∨w.heap.size≤x)∧(∀ x∈FX,x∈F∨w.heap.size≤x)) (hwt:In WX VX.vt) (hwf:∀ x∈WX,x∈FX) (hv:VX.vt=Y a RX.out.length c)
  (ho:l9 wS 0 (Y a RX.out.length c) RX.out) (kS:Kp [b] wX wS) (hR:ay wS b bl WS FSs { RX with out:=[] } { VX with vt:=Y O 0 0 }) (hWS:∀ x∈WS,x∈WX) (hFS:∀ x∈FSs,x∈FX) (hf:Fr FSs (Y a RX.out.length c)) :
  TkP w wS b bl W F RX (Zr (Y a RX.out.length c)):=by
 refine⟨_,WS,FSs,_,rfl,ho,hR,rfl,?_,fun x hx=>h.2.1 x (hWS x hx),fun x hx=>h.2.2 x (hFS x hx),hf,fun k hk=>?_⟩
 ·refine h.1.trans (S':=[b]) kS (fun x hx hlt=>?_)
  simp at hx;subst hx;rcases h.2.1 _ (hWS _ hR.wb) with q|q
  ·exact q
  ·omega
 ·have:=hwt k (by rw[hv];exact hk)
  exact h.2.2 k (hwf k this)
end
end Go.Proofs.YtbnihoahhomooaaGreatDoor
