import Derived.Test.YtbnihoahhomooaaGreatDoorA26
import Derived.Test.YtbnihoahhomooaaGreatDoorA27
import Derived.Test.YtbnihoahhomooaaGreatDoorA34
set_option maxRecDepth 100000
set_option maxHeartbeats 8000000
set_option linter.all false
namespace Go.Proofs.YtbnihoahhomooaaGreatDoor
open Go.Value renaming int→I,slice→Y,string→Z,pointer→Zp
open Go.Ending renaming returned→Zr
open _root_.ByteArray renaming empty→Ze
open Go.IntKind renaming i64→J
open Option renaming none→O
open Go.RowKit
def yL (t:ByteArray) (e:Int) (B:List Int) (n:Nat):Nat:=(List.range n).countP (fun (j:Nat)=>amB t (j:Int)&&decide (e≤B.getD j (-1)))
theorem Kn (t:ByteArray) (e:Int) (B:List Int) (n:Nat):yL t e B (n+1)=yL t e B n+(if (amB t n&&decide (e≤B.getD n (-1)))=true then 1 else 0):=by
 unfold yL;rw[List.range_succ,List.countP_append,List.countP_singleton]
section
variable {N:Nat} {w w':World} {g:Nat} {K K':Kw} {V V':Kv}
theorem zL (h:KAt N w g K V) (z:KSz K) (q:Nat) (hq:q<K.nds.length) (he0:0≤K.nds[q].R.epoch) (he:K.nds[q].R.epoch<(K.groups.length:Int)) (hg:∀ t∈K.groups,t.size≤1000000) (hct:((K.groups.getD K.nds[q].R.epoch.toNat ⟨#[]⟩).size:Int)<2*(yL (K.groups.getD K.nds[q].R.epoch.toNat ⟨#[]⟩) K.nds[q].R.epoch K.begun K.n.toNat:Int)) :
  Calls Tryz.prog 62 #[Zp (some ⟨g,0,O⟩),I J q] w fun e w'=>e=Zr (.bool true)∧Below w.heap.size w w':=by
 obtain⟨n,hn⟩:∃ n:Nat,K.n=n:=⟨K.n.toNat,by have:=z.n3;omega⟩
 have z3:=z.n3;have z1:=z.nds;have z7:=z.n7;have zd:=z.down;have zb:=z.begun;have z10:=z.opn;rw[hn] at z1 z7 z3 zd zb;have HC1:Hid (∀ w2,Below w.heap.size w w2→w2.cell? ⟨g,1,O⟩=some (I J n)):=fun w2 hw2=>by rw[← hn];exact (h.below hw2).cell 1
 obtain⟨aN,cN,hvN⟩:=aj h.rN
 have HC2:Hid (∀ w2,Below w.heap.size w w2→w2.cell? ⟨g,2,O⟩=some (Y aN K.nds.length cN)):=fun w2 hw2=>by rw[← hvN];exact (h.below hw2).cell 2
 have HN:=ah (fun (w2:World) (hw2:Below w.heap.size w w2)=>KAt.ptr h hvN hw2)
 obtain⟨aG,cG,hvG⟩:=aj h.rG
 have HC11:Hid (∀ w2,Below w.heap.size w w2→w2.cell? ⟨g,11,O⟩=some (Y aG K.groups.length cG)):=fun w2 hw2=>by rw[← hvG];exact (h.below hw2).cell 11
 have HG:=ah (fun (w2:World) (hw2:Below w.heap.size w w2)=>KAt.grp h hvG hw2)
 obtain⟨aB,cB,hvB⟩:=aj h.rB
 have HC4:Hid (∀ w2,Below w.heap.size w w2→w2.cell? ⟨g,4,O⟩=some (Y aB K.begun.length cB)):=fun w2 hw2=>by rw[← hvB];exact (h.below hw2).cell 4
 have HB:=ah (fun (w2:World) (hw2:Below w.heap.size w w2)=>KAt.bgn h hvB hw2)
 have HWh:=ah (fun (w2:World) (hw2:Below w.heap.size w w2)=>KAt.whr h hw2)
 obtain⟨ia,hia⟩:=Int.eq_ofNat_of_zero_le he0
 have hial:ia<K.groups.length:=by omega
 have sg:=hg _ (List.getElem_mem hial);have eG:K.groups.getD K.nds[q].R.epoch.toNat ⟨#[]⟩=K.groups[ia]:=by
  rw[hia,List.getD_eq_getElem?_getD]
  show (K.groups[((ia:Nat):Int).toNat]?).getD ⟨#[]⟩=_
  rw[Int.toNat_natCast,List.getElem?_eq_getElem hial];rfl
 rw[eG,hia,hn,Int.toNat_natCast] at hct;have HBg:Hid (∀ k,(hk:k<n)→K.begun.getD k (-1)=K.begun[k]'(by omega)):=fun k hk=>by rw[List.getD_eq_getElem?_getD,List.getElem?_eq_getElem (by omega)];rfl
 have HQ:=ah (HWh.out w (Below.refl _ _) q hq);rw[hia] at HQ;obtain⟨b1,o1,rfl,_,d1⟩:=HN.out w (Below.refl _ _) q hq
 have c2:=HC2.out w (Below.refl _ _);have j1:(0:Int)≤(q:Int):=by omega
 have j2:(q:Int)<(K.nds.length:Int):=by omega
 have j5:(ia:Int)<(K.groups.length:Int):=by omega
 have HG1:Hid (∀ w2,Below w.heap.size w w2→∃ b off,aG=some ⟨b,off,O⟩∧b<w2.heap.size∧w2.cell? ⟨b,off+ia,O⟩=some (Z K.groups[ia])):=fun w2 hw2=>HG.out w2 hw2 ia hial
 have HB1:Hid (∀ w2,Below w.heap.size w w2→∀ k,(hk:k<n)→∃ b off,aB=some ⟨b,off,O⟩∧b<w2.heap.size∧w2.cell? ⟨b,off+k,O⟩=some (I J (K.begun[k]'(by omega)))):=fun w2 hw2 k hk=>HB.out w2 hw2 k (by omega)
 have j6:(n:Int)≤(K.begun.length:Int):=by omega
 clear h z hg he0 he HWh HG HN HB hia;generalize K.groups[ia]=t at *;generalize K.nds[q].b=bb at *;generalize K.nds[q].R.view=r2 at *;generalize K.nds[q].R.status=r3 at *;generalize K.nds[q].R.decided=r4 at *;have HA:Hid (∀ (k:Int) (w:World),Calls Tryz.prog 56 #[Z t,I J k] w fun e w'=>e=Zr (.bool (amB t k))∧w'=w):=fun k w=>xG t k w (by omega)
 have HCs:Hid (∀ k,(hk:k<n)→yL t ia K.begun (k+1)=yL t ia K.begun k+(if (amB t k&&decide ((ia:Int)≤K.begun[k]'(by omega)))=true then 1 else 0)):=fun k hk=>by rw[Kn,HBg.out k hk]
 have HC0:Hid (yL t ia K.begun 0=0):=by unfold Hid;rfl
 clear HBg;generalize hgc:yL t ia K.begun=bc at *;clear hgc;go_enter Tryz.func62,Tryz.ntmps62;go_wp2_with fail;refine HQ.out.mono ?_;rintro e w1 ⟨rfl,nn,hw1⟩;have hb1:Below w.heap.size w w1:=by rw[hw1];exact below_drewN (Below.refl _ _) nn
 clear hw1;have c11:=HC11.out _ hb1;obtain⟨b3,o3,rfl,_,d3⟩:=HG1.out _ hb1
 go_wp2_with fail;go_loopw [10,11] (fun m i wr=>∃ k:Nat,bc k≤k∧k≤n∧i=I J k∧m=I J (bc k:Nat)∧Below w.heap.size w wr) (fun _ i _=>n-(intOf i).toNat)
 case atStart=>exact⟨0,by have:=HC0.out;omega,Nat.zero_le _,rfl,by rw[HC0.out];rfl,hb1⟩
 case round =>
  obtain⟨k,hck,hk,rfl,rfl,hbw⟩:=hrel
  have k1:=HC1.out _ hbw;by_cases hlt:k<n
  ·obtain⟨b2,o2,rfl,_,d2⟩:=HB1.out _ hbw k hlt
   have k4:=HC4.out _ hbw;have j1:(0:Int)≤(k:Int):=by omega
   have j3:(k:Int)<(K.begun.length:Int):=by omega
   have j4:(k:Int)<(n:Int):=by omega
   have hs:=HCs.out k hlt;generalize K.begun[k]=bg at *;generalize hcc:bc k=c at *;go_wp2_with fail;refine (HA.out _ _).mono ?_;rintro e w4 ⟨rfl,hw4⟩;subst hw4;generalize amB t k=bA at *;have hs3:bc (k+1)=if bA=true∧(ia:Int)≤bg then c+1 else c:=by rw[hs];cases bA <;> by_cases hq:(ia:Int)≤bg <;> simp[hq]
   clear hs;by_cases hge:(ia:Int)≤bg
   all_goals
    cases bA
    all_goals
     simp[hge] at hs3;go_wp2;go_roundw
     case rel=>exact⟨k+1,by omega,by omega,by go_num,by rw[hs3] <;> go_num,hbw⟩
     case measure=>simp[intOf];omega
  ·have j4:¬(k:Int)<(n:Int):=by omega
   have hke:k=n:=by omega
   have hgt:(t.size:Int)<2*(bc k:Int):=by rw[hke];exact hct
   clear hct HCs HC0;generalize bc k=c at *;go_wp2;go_ret;exact⟨rfl,hbw⟩
end
theorem IX {p:Nat→Bool} {n:Nat} (h:∀ k,p k=true→k<n) (m:Nat):(List.range m).countP p≤(List.range n).countP p:=by
 rcases Nat.le_total m n with q|q
 ·obtain⟨d,rfl⟩:=Nat.exists_eq_add_of_le q
  rw[List.range_add,List.countP_append];omega
 ·obtain⟨d,rfl⟩:=Nat.exists_eq_add_of_le q
  rw[List.range_add,List.countP_append];have:((List.range d).map (n+·)).countP p=0:=by
   rw[List.countP_eq_zero];intro k hk hp;obtain⟨j,_,rfl⟩:=List.mem_map.1 hk
   have:=h _ hp
   omega
  omega
theorem Aw (st:List Bool):Rp.starters st=(List.range st.length).countP (fun k=>st.getD k false):=by
 have e:st=(List.range st.length).map (fun k=>st.getD k false):=by
  apply List.ext_getElem
  ·simp
  ·intro i h1 h2;simp only[List.getElem_map,List.getElem_range];rw[List.getD_eq_getElem?_getD,List.getElem?_eq_getElem h1];rfl
 unfold Rp.starters
 conv=>lhs;rw[e]
 rw[List.countP_map]
 rfl
namespace Rp
theorem yu:∀ (f:Nat) (r:Rp) (p:Int),r.epoch≤(dZ f r p).epoch
 | 0,_,_=>Int.le_refl _
 | f+1,r,p=>by
  unfold dZ
  split
  ·dsimp only
   split
   ·rw[OB,gK];omega
   ·have:=yu f (r.carried (r.log.getD r.decided (0,0,⟨#[]⟩))) p
    rw[gK] at this;exact this
  ·exact Int.le_refl _
theorem KX {r:Rp} {m:Pm} (h:r.epoch<m.epoch):r.epoch<(r.bK m).epoch:=by
 unfold bK
 split
 ·unfold bZ aT
  split
  ·have:=yu (((((r.enter m).over m.log).bH).log.length)-(((r.enter m).over m.log).bH).decided) (((r.enter m).over m.log).bH) m.commit
   exact Int.lt_of_lt_of_le h this
  ·have:=yu ((((((r.enter m).over m.log).bH).ack (((r.enter m).over m.log).bH).iB).log.length)-((((r.enter m).over m.log).bH).ack (((r.enter m).over m.log).bH).iB).decided) ((((r.enter m).over m.log).bH).ack (((r.enter m).over m.log).bH).iB) m.commit
   exact Int.lt_of_lt_of_le h this
 ·split
  ·unfold leave aT;have:=yu ((((r.enter m).leave0.over (dW m.log (r.enter m).epoch)).log.length)-((r.enter m).leave0.over (dW m.log (r.enter m).epoch)).decided) ((r.enter m).leave0.over (dW m.log (r.enter m).epoch)) m.commit
   exact Int.lt_of_lt_of_le h this
  ·exact h
end Rp
structure DnP (K:Kw) (x:Nod) (R':Rp):Prop where
 dn:Done x.R (MI K.list (wt K.wishes) K.groups K.begun) R'
 ok:Ok R'
 rc:Rp.RcI R'
 id:R'.id=x.R.id
 n:R'.n=x.R.n
section
variable {K:Kw} {q:Nat} {x:Nod} {R':Rp}
theorem KZ (ci:CI K) (hi:KI K) (hx:K.nds[q]? = some x) (d:DnP K x R') (h5:x.R.status=5) (h4:R'.status=4) (he:R'.epoch=x.R.epoch) :
  ∃ st:List Bool,eZ R'.grp<(Rp.starters st:Int)∧∀ k:Nat,st.getD k false=true→iQ R'.grp k=true∧R'.epoch≤K.begun.getD k (-1):=by
 obtain⟨ri,_,_⟩:=ci.nd x (List.mem_of_getElem? hx)
 have dn:=d.dn;rcases dn with rfl|rfl|rfl|⟨P,hm,mi,rfl⟩
 ·omega
 ·exfalso
  unfold Rp.lF at h4;have hl:¬x.R.leads=true:=by unfold Rp.leads;simp[h5]
  rw[if_neg hl,if_neg (by omega),if_neg (by omega),if_pos h5] at h4
  have:x.R.bS.status=x.R.status:=rfl
  omega
 ·exfalso
  unfold Rp.suspect Rp.carries at h4;rw[if_neg (by simp[h5])] at h4
  omega
 ·unfold Rp.take at h4 he ⊢;by_cases h1:P.kind=113∨P.kind=109
  ·exfalso
   rw[if_pos h1] at h4;unfold Rp.bT at h4;have hl:¬x.R.leads=true:=by unfold Rp.leads;simp[h5]
   rw[if_neg hl] at h4;omega
  ·rw[if_neg h1] at h4 he ⊢;have hp:=hm.2 h1;by_cases h2:x.R.alive P=true
   ·rw[if_pos h2] at h4 he ⊢;obtain⟨lv,ak,hl⟩:=uK P.lives (List.range x.R.n.toNat) x.R
    have hl':x.R.learn P.lives={ x.R with lives:=lv,acks:=ak }:=hl
    rw[hl'] at h4 he ⊢;generalize hr1:(({ x.R with lives:=lv,acks:=ak }:Rp).pruned)=r1 at h4 he ⊢
    have s1:r1.status=5:=by rw[← hr1];exact h5
    have s2:r1.epoch=x.R.epoch:=by rw[← hr1];rfl
    have s3:r1.grp=x.R.grp:=by rw[← hr1];rfl
    have s4:r1.started=x.R.started:=by rw[← hr1];rfl
    unfold Rp.bB at h4 he ⊢;rw[if_neg (by omega)] at h4 he ⊢
    by_cases k1:P.kind=115
    ·exfalso
     rw[if_pos k1] at h4 he;unfold Rp.dY at h4 he;by_cases k2:r1.epoch<P.epoch
     ·rw[if_pos k2] at he;have:=Rp.KX k2
      omega
     ·rw[if_neg k2,if_neg (by unfold Rp.carries;simp[s1])] at h4
      omega
    ·rw[if_neg k1] at h4 he ⊢;by_cases k3:P.kind=114
     ·exfalso
      rw[if_pos k3] at h4;unfold Rp.answer at h4;rw[if_neg (by simp[s1])] at h4
      omega
     ·rw[if_neg k3] at h4 he ⊢;by_cases k4:P.kind=116
      ·rw[if_pos k4] at h4 he ⊢;unfold Rp.eB at h4 he ⊢;by_cases k5:((r1.status==5)&&(P.epoch==r1.epoch)&&r1.mem P.frm)=true
       ·rw[if_pos k5] at h4 he ⊢;dsimp only at h4 he ⊢;by_cases k6:eZ r1.grp<(Rp.starters (r1.started.set P.frm.toNat true):Int)
        ·rw[if_pos k6];simp only[Bool.and_eq_true,beq_iff_eq] at k5;obtain⟨⟨_,k7⟩,k8⟩:=k5
         refine⟨r1.started.set P.frm.toNat true,k6,fun k hk=>?_⟩
         show iQ r1.grp k=true∧r1.epoch≤_
         by_cases e:P.frm.toNat=k
         ·subst e;have e2:((P.frm.toNat:Nat):Int)=P.frm:=Int.toNat_of_nonneg hp.f0
          refine⟨by rw[e2];exact k8,?_⟩
          rw[← k7];exact mi.t k4
         ·rw[List.getD_eq_getElem?_getD,List.getElem?_set_ne e,← List.getD_eq_getElem?_getD,s4] at hk;rw[s2,s3];exact ri.st h5 k hk
        ·rw[if_neg k6] at h4
         exfalso
         have:({ r1 with started:=r1.started.set P.frm.toNat true }:Rp).status=r1.status:=rfl
         omega
       ·rw[if_neg k5] at h4;omega
      ·rw[if_neg k4] at h4 he ⊢
       exfalso
       by_cases k5:P.kind=97
       ·rw[if_pos k5] at h4;omega
       ·rw[if_neg k5,if_pos (.inr s1)] at h4;unfold Rp.cK at h4
        split at h4
        ·have:(r1.bare P.frm 103).status=r1.status:=rfl
         omega
        ·split at h4
         ·have:(r1.tell P.frm).status=r1.status:=rfl
          omega
         ·omega
   ·rw[if_neg h2] at h4;omega
theorem Jq {G:List ByteArray} {B:List Int} {n:Nat} {e:Int} (hn:(n:Int)≤7) {t:ByteArray} (hg:aV t.data.toList n=true) {st:List Bool} (h1:eZ (dA t)<(Rp.starters st:Int)) (h2:∀ k:Nat,st.getD k false=true→iQ (dA t) k=true∧e≤B.getD k (-1)) :
  ((t.size:Nat):Int)<2*(yL t e B n:Int):=by
 have gk:=rC t n;unfold dz at gk;rw[if_pos hg] at gk;have ec:jJ (dA t)=t:=Ho hg
 have hd:∀ x∈dA t,0≤x∧x<10:=fun x hx=>by have:=gk.2 x hx;omega
 have le:Rp.starters st≤yL t e B n:=by
  rw[Aw];refine Nat.le_trans (IX (p:=fun k=>st.getD k false) (n:=n) (fun k hk=>?_) _) ?_
  ·have:=(h2 k hk).1
   unfold iQ at this;rw[List.any_eq_true] at this;obtain⟨y,hy,ey⟩:=this
   have:=gk.2 y hy
   simp only[beq_iff_eq] at ey;omega
  ·unfold yL;refine List.countP_mono_left fun k _ hk=>?_
   obtain⟨a,b⟩:=h2 k hk
   have:amB t k=true:=by
    have:=Kk hd k
    rw[ec] at this;rw[this];exact a
   rw[this];simpa using b
 have hl:=jq hg;have e2:t.data.toList.length=t.size:=by rw[Array.length_toList];rfl
 have e3:(dA t).length=t.size:=jA t
 unfold eZ at h1;rw[e3] at h1;rcases hl with q|q
 ·rw[e2] at q;rw[q] at h1 ⊢;have:(((3:Nat):Int)-1).tdiv 2=1:=by decide
  omega
 ·rw[e2] at q;rw[q] at h1 ⊢;have:(((5:Nat):Int)-1).tdiv 2=2:=by decide
  omega
end
section
variable {N:Nat} {w w':World} {g:Nat} {K K':Kw} {V V':Kv}
theorem Gf (h:KAt N w g K V) (z:KSz K) (he:∀ x∈K.nds,0≤x.R.epoch∧x.R.epoch≤1000) (hlog:∀ x∈K.nds,x.R.log.length≤1000) (hg:∀ t∈K.groups,t.size≤1000000) :
  Calls Tryz.prog 69 #[Zp (some ⟨g,0,O⟩)] w fun e w'=>sH w w' e:=by
 have z10:=z.opn;obtain⟨aO,cO,hvO⟩:=aj h.rO
 have HO:=ah (fun (w2:World) (hw2:Below w.heap.size w w2)=>KAt.opn h hvO hw2)
 have HC9:Hid (∀ w2,Below w.heap.size w w2→w2.cell? ⟨g,9,O⟩=some (Y aO K.opn.length cO)):=fun w2 hw2=>by rw[← hvO];exact (h.below hw2).cell 9
 have HS:Hid (∀ w2,Below w.heap.size w w2→Calls Tryz.prog 113 #[Zp (some ⟨g,0,O⟩)] w2 fun e w'=>sH w2 w' e):=fun w2 hw2=>Ei (h.below hw2) z he hlog hg
 clear h z he hlog hg;go_enter Tryz.func69,Tryz.ntmps69;go_wp2_with fail;go_loopw [3] (fun i wr=>∃ k:Nat,1≤k∧k≤10∧i=I J k∧Below w.heap.size w wr) (fun i _=>10-(intOf i).toNat)
 case atStart=>exact⟨1,by omega,by omega,rfl,Below.refl _ _⟩
 case round =>
  obtain⟨k,hk1,hk,rfl,hbw⟩:=hrel
  by_cases hlt:k<10
  ·obtain⟨b2,o2,rfl,hb2,d2⟩:=HO.out _ hbw k (by omega)
   have c9:=HC9.out _ hbw;have j1:(0:Int)≤(k:Int):=by omega
   have j3:(k:Int)<(K.opn.length:Int):=by omega
   have j4:(k:Int)≤9:=by omega
   generalize K.opn[k]=ov at *;by_cases hv:(0:Int)≤ov
   ·go_wp2;go_ret;exact⟨_,rfl,hbw⟩
   ·go_wp2;go_roundw
    case rel=>exact⟨k+1,by omega,by omega,by go_num,hbw⟩
    case measure=>simp[intOf];omega
  ·have j4:¬(k:Int)≤9:=by omega
   go_wp2_with fail;refine (HS.out _ hbw).mono ?_;rintro e w1 ⟨b,rfl,hb⟩;go_wp2;go_ret;exact⟨_,rfl,hbw.trans (hb.mono hbw.size)⟩
end
theorem Jg {t:ByteArray} {n m:Nat} (h:aV t.data.toList (n:Int)=true) (hm:m<t.size):48≤t[m].toNat∧t[m].toNat<48+n:=by
 have e:t.data.toList.length=t.size:=by rw[Array.length_toList];rfl
 have h2:=nJ h m (by omega)
 rw[atS hm,zS] at h2
 split at h2
 ·omega
 ·omega
theorem Mw {x:Int} (h1:0≤x) (h2:x≤255):IntKind.u8.wrap x=x:=by
 unfold IntKind.wrap;simp[IntKind.signed,IntKind.bits];omega
section
variable {N:Nat} {w w':World} {g:Nat} {K K':Kw} {V V':Kv}
def Hf (w w':World) (e:Ending):Prop:=∃ (v:Value) (l:List ByteArray),e=Zr v∧w'.ownsRow w.heap.size 9 1 v l.length (l.map Value.string)∧(∀ s∈l,s.size≤1000)∧l.length≤20∧Below w.heap.size w w'
theorem Ed (h:KAt N w g K V) (hi:KI K) (gr:Gr K) (q:Nat) (hq:q<K.nds.length) :
  Calls Tryz.prog 112 #[Zp (some ⟨g,0,O⟩),I J q] w fun e w'=>sH w w' e:=by
 have z:=hi.sz;obtain⟨n,hn⟩:∃ n:Nat,K.n=n:=⟨K.n.toNat,by have:=z.n3;omega⟩
 have z3:=z.n3;have z1:=z.nds;have z7:=z.n7;have zd:=z.down;have zb:=z.begun;have z10:=z.opn;rw[hn] at z1 z7 z3 zd zb;have HC1:Hid (∀ w2,Below w.heap.size w w2→w2.cell? ⟨g,1,O⟩=some (I J n)):=fun w2 hw2=>by rw[← hn];exact (h.below hw2).cell 1
 obtain⟨aN,cN,hvN⟩:=aj h.rN
 have HC2:Hid (∀ w2,Below w.heap.size w w2→w2.cell? ⟨g,2,O⟩=some (Y aN K.nds.length cN)):=fun w2 hw2=>by rw[← hvN];exact (h.below hw2).cell 2
 have HN:=ah (fun (w2:World) (hw2:Below w.heap.size w w2)=>KAt.ptr h hvN hw2)
 obtain⟨aG,cG,hvG⟩:=aj h.rG
 have HC11:Hid (∀ w2,Below w.heap.size w w2→w2.cell? ⟨g,11,O⟩=some (Y aG K.groups.length cG)):=fun w2 hw2=>by rw[← hvG];exact (h.below hw2).cell 11
 have HG:=ah (fun (w2:World) (hw2:Below w.heap.size w w2)=>KAt.grp h hvG hw2)
 have HWh:=ah (fun (w2:World) (hw2:Below w.heap.size w w2)=>KAt.whr h hw2)
 have hni:=(hi.nod q _ (List.getElem?_eq_getElem hq)).ok;have hgr:=gr.ep _ (List.getElem_mem hq);have hep:=hni.ep;have hvi:=hni.vi;have HGr:Hid (∀ (i:Nat) (hi:i<K.groups.length),aV (K.groups[i]).data.toList K.n=true∧((K.groups[i]).size=3∨(K.groups[i]).size=5)):=fun i hl=>⟨hi.grps _ (List.getElem_mem hl),hi.gsz _ (List.getElem_mem hl)⟩
 have HQ:=ah (HWh.out w (Below.refl _ _) q hq);obtain⟨b1,o1,rfl,_,d1⟩:=HN.out w (Below.refl _ _) q hq
 have c2:=HC2.out w (Below.refl _ _);have j1:(0:Int)≤(q:Int):=by omega
 have j2:(q:Int)<(K.nds.length:Int):=by omega
 clear h z hi gr hni;generalize K.nds[q].b=bb at *;generalize K.nds[q].R.epoch=r1 at *;generalize K.nds[q].R.view=r2 at *;generalize K.nds[q].R.status=r3 at *;generalize K.nds[q].R.decided=r4 at *;by_cases h3:r3=3
 focus
  subst h3;clear hgr
 rotate_left
 focus
  have hgr':r1<(K.groups.length:Int):=hgr.resolve_left h3
  have h3':(r3==3)=false:=beq_eq_false_iff_ne.2 h3
  obtain⟨ia,rfl⟩:=Int.eq_ofNat_of_zero_le hep.1
  obtain⟨vv,rfl⟩:=Int.eq_ofNat_of_zero_le hvi.1
  have hial:ia<K.groups.length:=by omega
  have hG2:=HGr.out ia hial;rw[hn] at hG2;have HG1:Hid (∀ w2,Below w.heap.size w w2→∃ b off,aG=some ⟨b,off,O⟩∧b<w2.heap.size∧w2.cell? ⟨b,off+ia,O⟩=some (Z K.groups[ia])):=fun w2 hw2=>HG.out w2 hw2 ia hial
  have j5:(ia:Int)<(K.groups.length:Int):=by omega
  clear hgr hgr' HG HGr h3;generalize K.groups[ia]=t at *;have hts:0<t.size:=by omega
  have hmod:=Nat.mod_lt vv hts;have hb:=Jg hG2.1 hmod;have e1:IntKind.i64.wrap ((vv:Int).tmod (t.size:Int))=((vv % t.size:Nat):Int):=by
   rw[Int.tmod_eq_emod_of_nonneg (by omega)]
   rw[show ((vv:Int) % (t.size:Int))=((vv % t.size:Nat):Int) from (Int.natCast_emod vv t.size).symm]
   exact fC (by omega) (by omega)
  have e0:(vv:Int).tmod (t.size:Int)=((vv % t.size:Nat):Int):=by
   rw[Int.tmod_eq_emod_of_nonneg (by omega)]
   exact (Int.natCast_emod vv t.size).symm
  have e3:¬(t.size:Int)=0:=by omega
  have e7:¬t=Ze:=by intro hc;rw[hc] at hts;exact absurd hts (by decide)
  have HJ:Hid (∀ j:Nat,j<n→j<K.nds.length):=fun j hj=>by omega
  generalize vv % t.size=m at *;have e4:(0:Int)≤(m:Int):=by omega
  have e5:(m:Int)<(t.size:Int):=by omega
  obtain⟨j,hj⟩:∃ j:Nat,(t[m].toNat:Int)-48=j:=⟨t[m].toNat-48,by omega⟩
  have e8:IntKind.u8.wrap ((t[m].toNat:Int)-48)=(j:Int):=by rw[hj];exact Mw (by omega) (by omega)
  have e9:IntKind.i64.wrap (j:Int)=(j:Int):=fC (by omega) (by omega)
  have e10:(0:Int)≤(j:Int):=by omega
  have e11:(j:Int)<(K.nds.length:Int):=by omega
  have hjl:j<K.nds.length:=by omega
  clear hG2 hb
 rotate_left
 all_goals
  go_enter Tryz.func112,Tryz.ntmps112;go_wp2_with fail;refine HQ.out.mono ?_;rintro e w1 ⟨rfl,nn,hw1⟩;have hb1:Below w.heap.size w w1:=by rw[hw1];exact below_drewN (Below.refl _ _) nn
  clear hw1
 ·go_wp2;go_ret;exact⟨_,rfl,hb1⟩
 ·have c11:=HC11.out _ hb1;have c2':=HC2.out _ hb1
  obtain⟨b3,o3,rfl,_,d3⟩:=HG1.out _ hb1
  obtain⟨b4,o4,he4,_,d4⟩:=HN.out _ hb1 j hjl
  cases he4;have HQ2:Hid (∀ n2,Calls Tryz.prog 30 #[Zp (some ⟨K.nds[j].b,0,O⟩)] (w1.drewN n2) fun e w'=>e=Zr (.tuple #[I J K.nds[j].R.epoch,I J K.nds[j].R.view,I J K.nds[j].R.status,I J (K.nds[j].R.decided:Int)])∧∃ n,w'=(w1.drewN n2).drewN n):=fun n2=>HWh.out _ (below_drewN hb1 n2) j hjl
  clear HWh;generalize K.nds[j].b=bb2 at *;generalize K.nds[j].R.epoch=s1 at *;generalize K.nds[j].R.view=s2 at *;generalize K.nds[j].R.status=s3 at *;generalize K.nds[j].R.decided=s4 at *;go_wp2_with fail;go_quiet ((go_at_call 30;exact Calls.quiet_of (HQ2.out _)))
  go_wp2
  all_goals go_ret
  all_goals exact⟨_,rfl,below_drewN hb1 _⟩
end
section
variable {N:Nat} {w w':World} {g:Nat} {K K':Kw} {V V':Kv}
theorem Gh (h:KAt N w g K V) (hi:KI K) (gr:Gr K) (q:Nat) (hq:q<K.nds.length) (vl:Value) (l:List (Int×ByteArray)) (hl:yG w vl l) (hf:Fr (iy g K V) vl) (hs:K.nds[q].R.status=3→∀ x∈l,Rp.jM x.2) (ho:∀ o∈l,OI K.list (wt K.wishes) K.groups K.begun K.n q o) (hm:dI K+l.length≤900000000000) :
  Calls Tryz.prog 63 #[Zp (some ⟨g,0,O⟩),I J q,vl] w fun e w'=>StE N w w' g K V l.length e:=by
 by_cases s3:K.nds[q].R.status=3
 ·exact CZ h hi gr q hq vl l hl hf hs ho hm s3
 ·exact CY h hi gr q hq vl l hl hf hs ho hm s3
end
section
variable {N:Nat} {w w':World} {g:Nat} {K K':Kw} {V V':Kv}
def fM (K:Kw) (q:Nat) (x:Nod):Kw:={ K with nds:=K.nds.set q x }
theorem qU {q:Nat} {x:Nod} (hq:q<K.nds.length):(fM K q x).nds[q]? = some x:=List.getElem?_set_self hq
theorem KI.fM (h:KI K) {q:Nat} {x x1:Nod} (hx:K.nds[q]? = some x) (hn:NI K.n q x1):KI (fM K q x1) :=
 ⟨⟨h.sz.n3,h.sz.n7,by have:=h.sz.nds;simpa [Go.Proofs.YtbnihoahhomooaaGreatDoor.fM] using this,h.sz.down,h.sz.begun,h.sz.opn⟩,h.part,fun j y hy=>by
  unfold Go.Proofs.YtbnihoahhomooaaGreatDoor.fM at hy;simp only at hy
  by_cases e:q=j
  ·subst e;rw[List.getElem?_set_self (List.getElem?_eq_some_iff.1 hx).1] at hy;cases hy;exact hn
  ·rw[List.getElem?_set_ne e] at hy;exact h.nod j y hy,h.net,h.wish,h.opn,h.list,h.grps,h.li,h.gl⟩
structure Did (N:Nat) (w w1:World) (g:Nat) (K:Kw) (V:Kv) (q:Nat) (x x1:Nod) (c:Nat) (vl:Value) (l:List (Int×ByteArray)):Prop where
 kst:Kst N w w1 g K V (fM K q x1) V
 ki:KI (fM K q x1)
 ms:dI (fM K q x1)+l.length≤dI K+c
 out:yG w1 vl l
 fr:Fr (iy g (fM K q x1) V) vl
 lt:∀ k,vl.ownBlock=some k→k<w1.heap.size
 sil:x1.R.status=3→∀ y∈l,Rp.jM y.2
 bx:x1.b=x.b
 ex:∃ R',DnP K x R'∧x1.R={ R' with out:=[] }∧l=R'.out
theorem CP {w1:World} {q:Nat} {x:Nod} {R':Rp} {c:Nat} {vt:Value} {W' F':List Nat} {V1:Rv} (h:KAt N w g K V) (hi:KI K) (hx:K.nds[q]? = some x) (ha:ActP x.R R' c) (hdn:Done x.R (MI K.list (wt K.wishes) K.groups K.begun) R') (ht:jX w w1 x.b x.bl x.W x.F R' vt W' F' V1):Did N w w1 g K V q x ⟨x.b,x.bl,W',F',{ R' with out:=[] },V1⟩ c vt R'.out:=by
 have ni:=hi.nod q x hx;have hr:=h.nodes x (List.mem_of_getElem? hx);have hn1:NI K.n q ⟨x.b,x.bl,W',F',{ R' with out:=[] },V1⟩:=⟨ha.ok,ha.sv,ha.rc,rfl,ht.vt0,by show R'.id=_;rw[ha.id];exact ni.id,by show R'.n=_;rw[ha.n];exact ni.n⟩
 have hk:=h.nod (x':=⟨x.b,x.bl,W',F',{ R' with out:=[] },V1⟩) hx rfl (ht.kp.wid hr.wf) ht.rp ht.g
 have hcm:dh g (fM K q ⟨x.b,x.bl,W',F',{ R' with out:=[] },V1⟩) V=(dh g K V).set (q+9) F':=tJ (K:=K) (K':=fM K q ⟨x.b,x.bl,W',F',{ R' with out:=[] },V1⟩) (x':=⟨x.b,x.bl,W',F',{ R' with out:=[] },V1⟩) rfl rfl
 refine⟨hk,hi.fM hx hn1,?_,Rd.bR ht.out,fun k hk hc=>?_,fun k hk=>(ht.out.lt k hk).2,ha.sil,rfl,⟨R',⟨hdn,ha.ok,ha.rc,ha.id,ha.n⟩,rfl,rfl⟩⟩
 ·have e:=zR K.nds q x ⟨x.b,x.bl,W',F',{ R' with out:=[] },V1⟩ hx
  have b1:=Rp.Ot ni.ok;have b2:=Rp.Ot ha.ok;have m:=ha.mz;have e2:Rp.mz ({ R' with out:=[] }:Rp)=Rp.mz R':=rfl
  unfold dI fM;simp only at e ⊢
  rw[e2] at e;omega
 ·unfold iy at hc;rw[hcm] at hc;obtain⟨d,hd,hkd⟩:=List.mem_flatten.1 hc
  obtain⟨i,hi⟩:=List.getElem?_of_mem hd
  by_cases e:q+9=i
  ·subst e;rw[List.getElem?_set_self (List.getElem?_eq_some_iff.1 (zC (g:=g) (V:=V) hx)).1] at hi;cases hi;exact ht.fr k hk hkd
  ·rw[List.getElem?_set_ne e] at hi;rcases ht.at_ k hk with p|p
   ·exact h.ap.ne (zC hx) hi e k p hkd
   ·have:=h.lt d (List.mem_of_getElem? hi) k hkd
    omega
def DidE (N:Nat) (w w1:World) (g:Nat) (K:Kw) (V:Kv) (q:Nat) (x:Nod) (c:Nat) (e:Ending):Prop:=∃ x1 vl l,e=Zr vl∧Did N w w1 g K V q x x1 c vl l
theorem StE.pre {w1:World} {K1:Kw} {V1:Kv} {c d:Nat} {e:Ending} (h:StE N w1 w' g K1 V1 d e) (k:Kst N w w1 g K V K1 V1) (hm:dI K1+d≤dI K+c) (hnet:K.net.length≤K1.net.length) (hn:K1.n=K.n):StE N w w' g K V c e:=by
 obtain⟨b,K',V',rfl,s⟩:=h
 exact⟨b,K',V',rfl,k.trans s.kst,s.ki,by have:=s.ms;omega,Nat.le_trans hnet s.net,s.n.trans hn,s.gr⟩
section
variable {w1 w2 w3:World} {q:Nat} {x x1:Nod} {c:Nat} {vl:Value} {l:List (Int×ByteArray)} {K3:Kw} {V3:Kv}
theorem qR (h:KAt N w g K V) (hb1:Below w.heap.size w w1) (D:Did N w1 w2 g K V q x x1 c vl l) (hq:q<K.nds.length) (hm:dI K+c≤900000000000) (A:Ag N w2 w3 g (fM K q x1) V K3 V3) (gr:Gr K3) (ho:∀ o∈l,OI K3.list (wt K3.wishes) K3.groups K3.begun K3.n q o) :
  Calls Tryz.prog 63 #[Zp (some ⟨g,0,O⟩),I J q,vl] w3 fun e w'=>StE N w w' g K V c e:=by
 have hq3:q<K3.nds.length:=by rw[A.nds];simpa [fM] using hq
 have hx3:K3.nds[q]=x1:=by
  have e:=qU (K:=K) (x:=x1) hq;rw[← A.nds,List.getElem?_eq_getElem hq3] at e;exact Option.some.inj e
 have ms:=D.ms;have am:=A.dI;refine (Gh A.kst.at_ A.ki gr q hq3 vl l (Rd.kp D.out A.kst.kp D.fr (fun _ h=>h)) (fun k hk hc=>?_) (by rw[hx3];exact D.sil) ho (by omega)).mono ?_
 ·rcases A.kst.sub k hc with p|p
  ·exact D.fr k hk p
  ·have:=D.lt k hk;omega
 ·intro e w' hs;exact hs.pre (((Kst.refl h).below hb1).trans (D.kst.trans A.kst)) (by omega) (by rw[A.net];exact Nat.le_refl _) A.n
theorem yI (h:KAt N w g K V) (hb1:Below w.heap.size w w1) (D:Did N w1 w2 g K V q x x1 c vl l) (A:Ag N w2 w3 g (fM K q x1) V K3 V3):StE N w w3 g K V c (Zr (.bool false)):=by
 have ms:=D.ms;have am:=A.dI;exact⟨false,K3,V3,rfl,((Kst.refl h).below hb1).trans (D.kst.trans A.kst),A.ki,by omega,by rw[A.net];exact Nat.le_refl _,A.n,fun h=>by simp at h⟩
theorem Fj (ci:CI K) (hi:KI K) (hx:K.nds[q]? = some x) (D:Did N w1 w2 g K V q x x1 c vl l) :
  GI (fM K q x1).list (fM K q x1).groups (fM K q x1).n ∧
  ((fM K q x1).list <+: x1.R.log.take x1.R.decided→∀ k,(fM K q x1).list.length≤k→k<x1.R.decided→∀ v∈(fM K q x1).wishes,v.e=x1.R.log.getD k en0→v.bad=false∧v.floor≤(k:Int)) ∧
  (x1.R.status≠3→∀ L' G',(fM K q x1).list <+: L'→(fM K q x1).groups <+: G'→GI L' G' (fM K q x1).n→x1.R.decided≤L'.length→x1.R.log.take x1.R.decided=L'.take x1.R.decided →
   x1.R.epoch<(G'.length:Int)∧jJ x1.R.grp=G'.getD x1.R.epoch.toNat ⟨#[]⟩∧(iQ x1.R.grp x1.R.id=true↔(x1.R.status=1∨x1.R.status=2))∧(x1.R.status=1→(regs x1.R.log:Int)=x1.R.epoch∨(regs x1.R.log:Int)=x1.R.epoch+1)):=by
 obtain⟨R',d,e,_⟩:=D.ex
 rw[e];refine⟨ci.gi,fun hp k hk hkd=>Nb ci hi hx d.dn d.rc d.id d.n d.ok hp hk hkd,fun h3 L' G' hl hg gi h1 h2=>?_⟩
 have cs:=CB ci hi hx d.dn d.rc d.id (L':=L') (G':=G') ⟨hl,hg,gi,fun _=>⟨h1,h2⟩⟩
 exact (Kq gi cs h3).2
theorem zu (ci:CI K) (hi:KI K) (hx:K.nds[q]? = some x) (D:Did N w1 w2 g K V q x x1 c vl l) (A:Ag N w2 w3 g (fM K q x1) V K3 V3)
  (hg:(x1.R.status≠3→x1.R.decided≤K3.list.length∧x1.R.log.take x1.R.decided=K3.list.take x1.R.decided)∧K3.begun=jN (fM K q x1).begun q x1.R):CI K3∧∀ o∈l,OI K3.list (wt K3.wishes) K3.groups K3.begun K3.n q o:=by
 obtain⟨R',d,e,rfl⟩:=D.ex
 have ni:=hi.nod q x hx;obtain⟨hd,hb⟩:=hg
 rw[e] at hd hb;have hb':K3.begun=jN K.begun q R':=hb
 have Nx:Nxt K R' K3.list K3.groups:=⟨A.li,A.gg,A.gi ci.gi,hd⟩
 have cs:=CB ci hi hx d.dn d.rc d.id Nx;have hw:K3.wishes=K.wishes:=A.wl
 have hn3:K3.n=K.n:=A.n
 refine⟨ci.act hi hx d.dn d.rc d.id d.n e Nx (fun y hy=>by have:=A.ki.list.2 y hy;rw[hn3] at this;exact this) (W':=K.wishes) ⟨rfl,fun w hw=>⟨w,hw,rfl⟩,ci.un,fun w hw hbw=>?_⟩ (net':=K.net) (fun p hp=>.inl hp) ni.ou A.nds rfl rfl hb' hw A.net hn3 A.fl,fun o ho=>?_⟩
 ·obtain⟨a,b⟩:=ci.bd w hw hbw
  refine⟨a,b.imp id fun ⟨E,e0,e1,e2,e3⟩=>⟨E,e0,e1,?_,e3⟩⟩
  have:=(Nx.up (q:=q) ci).regs
  omega
 ·rcases cs.out o ho with z|z
  ·rw[ni.ou] at z;simp at z
  ·rw[hw,hb',hn3];rw[ni.n] at z;have:x.R.id=q:=ni.id
   rw[this] at z;exact z
theorem GR (ci:CI K) (hi:KI K) (hx:K.nds[q]? = some x) (hq:q<K.nds.length) (D:Did N w1 w2 g K V q x x1 c vl l) (A:Ag N w2 w3 g (fM K q x1) V K3 V3) (ci3:CI K3) (hbg:K3.begun=jN K.begun q x1.R) (h5:x.R.status=5) (h4:x1.R.status=4) (he:x.R.epoch=x1.R.epoch) :
  Calls Tryz.prog 62 #[Zp (some ⟨g,0,O⟩),I J q] w3 fun e w'=>e=Zr (.bool true)∧Below w3.heap.size w3 w':=by
 have hx1:=qU (K:=K) (x:=x1) hq;have hq3:q<K3.nds.length:=by rw[A.nds];simpa [fM] using hq
 have hx3:K3.nds[q]=x1:=by
  have e:=hx1;rw[← A.nds,List.getElem?_eq_getElem hq3] at e;exact Option.some.inj e
 have hm:x1∈K3.nds:=by rw[← hx3];exact List.getElem_mem hq3
 have ni:=A.ki.nod q x1 (by rw[A.nds];exact hx1)
 obtain⟨R',d,e,_⟩:=D.ex
 obtain⟨st,s1,s2⟩:=KZ ci hi hx d h5 (by rw[e] at h4;exact h4) (by rw[he,e])
 obtain⟨g1,g2⟩:=(ci3.nd x1 hm).1.gp (by omega)
 have hn3:K3.n=K.n:=A.n
 obtain⟨n,hn⟩:∃ n:Nat,K3.n=n:=⟨K3.n.toNat,by have:=A.ki.sz.n3;omega⟩
 have e1:R'.grp=x1.R.grp:=by rw[e]
 have e2:R'.epoch=x1.R.epoch:=by rw[e]
 rw[e1] at s1 s2;rw[e2] at s2;rw[g2] at s1 s2;refine zL A.kst.at_ A.ki.sz q hq3 (by rw[hx3];exact ni.ok.ep.1) (by rw[hx3];exact (Gr.ep ci3 x1 hm).resolve_left (by omega)) (fun t ht=>by have:=A.ki.gsz t ht;omega) ?_
 rw[hx3,hn,Int.toNat_natCast];refine Jq (by have:=A.ki.sz.n7;omega) (G:=K3.groups) (by rw[← hn];exact ci3.gi.grp ni.ok.ep.1 g1) s1 fun k hk=>⟨(s2 k hk).1,Int.le_trans (s2 k hk).2 ?_⟩
 rw[hbg];exact Hl _ _ _ _
theorem Ag.top {u:Int} (A:Ag N w w1 g K V K3 V3) (k:Kst N w1 w2 g K3 V3 { K3 with top:=u } V3):Ag N w w2 g K V { K3 with top:=u } V3:=⟨A.kst.trans k,⟨⟨A.ki.sz.n3,A.ki.sz.n7,A.ki.sz.nds,A.ki.sz.down,A.ki.sz.begun,A.ki.sz.opn⟩,A.ki.part,A.ki.nod,A.ki.net,A.ki.wish,A.ki.opn,A.ki.list,A.ki.grps,A.ki.li,A.ki.gl⟩,A.nds,A.net,A.n,A.wl,A.lv,A.gl,A.fl,A.li,A.gg,A.gi⟩
end
theorem FU (h:KAt N w g K V) (hi:KI K) (gr:Gr K) (q:Nat) (hq:q<K.nds.length) (s:ByteArray) (hnt:NT K.list (wt K.wishes) K.groups K.begun K.n s) (hm:dI K+1≤900000000000) :
  Calls Tryz.prog 34 #[Zp (some ⟨g,0,O⟩),I J q,I J 0,Z s] w fun e w'=>StE N w w' g K V 1 e:=by
 have z:=hi.sz;obtain⟨n,hn⟩:∃ n:Nat,K.n=n:=⟨K.n.toNat,by have:=z.n3;omega⟩
 have z3:=z.n3;have z1:=z.nds;have z7:=z.n7;have zd:=z.down;have zb:=z.begun;have z10:=z.opn;rw[hn] at z1 z7 z3 zd zb;have HC1:Hid (∀ w2,Below w.heap.size w w2→w2.cell? ⟨g,1,O⟩=some (I J n)):=fun w2 hw2=>by rw[← hn];exact (h.below hw2).cell 1
 obtain⟨aN,cN,hvN⟩:=aj h.rN
 have HC2:Hid (∀ w2,Below w.heap.size w w2→w2.cell? ⟨g,2,O⟩=some (Y aN K.nds.length cN)):=fun w2 hw2=>by rw[← hvN];exact (h.below hw2).cell 2
 have HN:=ah (fun (w2:World) (hw2:Below w.heap.size w w2)=>KAt.ptr h hvN hw2)
 obtain⟨aD,cD,hvD⟩:=aj h.rD
 have HC3:Hid (∀ w2,Below w.heap.size w w2→w2.cell? ⟨g,3,O⟩=some (Y aD K.down.length cD)):=fun w2 hw2=>by rw[← hvD];exact (h.below hw2).cell 3
 have HD:=ah (fun (w2:World) (hw2:Below w.heap.size w w2)=>KAt.dwn h hvD hw2)
 have HWh:=ah (fun (w2:World) (hw2:Below w.heap.size w w2)=>KAt.whr h hw2)
 obtain⟨x,hxe⟩:∃ x,K.nds[q]=x:=⟨_,rfl⟩
 have hx:K.nds[q]? = some x:=by rw[List.getElem?_eq_getElem hq,hxe]
 have ni:=hi.nod q x hx;have HQ:=ah (HWh.out w (Below.refl _ _) q hq);rw[hxe] at HQ;have hqd:q<K.down.length:=by omega
 obtain⟨b1,o1,rfl,_,d1⟩:=HN.out w (Below.refl _ _) q hq
 obtain⟨b2,o2,rfl,_,d2⟩:=HD.out w (Below.refl _ _) q hqd
 have c2:=HC2.out w (Below.refl _ _);have c3:=HC3.out w (Below.refl _ _);rw[hxe] at d1;have j1:(0:Int)≤(q:Int):=by omega
 have j2:(q:Int)<(K.nds.length:Int):=by omega
 have j3:(q:Int)<(K.down.length:Int):=by omega
 have HY:Hid (StE N w w g K V 1 (Zr (.bool true))):=⟨true,K,V,rfl,Kst.refl h,hi,by omega,Nat.le_refl _,rfl,fun _=>gr⟩
 have HTk:Hid (∀ w2,Below w.heap.size w w2→Calls Tryz.prog 10 #[Zp (some ⟨x.b,0,O⟩),Z s] w2 fun e w'=>DidE N w2 w' g K V q x 1 e):=fun w2 hw2=>by
  have h2:=h.below hw2;have hr:=h2.nodes x (List.mem_of_getElem? hx);refine (rV hr ni.ok ni.sv ni.ou ni.vt s).mono ?_;rintro e w3 ⟨R',hR',vt,W',F',V1,rfl,ht⟩;rcases hR' with ⟨_,rfl⟩|⟨hw,P,hP,hM,rfl⟩
  ·exact⟨_,vt,_,rfl,CP h2 hi hx (DN ni.ok ni.sv ni.rc ni.ou (.inl rfl)) .same ht⟩
  ·exact⟨_,vt,_,rfl,CP h2 hi hx (DN ni.ok ni.sv ni.rc ni.ou (.inr ⟨P,hP,rfl⟩)) (.take P hP (hnt P (by rw[← ni.n];exact hw) (by rw[← ni.n];exact hM))) ht⟩
 have HN2:Hid (∀ w2,Below w.heap.size w w2→w2.cell? ⟨g,2,O⟩=some (Y (some ⟨b1,o1,O⟩) K.nds.length cN)∧w2.cell? ⟨b1,o1+q,O⟩=some (Zp (some ⟨x.b,0,O⟩))):=fun w2 hw2=>by
  obtain⟨b3,o3,e3,_,d3⟩:=HN.out w2 hw2 q hq
  cases e3;rw[hxe] at d3;exact⟨HC2.out w2 hw2,d3⟩
 have HX:=ah hx;have HGr:=ah gr;have HKi:=ah hi;have HH:=ah h;clear h hi gr z ni hx HWh HN HD hxe HC1 HC2 HC3;generalize K.down[q]=dq at *;cases dq
 ·obtain⟨r1,hr1⟩:∃ r,r=x.R.epoch:=⟨_,rfl⟩
  obtain⟨r3,hr3⟩:∃ r,r=x.R.status:=⟨_,rfl⟩
  rw[← hr1,← hr3] at HQ;have HR1:=ah hr1;have HR3:=ah hr3;clear hr1 hr3;generalize x.R.view=r2 at *;generalize x.R.decided=r4 at HQ;go_enter Tryz.func34,Tryz.ntmps34;go_wp2_with fail;refine HQ.out.mono ?_;rintro e w1 ⟨rfl,nn,hw1⟩;have hb1:Below w.heap.size w w1:=by rw[hw1];exact below_drewN (Below.refl _ _) nn
  clear hw1 c2 c3 d1 d2;obtain⟨c2,d1⟩:=HN2.out _ hb1
  generalize hxb:x.b=bb at *;go_wp2_with fail;refine (HTk.out _ hb1).mono ?_;rintro e w2 ⟨x1,vl,l,rfl,D⟩;have hx1:=qU (K:=K) (x:=x1) hq;have HD:=ah D;obtain⟨pr1,pr2,pr3⟩:=Fj HGr.out HKi.out HX.out D
  have HAg:=ah (qI D.kst.at_ D.ki q x1 hx1 pr1 pr2 pr3);clear pr1 pr2 pr3;have HX1:=ah hx1;obtain⟨al,nl,cl,hvl⟩:∃ a n c,vl=Y a n c:=by
   obtain⟨a,c,e,_⟩:=Rd.form D.out
   exact⟨a,_,c,e⟩
  subst hvl;clear D hx1 c2 d1;have HSn:Hid (∀ {w3:World} {K3:Kw} {V3:Kv},Ag N w2 w3 g (fM K q x1) V K3 V3→Gr K3→(∀ o∈l,OI K3.list (wt K3.wishes) K3.groups K3.begun K3.n q o)→Calls Tryz.prog 63 #[Zp (some ⟨g,0,O⟩),I J q,Y al nl cl] w3 fun e w'=>StE N w w' g K V 1 e):=fun A gr ho=>qR HH.out hb1 HD.out hq hm A gr ho
  have HNo:Hid (∀ {w3:World} {K3:Kw} {V3:Kv},Ag N w2 w3 g (fM K q x1) V K3 V3→StE N w w3 g K V 1 (Zr (.bool false))):=fun A=>yI HH.out hb1 HD.out A
  have HRl:Hid (∀ {w3:World} {K3:Kw} {V3:Kv},Ag N w2 w3 g (fM K q x1) V K3 V3→Gr K3→K3.begun=jN K.begun q x1.R→x.R.status=5→x1.R.status=4→x.R.epoch=x1.R.epoch→Calls Tryz.prog 62 #[Zp (some ⟨g,0,O⟩),I J q] w3 fun e w'=>e=Zr (.bool true)∧Below w3.heap.size w3 w'):=fun A gr hb h5 h4 he=>GR HGr.out HKi.out HX.out hq HD.out A gr hb h5 h4 he
  have HAf:=ah (fun (w3:World) (K3:Kw) (V3:Kv) (A:Ag N w2 w3 g (fM K q x1) V K3 V3) hg=>zu HGr.out HKi.out HX.out HD.out A hg)
  go_wp2_with fail;refine HAg.out.mono ?_;rintro e w3 ⟨bA,K2,V2,rfl,A,hgr⟩;have HA:=ah A;clear A;cases bA
  ·have HFl:=ah (HNo.out HA.out);go_wp2;go_ret;exact HFl.out
  ·obtain⟨hg2,ho2⟩:=HAf.out _ _ _ HA.out (hgr rfl)
   have HG2:Hid (Gr K2):=hg2
   have HO2:=ah ho2;have HBg:=ah (hgr rfl).2;clear hgr hg2 ho2 HAf;obtain⟨aN2,cN2,hvN2⟩:=aj HA.out.kst.at_.rN
   have hq2:q<K2.nds.length:=by rw[HA.out.nds];simpa [fM] using hq
   have hx2:K2.nds[q]=x1:=by
    have e:=HX1.out;rw[← HA.out.nds,List.getElem?_eq_getElem hq2] at e;exact Option.some.inj e
   obtain⟨b4,o4,rfl,_,d4⟩:=HA.out.kst.at_.ptr hvN2 (Below.refl _ _) q hq2
   have c2:w3.cell? ⟨g,2,O⟩=some (Y (some ⟨b4,o4,O⟩) K2.nds.length cN2):=by rw[← hvN2];exact HA.out.kst.at_.cell 2
   have j4:(q:Int)<(K2.nds.length:Int):=by omega
   rw[hx2] at d4;have HW2:=ah (l6 (HA.out.node HX1.out));generalize x1.b=bb1 at *;obtain⟨s1,hs1⟩:∃ r,r=x1.R.epoch:=⟨_,rfl⟩
   obtain⟨s3,hs3⟩:∃ r,r=x1.R.status:=⟨_,rfl⟩
   rw[← hs1,← hs3] at HW2;have HS1:=ah hs1;have HS3:=ah hs3;clear hs1 hs3;generalize x1.R.view=s2 at *;generalize x1.R.decided=s4 at HW2;clear hx2;go_wp2_with fail;refine HW2.out.mono ?_;rintro e w4 ⟨rfl,nn4,hw4⟩;have HA:=ah (HA.out.below (by rw[hw4];exact below_drewN (Below.refl _ _) nn4:Below w3.heap.size w3 w4))
   clear hw4 c2 d4;have c6:w4.cell? ⟨g,6,O⟩=some (I J K2.top):=HA.out.kst.at_.cell 6
   have f6:=HA.out.kst.at_.free 6;by_cases htp:K2.top<s2
   focus
    have HA3:Hid (Ag N w2 (w4.setCell ⟨g,6,O⟩ (I J s2)) g (fM K q x1) V { K2 with top:=s2 } V2):=HA.out.top (HA.out.kst.at_.scalar (K':={ K2 with top:=s2 }) 6 (I J s2) rfl rfl rfl)
    have HG3:Hid (Gr { K2 with top:=s2 }):=HG2.out.top s2
    have HO3:Hid (∀ o∈l,OI ({ K2 with top:=s2 }:Kw).list (wt ({ K2 with top:=s2 }:Kw).wishes) ({ K2 with top:=s2 }:Kw).groups ({ K2 with top:=s2 }:Kw).begun ({ K2 with top:=s2 }:Kw).n q o):=HO2
    have HB3:Hid (({ K2 with top:=s2 }:Kw).begun=jN K.begun q x1.R):=HBg
    clear HA HG2;go_upto_region 17 with fail
    clear c6 f6;generalize w4.setCell ⟨g,6,O⟩ (I J s2)=wZ at *
   rotate_left
   focus
    have HA3:=HA;have HG3:=HG2;have HO3:=HO2;have HB3:Hid (K2.begun=jN K.begun q x1.R):=HBg
   rotate_left
   all_goals
    by_cases r5:r3=5
    ·subst r5;by_cases r4:s3=4
     ·have HRc:=ah (HRl.out HA3.out HG3.out HB3.out HR3.out.symm (HS3.out.symm.trans r4));subst r4;by_cases ref:r1=s1
      ·have ref':(r1==s1)=true:=beq_iff_eq.2 ref
       have HRd:=ah (HRc.out (HR1.out.symm.trans (ref.trans HS1.out)));clear ref HRc;go_wp2_with fail;refine HRd.out.mono ?_;rintro e w6 ⟨rfl,hb6⟩;have HA3:=ah (HA3.out.below hb6);clear hb6;go_wp2_with fail;refine (HSn.out HA3.out HG3.out HO3.out).mono ?_;rintro e w9 ⟨b9,K9,V9,rfl,hS9⟩;go_wp2;go_ret;exact⟨b9,K9,V9,rfl,hS9⟩
      ·have ref':(r1==s1)=false:=beq_eq_false_iff_ne.2 ref
       clear ref;go_wp2_with fail;refine (HSn.out HA3.out HG3.out HO3.out).mono ?_;rintro e w9 ⟨b9,K9,V9,rfl,hS9⟩;go_wp2;go_ret;exact⟨b9,K9,V9,rfl,hS9⟩
     ·have r4':(s3==4)=false:=beq_eq_false_iff_ne.2 r4
      clear r4;go_wp2_with fail;refine (HSn.out HA3.out HG3.out HO3.out).mono ?_;rintro e w9 ⟨b9,K9,V9,rfl,hS9⟩;go_wp2;go_ret;exact⟨b9,K9,V9,rfl,hS9⟩
    ·have r5':(r3==5)=false:=beq_eq_false_iff_ne.2 r5
     clear r5;go_wp2_with fail;refine (HSn.out HA3.out HG3.out HO3.out).mono ?_;rintro e w9 ⟨b9,K9,V9,rfl,hS9⟩;go_wp2;go_ret;exact⟨b9,K9,V9,rfl,hS9⟩
 ·go_enter Tryz.func34,Tryz.ntmps34;go_wp2;go_ret;exact HY.out
end
section
variable {N:Nat} {w w':World} {g:Nat} {K K':Kw} {V V':Kv}
theorem tK (h:KAt N w g K V) (hi:KI K) (gr:Gr K) (q:Nat) (hq:q<K.nds.length) (s:ByteArray) (hm:dI K+50≤900000000000) :
  Calls Tryz.prog 34 #[Zp (some ⟨g,0,O⟩),I J q,I J 1,Z s] w fun e w'=>StE N w w' g K V 50 e:=by
 have z:=hi.sz;obtain⟨n,hn⟩:∃ n:Nat,K.n=n:=⟨K.n.toNat,by have:=z.n3;omega⟩
 have z3:=z.n3;have z1:=z.nds;have z7:=z.n7;have zd:=z.down;have zb:=z.begun;have z10:=z.opn;rw[hn] at z1 z7 z3 zd zb;have HC1:Hid (∀ w2,Below w.heap.size w w2→w2.cell? ⟨g,1,O⟩=some (I J n)):=fun w2 hw2=>by rw[← hn];exact (h.below hw2).cell 1
 obtain⟨aN,cN,hvN⟩:=aj h.rN
 have HC2:Hid (∀ w2,Below w.heap.size w w2→w2.cell? ⟨g,2,O⟩=some (Y aN K.nds.length cN)):=fun w2 hw2=>by rw[← hvN];exact (h.below hw2).cell 2
 have HN:=ah (fun (w2:World) (hw2:Below w.heap.size w w2)=>KAt.ptr h hvN hw2)
 obtain⟨aD,cD,hvD⟩:=aj h.rD
 have HC3:Hid (∀ w2,Below w.heap.size w w2→w2.cell? ⟨g,3,O⟩=some (Y aD K.down.length cD)):=fun w2 hw2=>by rw[← hvD];exact (h.below hw2).cell 3
 have HD:=ah (fun (w2:World) (hw2:Below w.heap.size w w2)=>KAt.dwn h hvD hw2)
 have HWh:=ah (fun (w2:World) (hw2:Below w.heap.size w w2)=>KAt.whr h hw2)
 obtain⟨x,hxe⟩:∃ x,K.nds[q]=x:=⟨_,rfl⟩
 have hx:K.nds[q]? = some x:=by rw[List.getElem?_eq_getElem hq,hxe]
 have ni:=hi.nod q x hx;have HQ:=ah (HWh.out w (Below.refl _ _) q hq);rw[hxe] at HQ;have hqd:q<K.down.length:=by omega
 obtain⟨b1,o1,rfl,_,d1⟩:=HN.out w (Below.refl _ _) q hq
 obtain⟨b2,o2,rfl,_,d2⟩:=HD.out w (Below.refl _ _) q hqd
 have c2:=HC2.out w (Below.refl _ _);have c3:=HC3.out w (Below.refl _ _);rw[hxe] at d1;have j1:(0:Int)≤(q:Int):=by omega
 have j2:(q:Int)<(K.nds.length:Int):=by omega
 have j3:(q:Int)<(K.down.length:Int):=by omega
 have HY:Hid (StE N w w g K V 50 (Zr (.bool true))):=⟨true,K,V,rfl,Kst.refl h,hi,by omega,Nat.le_refl _,rfl,fun _=>gr⟩
 have HTk:Hid (∀ w2,Below w.heap.size w w2→Calls Tryz.prog 59 #[Zp (some ⟨x.b,0,O⟩)] w2 fun e w'=>DidE N w2 w' g K V q x 50 e):=fun w2 hw2=>by
  have h2:=h.below hw2;have hr:=h2.nodes x (List.mem_of_getElem? hx);refine (LG hr ni.ok ni.ou).mono ?_;rintro e w3 ⟨vt,W',F',V1,rfl,ht⟩;exact⟨_,vt,_,rfl,CP h2 hi hx (Ki ni.ok ni.sv ni.rc ni.ou) .lF ht⟩
 have HN2:Hid (∀ w2,Below w.heap.size w w2→w2.cell? ⟨g,2,O⟩=some (Y (some ⟨b1,o1,O⟩) K.nds.length cN)∧w2.cell? ⟨b1,o1+q,O⟩=some (Zp (some ⟨x.b,0,O⟩))):=fun w2 hw2=>by
  obtain⟨b3,o3,e3,_,d3⟩:=HN.out w2 hw2 q hq
  cases e3;rw[hxe] at d3;exact⟨HC2.out w2 hw2,d3⟩
 have HX:=ah hx;have HGr:=ah gr;have HKi:=ah hi;have HH:=ah h;clear h hi gr z ni hx HWh HN HD hxe HC1 HC2 HC3;generalize K.down[q]=dq at *;cases dq
 ·obtain⟨r1,hr1⟩:∃ r,r=x.R.epoch:=⟨_,rfl⟩
  obtain⟨r3,hr3⟩:∃ r,r=x.R.status:=⟨_,rfl⟩
  rw[← hr1,← hr3] at HQ;have HR1:=ah hr1;have HR3:=ah hr3;clear hr1 hr3;generalize x.R.view=r2 at *;generalize x.R.decided=r4 at HQ;go_enter Tryz.func34,Tryz.ntmps34;go_wp2_with fail;refine HQ.out.mono ?_;rintro e w1 ⟨rfl,nn,hw1⟩;have hb1:Below w.heap.size w w1:=by rw[hw1];exact below_drewN (Below.refl _ _) nn
  clear hw1 c2 c3 d1 d2;obtain⟨c2,d1⟩:=HN2.out _ hb1
  generalize hxb:x.b=bb at *;go_wp2_with fail;refine (HTk.out _ hb1).mono ?_;rintro e w2 ⟨x1,vl,l,rfl,D⟩;have hx1:=qU (K:=K) (x:=x1) hq;have HD:=ah D;obtain⟨pr1,pr2,pr3⟩:=Fj HGr.out HKi.out HX.out D
  have HAg:=ah (qI D.kst.at_ D.ki q x1 hx1 pr1 pr2 pr3);clear pr1 pr2 pr3;have HX1:=ah hx1;obtain⟨al,nl,cl,hvl⟩:∃ a n c,vl=Y a n c:=by
   obtain⟨a,c,e,_⟩:=Rd.form D.out
   exact⟨a,_,c,e⟩
  subst hvl;clear D hx1 c2 d1;have HSn:Hid (∀ {w3:World} {K3:Kw} {V3:Kv},Ag N w2 w3 g (fM K q x1) V K3 V3→Gr K3→(∀ o∈l,OI K3.list (wt K3.wishes) K3.groups K3.begun K3.n q o)→Calls Tryz.prog 63 #[Zp (some ⟨g,0,O⟩),I J q,Y al nl cl] w3 fun e w'=>StE N w w' g K V 50 e):=fun A gr ho=>qR HH.out hb1 HD.out hq hm A gr ho
  have HNo:Hid (∀ {w3:World} {K3:Kw} {V3:Kv},Ag N w2 w3 g (fM K q x1) V K3 V3→StE N w w3 g K V 50 (Zr (.bool false))):=fun A=>yI HH.out hb1 HD.out A
  have HRl:Hid (∀ {w3:World} {K3:Kw} {V3:Kv},Ag N w2 w3 g (fM K q x1) V K3 V3→Gr K3→K3.begun=jN K.begun q x1.R→x.R.status=5→x1.R.status=4→x.R.epoch=x1.R.epoch→Calls Tryz.prog 62 #[Zp (some ⟨g,0,O⟩),I J q] w3 fun e w'=>e=Zr (.bool true)∧Below w3.heap.size w3 w'):=fun A gr hb h5 h4 he=>GR HGr.out HKi.out HX.out hq HD.out A gr hb h5 h4 he
  have HAf:=ah (fun (w3:World) (K3:Kw) (V3:Kv) (A:Ag N w2 w3 g (fM K q x1) V K3 V3) hg=>zu HGr.out HKi.out HX.out HD.out A hg)
  go_wp2_with fail;refine HAg.out.mono ?_;rintro e w3 ⟨bA,K2,V2,rfl,A,hgr⟩;have HA:=ah A;clear A;cases bA
  ·have HFl:=ah (HNo.out HA.out);go_wp2;go_ret;exact HFl.out
  ·obtain⟨hg2,ho2⟩:=HAf.out _ _ _ HA.out (hgr rfl)
   have HG2:Hid (Gr K2):=hg2
   have HO2:=ah ho2;have HBg:=ah (hgr rfl).2;clear hgr hg2 ho2 HAf;obtain⟨aN2,cN2,hvN2⟩:=aj HA.out.kst.at_.rN
   have hq2:q<K2.nds.length:=by rw[HA.out.nds];simpa [fM] using hq
   have hx2:K2.nds[q]=x1:=by
    have e:=HX1.out;rw[← HA.out.nds,List.getElem?_eq_getElem hq2] at e;exact Option.some.inj e
   obtain⟨b4,o4,rfl,_,d4⟩:=HA.out.kst.at_.ptr hvN2 (Below.refl _ _) q hq2
   have c2:w3.cell? ⟨g,2,O⟩=some (Y (some ⟨b4,o4,O⟩) K2.nds.length cN2):=by rw[← hvN2];exact HA.out.kst.at_.cell 2
   have j4:(q:Int)<(K2.nds.length:Int):=by omega
   rw[hx2] at d4;have HW2:=ah (l6 (HA.out.node HX1.out));generalize x1.b=bb1 at *;obtain⟨s1,hs1⟩:∃ r,r=x1.R.epoch:=⟨_,rfl⟩
   obtain⟨s3,hs3⟩:∃ r,r=x1.R.status:=⟨_,rfl⟩
   rw[← hs1,← hs3] at HW2;have HS1:=ah hs1;have HS3:=ah hs3;clear hs1 hs3;generalize x1.R.view=s2 at *;generalize x1.R.decided=s4 at HW2;clear hx2;go_wp2_with fail;refine HW2.out.mono ?_;rintro e w4 ⟨rfl,nn4,hw4⟩;have HA:=ah (HA.out.below (by rw[hw4];exact below_drewN (Below.refl _ _) nn4:Below w3.heap.size w3 w4))
   clear hw4 c2 d4;have c6:w4.cell? ⟨g,6,O⟩=some (I J K2.top):=HA.out.kst.at_.cell 6
   have f6:=HA.out.kst.at_.free 6;by_cases htp:K2.top<s2
   focus
    have HA3:Hid (Ag N w2 (w4.setCell ⟨g,6,O⟩ (I J s2)) g (fM K q x1) V { K2 with top:=s2 } V2):=HA.out.top (HA.out.kst.at_.scalar (K':={ K2 with top:=s2 }) 6 (I J s2) rfl rfl rfl)
    have HG3:Hid (Gr { K2 with top:=s2 }):=HG2.out.top s2
    have HO3:Hid (∀ o∈l,OI ({ K2 with top:=s2 }:Kw).list (wt ({ K2 with top:=s2 }:Kw).wishes) ({ K2 with top:=s2 }:Kw).groups ({ K2 with top:=s2 }:Kw).begun ({ K2 with top:=s2 }:Kw).n q o):=HO2
    have HB3:Hid (({ K2 with top:=s2 }:Kw).begun=jN K.begun q x1.R):=HBg
    clear HA HG2;go_upto_region 17 with fail
    clear c6 f6;generalize w4.setCell ⟨g,6,O⟩ (I J s2)=wZ at *
   rotate_left
   focus
    have HA3:=HA;have HG3:=HG2;have HO3:=HO2;have HB3:Hid (K2.begun=jN K.begun q x1.R):=HBg
   rotate_left
   all_goals
    by_cases r5:r3=5
    ·subst r5;by_cases r4:s3=4
     ·have HRc:=ah (HRl.out HA3.out HG3.out HB3.out HR3.out.symm (HS3.out.symm.trans r4));subst r4;by_cases ref:r1=s1
      ·have ref':(r1==s1)=true:=beq_iff_eq.2 ref
       have HRd:=ah (HRc.out (HR1.out.symm.trans (ref.trans HS1.out)));clear ref HRc;go_wp2_with fail;refine HRd.out.mono ?_;rintro e w6 ⟨rfl,hb6⟩;have HA3:=ah (HA3.out.below hb6);clear hb6;go_wp2_with fail;refine (HSn.out HA3.out HG3.out HO3.out).mono ?_;rintro e w9 ⟨b9,K9,V9,rfl,hS9⟩;go_wp2;go_ret;exact⟨b9,K9,V9,rfl,hS9⟩
      ·have ref':(r1==s1)=false:=beq_eq_false_iff_ne.2 ref
       clear ref;go_wp2_with fail;refine (HSn.out HA3.out HG3.out HO3.out).mono ?_;rintro e w9 ⟨b9,K9,V9,rfl,hS9⟩;go_wp2;go_ret;exact⟨b9,K9,V9,rfl,hS9⟩
     ·have r4':(s3==4)=false:=beq_eq_false_iff_ne.2 r4
      clear r4;go_wp2_with fail;refine (HSn.out HA3.out HG3.out HO3.out).mono ?_;rintro e w9 ⟨b9,K9,V9,rfl,hS9⟩;go_wp2;go_ret;exact⟨b9,K9,V9,rfl,hS9⟩
    ·have r5':(r3==5)=false:=beq_eq_false_iff_ne.2 r5
     clear r5;go_wp2_with fail;refine (HSn.out HA3.out HG3.out HO3.out).mono ?_;rintro e w9 ⟨b9,K9,V9,rfl,hS9⟩;go_wp2;go_ret;exact⟨b9,K9,V9,rfl,hS9⟩
 ·go_enter Tryz.func34,Tryz.ntmps34;go_wp2;go_ret;exact HY.out
end
section
variable {N:Nat} {w w':World} {g:Nat} {K K':Kw} {V V':Kv}
theorem zF (h:KAt N w g K V) (hi:KI K) (gr:Gr K) (q:Nat) (hq:q<K.nds.length) (s:ByteArray) (hm:dI K+50≤900000000000) :
  Calls Tryz.prog 34 #[Zp (some ⟨g,0,O⟩),I J q,I J 2,Z s] w fun e w'=>StE N w w' g K V 50 e:=by
 have z:=hi.sz;obtain⟨n,hn⟩:∃ n:Nat,K.n=n:=⟨K.n.toNat,by have:=z.n3;omega⟩
 have z3:=z.n3;have z1:=z.nds;have z7:=z.n7;have zd:=z.down;have zb:=z.begun;have z10:=z.opn;rw[hn] at z1 z7 z3 zd zb;have HC1:Hid (∀ w2,Below w.heap.size w w2→w2.cell? ⟨g,1,O⟩=some (I J n)):=fun w2 hw2=>by rw[← hn];exact (h.below hw2).cell 1
 obtain⟨aN,cN,hvN⟩:=aj h.rN
 have HC2:Hid (∀ w2,Below w.heap.size w w2→w2.cell? ⟨g,2,O⟩=some (Y aN K.nds.length cN)):=fun w2 hw2=>by rw[← hvN];exact (h.below hw2).cell 2
 have HN:=ah (fun (w2:World) (hw2:Below w.heap.size w w2)=>KAt.ptr h hvN hw2)
 obtain⟨aD,cD,hvD⟩:=aj h.rD
 have HC3:Hid (∀ w2,Below w.heap.size w w2→w2.cell? ⟨g,3,O⟩=some (Y aD K.down.length cD)):=fun w2 hw2=>by rw[← hvD];exact (h.below hw2).cell 3
 have HD:=ah (fun (w2:World) (hw2:Below w.heap.size w w2)=>KAt.dwn h hvD hw2)
 have HWh:=ah (fun (w2:World) (hw2:Below w.heap.size w w2)=>KAt.whr h hw2)
 obtain⟨x,hxe⟩:∃ x,K.nds[q]=x:=⟨_,rfl⟩
 have hx:K.nds[q]? = some x:=by rw[List.getElem?_eq_getElem hq,hxe]
 have ni:=hi.nod q x hx;have HQ:=ah (HWh.out w (Below.refl _ _) q hq);rw[hxe] at HQ;have hqd:q<K.down.length:=by omega
 obtain⟨b1,o1,rfl,_,d1⟩:=HN.out w (Below.refl _ _) q hq
 obtain⟨b2,o2,rfl,_,d2⟩:=HD.out w (Below.refl _ _) q hqd
 have c2:=HC2.out w (Below.refl _ _);have c3:=HC3.out w (Below.refl _ _);rw[hxe] at d1;have j1:(0:Int)≤(q:Int):=by omega
 have j2:(q:Int)<(K.nds.length:Int):=by omega
 have j3:(q:Int)<(K.down.length:Int):=by omega
 have HY:Hid (StE N w w g K V 50 (Zr (.bool true))):=⟨true,K,V,rfl,Kst.refl h,hi,by omega,Nat.le_refl _,rfl,fun _=>gr⟩
 have HTk:Hid (∀ w2,Below w.heap.size w w2→Calls Tryz.prog 60 #[Zp (some ⟨x.b,0,O⟩)] w2 fun e w'=>DidE N w2 w' g K V q x 50 e):=fun w2 hw2=>by
  have h2:=h.below hw2;have hr:=h2.nodes x (List.mem_of_getElem? hx);refine (EJ hr ni.ok ni.ou).mono ?_;rintro e w3 ⟨vt,W',F',V1,rfl,ht⟩;exact⟨_,vt,_,rfl,CP h2 hi hx (DK ni.ok ni.sv ni.rc ni.ou) .suspect ht⟩
 have HN2:Hid (∀ w2,Below w.heap.size w w2→w2.cell? ⟨g,2,O⟩=some (Y (some ⟨b1,o1,O⟩) K.nds.length cN)∧w2.cell? ⟨b1,o1+q,O⟩=some (Zp (some ⟨x.b,0,O⟩))):=fun w2 hw2=>by
  obtain⟨b3,o3,e3,_,d3⟩:=HN.out w2 hw2 q hq
  cases e3;rw[hxe] at d3;exact⟨HC2.out w2 hw2,d3⟩
 have HX:=ah hx;have HGr:=ah gr;have HKi:=ah hi;have HH:=ah h;clear h hi gr z ni hx HWh HN HD hxe HC1 HC2 HC3;generalize K.down[q]=dq at *;cases dq
 ·obtain⟨r1,hr1⟩:∃ r,r=x.R.epoch:=⟨_,rfl⟩
  obtain⟨r3,hr3⟩:∃ r,r=x.R.status:=⟨_,rfl⟩
  rw[← hr1,← hr3] at HQ;have HR1:=ah hr1;have HR3:=ah hr3;clear hr1 hr3;generalize x.R.view=r2 at *;generalize x.R.decided=r4 at HQ;go_enter Tryz.func34,Tryz.ntmps34;go_wp2_with fail;refine HQ.out.mono ?_;rintro e w1 ⟨rfl,nn,hw1⟩;have hb1:Below w.heap.size w w1:=by rw[hw1];exact below_drewN (Below.refl _ _) nn
  clear hw1 c2 c3 d1 d2;obtain⟨c2,d1⟩:=HN2.out _ hb1
  generalize hxb:x.b=bb at *;go_wp2_with fail;refine (HTk.out _ hb1).mono ?_;rintro e w2 ⟨x1,vl,l,rfl,D⟩;have hx1:=qU (K:=K) (x:=x1) hq;have HD:=ah D;obtain⟨pr1,pr2,pr3⟩:=Fj HGr.out HKi.out HX.out D
  have HAg:=ah (qI D.kst.at_ D.ki q x1 hx1 pr1 pr2 pr3);clear pr1 pr2 pr3;have HX1:=ah hx1;obtain⟨al,nl,cl,hvl⟩:∃ a n c,vl=Y a n c:=by
   obtain⟨a,c,e,_⟩:=Rd.form D.out
   exact⟨a,_,c,e⟩
  subst hvl;clear D hx1 c2 d1;have HSn:Hid (∀ {w3:World} {K3:Kw} {V3:Kv},Ag N w2 w3 g (fM K q x1) V K3 V3→Gr K3→(∀ o∈l,OI K3.list (wt K3.wishes) K3.groups K3.begun K3.n q o)→Calls Tryz.prog 63 #[Zp (some ⟨g,0,O⟩),I J q,Y al nl cl] w3 fun e w'=>StE N w w' g K V 50 e):=fun A gr ho=>qR HH.out hb1 HD.out hq hm A gr ho
  have HNo:Hid (∀ {w3:World} {K3:Kw} {V3:Kv},Ag N w2 w3 g (fM K q x1) V K3 V3→StE N w w3 g K V 50 (Zr (.bool false))):=fun A=>yI HH.out hb1 HD.out A
  have HRl:Hid (∀ {w3:World} {K3:Kw} {V3:Kv},Ag N w2 w3 g (fM K q x1) V K3 V3→Gr K3→K3.begun=jN K.begun q x1.R→x.R.status=5→x1.R.status=4→x.R.epoch=x1.R.epoch→Calls Tryz.prog 62 #[Zp (some ⟨g,0,O⟩),I J q] w3 fun e w'=>e=Zr (.bool true)∧Below w3.heap.size w3 w'):=fun A gr hb h5 h4 he=>GR HGr.out HKi.out HX.out hq HD.out A gr hb h5 h4 he
  have HAf:=ah (fun (w3:World) (K3:Kw) (V3:Kv) (A:Ag N w2 w3 g (fM K q x1) V K3 V3) hg=>zu HGr.out HKi.out HX.out HD.out A hg)
  go_wp2_with fail;refine HAg.out.mono ?_;rintro e w3 ⟨bA,K2,V2,rfl,A,hgr⟩;have HA:=ah A;clear A;cases bA
  ·have HFl:=ah (HNo.out HA.out);go_wp2;go_ret;exact HFl.out
  ·obtain⟨hg2,ho2⟩:=HAf.out _ _ _ HA.out (hgr rfl)
   have HG2:Hid (Gr K2):=hg2
   have HO2:=ah ho2;have HBg:=ah (hgr rfl).2;clear hgr hg2 ho2 HAf;obtain⟨aN2,cN2,hvN2⟩:=aj HA.out.kst.at_.rN
   have hq2:q<K2.nds.length:=by rw[HA.out.nds];simpa [fM] using hq
   have hx2:K2.nds[q]=x1:=by
    have e:=HX1.out;rw[← HA.out.nds,List.getElem?_eq_getElem hq2] at e;exact Option.some.inj e
   obtain⟨b4,o4,rfl,_,d4⟩:=HA.out.kst.at_.ptr hvN2 (Below.refl _ _) q hq2
   have c2:w3.cell? ⟨g,2,O⟩=some (Y (some ⟨b4,o4,O⟩) K2.nds.length cN2):=by rw[← hvN2];exact HA.out.kst.at_.cell 2
   have j4:(q:Int)<(K2.nds.length:Int):=by omega
   rw[hx2] at d4;have HW2:=ah (l6 (HA.out.node HX1.out));generalize x1.b=bb1 at *;obtain⟨s1,hs1⟩:∃ r,r=x1.R.epoch:=⟨_,rfl⟩
   obtain⟨s3,hs3⟩:∃ r,r=x1.R.status:=⟨_,rfl⟩
   rw[← hs1,← hs3] at HW2;have HS1:=ah hs1;have HS3:=ah hs3;clear hs1 hs3;generalize x1.R.view=s2 at *;generalize x1.R.decided=s4 at HW2;clear hx2;go_wp2_with fail;refine HW2.out.mono ?_;rintro e w4 ⟨rfl,nn4,hw4⟩;have HA:=ah (HA.out.below (by rw[hw4];exact below_drewN (Below.refl _ _) nn4:Below w3.heap.size w3 w4))
   clear hw4 c2 d4;have c6:w4.cell? ⟨g,6,O⟩=some (I J K2.top):=HA.out.kst.at_.cell 6
   have f6:=HA.out.kst.at_.free 6;by_cases htp:K2.top<s2
   focus
    have HA3:Hid (Ag N w2 (w4.setCell ⟨g,6,O⟩ (I J s2)) g (fM K q x1) V { K2 with top:=s2 } V2):=HA.out.top (HA.out.kst.at_.scalar (K':={ K2 with top:=s2 }) 6 (I J s2) rfl rfl rfl)
    have HG3:Hid (Gr { K2 with top:=s2 }):=HG2.out.top s2
    have HO3:Hid (∀ o∈l,OI ({ K2 with top:=s2 }:Kw).list (wt ({ K2 with top:=s2 }:Kw).wishes) ({ K2 with top:=s2 }:Kw).groups ({ K2 with top:=s2 }:Kw).begun ({ K2 with top:=s2 }:Kw).n q o):=HO2
    have HB3:Hid (({ K2 with top:=s2 }:Kw).begun=jN K.begun q x1.R):=HBg
    clear HA HG2;go_upto_region 17 with fail
    clear c6 f6;generalize w4.setCell ⟨g,6,O⟩ (I J s2)=wZ at *
   rotate_left
   focus
    have HA3:=HA;have HG3:=HG2;have HO3:=HO2;have HB3:Hid (K2.begun=jN K.begun q x1.R):=HBg
   rotate_left
   all_goals
    by_cases r5:r3=5
    ·subst r5;by_cases r4:s3=4
     ·have HRc:=ah (HRl.out HA3.out HG3.out HB3.out HR3.out.symm (HS3.out.symm.trans r4));subst r4;by_cases ref:r1=s1
      ·have ref':(r1==s1)=true:=beq_iff_eq.2 ref
       have HRd:=ah (HRc.out (HR1.out.symm.trans (ref.trans HS1.out)));clear ref HRc;go_wp2_with fail;refine HRd.out.mono ?_;rintro e w6 ⟨rfl,hb6⟩;have HA3:=ah (HA3.out.below hb6);clear hb6;go_wp2_with fail;refine (HSn.out HA3.out HG3.out HO3.out).mono ?_;rintro e w9 ⟨b9,K9,V9,rfl,hS9⟩;go_wp2;go_ret;exact⟨b9,K9,V9,rfl,hS9⟩
      ·have ref':(r1==s1)=false:=beq_eq_false_iff_ne.2 ref
       clear ref;go_wp2_with fail;refine (HSn.out HA3.out HG3.out HO3.out).mono ?_;rintro e w9 ⟨b9,K9,V9,rfl,hS9⟩;go_wp2;go_ret;exact⟨b9,K9,V9,rfl,hS9⟩
     ·have r4':(s3==4)=false:=beq_eq_false_iff_ne.2 r4
      clear r4;go_wp2_with fail;refine (HSn.out HA3.out HG3.out HO3.out).mono ?_;rintro e w9 ⟨b9,K9,V9,rfl,hS9⟩;go_wp2;go_ret;exact⟨b9,K9,V9,rfl,hS9⟩
    ·have r5':(r3==5)=false:=beq_eq_false_iff_ne.2 r5
     clear r5;go_wp2_with fail;refine (HSn.out HA3.out HG3.out HO3.out).mono ?_;rintro e w9 ⟨b9,K9,V9,rfl,hS9⟩;go_wp2;go_ret;exact⟨b9,K9,V9,rfl,hS9⟩
 ·go_enter Tryz.func34,Tryz.ntmps34;go_wp2;go_ret;exact HY.out
end
section
variable {N:Nat} {w w':World} {g:Nat} {K K':Kw} {V V':Kv}
theorem Mh (h:KAt N w g K V) (hi:KI K) (gr:Gr K) (hb:Below w.heap.size w w') (c:Nat):StE N w w' g K V c (Zr (.bool true)):=⟨true,K,V,rfl,(Kst.refl h).below hb,hi,by omega,Nat.le_refl _,rfl,fun _=>gr⟩
theorem FV (h:KAt N w g K V) (hi:KI K) (gr:Gr K) (k:Nat) (hk:k<K.net.length) (hm:dI K+1≤900000000000) :
  Calls Tryz.prog 57 #[Zp (some ⟨g,0,O⟩),I J k] w fun e w'=>StE N w w' g K V 1 e:=by
 have z:=hi.sz;obtain⟨n,hn⟩:∃ n:Nat,K.n=n:=⟨K.n.toNat,by have:=z.n3;omega⟩
 have z3:=z.n3;have z1:=z.nds;have z7:=z.n7;have zd:=z.down;have zb:=z.begun;have z10:=z.opn;rw[hn] at z1 z7 z3 zd zb;have HC1:Hid (∀ w2,Below w.heap.size w w2→w2.cell? ⟨g,1,O⟩=some (I J n)):=fun w2 hw2=>by rw[← hn];exact (h.below hw2).cell 1
 obtain⟨aP,cP,hvP⟩:=aj h.rP
 have HC7:Hid (∀ w2,Below w.heap.size w w2→w2.cell? ⟨g,7,O⟩=some (Y aP K.net.length cP)):=fun w2 hw2=>by rw[← hvP];exact (h.below hw2).cell 7
 have HP:Hid (∀ w2,Below w.heap.size w w2→gW w2 (Y aP K.net.length cP) K.net):=fun w2 hw2=>by rw[← hvP];exact (h.below hw2).ePk
 obtain⟨aD,cD,hvD⟩:=aj h.rD
 have HC3:Hid (∀ w2,Below w.heap.size w w2→w2.cell? ⟨g,3,O⟩=some (Y aD K.down.length cD)):=fun w2 hw2=>by rw[← hvD];exact (h.below hw2).cell 3
 have HD:=ah (fun (w2:World) (hw2:Below w.heap.size w w2)=>KAt.dwn h hvD hw2)
 obtain⟨b1,o1,rfl,_,d1,d2,d3⟩:=(HP.out w (Below.refl _ _)).get k hk
 have c7:=HC7.out w (Below.refl _ _);have j1:(0:Int)≤(k:Int):=by omega
 have j2:(k:Int)<(K.net.length:Int):=by omega
 obtain⟨p1,p2,_⟩:=hi.net _ (List.getElem_mem hk)
 rw[hn] at p2;have HSm:Hid (∀ w2,Below w.heap.size w w2→StE N w w2 g K V 1 (Zr (.bool true))):=fun w2 hw2=>Mh h hi gr hw2 1
 have HNt:Hid (0≤K.net[k].2.1→NT K.list (wt K.wishes) K.groups K.begun K.n K.net[k].2.2):=fun h0=>CI.nt gr _ (List.getElem_mem hk) h0
 have HAc:Hid (∀ w2 (q:Nat) (s:ByteArray),Below w.heap.size w w2→q<n→NT K.list (wt K.wishes) K.groups K.begun K.n s→Calls Tryz.prog 34 #[Zp (some ⟨g,0,O⟩),I J q,I J 0,Z s] w2 fun e w'=>StE N w w' g K V 1 e):=fun w2 q s hw2 hq hnt=>by
  refine (FU (h.below hw2) hi gr q (by omega) s hnt hm).mono ?_
  intro e w3 hs;exact hs.pre ((Kst.refl h).below hw2) (Nat.le_refl _) (Nat.le_refl _) rfl
 have HHe:Hid (∀ w2 (c:Nat) (s:ByteArray),Below w.heap.size w w2→1≤c→c≤9→Calls Tryz.prog 97 #[Zp (some ⟨g,0,O⟩),I J (c:Int),Z s] w2 fun e w'=>e=Zr (.tuple #[])∧StE N w w' g K V 1 (Zr (.bool true))):=fun w2 c s hw2 h1 h9=>by
  refine (F9 (h.below hw2) hi c h1 h9 s).mono ?_;rintro e w3 ⟨rfl,K',k3,rfl|⟨f,rfl,hff⟩⟩
  ·exact⟨rfl,true,_,_,rfl,((Kst.refl h).below hw2).trans k3,hi,by omega,Nat.le_refl _,rfl,fun _=>gr⟩
  ·exact⟨rfl,true,_,_,rfl,((Kst.refl h).below hw2).trans k3,hi.opnf c f,by unfold dI;simp only;omega,Nat.le_refl _,rfl,fun _=>CI.opnf gr c hff⟩
 clear h hi gr z HP HC7;generalize K.net[k].1=fr at *;generalize K.net[k].2.1=qt at *;generalize K.net[k].2.2=tx at *;have hbX:Below w.heap.size w (w.alloc (.cells #[I J fr,I J qt,Z tx] 102)):=(Below.refl _ w).alloc (Nat.le_refl _) _
 have hxX:(w.alloc (.cells #[I J fr,I J qt,Z tx] 102)).heap[w.heap.size]? = some (.cells #[I J fr,I J qt,Z tx] 102):=heap_alloc_new w _
 by_cases h0:qt<0
 ·obtain⟨c,hc⟩:=Int.eq_ofNat_of_zero_le (show 0≤-qt by omega)
  have HQ:=ah (HHe.out _ c tx hbX (by omega) (by omega))
  rw[← hc] at HQ;clear hc;go_enter Tryz.func57,Tryz.ntmps57;go_wp2_with fail;refine HQ.out.mono ?_;rintro e w2 ⟨rfl,hs⟩;have HS:=ah hs;clear hs;go_wp2;go_ret;exact HS.out
 ·obtain⟨q,rfl⟩:=Int.eq_ofNat_of_zero_le (show 0≤qt by omega)
  have hqd:q<K.down.length:=by omega
  have HQ:=ah (fun w2 hw2=>HAc.out w2 q tx hw2 (by omega) (HNt.out (by omega)))
  have j3:(0:Int)≤(q:Int):=by omega
  have j4:(q:Int)<(K.down.length:Int):=by omega
  obtain⟨b2,o2,rfl,hb2,d4⟩:=HD.out _ hbX q hqd
  have c3:=HC3.out _ hbX;have e0:(w.alloc (.cells #[I J fr,I J (q:Int),Z tx] 102)).cell? ⟨w.heap.size,1,O⟩=some (I J (q:Int)):=(cell_of_row _ _ _ _ _ _ hxX).trans rfl
  have e1:(w.alloc (.cells #[I J fr,I J (q:Int),Z tx] 102)).cell? ⟨w.heap.size,2,O⟩=some (Z tx):=(cell_of_row _ _ _ _ _ _ hxX).trans rfl
  generalize K.down[q]=dq at *;clear hxX;go_enter Tryz.func57,Tryz.ntmps57;go_wp2_with fail;go_quiet (fail);have hbq:=below_drewN hbX nq;have HQq:=ah (HQ.out _ hbq);have HSq:=ah (HSm.out _ hbq);cases dq
  ·go_wp2_with fail;refine HQq.out.mono ?_;rintro e w2 ⟨b9,K9,V9,rfl,hS9⟩;go_wp2;go_ret;exact⟨b9,K9,V9,rfl,hS9⟩
  ·go_wp2;go_ret;exact HSq.out
def StQ (N:Nat) (w w':World) (g:Nat) (K:Kw) (V:Kv) (c d:Nat) (e:Ending):Prop:=∃ b K' V',e=Zr (.bool b)∧Kst N w w' g K V K' V'∧KI K'∧dI K'+d≤dI K+c∧K.net.length≤K'.net.length+d∧K'.n=K.n∧(b=true→Gr K')
theorem kU (h:KAt N w g K V) (hi:KI K) (gr:Gr K) (k:Nat) (hk:k<K.net.length) (come stay:Bool) (hm:dI K+1≤900000000000) :
  Calls Tryz.prog 32 #[Zp (some ⟨g,0,O⟩),I J k,.bool come,.bool stay] w fun e w'=>StQ N w w' g K V (if come then 1 else 0) (if stay then 0 else 1) e:=by
 have HC:=ah (FV h hi gr k hk hm);have HS0:Hid (StP N w w g K V 0 true K V):=⟨Kst.refl h,hi,by omega,Nat.le_refl _,rfl,fun _=>gr⟩
 clear h hi gr;cases come
 ·obtain⟨K1,V1,b1,HS,hb1⟩:∃ K1 V1 b1,Hid (StP N w w g K V 0 b1 K1 V1)∧b1=true:=⟨K,V,true,HS0,rfl⟩
  cases stay
  ·have HG:Hid (Calls Tryz.prog 58 #[Zp (some ⟨g,0,O⟩),I J k] w fun e w'=>e=Zr (.tuple #[])∧StQ N w w' g K V 0 1 (Zr (.bool true))):=by
    refine (BQ HS.out.kst.at_ k (by have:=HS.out.net;omega) (by have:=iV K1;have:=HS.out.ms;omega)).mono ?_
    rintro e w3 ⟨rfl,v3,k3⟩;exact⟨rfl,true,_,_,rfl,HS.out.kst.trans k3,HS.out.ki.gone k,by have:=HS.out.ms;have:=BZ (K:=K1) (k:=k) (by have:=HS.out.net;omega);omega,by have:=HS.out.net;simp;omega,HS.out.n,fun hb=>CI.gone (HS.out.gr hb1) k⟩
   go_enter Tryz.func32,Tryz.ntmps32;go_wp2_with fail;refine HG.out.mono ?_;rintro e w3 ⟨rfl,hq⟩;have HQ:=ah hq;clear hq;go_wp2;go_ret;exact HQ.out
  ·have HQ:Hid (StQ N w w g K V 0 0 (Zr (.bool true))):=⟨true,_,_,rfl,HS.out.kst,HS.out.ki,by have:=HS.out.ms;omega,by have:=HS.out.net;omega,HS.out.n,fun _=>HS.out.gr hb1⟩
   go_enter Tryz.func32,Tryz.ntmps32;go_wp2;go_ret;exact HQ.out
 ·cases stay
  ·go_enter Tryz.func32,Tryz.ntmps32;go_wp2_with fail;refine HC.out.mono ?_;rintro e w2 ⟨b1,K1,V1,rfl,hs⟩;have HS:=ah hs;clear hs;have HG:Hid (Calls Tryz.prog 58 #[Zp (some ⟨g,0,O⟩),I J k] w2 fun e w'=>e=Zr (.tuple #[])∧StQ N w w' g K V 1 1 (Zr (.bool b1))):=by
    refine (BQ HS.out.kst.at_ k (by have:=HS.out.net;omega) (by have:=iV K1;have:=HS.out.ms;omega)).mono ?_
    rintro e w3 ⟨rfl,v3,k3⟩;exact⟨rfl,b1,_,_,rfl,HS.out.kst.trans k3,HS.out.ki.gone k,by have:=HS.out.ms;have:=BZ (K:=K1) (k:=k) (by have:=HS.out.net;omega);omega,by have:=HS.out.net;simp;omega,HS.out.n,fun hb=>CI.gone (HS.out.gr hb) k⟩
   go_wp2_with fail;refine HG.out.mono ?_;rintro e w3 ⟨rfl,hq⟩;have HQ:=ah hq;clear hq;go_wp2;go_ret;exact HQ.out
  ·go_enter Tryz.func32,Tryz.ntmps32;go_wp2_with fail;refine HC.out.mono ?_;rintro e w2 ⟨b1,K1,V1,rfl,hs⟩;have HQ:Hid (StQ N w w2 g K V 1 0 (Zr (.bool b1))):=⟨b1,_,_,rfl,hs.kst,hs.ki,by have:=hs.ms;omega,by have:=hs.net;omega,hs.n,hs.gr⟩
   clear hs;go_wp2;go_ret;exact HQ.out
end
section
variable {N:Nat} {w w':World} {g:Nat} {K K':Kw} {V V':Kv}
structure Rn (N:Nat) (w wr:World) (g:Nat) (K:Kw) (V:Kv) (c:Nat) (K':Kw) (V':Kv):Prop where
 kst:Kst N w wr g K V K' V'
 ki:KI K'
 ms:dI K'≤dI K+c
 n:K'.n=K.n
 gr:Gr K'
def RnE (N:Nat) (w w':World) (g:Nat) (K:Kw) (V:Kv) (c:Nat) (e:Ending):Prop:=∃ b K' V',e=Zr (.bool b)∧Kst N w w' g K V K' V'∧KI K'∧dI K'≤dI K+c∧K'.n=K.n∧(b=true→Gr K')
theorem Rn.refl (h:KAt N w g K V) (hi:KI K) (gr:Gr K):Rn N w w g K V 0 K V:=⟨Kst.refl h,hi,Nat.le_refl _,rfl,gr⟩
section
variable {wr w2:World} {c d:Nat} {e:Ending}
theorem Rn.below (L:Rn N w wr g K V c K' V') (hb:Below wr.heap.size wr w2):Rn N w w2 g K V c K' V':=⟨L.kst.below hb,L.ki,L.ms,L.n,L.gr⟩
theorem Rn.le (L:Rn N w wr g K V c K' V') (h:c≤d):Rn N w wr g K V d K' V':=⟨L.kst,L.ki,by have:=L.ms;omega,L.n,L.gr⟩
theorem Rn.c1 (L:Rn N w wr g K V c K' V') {n:Nat} (hn:K.n=n):wr.cell? ⟨g,1,O⟩=some (I J n):=by
 have:=L.kst.at_.cell 1
 rw[← hn,← L.n];exact this
theorem Rn.rne (L:Rn N w wr g K V c K' V') (b:Bool) (h:c≤d):RnE N w wr g K V d (Zr (.bool b)):=⟨b,K',V',rfl,L.kst,L.ki,by have:=L.ms;omega,L.n,fun _=>L.gr⟩
theorem Rn.ste (L:Rn N w wr g K V c K' V') (h:StE N wr w2 g K' V' d e):RnE N w w2 g K V (c+d) e:=by
 obtain⟨b,K2,V2,rfl,s⟩:=h
 exact⟨b,K2,V2,rfl,L.kst.trans s.kst,s.ki,by have:=s.ms;have:=L.ms;omega,s.n.trans L.n,s.gr⟩
theorem Rn.rn (L:Rn N w wr g K V c K' V') (h:RnE N wr w2 g K' V' d e):RnE N w w2 g K V (c+d) e:=by
 obtain⟨b,K2,V2,rfl,k,ki,ms,n,gr⟩:=h
 exact⟨b,K2,V2,rfl,L.kst.trans k,ki,by have:=L.ms;omega,n.trans L.n,gr⟩
theorem RnE.le (h:RnE N w wr g K V c e) (hd:c≤d):RnE N w wr g K V d e:=by
 obtain⟨b,K2,V2,rfl,k,ki,ms,n,gr⟩:=h
 exact⟨b,K2,V2,rfl,k,ki,by omega,n,gr⟩
theorem RnE.get (h:RnE N w wr g K V c (Zr (.bool true))):∃ K' V',Rn N w wr g K V c K' V':=by
 obtain⟨b,K2,V2,e,k,ki,ms,n,gr⟩:=h
 cases e;exact⟨K2,V2,k,ki,ms,n,gr rfl⟩
theorem RnE.bool (h:RnE N w wr g K V c e):∃ b,e=Zr (.bool b):=by
 obtain⟨b,K2,V2,rfl,_⟩:=h
 exact⟨b,rfl⟩
end
theorem Gg (h:KAt N w g K V) (hi:KI K) (gr:Gr K) (r:Nat) (hr:r≤1000) (hm:dI K+1000≤900000000000) :
  Calls Tryz.prog 68 #[Zp (some ⟨g,0,O⟩),I J r] w fun e w'=>RnE N w w' g K V 700 e:=by
 have z:=hi.sz;obtain⟨n,hn⟩:∃ n:Nat,K.n=n:=⟨K.n.toNat,by have:=z.n3;omega⟩
 have z3:=z.n3;have z1:=z.nds;have z7:=z.n7;have zd:=z.down;have zb:=z.begun;have z10:=z.opn;rw[hn] at z1 z7 z3 zd zb;have HC1:Hid (∀ w2,Below w.heap.size w w2→w2.cell? ⟨g,1,O⟩=some (I J n)):=fun w2 hw2=>by rw[← hn];exact (h.below hw2).cell 1
 obtain⟨aP,cP,hvP⟩:=aj h.rP
 have HC7:Hid (∀ w2,Below w.heap.size w w2→w2.cell? ⟨g,7,O⟩=some (Y aP K.net.length cP)):=fun w2 hw2=>by rw[← hvP];exact (h.below hw2).cell 7
 have HP:Hid (∀ w2,Below w.heap.size w w2→gW w2 (Y aP K.net.length cP) K.net):=fun w2 hw2=>by rw[← hvP];exact (h.below hw2).ePk
 have c7:=HC7.out w (Below.refl _ _);have hnl:K.net.length≤900000000000:=by have:=iV K;omega
 have HR0:=ah (Rn.refl h hi gr);have HH1:Hid (∀ (wr:World) (k:Nat) (K':Kw) (V':Kv),Rn N w wr g K V 0 K' V'→k<K.net.length→K.net.length≤K'.net.length+k→Calls Tryz.prog 32 #[Zp (some ⟨g,0,O⟩),I J 0,.bool true,.bool false] wr fun e w'=>∃ b K2 V2,e=Zr (.bool b)∧(b=false→RnE N w w' g K V 700 (Zr (.bool false)))∧(b=true→Rn N w w' g K V 0 K2 V2∧K.net.length≤K2.net.length+(k+1))):=fun wr k K' V' L hk hl=>by
  refine (kU L.kst.at_ L.ki L.gr 0 (by omega) true false (by have:=L.ms;omega)).mono ?_
  rintro e w2 ⟨b,K2,V2,rfl,k2,ki2,ms2,nl2,n2,gr2⟩;simp only[if_true,Bool.false_eq_true,if_false] at ms2 nl2;have:=L.ms
  exact⟨b,K2,V2,rfl,fun hb=>⟨false,K2,V2,rfl,L.kst.trans k2,ki2,by omega,n2.trans L.n,fun h=>by simp at h⟩,fun hb=>⟨⟨L.kst.trans k2,ki2,by omega,n2.trans L.n,gr2 hb⟩,by omega⟩⟩
 have HA1:Hid (∀ (wr:World) (q c:Nat) (K':Kw) (V':Kv),Rn N w wr g K V c K' V'→q<n→c≤600→Calls Tryz.prog 34 #[Zp (some ⟨g,0,O⟩),I J q,I J 1,Z ⟨#[]⟩] wr fun e w'=>RnE N w w' g K V (c+50) e):=fun wr q c K' V' L hq hc=>by
  refine (tK L.kst.at_ L.ki L.gr q (by have:=L.ki.sz.nds;rw[L.n,hn] at this;omega) ⟨#[]⟩ (by have:=L.ms;omega)).mono ?_
  intro e w2 hs;exact L.ste hs
 have HA2:Hid (∀ (wr:World) (q c:Nat) (K':Kw) (V':Kv),Rn N w wr g K V c K' V'→q<n→c≤650→Calls Tryz.prog 34 #[Zp (some ⟨g,0,O⟩),I J q,I J 2,Z ⟨#[]⟩] wr fun e w'=>RnE N w w' g K V (c+50) e):=fun wr q c K' V' L hq hc=>by
  refine (zF L.kst.at_ L.ki L.gr q (by have:=L.ki.sz.nds;rw[L.n,hn] at this;omega) ⟨#[]⟩ (by have:=L.ms;omega)).mono ?_
  intro e w2 hs;exact L.ste hs
 have HLd:Hid (∀ (wr:World) (q c:Nat) (K':Kw) (V':Kv),Rn N w wr g K V c K' V'→q<n→Calls Tryz.prog 112 #[Zp (some ⟨g,0,O⟩),I J q] wr fun e w'=>sH wr w' e):=fun wr q c K' V' L hq=>Ed L.kst.at_ L.ki L.gr q (by have:=L.ki.sz.nds;rw[L.n,hn] at this;omega)
 have hn7:n≤7:=by omega
 have er:((r:Int)).tmod 4=((r % 4:Nat):Int):=by
  rw[Int.tmod_eq_emod_of_nonneg (by omega)]
  exact (Int.natCast_emod r 4).symm
 clear h hi gr z hm HC7;go_enter Tryz.func68,Tryz.ntmps68;go_wp2_with fail;go_loopw [6] (fun i wr=>∃ (k:Nat) (K':Kw) (V':Kv),k≤K.net.length∧i=I J k∧Rn N w wr g K V 0 K' V'∧K.net.length≤K'.net.length+k) (fun i _=>K.net.length-(intOf i).toNat)
 case atStart=>exact⟨0,K,V,Nat.zero_le _,rfl,HR0.out,Nat.le_refl _⟩
 case round =>
  obtain⟨k,K1,V1,hk,rfl,L,hl⟩:=hrel
  have HL:=ah L;clear L;by_cases hlt:k<K.net.length
  ·have j1:(k:Int)<(K.net.length:Int):=by omega
   have HQ:=ah (HH1.out _ k _ _ HL.out hlt hl);go_wp2_with fail;refine HQ.out.mono ?_;rintro e w2 ⟨b,K2,V2,rfl,hno,hyes⟩;cases b
   ·have HF:=ah (hno rfl);clear hno hyes;go_wp2;go_ret;exact HF.out
   ·have HY:=ah (hyes rfl);clear hno hyes;go_wp2;go_roundw
    case rel=>exact⟨k+1,K2,V2,by omega,by go_num,HY.out.1,HY.out.2⟩
    case measure=>simp[intOf];omega
  ·have j1:¬(k:Int)<(K.net.length:Int):=by omega
   obtain⟨wL,HwL⟩:∃ x,x=wr:=⟨_,rfl⟩
   subst HwL;go_wp2_with fail;go_loopw [8] (fun i wr=>∃ (q:Nat) (K':Kw) (V':Kv),q≤n∧i=I J q∧Rn N w wr g K V (50*q) K' V') (fun i _=>n-(intOf i).toNat)
   case atStart=>exact⟨0,K1,V1,Nat.zero_le _,rfl,HL.out⟩
   case round =>
    obtain⟨q,K2,V2,hq,rfl,L2⟩:=hrel
    have c1:=L2.c1 hn;have HL2:=ah L2;clear L2;by_cases hlq:q<n
    ·have j2:(q:Int)<(n:Int):=by omega
     have HQ:=ah (HA1.out _ q _ _ _ HL2.out hlq (by omega))
     go_wp2_with fail;refine HQ.out.mono ?_;intro e w3 hs;obtain⟨b,rfl⟩:=hs.bool
     cases b
     ·have HF:=ah (hs.le (d:=700) (by omega))
      clear hs;go_wp2;go_ret;exact HF.out
     ·obtain⟨K3,V3,L3⟩:=hs.get
      have HL3:=ah (L3.le (d:=50*(q+1)) (by omega))
      clear hs L3;go_wp2;go_roundw
      case rel=>exact⟨q+1,K3,V3,by omega,by go_num,HL3.out⟩
      case measure=>simp[intOf];omega
    ·have j2:¬(q:Int)<(n:Int):=by omega
     have HL2:=ah (HL2.out.le (d:=350) (by omega))
     obtain⟨wM,HwM⟩:∃ x,x=wr:=⟨_,rfl⟩
     subst HwM;go_wp2_with fail;clear c1;go_loopw [10] (fun i wr=>∃ (q:Nat) (K':Kw) (V':Kv),q≤n∧i=I J q∧Rn N w wr g K V (350+50*q) K' V') (fun i _=>n-(intOf i).toNat)
     case atStart=>exact⟨0,K2,V2,Nat.zero_le _,rfl,HL2.out⟩
     case round =>
      obtain⟨p,K4,V4,hp,rfl,L4⟩:=hrel
      have c1:=L4.c1 hn;have HL4:=ah L4;clear L4;by_cases hlp:p<n
      ·have j3:(p:Int)<(n:Int):=by omega
       by_cases hr4:r % 4=3
       ·have er3:(r:Int).tmod 4=3:=by rw[er,hr4];rfl
        have er2:IntKind.i64.wrap ((r:Int).tmod 4)=3:=by rw[er3];rfl
        have HQ:=ah (HLd.out _ p _ _ _ HL4.out hlp);clear er;go_wp2_with fail;refine HQ.out.mono ?_;rintro e w5 ⟨b5,rfl,hb5⟩;have HL5:=ah (HL4.out.below hb5);cases b5
        ·have HQ5:=ah (HA2.out _ p _ _ _ HL5.out hlp (by omega))
         go_wp2_with fail;refine HQ5.out.mono ?_;intro e w6 hs;obtain⟨b,rfl⟩:=hs.bool
         cases b
         ·have HF:=ah (hs.le (d:=700) (by omega))
          clear hs;go_wp2;go_ret;exact HF.out
         ·obtain⟨K6,V6,L6⟩:=hs.get
          have HL6:=ah (L6.le (d:=350+50*(p+1)) (by omega))
          clear hs L6;go_wp2;go_roundw
          case rel=>exact⟨p+1,K6,V6,by omega,by go_num,HL6.out⟩
          case measure=>simp[intOf];omega
        ·have HL6:=ah (HL5.out.le (d:=350+50*(p+1)) (by omega))
         go_wp2;go_roundw
         case rel=>exact⟨p+1,K4,V4,by omega,by go_num,HL6.out⟩
         case measure=>simp[intOf];omega
       ·have er3:¬(r:Int).tmod 4=3:=by rw[er];omega
        have er2:((r:Int).tmod 4==3)=false:=beq_eq_false_iff_ne.2 er3
        have HF:=ah (HL4.out.rne (d:=700) true (by omega))
        clear er;go_wp2;go_ret;exact HF.out
      ·have j3:¬(p:Int)<(n:Int):=by omega
       have HF:=ah (HL4.out.rne (d:=700) true (by omega))
       go_wp2;go_ret;exact HF.out
end
section
variable {N:Nat} {w w':World} {g:Nat} {K K':Kw} {V V':Kv}
theorem GD {id n life:Int} (hn:3≤n∧n≤7∧0≤id∧id<n) (hl:1≤life∧life≤999):Ok (Rp.restart id n life):=by
 refine⟨hn.1,hn.2.1,hn.2.2.1,hn.2.2.2,?_,fun x hx=>?_,by simp[Rp.restart,Rp.mk0],by simp[Rp.restart,Rp.mk0],by simp[Rp.restart,Rp.mk0],by simp[Rp.restart,Rp.mk0],fE.nil _,fE.nil _,by simp[Rp.restart,Rp.mk0],by simp[Rp.restart,Rp.mk0],by simp[Rp.restart,Rp.mk0],by simp[Rp.restart,Rp.mk0],by simp[Rp.restart,Rp.mk0],by simp[Rp.restart,Rp.mk0],by simp[Rp.restart,Rp.mk0]⟩
 ·show ((((dB n.toNat).set id.toNat life).length:Nat):Int)=n
  rw[List.length_set,AO];omega
 ·have hx:x∈(dB n.toNat).set id.toNat life:=hx
  rcases List.mem_or_eq_of_mem_set hx with q|rfl
  ·unfold dB at q;have:=List.eq_of_mem_replicate q
   omega
  ·omega
theorem KI.lives (h:KI K) (x:Int) (hx:0≤x∧x≤999):KI { K with lives:=x }:=⟨⟨h.sz.n3,h.sz.n7,h.sz.nds,h.sz.down,h.sz.begun,h.sz.opn⟩,h.part,h.nod,h.net,h.wish,h.opn,h.list,h.grps,hx,h.gl⟩
theorem Jt {q:Nat} {x x':Nod} (hx:K.nds[q]? = some x) (hl:0≤K.lives) (hl9:K.lives+1≤999) (d:List Bool):dI { fM { K with lives:=K.lives+1 } q x' with down:=d }≤dI K:=by
 have e:=zR K.nds q x x' hx;unfold dI fM;simp only
 omega
theorem M8 {q:Nat} {x':Nod} (gr:Gr K) (h3:Bare x'.R) (d:List Bool) (y:Int):Gr { fM { K with lives:=y } q x' with down:=d } :=
 CI.of gr rfl rfl rfl rfl rfl (fun z hz=>by
  rcases List.mem_or_eq_of_mem_set (show z∈K.nds.set q x' from hz) with p|rfl
  ·exact .inl p
  ·exact .inr h3) (fun p hp=>.inl hp) (CI.fl gr).1
theorem JB {b cap q:Nat} {x':Nod} (h:w.ownsRow 0 29 1 (Y (some ⟨b,0,O⟩) K.nds.length cap) K.nds.length (K.nds.map nE)):(w.setCell ⟨b,q,O⟩ (nE x')).ownsRow 0 29 1 (Y (some ⟨b,0,O⟩) K.nds.length cap) (K.nds.set q x').length ((K.nds.set q x').map nE):=by
 have:=(h.stored q (nE x')).1
 rw[List.length_set,List.map_set];exact this
theorem BP (h:KAt N w g K V) (hi:KI K) (gr:Gr K) (q:Nat) (hq:q<K.nds.length) (hm:dI K+100≤900000000000) :
  Calls Tryz.prog 36 #[Zp (some ⟨g,0,O⟩),I J q] w fun e w'=>RnE N w w' g K V 50 e:=by
 have z:=hi.sz;obtain⟨n,hn⟩:∃ n:Nat,K.n=n:=⟨K.n.toNat,by have:=z.n3;omega⟩
 have z3:=z.n3;have z1:=z.nds;have z7:=z.n7;have zd:=z.down;have zb:=z.begun;have z10:=z.opn;rw[hn] at z1 z7 z3 zd zb;have HC1:Hid (∀ w2,Below w.heap.size w w2→w2.cell? ⟨g,1,O⟩=some (I J n)):=fun w2 hw2=>by rw[← hn];exact (h.below hw2).cell 1
 obtain⟨aD,cD,hvD⟩:=aj h.rD
 have HC3:Hid (∀ w2,Below w.heap.size w w2→w2.cell? ⟨g,3,O⟩=some (Y aD K.down.length cD)):=fun w2 hw2=>by rw[← hvD];exact (h.below hw2).cell 3
 have HD:=ah (fun (w2:World) (hw2:Below w.heap.size w w2)=>KAt.dwn h hvD hw2)
 have HC5:Hid (∀ w2,Below w.heap.size w w2→w2.cell? ⟨g,5,O⟩=some (I J K.lives)):=fun w2 hw2=>(h.below hw2).cell 5
 have HSm:Hid (RnE N w w g K V 50 (Zr (.bool true))):=(Rn.refl h hi gr).rne true (by omega)
 have hqd:q<K.down.length:=by omega
 obtain⟨b2,o2,rfl,_,d2⟩:=HD.out w (Below.refl _ _) q hqd
 have c3:=HC3.out w (Below.refl _ _);have c5:=HC5.out w (Below.refl _ _);have f5:=h.free 5;have j1:(0:Int)≤(q:Int):=by omega
 have j3:(q:Int)<(K.down.length:Int):=by omega
 have li:=hi.li;generalize hdq:K.down[q]=dq at *;cases dq
 ·clear h hi gr z;go_enter Tryz.func36,Tryz.ntmps36;go_wp2;go_ret;exact HSm.out
 ·by_cases h9:K.lives=999
  ·have h9':(K.lives==999)=true:=beq_iff_eq.2 h9
   clear h hi gr z h9;go_enter Tryz.func36,Tryz.ntmps36;go_wp2;go_ret;exact HSm.out
  ·have h9':(K.lives==999)=false:=beq_eq_false_iff_ne.2 h9
   have HS1:=ah (h.scalar (K':={ K with lives:=K.lives+1 }) 5 (I J (K.lives+1)) rfl rfl rfl)
   have HI1:=ah (hi.lives (K.lives+1) (by omega))
   have HGr:=ah gr;have HKI:=ah hi;have hlv:K.lives+1≤999:=by omega
   have hli:0≤K.lives:=li.1
   have HK0:=ah (Kst.refl h);clear h hi gr z h9 HSm;go_enter Tryz.func36,Tryz.ntmps36;go_wp2_with fail;generalize w.setCell ⟨g,5,O⟩ (I J (K.lives+1))=w1 at *;clear c3 c5 d2 f5;have c1:w1.cell? ⟨g,1,O⟩=some (I J n):=by rw[← hn];exact HS1.out.at_.cell 1
   have c5:w1.cell? ⟨g,5,O⟩=some (I J (K.lives+1)):=HS1.out.at_.cell 5
   have HRs:Hid (∀ w2,Below w1.heap.size w1 w2→Calls Tryz.prog 65 #[I J q,I J n,I J (K.lives+1)] w2 fun e w'=>Cx w2 w' e (Rp.restart q n (K.lives+1))):=fun w2 hw2=>EH q n (K.lives+1) w2 (HS1.out.at_.tab.below hw2) ⟨by omega,by omega,by omega,by omega⟩ ⟨by omega,by omega⟩ (by have:=HS1.out.at_.Nlt;have:=hw2.size;omega)
   go_region_with (go_at_call 65;refine (HRs.out _ (Below.refl _ _).drew).mono ?_;rintro e w3 ⟨b3,bl3,W3,F3,V3,rfl,hR3,hv3,hF3,hb3⟩)
   all_goals
    have hb3':Below w1.heap.size w1 w3:=jc hb3
    have hF3':∀ y∈F3,w1.heap.size≤y:=fun y hy=>hF3 y hy
    have h3:=HS1.out.at_.below hb3';obtain⟨bN,cN,hvN,hbN⟩:=pF h3.rN (by show 0<K.nds.length;omega)
    have hvN:V.vN=Y (some ⟨bN,0,O⟩) K.nds.length cN:=hvN
    have c2:w3.cell? ⟨g,2,O⟩=some (Y (some ⟨bN,0,O⟩) K.nds.length cN):=by rw[← hvN];exact h3.cell 2
    obtain⟨b4,o4,e4,_,d4⟩:=h3.ptr hvN (Below.refl _ _) q hq
    cases e4;simp only[Nat.zero_add] at d4;have fN:=h3.fz (i:=0) (r:=⟨29,1,V.vN,K.nds.length,K.nds.map nE⟩) rfl hvN q;have hrN:=h3.rN;rw[hvN] at hrN;have hj2:(q:Int)<(K.nds.length:Int):=by omega
    have HS4:Hid (Kst N w1 (w3.setCell ⟨bN,q,O⟩ (Zp (some ⟨b3,0,O⟩))) g { K with lives:=K.lives+1 } V (fM { K with lives:=K.lives+1 } q ⟨b3,bl3,W3,F3,Rp.restart q n (K.lives+1),V3⟩) V) :=
     HS1.out.at_.Pd (x':=⟨b3,bl3,W3,F3,Rp.restart q n (K.lives+1),V3⟩) hb3' hq hR3 hF3' (by rw[hvN];exact (Kp.refl _ _).set bN q _ (.inl (by simp[Value.ownBlock]))) (by rw[hvN];exact JB (K:=K) (x':=⟨b3,bl3,W3,F3,Rp.restart q n (K.lives+1),V3⟩) hrN)
    have hni:NI K.n q ⟨b3,bl3,W3,F3,Rp.restart q n (K.lives+1),V3⟩:=⟨GD ⟨by omega,by omega,by omega,by omega⟩ ⟨by omega,by omega⟩,rfl,fun _=>⟨rfl,rfl,rfl,rfl⟩,rfl,hv3,rfl,hn.symm⟩
    have HI4:=ah (HI1.out.fM (x:=K.nds[q]) (List.getElem?_eq_getElem hq) hni);have HMs:=ah (fun d=>Jt (K:=K) (x':=⟨b3,bl3,W3,F3,Rp.restart q n (K.lives+1),V3⟩) (List.getElem?_eq_getElem hq) hli hlv d)
    have HG4:=ah (fun d=>M8 (K:=K) (q:=q) (x':=⟨b3,bl3,W3,F3,Rp.restart q n (K.lives+1),V3⟩) HGr.out ⟨rfl,rfl,rfl,rfl,rfl⟩ d (K.lives+1))
    clear hR3 hv3 hF3 hb3 hb3' hF3' h3 hrN hni c1 c5;go_upto_region 8 with fail
    clear c2 d4 fN;generalize w3.setCell ⟨bN,q,O⟩ (Zp (some ⟨b3,0,O⟩))=w4 at *;generalize (⟨b3,bl3,W3,F3,Rp.restart q n (K.lives+1),V3⟩:Nod)=x4 at *;obtain⟨bD,cD',hvD',hbD⟩:=pF HS4.out.at_.rD (by show 0<K.down.length;omega)
    have hvD':V.vD=Y (some ⟨bD,0,O⟩) K.down.length cD':=hvD'
    have c3:w4.cell? ⟨g,3,O⟩=some (Y (some ⟨bD,0,O⟩) K.down.length cD'):=by rw[← hvD'];exact HS4.out.at_.cell 3
    obtain⟨b5,o5,e5,_,d5⟩:=HS4.out.at_.dwn hvD' (Below.refl _ _) q hqd
    cases e5;simp only[Nat.zero_add] at d5;have fD:=HS4.out.at_.fz (i:=1) (r:=⟨4,1,V.vD,K.down.length,K.down.map Value.bool⟩) rfl hvD' q;have HS5:=ah (HS4.out.at_.setD hvD' q false);have HL:Hid (Rn N w (w4.setCell ⟨bD,q,O⟩ (.bool false)) g K V 0 { fM { K with lives:=K.lives+1 } q x4 with down:=K.down.set q false } V):=⟨HS1.out.trans (HS4.out.trans HS5.out),HI4.out.down q false,HMs.out _,rfl,HG4.out _⟩
    have HA:Hid (Calls Tryz.prog 34 #[Zp (some ⟨g,0,O⟩),I J q,I J 1,Z ⟨#[]⟩] (w4.setCell ⟨bD,q,O⟩ (.bool false)) fun e w'=>RnE N w w' g K V 50 e):=by
     refine (tK HL.out.kst.at_ HL.out.ki HL.out.gr q (by simpa [fM] using hq) ⟨#[]⟩ (by have:=HL.out.ms;omega)).mono ?_
     intro e w6 hs;exact (HL.out.ste hs).le (by omega)
    clear HL HS5;go_wp2_with fail;refine HA.out.mono ?_;rintro e w6 ⟨b6,K6,V6,rfl,hS6⟩;go_wp2;go_ret;exact⟨b6,K6,V6,rfl,hS6⟩
end
section
variable {N:Nat} {w w':World} {g:Nat} {K K':Kw} {V V':Kv}
theorem Rn.post {wr w2:World} {c:Nat} {f t:Int} {s:ByteArray} {V2:Kv} (L:Rn N w wr g K V c K' V') (k:Kst N wr w2 g K' V' { K' with net:=K'.net++[(f,t,s)] } V2) (h1 : -9≤t) (h2:t<K.n) (h3:0<s.size) (h4:∃ v∈K'.wishes,v.text=s):Rn N w w2 g K V (c+1) { K' with net:=K'.net++[(f,t,s)] } V2 :=
 ⟨L.kst.trans k,L.ki.post f t s ⟨h1,by rw[L.n];exact h2⟩ h3,by rw[Ca];have:=L.ms;omega,L.n,by
  obtain⟨v,hv,rfl⟩:=h4
  exact CI.post L.gr f t hv⟩
theorem Rn.quiet {wr:World} {c:Nat} (L:Rn N w wr g K V c K' V'):Calls Tryz.prog 69 #[Zp (some ⟨g,0,O⟩)] wr fun e w'=>sH wr w' e :=
 Gf L.kst.at_ L.ki.sz L.ki.ep L.ki.log (fun t ht=>by have:=L.ki.gsz t ht;omega)
theorem Jk (h:KAt N w g K V) (hi:KI K) (gr:Gr K) (hm:dI K+200000≤900000000000) :
  Calls Tryz.prog 37 #[Zp (some ⟨g,0,O⟩)] w fun e w'=>RnE N w w' g K V 150000 e:=by
 have z:=hi.sz;obtain⟨n,hn⟩:∃ n:Nat,K.n=n:=⟨K.n.toNat,by have:=z.n3;omega⟩
 have z3:=z.n3;have z1:=z.nds;have z7:=z.n7;have zd:=z.down;have zb:=z.begun;have z10:=z.opn;rw[hn] at z1 z7 z3 zd zb;have HC1:Hid (∀ w2,Below w.heap.size w w2→w2.cell? ⟨g,1,O⟩=some (I J n)):=fun w2 hw2=>by rw[← hn];exact (h.below hw2).cell 1
 have hn7:n≤7:=by omega
 have HRo:=ah (Jl h z hi.log);have HR0:=ah (Rn.refl h hi gr);have HBk:Hid (∀ (wr:World) (q c:Nat) (K':Kw) (V':Kv),Rn N w wr g K V c K' V'→q<n→c≤190000→Calls Tryz.prog 36 #[Zp (some ⟨g,0,O⟩),I J q] wr fun e w'=>RnE N w w' g K V (c+50) e):=fun wr q c K' V' L hq hc=>by
  refine (BP L.kst.at_ L.ki L.gr q (by have:=L.ki.sz.nds;rw[L.n,hn] at this;omega) (by have:=L.ms;omega)).mono ?_
  intro e w2 hs;exact L.rn hs
 have HRd:Hid (∀ (wr:World) (r c:Nat) (K':Kw) (V':Kv),Rn N w wr g K V c K' V'→r≤1000→c≤190000→Calls Tryz.prog 68 #[Zp (some ⟨g,0,O⟩),I J r] wr fun e w'=>RnE N w w' g K V (c+700) e):=fun wr r c K' V' L hr hc=>by
  refine (Gg L.kst.at_ L.ki L.gr r hr (by have:=L.ms;omega)).mono ?_
  intro e w2 hs;exact L.rn hs
 have HPo:Hid (∀ (wr:World) (q c:Nat) (s:ByteArray) (K':Kw) (V':Kv),Rn N w wr g K V c K' V'→q<n→0<s.size→(∃ v∈K'.wishes,v.text=s)→c≤190000→Calls Tryz.prog 55 #[Zp (some ⟨g,0,O⟩),I J (-1),I J q,Z s] wr fun e w'=>e=Zr (.tuple #[])∧∃ K2 V2,Rn N w w' g K V (c+1) K2 V2∧K2.opn=K'.opn∧K2.wishes=K'.wishes):=fun wr q c s K' V' L hq hs hv hc=>by
  refine (lY L.kst.at_ (-1) q s (by have:=iV K';have:=L.ms;omega)).mono ?_
  rintro e w2 ⟨rfl,v,k⟩;exact⟨rfl,_,_,L.post k (by omega) (by omega) hs hv,rfl,rfl⟩
 have HFa:Hid (∀ (wr:World) (c:Nat) (K':Kw) (V':Kv),Rn N w wr g K V c K' V'→c≤150000→Calls Tryz.prog 66 #[Zp (some ⟨g,0,O⟩),I J 32] wr fun e w'=>e=Zr (.bool false)∧RnE N w w' g K V 150000 (Zr (.bool false))):=fun wr c K' V' L hc=>by
  refine (mG L.kst.at_ 32).mono ?_;rintro e w2 ⟨rfl,k⟩;have:=L.ms
  exact⟨rfl,false,_,_,rfl,L.kst.trans k,L.ki.fails (by unfold sV;omega),by unfold dI at *;simp only at *;omega,L.n,fun h=>by simp at h⟩
 clear h hi gr z hm;go_enter Tryz.func37,Tryz.ntmps37;go_wp2_with fail;refine HRo.out.mono ?_;rintro e w1 ⟨b1,rfl,hb1⟩;have HL1:=ah (HR0.out.below hb1);cases b1
 ·have HF:=ah (HL1.out.rne (d:=150000) true (by omega))
  go_wp2;go_ret;exact HF.out
 ·go_wp2_with fail;go_loopw [4,5] (fun qu i wr=>∃ (r:Nat) (b:Bool) (K':Kw) (V':Kv),r≤96∧i=I J r∧qu=.bool b∧Rn N w wr g K V (1200*r) K' V') (fun _ i _=>96-(intOf i).toNat)
  case atStart=>exact⟨0,false,K,V,Nat.zero_le _,rfl,rfl,HL1.out⟩
  case round =>
   obtain⟨r,bq,K2,V2,hr,rfl,rfl,L2⟩:=hrel
   have HL2:=ah L2;clear L2;obtain⟨wO,HwO⟩:∃ x,x=wr:=⟨_,rfl⟩
   subst HwO;have HEnd:Hid True:=trivial
   by_cases hgo:r<96∧bq=false
   ·obtain⟨hr96,rfl⟩:=hgo
    have j0:(r:Int)<96:=by omega
    go_wp2_with fail;go_loopw [6] (fun i wr=>∃ (q:Nat) (K':Kw) (V':Kv),q≤n∧i=I J q∧Rn N w wr g K V (1200*r+50*q) K' V') (fun i _=>n-(intOf i).toNat)
    case atStart=>exact⟨0,K2,V2,Nat.zero_le _,rfl,HL2.out⟩
    case round =>
     obtain⟨q,K3,V3,hq,rfl,L3⟩:=hrel
     have c1:=L3.c1 hn;have HL3:=ah L3;clear L3;by_cases hlq:q<n
     ·have j2:(q:Int)<(n:Int):=by omega
      have HQ:=ah (HBk.out _ q _ _ _ HL3.out hlq (by omega))
      go_wp2_with fail;refine HQ.out.mono ?_;intro e w4 hs;obtain⟨b,rfl⟩:=hs.bool
      cases b
      ·have HF:=ah (hs.le (d:=150000) (by omega))
       clear hs;go_wp2;go_ret;exact HF.out
      ·obtain⟨K4,V4,L4⟩:=hs.get
       have HL4:=ah (L4.le (d:=1200*r+50*(q+1)) (by omega))
       clear hs L4;go_wp2;go_roundw
       case rel=>exact⟨q+1,K4,V4,by omega,by go_num,HL4.out⟩
       case measure=>simp[intOf];omega
     ·have j2:¬(q:Int)<(n:Int):=by omega
      have HL3:=ah (HL3.out.le (d:=1200*r+350) (by omega))
      obtain⟨wP,HwP⟩:∃ x,x=wr:=⟨_,rfl⟩
      subst HwP;go_wp2_with fail;clear c1;go_loopw [8] (fun i wr=>∃ (c:Nat) (K':Kw) (V':Kv),1≤c∧c≤10∧i=I J c∧Rn N w wr g K V (1200*r+350+7*(c-1)) K' V') (fun i _=>10-(intOf i).toNat)
      case atStart=>exact⟨1,K3,V3,by omega,by omega,rfl,HL3.out⟩
      case round =>
       obtain⟨c,K4,V4,hc1,hc,rfl,L4⟩:=hrel
       have HL4:=ah L4;clear L4;obtain⟨wR,HwR⟩:∃ x,x=wr:=⟨_,rfl⟩
       subst HwR;by_cases hlc:c<10
       ·have j3:(c:Int)≤9:=by omega
        go_wp2_with fail;go_loopw [9] (fun i wr=>∃ (q:Nat) (K':Kw) (V':Kv),q≤n∧i=I J q∧Rn N w wr g K V (1200*r+350+7*(c-1)+q) K' V') (fun i _=>n-(intOf i).toNat)
        case atStart=>exact⟨0,K4,V4,Nat.zero_le _,rfl,HL4.out⟩
        case round =>
         obtain⟨p,K5,V5,hp,rfl,L5⟩:=hrel
         have c1:=L5.c1 hn;have z10:=L5.ki.sz.opn;have hcl:c<K5.opn.length:=by omega
         obtain⟨aO,cO,hvO⟩:=aj L5.kst.at_.rO
         obtain⟨b6,o6,rfl,_,d6⟩:=L5.kst.at_.opn hvO (Below.refl _ _) c hcl
         have c9:wr.cell? ⟨g,9,O⟩=some (Y (some ⟨b6,o6,O⟩) K5.opn.length cO):=by rw[← hvO];exact L5.kst.at_.cell 9
         have hov:=L5.ki.opn _ (List.getElem_mem hcl);have k1:(0:Int)≤(c:Int):=by omega
         have k2:(c:Int)<(K5.opn.length:Int):=by omega
         have HL5:=ah L5;clear L5 z10;generalize hgo:K5.opn[c]=ov at *;by_cases hlp:p<n
         ·have j4:(p:Int)<(n:Int):=by omega
          by_cases hv:0≤ov
          ·obtain⟨o,rfl⟩:=Int.eq_ofNat_of_zero_le hv
           have hol:o<K5.wishes.length:=by omega
           have hWs:jY wr V5.vW K5.wishes:=HL5.out.kst.at_.eW
           obtain⟨aW,cW,hvW⟩:=aj HL5.out.kst.at_.rW
           have c8:wr.cell? ⟨g,8,O⟩=some (Y aW K5.wishes.length cW):=by rw[← hvW];exact HL5.out.kst.at_.cell 8
           rw[hvW] at hWs;obtain⟨b7,o7,rfl,_,_,_,_,d7,_⟩:=hWs.get o hol
           have k3:(0:Int)≤(o:Int):=by omega
           have k4:(o:Int)<(K5.wishes.length:Int):=by omega
           have ht1:=(HL5.out.ki.wish _ (List.getElem_mem hol)).t1;have HVx:Hid (∃ v∈K5.wishes,v.text=K5.wishes[o].text):=⟨_,List.getElem_mem hol,rfl⟩
           generalize K5.wishes[o].text=tx at *;clear hWs hov hgo;have HQ:Hid (∀ w6,Below wr.heap.size wr w6→Calls Tryz.prog 55 #[Zp (some ⟨g,0,O⟩),I J (-1),I J p,Z tx] w6 fun e w'=>e=Zr (.tuple #[])∧∃ K2 V2,Rn N w w' g K V (1200*r+350+7*(c-1)+p+1) K2 V2):=fun w6 hw6=>by
            refine (HPo.out _ p _ tx _ _ (HL5.out.below hw6) hlp (by omega) HVx.out (by omega)).mono ?_
            rintro e w7 ⟨rfl,K7,V7,L7,_⟩;exact⟨rfl,K7,V7,L7⟩
           go_wp2_with fail;go_region_with (go_at_call 55;refine (HQ.out _ (Below.refl _ _).drew).mono ?_;rintro e w7 ⟨rfl,K7,V7,L7⟩)
           all_goals
            have HL7:=ah L7;clear L7;go_wp2;go_roundw
            case rel=>exact⟨p+1,K7,V7,by omega,by go_num,HL7.out⟩
            case measure=>simp[intOf];omega
          ·have hv':ov<0:=by omega
           have HL6:=ah (HL5.out.le (d:=1200*r+350+7*(c+1-1)) (by omega))
           clear hov hgo hv;go_wp2;go_roundw
           case rel=>exact⟨c+1,K5,V5,by omega,by omega,by go_num,HL6.out⟩
           case measure=>simp[intOf];omega
         ·have j4:¬(p:Int)<(n:Int):=by omega
          have HL6:=ah (HL5.out.le (d:=1200*r+350+7*(c+1-1)) (by omega))
          clear hov hgo;go_wp2;go_roundw
          case rel=>exact⟨c+1,K5,V5,by omega,by omega,by go_num,HL6.out⟩
          case measure=>simp[intOf];omega
       ·have j3:¬(c:Int)≤9:=by omega
        have HQ:=ah (HRd.out _ r _ _ _ HL4.out (by omega) (by omega))
        go_wp2_with fail;refine HQ.out.mono ?_;intro e w5 hs;obtain⟨b,rfl⟩:=hs.bool
        cases b
        ·have HF:=ah (hs.le (d:=150000) (by omega))
         clear hs;go_wp2;go_ret;exact HF.out
        ·obtain⟨K5,V5,L5⟩:=hs.get
         have HL5:=ah (L5.le (d:=1200*(r+1)) (by omega))
         clear hs L5;have HQu:=ah HL5.out.quiet;go_wp2_with fail;refine HQu.out.mono ?_;rintro e w6 ⟨b6,rfl,hb6⟩;have HL6:=ah (HL5.out.below hb6);go_wp2;go_roundw
         case rel=>exact⟨r+1,b6,K5,V5,by omega,by go_num,rfl,HL6.out⟩
         case measure=>simp[intOf];omega
   ·by_cases h96:r<96
    focus
     have hb:bq=true:=by
      cases bq
      ·exact absurd ⟨h96,rfl⟩ hgo
      ·rfl
     subst hb;have j0:(r:Int)<96:=by omega
    rotate_left
    focus
     have j0:¬(r:Int)<96:=by omega
    rotate_left
    all_goals
     clear hgo;go_wp2_with fail;go_loopw [11] (fun i wr=>∃ (k:Nat) (K':Kw) (V':Kv),k≤4∧i=I J k∧Rn N w wr g K V (115200+700*k) K' V') (fun i _=>4-(intOf i).toNat)
     case atStart=>exact⟨0,K2,V2,Nat.zero_le _,rfl,HL2.out.le (by omega)⟩
     case round =>
      obtain⟨k,K3,V3,hk,rfl,L3⟩:=hrel
      have HL3:=ah L3;clear L3;by_cases hlk:k<4
      ·have j5:(k:Int)<4:=by omega
       have HQ:=ah (HRd.out _ k _ _ _ HL3.out (by omega) (by omega))
       go_wp2_with fail;refine HQ.out.mono ?_;intro e w5 hs;obtain⟨b,rfl⟩:=hs.bool
       cases b
       ·have HF:=ah (hs.le (d:=150000) (by omega))
        clear hs;go_wp2;go_ret;exact HF.out
       ·obtain⟨K5,V5,L5⟩:=hs.get
        have HL5:=ah (L5.le (d:=115200+700*(k+1)) (by omega))
        clear hs L5;go_wp2;go_roundw
        case rel=>exact⟨k+1,K5,V5,by omega,by go_num,HL5.out⟩
        case measure=>simp[intOf];omega
      ·have j5:¬(k:Int)<4:=by omega
       have HQu:=ah HL3.out.quiet;go_wp2_with fail;refine HQu.out.mono ?_;rintro e w6 ⟨b6,rfl,hb6⟩;have HL6:=ah (HL3.out.below hb6);cases b6
       ·have HQ:=ah (HFa.out _ _ _ _ HL6.out (by omega))
        go_wp2_with fail;refine HQ.out.mono ?_;rintro e w7 ⟨rfl,hF⟩;have HF:=ah hF;clear hF;go_wp2;go_ret;exact HF.out
       ·have HF:=ah (HL6.out.rne (d:=150000) true (by omega))
        go_wp2;go_ret;exact HF.out
end
section
variable {N:Nat} {w w':World} {g:Nat} {K K':Kw} {V V':Kv}
theorem KAt.OJ {w1 w2:World} {x:Nod} {v':Value} (h:KAt N w g K V) (hB:Below w.heap.size w w1) (hR:ay w1 x.b x.bl x.W x.F x.R x.V) (hF:∀ y∈x.F,w.heap.size≤y)
  (k:Kp V.vN.ownBlock.toList w1 w2) (ho:w2.ownsRow 0 29 1 v' (K.nds++[x]).length ((K.nds++[x]).map nE)) (hb:∀ y,v'.ownBlock=some y→V.vN.ownBlock=some y∨w1.heap.size≤y) :
  Kst N w (w2.setCell ⟨g,2,O⟩ v') g K V { K with nds:=K.nds++[x] } { V with vN:=v' }:=by
 have h1:=h.below hB;have hc0:(dh g K V)[1]? = some V.vN.ownBlock.toList:=vT (i:=0) (r:=⟨29,1,V.vN,K.nds.length,K.nds.map nE⟩) rfl
 have hgl:=h.lb;have hs1:=hB.size;have hgne:some g≠V.vN.ownBlock:=h.gne (i:=0) (r:=⟨29,1,V.vN,K.nds.length,K.nds.map nE⟩) rfl
 have hgb:v'.ownBlock≠some g:=fun hc=>by
  rcases hb g hc with q|q
  ·exact hgne q.symm
  ·omega
 have k3:Kp ([g]++V.vN.ownBlock.toList) w1 (w2.setCell ⟨g,2,O⟩ v'):=(k.wid (S':=[g]++V.vN.ownBlock.toList) (fun x hx=>by simp at hx;simp[hx])).set g 2 _ (.inl (by simp))
 have hof:∀ t,t≠0→t≠1→Off (dh g K V) ([g]++V.vN.ownBlock.toList) t:=fun t h0 h1=>Off.app (Off.one (i:=0) AZ (fun _ h=>h) (fun hc=>h0 hc.symm)) (Off.one hc0 (fun _ h=>h) (fun hc=>h1 hc.symm))
 have hfo:∀ x∈[g]++V.vN.ownBlock.toList,x∈iy g K V:=fun x hx=>by
  rcases List.mem_append.1 hx with q|q
  ·exact iC (i:=0) AZ x q
  ·exact iC hc0 x q
 have hcm:dh g { K with nds:=K.nds++[x] } { V with vN:=v' }=(dh g K V).set 1 v'.ownBlock.toList++[x.F]:=by
  unfold dh eY;simp
 have hlt:∀ c∈dh g K V,∀ y∈c,y<w.heap.size:=h.lt
 have hno0:0∉[g]++V.vN.ownBlock.toList:=h1.no0 hfo
 have hxf:∀ y∈x.F,y<w1.heap.size:=hR.fl
 have hvs:∀ c∈(dh g K V).set 1 v'.ownBlock.toList,∀ y∈c,y<w.heap.size∨w1.heap.size≤y:=fun c hc y hy=>by
  rcases List.mem_or_eq_of_mem_set hc with q|rfl
  ·exact .inl (hlt c q y hy)
  ·rcases hb y (by simpa using hy) with q|q
   ·exact .inl (hlt _ (List.mem_of_getElem? hc0) y (by simp[q]))
   ·exact .inr q
 refine⟨⟨?_,?_,?_,?_,?_,h.n0,h1.tab.kp k3 hno0⟩,((Kp.of_below hB).trans' (k3.wid hfo)),?_⟩
 ·exact heap_setCell_same w2 g 2 _ _ _ ((h1.zh k (Off.one hc0 (fun _ h=>h) (by omega))).trans h1.blk)
 ·intro r0 hr0;obtain⟨m,hm⟩:=List.getElem?_of_mem hr0
  cases m with
  | zero =>
   have:r0=⟨29,1,v',(K.nds++[x]).length,(K.nds++[x]).map nE⟩:=by
    have:some _=some r0:=hm
    exact (Option.some.inj this).symm
   subst this;exact fq ho ((Kp.refl [g] w2).set g 2 _ (.inl (by simp))) (fun y hy hc=>by simp at hc;subst hc;exact hgb hy)
  | succ m =>
   have hm':(eY K V)[m+1]? = some r0:=hm
   exact h1.oO k3 hm' (hof _ (by omega) (by omega))
 ·intro y hy;rcases List.mem_append.1 hy with q|q
  ·obtain⟨j,hj⟩:=List.getElem?_of_mem q
   exact h1.oJ k3 hj (hof _ (by omega) (by omega))
  ·simp at q;subst q;refine hR.far k3 (fun z hz hc=>?_) hno0
   have:=hF z hc
   rcases List.mem_append.1 hz with p|p
   ·simp at p;omega
   ·have:=hlt _ (List.mem_of_getElem? hc0) z p;omega
 ·rw[hcm];refine List.pairwise_append.2 ⟨h.ap.put (N:=w1.heap.size) (fun a ha y hy=>by have:=hlt a ha y hy;omega) (fun a ha y hy=>?_),List.pairwise_singleton _ _,fun a ha c hc y hy hyc=>?_⟩
  ·rw[hc0] at ha;cases ha;exact (hb y (by simpa using hy)).imp (fun p=>by simp[p]) id
  ·simp at hc;subst hc;have:=hF y hyc
   have:=hxf y hyc
   rcases hvs a ha y hy with p|p <;> omega
 ·rw[hcm];intro c hcc y hy;have hN:=h.Nlt;rcases List.mem_append.1 hcc with q|q
  ·rcases List.mem_or_eq_of_mem_set q with q|rfl
   ·exact h.lo c q y hy
   ·rcases hb y (by simpa using hy) with p|p
    ·exact h.lo _ (List.mem_of_getElem? hc0) y (by simp[p])
    ·omega
  ·simp at q;subst q;have:=hF y hy
   omega
 ·intro y hy;unfold iy at hy;rw[hcm] at hy;obtain⟨c,hcc,hy⟩:=List.mem_flatten.1 hy
  rcases List.mem_append.1 hcc with q|q
  ·rcases List.mem_or_eq_of_mem_set q with q|rfl
   ·exact .inl (List.mem_flatten.2 ⟨c,q,hy⟩)
   ·rcases hb y (by simpa using hy) with p|p
    ·exact .inl (iC hc0 y (by simp[p]))
    ·exact .inr (by omega)
  ·simp at q;subst q;exact .inr (hF y hy)
def K0 (n:Int):Kw:=⟨0,n,[],[],[],0,0,[],[],[],[],[],0⟩
def V0:Kv:=⟨Y O 0 0,Y O 0 0,Y O 0 0,Y O 0 0,Y O 0 0,Y O 0 0,Y O 0 0,Y O 0 0⟩
theorem KAt.fresh {n:Int} (hT:Tab w) (hN:0<N) (hNw:N≤w.heap.size):KAt N (w.alloc (.cells (mF (K0 n) V0) 50)) w.heap.size (K0 n) V0:=by
 have hcm:dh w.heap.size (K0 n) V0=[[w.heap.size],[],[],[],[],[],[],[],[]]:=rfl
 refine⟨heap_alloc_new w _,fun r hr=>?_,by simp[K0],?_,?_,hN,hT.below ((Below.refl _ w).alloc (Nat.le_refl _) _)⟩
 ·simp only[eY,K0,V0,List.mem_cons,List.not_mem_nil,or_false] at hr;rcases hr with rfl|rfl|rfl|rfl|rfl|rfl|rfl|rfl <;> exact World.ownsRow_nil _ _ _ _
 ·rw[hcm];simp[Ap]
 ·rw[hcm];intro c hc x hx;simp at hc;rcases hc with rfl|rfl
  ·simp at hx;omega
  ·simp at hx
theorem GA {id n:Int} {s:ByteArray} (hn:3≤n∧n≤7∧0≤id∧id<n) (hg:aV s.data.toList n=true):Ok (Rp.new id n (dA s)):=by
 have hgo:fE n (dA s):=by
  have:=rC s n
  rwa [(BN hg).1] at this
 refine⟨hn.1,hn.2.1,hn.2.2.1,hn.2.2.2,?_,fun x hx=>?_,?_,by simp[Rp.new,Rp.mk0],by simp[Rp.new,Rp.mk0],by simp[Rp.new,Rp.mk0],hgo,fE.nil _,by simp[Rp.new,Rp.mk0],by simp[Rp.new,Rp.mk0],by simp[Rp.new,Rp.mk0],by simp[Rp.new,Rp.mk0],by simp[Rp.new,Rp.mk0],by simp[Rp.new,Rp.mk0],by simp[Rp.new,Rp.mk0]⟩
 ·show ((dB n.toNat).length:Int)=n
  rw[AO];omega
 ·have hx:x∈dB n.toNat:=hx
  unfold dB at hx;have:=List.eq_of_mem_replicate hx
  omega
 ·show 1≤(if iQ (dA s) id=true then (1:Int) else 4)∧(if iQ (dA s) id=true then (1:Int) else 4)≤5
  split <;> omega
structure Cl (n0:Int) (k m:Nat) (grp:ByteArray) (K:Kw):Prop where
 part:K.part=0
 n:K.n=n0
 nl:K.nds.length=k
 dl:K.down.length=k
 bl:K.begun.length=k
 lv:K.lives=0
 net:K.net=[]
 ws:K.wishes=[]
 ol:K.opn=List.replicate m (-1)
 ls:K.list=[]
 gs:K.groups=[grp]
 fl:K.floor=0
 nod:∀ (q:Nat) (x:Nod),K.nds[q]? = some x→NI n0 q x∧x.R=Rp.new q n0 (dA grp)
theorem Cl.ki {n:Int} {grp:ByteArray} {k:Nat} (h:Cl n k 10 grp K) (hn:3≤n∧n≤7) (hk:(k:Int)=n) (hg:aV grp.data.toList n=true):KI K∧Gr K∧dI K≤208000000000:=by
 have h1:=h.n;have h2:=h.nl;have h3:=h.dl;have h4:=h.bl;refine⟨⟨⟨by omega,by omega,by omega,by omega,by omega,by rw[h.ol];simp⟩,.inl h.part,fun q x hx=>by rw[h.n];exact (h.nod q x hx).1,by rw[h.net];simp,by rw[h.ws];simp,fun v hv=>?_,by rw[h.ls];exact⟨by simp,by simp⟩,fun t ht=>?_,by rw[h.lv];omega,by rw[h.gs,h.ls];simp⟩,show CI K from ⟨by rw[h.ls,h.gs,h.n];exact⟨⟨grp,rfl⟩,fun t ht=>by simp at ht;subst ht;exact hg⟩,by rw[h.ws];simp[wt],by rw[h.ws];exact .nil,by rw[h.fl,h.ls,h.ws];simp,by rw[h.ws];simp,fun x hx=>?_,by rw[h.net];simp⟩,?_⟩
 ·rw[h.ol] at hv;have:=List.eq_of_mem_replicate hv
  omega
 ·rw[h.gs] at ht;simp at ht;subst ht;rw[h.n];exact hg
 ·obtain⟨q,hq⟩:=List.getElem?_of_mem hx
  have hG:GI [] [grp] n:=⟨⟨grp,rfl⟩,fun t ht=>by simp at ht;subst ht;exact hg⟩
  rw[h.ls,h.ws,h.gs,(h.nod q x hq).2];exact⟨Pf hG _,fun _=>by simp[Rp.new,Rp.mk0,regs],⟨by simp[Rp.new,Rp.mk0],by simp[Rp.new,Rp.mk0]⟩⟩
 ·have:=Ik K.nds
  unfold dI;rw[h.net,h.ws,h.lv];simp
  omega
end
end Go.Proofs.YtbnihoahhomooaaGreatDoor
