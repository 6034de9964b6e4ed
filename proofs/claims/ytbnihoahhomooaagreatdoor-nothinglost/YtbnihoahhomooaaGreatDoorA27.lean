import Derived.Test.YtbnihoahhomooaaGreatDoorA23
import Derived.Test.YtbnihoahhomooaaGreatDoorA24
import Derived.Test.YtbnihoahhomooaaGreatDoorA25
set_option maxRecDepth 100000
set_option maxHeartbeats 8000000
set_option linter.all false
namespace Go.Proofs.YtbnihoahhomooaaGreatDoor
open Go.Value renaming int→I,slice→Y,string→Z,pointer→Zp
open Go.Ending renaming returned→Zr
open _root_.ByteArray renaming empty→Ze
open Go.IntKind renaming i64→J
open Option renaming none→O
open Go.RowKit
section
variable {N:Nat} {w w':World} {g:Nat} {K K':Kw} {V V':Kv}
theorem b0_at {s:ByteArray} (h:0<s.size):b0 s=(s[0].toNat:Int):=by unfold b0;rw[atS h]
theorem KI.join (h:KI K) (E:En) (hE:jd K.n E) (hl:K.list.length<10):KI (iI K E):=by
 have hsz:=(nW hE.2.2.2.2.1).sz.s2;refine⟨⟨h.sz.n3,h.sz.n7,h.sz.nds,h.sz.down,h.sz.begun,h.sz.opn⟩,h.part,h.nod,h.net,h.wish,h.opn,⟨by simp[iI];omega,fun e he=>?_⟩,fun t ht=>?_,h.li,?_⟩
 ·rcases List.mem_append.1 he with q|q
  ·exact h.list.2 e q
  ·simp at q;subst q;exact hE
 ·unfold iI nI at ht;simp only at ht
  split at ht
  ·rename_i hb;rcases List.mem_append.1 ht with q|q
   ·exact h.grps t q
   ·simp at q;subst q;have:=hE.2.2.2.2.1
    rw[Oc (by omega) (beq_iff_eq.2 ((b0_at (by omega)).symm.trans hb))] at this
    exact this
  ·exact h.grps t ht
 ·have:=h.gl
  unfold iI nI;simp only
  split
  ·simp;omega
  ·simp;omega
theorem GI.join {L:List En} {G:List ByteArray} {n:Int} (h:GI L G n) {E:En} (hE:jd n E):GI (L++[E]) (nI E.2.2 G) n:=by
 obtain⟨g0,hg⟩:=h.ex
 by_cases hr:eT E=true
 ·have e1:nI E.2.2 G=G++[E.2.2.extract 1 E.2.2.size]:=by unfold nI;rw[if_pos (yK.2 hr)]
  have e2:pV [E]=[E.2.2.extract 1 E.2.2.size]:=by unfold pV;rw[List.filter_cons,if_pos hr];rfl
  rw[e1];refine⟨⟨g0,by rw[hg,Aj,e2];rfl⟩,fun t ht=>?_⟩
  rcases List.mem_append.1 ht with q|q
  ·exact h.ok t q
  ·exact Iu (l:=[E]) (fun e he=>by simp at he;subst he;exact hE) t (by rw[e2];exact q)
 ·have e1:nI E.2.2 G=G:=by unfold nI;rw[if_neg (fun z=>hr (yK.1 z))]
  have e2:pV [E]=[]:=by unfold pV;rw[List.filter_cons,if_neg hr];rfl
  rw[e1];exact⟨⟨g0,by rw[hg,Aj,e2,List.append_nil]⟩,h.ok⟩
structure Ag (N:Nat) (w wr:World) (g:Nat) (K:Kw) (V:Kv) (K':Kw) (V':Kv):Prop where
 kst:Kst N w wr g K V K' V'
 ki:KI K'
 nds:K'.nds=K.nds
 net:K'.net=K.net
 n:K'.n=K.n
 wl:K'.wishes=K.wishes
 lv:K'.lives=K.lives
 gl:K.groups.length≤K'.groups.length
 fl:K'.floor=K.floor
 li:K.list <+: K'.list
 gg:K.groups <+: K'.groups
 gi:GI K.list K.groups K.n→GI K'.list K'.groups K.n
theorem Ag.refl (h:KAt N w g K V) (hi:KI K):Ag N w w g K V K V:=⟨Kst.refl h,hi,rfl,rfl,rfl,rfl,rfl,Nat.le_refl _,rfl,List.prefix_refl _,List.prefix_refl _,fun h=>h⟩
theorem Ag.dI {wr:World} (A:Ag N w wr g K V K' V'):dI K'=dI K:=by unfold Go.Proofs.YtbnihoahhomooaaGreatDoor.dI;rw[A.nds,A.net,A.wl,A.lv]
section
variable {wr w2:World} {K2:Kw} {V2:Kv}
theorem Ag.below (A:Ag N w wr g K V K' V') (hb:Below wr.heap.size wr w2):Ag N w w2 g K V K' V':=⟨A.kst.below hb,A.ki,A.nds,A.net,A.n,A.wl,A.lv,A.gl,A.fl,A.li,A.gg,A.gi⟩
theorem Ag.pre {w0:World} (A:Ag N w wr g K V K' V') (h:KAt N w0 g K V) (hb:Below w0.heap.size w0 w):Ag N w0 wr g K V K' V':=⟨((Kst.refl h).below hb).trans A.kst,A.ki,A.nds,A.net,A.n,A.wl,A.lv,A.gl,A.fl,A.li,A.gg,A.gi⟩
theorem Ag.fails {p:Int} (A:Ag N w wr g K V K' V') (k:Kst N wr w2 g K' V' { K' with part:=p } V2) (hp:sV p):Ag N w w2 g K V { K' with part:=p } V2 :=
 ⟨A.kst.trans k,A.ki.fails hp,A.nds,A.net,A.n,A.wl,A.lv,A.gl,A.fl,A.li,A.gg,A.gi⟩
theorem Ag.join {E:En} (A:Ag N w wr g K V K' V') (k:Kst N wr w2 g K' V' (iI K' E) V2) (hE:jd K.n E) (hl:K'.list.length<10):Ag N w w2 g K V (iI K' E) V2 :=
 ⟨A.kst.trans k,A.ki.join E (by rw[A.n];exact hE) hl,A.nds,A.net,A.n,A.wl,A.lv,Nat.le_trans A.gl (by unfold iI nI;simp only;split <;> simp),A.fl,A.li.trans (List.prefix_append _ _),A.gg.trans (by unfold iI nI;simp only;split;exact List.prefix_append _ _;exact List.prefix_refl _),fun h=>(A.gi h).join hE⟩
theorem Ag.begun {j:Nat} {y:Int} (A:Ag N w wr g K V K' V') (k:Kst N wr w2 g K' V' { K' with begun:=K'.begun.set j y } V2):Ag N w w2 g K V { K' with begun:=K'.begun.set j y } V2 :=
 ⟨A.kst.trans k,A.ki.begun j y,A.nds,A.net,A.n,A.wl,A.lv,A.gl,A.fl,A.li,A.gg,A.gi⟩
theorem Ag.node (A:Ag N w wr g K V K' V') {q:Nat} {x:Nod} (hx:K.nds[q]? = some x):ay wr x.b x.bl x.W x.F x.R x.V:=A.kst.at_.nodes x (by rw[A.nds];exact List.mem_of_getElem? hx)
end
def AgE (N:Nat) (w w':World) (g:Nat) (K:Kw) (V:Kv) (q:Nat) (x:Nod) (e:Ending):Prop:=∃ b K' V',e=Zr (.bool b)∧Ag N w w' g K V K' V'∧(b=true→(x.R.status≠3→x.R.decided≤K'.list.length∧x.R.log.take x.R.decided=K'.list.take x.R.decided)∧K'.begun=jN K.begun q x.R)
theorem Cq {l m:List En} {k:Nat} (h:l.take k=m.take k) (h1:k<l.length) (h2:k<m.length) (e:l[k]=m[k]):l.take (k+1)=m.take (k+1):=by
 rw[List.take_succ_eq_append_getElem h1,List.take_succ_eq_append_getElem h2,h,e]
theorem qI (h:KAt N w g K V) (hi:KI K) (q:Nat) (x:Nod) (hx:K.nds[q]? = some x) (hG0:GI K.list K.groups K.n)
  (hJn:K.list <+: x.R.log.take x.R.decided→∀ k,K.list.length≤k→k<x.R.decided→∀ v∈K.wishes,v.e=x.R.log.getD k en0→v.bad=false∧v.floor≤(k:Int))
  (hCh:x.R.status≠3→∀ L' G',K.list <+: L'→K.groups <+: G'→GI L' G' K.n→x.R.decided≤L'.length→x.R.log.take x.R.decided=L'.take x.R.decided →
   x.R.epoch<(G'.length:Int)∧jJ x.R.grp=G'.getD x.R.epoch.toNat ⟨#[]⟩∧(iQ x.R.grp x.R.id=true↔(x.R.status=1∨x.R.status=2))∧(x.R.status=1→(regs x.R.log:Int)=x.R.epoch∨(regs x.R.log:Int)=x.R.epoch+1)) :
  Calls Tryz.prog 61 #[Zp (some ⟨g,0,O⟩),I J q] w fun e w'=>AgE N w w' g K V q x e:=by
 have z:=hi.sz;obtain⟨n,hn⟩:∃ n:Nat,K.n=n:=⟨K.n.toNat,by have:=z.n3;omega⟩
 have z3:=z.n3;have z1:=z.nds;have z7:=z.n7;have zd:=z.down;have zb:=z.begun;have z10:=z.opn;rw[hn] at z1 z7 z3 zd zb;have HC1:Hid (∀ w2,Below w.heap.size w w2→w2.cell? ⟨g,1,O⟩=some (I J n)):=fun w2 hw2=>by rw[← hn];exact (h.below hw2).cell 1
 obtain⟨aN,cN,hvN⟩:=aj h.rN
 have HC2:Hid (∀ w2,Below w.heap.size w w2→w2.cell? ⟨g,2,O⟩=some (Y aN K.nds.length cN)):=fun w2 hw2=>by rw[← hvN];exact (h.below hw2).cell 2
 have HN:=ah (fun (w2:World) (hw2:Below w.heap.size w w2)=>KAt.ptr h hvN hw2)
 have HWh:=ah (fun (w2:World) (hw2:Below w.heap.size w w2)=>KAt.whr h hw2)
 obtain⟨hq,hxe⟩:=List.getElem?_eq_some_iff.1 hx
 have ni:=hi.nod q x hx;have hok:=ni.ok;have HRc:=ah ni.rc;have HSvI:=ah ni.sv;have hRn:=ni.n;have HQ:=ah (HWh.out w (Below.refl _ _) q hq);rw[hxe] at HQ;obtain⟨b1,o1,rfl,_,d1⟩:=HN.out w (Below.refl _ _) q hq
 rw[hxe] at d1;have c2:=HC2.out w (Below.refl _ _);have j1:(0:Int)≤(q:Int):=by omega
 have j2:(q:Int)<(K.nds.length:Int):=by omega
 have HLg:Hid (∀ w2,Below w.heap.size w w2→Calls Tryz.prog 104 #[Zp (some ⟨x.b,0,O⟩)] w2 fun e w'=>∃ v,e=Zr v∧w'.ownsRow w2.heap.size 66 3 v x.R.log.length (aA x.R.log)∧Below w2.heap.size w2 w'):=fun w2 hw2=>uS ((h.nodes x (List.mem_of_getElem? hx)).below hw2) (by have:=hok.lg;omega)
 have HY3:Hid (∀ w2,Below w.heap.size w w2→x.R.status=3→AgE N w w2 g K V q x (Zr (.bool true))):=fun w2 hw2 h3=>⟨true,K,V,rfl,(Ag.refl h hi).below hw2,fun _=>⟨fun hc=>absurd h3 hc,by unfold jN;rw[if_neg (by omega)]⟩⟩
 have HK:=ah (fun (w2:World) (hw2:Below w.heap.size w w2)=>h.below hw2)
 have HKI:=ah hi;have HPre:Hid (∀ {w1 w2:World} {K':Kw} {V':Kv},Below w.heap.size w w1→Ag N w1 w2 g K V K' V'→Ag N w w2 g K V K' V'):=fun hb A=>A.pre h hb
 have HFoot:Hid (∀ b,w.heap.size≤b→b∉iy g K V):=fun b hb hc=>by
  obtain⟨c,hc1,hc2⟩:=List.mem_flatten.1 hc
  have:=h.lt c hc1 _ hc2
  omega
 have HX:=ah hx;have hep:=hok.ep;have hdl:=hok.dc;have hlg:=hok.lg;have HEn:Hid (∀ (k:Nat) (hk:k<x.R.log.length),jd K.n x.R.log[k]):=fun k hk=>by rw[← hRn];exact hok.le _ (List.getElem_mem hk)
 have HGl:Hid (x.R.grp.length≤5∧∀ y∈x.R.grp,0≤y∧y≤1000000):=⟨hok.g.1,fun y hy=>by have:=hok.g.2 y hy;have:=hok.n7;omega⟩
 have HJn:=ah hJn;have HGi:=ah hG0;have HGd:Hid (∀ y∈x.R.grp,0≤y∧y<10):=fun y hy=>by have:=hok.g.2 y hy;have:=hok.n7;omega
 have HId:Hid (x.R.id=q):=ni.id
 clear h hi z hx ni hok HWh HN HC1 hJn hG0;by_cases s3:x.R.status=3
 ·clear hCh HJn HGi HGd HId;have hd0:=(HRc.out s3).2.2.2;have HY:=ah (fun w2 hw2=>HY3.out w2 hw2 s3)
  rw[s3,hd0] at HQ;clear s3 hd0;go_enter Tryz.func61,Tryz.ntmps61;go_wp2_with fail;refine HQ.out.mono ?_;rintro e w1 ⟨rfl,nn,hw1⟩;have hb1:Below w.heap.size w w1:=by rw[hw1];exact below_drewN (Below.refl _ _) nn
  clear hw1;go_wp2;go_ret;exact HY.out _ hb1
 ·have s3':(x.R.status==3)=false:=beq_eq_false_iff_ne.2 s3
  obtain⟨ia,hia⟩:=Int.eq_ofNat_of_zero_le hep.1
  have hep1:ia≤10:=by omega
  rw[hia] at HQ;have HCh:=ah (hCh s3);have HBt1:Hid (x.R.status=1→jN K.begun q x.R=K.begun.set q (max (K.begun.getD q (-1)) (ia:Int))):=fun h1=>by unfold jN;rw[if_pos h1,hia]
  have HBt0:Hid (x.R.status≠1→jN K.begun q x.R=K.begun):=fun h1=>by unfold jN;rw[if_neg h1]
  clear hep HRc HY3 s3 hCh;have g1:¬(x.R.log.length:Int)<(x.R.decided:Int):=by omega
  have g1n:¬x.R.log.length<x.R.decided:=by omega
  have g2:¬(x.R.decided:Int)<0:=by omega
  generalize hst:x.R.status=r3 at *;clear hst;generalize x.R.view=r2 at *;generalize hbb:x.b=bb at *;go_enter Tryz.func61,Tryz.ntmps61;go_wp2_with fail;refine HQ.out.mono ?_;rintro e w1 ⟨rfl,nn,hw1⟩;have hb1:Below w.heap.size w w1:=by rw[hw1];exact below_drewN (Below.refl _ _) nn
  clear hw1 c2 d1;go_wp2_with fail;refine (HLg.out _ hb1).mono ?_;rintro e wB ⟨vL,rfl,hownL,hbL⟩;have hbB:Below w.heap.size w wB:=hb1.trans (hbL.mono hb1.size)
  obtain⟨aG,cG,rfl⟩:=aj hownL
  have HEL0:Hid (gW wB (Y aG x.R.log.length cG) x.R.log):=Rd.bR hownL
  have HFr:Hid (Fr (iy g K V) (Y aG x.R.log.length cG)):=fun k hk=>HFoot.out k (by have:=(hownL.lt k hk).1;have:=hb1.size;omega)
  have HEL:Hid (∀ {w2:World} {K2:Kw} {V2:Kv},Ag N wB w2 g K V K2 V2→gW w2 (Y aG x.R.log.length cG) x.R.log):=fun A=>Rd.kp HEL0.out A.kst.kp HFr.out (fun _ h=>h)
  have HNo:Hid (∀ (w2:World) (K2:Kw) (V2:Kv),Ag N wB w2 g K V K2 V2→AgE N w w2 g K V q x (Zr (.bool false))):=fun w2 K2 V2 A=>⟨false,K2,V2,rfl,HPre.out hbB A,fun h=>by simp at h⟩
  have HYes:Hid (∀ (w2:World) (K2:Kw) (V2:Kv),Ag N wB w2 g K V K2 V2→x.R.decided≤K2.list.length→K2.list.take x.R.decided=x.R.log.take x.R.decided→K2.begun=jN K.begun q x.R→AgE N w w2 g K V q x (Zr (.bool true))):=fun w2 K2 V2 A h1 h2 h3=>⟨true,K2,V2,rfl,HPre.out hbB A,fun _=>⟨fun _=>⟨h1,h2.symm⟩,h3⟩⟩
  generalize hbt:jN K.begun q x.R=bt at *;clear hbt;have HA0:=ah (Ag.refl (HK.out _ hbB) HKI.out);have hEq:=Pb;have hGd:=eqGd;clear hownL hbL HK HLg HPre HFoot HQ HEL0;go_wp2_with fail;go_loopw [11] (fun i wr=>∃ (k:Nat) (K':Kw) (V':Kv),k≤x.R.decided∧i=I J k∧Ag N wB wr g K V K' V'∧k≤K'.list.length∧K'.list.take k=x.R.log.take k∧K'.begun=K.begun) (fun i _=>x.R.decided-(intOf i).toNat)
  case atStart=>exact⟨0,K,V,Nat.zero_le _,rfl,HA0.out,Nat.zero_le _,rfl,rfl⟩
  case round =>
   obtain⟨k,K1,V1,hk,rfl,A1,hkl,htk,hbg1⟩:=hrel
   have HBg1:=ah hbg1;clear hbg1;have HA1:=ah A1;have HTk:=ah htk;obtain⟨aL,cL,hvL⟩:=aj A1.kst.at_.rL
   have c10:wr.cell? ⟨g,10,O⟩=some V1.vL:=A1.kst.at_.cell 10
   rw[hvL] at c10;have hl10:=A1.ki.list.1;have hgl:=A1.ki.gl;clear A1 htk;by_cases hlt:k<x.R.decided
   ·have hkg:k<x.R.log.length:=by omega
    obtain⟨bl,ol,rfl,_,d1,d2,d3⟩:=(HEL.out HA1.out).get k hkg
    have j3:(0:Int)≤(k:Int):=by omega
    have j4:(k:Int)<(x.R.decided:Int):=by omega
    have j5:(k:Int)<(x.R.log.length:Int):=by omega
    have hen:=HEn.out k hkg;have hE1:0<x.R.log[k].2.2.size:=by have:=(nW hen.2.2.2.2.1).sz.s2;omega
    have HE:=ah hen;clear hen;generalize hEk:x.R.log[k]=E at *;by_cases hke:k=K1.list.length
    ·have HNb:Hid (¬BadJ K1 E):=fun ⟨v,hv1,hv2,hv3⟩=>by
      have e1:K1.list=x.R.log.take k:=by have:=HTk.out;rw[hke,List.take_length] at this;rw[hke];exact this
      have p1:K.list <+: x.R.log.take x.R.decided:=HA1.out.li.trans (by rw[e1];exact List.take_prefix_take_left (by omega))
      have e2:x.R.log.getD k en0=E:=by rw[getD_at hkg,hEk]
      have:=HJn.out p1 k (by have:=HA1.out.li.length_le;omega) hlt v (by rw[← HA1.out.wl];exact hv1) (by rw[e2];exact hv2)
      rcases hv3 with q|q
      ·rw[this.1] at q;cases q
      ·omega
     have HJ:=ah (Gb HA1.out.kst.at_ E hE1 (by omega) (by omega))
     have hke':((k:Int)==(K1.list.length:Int))=true:=by rw[← hke];simp
     have hk10:K1.list.length<10:=by omega
     have HKe:=ah hke;clear hke;go_wp2_with fail;refine HJ.out.mono ?_;rintro e w2 ⟨bJ,K2,V2,rfl,kJ,hJ⟩;rcases hJ with ⟨rfl,rfl⟩|⟨rfl,hJ⟩
     ·have A2:=HA1.out.join kJ HE.out hk10;have HA2:=ah A2;obtain⟨aM,cM,hvM⟩:=aj A2.kst.at_.rL
      have e10:w2.cell? ⟨g,10,O⟩=some V2.vL:=A2.kst.at_.cell 10
      have hll2:(iI K1 E).list.length=K1.list.length+1:=by simp[iI]
      have hM:gW w2 V2.vL (iI K1 E).list:=A2.kst.at_.eL
      rw[hvM] at e10 hM;obtain⟨bm,om,rfl,_,f1,f2,f3⟩:=hM.get k (by rw[hll2];have:=HKe.out;omega)
      have hgk:(iI K1 E).list[k]'(by rw[hll2];have:=HKe.out;omega)=E:=by
       have:=HKe.out
       subst this;simp[iI]
      rw[hgk] at f1 f2 f3;obtain⟨bl2,ol2,e2,_,g1',g2',g3'⟩:=(HEL.out A2).get k hkg
      cases e2;rw[hEk] at g1' g2' g3';have HTn:Hid ((iI K1 E).list.take (k+1)=x.R.log.take (k+1)):=by
       have hk1:k<(iI K1 E).list.length:=by rw[hll2];have:=HKe.out;omega
       refine Cq ?_ hk1 hkg (by rw[hgk,hEk])
       have:(iI K1 E).list.take k=K1.list.take k:=by
        have:=HKe.out
        subst this;simp[iI]
       rw[this];exact HTk.out
      have j6:(k:Int)<((iI K1 E).list.length:Int):=by rw[hll2];have:=HKe.out;omega
      have hself:xS E.1 E.2.1 E.2.2 E.1 E.2.1 E.2.2=true:=za.2 ⟨rfl,rfl,rfl⟩
      have hkn:k+1≤(iI K1 E).list.length:=by omega
      have HBg2:Hid ((iI K1 E).begun=K.begun):=HBg1.out
      clear A2 hM hvM hll2 hgk d1 d2 d3 c10 hgl;generalize iI K1 E=K2 at *;go_wp2_with fail;go_quiet (fail);have Aq:=HA2.out.below (below_drewN (Below.refl _ _) nq);go_wp2;go_roundw
      case rel=>exact⟨k+1,_,_,by omega,by go_num,Aq,hkn,HTn.out,HBg2.out⟩
      case measure=>simp[intOf];omega
     ·have HN2:Hid (AgE N w w2 g K V q x (Zr (.bool false))):=by
       rcases hJ with rfl|⟨rfl,hbj⟩
       ·exact HNo.out _ _ _ (HA1.out.fails kJ (by unfold sV;omega))
       ·exact absurd hbj HNb.out
      go_wp2;go_ret;exact HN2.out
    ·have hke':((k:Int)==(K1.list.length:Int))=false:=by rw[beq_eq_false_iff_ne];omega
     have hkL:k<K1.list.length:=by omega
     clear hke;have hM:gW wr V1.vL K1.list:=HA1.out.kst.at_.eL
     rw[hvL] at hM;obtain⟨bm,om,rfl,_,f1,f2,f3⟩:=hM.get k hkL
     have j6:(k:Int)<(K1.list.length:Int):=by omega
     have HTn:Hid (xS E.1 E.2.1 E.2.2 K1.list[k].1 K1.list[k].2.1 K1.list[k].2.2=true→K1.list.take (k+1)=x.R.log.take (k+1)):=fun he=>by
      obtain⟨e1,e2,e3⟩:=za.1 he
      exact Cq HTk.out hkL hkg (by rw[hEk];exact Prod.ext e1.symm (Prod.ext e2.symm e3.symm))
     clear hM;cases hen:xS E.1 E.2.1 E.2.2 K1.list[k].1 K1.list[k].2.1 K1.list[k].2.2
     ·go_wp2_with fail;go_quiet (fail);have HA1:=ah (HA1.out.below (below_drewN (Below.refl _ _) nq));go_wp2_with fail;have HFq:=ah (mG HA1.out.kst.at_ 1);refine HFq.out.mono ?_;rintro e w9 ⟨rfl,k9⟩;go_wp2;go_ret;exact HNo.out _ _ _ (HA1.out.fails k9 (by unfold sV;omega))
     ·have HTm:=ah (HTn.out hen);go_wp2_with fail;go_quiet (fail);have Aq:=HA1.out.below (below_drewN (Below.refl _ _) nq);go_wp2;go_roundw
      case rel=>exact⟨k+1,_,_,by omega,by go_num,Aq,hkL,HTm.out,HBg1.out⟩
      case measure=>simp[intOf];omega
   ·have hkd:k=x.R.decided:=by omega
    have HTd:Hid (K1.list.take x.R.decided=x.R.log.take x.R.decided):=by rw[← hkd];exact HTk.out
    have hdk:x.R.decided≤K1.list.length:=by omega
    have j4:¬(k:Int)<(x.R.decided:Int):=by omega
    obtain⟨aR,cR,hvR⟩:=aj HA1.out.kst.at_.rG
    have c11:wr.cell? ⟨g,11,O⟩=some V1.vG:=HA1.out.kst.at_.cell 11
    rw[hvR] at c11;clear c10 hkd HTk;have g3:¬(ia:Int)<0:=by omega
    obtain⟨cc2,cc3,cc4,cc5⟩:=HCh.out K1.list K1.groups HA1.out.li HA1.out.gg (by have:=HA1.out.gi HGi.out;exact this) hdk HTd.out.symm
    rw[hia] at cc2 cc3 cc5;have hil:ia<K1.groups.length:=by omega
    have j7:(ia:Int)<(K1.groups.length:Int):=by omega
    have eG:K1.groups.getD ((ia:Nat):Int).toNat ⟨#[]⟩=K1.groups[ia]:=by rw[Int.toNat_natCast,List.getD_eq_getElem?_getD,List.getElem?_eq_getElem hil];rfl
    have HTt:Hid (txt x.R.grp=K1.groups[ia]):=by unfold Hid;rw[IL,cc3,eG]
    have HAb:Hid (amB (txt x.R.grp) q=true↔(r3=1∨r3=2)):=by
     unfold Hid;rw[IL,Kk HGd.out,← HId.out];exact cc4
    clear cc2 cc3 cc4 eG HCh HJn HGd;have HSrv:Hid (∀ (w2:World) (K2:Kw) (V2:Kv),Ag N wB w2 g K V K2 V2→K2.list=K1.list→Calls Tryz.prog 109 #[Zp (some ⟨g,0,O⟩),Zp (some ⟨bb,0,O⟩),I J (x.R.decided:Int)] w2 fun e w'=>e=Zr (.bool true)∧Below w2.heap.size w2 w'):=fun w2 K2 V2 A hl=>by
     have hn2:=A.node HX.out;rw[hbb] at hn2;refine Eh A.kst.at_ hn2 x.R.decided (by rw[hl];exact hdk) (by omega) (by rw[hl,HTd.out];exact HSvI.out) (fun e he=>nW (A.ki.list.2 e he).2.2.2.2.1) (fun e he=>?_)
     have:=A.ki.list.2 e he
     exact⟨this.1,this.2.1⟩
    have HMv:Hid (∀ {w2:World} {K2:Kw} {V2:Kv},Ag N wB w2 g K V K2 V2→Calls Tryz.prog 108 #[Y aG x.R.log.length cG] w2 fun e w'=>e=Zr (I J (regs x.R.log))∧Below w2.heap.size w2 w'):=fun A=>Ee _ _ _ (HEL.out A) (fun y hy=>by
     obtain⟨j,hj,rfl⟩:=List.mem_iff_getElem.1 hy
     have:=(nW (HEn.out j hj).2.2.2.2.1).sz.s2
     omega)
    have HGr:=ah (Ch (HA1.out.node HX.out) (by have:=HGl.out.1;omega))
    rw[hbb] at HGr;have htz:(txt x.R.grp).size≤1000000:=by
     have:=G8 x.R.grp (fun y hy=>by have:=(HGl.out.2 y hy).2;omega)
     have:=HGl.out.1
     omega
    go_wp2_with fail;refine HGr.out.mono ?_;rintro e w2 ⟨vg,rfl,hown2,hb2⟩;have HTx:=ah (vV vg x.R.grp w2 (Rd.bR hown2) (by have:=HGl.out.1;omega) HGl.out.2)
    obtain⟨a2,c2,rfl⟩:=aj hown2
    clear hown2;go_wp2_with fail;refine HTx.out.mono ?_;rintro e w3 ⟨rfl,hb3⟩;have HA1:=ah (HA1.out.below (hb2.trans (hb3.mono hb2.size)));generalize txt x.R.grp=tt at *;have HAm:=ah (xG tt q w3 (by omega))
    clear hb2 hb3 HGr HTx c11;go_wp2_with fail;refine HAm.out.mono ?_;rintro e w4 ⟨rfl,hw4⟩;subst hw4;have c11:w4.cell? ⟨g,11,O⟩=some (Y aR K1.groups.length cR):=by rw[← hvR];exact HA1.out.kst.at_.cell 11
    obtain⟨bg,og,rfl,_,d11⟩:=HA1.out.kst.at_.grp hvR (Below.refl _ _) ia hil
    have hqb:q<K1.begun.length:=by have:=HA1.out.ki.sz.begun;rw[HA1.out.n,hn] at this;omega
    obtain⟨bq,cq,hvB,hbq⟩:=pF HA1.out.kst.at_.rB (by omega)
    have c4:w4.cell? ⟨g,4,O⟩=some (Y (some ⟨bq,0,O⟩) K1.begun.length cq):=by rw[← hvB];exact HA1.out.kst.at_.cell 4
    obtain⟨b5,o5,e5,_,d4⟩:=HA1.out.kst.at_.bgn hvB (Below.refl _ _) q hqb
    cases e5;simp only[Nat.zero_add] at d4;have f4:=HA1.out.kst.at_.fz (i:=2) (r:=⟨3,1,V1.vB,K1.begun.length,K1.begun.map (Value.int .i64)⟩) rfl hvB q;have j8:(q:Int)<(K1.begun.length:Int):=by omega
    have HBg:Hid (Ag N wB (w4.setCell ⟨bq,q,O⟩ (I J (ia:Int))) g K V { K1 with begun:=K1.begun.set q (ia:Int) } V1):=HA1.out.begun (HA1.out.kst.at_.setB hvB q (ia:Int))
    have HBs:Hid (r3=1→K1.begun[q]<(ia:Int)→K1.begun.set q (ia:Int)=bt):=fun h1 h2=>by
     rw[HBt1.out h1,HBg1.out];have e:K.begun.getD q (-1)=K1.begun[q]:=by rw[← HBg1.out,List.getD_eq_getElem?_getD,List.getElem?_eq_getElem hqb];rfl
     rw[e,Int.max_eq_right (by omega)]
    have HBn:Hid (r3=1→¬K1.begun[q]<(ia:Int)→K1.begun=bt):=fun h1 h2=>by
     have e:K.begun.getD q (-1)=K1.begun[q]:=by rw[← HBg1.out,List.getD_eq_getElem?_getD,List.getElem?_eq_getElem hqb];rfl
     rw[HBt1.out h1,← HBg1.out];rw[← HBg1.out] at e;rw[e,Int.max_eq_left (by omega),List.set_getElem_self]
    have HB0:Hid (r3≠1→K1.begun=bt):=fun h1=>by rw[HBt0.out h1];exact HBg1.out
    clear HBt0 HBt1 HBg1;generalize K1.begun[q]=bn at *;generalize K1.groups[ia]=gt at *;have htt:=HTt.out;subst htt;clear HAm HTt;have hab:=HAb.out;generalize amB tt q=bA at *;clear HAb;have HYs:=ah (fun (w2:World) (A:Ag N wB w2 g K V K1 V1) (h:K1.begun=bt)=>HYes.out w2 K1 V1 A hdk HTd.out h)
    have HYt:=ah (fun (w2:World) (A:Ag N wB w2 g K V { K1 with begun:=K1.begun.set q (ia:Int) } V1) (h:K1.begun.set q (ia:Int)=bt)=>HYes.out w2 _ V1 A hdk HTd.out h)
    clear HYes;by_cases r1:r3=1
    ·have hb:bA=true:=hab.2 (.inl r1)
     subst hb;have cc:=cc5 r1;have HBs1:=ah (HBs.out r1);have HBn1:=ah (HBn.out r1);clear hab cc5 HBs HBn HB0;subst r1;by_cases hbe:bn<(ia:Int)
     ·have HBe:=ah (HBs1.out hbe);go_wp2_with fail;have HA1:=HBg;clear HBg;generalize w4.setCell ⟨bq,q,O⟩ (I J (ia:Int))=w5 at *;refine (HMv.out HA1.out).mono ?_;rintro e w6 ⟨rfl,hb6⟩;have HA1:=ah (HA1.out.below hb6);generalize regs x.R.log=mm at *;by_cases m1:(mm:Int)=(ia:Int)
      ·have m1':((mm:Int) != (ia:Int))=false:=by rw[m1];simp
       clear m1 cc;go_wp2_with fail;refine (HSrv.out _ _ _ HA1.out rfl).mono ?_;rintro e w8 ⟨rfl,hb8⟩;go_wp2;go_ret;exact HYt.out _ (HA1.out.below hb8) HBe.out
      ·have m2:(mm:Int)=(ia:Int)+1:=by omega
       have m1':((mm:Int) != (ia:Int))=true:=bne_iff_ne.2 m1
       have m2':((mm:Int) != (ia:Int)+1)=false:=by rw[m2];simp
       clear m1 m2 cc;go_wp2_with fail;refine (HSrv.out _ _ _ HA1.out rfl).mono ?_;rintro e w8 ⟨rfl,hb8⟩;go_wp2;go_ret;exact HYt.out _ (HA1.out.below hb8) HBe.out
     ·have HBe:=ah (HBn1.out hbe);go_wp2_with fail;refine (HMv.out HA1.out).mono ?_;rintro e w6 ⟨rfl,hb6⟩;have HA1:=ah (HA1.out.below hb6);generalize regs x.R.log=mm at *;by_cases m1:(mm:Int)=(ia:Int)
      ·have m1':((mm:Int) != (ia:Int))=false:=by rw[m1];simp
       clear m1 cc;go_wp2_with fail;refine (HSrv.out _ _ _ HA1.out rfl).mono ?_;rintro e w8 ⟨rfl,hb8⟩;go_wp2;go_ret;exact HYs.out _ (HA1.out.below hb8) HBe.out
      ·have m2:(mm:Int)=(ia:Int)+1:=by omega
       have m1':((mm:Int) != (ia:Int))=true:=bne_iff_ne.2 m1
       have m2':((mm:Int) != (ia:Int)+1)=false:=by rw[m2];simp
       clear m1 m2 cc;go_wp2_with fail;refine (HSrv.out _ _ _ HA1.out rfl).mono ?_;rintro e w8 ⟨rfl,hb8⟩;go_wp2;go_ret;exact HYs.out _ (HA1.out.below hb8) HBe.out
    ·have r1':(r3==1)=false:=beq_eq_false_iff_ne.2 r1
     have HBe:=ah (HB0.out r1);clear cc5 HBs HBn HB0 HBg;by_cases r2':r3=2
     ·have hb:bA=true:=hab.2 (.inr r2')
      subst hb;subst r2';clear hab;go_wp2_with fail;refine (HSrv.out _ _ _ HA1.out rfl).mono ?_;rintro e w8 ⟨rfl,hb8⟩;go_wp2;go_ret;exact HYs.out _ (HA1.out.below hb8) HBe.out
     ·have r2'':(r3==2)=false:=beq_eq_false_iff_ne.2 r2'
      have hb:bA=false:=by
       cases hq2:bA
       ·rfl
       ·exact absurd (hab.1 hq2) (by omega)
      subst hb;clear hab;go_wp2_with fail;refine (HSrv.out _ _ _ HA1.out rfl).mono ?_;rintro e w8 ⟨rfl,hb8⟩;go_wp2;go_ret;exact HYs.out _ (HA1.out.below hb8) HBe.out
end
end Go.Proofs.YtbnihoahhomooaaGreatDoor
