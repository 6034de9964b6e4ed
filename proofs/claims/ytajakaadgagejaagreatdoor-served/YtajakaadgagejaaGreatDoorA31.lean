import Derived.Test.YtajakaadgagejaaGreatDoorA20
import Derived.Test.YtajakaadgagejaaGreatDoorA24
import Derived.Test.YtajakaadgagejaaGreatDoorA25
import Derived.Test.YtajakaadgagejaaGreatDoorA26
import Derived.Test.YtajakaadgagejaaGreatDoorA27
import Derived.Test.YtajakaadgagejaaGreatDoorA28
import Derived.Test.YtajakaadgagejaaGreatDoorA29
import Derived.Test.YtajakaadgagejaaGreatDoorA30
set_option maxRecDepth 100000
set_option maxHeartbeats 8000000
set_option linter.unusedVariables false
set_option linter.unusedSimpArgs false
set_option linter.unusedSectionVars false
namespace Go.Proofs.YtajakaadgagejaaGreatDoor
open Go.Value renaming int→I,slice→Y,string→Z,pointer→Zp
open Go.Ending renaming returned→Zr
open _root_.ByteArray renaming empty→Ze
open Go.IntKind renaming i64→J
open Option renaming none→O
open Go.RowKit
theorem Ki {s:ByteArray} {n:Int} (hw:aU s n≠[]) (hk:((aU s n).getD 0 Ze).toList=[113]):s.size≤400∧aU s n=bX s 32∧(aU s n).length=4 ∧
  aj ((aU s n).getD 1 Ze).data.toList 1 9=true∧aj ((aU s n).getD 2 Ze).data.toList 1 999=true∧dh ((aU s n).getD 3 Ze).data.toList=true:=by
 obtain⟨hs,he,hf,hlen,hfit⟩:=qD hw
 rw[he] at hk ⊢;generalize bX s 32=ws at *;have hF:bI (ws.getD 0 Ze)=⟨#[99,110,111]⟩:=by unfold bI;rw[hk];rfl
 rw[hF] at hfit hlen;have f1:=eu hfit 0 99 rfl;have f2:=eu hfit 1 110 rfl;have f3:=eu hfit 2 111 rfl;simp[mg] at f1 f2 f3;exact⟨hs,rfl,hlen,f1,f2,f3⟩
theorem Kh {s:ByteArray} {n:Int} (hw:aU s n≠[]) (hk:((aU s n).getD 0 Ze).toList=[109]):s.size≤400∧aU s n=bX s 32∧(aU s n).length=5 ∧
  aj ((aU s n).getD 1 Ze).data.toList 1 9=true∧aj ((aU s n).getD 2 Ze).data.toList 1 999=true∧aj ((aU s n).getD 3 Ze).data.toList 0 999=true∧fF ((aU s n).getD 4 Ze).data.toList=true:=by
 obtain⟨hs,he,hf,hlen,hfit⟩:=qD hw
 rw[he] at hk ⊢;generalize bX s 32=ws at *;have hF:bI (ws.getD 0 Ze)=⟨#[99,110,118,119]⟩:=by unfold bI;rw[hk];rfl
 rw[hF] at hfit hlen;have f1:=eu hfit 0 99 rfl;have f2:=eu hfit 1 110 rfl;have f3:=eu hfit 2 118 rfl;have f4:=eu hfit 3 119 rfl;simp[mg] at f1 f2 f3 f4;exact⟨hs,rfl,hlen,f1,f2,f3,f4⟩
theorem Gy (b:UInt8):fM b≤4:=by unfold fM;(repeat' split) <;> omega
theorem ask_size {op:ByteArray} {n:Int} (h:lD op.data.toList n=true):op.size≤6:=by
 rw[vT,Bool.or_eq_true,Bool.and_eq_true] at h;rcases h with h|h
 ·unfold dh at h;simp only[Bool.and_eq_true,beq_iff_eq] at h;have h1:=Gy (op.data.toList.getD 0 0);have h2:=h.2.2;have:op.size=op.data.toList.length:=by simp
  omega
 ·have:=(lH h.2).2
  have e:(op.extract 1 op.size).size=op.size-1:=by simp
  omega
theorem Ku {e:ByteArray} {n:Int} (h:dw e n=true):kV n (dL e n):=by
 have h':=h
 unfold dL;rw[if_pos h];unfold dw zI at h
 split at h
 ·rename_i p0 p1 p2 hc;have ho:opB e=p2:=by unfold opB;rw[hc];rfl
  simp only[Bool.and_eq_true] at h;have w1:=dM h.1.1;have w2:=dM h.1.2;rw[hc,ho];exact⟨w1.1,w1.2,w2.1,w2.2,h.2,by have:=ask_size h.2;show p2.size≤10;omega⟩
 ·cases h
theorem Jz {l:List ByteArray} {n:Int} (h:∀ e∈l,dw e n=true):∀ e∈eH l n,kV n e:=by
 intro e he;unfold eH at he;obtain⟨x,hx,rfl⟩:=List.mem_map.1 he
 exact Ku (h x hx)
theorem vV {s:ByteArray} {n:Int} (h:aQ s.data.toList n=true):fQ n (dW s):=by
 have:=vX s n
 unfold bY at this
 rwa [if_pos h] at this
theorem EW {s:ByteArray} {n:Int} (h:aQ s.data.toList n=true∨s.toList=[45]):fQ n (Gx s):=by
 unfold Gx
 split
 ·exact fQ.nil n
 ·rename_i q;rcases h with h|h
  ·exact vV h
  ·rw[h] at q;exact absurd rfl q
theorem AU {n:Int} {ws:List ByteArray} {P:Pm} (hM:uX n ws P) {x:UInt8} (hx:P.kind=x.toNat):(ws.getD 0 Ze).toList=[x]:=by
 obtain⟨b,h1,h2⟩:=hM.kind
 rw[h1];have:b.toNat=x.toNat:=by omega
 rw[UInt8.toNat_inj.1 this]
theorem JX {s:ByteArray} {n:Int} {P:Pm} (hw:aU s n≠[]) (hn:n≤7) (hM:uX n (aU s n) P):Rp.MOk n P:=by
 obtain⟨b,hb,hk⟩:=hM.kind
 refine⟨fun hc=>?_,fun hc=>?_⟩
 ·rcases hc with hc|hc
  ·have h0:=AU hM (x:=113) hc;obtain⟨_,_,_,w1,w2,w3⟩:=Ki hw h0
   have e:=hM.q h0;have b1:=dM w1;have b2:=dM w2;have hz:((aU s n).getD 3 Ze).size≤6:=ask_size (n:=n) (by rw[vT,w3];rfl)
   exact⟨by rw[e];exact b1,by rw[e];exact b2,by rw[e];show ((aU s n).getD 3 Ze).size≤10;omega,fun _=>by rw[e];exact w3⟩
  ·have h0:=AU hM (x:=109) hc;obtain⟨_,_,_,w1,w2,w3,w4⟩:=Kh hw h0
   have e:=(hM.m h0).2;have b1:=dM w1;have b2:=dM w2;unfold fF at w4;simp only[Bool.and_eq_true,decide_eq_true_eq] at w4;have hz:=w4.2.2;refine⟨by rw[e];exact b1,by rw[e];exact b2,?_,fun q=>by rw[hc] at q;exact absurd q (by decide)⟩
   rw[e]
   show ((⟨#[114]⟩:ByteArray)++(aU s n).getD 4 Ze).size≤10
   rw[ByteArray.size_append];have:((aU s n).getD 4 Ze).size=((aU s n).getD 4 Ze).data.toList.length:=by simp
   have h1:(⟨#[114]⟩:ByteArray).size=1:=rfl
   omega
 ·have hf:=qD hw;have hr:qH ((aU s n).getD 0 Ze)=true:=by
   rcases EL (k:=(aU s n).getD 0 Ze) (by rw[hf.2.1];exact hf.2.2.1) with q|q|q
   ·rw[hb] at q;have:b=113:=by simpa using q
    rw[this] at hk;exact absurd (.inl hk) hc
   ·rw[hb] at q;have:b=109:=by simpa using q
    rw[this] at hk;exact absurd (.inr hk) hc
   ·exact q
  obtain⟨hS,hK⟩:=ED hw hn hr
  have hR:=hM.rep hr;have hkd:(gI (aU s n)).kind=(aU s n).getD 0 Ze:=rfl
  have e1:∀ x:UInt8,P.kind=x.toNat→(gI (aU s n)).kind.toList=[x]:=fun x hx=>by rw[hkd];exact AU hM hx
  have hb128:b.toNat<128:=by
   unfold qH at hr;rw[hb] at hr;simp only[Bool.or_eq_true,beq_iff_eq,List.cons.injEq,and_true] at hr;rcases hr with ((((((((h|h)|h)|h)|h)|h)|h)|h)|h)|h <;> rw[h] <;> decide
  generalize gI (aU s n)=m at *;refine⟨by omega,by omega,by rw[hR.frm];exact hS.f0,by rw[hR.frm];exact hS.f1,by rw[hR.lives];exact hS.ll,by rw[hR.lives];exact hS.lv,by rw[hR.epoch];exact hS.e0,by rw[hR.epoch];exact hS.e1,by rw[hR.view];exact hS.v0,by rw[hR.view];exact hS.v1,?_,?_,?_,?_,?_,?_,?_,?_⟩
  ·rintro (q|q)
   ·have q1:=e1 112 q;obtain⟨a1,a2,a3⟩:=hK.p q1
    rw[(hR.p q1).1];exact⟨by unfold nmB;omega,a1.k1⟩
   ·have q1:=e1 107 q;obtain⟨a1,a2,a3⟩:=hK.k q1
    rw[hR.k q1];exact⟨a2,a3⟩
  ·intro q;have q1:=e1 112 q;rw[(hR.p q1).2.1];exact Ku (hK.p q1).2.1
  ·rintro (q|q)
   ·have q1:=e1 112 q;rw[(hR.p q1).2.2];exact⟨hS.c0,hS.c1⟩
   ·have q1:=e1 99 q;rw[hR.c q1];exact⟨hS.c0,hS.c1⟩
  ·intro q;have q1:=e1 118 q;rw[(hR.v q1).1];exact⟨(hK.v q1).n0,(hK.v q1).n1⟩
  ·intro q;have q1:=e1 97 q;rw[(hR.a q1).1];obtain⟨_,_,_,a4,a5⟩:=hK.a q1
   exact⟨by omega,a5⟩
  ·rintro (q|q|q)
   ·have q1:=e1 118 q;obtain⟨_,h2,h3⟩:=hR.v q1
    rw[h2,h3];exact⟨hS.c0,by have:=(hK.v q1).cl;simpa [eH] using this⟩
   ·have q1:=e1 115 q;obtain⟨_,_,h2,h3⟩:=hR.s q1
    rw[h2,h3];exact⟨hS.c0,by have:=(hK.s q1).1.c1;simpa [eH] using this⟩
   ·have q1:=e1 97 q;obtain⟨_,_,_,h2,h3⟩:=hR.a q1
    rw[h2,h3];exact⟨hS.c0,by have:=(hK.a q1).1.c1;simpa [eH] using this⟩
  ·have hl:∀ l,l=eH m.log n→l.length≤10∧∀ e∈l,kV n e:=fun l hl=>by
    rw[hl];exact⟨by have:=hS.log.len;simpa [eH] using this,Jz hS.le⟩
   rintro (q|q|q)
   ·exact hl _ (hR.v (e1 118 q)).2.2
   ·exact hl _ (hR.s (e1 115 q)).2.2.2
   ·exact hl _ (hR.a (e1 97 q)).2.2.2.2
  ·rintro (q|q)
   ·have q1:=e1 115 q;obtain⟨_,a2,a3⟩:=hK.s q1
    obtain⟨h1,h2,_,_⟩:=hR.s q1
    rw[h1,h2];exact⟨vV a2,EW a3⟩
   ·have q1:=e1 97 q;obtain⟨_,a2,a3,_⟩:=hK.a q1
    obtain⟨_,h1,h2,_,_⟩:=hR.a q1
    rw[h1,h2];exact⟨vV a2,EW a3⟩
section
variable {N:Nat} {w w':World} {g:Nat} {K K':Kw} {V V':Kv}
theorem AQ (h:KAt N w g K V) (hi:KI K) (gr:Gr K) (q:Nat) (hq:q<K.nds.length) (vl:Value) (l:List (Int×ByteArray)) (hl:wm w vl l) (hf:Fr (gV g K V) vl) (hs:K.nds[q].R.status=3→∀ x∈l,Rp.jm x.2) (hm:dA K+l.length≤900000000000) (s3:K.nds[q].R.status=3) :
  Calls Tryz.prog 63 #[Zp (some ⟨g,0,O⟩),I J q,vl] w fun e w'=>StE N w w' g K V l.length e:=by
 have z:=hi.sz;obtain⟨n,hn⟩:∃ n:Nat,K.n=n:=⟨K.n.toNat,by have:=z.n3;omega⟩
 have z3:=z.n3;have z1:=z.nds;have z7:=z.n7;have zd:=z.down;have zb:=z.begun;have z10:=z.opn;rw[hn] at z1 z7 z3 zd zb;have HC1:Hid (∀ w2,Below w.heap.size w w2→w2.cell? ⟨g,1,O⟩=some (I J n)):=fun w2 hw2=>by rw[← hn];exact (h.below hw2).cell 1
 obtain⟨aN,cN,hvN⟩:=au h.rN
 have HC2:Hid (∀ w2,Below w.heap.size w w2→w2.cell? ⟨g,2,O⟩=some (Y aN K.nds.length cN)):=fun w2 hw2=>by rw[← hvN];exact (h.below hw2).cell 2
 have HN:=ah (fun (w2:World) (hw2:Below w.heap.size w w2)=>KAt.ptr h hvN hw2)
 have HWh:=ah (fun (w2:World) (hw2:Below w.heap.size w w2)=>KAt.whr h hw2)
 have HQ:=ah (HWh.out w (Below.refl _ _) q hq);obtain⟨b1,o1,rfl,_,d1⟩:=HN.out w (Below.refl _ _) q hq
 have c2:=HC2.out w (Below.refl _ _);have j1:(0:Int)≤(q:Int):=by omega
 have j2:(q:Int)<(K.nds.length:Int):=by omega
 obtain⟨al,cl,rfl,hcl,hml⟩:∃ a cap,vl=Y a l.length cap∧l.length≤cap∧cap≤9223372036854775807:=by
  obtain⟨a,cap,e,hn,hm,_⟩:=Rd.form hl
  exact⟨a,cap,e,hn,by unfold maxLen at hm;omega⟩
 have HL0:Hid (∀ w2,Below w.heap.size w w2→Lo N w w2 g K V 0 K V):=fun w2 hw2=>(Lo.refl h hi).below hw2
 have HO:Hid (∀ {w2:World} {K2:Kw} {V2:Kv},Kst N w w2 g K V K2 V2→wm w2 (Y al l.length cl) l):=fun k=>Rd.kp hl k.kp hf (fun _ h=>h)
 have HGr:=ah gr;have HSt:Hid (K.nds[q].R.status=3→∀ (k:Nat) (hk:k<l.length),∃ h0:0<l[k].2.size,(l[k].2)[0].toNat=114):=fun h3 k hk=>CG (hs h3 _ (List.getElem_mem hk))
 clear h hi gr z hf hl hs HWh HN HC2;generalize K.nds[q].b=bb at *;generalize K.nds[q].R.epoch=r1 at *;generalize K.nds[q].R.view=r2 at *;generalize K.nds[q].R.status=r3 at *;generalize K.nds[q].R.decided=r4 at *;go_enter Tryz.func63,Tryz.ntmps63;go_wp2_with fail;refine HQ.out.mono ?_;rintro e w1 ⟨rfl,nn,hw1⟩;have hb1:Below w.heap.size w w1:=by rw[hw1];exact below_drewN (Below.refl _ _) nn
 clear hw1 HQ c2 d1;go_wp2_with fail;go_loopw [11] (fun i wr=>∃ (k:Nat) (K':Kw) (V':Kv),k≤l.length∧i=I J k∧Lo N w wr g K V k K' V') (fun i _=>l.length-(intOf i).toNat)
 case atStart=>exact⟨0,K,V,Nat.zero_le _,rfl,HL0.out _ hb1⟩
 case round =>
  obtain⟨k,K1,V1,hk,rfl,L⟩:=hrel
  have HL:=ah L;clear L;by_cases hlt:k<l.length
  ·obtain⟨bo,oo,rfl,_,p1,p2⟩:=(HO.out HL.out.kst).get k hlt
   have c1:=HL.out.c1 hn;have j3:(0:Int)≤(k:Int):=by omega
   have j4:(k:Int)<(l.length:Int):=by omega
   have hst:=fun h3=>HSt.out h3 k hlt
   generalize h_qt:l[k].1=qt at *;generalize h_tx:l[k].2=tx at *;obtain⟨x1,x2⟩:=hst s3
   subst s3;clear hst;have y0:tx.toList.isEmpty=false:=uI x1
   have y1:(0:Int)<(tx.size:Int):=by omega
   have y2:((tx[0].toNat:Int) != 114)=false:=by rw[x2];rfl
   by_cases a1:(n:Int)≤qt
   ·have g1:decide ((n:Int)≤qt)=true:=decide_eq_true a1
    go_wp2_with fail;go_quiet (fail);have Lq:=HL.out.below (below_drewN (Below.refl _ _) nq);have HFq:=ah (bQ Lq.kst.at_ 4);go_wp2_with fail;refine HFq.out.mono ?_;rintro e w2 ⟨rfl,k2⟩;go_wp2_with fail;go_ret;exact (Lq.fails k2 (by unfold dK;omega)).ste HGr.out (by omega) false
   have g1:decide ((n:Int)≤qt)=false:=decide_eq_false a1
   by_cases a2:qt=(q:Int)
   ·have g2:(qt==(q:Int))=true:=beq_iff_eq.2 a2
    clear a2;go_wp2_with fail;go_quiet (fail);have Lq:=HL.out.below (below_drewN (Below.refl _ _) nq);have HFq:=ah (bQ Lq.kst.at_ 4);go_wp2_with fail;refine HFq.out.mono ?_;rintro e w2 ⟨rfl,k2⟩;go_wp2_with fail;go_ret;exact (Lq.fails k2 (by unfold dK;omega)).ste HGr.out (by omega) false
   have g2:(qt==(q:Int))=false:=beq_eq_false_iff_ne.2 a2
   by_cases a3:qt < -9
   ·have g3:decide (qt < -9)=true:=decide_eq_true a3
    go_wp2_with fail;go_quiet (fail);have Lq:=HL.out.below (below_drewN (Below.refl _ _) nq);have HFq:=ah (bQ Lq.kst.at_ 4);go_wp2_with fail;refine HFq.out.mono ?_;rintro e w2 ⟨rfl,k2⟩;go_wp2_with fail;go_ret;exact (Lq.fails k2 (by unfold dK;omega)).ste HGr.out (by omega) false
   have g3:decide (qt < -9)=false:=decide_eq_false a3
   by_cases a4:tx.size=0
   ·omega
   have g4:¬tx=Ze:=by
    intro hc;rw[hc] at a4;exact a4 rfl
   have g5:decide (tx=Ze)=false:=decide_eq_false g4
   have g6:tx.toList.isEmpty=false:=uI (by omega)
   clear a2;go_wp2_with fail;go_quiet (fail);have Lq:=HL.out.below (below_drewN (Below.refl _ _) nq);have HLq:=ah Lq;clear Lq;generalize hwA:wr.drewN nq=wA at *;clear hwA p1 p2;obtain⟨b2,o2,e2',_,p1,p2⟩:=(HO.out HLq.out.kst).get k hlt
   cases e2';rw[h_qt] at p1;rw[h_tx] at p2;by_cases a6:qt<0
   ·have nw:IntKind.i64.wrap (-qt) = -qt:=eB (by omega) (by omega)
    have HAq:Hid (∀ w2,Below wA.heap.size wA w2→Calls Tryz.prog 110 #[Zp (some ⟨g,0,O⟩),I J (-qt),Z tx] w2 fun e w'=>LoE N w w' g K V k e):=fun w2 hw2=>by
     have L2:=HLq.out.below hw2;refine (uN L2.kst.at_ L2.ki (-qt) (by omega) (by omega) tx).mono ?_
     rintro e w3 ⟨b,K3,rfl,k3,⟨rfl,hk⟩|⟨rfl,rfl⟩⟩
     ·exact⟨true,_,_,rfl,L2.ans k3 hk⟩
     ·exact⟨false,_,_,rfl,L2.fails k3 (by unfold dK;omega)⟩
    go_wp2_with fail;go_region_with (go_at_call 110;refine (HAq.out _ (Below.refl _ _).drew).mono ?_;rintro e w4 ⟨bA,KA,VA,rfl,LA⟩)
    all_goals
     have HLA:=ah LA;clear LA;cases bA
     ·go_wp2_with fail;go_ret;exact HLA.out.ste HGr.out (by omega) false
     ·go_upto_region 13 with fail
      have HPq:Hid (∀ w2,Below w4.heap.size w4 w2→Calls Tryz.prog 55 #[Zp (some ⟨g,0,O⟩),I J q,I J qt,Z tx] w2 fun e w'=>e=Zr (.tuple #[])∧∃ v,Lo N w w' g K V (k+1) { KA with net:=KA.net++[((q:Int),qt,tx)] } { VA with vP:=v }):=fun w2 hw2=>by
       have L2:=HLA.out.below hw2;refine (kP L2.kst.at_ q qt tx (by have:=iG KA;have:=L2.ms;omega)).mono ?_
       rintro e w3 ⟨rfl,v,k3⟩;exact⟨rfl,v,L2.post k3 (by omega) (by omega) (by omega)⟩
      clear p1 p2;obtain⟨b2,o2,e2',_,p1,p2⟩:=(HO.out HLA.out.kst).get k hlt
      cases e2';rw[h_qt] at p1;rw[h_tx] at p2;go_wp2_with fail;go_region_with (go_at_call 55;refine (HPq.out _ (Below.refl _ _).drew).mono ?_;rintro e w5 ⟨rfl,v5,L5⟩)
      all_goals
       go_wp2_with fail;go_roundw
       case rel=>exact⟨k+1,_,_,by omega,by go_num,L5⟩
       case measure=>simp[intOf];omega
   ·obtain⟨KA,VA,HLA⟩:∃ KA VA,Hid (Lo N w wA g K V k KA VA):=⟨_,_,HLq⟩
    have HPq:Hid (∀ w2,Below wA.heap.size wA w2→Calls Tryz.prog 55 #[Zp (some ⟨g,0,O⟩),I J q,I J qt,Z tx] w2 fun e w'=>e=Zr (.tuple #[])∧∃ v,Lo N w w' g K V (k+1) { KA with net:=KA.net++[((q:Int),qt,tx)] } { VA with vP:=v }):=fun w2 hw2=>by
     have L2:=HLA.out.below hw2;refine (kP L2.kst.at_ q qt tx (by have:=iG KA;have:=L2.ms;omega)).mono ?_
     rintro e w3 ⟨rfl,v,k3⟩;exact⟨rfl,v,L2.post k3 (by omega) (by omega) (by omega)⟩
    clear p1 p2;obtain⟨b2,o2,e2',_,p1,p2⟩:=(HO.out HLA.out.kst).get k hlt
    cases e2';rw[h_qt] at p1;rw[h_tx] at p2;go_wp2_with fail;go_region_with (go_at_call 55;refine (HPq.out _ (Below.refl _ _).drew).mono ?_;rintro e w5 ⟨rfl,v5,L5⟩)
    all_goals
     go_wp2_with fail;go_roundw
     case rel=>exact⟨k+1,_,_,by omega,by go_num,L5⟩
     case measure=>simp[intOf];omega
  ·go_wp2_with fail;go_ret;exact HL.out.ste HGr.out (by omega) true
end
section
variable {N:Nat} {w w':World} {g:Nat} {K K':Kw} {V V':Kv}
theorem D6 (h:KAt N w g K V) (hi:KI K) (gr:Gr K) (q:Nat) (hq:q<K.nds.length) (vl:Value) (l:List (Int×ByteArray)) (hl:wm w vl l) (hf:Fr (gV g K V) vl) (hs:K.nds[q].R.status=3→∀ x∈l,Rp.jm x.2) (hm:dA K+l.length≤900000000000) :
  Calls Tryz.prog 63 #[Zp (some ⟨g,0,O⟩),I J q,vl] w fun e w'=>StE N w w' g K V l.length e:=by
 by_cases s3:K.nds[q].R.status=3
 ·exact AQ h hi gr q hq vl l hl hf hs hm s3
 ·exact AP h hi gr q hq vl l hl hf hs hm s3
end
section
variable (br:Nat) (vw:Value) (ws:List ByteArray) (nx:Nat) (n:Int) (wr:Bool) (w:World) (h:aI w br vw ws nx n wr) (hl:ws.length≤100000) (hz:∀ x∈ws,x.size≤1000) (hn3:3≤n) (hn7:n≤7)
theorem zm (br:Nat) (vw:Value) (ws:List ByteArray) (nx:Nat) (n:Int) (wr:Bool) (w:World) (h:aI w br vw ws nx n wr) (hl:ws.length≤100000) (hz:∀ x∈ws,x.size≤1000) (hn3:3≤n) (hn7:n≤7) (k:Int) :
  Calls Tryz.prog 72 #[Zp (some ⟨br,0,O⟩),I .u8 k] w fun e w'=>gW w w' br vw ws n k (aC (wrd ws nx) 0 (n-1)) (eG (wrd ws (nxt ws nx)) n) (aC (wrd ws (nxt ws (nxt ws nx))) 0 10) (aC (wrd ws (nxt ws (nxt ws (nxt ws nx)))) 0 999) (nxt ws (nxt ws (nxt ws (nxt ws nx))))
   ((((wr||!aj (wrd ws nx).data.toList 0 (n-1))||!aK (wrd ws (nxt ws nx)) n)||!aj (wrd ws (nxt ws (nxt ws nx))).data.toList 0 10)||!aj (wrd ws (nxt ws (nxt ws (nxt ws nx)))).data.toList 0 999) e:=by
 by_cases h112:k=112
 ·exact rR br vw ws nx n wr w h hl hz hn3 hn7 k (Or.inl h112)
 by_cases h107:k=107
 ·exact rR br vw ws nx n wr w h hl hz hn3 hn7 k (Or.inr (Or.inl h107))
 by_cases h99:k=99
 ·exact rR br vw ws nx n wr w h hl hz hn3 hn7 k (Or.inr (Or.inr (h99)))
 by_cases h104:k=104
 ·exact nV br vw ws nx n wr w h hl hz hn3 hn7 k (Or.inl h104)
 by_cases h103:k=103
 ·exact nV br vw ws nx n wr w h hl hz hn3 hn7 k (Or.inr (Or.inl h103))
 by_cases h114:k=114
 ·exact nV br vw ws nx n wr w h hl hz hn3 hn7 k (Or.inr (Or.inr (Or.inl h114)))
 by_cases h116:k=116
 ·exact nV br vw ws nx n wr w h hl hz hn3 hn7 k (Or.inr (Or.inr (Or.inr (h116))))
 by_cases h118:k=118
 ·exact yD br vw ws nx n wr w h hl hz hn3 hn7 k (Or.inl h118)
 by_cases h115:k=115
 ·exact yD br vw ws nx n wr w h hl hz hn3 hn7 k (Or.inr (h115))
 exact Es br vw ws nx n wr w h hl hz hn3 hn7 k h112 h107 h99 h104 h103 h114 h116 h118 h115
end
section
theorem J2 {w:World} {w':World} {br:Nat} {vw:Value} {ws:List ByteArray} {n:Int} {e:Ending} (h1:1≤ws.length) (b:UInt8) (h0:(ws.getD 0 Ze).toList=[b]) (hq:b≠113) (hm:b≠109) (hp:gW w w' br vw ws n (b.toNat:Int) (aC (wrd ws 1) 0 (n-1)) (eG (wrd ws (nxt ws 1)) n) (aC (wrd ws (nxt ws (nxt ws 1))) 0 10) (aC (wrd ws (nxt ws (nxt ws (nxt ws 1)))) 0 999) (nxt ws (nxt ws (nxt ws (nxt ws 1)))) ((((false||!aj (wrd ws 1).data.toList 0 (n-1))||!aK (wrd ws (nxt ws 1)) n)||!aj (wrd ws (nxt ws (nxt ws 1))).data.toList 0 10)||!aj (wrd ws (nxt ws (nxt ws (nxt ws 1)))).data.toList 0 999) e):eY w w' br vw ws n e:=by
 by_cases b112:b=112
 ·subst b112;exact rep_p h1 h0 hp
 by_cases b107:b=107
 ·subst b107;exact rep_k h1 h0 hp
 by_cases b99:b=99
 ·subst b99;exact rep_c h1 h0 hp
 by_cases b104:b=104
 ·subst b104;exact rep_h h1 h0 hp
 by_cases b103:b=103
 ·subst b103;exact rep_g h1 h0 hp
 by_cases b114:b=114
 ·subst b114;exact rep_r h1 h0 hp
 by_cases b116:b=116
 ·subst b116;exact rep_t h1 h0 hp
 by_cases b118:b=118
 ·subst b118;exact rep_v h1 h0 hp
 by_cases b115:b=115
 ·subst b115;exact rep_s h1 h0 hp
 by_cases b97:b=97
 ·subst b97;exact rep_a h1 h0 hp
 have hno:∀ c:UInt8,b≠c→¬(b.toNat:Int)=(c.toNat:Int):=fun c hc he=>hc (UInt8.toNat_inj.1 (by omega))
 obtain⟨vl,he,hO,hR⟩:=hp.2.2.2.2.2.2.2.2.2.2 (hno 112 b112) (hno 107 b107) (hno 99 b99) (hno 104 b104) (hno 103 b103) (hno 114 b114) (hno 116 b116) (hno 118 b118) (hno 115 b115) (hno 97 b97)
 refine IE h1 (P:=⟨(b.toNat:Int),aC (wrd ws 1) 0 (n-1),eG (wrd ws (nxt ws 1)) n,aC (wrd ws (nxt ws (nxt ws 1))) 0 10,aC (wrd ws (nxt ws (nxt ws (nxt ws 1)))) 0 999,0,(0,0,⟨#[]⟩),0,0,0,[],[],[]⟩) ?_ he ⟨hO _ List.mem_cons_self,World.ownsRow_nil _ _ _ _,World.ownsRow_nil _ _ _ _,World.ownsRow_nil _ _ _ _⟩ hR;intro hf;obtain⟨_,hh⟩:=EK h1 hf
 have hk:∀ c:UInt8,b≠c→¬(ws.getD 0 Ze).toList=[c]:=fun c hc he=>hc (by rw[h0] at he;simpa using he)
 rcases hh with hh|hh|hh
 ·exact hk 113 hq hh
 ·exact hk 109 hm hh
 ·unfold qH at hh;simp only[Bool.or_eq_true,beq_iff_eq] at hh;rcases hh with ((((((((hh|hh)|hh)|hh)|hh)|hh)|hh)|hh)|hh)|hh
  ·exact hk 112 b112 hh
  ·exact hk 107 b107 hh
  ·exact hk 99 b99 hh
  ·exact hk 104 b104 hh
  ·exact hk 103 b103 hh
  ·exact hk 114 b114 hh
  ·exact hk 116 b116 hh
  ·exact hk 118 b118 hh
  ·exact hk 115 b115 hh
  ·exact hk 97 b97 hh
end
structure M1 (w w1:World) (br:Nat) (vw:Value) (ws:List ByteArray) (nx:Nat) (n:Int) (wr:Bool):Prop where
 rdr:aI w1 br vw ws nx n wr
 zero:bB w1 w.heap.size (iy 0)
 kp:Kp [br] w w1
 lt:∀ k,vw.ownBlock=some k→k<w.heap.size
 blt:br<w.heap.size
section
variable {w w1 w2:World} {br:Nat} {vw:Value} {ws:List ByteArray} {nx nx':Nat} {n:Int} {wr wr':Bool}
theorem M1.start (h:aI w br vw ws nx n wr):M1 w (w.alloc (.cells (iy 0) 68)) br vw ws nx n wr:=by
 have b1:Below w.heap.size w (w.alloc (.cells (iy 0) 68)):=(Below.refl _ w).alloc (Nat.le_refl _) _
 exact⟨h.below b1,⟨rfl,heap_alloc_new w _⟩,Kp.of_below b1,h.words.lt,lt_of_block h.block⟩
theorem M1.call (h:M1 w w1 br vw ws nx n wr) (k:aJ w1 w2 br vw ws nx' n wr'):M1 w w2 br vw ws nx' n wr' :=
 ⟨k.1,h.zero.kp k.2 (by have:=h.blt;simp;omega),h.kp.trans' k.2,h.lt,h.blt⟩
theorem M1.wrong (h:M1 w w1 br vw ws nx n wr) (x:Bool):M1 w (w1.setCell ⟨br,3,O⟩ (.bool x)) br vw ws nx n x :=
 h.call ⟨h.rdr.p8 x,(Kp.refl [br] w1).set br 3 _ (.inl (by simp))⟩
variable {a0 a1 a2 a3 a4 a5 a6 a7 a8 a9 a10 a11 a12 a13 a14:Value}
theorem M1.fin (h:M1 w w1 br vw ws nx n wr):aJ w (cZ w1 w.heap.size 0 [a0,a1,a2,a3,a4,a5,a6,a7,a8,a9,a10,a11,a12,a13,a14]) br vw ws nx n wr∧(loadVar 68 ⟨w.heap.size,0,O⟩).run Tryz.prog (cZ w1 w.heap.size 0 [a0,a1,a2,a3,a4,a5,a6,a7,a8,a9,a10,a11,a12,a13,a14])=.ok (.agg #[a0,a1,a2,a3,a4,a5,a6,a7,a8,a9,a10,a11,a12,a13,a14]) (cZ w1 w.heap.size 0 [a0,a1,a2,a3,a4,a5,a6,a7,a8,a9,a10,a11,a12,a13,a14]) :=
 ⟨yA (Nat.le_refl _) (by have:=h.blt;omega) (fun k hk hc=>by have:=h.lt k hk;simp at hc;omega) _ _ _ ⟨h.rdr,h.kp⟩,by
  have e:vR (iy 0) 0 [a0,a1,a2,a3,a4,a5,a6,a7,a8,a9,a10,a11,a12,a13,a14]=#[a0,a1,a2,a3,a4,a5,a6,a7,a8,a9,a10,a11,a12,a13,a14]:=by simp[vR,iy]
  have q:=pI (nE [a0,a1,a2,a3,a4,a5,a6,a7,a8,a9,a10,a11,a12,a13,a14] w1 _ 0 h.zero);rw[e] at q;exact q⟩
end
theorem uK.kp {u u':World} {base base':Nat} {P:Pm} {vl vg vo vL:Value} {S:List Nat} (h:uK u base P vl vg vo vL) (k:Kp S u u') (hS:∀ x∈S,x<base) (hb:base'≤base):uK u' base' P vl vg vo vL :=
 ⟨dO (gM h.lives k hS) hb,dO (gM h.grp k hS) hb,dO (gM h.old k hS) hb,dO (gM h.log k hS) hb⟩
section
theorem JL (br:Nat) (vw:Value) (ws:List ByteArray) (n:Int) (w:World) (h:aI w br vw ws 0 n false) (hl:ws.length≤100000) (hz:∀ x∈ws,x.size≤1000) (hn3:3≤n) (hn7:n≤7) (h1:1≤ws.length) (s0:ByteArray) (hs:ws.getD 0 Ze=s0) (h8:s0.size=1) (w1:World) (hr:aI w1 br vw ws 1 n false) :
  ((s0.toList==[113])=true∨(s0.toList==[109])=true→Calls Tryz.prog 71 #[Zp (some ⟨br,0,O⟩),I .u8 (s0[0].toNat:Int)] w1 fun e w'=>eY w1 w' br vw ws n e) ∧
  ((s0.toList==[113])=false→(s0.toList==[109])=false→Calls Tryz.prog 72 #[Zp (some ⟨br,0,O⟩),I .u8 (s0[0].toNat:Int)] w1 fun e w'=>eY w1 w' br vw ws n e):=by
 have hb:s0.toList=[s0[0]]:=by
  rw[ByteArray.toList_eq];have:=ext1 s0 0 (by omega)
  rw[← this]
  congr 1
  rw[show (0:Nat)+1=s0.size by omega]
  simp
 have hw0:(ws.getD 0 Ze).toList=[s0[0]]:=by rw[hs,hb]
 refine⟨fun hk=>?_,fun hq hm=>?_⟩
 ·rcases hk with hk|hk
  ·rw[beq_iff_eq,hb] at hk;have hk2:s0[0]=113:=by simpa using hk
   rw[hk2];refine (yC br vw ws 1 n false w1 hr hl hz).mono ?_;rintro e w2 ⟨he,hR⟩;exact cl_q h1 (by rw[hw0,hk2]) he hR
  ·rw[beq_iff_eq,hb] at hk;have hk2:s0[0]=109:=by simpa using hk
   rw[hk2];refine (yB br vw ws 1 n false w1 hr hl hz).mono ?_;rintro e w2 ⟨he,hR⟩;exact cl_m h1 (by rw[hw0,hk2]) he hR
 ·refine (zm br vw ws 1 n false w1 hr hl hz hn3 hn7 (s0[0].toNat:Int)).mono ?_;intro e w2 hp;rw[beq_eq_false_iff_ne,hb] at hq hm;exact J2 h1 s0[0] hw0 (fun hc=>hq (by rw[hc])) (fun hc=>hm (by rw[hc])) hp
theorem CP (br:Nat) (vw:Value) (ws:List ByteArray) (n:Int) (w:World) (h:aI w br vw ws 0 n false) (hl:ws.length≤100000) (hz:∀ x∈ws,x.size≤1000) (hn3:3≤n) (hn7:n≤7) (h1:1≤ws.length):Calls Tryz.prog 41 #[Zp (some ⟨br,0,O⟩)] w fun e w'=>eY w w' br vw ws n e:=by
 have HW:Hid (∀ w',aI w' br vw ws 0 n false→Calls Tryz.prog 70 #[Zp (some ⟨br,0,O⟩)] w' fun e w''=>e=Zr (Z (ws.getD 0 Ze))∧aJ w' w'' br vw ws 1 n false):=fun w' q=>by
  refine (jW br vw ws 0 n false w' q hl).mono ?_;rintro e w2 ⟨he,hp⟩;have e1:nxt ws 0=1:=by unfold nxt;rw[if_pos (by omega)]
  have e2:(false||!decide (0<ws.length))=false:=by rw[decide_eq_true (by omega)];rfl
  rw[e1,e2] at hp;exact⟨he,hp⟩
 have HA:=ah (JL br vw ws n w h hl hz hn3 hn7 h1 _ rfl);have HF:Hid (¬(ws.getD 0 Ze).size=1→¬0<(bI (ws.getD 0 Ze)).size):=fun h8 hf=>h8 (EK h1 hf).1
 have hs0:(ws.getD 0 Ze).size≤1000:=jB (nx:=0) hz
 have M0:=M1.start h;clear hz;have HMP:Hid (∀ e w',eY w w' br vw ws n e→eY w w' br vw ws n e):=fun _ _ q=>q
 have HMN:Hid (∀ (e:Ending) (w':World) (P:Pm) (vl vg vo vL:Value) (nx:Nat),¬0<(bI (ws.getD 0 Ze)).size→e=Zr (.agg (pmC P vl vg vo vL))→uK w' (w.heap.size+2) P vl vg vo vL→aJ w w' br vw ws nx n true→eY w w' br vw ws n e):=fun e w' P vl vg vo vL nx hF he hO hR=>IE h1 hF he hO hR
 generalize ws.getD 0 Ze=s0 at *;go_enter Tryz.func41,Tryz.ntmps41;simp only[iy] at M0;go_wp2_with fail;generalize w.alloc _=wA at *;refine (HW.out _ M0.rdr).mono ?_;rintro e w1 ⟨rfl,hP⟩;have A1:=M0.call hP;clear M0 hP;by_cases h8:s0.size=1
 ·have h8':((s0.size:Int) != 1)=false:=by rw[h8];rfl
  have h8i:(0:Int)<(s0.size:Int):=by omega
  obtain⟨HA1,HA2⟩:=HA.out h8 w1 A1.rdr
  cases q1:(s0.toList==[113])
  ·cases q2:(s0.toList==[109])
   ·have HC:=ah (HA2 q1 q2);clear HA1 HA2;go_wp2_with fail;refine HC.out.mono ?_;intro e w2 hp;obtain⟨P,vl,vg,vo,vL,nx',wr',rfl,hO,hR,hI,hM⟩:=hp
    obtain⟨al,cl,rfl⟩:=au hO.lives
    obtain⟨ag,cg,rfl⟩:=au hO.grp
    obtain⟨ao,co,rfl⟩:=au hO.old
    obtain⟨aL,cL,rfl⟩:=au hO.log
    have A2:=A1.call hR;obtain⟨y0,y1,y2,y3,y4,y5,y6,y7,y8,y9,y10,y11,y12,y13,y14,yf⟩:=A2.zero.all
    have HG:=ah (A2.fin (a0:=I .u8 P.kind) (a1:=I J P.frm) (a2:=Y al P.lives.length cl) (a3:=I J P.epoch) (a4:=I J P.view) (a5:=I J P.place) (a6:=I J P.ent.1) (a7:=I J P.ent.2.1) (a8:=Z P.ent.2.2) (a9:=I J P.commit) (a10:=I J P.normal) (a11:=I J P.life) (a12:=Y ag P.grp.length cg) (a13:=Y ao P.old.length co) (a14:=Y aL P.log.length cL));have hs1:=A1.kp.size;have HO:=ah (hO.kp (base':=w.heap.size+2) (kK (g:=w.heap.size) [I .u8 P.kind,I J P.frm,Y al P.lives.length cl,I J P.epoch,I J P.view,I J P.place,I J P.ent.1,I J P.ent.2.1,Z P.ent.2.2,I J P.commit,I J P.normal,I J P.life,Y ag P.grp.length cg,Y ao P.old.length co,Y aL P.log.length cL] w2 0) (fun x hx=>by simp at hx;omega) (by omega))
    have HI:=ah hI;have HMr:=ah hM;clear A1 A2 hR hO hI hM;simp only[pmC];go_wp2_with fail;refine bodyPost_ret (aZ rfl _ _ _ rfl HG.out.2) rfl ?_;exact⟨P,_,_,_,_,nx',wr',rfl,HO.out,HG.out.1,HI.out,HMr.out⟩
   ·have HC:=ah (HA1 (.inr q2));clear HA1 HA2;go_wp2_with fail;refine HC.out.mono ?_;intro e w2 hp;obtain⟨P,vl,vg,vo,vL,nx',wr',rfl,hO,hR,hI,hM⟩:=hp
    obtain⟨al,cl,rfl⟩:=au hO.lives
    obtain⟨ag,cg,rfl⟩:=au hO.grp
    obtain⟨ao,co,rfl⟩:=au hO.old
    obtain⟨aL,cL,rfl⟩:=au hO.log
    have A2:=A1.call hR;obtain⟨y0,y1,y2,y3,y4,y5,y6,y7,y8,y9,y10,y11,y12,y13,y14,yf⟩:=A2.zero.all
    have HG:=ah (A2.fin (a0:=I .u8 P.kind) (a1:=I J P.frm) (a2:=Y al P.lives.length cl) (a3:=I J P.epoch) (a4:=I J P.view) (a5:=I J P.place) (a6:=I J P.ent.1) (a7:=I J P.ent.2.1) (a8:=Z P.ent.2.2) (a9:=I J P.commit) (a10:=I J P.normal) (a11:=I J P.life) (a12:=Y ag P.grp.length cg) (a13:=Y ao P.old.length co) (a14:=Y aL P.log.length cL));have hs1:=A1.kp.size;have HO:=ah (hO.kp (base':=w.heap.size+2) (kK (g:=w.heap.size) [I .u8 P.kind,I J P.frm,Y al P.lives.length cl,I J P.epoch,I J P.view,I J P.place,I J P.ent.1,I J P.ent.2.1,Z P.ent.2.2,I J P.commit,I J P.normal,I J P.life,Y ag P.grp.length cg,Y ao P.old.length co,Y aL P.log.length cL] w2 0) (fun x hx=>by simp at hx;omega) (by omega))
    have HI:=ah hI;have HMr:=ah hM;clear A1 A2 hR hO hI hM;simp only[pmC];go_wp2_with fail;refine bodyPost_ret (aZ rfl _ _ _ rfl HG.out.2) rfl ?_;exact⟨P,_,_,_,_,nx',wr',rfl,HO.out,HG.out.1,HI.out,HMr.out⟩
  ·have HC:=ah (HA1 (.inl q1));clear HA1 HA2;go_wp2_with fail;refine HC.out.mono ?_;intro e w2 hp;obtain⟨P,vl,vg,vo,vL,nx',wr',rfl,hO,hR,hI,hM⟩:=hp
   obtain⟨al,cl,rfl⟩:=au hO.lives
   obtain⟨ag,cg,rfl⟩:=au hO.grp
   obtain⟨ao,co,rfl⟩:=au hO.old
   obtain⟨aL,cL,rfl⟩:=au hO.log
   have A2:=A1.call hR;obtain⟨y0,y1,y2,y3,y4,y5,y6,y7,y8,y9,y10,y11,y12,y13,y14,yf⟩:=A2.zero.all
   have HG:=ah (A2.fin (a0:=I .u8 P.kind) (a1:=I J P.frm) (a2:=Y al P.lives.length cl) (a3:=I J P.epoch) (a4:=I J P.view) (a5:=I J P.place) (a6:=I J P.ent.1) (a7:=I J P.ent.2.1) (a8:=Z P.ent.2.2) (a9:=I J P.commit) (a10:=I J P.normal) (a11:=I J P.life) (a12:=Y ag P.grp.length cg) (a13:=Y ao P.old.length co) (a14:=Y aL P.log.length cL));have hs1:=A1.kp.size;have HO:=ah (hO.kp (base':=w.heap.size+2) (kK (g:=w.heap.size) [I .u8 P.kind,I J P.frm,Y al P.lives.length cl,I J P.epoch,I J P.view,I J P.place,I J P.ent.1,I J P.ent.2.1,Z P.ent.2.2,I J P.commit,I J P.normal,I J P.life,Y ag P.grp.length cg,Y ao P.old.length co,Y aL P.log.length cL] w2 0) (fun x hx=>by simp at hx;omega) (by omega))
   have HI:=ah hI;have HMr:=ah hM;clear A1 A2 hR hO hI hM;simp only[pmC];go_wp2_with fail;refine bodyPost_ret (aZ rfl _ _ _ rfl HG.out.2) rfl ?_;exact⟨P,_,_,_,_,nx',wr',rfl,HO.out,HG.out.1,HI.out,HMr.out⟩
 ·have h8':((s0.size:Int) != 1)=true:=by simp[bne];omega
  have c3:=A1.rdr.at 3 (by omega)
  have f3:=A1.rdr.free 3;simp at c3;have A2:=A1.wrong true;clear A1;go_upto_region 4 with fail
  generalize w1.setCell ⟨br,3,O⟩ (.bool true)=w2 at *;clear c3 f3;obtain⟨y0,y1,y2,y3,y4,y5,y6,y7,y8,y9,y10,y11,y12,y13,y14,yf⟩:=A2.zero.all
  have HG:=ah (A2.fin (a0:=I .u8 0) (a1:=I J 0) (a2:=Y O 0 0) (a3:=I J 0) (a4:=I J 0) (a5:=I J 0) (a6:=I J 0) (a7:=I J 0) (a8:=Z ⟨#[]⟩) (a9:=I J 0) (a10:=I J 0) (a11:=I J 0) (a12:=Y O 0 0) (a13:=Y O 0 0) (a14:=Y O 0 0));clear A2;go_wp2_with fail;refine bodyPost_ret (aZ rfl _ _ _ rfl HG.out.2) rfl ?_;exact HMN.out _ _ ⟨0,0,[],0,0,0,(0,0,⟨#[]⟩),0,0,0,[],[],[]⟩ (Y O 0 0) (Y O 0 0) (Y O 0 0) (Y O 0 0) 1 (HF.out h8) rfl ⟨World.ownsRow_nil _ _ _ _,World.ownsRow_nil _ _ _ _,World.ownsRow_nil _ _ _ _,World.ownsRow_nil _ _ _ _⟩ HG.out.1
end
section
variable {w w0:World} {b bl:Nat} {W F:List Nat} {R:Rp} {V:Rv} {P:Pm} {vl vg vo vL:Value}
structure jg (w w':World) (b bl:Nat) (W F:List Nat) (R':Rp) (vt:Value) (W' F':List Nat) (V':Rv):Prop where
 out:lq w' 0 vt R'.out
 rp:ay w' b bl W' F' { R' with out:=[] } V'
 vt0:V'.vt=Y O 0 0
 kp:Kp W w w'
 m:∀ x∈W',x∈W∨w.heap.size≤x
 g:∀ x∈F',x∈F∨w.heap.size≤x
 fr:Fr F' vt
 at_:∀ k,vt.ownBlock=some k→k∈F∨w.heap.size≤k
def TkP (w w':World) (b bl:Nat) (W F:List Nat) (R':Rp) (e:Ending):Prop:=∃ vt W' F' V',e=Zr vt∧jg w w' b bl W F R' vt W' F' V'
theorem jg.mk' {w wX wS:World} {W F WX FX WS FSs:List Nat} {RX:Rp} {VX:Rv} {a:Option Addr} {c:Nat} (h:Kp W w wX∧(∀ x∈WX,x∈W∨w.heap.size≤x)∧(∀ x∈FX,x∈F∨w.heap.size≤x)) (hwt:In WX VX.vt) (hwf:∀ x∈WX,x∈FX) (hv:VX.vt=Y a RX.out.length c)
  (ho:lq wS 0 (Y a RX.out.length c) RX.out) (kS:Kp [b] wX wS) (hR:ay wS b bl WS FSs { RX with out:=[] } { VX with vt:=Y O 0 0 }) (hWS:∀ x∈WS,x∈WX) (hFS:∀ x∈FSs,x∈FX) (hf:Fr FSs (Y a RX.out.length c)) :
  TkP w wS b bl W F RX (Zr (Y a RX.out.length c)):=by
 refine⟨_,WS,FSs,_,rfl,ho,hR,rfl,?_,fun x hx=>h.2.1 x (hWS x hx),fun x hx=>h.2.2 x (hFS x hx),hf,fun k hk=>?_⟩
 ·refine h.1.trans (S':=[b]) kS (fun x hx hlt=>?_)
  simp at hx;subst hx;rcases h.2.1 _ (hWS _ hR.wb) with q|q
  ·exact q
  ·omega
 ·have:=hwt k (by rw[hv];exact hk)
  exact h.2.2 k (hwf k this)
end
section
variable {w w0:World} {b bl:Nat} {W F:List Nat} {R:Rp} {V:Rv} {P:Pm} {vl vg vo vL:Value}
theorem IZ (h:ay w b bl W F R V) (hR:Ok R) (ho:R.out=[]) :
  Calls Tryz.prog 59 #[Zp (some ⟨b,0,O⟩)] w fun e w'=>TkP w w' b bl W F R.qY e:=by
 have HS0:=ah (Rst.refl h);have HKA:Hid (∀ wX WX FX,Kp W w wX→Mv w W F WX FX→Kp W w wX∧(∀ x∈WX,x∈W∨w.heap.size≤x)∧(∀ x∈FX,x∈F∨w.heap.size≤x)):=fun _ _ _ k m=>⟨k,m.m,m.g⟩
 have hol:R.out.length≤100000:=by rw[ho];simp
 have HE0:Hid (R.qY=if R.leads then R.jw else if R.status=2 then R.call.eU else if R.status=3 then R.ask else if R.status=5 then R.dY else R):=rfl
 have HL:=ah (Df HS0.out hR);have HGc:=ah (Rp.vU hR);clear h ho;cases hl:R.leads
 ·rw[hl] at HL;cases s2:(R.status==2)
  ·cases s3:(R.status==3)
   ·cases s5:(R.status==5)
    ·have HE:Hid (R.qY=R):=by unfold Hid;rw[HE0.out,hl,if_neg (by decide),if_neg (by simpa using s2),if_neg (by simpa using s3),if_neg (by simpa using s5)]
     clear HE0;go_enter Tryz.func59,Tryz.ntmps59;go_wp2_with fail;refine HL.out.mono ?_;rintro e w1 ⟨rfl,hs1⟩;have HS1:=ah hs1;obtain⟨_,_,V1',q1',_,_⟩:=hs1
     have c3:=q1'.c3;clear q1';obtain⟨WX,FX,VX,hX,kX,mX⟩:=HS1.out
     have HSt:=ah (iH hX);have HKX:=ah (HKA.out _ _ _ kX mX);have HwX:=ah hX.wt;have HfX:=ah hX.wf;obtain⟨aX,cX,hvX⟩:=hX.g71
     have HvX:=ah hvX;rw[hvX] at HSt;clear hX kX mX hvX;go_wp2_with fail;refine HSt.out.mono ?_;rintro e wS ⟨rfl,hoS,kS,WS,FSs,hRS,hWS,hFS,hfS⟩;have HFin:=ah (jg.mk' HKX.out HwX.out HfX.out HvX.out hoS kS hRS hWS hFS hfS);clear hoS kS hRS hWS hFS hfS;go_wp2_with fail;go_ret;exact (by rw[HE.out];exact HFin.out)
    ·have HE:Hid (R.qY=R.dY):=by unfold Hid;rw[HE0.out,hl,if_neg (by decide),if_neg (by simpa using s2),if_neg (by simpa using s3),if_pos (by simpa using s5)]
     clear HE0;go_enter Tryz.func59,Tryz.ntmps59;go_wp2_with fail;refine HL.out.mono ?_;rintro e w1 ⟨rfl,hs1⟩;have HS1:=ah hs1;obtain⟨_,_,V1',q1',_,_⟩:=hs1
     have c3:=q1'.c3;clear q1';go_wp2_with fail;refine (mP HS1.out hR (by omega)).mono ?_
     rintro e w2 ⟨rfl,hs2⟩;have HS2:=ah hs2;clear hs2;obtain⟨WX,FX,VX,hX,kX,mX⟩:=HS2.out
     have HSt:=ah (iH hX);have HKX:=ah (HKA.out _ _ _ kX mX);have HwX:=ah hX.wt;have HfX:=ah hX.wf;obtain⟨aX,cX,hvX⟩:=hX.g71
     have HvX:=ah hvX;rw[hvX] at HSt;clear hX kX mX hvX;go_wp2_with fail;refine HSt.out.mono ?_;rintro e wS ⟨rfl,hoS,kS,WS,FSs,hRS,hWS,hFS,hfS⟩;have HFin:=ah (jg.mk' HKX.out HwX.out HfX.out HvX.out hoS kS hRS hWS hFS hfS);clear hoS kS hRS hWS hFS hfS;go_wp2_with fail;go_ret;exact (by rw[HE.out];exact HFin.out)
   ·have HE:Hid (R.qY=R.ask):=by unfold Hid;rw[HE0.out,hl,if_neg (by decide),if_neg (by simpa using s2),if_pos (by simpa using s3)]
    clear HE0;go_enter Tryz.func59,Tryz.ntmps59;go_wp2_with fail;refine HL.out.mono ?_;rintro e w1 ⟨rfl,hs1⟩;have HS1:=ah hs1;obtain⟨_,_,V1',q1',_,_⟩:=hs1
    have c3:=q1'.c3;clear q1';go_wp2_with fail;refine (Lj HS1.out hR (by omega)).mono ?_
    rintro e w2 ⟨rfl,hs2⟩;have HS2:=ah hs2;clear hs2;obtain⟨WX,FX,VX,hX,kX,mX⟩:=HS2.out
    have HSt:=ah (iH hX);have HKX:=ah (HKA.out _ _ _ kX mX);have HwX:=ah hX.wt;have HfX:=ah hX.wf;obtain⟨aX,cX,hvX⟩:=hX.g71
    have HvX:=ah hvX;rw[hvX] at HSt;clear hX kX mX hvX;go_wp2_with fail;refine HSt.out.mono ?_;rintro e wS ⟨rfl,hoS,kS,WS,FSs,hRS,hWS,hFS,hfS⟩;have HFin:=ah (jg.mk' HKX.out HwX.out HfX.out HvX.out hoS kS hRS hWS hFS hfS);clear hoS kS hRS hWS hFS hfS;go_wp2_with fail;go_ret;exact (by rw[HE.out];exact HFin.out)
  ·have HE:Hid (R.qY=R.call.eU):=by unfold Hid;rw[HE0.out,hl,if_neg (by decide),if_pos (by simpa using s2)]
   clear HE0;go_enter Tryz.func59,Tryz.ntmps59;go_wp2_with fail;refine HL.out.mono ?_;rintro e w1 ⟨rfl,hs1⟩;have HS1:=ah hs1;obtain⟨_,_,V1',q1',_,_⟩:=hs1
   have c3:=q1'.c3;clear q1';go_wp2_with fail;refine (Bu HS1.out hR (by omega)).mono ?_
   rintro e w2 ⟨rfl,hs2⟩;have HS2:=ah hs2;clear hs2;go_wp2_with fail;refine (sW HS2.out HGc.out.ok (Nat.le_trans HGc.out.out (by omega))).mono ?_
   rintro e w3 ⟨rfl,hs3⟩;have HS3:=ah hs3;clear hs3;obtain⟨WX,FX,VX,hX,kX,mX⟩:=HS3.out
   have HSt:=ah (iH hX);have HKX:=ah (HKA.out _ _ _ kX mX);have HwX:=ah hX.wt;have HfX:=ah hX.wf;obtain⟨aX,cX,hvX⟩:=hX.g71
   have HvX:=ah hvX;rw[hvX] at HSt;clear hX kX mX hvX;go_wp2_with fail;refine HSt.out.mono ?_;rintro e wS ⟨rfl,hoS,kS,WS,FSs,hRS,hWS,hFS,hfS⟩;have HFin:=ah (jg.mk' HKX.out HwX.out HfX.out HvX.out hoS kS hRS hWS hFS hfS);clear hoS kS hRS hWS hFS hfS;go_wp2_with fail;go_ret;exact (by rw[HE.out];exact HFin.out)
 ·rw[hl] at HL;have HE:Hid (R.qY=R.jw):=by unfold Hid;rw[HE0.out,hl,if_pos rfl]
  clear HE0;go_enter Tryz.func59,Tryz.ntmps59;go_wp2_with fail;refine HL.out.mono ?_;rintro e w1 ⟨rfl,hs1⟩;have HS1:=ah hs1;obtain⟨_,_,V1',q1',_,_⟩:=hs1
  have c3:=q1'.c3;clear q1';go_wp2_with fail;refine (GR HS1.out hR (by omega)).mono ?_
  rintro e w2 ⟨rfl,hs2⟩;have HS2:=ah hs2;clear hs2;obtain⟨WX,FX,VX,hX,kX,mX⟩:=HS2.out
  have HSt:=ah (iH hX);have HKX:=ah (HKA.out _ _ _ kX mX);have HwX:=ah hX.wt;have HfX:=ah hX.wf;obtain⟨aX,cX,hvX⟩:=hX.g71
  have HvX:=ah hvX;rw[hvX] at HSt;clear hX kX mX hvX;go_wp2_with fail;refine HSt.out.mono ?_;rintro e wS ⟨rfl,hoS,kS,WS,FSs,hRS,hWS,hFS,hfS⟩;have HFin:=ah (jg.mk' HKX.out HwX.out HfX.out HvX.out hoS kS hRS hWS hFS hfS);clear hoS kS hRS hWS hFS hfS;go_wp2_with fail;go_ret;exact (by rw[HE.out];exact HFin.out)
theorem CV (h:ay w b bl W F R V) (hR:Ok R) (ho:R.out=[]) :
  Calls Tryz.prog 60 #[Zp (some ⟨b,0,O⟩)] w fun e w'=>TkP w w' b bl W F R.suspect e:=by
 have HS0:=ah (Rst.refl h);have HKA:Hid (∀ wX WX FX,Kp W w wX→Mv w W F WX FX→Kp W w wX∧(∀ x∈WX,x∈W∨w.heap.size≤x)∧(∀ x∈FX,x∈F∨w.heap.size≤x)):=fun _ _ _ k m=>⟨k,m.m,m.g⟩
 have hol:R.out.length≤100000:=by rw[ho];simp
 have HE0:Hid (R.suspect=if R.carries=true∧R.view<999 then R.want (R.view+1) else R):=rfl
 have HL:=ah (nZ HS0.out);have hv0:=hR.vi;have hw5:IntKind.i64.wrap (R.view+1)=R.view+1:=eB (by omega) (by omega)
 clear h ho;cases hl:R.carries
 ·rw[hl] at HL;have HE:Hid (R.suspect=R):=by unfold Hid;rw[HE0.out,hl,if_neg (fun q=>absurd q.1 (by decide))]
  clear HE0;go_enter Tryz.func60,Tryz.ntmps60;go_wp2_with fail;refine HL.out.mono ?_;rintro e w1 ⟨rfl,hs1⟩;have HS1:=ah hs1;obtain⟨_,_,V1',q1',_,_⟩:=hs1
  have c5:=q1'.c5;clear q1';obtain⟨WX,FX,VX,hX,kX,mX⟩:=HS1.out
  have HSt:=ah (iH hX);have HKX:=ah (HKA.out _ _ _ kX mX);have HwX:=ah hX.wt;have HfX:=ah hX.wf;obtain⟨aX,cX,hvX⟩:=hX.g71
  have HvX:=ah hvX;rw[hvX] at HSt;clear hX kX mX hvX;go_wp2_with fail;refine HSt.out.mono ?_;rintro e wS ⟨rfl,hoS,kS,WS,FSs,hRS,hWS,hFS,hfS⟩;have HFin:=ah (jg.mk' HKX.out HwX.out HfX.out HvX.out hoS kS hRS hWS hFS hfS);clear hoS kS hRS hWS hFS hfS;go_wp2_with fail;go_ret;exact (by rw[HE.out];exact HFin.out)
 ·rw[hl] at HL;by_cases hv:R.view<999
  ·have HE:Hid (R.suspect=R.want (R.view+1)):=by unfold Hid;rw[HE0.out,if_pos ⟨hl,hv⟩]
   clear HE0;go_enter Tryz.func60,Tryz.ntmps60;go_wp2_with fail;refine HL.out.mono ?_;rintro e w1 ⟨rfl,hs1⟩;have HS1:=ah hs1;obtain⟨_,_,V1',q1',_,_⟩:=hs1
   have c5:=q1'.c5;clear q1';go_wp2_with fail;refine (vY HS1.out hR (R.view+1) (by omega) (by omega)).mono ?_
   rintro e w2 ⟨rfl,hs2⟩;have HS2:=ah hs2;clear hs2;obtain⟨WX,FX,VX,hX,kX,mX⟩:=HS2.out
   have HSt:=ah (iH hX);have HKX:=ah (HKA.out _ _ _ kX mX);have HwX:=ah hX.wt;have HfX:=ah hX.wf;obtain⟨aX,cX,hvX⟩:=hX.g71
   have HvX:=ah hvX;rw[hvX] at HSt;clear hX kX mX hvX;go_wp2_with fail;refine HSt.out.mono ?_;rintro e wS ⟨rfl,hoS,kS,WS,FSs,hRS,hWS,hFS,hfS⟩;have HFin:=ah (jg.mk' HKX.out HwX.out HfX.out HvX.out hoS kS hRS hWS hFS hfS);clear hoS kS hRS hWS hFS hfS;go_wp2_with fail;go_ret;exact (by rw[HE.out];exact HFin.out)
  ·have HE:Hid (R.suspect=R):=by unfold Hid;rw[HE0.out,if_neg (fun q=>hv q.2)]
   clear HE0;go_enter Tryz.func60,Tryz.ntmps60;go_wp2_with fail;refine HL.out.mono ?_;rintro e w1 ⟨rfl,hs1⟩;have HS1:=ah hs1;obtain⟨_,_,V1',q1',_,_⟩:=hs1
   have c5:=q1'.c5;clear q1';obtain⟨WX,FX,VX,hX,kX,mX⟩:=HS1.out
   have HSt:=ah (iH hX);have HKX:=ah (HKA.out _ _ _ kX mX);have HwX:=ah hX.wt;have HfX:=ah hX.wf;obtain⟨aX,cX,hvX⟩:=hX.g71
   have HvX:=ah hvX;rw[hvX] at HSt;clear hX kX mX hvX;go_wp2_with fail;refine HSt.out.mono ?_;rintro e wS ⟨rfl,hoS,kS,WS,FSs,hRS,hWS,hFS,hfS⟩;have HFin:=ah (jg.mk' HKX.out HwX.out HfX.out HvX.out hoS kS hRS hWS hFS hfS);clear hoS kS hRS hWS hFS hfS;go_wp2_with fail;go_ret;exact (by rw[HE.out];exact HFin.out)
end
end Go.Proofs.YtajakaadgagejaaGreatDoor
