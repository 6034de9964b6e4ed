import Derived.Test.YtbnihoahhomooaaGreatDoorA30
import Derived.Test.YtbnihoahhomooaaGreatDoorA20
set_option maxRecDepth 100000
set_option maxHeartbeats 8000000
set_option linter.all false
namespace Go.Proofs.YtbnihoahhomooaaGreatDoor
open Go.Value renaming int→I,slice→Y,string→Z,pointer→Zp
open Go.Ending renaming returned→Zr
open _root_.ByteArray renaming empty→Ze
open Go.IntKind renaming i64→J
open Option renaming none→O
open Go.RowKit
section
variable {w w0:World} {b bl:Nat} {W F:List Nat} {R:Rp} {V:Rv} {P:Pm} {vl vg vo vL:Value}
theorem xO (h:Rst w0 w b bl W F R) (hR:Ok R) (hP:dM w0 W F P vl vg vo vL) (hm:dQ R.n P) (ho5:P.old.length≤1000)  :
  Calls Tryz.prog 134 #[Zp (some ⟨b,0,O⟩),.agg (pmC P vl vg vo vL)] w fun e w'=>e=Zr (.bool (R.jB P))∧Rst w0 w' b bl W F (R):=by
 obtain⟨W1,F1,V1,al,cl,ag,cg,ao,co,aL,cL,rfl,rfl,rfl,rfl,hMA,hPA,hgW,h2,HSA,HK0⟩:=h.msg hP
 clear h hP;simp only[pmC];have HCa:Hid (∀ n,Calls Tryz.prog 84 #[Zp (some ⟨b,0,O⟩)] ((w.alloc (.cells (pqC P al cl ag cg ao co aL cL) 68)).drewN n) fun e w'=>e=Zr (.bool R.carries)∧w'=(w.alloc (.cells (pqC P al cl ag cg ao co aL cL) 68)).drewN n):=fun n=>xL (h2.drewN n)
 have HCo:Hid (∀ n,Calls Tryz.prog 39 #[Y ao P.old.length co,I J R.id] ((w.alloc (.cells (pqC P al cl ag cg ao co aL cL) 68)).drewN n) fun e w'=>e=Zr (.bool (iQ P.old R.id))∧w'=(w.alloc (.cells (pqC P al cl ag cg ao co aL cL) 68)).drewN n):=fun n=>lT _ P.old R.id _ ((hPA.old).below (below_drewN (Below.refl _ _) n)) (by omega)
 have hw4:IntKind.i64.wrap (R.epoch+1)=R.epoch+1:=fC (by have:=hR.ep;omega) (by have:=hR.ep;omega)
 have HE0:Hid (R.jB P=(R.carries&&(P.epoch==R.epoch+1)&&iQ P.old R.id)):=rfl
 clear hm ho5;cases ca:R.carries
 ·have HE:Hid (R.jB P=false):=by unfold Hid;rw[HE0.out,ca];rfl
  rw[ca] at HCa;clear HE0;go_enter Tryz.func134,Tryz.ntmps134;go_upto_region 1 with fail
  generalize w.alloc (.cells (pqC P al cl ag cg ao co aL cL) 68)=wA at *;obtain⟨x0,x1,x2,x3,x4,x5,x6,x7,x8,x9,x10,x11,x12,x13,x14,xf⟩:=hMA.all
  have c0:=h2.c0;have c4:=h2.c4;go_wp2_with fail;go_quiet (first|(go_at_call 84;exact Calls.quiet_of_same (HCa.out _))|(go_at_call 39;exact Calls.quiet_of_same (HCo.out _)))
  rename_i nq;have HSq:=ah (HSA.out.drewN nq);go_wp2;go_ret;exact⟨aU (by rw[HE.out]),HK0.out _ _ HSq.out⟩
 ·rw[ca] at HCa;cases ep:(P.epoch==R.epoch+1)
  ·have HE:Hid (R.jB P=false):=by unfold Hid;rw[HE0.out,ca,ep];rfl
   clear HE0;go_enter Tryz.func134,Tryz.ntmps134;go_upto_region 1 with fail
   generalize w.alloc (.cells (pqC P al cl ag cg ao co aL cL) 68)=wA at *;obtain⟨x0,x1,x2,x3,x4,x5,x6,x7,x8,x9,x10,x11,x12,x13,x14,xf⟩:=hMA.all
   have c0:=h2.c0;have c4:=h2.c4;go_wp2_with fail;go_quiet (first|(go_at_call 84;exact Calls.quiet_of_same (HCa.out _))|(go_at_call 39;exact Calls.quiet_of_same (HCo.out _)))
   rename_i nq;have HSq:=ah (HSA.out.drewN nq);go_wp2;go_ret;exact⟨aU (by rw[HE.out]),HK0.out _ _ HSq.out⟩
  ·cases mo:iQ P.old R.id
   focus
    have HE:Hid (R.jB P=false):=by unfold Hid;rw[HE0.out,ca,ep,mo];rfl
   rotate_left
   focus
    have HE:Hid (R.jB P=true):=by unfold Hid;rw[HE0.out,ca,ep,mo];rfl
   rotate_left
   all_goals
    rw[mo] at HCo;clear HE0;go_enter Tryz.func134,Tryz.ntmps134;go_upto_region 1 with fail
    generalize w.alloc (.cells (pqC P al cl ag cg ao co aL cL) 68)=wA at *;obtain⟨x0,x1,x2,x3,x4,x5,x6,x7,x8,x9,x10,x11,x12,x13,x14,xf⟩:=hMA.all
    have c0:=h2.c0;have c4:=h2.c4;go_wp2_with fail;go_quiet (first|(go_at_call 84;exact Calls.quiet_of_same (HCa.out _))|(go_at_call 39;exact Calls.quiet_of_same (HCo.out _)))
    rename_i nq;have HSq:=ah (HSA.out.drewN nq);go_wp2;go_ret;exact⟨aU (by rw[HE.out]),HK0.out _ _ HSq.out⟩
theorem JF (h:Ok R):Ok R.leave0 :=
 ⟨h.n3,h.n7,h.i0,h.i1,h.ll,h.lb,by simp[Rp.leave0],h.ep,by simp[Rp.leave0],by simp[Rp.leave0],h.g,h.o,h.lg,h.le,h.dc,h.vo,h.vn,h.an,h.nn⟩
theorem LU (h:Rst w0 w b bl W F R) (hR:Ok R) (hP:dM w0 W F P vl vg vo vL) (ho:R.out.length≤400000) (hl:nZ R.n P.log) :
  Calls Tryz.prog 137 #[Zp (some ⟨b,0,O⟩),.agg (pmC P vl vg vo vL)] w fun e w'=>e=Zr (.tuple #[])∧Rst w0 w' b bl W F (R.leave P):=by
 obtain⟨W1,F1,V1,al,cl,ag,cg,ao,co,aL,cL,rfl,rfl,rfl,rfl,hMA,hPA,hgW,h2,HSA,HK0⟩:=h.msg hP
 clear h hP;simp only[pmC];have HE:Hid (R.leave P=((R.leave0.over (dW P.log R.epoch)).aT P.commit).bS):=rfl
 have HO0:=ah (JF hR);have HLu:=ah (hl.upto R.epoch);have HGo:=ah (Rp.fB HO0.out (l:=dW P.log R.epoch) HLu.out);have HGd:=ah (Rp.iG HGo.out.ok P.commit);have hl10:=hl.1;have HLz:Hid (∀ e∈P.log,e.2.2.size≤1000):=fun e he=>by have:=(hl.2 e he).2.2.2.2.2;omega
 clear hl;go_enter Tryz.func137,Tryz.ntmps137;go_upto_region 1 with fail
 generalize w.alloc (.cells (pqC P al cl ag cg ao co aL cL) 68)=wA at *;obtain⟨x0,x1,x2,x3,x4,x5,x6,x7,x8,x9,x10,x11,x12,x13,x14,xf⟩:=hMA.all
 have c3:=h2.c3;have c5:=h2.c5;have c6:=h2.c6;have f3:=h2.free 3;have f5:=h2.free 5;have f6:=h2.free 6;have h3:=((h2.iW 5).yC 0).xu 0;have k3:Kp [b] wA (((wA.setCell ⟨b,3,O⟩ (I J 5)).setCell ⟨b,5,O⟩ (I J 0)).setCell ⟨b,6,O⟩ (I J 0)):=(((Kp.refl [b] wA).set b 3 _ (.inl (by simp))).set b 5 _ (.inl (by simp))).set b 6 _ (.inl (by simp))
 go_upto_region 4 with fail
 generalize ((wA.setCell ⟨b,3,O⟩ (I J 5)).setCell ⟨b,5,O⟩ (I J 0)).setCell ⟨b,6,O⟩ (I J 0)=wB at *;have hth:=ah (h3.there 64 7 (by omega))
 have h4:=h3.LZ;have k4:Kp W1 wA (wB.setCells b 64 (#[.bool false,.bool false,.bool false,.bool false,.bool false,.bool false,.bool false]:Array Value).toList):=(k3.trans' (nK _ 64 (Kp.refl [b] wB))).wid (by intro x hx;simp at hx;subst hx;exact h2.wb)
 have HSC:Hid (Rst wA (wB.setCells b 64 (#[.bool false,.bool false,.bool false,.bool false,.bool false,.bool false,.bool false]:Array Value).toList) b bl W1 F1 R.leave0):=Rst.of h4 k4
 clear h3 h4 k3 k4 c3 c5 c6 f3 f5 f6 x0 x1 x2 x3 x4 x5 x6 x7 x8 x9 x10 x11 x12 x13 x14 xf;go_upto_region 5 with (refine wpList_store_mid rfl 61 (.tmp 17) (.tmp 15) (by rfl) b 64 #[.bool false,.bool false,.bool false,.bool false,.bool false,.bool false,.bool false] (by rfl) (by rfl) hth.out Tryz.sizeSt7 IG ?_)
 generalize wB.setCells b 64 (#[.bool false,.bool false,.bool false,.bool false,.bool false,.bool false,.bool false]:Array Value).toList=wC at *;obtain⟨W4,F4,V4,h4,k4,m4,p4⟩:=HSC.out.pm hPA
 have hM4:=hMA.kp k4 hgW;obtain⟨x0,x1,x2,x3,x4,x5,x6,x7,x8,x9,x10,x11,x12,x13,x14,xf⟩:=hM4.all
 have c4:=h4.c4;simp only[Rp.leave0] at c4;have HU:=ah (qj aL cL P.log R.epoch wC.drew (p4.log.below (Below.refl _ _).drew) (by omega) HLz.out)
 go_region_with (go_at_call 159;refine HU.out.mono ?_;rintro e w5 ⟨n5,c5,rfl,hE5,hb5⟩)
 all_goals
  have hb5':Below wC.heap.size wC w5:=jc hb5
  have HS5:=ah (HSC.out.below hb5');have HTo:=ah (pU (h4.below hb5') _ (dW P.log R.epoch) hE5 HLu.out);have HL5:=ah (fun w' R' (q:Rst w5 w' b bl W4 F4 R')=>Rst.step (k4.aS hb5') m4 q)
  clear x0 x1 x2 x3 x4 x5 x6 x7 x8 x9 x10 x11 x12 x13 x14 xf c4 hb5 hE5;go_wp2_with fail;refine HTo.out.mono ?_;rintro e w6 ⟨rfl,hs6⟩;have HS6:=ah (HL5.out _ _ hs6);clear hs6;have hM6:=hMA.kp HS6.out.kp hgW;obtain⟨x0,x1,x2,x3,x4,x5,x6,x7,x8,x9,x10,x11,x12,x13,x14,xf⟩:=hM6.all
  go_wp2_with fail;refine (iL HS6.out HGo.out.ok P.commit (by show R.out.length≤600000;omega)).mono ?_
  rintro e w7 ⟨rfl,hs7⟩;have HS7:=ah hs7;clear hs7;go_wp2_with fail;refine (nX HS7.out HGd.out.ok (Nat.le_trans HGd.out.out (by show R.out.length+20≤800000;omega))).mono ?_
  rintro e w8 ⟨rfl,hs8⟩;have HS8:=ah hs8;clear hs8;go_wp2;exact bodyPost_end (results_none rfl _ _ _) rfl ⟨rfl,by rw[HE.out];exact HK0.out _ _ HS8.out⟩
theorem uY (h:Rst w0 w b bl W F R) (hR:Ok R) (hP:dM w0 W F P vl vg vo vL) (hm:dQ R.n P) (ho:R.out.length≤300000) (hk:P.kind=115) :
  Calls Tryz.prog 83 #[Zp (some ⟨b,0,O⟩),.agg (pmC P vl vg vo vL)] w fun e w'=>e=Zr (.tuple #[])∧Rst w0 w' b bl W F (R.bK P):=by
 obtain⟨W1,F1,V1,al,cl,ag,cg,ao,co,aL,cL,rfl,rfl,rfl,rfl,hMA,hPA,hgW,h2,HSA,HK0⟩:=h.msg hP
 clear h hP;simp only[pmC];have HE0:Hid (R.bK P=if (R.enter P).mem R.id then (((R.enter P).over P.log).bH).bZ P.commit else if R.jB P then (R.enter P).leave P else { R.enter P with status:=4 }):=rfl
 have HLg:=ah (Rp.lI hm (.inr (.inl hk)));have HOe:=ah (Rp.jO hR (.inl hk) hm);have HGo:=ah (Rp.fB HOe.out (l:=P.log) HLg.out);have HGs:=ah (Rp.lS HGo.out.ok);have HPm:=ah hm;have HOl:Hid (P.old.length≤1000):=by have:=(hm.g (.inl hk)).2.1;exact Nat.le_trans this (by omega)
 clear hm hk;cases hmem:(R.enter P).mem R.id
 ·cases hlv:R.jB P
  focus
   have HE:Hid (R.bK P={ R.enter P with status:=4 }):=by unfold Hid;rw[HE0.out,hmem,hlv];rfl
  rotate_left
  focus
   have HE:Hid (R.bK P=(R.enter P).leave P):=by unfold Hid;rw[HE0.out,hmem,hlv];rfl
  rotate_left
  all_goals
   clear HE0;go_enter Tryz.func83,Tryz.ntmps83;go_upto_region 1 with fail
   generalize w.alloc (.cells (pqC P al cl ag cg ao co aL cL) 68)=wA at *;obtain⟨x0,x1,x2,x3,x4,x5,x6,x7,x8,x9,x10,x11,x12,x13,x14,xf⟩:=hMA.all
   have HLb:=ah (xO HSA.out hR hPA HPm.out HOl.out);have HEn:=ah (fun (wz:World) (hz:Rst wA wz b bl W1 F1 R)=>uW hz hPA)
   simp only[pmC] at HLb HEn;go_wp2_with fail;refine (HLb.out).mono ?_;rintro e w1 ⟨rfl,hs1⟩;have HS1:=ah hs1;clear hs1;have hM1:=hMA.kp HS1.out.kp hgW;obtain⟨_,_,_,_,_,_,_,_,_,_,_,_,_,_,_,_⟩:=hM1.all
   go_wp2_with fail;refine (HEn.out _ HS1.out).mono ?_;rintro e w2 ⟨rfl,hs2⟩;have HS2:=ah hs2;clear hs2;have hM2:=hMA.kp HS2.out.kp hgW;obtain⟨_,_,_,_,_,_,_,_,_,_,_,_,_,_,_,_⟩:=hM2.all
   obtain⟨_,_,V2,q2,_,_⟩:=HS2.out
   have e2_0:=q2.c0;go_wp2_with fail;have HM3:=ah (fT HS2.out HOe.out R.id);rw[hmem] at HM3;refine (HM3.out).mono ?_;rintro e w3 ⟨rfl,hs3⟩;have HS3:=ah hs3;clear hs3;have hM3:=hMA.kp HS3.out.kp hgW;obtain⟨_,_,_,_,_,_,_,_,_,_,_,_,_,_,_,_⟩:=hM3.all
  ·obtain⟨W3,F3,V3,h3,k3,m3⟩:=HS3.out
   have e3:=h3.c3;have ef3:=h3.free 3;have HS4:Hid (Rst wA _ b bl W1 F1 { R.enter P with status:=4 }):=Rst.step k3 m3 (Rst.of (h3.iW 4) (h3.qo _ _))
   clear h3 k3 m3;go_wp2;exact bodyPost_end (results_none rfl _ _ _) rfl ⟨rfl,by rw[HE.out];exact HK0.out _ _ HS4.out⟩
  ·have HLv:=ah (LU HS3.out HOe.out hPA (by show R.out.length≤400000;omega) HLg.out)
   simp only[pmC] at HLv;go_wp2_with fail;refine (HLv.out).mono ?_;rintro e w4 ⟨rfl,hs4⟩;have HS4:=ah hs4;clear hs4;have hM4:=hMA.kp HS4.out.kp hgW;obtain⟨_,_,_,_,_,_,_,_,_,_,_,_,_,_,_,_⟩:=hM4.all
   go_wp2;exact bodyPost_end (results_none rfl _ _ _) rfl ⟨rfl,by rw[HE.out];exact HK0.out _ _ HS4.out⟩
 ·have HE:Hid (R.bK P=(((R.enter P).over P.log).bH).bZ P.commit):=by unfold Hid;rw[HE0.out,hmem];rfl
  clear HE0;go_enter Tryz.func83,Tryz.ntmps83;go_upto_region 1 with fail
  generalize w.alloc (.cells (pqC P al cl ag cg ao co aL cL) 68)=wA at *;obtain⟨x0,x1,x2,x3,x4,x5,x6,x7,x8,x9,x10,x11,x12,x13,x14,xf⟩:=hMA.all
  have HLb:=ah (xO HSA.out hR hPA HPm.out HOl.out);have HEn:=ah (fun (wz:World) (hz:Rst wA wz b bl W1 F1 R)=>uW hz hPA)
  simp only[pmC] at HLb HEn;go_wp2_with fail;refine (HLb.out).mono ?_;rintro e w1 ⟨rfl,hs1⟩;have HS1:=ah hs1;clear hs1;have hM1:=hMA.kp HS1.out.kp hgW;obtain⟨_,_,_,_,_,_,_,_,_,_,_,_,_,_,_,_⟩:=hM1.all
  go_wp2_with fail;refine (HEn.out _ HS1.out).mono ?_;rintro e w2 ⟨rfl,hs2⟩;have HS2:=ah hs2;clear hs2;have hM2:=hMA.kp HS2.out.kp hgW;obtain⟨_,_,_,_,_,_,_,_,_,_,_,_,_,_,_,_⟩:=hM2.all
  obtain⟨_,_,V2,q2,_,_⟩:=HS2.out
  have e2_0:=q2.c0;go_wp2_with fail;have HM3:=ah (fT HS2.out HOe.out R.id);rw[hmem] at HM3;refine (HM3.out).mono ?_;rintro e w3 ⟨rfl,hs3⟩;have HS3:=ah hs3;clear hs3;have hM3:=hMA.kp HS3.out.kp hgW;obtain⟨_,_,_,_,_,_,_,_,_,_,_,_,_,_,_,_⟩:=hM3.all
  go_wp2_with fail;refine (lD HS3.out hPA HLg.out).mono ?_;rintro e w4 ⟨rfl,hs4⟩;have HS4:=ah hs4;clear hs4;have hM4:=hMA.kp HS4.out.kp hgW;obtain⟨_,_,_,_,_,_,_,_,_,_,_,_,_,_,_,_⟩:=hM4.all
  go_wp2_with fail;refine (Dx HS4.out HGo.out.ok (by show R.out.length≤800000;omega)).mono ?_
  rintro e w5 ⟨rfl,hs5⟩;have HS5:=ah hs5;clear hs5;have hM5:=hMA.kp HS5.out.kp hgW;obtain⟨_,_,_,_,_,_,_,_,_,_,_,_,_,_,_,_⟩:=hM5.all
  go_wp2_with fail;refine (pW HS5.out HGs.out.ok P.commit (Nat.le_trans HGs.out.out (by show R.out.length+5≤500000;omega))).mono ?_
  rintro e w6 ⟨rfl,hs6⟩;have HS6:=ah hs6;clear hs6;have hM6:=hMA.kp HS6.out.kp hgW;obtain⟨_,_,_,_,_,_,_,_,_,_,_,_,_,_,_,_⟩:=hM6.all
  go_wp2;exact bodyPost_end (results_none rfl _ _ _) rfl ⟨rfl,by rw[HE.out];exact HK0.out _ _ HS6.out⟩
theorem Dw (h:Rst w0 w b bl W F R) (hR:Ok R) (hP:dM w0 W F P vl vg vo vL) (hm:dQ R.n P) (ho:R.out.length≤300000) (hk:P.kind=115) :
  Calls Tryz.prog 49 #[Zp (some ⟨b,0,O⟩),.agg (pmC P vl vg vo vL)] w fun e w'=>e=Zr (.tuple #[])∧Rst w0 w' b bl W F (R.dY P):=by
 obtain⟨W1,F1,V1,al,cl,ag,cg,ao,co,aL,cL,rfl,rfl,rfl,rfl,hMA,hPA,hgW,h2,HSA,HK0⟩:=h.msg hP
 clear h hP;simp only[pmC];have HE0:Hid (R.dY P=if R.epoch<P.epoch then R.bK P else if R.carries then (if P.epoch<R.epoch then R.bX P else R.aH P) else R):=rfl
 have HPm:=ah hm;have HKd:=ah hk;clear hm hk;by_cases q1:R.epoch<P.epoch
 ·have HE:Hid (R.dY P=R.bK P):=by unfold Hid;rw[HE0.out,if_pos q1]
  clear HE0;go_enter Tryz.func49,Tryz.ntmps49;go_upto_region 2 with fail
  generalize w.alloc (.cells (pqC P al cl ag cg ao co aL cL) 68)=wA at *;obtain⟨x0,x1,x2,x3,x4,x5,x6,x7,x8,x9,x10,x11,x12,x13,x14,xf⟩:=hMA.all
  have c4:=h2.c4;go_quiet (fail);rename_i nq;have HSq:=ah (HSA.out.drewN nq);have hMHSq:=hMA.kp HSq.out.kp hgW;clear x0 x1 x2 x3 x4 x5 x6 x7 x8 x9 x10 x11 x12 x13 x14 xf c4;generalize wA.drewN nq=wq at *;obtain⟨x0,x1,x2,x3,x4,x5,x6,x7,x8,x9,x10,x11,x12,x13,x14,xf⟩:=hMHSq.all
  have HC:=ah (uY HSq.out hR hPA HPm.out ho HKd.out);simp only[pmC] at HC;go_wp2_with fail;refine (HC.out).mono ?_;rintro e w1 ⟨rfl,hs1⟩;have HS1:=ah hs1;clear hs1;have hM1:=hMA.kp HS1.out.kp hgW;obtain⟨_,_,_,_,_,_,_,_,_,_,_,_,_,_,_,_⟩:=hM1.all
  go_wp2;exact bodyPost_end (results_none rfl _ _ _) rfl ⟨rfl,by rw[HE.out];exact HK0.out _ _ HS1.out⟩
 ·cases ca:R.carries
  ·have HE:Hid (R.dY P=R):=by unfold Hid;rw[HE0.out,if_neg q1,ca];rfl
   clear HE0;go_enter Tryz.func49,Tryz.ntmps49;go_upto_region 2 with fail
   generalize w.alloc (.cells (pqC P al cl ag cg ao co aL cL) 68)=wA at *;obtain⟨x0,x1,x2,x3,x4,x5,x6,x7,x8,x9,x10,x11,x12,x13,x14,xf⟩:=hMA.all
   have c4:=h2.c4;go_quiet (fail);rename_i nq;have HSq:=ah (HSA.out.drewN nq);have hMHSq:=hMA.kp HSq.out.kp hgW;clear x0 x1 x2 x3 x4 x5 x6 x7 x8 x9 x10 x11 x12 x13 x14 xf c4;generalize wA.drewN nq=wq at *;obtain⟨x0,x1,x2,x3,x4,x5,x6,x7,x8,x9,x10,x11,x12,x13,x14,xf⟩:=hMHSq.all
   have HC:=ah (tT HSq.out);rw[ca] at HC;go_wp2_with fail;refine (HC.out).mono ?_;rintro e w1 ⟨rfl,hs1⟩;have HS1:=ah hs1;clear hs1;have hM1:=hMA.kp HS1.out.kp hgW;obtain⟨_,_,_,_,_,_,_,_,_,_,_,_,_,_,_,_⟩:=hM1.all
   go_wp2;exact bodyPost_ret (results_none rfl _ _ _) rfl ⟨rfl,by rw[HE.out];exact HK0.out _ _ HS1.out⟩
  ·by_cases q2:P.epoch<R.epoch
   focus
    have HE:Hid (R.dY P=R.bX P):=by unfold Hid;rw[HE0.out,if_neg q1,ca,if_pos rfl,if_pos q2]
   rotate_left
   focus
    have HE:Hid (R.dY P=R.aH P):=by unfold Hid;rw[HE0.out,if_neg q1,ca,if_pos rfl,if_neg q2]
   rotate_left
   all_goals
    clear HE0;go_enter Tryz.func49,Tryz.ntmps49;go_upto_region 2 with fail
    generalize w.alloc (.cells (pqC P al cl ag cg ao co aL cL) 68)=wA at *;obtain⟨x0,x1,x2,x3,x4,x5,x6,x7,x8,x9,x10,x11,x12,x13,x14,xf⟩:=hMA.all
    have c4:=h2.c4;go_quiet (fail);rename_i nq;have HSq:=ah (HSA.out.drewN nq);have hMHSq:=hMA.kp HSq.out.kp hgW;clear x0 x1 x2 x3 x4 x5 x6 x7 x8 x9 x10 x11 x12 x13 x14 xf c4;generalize wA.drewN nq=wq at *;obtain⟨x0,x1,x2,x3,x4,x5,x6,x7,x8,x9,x10,x11,x12,x13,x14,xf⟩:=hMHSq.all
    have HC:=ah (tT HSq.out);rw[ca] at HC;go_wp2_with fail;refine (HC.out).mono ?_;rintro e w1 ⟨rfl,hs1⟩;have HS1:=ah hs1;clear hs1;have hM1:=hMA.kp HS1.out.kp hgW;obtain⟨_,_,_,_,_,_,_,_,_,_,_,_,_,_,_,_⟩:=hM1.all
    obtain⟨_,_,V1,q1,_,_⟩:=HS1.out
    have e1_4:=q1.c4;go_wp2_with fail;go_quiet (fail);rename_i nq;have HSr:=ah (HS1.out.drewN nq);have hMHSr:=hMA.kp HSr.out.kp hgW;clear x0 x1 x2 x3 x4 x5 x6 x7 x8 x9 x10 x11 x12 x13 x14 xf e1_4;generalize w1.drewN nq=wr at *;obtain⟨x0,x1,x2,x3,x4,x5,x6,x7,x8,x9,x10,x11,x12,x13,x14,xf⟩:=hMHSr.all
   focus
    have HD:=ah (mY HSr.out hR hPA (by omega))
   rotate_left
   focus
    have HD:=ah (sG HSr.out hR hPA HPm.out (by omega) HKd.out)
   rotate_left
   all_goals
    simp only[pmC] at HD;go_wp2_with fail;refine (HD.out).mono ?_;rintro e w2 ⟨rfl,hs2⟩;have HS2:=ah hs2;clear hs2;have hM2:=hMA.kp HS2.out.kp hgW;obtain⟨_,_,_,_,_,_,_,_,_,_,_,_,_,_,_,_⟩:=hM2.all
    go_wp2;exact bodyPost_end (results_none rfl _ _ _) rfl ⟨rfl,by rw[HE.out];exact HK0.out _ _ HS2.out⟩
end
end Go.Proofs.YtbnihoahhomooaaGreatDoor
