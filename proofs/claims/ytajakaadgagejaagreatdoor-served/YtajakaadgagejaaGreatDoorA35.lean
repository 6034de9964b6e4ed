import Derived.Test.YtajakaadgagejaaGreatDoorA34
import Derived.Test.YtajakaadgagejaaGreatDoorA20
set_option maxRecDepth 100000
set_option maxHeartbeats 8000000
set_option linter.unusedVariables false
set_option linter.unusedSimpArgs false
set_option linter.unusedSectionVars false
namespace Go.Proofs.YtajakaadgagejaaGreatDoor
open Go.Value renaming int→I,slice→Y,string→Z,pointer→Zp
open Go.Ending renaming returned→Zr
open _root_.ByteArray renaming empty→Ze
open Go.IntKind renaming i64→J
open Option renaming none→O
open Go.RowKit
section
variable {w w0:World} {b bl:Nat} {W F:List Nat} {R:Rp} {V:Rv} {P:Pm} {vl vg vo vL:Value}
theorem pV (h:Rst w0 w b bl W F R) (hR:Ok R) (hP:dF w0 W F P vl vg vo vL) (hm:eF R.n P) (ho5:P.old.length≤1000)  :
  Calls Tryz.prog 134 #[Zp (some ⟨b,0,O⟩),.agg (pmC P vl vg vo vL)] w fun e w'=>e=Zr (.bool (R.jq P))∧Rst w0 w' b bl W F (R):=by
 obtain⟨W1,F1,V1,h1,k1,m1,p1⟩:=h.pm hP
 obtain⟨al,cl,ag,cg,ao,co,aL,cL,rfl,rfl,rfl,rfl⟩:=p1.cells
 have hbA:Below w.heap.size w (w.alloc (.cells (pqC P al cl ag cg ao co aL cL) 68)):=(Below.refl _ w).alloc (Nat.le_refl _) _
 have hMA:bB (w.alloc (.cells (pqC P al cl ag cg ao co aL cL) 68)) w.heap.size (pqC P al cl ag cg ao co aL cL):=⟨rfl,heap_alloc_new w _⟩
 have hPA:=p1.below hbA;have hgW:w.heap.size∉W1:=fun hc=>by have:=h1.wlt _ hc;omega
 have h2:=h1.below hbA;have HSA:=ah (Rst.refl h2);have HK0:Hid (∀ w' R',Rst (w.alloc (.cells (pqC P al cl ag cg ao co aL cL) 68)) w' b bl W1 F1 R'→Rst w0 w' b bl W F R'):=fun w' R' q=>Rst.step (k1.aF hbA) m1 q
 clear h p1 hP h1 hbA;simp only[pmC];have HCa:Hid (∀ n,Calls Tryz.prog 84 #[Zp (some ⟨b,0,O⟩)] ((w.alloc (.cells (pqC P al cl ag cg ao co aL cL) 68)).drewN n) fun e w'=>e=Zr (.bool R.carries)∧w'=(w.alloc (.cells (pqC P al cl ag cg ao co aL cL) 68)).drewN n):=fun n=>uS (h2.drewN n)
 have HCo:Hid (∀ n,Calls Tryz.prog 39 #[Y ao P.old.length co,I J R.id] ((w.alloc (.cells (pqC P al cl ag cg ao co aL cL) 68)).drewN n) fun e w'=>e=Zr (.bool (lN P.old R.id))∧w'=(w.alloc (.cells (pqC P al cl ag cg ao co aL cL) 68)).drewN n):=fun n=>kH _ P.old R.id _ ((hPA.old).below (below_drewN (Below.refl _ _) n)) (by omega)
 have hw4:IntKind.i64.wrap (R.epoch+1)=R.epoch+1:=eB (by have:=hR.ep;omega) (by have:=hR.ep;omega)
 have HE0:Hid (R.jq P=(R.carries&&(P.epoch==R.epoch+1)&&lN P.old R.id)):=rfl
 clear hm ho5;cases ca:R.carries
 ·have HE:Hid (R.jq P=false):=by unfold Hid;rw[HE0.out,ca];rfl
  rw[ca] at HCa;clear HE0;go_enter Tryz.func134,Tryz.ntmps134;go_upto_region 1 with fail
  generalize w.alloc (.cells (pqC P al cl ag cg ao co aL cL) 68)=wA at *;obtain⟨x0,x1,x2,x3,x4,x5,x6,x7,x8,x9,x10,x11,x12,x13,x14,xf⟩:=hMA.all
  have c0:=h2.c0;have c4:=h2.c4;go_wp2_with fail;go_quiet (first|(go_at_call 84;exact Calls.quiet_of_same (HCa.out _))|(go_at_call 39;exact Calls.quiet_of_same (HCo.out _)))
  rename_i nq;have HSq:=ah (HSA.out.drewN nq);go_wp2_with fail;go_ret;exact⟨aS (by rw[HE.out]),HK0.out _ _ HSq.out⟩
 ·rw[ca] at HCa;cases ep:(P.epoch==R.epoch+1)
  ·have HE:Hid (R.jq P=false):=by unfold Hid;rw[HE0.out,ca,ep];rfl
   clear HE0;go_enter Tryz.func134,Tryz.ntmps134;go_upto_region 1 with fail
   generalize w.alloc (.cells (pqC P al cl ag cg ao co aL cL) 68)=wA at *;obtain⟨x0,x1,x2,x3,x4,x5,x6,x7,x8,x9,x10,x11,x12,x13,x14,xf⟩:=hMA.all
   have c0:=h2.c0;have c4:=h2.c4;go_wp2_with fail;go_quiet (first|(go_at_call 84;exact Calls.quiet_of_same (HCa.out _))|(go_at_call 39;exact Calls.quiet_of_same (HCo.out _)))
   rename_i nq;have HSq:=ah (HSA.out.drewN nq);go_wp2_with fail;go_ret;exact⟨aS (by rw[HE.out]),HK0.out _ _ HSq.out⟩
  ·cases mo:lN P.old R.id
   ·have HE:Hid (R.jq P=false):=by unfold Hid;rw[HE0.out,ca,ep,mo];rfl
    rw[mo] at HCo;clear HE0;go_enter Tryz.func134,Tryz.ntmps134;go_upto_region 1 with fail
    generalize w.alloc (.cells (pqC P al cl ag cg ao co aL cL) 68)=wA at *;obtain⟨x0,x1,x2,x3,x4,x5,x6,x7,x8,x9,x10,x11,x12,x13,x14,xf⟩:=hMA.all
    have c0:=h2.c0;have c4:=h2.c4;go_wp2_with fail;go_quiet (first|(go_at_call 84;exact Calls.quiet_of_same (HCa.out _))|(go_at_call 39;exact Calls.quiet_of_same (HCo.out _)))
    rename_i nq;have HSq:=ah (HSA.out.drewN nq);go_wp2_with fail;go_ret;exact⟨aS (by rw[HE.out]),HK0.out _ _ HSq.out⟩
   ·have HE:Hid (R.jq P=true):=by unfold Hid;rw[HE0.out,ca,ep,mo];rfl
    rw[mo] at HCo;clear HE0;go_enter Tryz.func134,Tryz.ntmps134;go_upto_region 1 with fail
    generalize w.alloc (.cells (pqC P al cl ag cg ao co aL cL) 68)=wA at *;obtain⟨x0,x1,x2,x3,x4,x5,x6,x7,x8,x9,x10,x11,x12,x13,x14,xf⟩:=hMA.all
    have c0:=h2.c0;have c4:=h2.c4;go_wp2_with fail;go_quiet (first|(go_at_call 84;exact Calls.quiet_of_same (HCa.out _))|(go_at_call 39;exact Calls.quiet_of_same (HCo.out _)))
    rename_i nq;have HSq:=ah (HSA.out.drewN nq);go_wp2_with fail;go_ret;exact⟨aS (by rw[HE.out]),HK0.out _ _ HSq.out⟩
theorem Gw (h:Ok R):Ok R.leave0 :=
 ⟨h.n3,h.n7,h.i0,h.i1,h.ll,h.lb,by simp[Rp.leave0],h.ep,by simp[Rp.leave0],by simp[Rp.leave0],h.g,h.o,h.lg,h.le,h.dc,h.vo,h.vn,h.an,h.nn⟩
theorem I9 (h:Rst w0 w b bl W F R) (hR:Ok R) (hP:dF w0 W F P vl vg vo vL) (ho:R.out.length≤400000) (hl:qX R.n P.log) :
  Calls Tryz.prog 137 #[Zp (some ⟨b,0,O⟩),.agg (pmC P vl vg vo vL)] w fun e w'=>e=Zr (.tuple #[])∧Rst w0 w' b bl W F (R.leave P):=by
 obtain⟨W1,F1,V1,h1,k1,m1,p1⟩:=h.pm hP
 obtain⟨al,cl,ag,cg,ao,co,aL,cL,rfl,rfl,rfl,rfl⟩:=p1.cells
 have hbA:Below w.heap.size w (w.alloc (.cells (pqC P al cl ag cg ao co aL cL) 68)):=(Below.refl _ w).alloc (Nat.le_refl _) _
 have hMA:bB (w.alloc (.cells (pqC P al cl ag cg ao co aL cL) 68)) w.heap.size (pqC P al cl ag cg ao co aL cL):=⟨rfl,heap_alloc_new w _⟩
 have hPA:=p1.below hbA;have hgW:w.heap.size∉W1:=fun hc=>by have:=h1.wlt _ hc;omega
 have h2:=h1.below hbA;have HSA:=ah (Rst.refl h2);have HK0:Hid (∀ w' R',Rst (w.alloc (.cells (pqC P al cl ag cg ao co aL cL) 68)) w' b bl W1 F1 R'→Rst w0 w' b bl W F R'):=fun w' R' q=>Rst.step (k1.aF hbA) m1 q
 clear h p1 hP h1 hbA;simp only[pmC];have HE:Hid (R.leave P=((R.leave0.over (iU P.log R.epoch)).bF P.commit).dY):=rfl
 have HO0:=ah (Gw hR);have HLu:=ah (hl.upto R.epoch);have HGo:=ah (Rp.fC HO0.out (l:=iU P.log R.epoch) HLu.out);have HGd:=ah (Rp.iq HGo.out.ok P.commit);have hl10:=hl.1;have HLz:Hid (∀ e∈P.log,e.2.2.size≤1000):=fun e he=>by have:=(hl.2 e he).2.2.2.2.2;omega
 clear hl;go_enter Tryz.func137,Tryz.ntmps137;go_upto_region 1 with fail
 generalize w.alloc (.cells (pqC P al cl ag cg ao co aL cL) 68)=wA at *;obtain⟨x0,x1,x2,x3,x4,x5,x6,x7,x8,x9,x10,x11,x12,x13,x14,xf⟩:=hMA.all
 have c3:=h2.c3;have c5:=h2.c5;have c6:=h2.c6;have f3:=h2.free 3;have f5:=h2.free 5;have f6:=h2.free 6;have h3:=((h2.iJ 5).vZ 0).uG 0;have k3:Kp [b] wA (((wA.setCell ⟨b,3,O⟩ (I J 5)).setCell ⟨b,5,O⟩ (I J 0)).setCell ⟨b,6,O⟩ (I J 0)):=(((Kp.refl [b] wA).set b 3 _ (.inl (by simp))).set b 5 _ (.inl (by simp))).set b 6 _ (.inl (by simp))
 go_upto_region 4 with fail
 generalize ((wA.setCell ⟨b,3,O⟩ (I J 5)).setCell ⟨b,5,O⟩ (I J 0)).setCell ⟨b,6,O⟩ (I J 0)=wB at *;have hth:=ah (h3.there 64 7 (by omega))
 have h4:=h3.Je;have k4:Kp W1 wA (wB.setCells b 64 (#[.bool false,.bool false,.bool false,.bool false,.bool false,.bool false,.bool false]:Array Value).toList):=(k3.trans' (mq _ 64 (Kp.refl [b] wB))).wid (by intro x hx;simp at hx;subst hx;exact h2.wb)
 have HSC:Hid (Rst wA (wB.setCells b 64 (#[.bool false,.bool false,.bool false,.bool false,.bool false,.bool false,.bool false]:Array Value).toList) b bl W1 F1 R.leave0):=Rst.of h4 k4
 clear h3 h4 k3 k4 c3 c5 c6 f3 f5 f6 x0 x1 x2 x3 x4 x5 x6 x7 x8 x9 x10 x11 x12 x13 x14 xf;go_upto_region 5 with (refine wpList_store_mid rfl 61 (.tmp 17) (.tmp 15) (by rfl) b 64 #[.bool false,.bool false,.bool false,.bool false,.bool false,.bool false,.bool false] (by rfl) (by rfl) hth.out Tryz.sizeSt7 Fe ?_)
 generalize wB.setCells b 64 (#[.bool false,.bool false,.bool false,.bool false,.bool false,.bool false,.bool false]:Array Value).toList=wC at *;obtain⟨W4,F4,V4,h4,k4,m4,p4⟩:=HSC.out.pm hPA
 have hM4:=hMA.kp k4 hgW;obtain⟨x0,x1,x2,x3,x4,x5,x6,x7,x8,x9,x10,x11,x12,x13,x14,xf⟩:=hM4.all
 have c4:=h4.c4;simp only[Rp.leave0] at c4;have HU:=ah (oH aL cL P.log R.epoch wC.drew (p4.log.below (Below.refl _ _).drew) (by omega) HLz.out)
 go_region_with (go_at_call 159;refine HU.out.mono ?_;rintro e w5 ⟨n5,c5,rfl,hE5,hb5⟩)
 all_goals
  have hb5':Below wC.heap.size wC w5:=iL hb5
  have HS5:=ah (HSC.out.below hb5');have HTo:=ah (nY (h4.below hb5') _ (iU P.log R.epoch) hE5 HLu.out);have HL5:=ah (fun w' R' (q:Rst w5 w' b bl W4 F4 R')=>Rst.step (k4.aF hb5') m4 q)
  clear x0 x1 x2 x3 x4 x5 x6 x7 x8 x9 x10 x11 x12 x13 x14 xf c4 hb5 hE5;go_wp2_with fail;refine HTo.out.mono ?_;rintro e w6 ⟨rfl,hs6⟩;have HS6:=ah (HL5.out _ _ hs6);clear hs6;have hM6:=hMA.kp HS6.out.kp hgW;obtain⟨x0,x1,x2,x3,x4,x5,x6,x7,x8,x9,x10,x11,x12,x13,x14,xf⟩:=hM6.all
  go_wp2_with fail;refine (iA HS6.out HGo.out.ok P.commit (by show R.out.length≤600000;omega)).mono ?_
  rintro e w7 ⟨rfl,hs7⟩;have HS7:=ah hs7;clear hs7;go_wp2_with fail;refine (mP HS7.out HGd.out.ok (Nat.le_trans HGd.out.out (by show R.out.length+20≤800000;omega))).mono ?_
  rintro e w8 ⟨rfl,hs8⟩;have HS8:=ah hs8;clear hs8;go_wp2_with fail;exact bodyPost_end (results_none rfl _ _ _) rfl ⟨rfl,by rw[HE.out];exact HK0.out _ _ HS8.out⟩
theorem sV (h:Rst w0 w b bl W F R) (hR:Ok R) (hP:dF w0 W F P vl vg vo vL) (hm:eF R.n P) (ho:R.out.length≤300000) (hk:P.kind=115) :
  Calls Tryz.prog 83 #[Zp (some ⟨b,0,O⟩),.agg (pmC P vl vg vo vL)] w fun e w'=>e=Zr (.tuple #[])∧Rst w0 w' b bl W F (R.dx P):=by
 obtain⟨W1,F1,V1,h1,k1,m1,p1⟩:=h.pm hP
 obtain⟨al,cl,ag,cg,ao,co,aL,cL,rfl,rfl,rfl,rfl⟩:=p1.cells
 have hbA:Below w.heap.size w (w.alloc (.cells (pqC P al cl ag cg ao co aL cL) 68)):=(Below.refl _ w).alloc (Nat.le_refl _) _
 have hMA:bB (w.alloc (.cells (pqC P al cl ag cg ao co aL cL) 68)) w.heap.size (pqC P al cl ag cg ao co aL cL):=⟨rfl,heap_alloc_new w _⟩
 have hPA:=p1.below hbA;have hgW:w.heap.size∉W1:=fun hc=>by have:=h1.wlt _ hc;omega
 have h2:=h1.below hbA;have HSA:=ah (Rst.refl h2);have HK0:Hid (∀ w' R',Rst (w.alloc (.cells (pqC P al cl ag cg ao co aL cL) 68)) w' b bl W1 F1 R'→Rst w0 w' b bl W F R'):=fun w' R' q=>Rst.step (k1.aF hbA) m1 q
 clear h p1 hP h1 hbA;simp only[pmC];have HE0:Hid (R.dx P=if (R.enter P).mem R.id then (((R.enter P).over P.log).iX).iC P.commit else if R.jq P then (R.enter P).leave P else { R.enter P with status:=4 }):=rfl
 have HLg:=ah (Rp.nR hm (.inr (.inl hk)));have HOe:=ah (Rp.nC hR (.inl hk) hm);have HGo:=ah (Rp.fC HOe.out (l:=P.log) HLg.out);have HGs:=ah (Rp.kF HGo.out.ok);have HPm:=ah hm;have HOl:Hid (P.old.length≤1000):=by have:=(hm.g (.inl hk)).2.1;exact Nat.le_trans this (by omega)
 clear hm hk;cases hmem:(R.enter P).mem R.id
 ·cases hlv:R.jq P
  ·have HE:Hid (R.dx P={ R.enter P with status:=4 }):=by unfold Hid;rw[HE0.out,hmem,hlv];rfl
   clear HE0;go_enter Tryz.func83,Tryz.ntmps83;go_upto_region 1 with fail
   generalize w.alloc (.cells (pqC P al cl ag cg ao co aL cL) 68)=wA at *;obtain⟨x0,x1,x2,x3,x4,x5,x6,x7,x8,x9,x10,x11,x12,x13,x14,xf⟩:=hMA.all
   have HLb:=ah (pV HSA.out hR hPA HPm.out HOl.out);have HEn:=ah (fun (wz:World) (hz:Rst wA wz b bl W1 F1 R)=>nH hz hPA)
   simp only[pmC] at HLb HEn;go_wp2_with fail;refine (HLb.out).mono ?_;rintro e w1 ⟨rfl,hs1⟩;have HS1:=ah hs1;clear hs1;have hM1:=hMA.kp HS1.out.kp hgW;obtain⟨_,_,_,_,_,_,_,_,_,_,_,_,_,_,_,_⟩:=hM1.all
   go_wp2_with fail;refine (HEn.out _ HS1.out).mono ?_;rintro e w2 ⟨rfl,hs2⟩;have HS2:=ah hs2;clear hs2;have hM2:=hMA.kp HS2.out.kp hgW;obtain⟨_,_,_,_,_,_,_,_,_,_,_,_,_,_,_,_⟩:=hM2.all
   obtain⟨_,_,V2,q2,_,_⟩:=HS2.out
   have e2_0:=q2.c0;go_wp2_with fail;have HM3:=ah (dH HS2.out HOe.out R.id);rw[hmem] at HM3;refine (HM3.out).mono ?_;rintro e w3 ⟨rfl,hs3⟩;have HS3:=ah hs3;clear hs3;have hM3:=hMA.kp HS3.out.kp hgW;obtain⟨_,_,_,_,_,_,_,_,_,_,_,_,_,_,_,_⟩:=hM3.all
   obtain⟨W3,F3,V3,h3,k3,m3⟩:=HS3.out
   have e3:=h3.c3;have ef3:=h3.free 3;have HS4:Hid (Rst wA _ b bl W1 F1 { R.enter P with status:=4 }):=Rst.step k3 m3 (Rst.of (h3.iJ 4) (h3.nM _ _))
   clear h3 k3 m3;go_wp2_with fail;exact bodyPost_end (results_none rfl _ _ _) rfl ⟨rfl,by rw[HE.out];exact HK0.out _ _ HS4.out⟩
  ·have HE:Hid (R.dx P=(R.enter P).leave P):=by unfold Hid;rw[HE0.out,hmem,hlv];rfl
   clear HE0;go_enter Tryz.func83,Tryz.ntmps83;go_upto_region 1 with fail
   generalize w.alloc (.cells (pqC P al cl ag cg ao co aL cL) 68)=wA at *;obtain⟨x0,x1,x2,x3,x4,x5,x6,x7,x8,x9,x10,x11,x12,x13,x14,xf⟩:=hMA.all
   have HLb:=ah (pV HSA.out hR hPA HPm.out HOl.out);have HEn:=ah (fun (wz:World) (hz:Rst wA wz b bl W1 F1 R)=>nH hz hPA)
   simp only[pmC] at HLb HEn;go_wp2_with fail;refine (HLb.out).mono ?_;rintro e w1 ⟨rfl,hs1⟩;have HS1:=ah hs1;clear hs1;have hM1:=hMA.kp HS1.out.kp hgW;obtain⟨_,_,_,_,_,_,_,_,_,_,_,_,_,_,_,_⟩:=hM1.all
   go_wp2_with fail;refine (HEn.out _ HS1.out).mono ?_;rintro e w2 ⟨rfl,hs2⟩;have HS2:=ah hs2;clear hs2;have hM2:=hMA.kp HS2.out.kp hgW;obtain⟨_,_,_,_,_,_,_,_,_,_,_,_,_,_,_,_⟩:=hM2.all
   obtain⟨_,_,V2,q2,_,_⟩:=HS2.out
   have e2_0:=q2.c0;go_wp2_with fail;have HM3:=ah (dH HS2.out HOe.out R.id);rw[hmem] at HM3;refine (HM3.out).mono ?_;rintro e w3 ⟨rfl,hs3⟩;have HS3:=ah hs3;clear hs3;have hM3:=hMA.kp HS3.out.kp hgW;obtain⟨_,_,_,_,_,_,_,_,_,_,_,_,_,_,_,_⟩:=hM3.all
   have HLv:=ah (I9 HS3.out HOe.out hPA (by show R.out.length≤400000;omega) HLg.out)
   simp only[pmC] at HLv;go_wp2_with fail;refine (HLv.out).mono ?_;rintro e w4 ⟨rfl,hs4⟩;have HS4:=ah hs4;clear hs4;have hM4:=hMA.kp HS4.out.kp hgW;obtain⟨_,_,_,_,_,_,_,_,_,_,_,_,_,_,_,_⟩:=hM4.all
   go_wp2_with fail;exact bodyPost_end (results_none rfl _ _ _) rfl ⟨rfl,by rw[HE.out];exact HK0.out _ _ HS4.out⟩
 ·have HE:Hid (R.dx P=(((R.enter P).over P.log).iX).iC P.commit):=by unfold Hid;rw[HE0.out,hmem];rfl
  clear HE0;go_enter Tryz.func83,Tryz.ntmps83;go_upto_region 1 with fail
  generalize w.alloc (.cells (pqC P al cl ag cg ao co aL cL) 68)=wA at *;obtain⟨x0,x1,x2,x3,x4,x5,x6,x7,x8,x9,x10,x11,x12,x13,x14,xf⟩:=hMA.all
  have HLb:=ah (pV HSA.out hR hPA HPm.out HOl.out);have HEn:=ah (fun (wz:World) (hz:Rst wA wz b bl W1 F1 R)=>nH hz hPA)
  simp only[pmC] at HLb HEn;go_wp2_with fail;refine (HLb.out).mono ?_;rintro e w1 ⟨rfl,hs1⟩;have HS1:=ah hs1;clear hs1;have hM1:=hMA.kp HS1.out.kp hgW;obtain⟨_,_,_,_,_,_,_,_,_,_,_,_,_,_,_,_⟩:=hM1.all
  go_wp2_with fail;refine (HEn.out _ HS1.out).mono ?_;rintro e w2 ⟨rfl,hs2⟩;have HS2:=ah hs2;clear hs2;have hM2:=hMA.kp HS2.out.kp hgW;obtain⟨_,_,_,_,_,_,_,_,_,_,_,_,_,_,_,_⟩:=hM2.all
  obtain⟨_,_,V2,q2,_,_⟩:=HS2.out
  have e2_0:=q2.c0;go_wp2_with fail;have HM3:=ah (dH HS2.out HOe.out R.id);rw[hmem] at HM3;refine (HM3.out).mono ?_;rintro e w3 ⟨rfl,hs3⟩;have HS3:=ah hs3;clear hs3;have hM3:=hMA.kp HS3.out.kp hgW;obtain⟨_,_,_,_,_,_,_,_,_,_,_,_,_,_,_,_⟩:=hM3.all
  go_wp2_with fail;refine (jk HS3.out hPA HLg.out).mono ?_;rintro e w4 ⟨rfl,hs4⟩;have HS4:=ah hs4;clear hs4;have hM4:=hMA.kp HS4.out.kp hgW;obtain⟨_,_,_,_,_,_,_,_,_,_,_,_,_,_,_,_⟩:=hM4.all
  go_wp2_with fail;refine (BA HS4.out HGo.out.ok (by show R.out.length≤800000;omega)).mono ?_
  rintro e w5 ⟨rfl,hs5⟩;have HS5:=ah hs5;clear hs5;have hM5:=hMA.kp HS5.out.kp hgW;obtain⟨_,_,_,_,_,_,_,_,_,_,_,_,_,_,_,_⟩:=hM5.all
  go_wp2_with fail;refine (oh HS5.out HGs.out.ok P.commit (Nat.le_trans HGs.out.out (by show R.out.length+5≤500000;omega))).mono ?_
  rintro e w6 ⟨rfl,hs6⟩;have HS6:=ah hs6;clear hs6;have hM6:=hMA.kp HS6.out.kp hgW;obtain⟨_,_,_,_,_,_,_,_,_,_,_,_,_,_,_,_⟩:=hM6.all
  go_wp2_with fail;exact bodyPost_end (results_none rfl _ _ _) rfl ⟨rfl,by rw[HE.out];exact HK0.out _ _ HS6.out⟩
theorem Bz (h:Rst w0 w b bl W F R) (hR:Ok R) (hP:dF w0 W F P vl vg vo vL) (hm:eF R.n P) (ho:R.out.length≤300000) (hk:P.kind=115) :
  Calls Tryz.prog 49 #[Zp (some ⟨b,0,O⟩),.agg (pmC P vl vg vo vL)] w fun e w'=>e=Zr (.tuple #[])∧Rst w0 w' b bl W F (R.gq P):=by
 obtain⟨W1,F1,V1,h1,k1,m1,p1⟩:=h.pm hP
 obtain⟨al,cl,ag,cg,ao,co,aL,cL,rfl,rfl,rfl,rfl⟩:=p1.cells
 have hbA:Below w.heap.size w (w.alloc (.cells (pqC P al cl ag cg ao co aL cL) 68)):=(Below.refl _ w).alloc (Nat.le_refl _) _
 have hMA:bB (w.alloc (.cells (pqC P al cl ag cg ao co aL cL) 68)) w.heap.size (pqC P al cl ag cg ao co aL cL):=⟨rfl,heap_alloc_new w _⟩
 have hPA:=p1.below hbA;have hgW:w.heap.size∉W1:=fun hc=>by have:=h1.wlt _ hc;omega
 have h2:=h1.below hbA;have HSA:=ah (Rst.refl h2);have HK0:Hid (∀ w' R',Rst (w.alloc (.cells (pqC P al cl ag cg ao co aL cL) 68)) w' b bl W1 F1 R'→Rst w0 w' b bl W F R'):=fun w' R' q=>Rst.step (k1.aF hbA) m1 q
 clear h p1 hP h1 hbA;simp only[pmC];have HE0:Hid (R.gq P=if R.epoch<P.epoch then R.dx P else if R.carries then (if P.epoch<R.epoch then R.dD P else R.aT P) else R):=rfl
 have HPm:=ah hm;have HKd:=ah hk;clear hm hk;by_cases q1:R.epoch<P.epoch
 ·have HE:Hid (R.gq P=R.dx P):=by unfold Hid;rw[HE0.out,if_pos q1]
  clear HE0;go_enter Tryz.func49,Tryz.ntmps49;go_upto_region 2 with fail
  generalize w.alloc (.cells (pqC P al cl ag cg ao co aL cL) 68)=wA at *;obtain⟨x0,x1,x2,x3,x4,x5,x6,x7,x8,x9,x10,x11,x12,x13,x14,xf⟩:=hMA.all
  have c4:=h2.c4;go_quiet (fail);rename_i nq;have HSq:=ah (HSA.out.drewN nq);have hMHSq:=hMA.kp HSq.out.kp hgW;clear x0 x1 x2 x3 x4 x5 x6 x7 x8 x9 x10 x11 x12 x13 x14 xf c4;generalize wA.drewN nq=wq at *;obtain⟨x0,x1,x2,x3,x4,x5,x6,x7,x8,x9,x10,x11,x12,x13,x14,xf⟩:=hMHSq.all
  have HC:=ah (sV HSq.out hR hPA HPm.out ho HKd.out);simp only[pmC] at HC;go_wp2_with fail;refine (HC.out).mono ?_;rintro e w1 ⟨rfl,hs1⟩;have HS1:=ah hs1;clear hs1;have hM1:=hMA.kp HS1.out.kp hgW;obtain⟨_,_,_,_,_,_,_,_,_,_,_,_,_,_,_,_⟩:=hM1.all
  go_wp2_with fail;exact bodyPost_end (results_none rfl _ _ _) rfl ⟨rfl,by rw[HE.out];exact HK0.out _ _ HS1.out⟩
 ·cases ca:R.carries
  ·have HE:Hid (R.gq P=R):=by unfold Hid;rw[HE0.out,if_neg q1,ca];rfl
   clear HE0;go_enter Tryz.func49,Tryz.ntmps49;go_upto_region 2 with fail
   generalize w.alloc (.cells (pqC P al cl ag cg ao co aL cL) 68)=wA at *;obtain⟨x0,x1,x2,x3,x4,x5,x6,x7,x8,x9,x10,x11,x12,x13,x14,xf⟩:=hMA.all
   have c4:=h2.c4;go_quiet (fail);rename_i nq;have HSq:=ah (HSA.out.drewN nq);have hMHSq:=hMA.kp HSq.out.kp hgW;clear x0 x1 x2 x3 x4 x5 x6 x7 x8 x9 x10 x11 x12 x13 x14 xf c4;generalize wA.drewN nq=wq at *;obtain⟨x0,x1,x2,x3,x4,x5,x6,x7,x8,x9,x10,x11,x12,x13,x14,xf⟩:=hMHSq.all
   have HC:=ah (nZ HSq.out);rw[ca] at HC;go_wp2_with fail;refine (HC.out).mono ?_;rintro e w1 ⟨rfl,hs1⟩;have HS1:=ah hs1;clear hs1;have hM1:=hMA.kp HS1.out.kp hgW;obtain⟨_,_,_,_,_,_,_,_,_,_,_,_,_,_,_,_⟩:=hM1.all
   go_wp2_with fail;exact bodyPost_ret (results_none rfl _ _ _) rfl ⟨rfl,by rw[HE.out];exact HK0.out _ _ HS1.out⟩
  ·by_cases q2:P.epoch<R.epoch
   ·have HE:Hid (R.gq P=R.dD P):=by unfold Hid;rw[HE0.out,if_neg q1,ca,if_pos rfl,if_pos q2]
    clear HE0;go_enter Tryz.func49,Tryz.ntmps49;go_upto_region 2 with fail
    generalize w.alloc (.cells (pqC P al cl ag cg ao co aL cL) 68)=wA at *;obtain⟨x0,x1,x2,x3,x4,x5,x6,x7,x8,x9,x10,x11,x12,x13,x14,xf⟩:=hMA.all
    have c4:=h2.c4;go_quiet (fail);rename_i nq;have HSq:=ah (HSA.out.drewN nq);have hMHSq:=hMA.kp HSq.out.kp hgW;clear x0 x1 x2 x3 x4 x5 x6 x7 x8 x9 x10 x11 x12 x13 x14 xf c4;generalize wA.drewN nq=wq at *;obtain⟨x0,x1,x2,x3,x4,x5,x6,x7,x8,x9,x10,x11,x12,x13,x14,xf⟩:=hMHSq.all
    have HC:=ah (nZ HSq.out);rw[ca] at HC;go_wp2_with fail;refine (HC.out).mono ?_;rintro e w1 ⟨rfl,hs1⟩;have HS1:=ah hs1;clear hs1;have hM1:=hMA.kp HS1.out.kp hgW;obtain⟨_,_,_,_,_,_,_,_,_,_,_,_,_,_,_,_⟩:=hM1.all
    obtain⟨_,_,V1,q1,_,_⟩:=HS1.out
    have e1_4:=q1.c4;go_wp2_with fail;go_quiet (fail);rename_i nq;have HSr:=ah (HS1.out.drewN nq);have hMHSr:=hMA.kp HSr.out.kp hgW;clear x0 x1 x2 x3 x4 x5 x6 x7 x8 x9 x10 x11 x12 x13 x14 xf e1_4;generalize w1.drewN nq=wr at *;obtain⟨x0,x1,x2,x3,x4,x5,x6,x7,x8,x9,x10,x11,x12,x13,x14,xf⟩:=hMHSr.all
    have HD:=ah (lW HSr.out hR hPA (by omega))
    simp only[pmC] at HD;go_wp2_with fail;refine (HD.out).mono ?_;rintro e w2 ⟨rfl,hs2⟩;have HS2:=ah hs2;clear hs2;have hM2:=hMA.kp HS2.out.kp hgW;obtain⟨_,_,_,_,_,_,_,_,_,_,_,_,_,_,_,_⟩:=hM2.all
    go_wp2_with fail;exact bodyPost_end (results_none rfl _ _ _) rfl ⟨rfl,by rw[HE.out];exact HK0.out _ _ HS2.out⟩
   ·have HE:Hid (R.gq P=R.aT P):=by unfold Hid;rw[HE0.out,if_neg q1,ca,if_pos rfl,if_neg q2]
    clear HE0;go_enter Tryz.func49,Tryz.ntmps49;go_upto_region 2 with fail
    generalize w.alloc (.cells (pqC P al cl ag cg ao co aL cL) 68)=wA at *;obtain⟨x0,x1,x2,x3,x4,x5,x6,x7,x8,x9,x10,x11,x12,x13,x14,xf⟩:=hMA.all
    have c4:=h2.c4;go_quiet (fail);rename_i nq;have HSq:=ah (HSA.out.drewN nq);have hMHSq:=hMA.kp HSq.out.kp hgW;clear x0 x1 x2 x3 x4 x5 x6 x7 x8 x9 x10 x11 x12 x13 x14 xf c4;generalize wA.drewN nq=wq at *;obtain⟨x0,x1,x2,x3,x4,x5,x6,x7,x8,x9,x10,x11,x12,x13,x14,xf⟩:=hMHSq.all
    have HC:=ah (nZ HSq.out);rw[ca] at HC;go_wp2_with fail;refine (HC.out).mono ?_;rintro e w1 ⟨rfl,hs1⟩;have HS1:=ah hs1;clear hs1;have hM1:=hMA.kp HS1.out.kp hgW;obtain⟨_,_,_,_,_,_,_,_,_,_,_,_,_,_,_,_⟩:=hM1.all
    obtain⟨_,_,V1,q1,_,_⟩:=HS1.out
    have e1_4:=q1.c4;go_wp2_with fail;go_quiet (fail);rename_i nq;have HSr:=ah (HS1.out.drewN nq);have hMHSr:=hMA.kp HSr.out.kp hgW;clear x0 x1 x2 x3 x4 x5 x6 x7 x8 x9 x10 x11 x12 x13 x14 xf e1_4;generalize w1.drewN nq=wr at *;obtain⟨x0,x1,x2,x3,x4,x5,x6,x7,x8,x9,x10,x11,x12,x13,x14,xf⟩:=hMHSr.all
    have HD:=ah (qJ HSr.out hR hPA HPm.out (by omega) HKd.out)
    simp only[pmC] at HD;go_wp2_with fail;refine (HD.out).mono ?_;rintro e w2 ⟨rfl,hs2⟩;have HS2:=ah hs2;clear hs2;have hM2:=hMA.kp HS2.out.kp hgW;obtain⟨_,_,_,_,_,_,_,_,_,_,_,_,_,_,_,_⟩:=hM2.all
    go_wp2_with fail;exact bodyPost_end (results_none rfl _ _ _) rfl ⟨rfl,by rw[HE.out];exact HK0.out _ _ HS2.out⟩
end
end Go.Proofs.YtajakaadgagejaaGreatDoor
