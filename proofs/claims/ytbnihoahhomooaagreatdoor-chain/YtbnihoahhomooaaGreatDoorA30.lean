import Derived.Test.YtbnihoahhomooaaGreatDoorA19
import Derived.Test.YtbnihoahhomooaaGreatDoorA29
import Derived.Test.YtbnihoahhomooaaGreatDoorA28
set_option maxRecDepth 100000
set_option maxHeartbeats 8000000
set_option linter.all false
namespace Go.Proofs.YtbnihoahhomooaaGreatDoor
open Go.Value renaming int→I,slice→Y,string→Z,pointer→Zp
open Go.Ending renaming returned→Zr
open _root_.ByteArray renaming empty→Ze
open Go.IntKind renaming i64→J
open Option renaming none→O
open Go.RowKit
section
variable {w w0:World} {b bl:Nat} {W F:List Nat} {R:Rp} {V:Rv} {P:Pm} {vl vg vo vL:Value}
theorem wU (h:Rst w0 w b bl W F R) (hR:Ok R) (hP:dM w0 W F P vl vg vo vL) (hm:dQ R.n P) (ho:R.out.length≤400000)  :
  Calls Tryz.prog 96 #[Zp (some ⟨b,0,O⟩),.agg (pmC P vl vg vo vL)] w fun e w'=>e=Zr (.tuple #[])∧Rst w0 w' b bl W F (R.bY P):=by
 obtain⟨W1,F1,V1,al,cl,ag,cg,ao,co,aL,cL,rfl,rfl,rfl,rfl,hMA,hPA,hgW,h2,HSA,HK0⟩:=h.msg hP
 clear h hP;simp only[pmC];have HE:Hid (R.bY P=if R.mem P.frm then (if (P.kind==118)&&(R.want P.view).dG then (R.want P.view).count P else R.want P.view) else R):=rfl
 have HMem:=ah (fT HSA.out hR P.frm);have HGw:=ah (Rp.uH hR ⟨hm.v0,hm.v1⟩);have HPm:=ah hm;clear hm;cases hmem:R.mem P.frm
 ·rw[hmem] at HE HMem;go_enter Tryz.func96,Tryz.ntmps96;go_upto_region 1 with fail
  generalize w.alloc (.cells (pqC P al cl ag cg ao co aL cL) 68)=wA at *;obtain⟨x0,x1,x2,x3,x4,x5,x6,x7,x8,x9,x10,x11,x12,x13,x14,xf⟩:=hMA.all
  go_wp2_with fail;refine (HMem.out).mono ?_;rintro e w1 ⟨rfl,hs1⟩;have HS1:=ah hs1;clear hs1;have hM1:=hMA.kp HS1.out.kp hgW;obtain⟨_,_,_,_,_,_,_,_,_,_,_,_,_,_,_,_⟩:=hM1.all
  go_wp2;exact bodyPost_ret (results_none rfl _ _ _) rfl ⟨rfl,by rw[HE.out];exact HK0.out _ _ HS1.out⟩
 ·rw[hmem] at HE HMem;cases hkd:(P.kind==118)
  ·rw[hkd] at HE;go_enter Tryz.func96,Tryz.ntmps96;go_upto_region 1 with fail
   generalize w.alloc (.cells (pqC P al cl ag cg ao co aL cL) 68)=wA at *;obtain⟨x0,x1,x2,x3,x4,x5,x6,x7,x8,x9,x10,x11,x12,x13,x14,xf⟩:=hMA.all
   go_wp2_with fail;refine (HMem.out).mono ?_;rintro e w1 ⟨rfl,hs1⟩;have HS1:=ah hs1;clear hs1;have hM1:=hMA.kp HS1.out.kp hgW;obtain⟨_,_,_,_,_,_,_,_,_,_,_,_,_,_,_,_⟩:=hM1.all
   go_wp2_with fail;refine (Dy HS1.out hR P.view ⟨HPm.out.v0,HPm.out.v1⟩ (by omega)).mono ?_
   rintro e w2 ⟨rfl,hs2⟩;have HS2:=ah hs2;clear hs2;have hM2:=hMA.kp HS2.out.kp hgW;obtain⟨_,_,_,_,_,_,_,_,_,_,_,_,_,_,_,_⟩:=hM2.all
   go_wp2;exact bodyPost_end (results_none rfl _ _ _) rfl ⟨rfl,by rw[HE.out];exact HK0.out _ _ HS2.out⟩
  ·rw[hkd] at HE;cases hpr:(R.want P.view).dG
   focus
    rw[hpr] at HE
   rotate_left
   focus
    rw[hpr] at HE;have HKd:Hid (P.kind=118):=ah (by simpa using hkd)
   rotate_left
   all_goals
    go_enter Tryz.func96,Tryz.ntmps96;go_upto_region 1 with fail
    generalize w.alloc (.cells (pqC P al cl ag cg ao co aL cL) 68)=wA at *;obtain⟨x0,x1,x2,x3,x4,x5,x6,x7,x8,x9,x10,x11,x12,x13,x14,xf⟩:=hMA.all
    go_wp2_with fail;refine (HMem.out).mono ?_;rintro e w1 ⟨rfl,hs1⟩;have HS1:=ah hs1;clear hs1;have hM1:=hMA.kp HS1.out.kp hgW;obtain⟨_,_,_,_,_,_,_,_,_,_,_,_,_,_,_,_⟩:=hM1.all
    go_wp2_with fail;refine (Dy HS1.out hR P.view ⟨HPm.out.v0,HPm.out.v1⟩ (by omega)).mono ?_
    rintro e w2 ⟨rfl,hs2⟩;have HS2:=ah hs2;clear hs2;have hM2:=hMA.kp HS2.out.kp hgW;obtain⟨_,_,_,_,_,_,_,_,_,_,_,_,_,_,_,_⟩:=hM2.all
    go_wp2_with fail;have HP3:=ah (jr HS2.out HGw.out.ok);rw[hpr] at HP3;refine (HP3.out).mono ?_;rintro e w3 ⟨rfl,hs3⟩;have HS3:=ah hs3;clear hs3;have hM3:=hMA.kp HS3.out.kp hgW;obtain⟨_,_,_,_,_,_,_,_,_,_,_,_,_,_,_,_⟩:=hM3.all
    go_wp2_with fail
   ·exact bodyPost_end (results_none rfl _ _ _) rfl ⟨rfl,by rw[HE.out];exact HK0.out _ _ HS3.out⟩
   ·have HC:=ah (EW HS3.out HGw.out.ok hPA HKd.out (by rw[HGw.out.n];exact HPm.out) (Nat.le_trans HGw.out.out (by omega)))
    simp only[pmC] at HC;refine (HC.out).mono ?_;rintro e w4 ⟨rfl,hs4⟩;have HS4:=ah hs4;clear hs4;have hM4:=hMA.kp HS4.out.kp hgW;obtain⟨_,_,_,_,_,_,_,_,_,_,_,_,_,_,_,_⟩:=hM4.all
    go_wp2;exact bodyPost_end (results_none rfl _ _ _) rfl ⟨rfl,by rw[HE.out];exact HK0.out _ _ HS4.out⟩
theorem xX (h:Rst w0 w b bl W F R) (hR:Ok R) (hP:dM w0 W F P vl vg vo vL) (hm:dQ R.n P) (ho:R.out.length≤400000)  :
  Calls Tryz.prog 93 #[Zp (some ⟨b,0,O⟩),.agg (pmC P vl vg vo vL)] w fun e w'=>e=Zr (.tuple #[])∧Rst w0 w' b bl W F (R.bC P):=by
 obtain⟨W1,F1,V1,al,cl,ag,cg,ao,co,aL,cL,rfl,rfl,rfl,rfl,hMA,hPA,hgW,h2,HSA,HK0⟩:=h.msg hP
 clear h hP;simp only[pmC];have HE:Hid (R.bC P=if R.mem P.frm then (if P.kind=112∨P.kind=99 then R.bare P.frm 103 else if P.kind=104 then R.dP else if P.kind=118∧R.dG=true then R.count P else R) else R):=rfl
 have HMem:=ah (fT HSA.out hR P.frm);have HPm:=ah hm;clear hm;cases hmem:R.mem P.frm
 ·rw[hmem,if_neg (by decide)] at HE
  rw[hmem] at HMem;go_enter Tryz.func93,Tryz.ntmps93;go_upto_region 1 with fail
  generalize w.alloc (.cells (pqC P al cl ag cg ao co aL cL) 68)=wA at *;obtain⟨x0,x1,x2,x3,x4,x5,x6,x7,x8,x9,x10,x11,x12,x13,x14,xf⟩:=hMA.all
  go_wp2_with fail;refine (HMem.out).mono ?_;rintro e w1 ⟨rfl,hs1⟩;have HS1:=ah hs1;clear hs1;have hM1:=hMA.kp HS1.out.kp hgW;obtain⟨_,_,_,_,_,_,_,_,_,_,_,_,_,_,_,_⟩:=hM1.all
  go_wp2;exact bodyPost_ret (results_none rfl _ _ _) rfl ⟨rfl,by rw[HE.out];exact HK0.out _ _ HS1.out⟩
 ·rw[hmem,if_pos rfl] at HE;rw[hmem] at HMem;cases ka:(P.kind==112)
  ·cases kb:(P.kind==99)
   ·have HE1:Hid (R.bC P=if P.kind=104 then R.dP else if P.kind=118∧R.dG=true then R.count P else R):=by
     unfold Hid;rw[HE.out,if_neg (by simp at ka kb;omega)]
    clear HE;cases kc:(P.kind==104)
    ·have HE2:Hid (R.bC P=if P.kind=118∧R.dG=true then R.count P else R):=by
      unfold Hid;rw[HE1.out,if_neg (by simpa using kc)]
     clear HE1;cases kd:(P.kind==118)
     ·have HE:Hid (R.bC P=R):=by unfold Hid;rw[HE2.out,if_neg (fun q=>by simp at kd;exact kd q.1)]
      clear HE2;go_enter Tryz.func93,Tryz.ntmps93;go_upto_region 1 with fail
      generalize w.alloc (.cells (pqC P al cl ag cg ao co aL cL) 68)=wA at *;obtain⟨x0,x1,x2,x3,x4,x5,x6,x7,x8,x9,x10,x11,x12,x13,x14,xf⟩:=hMA.all
      go_wp2_with fail;refine (HMem.out).mono ?_;rintro e w1 ⟨rfl,hs1⟩;have HS1:=ah hs1;clear hs1;have hM1:=hMA.kp HS1.out.kp hgW;obtain⟨_,_,_,_,_,_,_,_,_,_,_,_,_,_,_,_⟩:=hM1.all
      go_wp2;exact bodyPost_end (results_none rfl _ _ _) rfl ⟨rfl,by rw[HE.out];exact HK0.out _ _ HS1.out⟩
     ·cases hpr:R.dG
      focus
       have HE:Hid (R.bC P=R):=by unfold Hid;rw[HE2.out,if_neg (fun q=>by rw[hpr] at q;exact absurd q.2 (by decide))]
      rotate_left
      focus
       have HKd:Hid (P.kind=118):=ah (by simpa using kd)
       have HE:Hid (R.bC P=R.count P):=by unfold Hid;rw[HE2.out,if_pos ⟨HKd.out,hpr⟩]
      rotate_left
      all_goals
       clear HE2;go_enter Tryz.func93,Tryz.ntmps93;go_upto_region 1 with fail
       generalize w.alloc (.cells (pqC P al cl ag cg ao co aL cL) 68)=wA at *;obtain⟨x0,x1,x2,x3,x4,x5,x6,x7,x8,x9,x10,x11,x12,x13,x14,xf⟩:=hMA.all
       go_wp2_with fail;refine (HMem.out).mono ?_;rintro e w1 ⟨rfl,hs1⟩;have HS1:=ah hs1;clear hs1;have hM1:=hMA.kp HS1.out.kp hgW;obtain⟨_,_,_,_,_,_,_,_,_,_,_,_,_,_,_,_⟩:=hM1.all
       go_wp2_with fail;have HP2:=ah (jr HS1.out hR);rw[hpr] at HP2;refine (HP2.out).mono ?_;rintro e w2 ⟨rfl,hs2⟩;have HS2:=ah hs2;clear hs2;have hM2:=hMA.kp HS2.out.kp hgW;obtain⟨_,_,_,_,_,_,_,_,_,_,_,_,_,_,_,_⟩:=hM2.all
       go_wp2_with fail
      ·exact bodyPost_end (results_none rfl _ _ _) rfl ⟨rfl,by rw[HE.out];exact HK0.out _ _ HS2.out⟩
      ·have HC:=ah (EW HS2.out hR hPA HKd.out HPm.out (by omega))
       simp only[pmC] at HC;refine (HC.out).mono ?_;rintro e w3 ⟨rfl,hs3⟩;have HS3:=ah hs3;clear hs3;have hM3:=hMA.kp HS3.out.kp hgW;obtain⟨_,_,_,_,_,_,_,_,_,_,_,_,_,_,_,_⟩:=hM3.all
       go_wp2;exact bodyPost_end (results_none rfl _ _ _) rfl ⟨rfl,by rw[HE.out];exact HK0.out _ _ HS3.out⟩
    ·have HE:Hid (R.bC P=R.dP):=by
      unfold Hid;rw[HE1.out,if_pos (by simpa using kc)]
     clear HE1;go_enter Tryz.func93,Tryz.ntmps93;go_upto_region 1 with fail
     generalize w.alloc (.cells (pqC P al cl ag cg ao co aL cL) 68)=wA at *;obtain⟨x0,x1,x2,x3,x4,x5,x6,x7,x8,x9,x10,x11,x12,x13,x14,xf⟩:=hMA.all
     go_wp2_with fail;refine (HMem.out).mono ?_;rintro e w1 ⟨rfl,hs1⟩;have HS1:=ah hs1;clear hs1;have hM1:=hMA.kp HS1.out.kp hgW;obtain⟨_,_,_,_,_,_,_,_,_,_,_,_,_,_,_,_⟩:=hM1.all
     go_wp2_with fail;refine (uZ HS1.out hR (by omega)).mono ?_
     rintro e w2 ⟨rfl,hs2⟩;have HS2:=ah hs2;clear hs2;have hM2:=hMA.kp HS2.out.kp hgW;obtain⟨_,_,_,_,_,_,_,_,_,_,_,_,_,_,_,_⟩:=hM2.all
     go_wp2;exact bodyPost_end (results_none rfl _ _ _) rfl ⟨rfl,by rw[HE.out];exact HK0.out _ _ HS2.out⟩
   ·have HE1:Hid (R.bC P=R.bare P.frm 103):=by
     unfold Hid;rw[HE.out,if_pos (.inr (by simpa using kb))]
    clear HE;have HE:=ah HE1.out;clear HE1;go_enter Tryz.func93,Tryz.ntmps93;go_upto_region 1 with fail
    generalize w.alloc (.cells (pqC P al cl ag cg ao co aL cL) 68)=wA at *;obtain⟨x0,x1,x2,x3,x4,x5,x6,x7,x8,x9,x10,x11,x12,x13,x14,xf⟩:=hMA.all
    go_wp2_with fail;refine (HMem.out).mono ?_;rintro e w1 ⟨rfl,hs1⟩;have HS1:=ah hs1;clear hs1;have hM1:=hMA.kp HS1.out.kp hgW;obtain⟨_,_,_,_,_,_,_,_,_,_,_,_,_,_,_,_⟩:=hM1.all
    go_wp2_with fail;refine (fU HS1.out hR P.frm 103 (by decide) (by omega)).mono ?_
    rintro e w2 ⟨rfl,hs2⟩;have HS2:=ah hs2;clear hs2;have hM2:=hMA.kp HS2.out.kp hgW;obtain⟨_,_,_,_,_,_,_,_,_,_,_,_,_,_,_,_⟩:=hM2.all
    go_wp2;exact bodyPost_end (results_none rfl _ _ _) rfl ⟨rfl,by rw[HE.out];exact HK0.out _ _ HS2.out⟩
  ·have HE1:Hid (R.bC P=R.bare P.frm 103):=by
    unfold Hid;rw[HE.out,if_pos (.inl (by simpa using ka))]
   clear HE;have HE:=ah HE1.out;clear HE1;go_enter Tryz.func93,Tryz.ntmps93;go_upto_region 1 with fail
   generalize w.alloc (.cells (pqC P al cl ag cg ao co aL cL) 68)=wA at *;obtain⟨x0,x1,x2,x3,x4,x5,x6,x7,x8,x9,x10,x11,x12,x13,x14,xf⟩:=hMA.all
   go_wp2_with fail;refine (HMem.out).mono ?_;rintro e w1 ⟨rfl,hs1⟩;have HS1:=ah hs1;clear hs1;have hM1:=hMA.kp HS1.out.kp hgW;obtain⟨_,_,_,_,_,_,_,_,_,_,_,_,_,_,_,_⟩:=hM1.all
   go_wp2_with fail;refine (fU HS1.out hR P.frm 103 (by decide) (by omega)).mono ?_
   rintro e w2 ⟨rfl,hs2⟩;have HS2:=ah hs2;clear hs2;have hM2:=hMA.kp HS2.out.kp hgW;obtain⟨_,_,_,_,_,_,_,_,_,_,_,_,_,_,_,_⟩:=hM2.all
   go_wp2;exact bodyPost_end (results_none rfl _ _ _) rfl ⟨rfl,by rw[HE.out];exact HK0.out _ _ HS2.out⟩
theorem mY (h:Rst w0 w b bl W F R) (hR:Ok R) (hP:dM w0 W F P vl vg vo vL) (ho:R.out.length≤900000)  :
  Calls Tryz.prog 85 #[Zp (some ⟨b,0,O⟩),.agg (pmC P vl vg vo vL)] w fun e w'=>e=Zr (.tuple #[])∧Rst w0 w' b bl W F (R.bX P):=by
 obtain⟨W1,F1,V1,al,cl,ag,cg,ao,co,aL,cL,rfl,rfl,rfl,rfl,hMA,hPA,hgW,h2,HSA,HK0⟩:=h.msg hP
 clear h hP;simp only[pmC];have HE:Hid (R.bX P=if R.status==1 then R.tell P.frm else if P.epoch<R.epoch then R.kM P.frm else if Rp.qG P&&R.mem P.frm then R.bare P.frm 104 else R):=rfl
 cases hs:(R.status==1)
 ·rw[hs,if_neg (by decide)] at HE
  by_cases hq:P.epoch<R.epoch
  focus
   rw[if_pos hq] at HE
  rotate_left
  focus
   rw[if_neg hq] at HE;have HCh:Hid (∀ w,Calls Tryz.prog 95 #[.agg (pqC P al cl ag cg ao co aL cL)] w fun e w'=>e=Zr (.bool (Rp.qG P))∧Below w.heap.size w w'):=fun w=>ji P _ _ _ _ w
  rotate_left
  all_goals
   go_enter Tryz.func85,Tryz.ntmps85;go_upto_region 1 with fail
   generalize w.alloc (.cells (pqC P al cl ag cg ao co aL cL) 68)=wA at *;obtain⟨x0,x1,x2,x3,x4,x5,x6,x7,x8,x9,x10,x11,x12,x13,x14,xf⟩:=hMA.all
   have c3:=h2.c3;have c4:=h2.c4;go_wp2_with fail;go_quiet (fail);rename_i nq;have HSq:=ah (HSA.out.drewN nq);have hMq:=hMA.kp HSq.out.kp hgW;clear x0 x1 x2 x3 x4 x5 x6 x7 x8 x9 x10 x11 x12 x13 x14 xf c3 c4;generalize wA.drewN nq=wq at *;obtain⟨x0,x1,x2,x3,x4,x5,x6,x7,x8,x9,x10,x11,x12,x13,x14,xf⟩:=hMq.all
   go_wp2_with fail
  ·refine (wW HSq.out hR P.frm ho).mono ?_;rintro e w1 ⟨rfl,hs1⟩;have HS1:=ah hs1;clear hs1;have hM1:=hMA.kp HS1.out.kp hgW;obtain⟨_,_,_,_,_,_,_,_,_,_,_,_,_,_,_,_⟩:=hM1.all
   go_wp2;exact bodyPost_end (results_none rfl _ _ _) rfl ⟨rfl,by rw[HE.out];exact HK0.out _ _ HS1.out⟩
  ·refine (HCh.out _).mono ?_;rintro e w1 ⟨rfl,hb1⟩;have HS1:=ah (HSq.out.below hb1);have hM1:=hMA.kp HS1.out.kp hgW;clear x0 x1 x2 x3 x4 x5 x6 x7 x8 x9 x10 x11 x12 x13 x14 xf;obtain⟨x0,x1,x2,x3,x4,x5,x6,x7,x8,x9,x10,x11,x12,x13,x14,xf⟩:=hM1.all
   clear hb1;cases hc:Rp.qG P
   ·rw[hc,Bool.false_and,if_neg (by decide)] at HE
    go_wp2;exact bodyPost_end (results_none rfl _ _ _) rfl ⟨rfl,by rw[HE.out];exact HK0.out _ _ HS1.out⟩
   ·rw[hc,Bool.true_and] at HE;have HM2:=ah (fT HS1.out hR P.frm);cases hmem:R.mem P.frm
    focus
     rw[hmem,if_neg (by decide)] at HE
    rotate_left
    focus
     rw[hmem,if_pos rfl] at HE
    rotate_left
    all_goals
     rw[hmem] at HM2;go_wp2_with fail;refine (HM2.out).mono ?_;rintro e w2 ⟨rfl,hs2⟩;have HS2:=ah hs2;clear hs2;have hM2:=hMA.kp HS2.out.kp hgW;obtain⟨_,_,_,_,_,_,_,_,_,_,_,_,_,_,_,_⟩:=hM2.all
     go_wp2_with fail
    ·exact bodyPost_end (results_none rfl _ _ _) rfl ⟨rfl,by rw[HE.out];exact HK0.out _ _ HS2.out⟩
    ·refine (fU HS2.out hR P.frm 104 (by decide) ho).mono ?_
     rintro e w3 ⟨rfl,hs3⟩;have HS3:=ah hs3;clear hs3;have hM3:=hMA.kp HS3.out.kp hgW;obtain⟨_,_,_,_,_,_,_,_,_,_,_,_,_,_,_,_⟩:=hM3.all
     go_wp2;exact bodyPost_end (results_none rfl _ _ _) rfl ⟨rfl,by rw[HE.out];exact HK0.out _ _ HS3.out⟩
 ·rw[hs,if_pos rfl] at HE;go_enter Tryz.func85,Tryz.ntmps85;go_upto_region 1 with fail
  generalize w.alloc (.cells (pqC P al cl ag cg ao co aL cL) 68)=wA at *;obtain⟨x0,x1,x2,x3,x4,x5,x6,x7,x8,x9,x10,x11,x12,x13,x14,xf⟩:=hMA.all
  have c3:=h2.c3;have c4:=h2.c4;go_wp2_with fail;refine (rY HSA.out hR P.frm ho).mono ?_;rintro e w1 ⟨rfl,hs1⟩;have HS1:=ah hs1;clear hs1;have hM1:=hMA.kp HS1.out.kp hgW;obtain⟨_,_,_,_,_,_,_,_,_,_,_,_,_,_,_,_⟩:=hM1.all
  go_wp2;exact bodyPost_end (results_none rfl _ _ _) rfl ⟨rfl,by rw[HE.out];exact HK0.out _ _ HS1.out⟩
end
section
variable {w w0:World} {b bl:Nat} {W F:List Nat} {R:Rp} {V:Rv} {P:Pm} {vl vg vo vL:Value}
theorem Dv (h:Rst w0 w b bl W F R) (hR:Ok R) (hP:dM w0 W F P vl vg vo vL) (hm:dQ R.n P)  :
  Calls Tryz.prog 51 #[Zp (some ⟨b,0,O⟩),.agg (pmC P vl vg vo vL)] w fun e w'=>e=Zr (.tuple #[])∧Rst w0 w' b bl W F (R.eB P):=by
 obtain⟨W1,F1,V1,al,cl,ag,cg,ao,co,aL,cL,rfl,rfl,rfl,rfl,hMA,hPA,hgW,h2,HSA,HK0⟩:=h.msg hP
 clear h hP;simp only[pmC];have HE0:Hid (R.eB P=if (R.status==5)&&(P.epoch==R.epoch)&&R.mem P.frm then (if eZ R.grp<(Rp.starters (R.started.set P.frm.toNat true):Int) then { R with started:=R.started.set P.frm.toNat true,status:=4 } else { R with started:=R.started.set P.frm.toNat true }) else R):=rfl
 have f0:=hm.f0;have f7:P.frm<7:=by have:=hm.f1;have:=hR.n7;omega
 have hg5:=hR.g.1;have HMq:Hid (∀ n,Calls Tryz.prog 17 #[Zp (some ⟨b,0,O⟩),I J P.frm] ((w.alloc (.cells (pqC P al cl ag cg ao co aL cL) 68)).drewN n) fun e w'=>e=Zr (.bool (R.mem P.frm))∧w'=(w.alloc (.cells (pqC P al cl ag cg ao co aL cL) 68)).drewN n):=fun n=>lV (h2.drewN n) hR P.frm
 clear hm;cases hs:(R.status==5)
 ·have hne:(R.status != 5)=true:=by simp[bne,hs]
  have HE:Hid (R.eB P=R):=by unfold Hid;rw[HE0.out,hs];rfl
  clear HE0;go_enter Tryz.func51,Tryz.ntmps51;go_upto_region 1 with fail
  generalize w.alloc (.cells (pqC P al cl ag cg ao co aL cL) 68)=wA at *;obtain⟨x0,x1,x2,x3,x4,x5,x6,x7,x8,x9,x10,x11,x12,x13,x14,xf⟩:=hMA.all
  have c3:=h2.c3;have c4:=h2.c4;go_wp2_with fail;go_quiet ((go_at_call 17;exact Calls.quiet_of_same (HMq.out _)))
  rename_i nq;have HSq:=ah (HSA.out.drewN nq);have hMHSq:=hMA.kp HSq.out.kp hgW;clear x0 x1 x2 x3 x4 x5 x6 x7 x8 x9 x10 x11 x12 x13 x14 xf c3 c4;generalize wA.drewN nq=wq at *;obtain⟨x0,x1,x2,x3,x4,x5,x6,x7,x8,x9,x10,x11,x12,x13,x14,xf⟩:=hMHSq.all
  go_wp2;exact bodyPost_ret (results_none rfl _ _ _) rfl ⟨rfl,by rw[HE.out];exact HK0.out _ _ HSq.out⟩
 ·have hne:(R.status != 5)=false:=by simp[bne,hs]
  cases ep:(P.epoch==R.epoch)
  ·have hne2:(P.epoch != R.epoch)=true:=by simp[bne,ep]
   have HE:Hid (R.eB P=R):=by unfold Hid;rw[HE0.out,hs,ep];rfl
   clear HE0;go_enter Tryz.func51,Tryz.ntmps51;go_upto_region 1 with fail
   generalize w.alloc (.cells (pqC P al cl ag cg ao co aL cL) 68)=wA at *;obtain⟨x0,x1,x2,x3,x4,x5,x6,x7,x8,x9,x10,x11,x12,x13,x14,xf⟩:=hMA.all
   have c3:=h2.c3;have c4:=h2.c4;go_wp2_with fail;go_quiet ((go_at_call 17;exact Calls.quiet_of_same (HMq.out _)))
   rename_i nq;have HSq:=ah (HSA.out.drewN nq);have hMHSq:=hMA.kp HSq.out.kp hgW;clear x0 x1 x2 x3 x4 x5 x6 x7 x8 x9 x10 x11 x12 x13 x14 xf c3 c4;generalize wA.drewN nq=wq at *;obtain⟨x0,x1,x2,x3,x4,x5,x6,x7,x8,x9,x10,x11,x12,x13,x14,xf⟩:=hMHSq.all
   go_wp2;exact bodyPost_ret (results_none rfl _ _ _) rfl ⟨rfl,by rw[HE.out];exact HK0.out _ _ HSq.out⟩
  ·have hne2:(P.epoch != R.epoch)=false:=by simp[bne,ep]
   cases hmem:R.mem P.frm
   focus
    have HE:Hid (R.eB P=R):=by unfold Hid;rw[HE0.out,hs,ep,hmem];rfl
   rotate_left
   focus
    have HE1:Hid (R.eB P=if eZ R.grp<(Rp.starters (R.started.set P.frm.toNat true):Int) then { R with started:=R.started.set P.frm.toNat true,status:=4 } else { R with started:=R.started.set P.frm.toNat true }):=by unfold Hid;rw[HE0.out,hs,ep,hmem];rfl
   rotate_left
   all_goals
    rw[hmem] at HMq;clear HE0;go_enter Tryz.func51,Tryz.ntmps51;go_upto_region 1 with fail
    generalize w.alloc (.cells (pqC P al cl ag cg ao co aL cL) 68)=wA at *;obtain⟨x0,x1,x2,x3,x4,x5,x6,x7,x8,x9,x10,x11,x12,x13,x14,xf⟩:=hMA.all
    have c3:=h2.c3;have c4:=h2.c4;go_wp2_with fail;go_quiet ((go_at_call 17;exact Calls.quiet_of_same (HMq.out _)))
    rename_i nq;have HSq:=ah (HSA.out.drewN nq);have hMHSq:=hMA.kp HSq.out.kp hgW;clear x0 x1 x2 x3 x4 x5 x6 x7 x8 x9 x10 x11 x12 x13 x14 xf c3 c4;generalize wA.drewN nq=wq at *;obtain⟨x0,x1,x2,x3,x4,x5,x6,x7,x8,x9,x10,x11,x12,x13,x14,xf⟩:=hMHSq.all
   ·go_wp2;exact bodyPost_ret (results_none rfl _ _ _) rfl ⟨rfl,by rw[HE.out];exact HK0.out _ _ HSq.out⟩
   ·obtain⟨WQ,FQ,VQ,hQ,kQ,mQ⟩:=HSq.out
    have hst:=hQ.st;have ca:∃ v,wq.cell? ⟨b,64+P.frm.toNat,O⟩=some v:=⟨_,hQ.cst P.frm.toNat (by omega)⟩
    obtain⟨va,ca⟩:=ca
    have cf:=hQ.free (64+P.frm.toNat);have HS9:Hid (Rst wA (wq.setCell ⟨b,64+P.frm.toNat,O⟩ (.bool true)) b bl W1 F1 { R with started:=R.started.set P.frm.toNat true }):=Rst.step kQ mQ (Rst.of (hQ.setSt P.frm.toNat (by omega) true) (hQ.qo _ _))
    clear hQ kQ mQ hst;go_upto_region 2 with fail
    go_cut [] from 4 (fun wx=>Rst wA wx b bl W1 F1 { R with started:=R.started.set P.frm.toNat true })
    case first =>
     go_region
     all_goals go_wp2_with fail
     all_goals go_meet
     all_goals exact HS9.out.drew
    case rest =>
     have HSs:=ah hcut;obtain⟨w9,Hw9⟩:∃ x,x=wc:=⟨_,rfl⟩
     subst Hw9;obtain⟨WS,FSs,VS,hS,kS,mS⟩:=HSs.out
     have c7:=hS.c7;obtain⟨a7,cp7,hv7⟩:=hS.g7
     have hgI:=hS.grp;simp only at hv7 hgI
     rw[hv7] at c7 hgI;have HFa:Hid (∀ n,Calls Tryz.prog 90 #[Y a7 R.grp.length cp7] (w9.drewN n) fun e w'=>e=Zr (I J (eZ R.grp))∧w'=w9.drewN n):=fun n=>pO _ R.grp _ (hgI.below (below_drewN (Below.refl _ _) n)) (by omega)
     have HSt:Hid (∀ n,Calls Tryz.prog 89 #[Zp (some ⟨b,0,O⟩)] (w9.drewN n) fun e w'=>e=Zr (I J (Rp.starters (R.started.set P.frm.toNat true):Int))∧w'=w9.drewN n):=fun n=>Dq (hS.drewN n)
     clear hcut x0 x1 x2 x3 x4 x5 x6 x7 x8 x9 x10 x11 x12 x13 x14 xf ca cf hS kS mS hgI;generalize Rp.starters (R.started.set P.frm.toNat true)=st at *;by_cases hq:eZ R.grp<(st:Int)
     focus
      have HE:=ah HE1.out;rw[if_pos hq] at HE
     rotate_left
     focus
      have HE:=ah HE1.out;rw[if_neg hq] at HE
     rotate_left
     all_goals
      go_wp2_with fail;go_quiet (first|(go_at_call 90;exact Calls.quiet_of_same (HFa.out _))|(go_at_call 89;exact Calls.quiet_of_same (HSt.out _)))
      rename_i nq
     ·have HSt2:=ah (HSs.out.drewN nq);obtain⟨WT,FT,VT,hT,kT,mT⟩:=HSt2.out
      have t3:=hT.c3;have tf3:=hT.free 3;have HS10:Hid (Rst wA _ b bl W1 F1 { R with started:=R.started.set P.frm.toNat true,status:=4 }):=Rst.step kT mT (Rst.of (hT.iW 4) (hT.qo _ _))
      clear hT kT mT c7;generalize w9.drewN nq=w10 at *;go_wp2;exact bodyPost_end (results_none rfl _ _ _) rfl ⟨rfl,by rw[HE.out];exact HK0.out _ _ HS10.out⟩
     ·have HS10:=ah (HSs.out.drewN nq);go_wp2;exact bodyPost_end (results_none rfl _ _ _) rfl ⟨rfl,by rw[HE.out];exact HK0.out _ _ HS10.out⟩
theorem Br (h:Rst w0 w b bl W F R) (hR:Ok R) (hP:dM w0 W F P vl vg vo vL) (hm:dQ R.n P) (ho:R.out.length≤400000)  :
  Calls Tryz.prog 94 #[Zp (some ⟨b,0,O⟩),.agg (pmC P vl vg vo vL)] w fun e w'=>e=Zr (.tuple #[])∧Rst w0 w' b bl W F (R.bV P):=by
 obtain⟨W1,F1,V1,al,cl,ag,cg,ao,co,aL,cL,rfl,rfl,rfl,rfl,hMA,hPA,hgW,h2,HSA,HK0⟩:=h.msg hP
 clear h hP;simp only[pmC];have HE0:Hid (R.bV P=if P.kind=103 then R.tell P.frm else if R.mem P.frm then (if P.kind=112 then R.dK P else if P.kind=99 then R.dV P else if P.kind=107 then R.iw P else if P.kind=104∨P.kind=118 then R.tell P.frm else R) else R):=rfl
 have HPm:=ah hm;clear hm;cases k1:(P.kind==103)
 ·have HM:=ah (fT HSA.out hR P.frm);cases hmem:R.mem P.frm
  ·rw[hmem] at HM;have HE:Hid (R.bV P=R):=by unfold Hid;rw[HE0.out,if_neg (by simpa using k1),hmem,if_neg (by decide)]
   clear HE0;go_enter Tryz.func94,Tryz.ntmps94;go_upto_region 1 with fail
   generalize w.alloc (.cells (pqC P al cl ag cg ao co aL cL) 68)=wA at *;obtain⟨x0,x1,x2,x3,x4,x5,x6,x7,x8,x9,x10,x11,x12,x13,x14,xf⟩:=hMA.all
   go_wp2_with fail;refine (HM.out).mono ?_;rintro e w1 ⟨rfl,hs1⟩;have HS1:=ah hs1;clear hs1;have hM1:=hMA.kp HS1.out.kp hgW;obtain⟨_,_,_,_,_,_,_,_,_,_,_,_,_,_,_,_⟩:=hM1.all
   go_wp2;exact bodyPost_ret (results_none rfl _ _ _) rfl ⟨rfl,by rw[HE.out];exact HK0.out _ _ HS1.out⟩
  ·rw[hmem] at HM;cases k2:(P.kind==112)
   ·cases k3:(P.kind==99)
    ·cases k4:(P.kind==107)
     ·cases k5:(P.kind==104)
      ·cases k6:(P.kind==118)
       focus
        have HE:Hid (R.bV P=R):=by unfold Hid;rw[HE0.out,if_neg (by simpa using k1),hmem,if_pos rfl,if_neg (by simpa using k2),if_neg (by simpa using k3),if_neg (by simpa using k4),if_neg (by simp at k5 k6;omega)]
       rotate_left
       focus
        have HE:Hid (R.bV P=R.tell P.frm):=by unfold Hid;rw[HE0.out,if_neg (by simpa using k1),hmem,if_pos rfl,if_neg (by simpa using k2),if_neg (by simpa using k3),if_neg (by simpa using k4),if_pos (.inr (by simpa using k6))]
       rotate_left
       all_goals
        clear HE0;go_enter Tryz.func94,Tryz.ntmps94;go_upto_region 1 with fail
        generalize w.alloc (.cells (pqC P al cl ag cg ao co aL cL) 68)=wA at *;obtain⟨x0,x1,x2,x3,x4,x5,x6,x7,x8,x9,x10,x11,x12,x13,x14,xf⟩:=hMA.all
        go_wp2_with fail;refine (HM.out).mono ?_;rintro e w1 ⟨rfl,hs1⟩;have HS1:=ah hs1;clear hs1;have hM1:=hMA.kp HS1.out.kp hgW;obtain⟨_,_,_,_,_,_,_,_,_,_,_,_,_,_,_,_⟩:=hM1.all
        go_wp2_with fail
       ·exact bodyPost_end (results_none rfl _ _ _) rfl ⟨rfl,by rw[HE.out];exact HK0.out _ _ HS1.out⟩
       ·refine (rY HS1.out hR P.frm (by omega)).mono ?_
        rintro e w2 ⟨rfl,hs2⟩;have HS2:=ah hs2;clear hs2;have hM2:=hMA.kp HS2.out.kp hgW;obtain⟨_,_,_,_,_,_,_,_,_,_,_,_,_,_,_,_⟩:=hM2.all
        go_wp2;exact bodyPost_end (results_none rfl _ _ _) rfl ⟨rfl,by rw[HE.out];exact HK0.out _ _ HS2.out⟩
      ·have HE:Hid (R.bV P=R.tell P.frm):=by unfold Hid;rw[HE0.out,if_neg (by simpa using k1),hmem,if_pos rfl,if_neg (by simpa using k2),if_neg (by simpa using k3),if_neg (by simpa using k4),if_pos (.inl (by simpa using k5))]
       clear HE0;go_enter Tryz.func94,Tryz.ntmps94;go_upto_region 1 with fail
       generalize w.alloc (.cells (pqC P al cl ag cg ao co aL cL) 68)=wA at *;obtain⟨x0,x1,x2,x3,x4,x5,x6,x7,x8,x9,x10,x11,x12,x13,x14,xf⟩:=hMA.all
       go_wp2_with fail;refine (HM.out).mono ?_;rintro e w1 ⟨rfl,hs1⟩;have HS1:=ah hs1;clear hs1;have hM1:=hMA.kp HS1.out.kp hgW;obtain⟨_,_,_,_,_,_,_,_,_,_,_,_,_,_,_,_⟩:=hM1.all
       go_wp2_with fail;refine (rY HS1.out hR P.frm (by omega)).mono ?_
       rintro e w2 ⟨rfl,hs2⟩;have HS2:=ah hs2;clear hs2;have hM2:=hMA.kp HS2.out.kp hgW;obtain⟨_,_,_,_,_,_,_,_,_,_,_,_,_,_,_,_⟩:=hM2.all
       go_wp2;exact bodyPost_end (results_none rfl _ _ _) rfl ⟨rfl,by rw[HE.out];exact HK0.out _ _ HS2.out⟩
     ·have HE:Hid (R.bV P=R.iw P):=by unfold Hid;rw[HE0.out,if_neg (by simpa using k1),hmem,if_pos rfl,if_neg (by simpa using k2),if_neg (by simpa using k3),if_pos (by simpa using k4)]
      clear HE0;go_enter Tryz.func94,Tryz.ntmps94;go_upto_region 1 with fail
      generalize w.alloc (.cells (pqC P al cl ag cg ao co aL cL) 68)=wA at *;obtain⟨x0,x1,x2,x3,x4,x5,x6,x7,x8,x9,x10,x11,x12,x13,x14,xf⟩:=hMA.all
      go_wp2_with fail;refine (HM.out).mono ?_;rintro e w1 ⟨rfl,hs1⟩;have HS1:=ah hs1;clear hs1;have hM1:=hMA.kp HS1.out.kp hgW;obtain⟨_,_,_,_,_,_,_,_,_,_,_,_,_,_,_,_⟩:=hM1.all
      have HC:=ah (G6 HS1.out hR hPA HPm.out (by omega))
      simp only[pmC] at HC;go_wp2_with fail;refine (HC.out).mono ?_;rintro e w2 ⟨rfl,hs2⟩;have HS2:=ah hs2;clear hs2;have hM2:=hMA.kp HS2.out.kp hgW;obtain⟨_,_,_,_,_,_,_,_,_,_,_,_,_,_,_,_⟩:=hM2.all
      go_wp2;exact bodyPost_end (results_none rfl _ _ _) rfl ⟨rfl,by rw[HE.out];exact HK0.out _ _ HS2.out⟩
    ·have HE:Hid (R.bV P=R.dV P):=by unfold Hid;rw[HE0.out,if_neg (by simpa using k1),hmem,if_pos rfl,if_neg (by simpa using k2),if_pos (by simpa using k3)]
     clear HE0;go_enter Tryz.func94,Tryz.ntmps94;go_upto_region 1 with fail
     generalize w.alloc (.cells (pqC P al cl ag cg ao co aL cL) 68)=wA at *;obtain⟨x0,x1,x2,x3,x4,x5,x6,x7,x8,x9,x10,x11,x12,x13,x14,xf⟩:=hMA.all
     go_wp2_with fail;refine (HM.out).mono ?_;rintro e w1 ⟨rfl,hs1⟩;have HS1:=ah hs1;clear hs1;have hM1:=hMA.kp HS1.out.kp hgW;obtain⟨_,_,_,_,_,_,_,_,_,_,_,_,_,_,_,_⟩:=hM1.all
     have HC:=ah (Bp HS1.out hR hPA (by omega))
     simp only[pmC] at HC;go_wp2_with fail;refine (HC.out).mono ?_;rintro e w2 ⟨rfl,hs2⟩;have HS2:=ah hs2;clear hs2;have hM2:=hMA.kp HS2.out.kp hgW;obtain⟨_,_,_,_,_,_,_,_,_,_,_,_,_,_,_,_⟩:=hM2.all
     go_wp2;exact bodyPost_end (results_none rfl _ _ _) rfl ⟨rfl,by rw[HE.out];exact HK0.out _ _ HS2.out⟩
   ·have HE:Hid (R.bV P=R.dK P):=by unfold Hid;rw[HE0.out,if_neg (by simpa using k1),hmem,if_pos rfl,if_pos (by simpa using k2)]
    clear HE0;go_enter Tryz.func94,Tryz.ntmps94;go_upto_region 1 with fail
    generalize w.alloc (.cells (pqC P al cl ag cg ao co aL cL) 68)=wA at *;obtain⟨x0,x1,x2,x3,x4,x5,x6,x7,x8,x9,x10,x11,x12,x13,x14,xf⟩:=hMA.all
    go_wp2_with fail;have HKd:Hid (P.kind=112):=ah (by simpa using k2)
    refine (HM.out).mono ?_;rintro e w1 ⟨rfl,hs1⟩;have HS1:=ah hs1;clear hs1;have hM1:=hMA.kp HS1.out.kp hgW;obtain⟨_,_,_,_,_,_,_,_,_,_,_,_,_,_,_,_⟩:=hM1.all
    have HC:=ah (Du HS1.out hR hPA HPm.out (by omega) HKd.out)
    simp only[pmC] at HC;go_wp2_with fail;refine (HC.out).mono ?_;rintro e w2 ⟨rfl,hs2⟩;have HS2:=ah hs2;clear hs2;have hM2:=hMA.kp HS2.out.kp hgW;obtain⟨_,_,_,_,_,_,_,_,_,_,_,_,_,_,_,_⟩:=hM2.all
    go_wp2;exact bodyPost_end (results_none rfl _ _ _) rfl ⟨rfl,by rw[HE.out];exact HK0.out _ _ HS2.out⟩
 ·have HE:Hid (R.bV P=R.tell P.frm):=by unfold Hid;rw[HE0.out,if_pos (by simpa using k1)]
  clear HE0;go_enter Tryz.func94,Tryz.ntmps94;go_upto_region 1 with fail
  generalize w.alloc (.cells (pqC P al cl ag cg ao co aL cL) 68)=wA at *;obtain⟨x0,x1,x2,x3,x4,x5,x6,x7,x8,x9,x10,x11,x12,x13,x14,xf⟩:=hMA.all
  go_wp2_with fail;refine (rY HSA.out hR P.frm (by omega)).mono ?_
  rintro e w1 ⟨rfl,hs1⟩;have HS1:=ah hs1;clear hs1;have hM1:=hMA.kp HS1.out.kp hgW;obtain⟨_,_,_,_,_,_,_,_,_,_,_,_,_,_,_,_⟩:=hM1.all
  go_wp2;exact bodyPost_ret (results_none rfl _ _ _) rfl ⟨rfl,by rw[HE.out];exact HK0.out _ _ HS1.out⟩
end
end Go.Proofs.YtbnihoahhomooaaGreatDoor
