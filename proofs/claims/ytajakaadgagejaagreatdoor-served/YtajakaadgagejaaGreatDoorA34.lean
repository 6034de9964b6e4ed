import Derived.Test.YtajakaadgagejaaGreatDoorA29
set_option maxRecDepth 100000
set_option maxHeartbeats 8000000
set_option linter.unusedVariables false
set_option linter.unusedSimpArgs false
set_option linter.unusedSectionVars false
namespace Go.Proofs.YtajakaadgagejaaGreatDoor
open Go.Value renaming int→I,slice→Y,string→Z,pointer→Zp
open Go.Ending renaming returned→Zr
open _root_.ByteArray renaming empty→Ze
open Go.IntKind renaming i64→J
open Option renaming none→O
open Go.RowKit
section
variable {w w0:World} {b bl:Nat} {W F:List Nat} {R:Rp} {V:Rv} {P:Pm} {vl vg vo vL:Value}
theorem uD (h:Rst w0 w b bl W F R) (hR:Ok R) (hP:dF w0 W F P vl vg vo vL) (hm:eF R.n P) (ho:R.out.length≤400000)  :
  Calls Tryz.prog 96 #[Zp (some ⟨b,0,O⟩),.agg (pmC P vl vg vo vL)] w fun e w'=>e=Zr (.tuple #[])∧Rst w0 w' b bl W F (R.dJ P):=by
 obtain⟨W1,F1,V1,h1,k1,m1,p1⟩:=h.pm hP
 obtain⟨al,cl,ag,cg,ao,co,aL,cL,rfl,rfl,rfl,rfl⟩:=p1.cells
 have hbA:Below w.heap.size w (w.alloc (.cells (pqC P al cl ag cg ao co aL cL) 68)):=(Below.refl _ w).alloc (Nat.le_refl _) _
 have hMA:bB (w.alloc (.cells (pqC P al cl ag cg ao co aL cL) 68)) w.heap.size (pqC P al cl ag cg ao co aL cL):=⟨rfl,heap_alloc_new w _⟩
 have hPA:=p1.below hbA;have hgW:w.heap.size∉W1:=fun hc=>by have:=h1.wlt _ hc;omega
 have h2:=h1.below hbA;have HSA:=ah (Rst.refl h2);have HK0:Hid (∀ w' R',Rst (w.alloc (.cells (pqC P al cl ag cg ao co aL cL) 68)) w' b bl W1 F1 R'→Rst w0 w' b bl W F R'):=fun w' R' q=>Rst.step (k1.aF hbA) m1 q
 clear h p1 hP h1 hbA;simp only[pmC];have HE:Hid (R.dJ P=if R.mem P.frm then (if (P.kind==118)&&(R.want P.view).dS then (R.want P.view).count P else R.want P.view) else R):=rfl
 have HMem:=ah (dH HSA.out hR P.frm);have HGw:=ah (Rp.sH hR ⟨hm.v0,hm.v1⟩);have HPm:=ah hm;clear hm;cases hmem:R.mem P.frm
 ·rw[hmem] at HE HMem;go_enter Tryz.func96,Tryz.ntmps96;go_upto_region 1 with fail
  generalize w.alloc (.cells (pqC P al cl ag cg ao co aL cL) 68)=wA at *;obtain⟨x0,x1,x2,x3,x4,x5,x6,x7,x8,x9,x10,x11,x12,x13,x14,xf⟩:=hMA.all
  go_wp2_with fail;refine (HMem.out).mono ?_;rintro e w1 ⟨rfl,hs1⟩;have HS1:=ah hs1;clear hs1;have hM1:=hMA.kp HS1.out.kp hgW;obtain⟨_,_,_,_,_,_,_,_,_,_,_,_,_,_,_,_⟩:=hM1.all
  go_wp2_with fail;exact bodyPost_ret (results_none rfl _ _ _) rfl ⟨rfl,by rw[HE.out];exact HK0.out _ _ HS1.out⟩
 ·rw[hmem] at HE HMem;cases hkd:(P.kind==118)
  ·rw[hkd] at HE;go_enter Tryz.func96,Tryz.ntmps96;go_upto_region 1 with fail
   generalize w.alloc (.cells (pqC P al cl ag cg ao co aL cL) 68)=wA at *;obtain⟨x0,x1,x2,x3,x4,x5,x6,x7,x8,x9,x10,x11,x12,x13,x14,xf⟩:=hMA.all
   go_wp2_with fail;refine (HMem.out).mono ?_;rintro e w1 ⟨rfl,hs1⟩;have HS1:=ah hs1;clear hs1;have hM1:=hMA.kp HS1.out.kp hgW;obtain⟨_,_,_,_,_,_,_,_,_,_,_,_,_,_,_,_⟩:=hM1.all
   go_wp2_with fail;refine (vY HS1.out hR P.view ⟨HPm.out.v0,HPm.out.v1⟩ (by omega)).mono ?_
   rintro e w2 ⟨rfl,hs2⟩;have HS2:=ah hs2;clear hs2;have hM2:=hMA.kp HS2.out.kp hgW;obtain⟨_,_,_,_,_,_,_,_,_,_,_,_,_,_,_,_⟩:=hM2.all
   go_wp2_with fail;exact bodyPost_end (results_none rfl _ _ _) rfl ⟨rfl,by rw[HE.out];exact HK0.out _ _ HS2.out⟩
  ·rw[hkd] at HE;cases hpr:(R.want P.view).dS
   ·rw[hpr] at HE;go_enter Tryz.func96,Tryz.ntmps96;go_upto_region 1 with fail
    generalize w.alloc (.cells (pqC P al cl ag cg ao co aL cL) 68)=wA at *;obtain⟨x0,x1,x2,x3,x4,x5,x6,x7,x8,x9,x10,x11,x12,x13,x14,xf⟩:=hMA.all
    go_wp2_with fail;refine (HMem.out).mono ?_;rintro e w1 ⟨rfl,hs1⟩;have HS1:=ah hs1;clear hs1;have hM1:=hMA.kp HS1.out.kp hgW;obtain⟨_,_,_,_,_,_,_,_,_,_,_,_,_,_,_,_⟩:=hM1.all
    go_wp2_with fail;refine (vY HS1.out hR P.view ⟨HPm.out.v0,HPm.out.v1⟩ (by omega)).mono ?_
    rintro e w2 ⟨rfl,hs2⟩;have HS2:=ah hs2;clear hs2;have hM2:=hMA.kp HS2.out.kp hgW;obtain⟨_,_,_,_,_,_,_,_,_,_,_,_,_,_,_,_⟩:=hM2.all
    go_wp2_with fail;have HP3:=ah (fP HS2.out HGw.out.ok);rw[hpr] at HP3;refine (HP3.out).mono ?_;rintro e w3 ⟨rfl,hs3⟩;have HS3:=ah hs3;clear hs3;have hM3:=hMA.kp HS3.out.kp hgW;obtain⟨_,_,_,_,_,_,_,_,_,_,_,_,_,_,_,_⟩:=hM3.all
    go_wp2_with fail;exact bodyPost_end (results_none rfl _ _ _) rfl ⟨rfl,by rw[HE.out];exact HK0.out _ _ HS3.out⟩
   ·rw[hpr] at HE;have HKd:Hid (P.kind=118):=ah (by simpa using hkd)
    go_enter Tryz.func96,Tryz.ntmps96;go_upto_region 1 with fail
    generalize w.alloc (.cells (pqC P al cl ag cg ao co aL cL) 68)=wA at *;obtain⟨x0,x1,x2,x3,x4,x5,x6,x7,x8,x9,x10,x11,x12,x13,x14,xf⟩:=hMA.all
    go_wp2_with fail;refine (HMem.out).mono ?_;rintro e w1 ⟨rfl,hs1⟩;have HS1:=ah hs1;clear hs1;have hM1:=hMA.kp HS1.out.kp hgW;obtain⟨_,_,_,_,_,_,_,_,_,_,_,_,_,_,_,_⟩:=hM1.all
    go_wp2_with fail;refine (vY HS1.out hR P.view ⟨HPm.out.v0,HPm.out.v1⟩ (by omega)).mono ?_
    rintro e w2 ⟨rfl,hs2⟩;have HS2:=ah hs2;clear hs2;have hM2:=hMA.kp HS2.out.kp hgW;obtain⟨_,_,_,_,_,_,_,_,_,_,_,_,_,_,_,_⟩:=hM2.all
    go_wp2_with fail;have HP3:=ah (fP HS2.out HGw.out.ok);rw[hpr] at HP3;refine (HP3.out).mono ?_;rintro e w3 ⟨rfl,hs3⟩;have HS3:=ah hs3;clear hs3;have hM3:=hMA.kp HS3.out.kp hgW;obtain⟨_,_,_,_,_,_,_,_,_,_,_,_,_,_,_,_⟩:=hM3.all
    go_wp2_with fail;have HC:=ah (Dc HS3.out HGw.out.ok hPA HKd.out (by rw[HGw.out.n];exact HPm.out) (Nat.le_trans HGw.out.out (by omega)))
    simp only[pmC] at HC;refine (HC.out).mono ?_;rintro e w4 ⟨rfl,hs4⟩;have HS4:=ah hs4;clear hs4;have hM4:=hMA.kp HS4.out.kp hgW;obtain⟨_,_,_,_,_,_,_,_,_,_,_,_,_,_,_,_⟩:=hM4.all
    go_wp2_with fail;exact bodyPost_end (results_none rfl _ _ _) rfl ⟨rfl,by rw[HE.out];exact HK0.out _ _ HS4.out⟩
theorem vH (h:Rst w0 w b bl W F R) (hR:Ok R) (hP:dF w0 W F P vl vg vo vL) (hm:eF R.n P) (ho:R.out.length≤400000)  :
  Calls Tryz.prog 93 #[Zp (some ⟨b,0,O⟩),.agg (pmC P vl vg vo vL)] w fun e w'=>e=Zr (.tuple #[])∧Rst w0 w' b bl W F (R.bM P):=by
 obtain⟨W1,F1,V1,h1,k1,m1,p1⟩:=h.pm hP
 obtain⟨al,cl,ag,cg,ao,co,aL,cL,rfl,rfl,rfl,rfl⟩:=p1.cells
 have hbA:Below w.heap.size w (w.alloc (.cells (pqC P al cl ag cg ao co aL cL) 68)):=(Below.refl _ w).alloc (Nat.le_refl _) _
 have hMA:bB (w.alloc (.cells (pqC P al cl ag cg ao co aL cL) 68)) w.heap.size (pqC P al cl ag cg ao co aL cL):=⟨rfl,heap_alloc_new w _⟩
 have hPA:=p1.below hbA;have hgW:w.heap.size∉W1:=fun hc=>by have:=h1.wlt _ hc;omega
 have h2:=h1.below hbA;have HSA:=ah (Rst.refl h2);have HK0:Hid (∀ w' R',Rst (w.alloc (.cells (pqC P al cl ag cg ao co aL cL) 68)) w' b bl W1 F1 R'→Rst w0 w' b bl W F R'):=fun w' R' q=>Rst.step (k1.aF hbA) m1 q
 clear h p1 hP h1 hbA;simp only[pmC];have HE:Hid (R.bM P=if R.mem P.frm then (if P.kind=112∨P.kind=99 then R.bare P.frm 103 else if P.kind=104 then R.eU else if P.kind=118∧R.dS=true then R.count P else R) else R):=rfl
 have HMem:=ah (dH HSA.out hR P.frm);have HPm:=ah hm;clear hm;cases hmem:R.mem P.frm
 ·rw[hmem,if_neg (by decide)] at HE
  rw[hmem] at HMem;go_enter Tryz.func93,Tryz.ntmps93;go_upto_region 1 with fail
  generalize w.alloc (.cells (pqC P al cl ag cg ao co aL cL) 68)=wA at *;obtain⟨x0,x1,x2,x3,x4,x5,x6,x7,x8,x9,x10,x11,x12,x13,x14,xf⟩:=hMA.all
  go_wp2_with fail;refine (HMem.out).mono ?_;rintro e w1 ⟨rfl,hs1⟩;have HS1:=ah hs1;clear hs1;have hM1:=hMA.kp HS1.out.kp hgW;obtain⟨_,_,_,_,_,_,_,_,_,_,_,_,_,_,_,_⟩:=hM1.all
  go_wp2_with fail;exact bodyPost_ret (results_none rfl _ _ _) rfl ⟨rfl,by rw[HE.out];exact HK0.out _ _ HS1.out⟩
 ·rw[hmem,if_pos rfl] at HE;rw[hmem] at HMem;cases ka:(P.kind==112)
  ·cases kb:(P.kind==99)
   ·have HE1:Hid (R.bM P=if P.kind=104 then R.eU else if P.kind=118∧R.dS=true then R.count P else R):=by
     unfold Hid;rw[HE.out,if_neg (by simp at ka kb;omega)]
    clear HE;cases kc:(P.kind==104)
    ·have HE2:Hid (R.bM P=if P.kind=118∧R.dS=true then R.count P else R):=by
      unfold Hid;rw[HE1.out,if_neg (by simpa using kc)]
     clear HE1;cases kd:(P.kind==118)
     ·have HE:Hid (R.bM P=R):=by unfold Hid;rw[HE2.out,if_neg (fun q=>by simp at kd;exact kd q.1)]
      clear HE2;go_enter Tryz.func93,Tryz.ntmps93;go_upto_region 1 with fail
      generalize w.alloc (.cells (pqC P al cl ag cg ao co aL cL) 68)=wA at *;obtain⟨x0,x1,x2,x3,x4,x5,x6,x7,x8,x9,x10,x11,x12,x13,x14,xf⟩:=hMA.all
      go_wp2_with fail;refine (HMem.out).mono ?_;rintro e w1 ⟨rfl,hs1⟩;have HS1:=ah hs1;clear hs1;have hM1:=hMA.kp HS1.out.kp hgW;obtain⟨_,_,_,_,_,_,_,_,_,_,_,_,_,_,_,_⟩:=hM1.all
      go_wp2_with fail;exact bodyPost_end (results_none rfl _ _ _) rfl ⟨rfl,by rw[HE.out];exact HK0.out _ _ HS1.out⟩
     ·cases hpr:R.dS
      ·have HE:Hid (R.bM P=R):=by unfold Hid;rw[HE2.out,if_neg (fun q=>by rw[hpr] at q;exact absurd q.2 (by decide))]
       clear HE2;go_enter Tryz.func93,Tryz.ntmps93;go_upto_region 1 with fail
       generalize w.alloc (.cells (pqC P al cl ag cg ao co aL cL) 68)=wA at *;obtain⟨x0,x1,x2,x3,x4,x5,x6,x7,x8,x9,x10,x11,x12,x13,x14,xf⟩:=hMA.all
       go_wp2_with fail;refine (HMem.out).mono ?_;rintro e w1 ⟨rfl,hs1⟩;have HS1:=ah hs1;clear hs1;have hM1:=hMA.kp HS1.out.kp hgW;obtain⟨_,_,_,_,_,_,_,_,_,_,_,_,_,_,_,_⟩:=hM1.all
       go_wp2_with fail;have HP2:=ah (fP HS1.out hR);rw[hpr] at HP2;refine (HP2.out).mono ?_;rintro e w2 ⟨rfl,hs2⟩;have HS2:=ah hs2;clear hs2;have hM2:=hMA.kp HS2.out.kp hgW;obtain⟨_,_,_,_,_,_,_,_,_,_,_,_,_,_,_,_⟩:=hM2.all
       go_wp2_with fail;exact bodyPost_end (results_none rfl _ _ _) rfl ⟨rfl,by rw[HE.out];exact HK0.out _ _ HS2.out⟩
      ·have HKd:Hid (P.kind=118):=ah (by simpa using kd)
       have HE:Hid (R.bM P=R.count P):=by unfold Hid;rw[HE2.out,if_pos ⟨HKd.out,hpr⟩]
       clear HE2;go_enter Tryz.func93,Tryz.ntmps93;go_upto_region 1 with fail
       generalize w.alloc (.cells (pqC P al cl ag cg ao co aL cL) 68)=wA at *;obtain⟨x0,x1,x2,x3,x4,x5,x6,x7,x8,x9,x10,x11,x12,x13,x14,xf⟩:=hMA.all
       go_wp2_with fail;refine (HMem.out).mono ?_;rintro e w1 ⟨rfl,hs1⟩;have HS1:=ah hs1;clear hs1;have hM1:=hMA.kp HS1.out.kp hgW;obtain⟨_,_,_,_,_,_,_,_,_,_,_,_,_,_,_,_⟩:=hM1.all
       go_wp2_with fail;have HP2:=ah (fP HS1.out hR);rw[hpr] at HP2;refine (HP2.out).mono ?_;rintro e w2 ⟨rfl,hs2⟩;have HS2:=ah hs2;clear hs2;have hM2:=hMA.kp HS2.out.kp hgW;obtain⟨_,_,_,_,_,_,_,_,_,_,_,_,_,_,_,_⟩:=hM2.all
       go_wp2_with fail;have HC:=ah (Dc HS2.out hR hPA HKd.out HPm.out (by omega))
       simp only[pmC] at HC;refine (HC.out).mono ?_;rintro e w3 ⟨rfl,hs3⟩;have HS3:=ah hs3;clear hs3;have hM3:=hMA.kp HS3.out.kp hgW;obtain⟨_,_,_,_,_,_,_,_,_,_,_,_,_,_,_,_⟩:=hM3.all
       go_wp2_with fail;exact bodyPost_end (results_none rfl _ _ _) rfl ⟨rfl,by rw[HE.out];exact HK0.out _ _ HS3.out⟩
    ·have HE:Hid (R.bM P=R.eU):=by
      unfold Hid;rw[HE1.out,if_pos (by simpa using kc)]
     clear HE1;go_enter Tryz.func93,Tryz.ntmps93;go_upto_region 1 with fail
     generalize w.alloc (.cells (pqC P al cl ag cg ao co aL cL) 68)=wA at *;obtain⟨x0,x1,x2,x3,x4,x5,x6,x7,x8,x9,x10,x11,x12,x13,x14,xf⟩:=hMA.all
     go_wp2_with fail;refine (HMem.out).mono ?_;rintro e w1 ⟨rfl,hs1⟩;have HS1:=ah hs1;clear hs1;have hM1:=hMA.kp HS1.out.kp hgW;obtain⟨_,_,_,_,_,_,_,_,_,_,_,_,_,_,_,_⟩:=hM1.all
     go_wp2_with fail;refine (sW HS1.out hR (by omega)).mono ?_
     rintro e w2 ⟨rfl,hs2⟩;have HS2:=ah hs2;clear hs2;have hM2:=hMA.kp HS2.out.kp hgW;obtain⟨_,_,_,_,_,_,_,_,_,_,_,_,_,_,_,_⟩:=hM2.all
     go_wp2_with fail;exact bodyPost_end (results_none rfl _ _ _) rfl ⟨rfl,by rw[HE.out];exact HK0.out _ _ HS2.out⟩
   ·have HE1:Hid (R.bM P=R.bare P.frm 103):=by
     unfold Hid;rw[HE.out,if_pos (.inr (by simpa using kb))]
    clear HE;have HE:=ah HE1.out;clear HE1;go_enter Tryz.func93,Tryz.ntmps93;go_upto_region 1 with fail
    generalize w.alloc (.cells (pqC P al cl ag cg ao co aL cL) 68)=wA at *;obtain⟨x0,x1,x2,x3,x4,x5,x6,x7,x8,x9,x10,x11,x12,x13,x14,xf⟩:=hMA.all
    go_wp2_with fail;refine (HMem.out).mono ?_;rintro e w1 ⟨rfl,hs1⟩;have HS1:=ah hs1;clear hs1;have hM1:=hMA.kp HS1.out.kp hgW;obtain⟨_,_,_,_,_,_,_,_,_,_,_,_,_,_,_,_⟩:=hM1.all
    go_wp2_with fail;refine (fu HS1.out hR P.frm 103 (by decide) (by omega)).mono ?_
    rintro e w2 ⟨rfl,hs2⟩;have HS2:=ah hs2;clear hs2;have hM2:=hMA.kp HS2.out.kp hgW;obtain⟨_,_,_,_,_,_,_,_,_,_,_,_,_,_,_,_⟩:=hM2.all
    go_wp2_with fail;exact bodyPost_end (results_none rfl _ _ _) rfl ⟨rfl,by rw[HE.out];exact HK0.out _ _ HS2.out⟩
  ·have HE1:Hid (R.bM P=R.bare P.frm 103):=by
    unfold Hid;rw[HE.out,if_pos (.inl (by simpa using ka))]
   clear HE;have HE:=ah HE1.out;clear HE1;go_enter Tryz.func93,Tryz.ntmps93;go_upto_region 1 with fail
   generalize w.alloc (.cells (pqC P al cl ag cg ao co aL cL) 68)=wA at *;obtain⟨x0,x1,x2,x3,x4,x5,x6,x7,x8,x9,x10,x11,x12,x13,x14,xf⟩:=hMA.all
   go_wp2_with fail;refine (HMem.out).mono ?_;rintro e w1 ⟨rfl,hs1⟩;have HS1:=ah hs1;clear hs1;have hM1:=hMA.kp HS1.out.kp hgW;obtain⟨_,_,_,_,_,_,_,_,_,_,_,_,_,_,_,_⟩:=hM1.all
   go_wp2_with fail;refine (fu HS1.out hR P.frm 103 (by decide) (by omega)).mono ?_
   rintro e w2 ⟨rfl,hs2⟩;have HS2:=ah hs2;clear hs2;have hM2:=hMA.kp HS2.out.kp hgW;obtain⟨_,_,_,_,_,_,_,_,_,_,_,_,_,_,_,_⟩:=hM2.all
   go_wp2_with fail;exact bodyPost_end (results_none rfl _ _ _) rfl ⟨rfl,by rw[HE.out];exact HK0.out _ _ HS2.out⟩
theorem lW (h:Rst w0 w b bl W F R) (hR:Ok R) (hP:dF w0 W F P vl vg vo vL) (ho:R.out.length≤900000)  :
  Calls Tryz.prog 85 #[Zp (some ⟨b,0,O⟩),.agg (pmC P vl vg vo vL)] w fun e w'=>e=Zr (.tuple #[])∧Rst w0 w' b bl W F (R.dD P):=by
 obtain⟨W1,F1,V1,h1,k1,m1,p1⟩:=h.pm hP
 obtain⟨al,cl,ag,cg,ao,co,aL,cL,rfl,rfl,rfl,rfl⟩:=p1.cells
 have hbA:Below w.heap.size w (w.alloc (.cells (pqC P al cl ag cg ao co aL cL) 68)):=(Below.refl _ w).alloc (Nat.le_refl _) _
 have hMA:bB (w.alloc (.cells (pqC P al cl ag cg ao co aL cL) 68)) w.heap.size (pqC P al cl ag cg ao co aL cL):=⟨rfl,heap_alloc_new w _⟩
 have hPA:=p1.below hbA;have hgW:w.heap.size∉W1:=fun hc=>by have:=h1.wlt _ hc;omega
 have h2:=h1.below hbA;have HSA:=ah (Rst.refl h2);have HK0:Hid (∀ w' R',Rst (w.alloc (.cells (pqC P al cl ag cg ao co aL cL) 68)) w' b bl W1 F1 R'→Rst w0 w' b bl W F R'):=fun w' R' q=>Rst.step (k1.aF hbA) m1 q
 clear h p1 hP h1 hbA;simp only[pmC];have HE:Hid (R.dD P=if R.status==1 then R.tell P.frm else if P.epoch<R.epoch then R.oC P.frm else if Rp.qG P&&R.mem P.frm then R.bare P.frm 104 else R):=rfl
 cases hs:(R.status==1)
 ·rw[hs,if_neg (by decide)] at HE
  by_cases hq:P.epoch<R.epoch
  ·rw[if_pos hq] at HE;go_enter Tryz.func85,Tryz.ntmps85;go_upto_region 1 with fail
   generalize w.alloc (.cells (pqC P al cl ag cg ao co aL cL) 68)=wA at *;obtain⟨x0,x1,x2,x3,x4,x5,x6,x7,x8,x9,x10,x11,x12,x13,x14,xf⟩:=hMA.all
   have c3:=h2.c3;have c4:=h2.c4;go_wp2_with fail;go_quiet (fail);rename_i nq;have HSq:=ah (HSA.out.drewN nq);have hMq:=hMA.kp HSq.out.kp hgW;clear x0 x1 x2 x3 x4 x5 x6 x7 x8 x9 x10 x11 x12 x13 x14 xf c3 c4;generalize wA.drewN nq=wq at *;obtain⟨x0,x1,x2,x3,x4,x5,x6,x7,x8,x9,x10,x11,x12,x13,x14,xf⟩:=hMq.all
   go_wp2_with fail;refine (uF HSq.out hR P.frm ho).mono ?_;rintro e w1 ⟨rfl,hs1⟩;have HS1:=ah hs1;clear hs1;have hM1:=hMA.kp HS1.out.kp hgW;obtain⟨_,_,_,_,_,_,_,_,_,_,_,_,_,_,_,_⟩:=hM1.all
   go_wp2_with fail;exact bodyPost_end (results_none rfl _ _ _) rfl ⟨rfl,by rw[HE.out];exact HK0.out _ _ HS1.out⟩
  ·rw[if_neg hq] at HE;have HCh:Hid (∀ w,Calls Tryz.prog 95 #[.agg (pqC P al cl ag cg ao co aL cL)] w fun e w'=>e=Zr (.bool (Rp.qG P))∧Below w.heap.size w w'):=fun w=>iR P _ _ _ _ w
   go_enter Tryz.func85,Tryz.ntmps85;go_upto_region 1 with fail
   generalize w.alloc (.cells (pqC P al cl ag cg ao co aL cL) 68)=wA at *;obtain⟨x0,x1,x2,x3,x4,x5,x6,x7,x8,x9,x10,x11,x12,x13,x14,xf⟩:=hMA.all
   have c3:=h2.c3;have c4:=h2.c4;go_wp2_with fail;go_quiet (fail);rename_i nq;have HSq:=ah (HSA.out.drewN nq);have hMq:=hMA.kp HSq.out.kp hgW;clear x0 x1 x2 x3 x4 x5 x6 x7 x8 x9 x10 x11 x12 x13 x14 xf c3 c4;generalize wA.drewN nq=wq at *;obtain⟨x0,x1,x2,x3,x4,x5,x6,x7,x8,x9,x10,x11,x12,x13,x14,xf⟩:=hMq.all
   go_wp2_with fail;refine (HCh.out _).mono ?_;rintro e w1 ⟨rfl,hb1⟩;have HS1:=ah (HSq.out.below hb1);have hM1:=hMA.kp HS1.out.kp hgW;clear x0 x1 x2 x3 x4 x5 x6 x7 x8 x9 x10 x11 x12 x13 x14 xf;obtain⟨x0,x1,x2,x3,x4,x5,x6,x7,x8,x9,x10,x11,x12,x13,x14,xf⟩:=hM1.all
   clear hb1;cases hc:Rp.qG P
   ·rw[hc,Bool.false_and,if_neg (by decide)] at HE
    go_wp2_with fail;exact bodyPost_end (results_none rfl _ _ _) rfl ⟨rfl,by rw[HE.out];exact HK0.out _ _ HS1.out⟩
   ·rw[hc,Bool.true_and] at HE;have HM2:=ah (dH HS1.out hR P.frm);cases hmem:R.mem P.frm
    ·rw[hmem,if_neg (by decide)] at HE
     rw[hmem] at HM2;go_wp2_with fail;refine (HM2.out).mono ?_;rintro e w2 ⟨rfl,hs2⟩;have HS2:=ah hs2;clear hs2;have hM2:=hMA.kp HS2.out.kp hgW;obtain⟨_,_,_,_,_,_,_,_,_,_,_,_,_,_,_,_⟩:=hM2.all
     go_wp2_with fail;exact bodyPost_end (results_none rfl _ _ _) rfl ⟨rfl,by rw[HE.out];exact HK0.out _ _ HS2.out⟩
    ·rw[hmem,if_pos rfl] at HE;rw[hmem] at HM2;go_wp2_with fail;refine (HM2.out).mono ?_;rintro e w2 ⟨rfl,hs2⟩;have HS2:=ah hs2;clear hs2;have hM2:=hMA.kp HS2.out.kp hgW;obtain⟨_,_,_,_,_,_,_,_,_,_,_,_,_,_,_,_⟩:=hM2.all
     go_wp2_with fail;refine (fu HS2.out hR P.frm 104 (by decide) ho).mono ?_
     rintro e w3 ⟨rfl,hs3⟩;have HS3:=ah hs3;clear hs3;have hM3:=hMA.kp HS3.out.kp hgW;obtain⟨_,_,_,_,_,_,_,_,_,_,_,_,_,_,_,_⟩:=hM3.all
     go_wp2_with fail;exact bodyPost_end (results_none rfl _ _ _) rfl ⟨rfl,by rw[HE.out];exact HK0.out _ _ HS3.out⟩
 ·rw[hs,if_pos rfl] at HE;go_enter Tryz.func85,Tryz.ntmps85;go_upto_region 1 with fail
  generalize w.alloc (.cells (pqC P al cl ag cg ao co aL cL) 68)=wA at *;obtain⟨x0,x1,x2,x3,x4,x5,x6,x7,x8,x9,x10,x11,x12,x13,x14,xf⟩:=hMA.all
  have c3:=h2.c3;have c4:=h2.c4;go_wp2_with fail;refine (qB HSA.out hR P.frm ho).mono ?_;rintro e w1 ⟨rfl,hs1⟩;have HS1:=ah hs1;clear hs1;have hM1:=hMA.kp HS1.out.kp hgW;obtain⟨_,_,_,_,_,_,_,_,_,_,_,_,_,_,_,_⟩:=hM1.all
  go_wp2_with fail;exact bodyPost_end (results_none rfl _ _ _) rfl ⟨rfl,by rw[HE.out];exact HK0.out _ _ HS1.out⟩
end
end Go.Proofs.YtajakaadgagejaaGreatDoor
