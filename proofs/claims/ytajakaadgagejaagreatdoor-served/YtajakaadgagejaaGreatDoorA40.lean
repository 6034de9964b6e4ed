import Derived.Test.YtajakaadgagejaaGreatDoorA21
set_option maxRecDepth 100000
set_option maxHeartbeats 8000000
set_option linter.unusedVariables false
set_option linter.unusedSimpArgs false
set_option linter.unusedSectionVars false
namespace Go.Proofs.YtajakaadgagejaaGreatDoor
open Go.Value renaming int→I,slice→Y,string→Z,pointer→Zp
open Go.Ending renaming returned→Zr
open _root_.ByteArray renaming empty→Ze
open Go.IntKind renaming i64→J
open Option renaming none→O
open Go.RowKit
section
variable {w w0:World} {b bl:Nat} {W F:List Nat} {R:Rp} {V:Rv} {P:Pm} {vl vg vo vL:Value}
theorem pX (h:Rst w0 w b bl W F R) (hR:Ok R) (hP:dF w0 W F P vl vg vo vL) (hm:Rp.CmOk P) (hk:P.kind=113∨P.kind=109) (hz:(jZ R.sv P.ent.1).2.size≤1000) (ho:R.out.length≤600000)  :
  Calls Tryz.prog 19 #[Zp (some ⟨b,0,O⟩),.agg (pmC P vl vg vo vL)] w fun e w'=>e=Zr (.tuple #[])∧Rst w0 w' b bl W F (R.cu P):=by
 obtain⟨W1,F1,V1,h1,k1,m1,p1⟩:=h.pm hP
 obtain⟨al,cl,ag,cg,ao,co,aL,cL,rfl,rfl,rfl,rfl⟩:=p1.cells
 have hbA:Below w.heap.size w (w.alloc (.cells (pqC P al cl ag cg ao co aL cL) 68)):=(Below.refl _ w).alloc (Nat.le_refl _) _
 have hMA:bB (w.alloc (.cells (pqC P al cl ag cg ao co aL cL) 68)) w.heap.size (pqC P al cl ag cg ao co aL cL):=⟨rfl,heap_alloc_new w _⟩
 have hPA:=p1.below hbA;have hgW:w.heap.size∉W1:=fun hc=>by have:=h1.wlt _ hc;omega
 have h2:=h1.below hbA;have HSA:=ah (Rst.refl h2);have HK0:Hid (∀ w' R',Rst (w.alloc (.cells (pqC P al cl ag cg ao co aL cL) 68)) w' b bl W1 F1 R'→Rst w0 w' b bl W F R'):=fun w' R' q=>Rst.step (k1.aF hbA) m1 q
 clear h p1 hP h1 hbA;simp only[pmC];have HE0:Hid (R.cu P=if R.leads then (if P.ent.2.1<R.iW P.ent.1 then R else if P.ent.2.1=R.iW P.ent.1 then R.gD P.ent else if P.kind=109∧R.epoch<P.epoch then R else if P.kind=109∧(P.epoch<R.epoch∨Rp.gY P.ent R.n=true) then R.reply P.ent.1 P.ent.2.1 ⟨#[98,97,100]⟩ else R.propose P.ent) else R):=rfl
 have HCm:=ah hm;have HEn:Hid (¬(P.kind=109∧Rp.gY P.ent R.n=true)→kV R.n P.ent):=fun q=>Rp.Dt hm hk q
 have HPl:=ah (Df HSA.out hR);clear hm hk;cases hl:R.leads
 ·have HE:Hid (R.cu P=R):=by unfold Hid;rw[HE0.out,hl];rfl
  rw[hl] at HPl;clear HE0;go_enter Tryz.func19,Tryz.ntmps19;go_upto_region 1 with fail
  generalize w.alloc (.cells (pqC P al cl ag cg ao co aL cL) 68)=wA at *;obtain⟨x0,x1,x2,x3,x4,x5,x6,x7,x8,x9,x10,x11,x12,x13,x14,xf⟩:=hMA.all
  go_wp2_with fail;refine (HPl.out).mono ?_;rintro e w1 ⟨rfl,hs1⟩;have HS1:=ah hs1;clear hs1;have hM1:=hMA.kp HS1.out.kp hgW;obtain⟨_,_,_,_,_,_,_,_,_,_,_,_,_,_,_,_⟩:=hM1.all
  go_wp2_with fail;exact bodyPost_ret (results_none rfl _ _ _) rfl ⟨rfl,by rw[HE.out];exact HK0.out _ _ HS1.out⟩
 ·have HE1:Hid (R.cu P=if P.ent.2.1<R.iW P.ent.1 then R else if P.ent.2.1=R.iW P.ent.1 then R.gD P.ent else if P.kind=109∧R.epoch<P.epoch then R else if P.kind=109∧(P.epoch<R.epoch∨Rp.gY P.ent R.n=true) then R.reply P.ent.1 P.ent.2.1 ⟨#[98,97,100]⟩ else R.propose P.ent):=by unfold Hid;rw[HE0.out,hl];rfl
  rw[hl] at HPl;clear HE0;go_enter Tryz.func19,Tryz.ntmps19;go_upto_region 1 with fail
  generalize w.alloc (.cells (pqC P al cl ag cg ao co aL cL) 68)=wA at *;obtain⟨x0,x1,x2,x3,x4,x5,x6,x7,x8,x9,x10,x11,x12,x13,x14,xf⟩:=hMA.all
  go_wp2_with fail;refine HPl.out.mono ?_;rintro e w1 ⟨rfl,hs1⟩;have hM1:=hMA.kp hs1.kp hgW;have hbE:Below w1.heap.size w1 (w1.alloc (.cells #[I J P.ent.1,I J P.ent.2.1,Z P.ent.2.2] 66)):=(Below.refl _ w1).alloc (Nat.le_refl _) _
  have HSE:=ah (hs1.below hbE);have hEb:(w1.alloc (.cells #[I J P.ent.1,I J P.ent.2.1,Z P.ent.2.2] 66)).heap[w1.heap.size]? = _:=heap_alloc_new w1 (.cells #[I J P.ent.1,I J P.ent.2.1,Z P.ent.2.2] 66)
  have hME:=hMA.kp HSE.out.kp hgW;clear x0 x1 x2 x3 x4 x5 x6 x7 x8 x9 x10 x11 x12 x13 x14 xf hs1;obtain⟨x0,x1,x2,x3,x4,x5,x6,x7,x8,x9,x10,x11,x12,x13,x14,xf⟩:=hM1.all
  clear hbE;go_upto_region 3 with fail
  clear x0 x1 x2 x3 x4 x5 x6 x7 x8 x9 x10 x11 x12 x13 x14 xf hM1;generalize w1.alloc (.cells #[I J P.ent.1,I J P.ent.2.1,Z P.ent.2.2] 66)=wE at *;have e0:wE.cell? ⟨w1.heap.size,0,O⟩=some (I J P.ent.1):=by simp[World.cell?,hEb]
  have e1:wE.cell? ⟨w1.heap.size,1,O⟩=some (I J P.ent.2.1):=by simp[World.cell?,hEb]
  have e2:wE.cell? ⟨w1.heap.size,2,O⟩=some (Z P.ent.2.2):=by simp[World.cell?,hEb]
  obtain⟨x0,x1,x2,x3,x4,x5,x6,x7,x8,x9,x10,x11,x12,x13,x14,xf⟩:=hME.all
  obtain⟨WL,FL,VL,hL,kL,mL⟩:=HSE.out
  have c4:=hL.c4;have c1:=hL.c1;have HLn:=ah (CY hL hR P.ent.1);clear hL kL mL;go_wp2_with fail;refine HLn.out.mono ?_;rintro e w2 ⟨rfl,hw2⟩;subst hw2;obtain⟨wE,HwE⟩:∃ x,x=w2:=⟨_,rfl⟩
  subst HwE;generalize R.iW P.ent.1=ln at *;by_cases qa:P.ent.2.1<ln
  ·have HE:=ah HE1.out;rw[if_pos qa] at HE;go_wp2_with fail;exact bodyPost_ret (results_none rfl _ _ _) rfl ⟨rfl,by rw[HE.out];exact HK0.out _ _ HSE.out⟩
  ·cases qb:(P.ent.2.1==ln)
   ·have HE2:Hid (R.cu P=if P.kind=109∧R.epoch<P.epoch then R else if P.kind=109∧(P.epoch<R.epoch∨Rp.gY P.ent R.n=true) then R.reply P.ent.1 P.ent.2.1 ⟨#[98,97,100]⟩ else R.propose P.ent):=by unfold Hid;rw[HE1.out,if_neg qa,if_neg (by simpa using qb)]
    clear HE1;cases kd:(P.kind==109)
    ·have HE:Hid (R.cu P=R.propose P.ent):=by unfold Hid;rw[HE2.out,if_neg (fun q=>by simp at kd;exact kd q.1),if_neg (fun q=>by simp at kd;exact kd q.1)]
     clear HE2;go_wp2_with fail;go_quiet (fail);rename_i nq;have HSF:=ah (HSE.out.drewN nq);have hMHSF:=hMA.kp HSF.out.kp hgW;have hFb:(wE.drewN nq).heap[w1.heap.size]? = _:=hEb
     clear x0 x1 x2 x3 x4 x5 x6 x7 x8 x9 x10 x11 x12 x13 x14 xf e0 e1 e2 c4 c1;generalize wE.drewN nq=wF at *;obtain⟨x0,x1,x2,x3,x4,x5,x6,x7,x8,x9,x10,x11,x12,x13,x14,xf⟩:=hMHSF.all
     have e0:wF.cell? ⟨w1.heap.size,0,O⟩=some (I J P.ent.1):=by simp[World.cell?,hFb]
     have e1:wF.cell? ⟨w1.heap.size,1,O⟩=some (I J P.ent.2.1):=by simp[World.cell?,hFb]
     have e2:wF.cell? ⟨w1.heap.size,2,O⟩=some (Z P.ent.2.2):=by simp[World.cell?,hFb]
     obtain⟨_,_,VHSF,rHSF,_,_⟩:=HSF.out
     have c4:=rHSF.c4;have c1:=rHSF.c1;clear rHSF;go_wp2_with fail;go_quiet (fail);rename_i nq;have HSG:=ah (HSF.out.drewN nq);have hMHSG:=hMA.kp HSG.out.kp hgW;have hGb:(wF.drewN nq).heap[w1.heap.size]? = _:=hFb
     clear x0 x1 x2 x3 x4 x5 x6 x7 x8 x9 x10 x11 x12 x13 x14 xf e0 e1 e2 c4 c1;generalize wF.drewN nq=wG at *;obtain⟨x0,x1,x2,x3,x4,x5,x6,x7,x8,x9,x10,x11,x12,x13,x14,xf⟩:=hMHSG.all
     have e0:wG.cell? ⟨w1.heap.size,0,O⟩=some (I J P.ent.1):=by simp[World.cell?,hGb]
     have e1:wG.cell? ⟨w1.heap.size,1,O⟩=some (I J P.ent.2.1):=by simp[World.cell?,hGb]
     have e2:wG.cell? ⟨w1.heap.size,2,O⟩=some (Z P.ent.2.2):=by simp[World.cell?,hGb]
     obtain⟨_,_,VHSG,rHSG,_,_⟩:=HSG.out
     have c4:=rHSG.c4;have c1:=rHSG.c1;clear rHSG;go_wp2_with fail;refine (yG HSG.out hR P.ent (HEn.out (fun q=>by simp at kd;exact kd q.1)) (by omega)).mono ?_
     rintro e w3 ⟨rfl,hs3⟩;have HS3:=ah hs3;clear hs3;have hM3:=hMA.kp HS3.out.kp hgW;obtain⟨_,_,_,_,_,_,_,_,_,_,_,_,_,_,_,_⟩:=hM3.all
     go_wp2_with fail;exact bodyPost_end (results_none rfl _ _ _) rfl ⟨rfl,by rw[HE.out];exact HK0.out _ _ HS3.out⟩
    ·have kd':P.kind=109:=by simpa using kd
     have HKd:=ah kd';clear kd';by_cases gt:R.epoch<P.epoch
     ·have HE:Hid (R.cu P=R):=by unfold Hid;rw[HE2.out,if_pos ⟨HKd.out,gt⟩]
      clear HE2;go_wp2_with fail;go_quiet (fail);rename_i nq;have HSF:=ah (HSE.out.drewN nq);have hMHSF:=hMA.kp HSF.out.kp hgW;have hFb:(wE.drewN nq).heap[w1.heap.size]? = _:=hEb
      clear x0 x1 x2 x3 x4 x5 x6 x7 x8 x9 x10 x11 x12 x13 x14 xf e0 e1 e2 c4 c1;generalize wE.drewN nq=wF at *;obtain⟨x0,x1,x2,x3,x4,x5,x6,x7,x8,x9,x10,x11,x12,x13,x14,xf⟩:=hMHSF.all
      have e0:wF.cell? ⟨w1.heap.size,0,O⟩=some (I J P.ent.1):=by simp[World.cell?,hFb]
      have e1:wF.cell? ⟨w1.heap.size,1,O⟩=some (I J P.ent.2.1):=by simp[World.cell?,hFb]
      have e2:wF.cell? ⟨w1.heap.size,2,O⟩=some (Z P.ent.2.2):=by simp[World.cell?,hFb]
      obtain⟨_,_,VHSF,rHSF,_,_⟩:=HSF.out
      have c4:=rHSF.c4;have c1:=rHSF.c1;clear rHSF;go_wp2_with fail;exact bodyPost_ret (results_none rfl _ _ _) rfl ⟨rfl,by rw[HE.out];exact HK0.out _ _ HSF.out⟩
     ·by_cases lt:P.epoch<R.epoch
      ·have HE:Hid (R.cu P=R.reply P.ent.1 P.ent.2.1 ⟨#[98,97,100]⟩):=by unfold Hid;rw[HE2.out,if_neg (fun q=>gt q.2),if_pos ⟨HKd.out,.inl lt⟩]
       clear HE2;go_wp2_with fail;go_quiet (fail);rename_i nq;have HSF:=ah (HSE.out.drewN nq);have hMHSF:=hMA.kp HSF.out.kp hgW;have hFb:(wE.drewN nq).heap[w1.heap.size]? = _:=hEb
       clear x0 x1 x2 x3 x4 x5 x6 x7 x8 x9 x10 x11 x12 x13 x14 xf e0 e1 e2 c4 c1;generalize wE.drewN nq=wF at *;obtain⟨x0,x1,x2,x3,x4,x5,x6,x7,x8,x9,x10,x11,x12,x13,x14,xf⟩:=hMHSF.all
       have e0:wF.cell? ⟨w1.heap.size,0,O⟩=some (I J P.ent.1):=by simp[World.cell?,hFb]
       have e1:wF.cell? ⟨w1.heap.size,1,O⟩=some (I J P.ent.2.1):=by simp[World.cell?,hFb]
       have e2:wF.cell? ⟨w1.heap.size,2,O⟩=some (Z P.ent.2.2):=by simp[World.cell?,hFb]
       obtain⟨_,_,VHSF,rHSF,_,_⟩:=HSF.out
       have c4:=rHSF.c4;have c1:=rHSF.c1;clear rHSF;go_wp2_with fail;go_quiet (fail);rename_i nq;have HSG:=ah (HSF.out.drewN nq);have hMHSG:=hMA.kp HSG.out.kp hgW;have hGb:(wF.drewN nq).heap[w1.heap.size]? = _:=hFb
       clear x0 x1 x2 x3 x4 x5 x6 x7 x8 x9 x10 x11 x12 x13 x14 xf e0 e1 e2 c4 c1;generalize wF.drewN nq=wG at *;obtain⟨x0,x1,x2,x3,x4,x5,x6,x7,x8,x9,x10,x11,x12,x13,x14,xf⟩:=hMHSG.all
       have e0:wG.cell? ⟨w1.heap.size,0,O⟩=some (I J P.ent.1):=by simp[World.cell?,hGb]
       have e1:wG.cell? ⟨w1.heap.size,1,O⟩=some (I J P.ent.2.1):=by simp[World.cell?,hGb]
       have e2:wG.cell? ⟨w1.heap.size,2,O⟩=some (Z P.ent.2.2):=by simp[World.cell?,hGb]
       obtain⟨_,_,VHSG,rHSG,_,_⟩:=HSG.out
       have c4:=rHSG.c4;have c1:=rHSG.c1;clear rHSG;go_wp2_with fail;refine (yH HSG.out P.ent.1 P.ent.2.1 ⟨#[98,97,100]⟩ HCm.out.c ⟨by have:=HCm.out.n;omega,HCm.out.n.2⟩ (by decide) (by omega)).mono ?_
       rintro e w3 ⟨rfl,hs3⟩;have HS3:=ah hs3;clear hs3;have hM3:=hMA.kp HS3.out.kp hgW;obtain⟨_,_,_,_,_,_,_,_,_,_,_,_,_,_,_,_⟩:=hM3.all
       go_wp2_with fail;exact bodyPost_end (results_none rfl _ _ _) rfl ⟨rfl,by rw[HE.out];exact HK0.out _ _ HS3.out⟩
      ·have hnl:=fun w a n c=>Lib.run_eql_slice_nil (P:=Tryz.prog) w 44 3 a n c 0 0 Tryz.underlying44
       have HNx:=ah (fun w=>GK P.ent R.n w (by have:=HCm.out.s;unfold maxLen;omega))
       have HNo:Hid (R.cu P=if Rp.gY P.ent R.n=true then R.reply P.ent.1 P.ent.2.1 ⟨#[98,97,100]⟩ else R.propose P.ent):=by
        unfold Hid;rw[HE2.out,if_neg (fun q=>gt q.2)]
        by_cases hg:Rp.gY P.ent R.n=true
        ·rw[if_pos ⟨HKd.out,.inr hg⟩,if_pos hg]
        ·rw[if_neg (fun q=>by rcases q.2 with q|q;exact lt q;exact hg q),if_neg hg]
       clear HE2;go_wp2_with fail;go_quiet (fail);rename_i nq;have HSF:=ah (HSE.out.drewN nq);have hMHSF:=hMA.kp HSF.out.kp hgW;have hFb:(wE.drewN nq).heap[w1.heap.size]? = _:=hEb
       clear x0 x1 x2 x3 x4 x5 x6 x7 x8 x9 x10 x11 x12 x13 x14 xf e0 e1 e2 c4 c1;generalize wE.drewN nq=wF at *;obtain⟨x0,x1,x2,x3,x4,x5,x6,x7,x8,x9,x10,x11,x12,x13,x14,xf⟩:=hMHSF.all
       have e0:wF.cell? ⟨w1.heap.size,0,O⟩=some (I J P.ent.1):=by simp[World.cell?,hFb]
       have e1:wF.cell? ⟨w1.heap.size,1,O⟩=some (I J P.ent.2.1):=by simp[World.cell?,hFb]
       have e2:wF.cell? ⟨w1.heap.size,2,O⟩=some (Z P.ent.2.2):=by simp[World.cell?,hFb]
       obtain⟨_,_,VHSF,rHSF,_,_⟩:=HSF.out
       have c4:=rHSF.c4;have c1:=rHSF.c1;clear rHSF;cases hno:Rp.gY P.ent R.n
       ·have HE:=ah HNo.out;rw[hno,if_neg (by decide)] at HE
        rw[hno] at HNx;rw[HKd.out] at x0;rw[show P.epoch=R.epoch by omega] at x3
        go_wp2_with fail;go_region_with (go_at_call 45;refine (HNx.out _).mono ?_;rintro e w3 ⟨a3,k3,c3,rfl,hn3,hb3⟩;obtain⟨ad,rfl⟩:∃ ad,a3=some ad:=(by cases a3 with|none=>simp at hn3|some ad=>exact⟨ad,rfl⟩))
        all_goals
         have HS3:=ah (HSF.out.below (iL hb3));have hG3:=((iL hb3).block w1.heap.size (lt_of_block hFb)).trans hFb;clear x0 x1 x2 x3 x4 x5 x6 x7 x8 x9 x10 x11 x12 x13 x14 xf e0 e1 e2 c4 c1 hb3;have e0:w3.cell? ⟨w1.heap.size,0,O⟩=some (I J P.ent.1):=by simp[World.cell?,hG3]
         have e1:w3.cell? ⟨w1.heap.size,1,O⟩=some (I J P.ent.2.1):=by simp[World.cell?,hG3]
         have e2:w3.cell? ⟨w1.heap.size,2,O⟩=some (Z P.ent.2.2):=by simp[World.cell?,hG3]
         go_wp2_with fail;refine (yG HS3.out hR P.ent (HEn.out (fun q=>by rw[hno] at q;exact absurd q.2 (by decide))) (by omega)).mono ?_
         rintro e w4 ⟨rfl,hs4⟩;have HS4:=ah hs4;clear hs4;have hM4:=hMA.kp HS4.out.kp hgW;obtain⟨_,_,_,_,_,_,_,_,_,_,_,_,_,_,_,_⟩:=hM4.all
         go_wp2_with fail;exact bodyPost_end (results_none rfl _ _ _) rfl ⟨rfl,by rw[HE.out];exact HK0.out _ _ HS4.out⟩
       ·have HE:=ah HNo.out;rw[hno,if_pos rfl] at HE;rw[hno] at HNx;rw[HKd.out] at x0;rw[show P.epoch=R.epoch by omega] at x3
        go_wp2_with fail;go_region_with (go_at_call 45;refine (HNx.out _).mono ?_;rintro e w3 ⟨a3,k3,c3,rfl,hn3,hb3⟩;obtain rfl:a3=O:=(by cases a3 with|none=>rfl|some ad=>simp at hn3))
        all_goals
         have HS3:=ah (HSF.out.below (iL hb3));have hG3:=((iL hb3).block w1.heap.size (lt_of_block hFb)).trans hFb;clear x0 x1 x2 x3 x4 x5 x6 x7 x8 x9 x10 x11 x12 x13 x14 xf e0 e1 e2 c4 c1 hb3;have e0:w3.cell? ⟨w1.heap.size,0,O⟩=some (I J P.ent.1):=by simp[World.cell?,hG3]
         have e1:w3.cell? ⟨w1.heap.size,1,O⟩=some (I J P.ent.2.1):=by simp[World.cell?,hG3]
         have e2:w3.cell? ⟨w1.heap.size,2,O⟩=some (Z P.ent.2.2):=by simp[World.cell?,hG3]
         go_wp2_with fail;refine (yH HS3.out P.ent.1 P.ent.2.1 ⟨#[98,97,100]⟩ HCm.out.c ⟨by have:=HCm.out.n;omega,HCm.out.n.2⟩ (by decide) (by omega)).mono ?_
         rintro e w4 ⟨rfl,hs4⟩;have HS4:=ah hs4;clear hs4;have hM4:=hMA.kp HS4.out.kp hgW;obtain⟨_,_,_,_,_,_,_,_,_,_,_,_,_,_,_,_⟩:=hM4.all
         go_wp2_with fail;exact bodyPost_end (results_none rfl _ _ _) rfl ⟨rfl,by rw[HE.out];exact HK0.out _ _ HS4.out⟩
   ·have HE:Hid (R.cu P=R.gD P.ent):=by unfold Hid;rw[HE1.out,if_neg qa,if_pos (by simpa using qb)]
    clear HE1;go_wp2_with fail;refine (zx HSE.out P.ent HCm.out.c ⟨by have:=HCm.out.n;omega,HCm.out.n.2⟩ hz (by omega)).mono ?_
    rintro e w3 ⟨rfl,hs3⟩;have HS3:=ah hs3;clear hs3;have hM3:=hMA.kp HS3.out.kp hgW;obtain⟨_,_,_,_,_,_,_,_,_,_,_,_,_,_,_,_⟩:=hM3.all
    go_wp2_with fail;exact bodyPost_end (results_none rfl _ _ _) rfl ⟨rfl,by rw[HE.out];exact HK0.out _ _ HS3.out⟩
end
end Go.Proofs.YtajakaadgagejaaGreatDoor
