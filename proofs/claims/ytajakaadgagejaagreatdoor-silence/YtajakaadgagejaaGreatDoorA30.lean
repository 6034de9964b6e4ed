import Derived.Test.YtajakaadgagejaaGreatDoorA14
set_option maxRecDepth 100000
set_option maxHeartbeats 8000000
set_option linter.unusedVariables false
set_option linter.unusedSimpArgs false
set_option linter.unusedSectionVars false
namespace Go.Proofs.YtajakaadgagejaaGreatDoor
open Go.Value renaming int→I,slice→Y,string→Z,pointer→Zp
open Go.Ending renaming returned→Zr
open _root_.ByteArray renaming empty→Ze
open Go.IntKind renaming i64→J
open Option renaming none→O
open Go.RowKit
section
variable {w w0:World} {b bl:Nat} {W F:List Nat} {R:Rp} {V:Rv} {P:Pm} {vl vg vo vL:Value}
theorem pW (h:Rst w0 w b bl W F R) (hR:Ok R) (hP:dF w0 W F P vl vg vo vL) (ho:R.out.length≤900000)  :
  Calls Tryz.prog 52 #[Zp (some ⟨b,0,O⟩),.agg (pmC P vl vg vo vL)] w fun e w'=>e=Zr (.tuple #[])∧Rst w0 w' b bl W F (R.dI P):=by
 obtain⟨W1,F1,V1,h1,k1,m1,p1⟩:=h.pm hP
 obtain⟨al,cl,ag,cg,ao,co,aL,cL,rfl,rfl,rfl,rfl⟩:=p1.cells
 have hbA:Below w.heap.size w (w.alloc (.cells (pqC P al cl ag cg ao co aL cL) 68)):=(Below.refl _ w).alloc (Nat.le_refl _) _
 have hMA:bB (w.alloc (.cells (pqC P al cl ag cg ao co aL cL) 68)) w.heap.size (pqC P al cl ag cg ao co aL cL):=⟨rfl,heap_alloc_new w _⟩
 have hPA:=p1.below hbA;have hgW:w.heap.size∉W1:=fun hc=>by have:=h1.wlt _ hc;omega
 have h2:=h1.below hbA;have HSA:=ah (Rst.refl h2);have HK0:Hid (∀ w' R',Rst (w.alloc (.cells (pqC P al cl ag cg ao co aL cL) 68)) w' b bl W1 F1 R'→Rst w0 w' b bl W F R'):=fun w' R' q=>Rst.step (k1.aF hbA) m1 q
 clear h p1 hP h1 hbA;simp only[pmC];have HE0:Hid (R.dI P=if R.epoch<P.epoch then R.bare P.frm 103 else if (P.kind==103)&&(R.status==5)&&R.mem P.frm then R.tell P.frm else R):=rfl
 by_cases q1:R.epoch<P.epoch
 ·have HE:Hid (R.dI P=R.bare P.frm 103):=by unfold Hid;rw[HE0.out,if_pos q1]
  clear HE0;go_enter Tryz.func52,Tryz.ntmps52;go_upto_region 1 with fail
  generalize w.alloc (.cells (pqC P al cl ag cg ao co aL cL) 68)=wA at *;obtain⟨x0,x1,x2,x3,x4,x5,x6,x7,x8,x9,x10,x11,x12,x13,x14,xf⟩:=hMA.all
  have c4:=h2.c4;go_quiet (fail);rename_i nq;have HSq:=ah (HSA.out.drewN nq);have hMHSq:=hMA.kp HSq.out.kp hgW;clear x0 x1 x2 x3 x4 x5 x6 x7 x8 x9 x10 x11 x12 x13 x14 xf c4;generalize wA.drewN nq=wq at *;obtain⟨x0,x1,x2,x3,x4,x5,x6,x7,x8,x9,x10,x11,x12,x13,x14,xf⟩:=hMHSq.all
  go_wp2_with fail;refine (fu HSq.out hR P.frm 103 (by decide) ho).mono ?_
  rintro e w1 ⟨rfl,hs1⟩;have HS1:=ah hs1;clear hs1;have hM1:=hMA.kp HS1.out.kp hgW;obtain⟨_,_,_,_,_,_,_,_,_,_,_,_,_,_,_,_⟩:=hM1.all
  go_wp2_with fail;exact bodyPost_ret (results_none rfl _ _ _) rfl ⟨rfl,by rw[HE.out];exact HK0.out _ _ HS1.out⟩
 ·cases kd:(P.kind==103)
  ·have HE:Hid (R.dI P=R):=by unfold Hid;rw[HE0.out,if_neg q1,kd];rfl
   clear HE0;go_enter Tryz.func52,Tryz.ntmps52;go_upto_region 1 with fail
   generalize w.alloc (.cells (pqC P al cl ag cg ao co aL cL) 68)=wA at *;obtain⟨x0,x1,x2,x3,x4,x5,x6,x7,x8,x9,x10,x11,x12,x13,x14,xf⟩:=hMA.all
   have c4:=h2.c4;go_quiet (fail);rename_i nq;have HSq:=ah (HSA.out.drewN nq);have hMHSq:=hMA.kp HSq.out.kp hgW;clear x0 x1 x2 x3 x4 x5 x6 x7 x8 x9 x10 x11 x12 x13 x14 xf c4;generalize wA.drewN nq=wq at *;obtain⟨x0,x1,x2,x3,x4,x5,x6,x7,x8,x9,x10,x11,x12,x13,x14,xf⟩:=hMHSq.all
   go_wp2_with fail;exact bodyPost_end (results_none rfl _ _ _) rfl ⟨rfl,by rw[HE.out];exact HK0.out _ _ HSq.out⟩
  ·cases hs:(R.status==5)
   ·have HE:Hid (R.dI P=R):=by unfold Hid;rw[HE0.out,if_neg q1,kd,hs];rfl
    clear HE0;go_enter Tryz.func52,Tryz.ntmps52;go_upto_region 1 with fail
    generalize w.alloc (.cells (pqC P al cl ag cg ao co aL cL) 68)=wA at *;obtain⟨x0,x1,x2,x3,x4,x5,x6,x7,x8,x9,x10,x11,x12,x13,x14,xf⟩:=hMA.all
    have c4:=h2.c4;go_quiet (fail);rename_i nq;have HSq:=ah (HSA.out.drewN nq);have hMHSq:=hMA.kp HSq.out.kp hgW;clear x0 x1 x2 x3 x4 x5 x6 x7 x8 x9 x10 x11 x12 x13 x14 xf c4;generalize wA.drewN nq=wq at *;obtain⟨x0,x1,x2,x3,x4,x5,x6,x7,x8,x9,x10,x11,x12,x13,x14,xf⟩:=hMHSq.all
    obtain⟨_,_,VHSq,rHSq,_,_⟩:=HSq.out
    have c3:=rHSq.c3;go_wp2_with fail;exact bodyPost_end (results_none rfl _ _ _) rfl ⟨rfl,by rw[HE.out];exact HK0.out _ _ HSq.out⟩
   ·have HM:=ah (fun (wz:World) (hz:Rst (w.alloc (.cells (pqC P al cl ag cg ao co aL cL) 68)) wz b bl W1 F1 R)=>dH hz hR P.frm)
    cases hmem:R.mem P.frm
    ·have HE:Hid (R.dI P=R):=by unfold Hid;rw[HE0.out,if_neg q1,kd,hs,hmem];rfl
     rw[hmem] at HM;clear HE0;go_enter Tryz.func52,Tryz.ntmps52;go_upto_region 1 with fail
     generalize w.alloc (.cells (pqC P al cl ag cg ao co aL cL) 68)=wA at *;obtain⟨x0,x1,x2,x3,x4,x5,x6,x7,x8,x9,x10,x11,x12,x13,x14,xf⟩:=hMA.all
     have c4:=h2.c4;go_quiet (fail);rename_i nq;have HSq:=ah (HSA.out.drewN nq);have hMHSq:=hMA.kp HSq.out.kp hgW;clear x0 x1 x2 x3 x4 x5 x6 x7 x8 x9 x10 x11 x12 x13 x14 xf c4;generalize wA.drewN nq=wq at *;obtain⟨x0,x1,x2,x3,x4,x5,x6,x7,x8,x9,x10,x11,x12,x13,x14,xf⟩:=hMHSq.all
     obtain⟨_,_,VHSq,rHSq,_,_⟩:=HSq.out
     have c3:=rHSq.c3;go_wp2_with fail;refine (HM.out _ HSq.out).mono ?_;rintro e w1 ⟨rfl,hs1⟩;have HS1:=ah hs1;clear hs1;have hM1:=hMA.kp HS1.out.kp hgW;obtain⟨_,_,_,_,_,_,_,_,_,_,_,_,_,_,_,_⟩:=hM1.all
     go_wp2_with fail;exact bodyPost_end (results_none rfl _ _ _) rfl ⟨rfl,by rw[HE.out];exact HK0.out _ _ HS1.out⟩
    ·have HE:Hid (R.dI P=R.tell P.frm):=by unfold Hid;rw[HE0.out,if_neg q1,kd,hs,hmem];rfl
     rw[hmem] at HM;clear HE0;go_enter Tryz.func52,Tryz.ntmps52;go_upto_region 1 with fail
     generalize w.alloc (.cells (pqC P al cl ag cg ao co aL cL) 68)=wA at *;obtain⟨x0,x1,x2,x3,x4,x5,x6,x7,x8,x9,x10,x11,x12,x13,x14,xf⟩:=hMA.all
     have c4:=h2.c4;go_quiet (fail);rename_i nq;have HSq:=ah (HSA.out.drewN nq);have hMHSq:=hMA.kp HSq.out.kp hgW;clear x0 x1 x2 x3 x4 x5 x6 x7 x8 x9 x10 x11 x12 x13 x14 xf c4;generalize wA.drewN nq=wq at *;obtain⟨x0,x1,x2,x3,x4,x5,x6,x7,x8,x9,x10,x11,x12,x13,x14,xf⟩:=hMHSq.all
     obtain⟨_,_,VHSq,rHSq,_,_⟩:=HSq.out
     have c3:=rHSq.c3;go_wp2_with fail;refine (HM.out _ HSq.out).mono ?_;rintro e w1 ⟨rfl,hs1⟩;have HS1:=ah hs1;clear hs1;have hM1:=hMA.kp HS1.out.kp hgW;obtain⟨_,_,_,_,_,_,_,_,_,_,_,_,_,_,_,_⟩:=hM1.all
     go_wp2_with fail;refine (qB HS1.out hR P.frm ho).mono ?_;rintro e w2 ⟨rfl,hs2⟩;have HS2:=ah hs2;clear hs2;have hM2:=hMA.kp HS2.out.kp hgW;obtain⟨_,_,_,_,_,_,_,_,_,_,_,_,_,_,_,_⟩:=hM2.all
     go_wp2_with fail;exact bodyPost_end (results_none rfl _ _ _) rfl ⟨rfl,by rw[HE.out];exact HK0.out _ _ HS2.out⟩
theorem GU (h:Rst w0 w b bl W F R) (hR:Ok R) (hP:dF w0 W F P vl vg vo vL) (hm:eF R.n P) (ho:R.out.length≤400000) (hk:P.kind=97) :
  Calls Tryz.prog 82 #[Zp (some ⟨b,0,O⟩),.agg (pmC P vl vg vo vL)] w fun e w'=>e=Zr (.tuple #[])∧Rst w0 w' b bl W F (R.resume P):=by
 obtain⟨W1,F1,V1,h1,k1,m1,p1⟩:=h.pm hP
 obtain⟨al,cl,ag,cg,ao,co,aL,cL,rfl,rfl,rfl,rfl⟩:=p1.cells
 have hbA:Below w.heap.size w (w.alloc (.cells (pqC P al cl ag cg ao co aL cL) 68)):=(Below.refl _ w).alloc (Nat.le_refl _) _
 have hMA:bB (w.alloc (.cells (pqC P al cl ag cg ao co aL cL) 68)) w.heap.size (pqC P al cl ag cg ao co aL cL):=⟨rfl,heap_alloc_new w _⟩
 have hPA:=p1.below hbA;have hgW:w.heap.size∉W1:=fun hc=>by have:=h1.wlt _ hc;omega
 have h2:=h1.below hbA;have HSA:=ah (Rst.refl h2);have HK0:Hid (∀ w' R',Rst (w.alloc (.cells (pqC P al cl ag cg ao co aL cL) 68)) w' b bl W1 F1 R'→Rst w0 w' b bl W F R'):=fun w' R' q=>Rst.step (k1.aF hbA) m1 q
 clear h p1 hP h1 hbA;simp only[pmC];obtain⟨R2,HR2⟩:∃ x:Rp,x={ R.enter P with answers:=[] }:=⟨_,rfl⟩
 have HE0:Hid (R.resume P=if R2.mem R.id then ((if (R2.over P.log).dS then R2.over P.log else (R2.over P.log).ack P.frm).bF P.commit) else { R2 with status:=4 }):=by subst HR2;rfl
 have HLg:=ah (Rp.nR hm (.inr (.inr hk)));have HOe:Hid (Ok R2):=by subst HR2;exact Rp.nP (Rp.nC hR (.inr hk) hm) (l:=[]) (by simp) (by simp)
 have HId:Hid (R2.id=R.id∧R2.n=R.n∧R2.out=R.out):=by subst HR2;exact⟨rfl,rfl,rfl⟩
 have HRh:=ah HR2;have HPm:=ah hm;clear hm hk HR2;cases hmem:R2.mem R.id
 ·have HE:Hid (R.resume P={ R2 with status:=4 }):=by unfold Hid;rw[HE0.out,hmem];rfl
  clear HE0;go_enter Tryz.func82,Tryz.ntmps82;go_upto_region 1 with fail
  generalize w.alloc (.cells (pqC P al cl ag cg ao co aL cL) 68)=wA at *;obtain⟨x0,x1,x2,x3,x4,x5,x6,x7,x8,x9,x10,x11,x12,x13,x14,xf⟩:=hMA.all
  have HEn:=ah (nH HSA.out hPA);simp only[pmC] at HEn;go_wp2_with fail;refine HEn.out.mono ?_;rintro e w1 ⟨rfl,hs1⟩;obtain⟨W2,F2,V2,h3,k3,m3⟩:=hs1
  have e63:=h3.c63;have ef63:=h3.free 63;have h4:=h3.lX (Y O 0 0) [] (Pms.nil _ _ _);have HS2:Hid (Rst wA (w1.setCell ⟨b,63,O⟩ (Y O 0 0)) b bl W1 F1 R2):=Rst.step k3 m3 (Rst.of (by rw[HRh.out];exact h4) (h3.nM _ _))
  have e0:(w1.setCell ⟨b,63,O⟩ (Y O 0 0)).cell? ⟨b,0,O⟩=some (I J R.id):=h4.c0
  have hM2:=hMA.kp HS2.out.kp hgW;clear x0 x1 x2 x3 x4 x5 x6 x7 x8 x9 x10 x11 x12 x13 x14 xf h3 h4 k3 m3;go_wp2_with fail;generalize w1.setCell ⟨b,63,O⟩ (Y O 0 0)=w2 at *;have HGo:=ah (Rp.fC HOe.out (l:=P.log) (by rw[HId.out.2.1];exact HLg.out))
  have hoR:R2.out.length≤400000:=by rw[HId.out.2.2];exact ho
  have HM3:=ah (dH HS2.out HOe.out R.id);rw[hmem] at HM3;refine HM3.out.mono ?_;rintro e w3 ⟨rfl,hs3⟩;obtain⟨W3,F3,V3,h3,k3,m3⟩:=hs3
  have e3:=h3.c3;have ef3:=h3.free 3;have HS4:Hid (Rst wA _ b bl W1 F1 { R2 with status:=4 }):=Rst.step k3 m3 (Rst.of (h3.iJ 4) (h3.nM _ _))
  clear h3 k3 m3;go_wp2_with fail;exact bodyPost_ret (results_none rfl _ _ _) rfl ⟨rfl,by rw[HE.out];exact HK0.out _ _ HS4.out⟩
 ·cases hpr:(R2.over P.log).dS
  ·have HE:Hid (R.resume P=((R2.over P.log).ack P.frm).bF P.commit):=by unfold Hid;rw[HE0.out,hmem,if_pos rfl,hpr];rfl
   clear HE0;go_enter Tryz.func82,Tryz.ntmps82;go_upto_region 1 with fail
   generalize w.alloc (.cells (pqC P al cl ag cg ao co aL cL) 68)=wA at *;obtain⟨x0,x1,x2,x3,x4,x5,x6,x7,x8,x9,x10,x11,x12,x13,x14,xf⟩:=hMA.all
   have HEn:=ah (nH HSA.out hPA);simp only[pmC] at HEn;go_wp2_with fail;refine HEn.out.mono ?_;rintro e w1 ⟨rfl,hs1⟩;obtain⟨W2,F2,V2,h3,k3,m3⟩:=hs1
   have e63:=h3.c63;have ef63:=h3.free 63;have h4:=h3.lX (Y O 0 0) [] (Pms.nil _ _ _);have HS2:Hid (Rst wA (w1.setCell ⟨b,63,O⟩ (Y O 0 0)) b bl W1 F1 R2):=Rst.step k3 m3 (Rst.of (by rw[HRh.out];exact h4) (h3.nM _ _))
   have e0:(w1.setCell ⟨b,63,O⟩ (Y O 0 0)).cell? ⟨b,0,O⟩=some (I J R.id):=h4.c0
   have hM2:=hMA.kp HS2.out.kp hgW;clear x0 x1 x2 x3 x4 x5 x6 x7 x8 x9 x10 x11 x12 x13 x14 xf h3 h4 k3 m3;go_wp2_with fail;generalize w1.setCell ⟨b,63,O⟩ (Y O 0 0)=w2 at *;have HGo:=ah (Rp.fC HOe.out (l:=P.log) (by rw[HId.out.2.1];exact HLg.out))
   have hoR:R2.out.length≤400000:=by rw[HId.out.2.2];exact ho
   have HM3:=ah (dH HS2.out HOe.out R.id);rw[hmem] at HM3;have HGa:=ah (Rp.jG HGo.out.ok P.frm);have hoO:(R2.over P.log).out.length≤400000:=hoR
   refine (HM3.out).mono ?_;rintro e w3 ⟨rfl,hs3⟩;have HS3:=ah hs3;clear hs3;have hM3:=hMA.kp HS3.out.kp hgW;obtain⟨_,_,_,_,_,_,_,_,_,_,_,_,_,_,_,_⟩:=hM3.all
   go_wp2_with fail;refine (jk HS3.out hPA (by rw[HId.out.2.1];exact HLg.out)).mono ?_
   rintro e w4 ⟨rfl,hs4⟩;have HS4:=ah hs4;clear hs4;have hM4:=hMA.kp HS4.out.kp hgW;obtain⟨_,_,_,_,_,_,_,_,_,_,_,_,_,_,_,_⟩:=hM4.all
   have HP5:=ah (fP HS4.out HGo.out.ok);rw[hpr] at HP5;go_wp2_with fail;refine (HP5.out).mono ?_;rintro e w5 ⟨rfl,hs5⟩;have HS5:=ah hs5;clear hs5;have hM5:=hMA.kp HS5.out.kp hgW;obtain⟨_,_,_,_,_,_,_,_,_,_,_,_,_,_,_,_⟩:=hM5.all
   go_wp2_with fail;refine (Bt HS5.out HGo.out.ok P.frm (by omega)).mono ?_
   rintro e w6 ⟨rfl,hs6⟩;have HS6:=ah hs6;clear hs6;have hM6:=hMA.kp HS6.out.kp hgW;obtain⟨_,_,_,_,_,_,_,_,_,_,_,_,_,_,_,_⟩:=hM6.all
   go_wp2_with fail;refine (iA HS6.out HGa.out.ok P.commit (Nat.le_trans HGa.out.out (by omega))).mono ?_
   rintro e w7 ⟨rfl,hs7⟩;have HS7:=ah hs7;clear hs7;have hM7:=hMA.kp HS7.out.kp hgW;obtain⟨_,_,_,_,_,_,_,_,_,_,_,_,_,_,_,_⟩:=hM7.all
   go_wp2_with fail;exact bodyPost_end (results_none rfl _ _ _) rfl ⟨rfl,by rw[HE.out];exact HK0.out _ _ HS7.out⟩
  ·have HE:Hid (R.resume P=(R2.over P.log).bF P.commit):=by unfold Hid;rw[HE0.out,hmem,if_pos rfl,hpr];rfl
   clear HE0;go_enter Tryz.func82,Tryz.ntmps82;go_upto_region 1 with fail
   generalize w.alloc (.cells (pqC P al cl ag cg ao co aL cL) 68)=wA at *;obtain⟨x0,x1,x2,x3,x4,x5,x6,x7,x8,x9,x10,x11,x12,x13,x14,xf⟩:=hMA.all
   have HEn:=ah (nH HSA.out hPA);simp only[pmC] at HEn;go_wp2_with fail;refine HEn.out.mono ?_;rintro e w1 ⟨rfl,hs1⟩;obtain⟨W2,F2,V2,h3,k3,m3⟩:=hs1
   have e63:=h3.c63;have ef63:=h3.free 63;have h4:=h3.lX (Y O 0 0) [] (Pms.nil _ _ _);have HS2:Hid (Rst wA (w1.setCell ⟨b,63,O⟩ (Y O 0 0)) b bl W1 F1 R2):=Rst.step k3 m3 (Rst.of (by rw[HRh.out];exact h4) (h3.nM _ _))
   have e0:(w1.setCell ⟨b,63,O⟩ (Y O 0 0)).cell? ⟨b,0,O⟩=some (I J R.id):=h4.c0
   have hM2:=hMA.kp HS2.out.kp hgW;clear x0 x1 x2 x3 x4 x5 x6 x7 x8 x9 x10 x11 x12 x13 x14 xf h3 h4 k3 m3;go_wp2_with fail;generalize w1.setCell ⟨b,63,O⟩ (Y O 0 0)=w2 at *;have HGo:=ah (Rp.fC HOe.out (l:=P.log) (by rw[HId.out.2.1];exact HLg.out))
   have hoR:R2.out.length≤400000:=by rw[HId.out.2.2];exact ho
   have HM3:=ah (dH HS2.out HOe.out R.id);rw[hmem] at HM3;have HGa:=ah (Rp.jG HGo.out.ok P.frm);have hoO:(R2.over P.log).out.length≤400000:=hoR
   refine (HM3.out).mono ?_;rintro e w3 ⟨rfl,hs3⟩;have HS3:=ah hs3;clear hs3;have hM3:=hMA.kp HS3.out.kp hgW;obtain⟨_,_,_,_,_,_,_,_,_,_,_,_,_,_,_,_⟩:=hM3.all
   go_wp2_with fail;refine (jk HS3.out hPA (by rw[HId.out.2.1];exact HLg.out)).mono ?_
   rintro e w4 ⟨rfl,hs4⟩;have HS4:=ah hs4;clear hs4;have hM4:=hMA.kp HS4.out.kp hgW;obtain⟨_,_,_,_,_,_,_,_,_,_,_,_,_,_,_,_⟩:=hM4.all
   have HP5:=ah (fP HS4.out HGo.out.ok);rw[hpr] at HP5;go_wp2_with fail;refine (HP5.out).mono ?_;rintro e w5 ⟨rfl,hs5⟩;have HS5:=ah hs5;clear hs5;have hM5:=hMA.kp HS5.out.kp hgW;obtain⟨_,_,_,_,_,_,_,_,_,_,_,_,_,_,_,_⟩:=hM5.all
   go_wp2_with fail;refine (iA HS5.out HGo.out.ok P.commit (by omega)).mono ?_
   rintro e w6 ⟨rfl,hs6⟩;have HS6:=ah hs6;clear hs6;have hM6:=hMA.kp HS6.out.kp hgW;obtain⟨_,_,_,_,_,_,_,_,_,_,_,_,_,_,_,_⟩:=hM6.all
   go_wp2_with fail;exact bodyPost_end (results_none rfl _ _ _) rfl ⟨rfl,by rw[HE.out];exact HK0.out _ _ HS6.out⟩
theorem zA (h:Rst w0 w b bl W F R) (hR:Ok R) (hP:dF w0 W F P vl vg vo vL) (ho:R.out.length≤500000)  :
  Calls Tryz.prog 143 #[Zp (some ⟨b,0,O⟩),.agg (pmC P vl vg vo vL)] w fun e w'=>e=Zr (.tuple #[])∧Rst w0 w' b bl W F (R.fG P):=by
 obtain⟨W1,F1,V1,h1,k1,m1,p1⟩:=h.pm hP
 obtain⟨al,cl,ag,cg,ao,co,aL,cL,rfl,rfl,rfl,rfl⟩:=p1.cells
 have hbA:Below w.heap.size w (w.alloc (.cells (pqC P al cl ag cg ao co aL cL) 68)):=(Below.refl _ w).alloc (Nat.le_refl _) _
 have hMA:bB (w.alloc (.cells (pqC P al cl ag cg ao co aL cL) 68)) w.heap.size (pqC P al cl ag cg ao co aL cL):=⟨rfl,heap_alloc_new w _⟩
 have hPA:=p1.below hbA;have hgW:w.heap.size∉W1:=fun hc=>by have:=h1.wlt _ hc;omega
 have h2:=h1.below hbA;have HSA:=ah (Rst.refl h2);have HK0:Hid (∀ w' R',Rst (w.alloc (.cells (pqC P al cl ag cg ao co aL cL) 68)) w' b bl W1 F1 R'→Rst w0 w' b bl W F R'):=fun w' R' q=>Rst.step (k1.aF hbA) m1 q
 clear h p1 hP h1 hbA;simp only[pmC];have HE0:Hid (R.fG P=if P.frm=R.jJ then (if (R.log.length:Int)<P.commit then R.bare P.frm 103 else R.bF P.commit) else R):=rfl
 cases hq:(P.frm==R.jJ)
 ·have hne:(P.frm != R.jJ)=true:=by simp[bne,hq]
  have HE:Hid (R.fG P=R):=by unfold Hid;rw[HE0.out,if_neg (by simpa using hq)]
  clear HE0;go_enter Tryz.func143,Tryz.ntmps143;go_upto_region 1 with fail
  generalize w.alloc (.cells (pqC P al cl ag cg ao co aL cL) 68)=wA at *;obtain⟨x0,x1,x2,x3,x4,x5,x6,x7,x8,x9,x10,x11,x12,x13,x14,xf⟩:=hMA.all
  have HPq:=ah (fun n=>fU (h2.drewN n) hR)
  go_wp2_with fail;go_quiet ((go_at_call 121;exact Calls.quiet_of (HPq.out _)))
  rename_i nq;have HSq:=ah (HSA.out.drewN nq);have hMHSq:=hMA.kp HSq.out.kp hgW;clear x0 x1 x2 x3 x4 x5 x6 x7 x8 x9 x10 x11 x12 x13 x14 xf;generalize wA.drewN nq=wq at *;obtain⟨x0,x1,x2,x3,x4,x5,x6,x7,x8,x9,x10,x11,x12,x13,x14,xf⟩:=hMHSq.all
  go_wp2_with fail;exact bodyPost_ret (results_none rfl _ _ _) rfl ⟨rfl,by rw[HE.out];exact HK0.out _ _ HSq.out⟩
 ·have hne:(P.frm != R.jJ)=false:=by simp[bne,hq]
  by_cases q2:(R.log.length:Int)<P.commit
  ·have HE:Hid (R.fG P=R.bare P.frm 103):=by unfold Hid;rw[HE0.out,if_pos (by simpa using hq),if_pos q2]
   clear HE0;go_enter Tryz.func143,Tryz.ntmps143;go_upto_region 1 with fail
   generalize w.alloc (.cells (pqC P al cl ag cg ao co aL cL) 68)=wA at *;obtain⟨x0,x1,x2,x3,x4,x5,x6,x7,x8,x9,x10,x11,x12,x13,x14,xf⟩:=hMA.all
   have HPq:=ah (fun n=>fU (h2.drewN n) hR)
   go_wp2_with fail;go_quiet ((go_at_call 121;exact Calls.quiet_of (HPq.out _)))
   rename_i nq;have HSq:=ah (HSA.out.drewN nq);have hMHSq:=hMA.kp HSq.out.kp hgW;clear x0 x1 x2 x3 x4 x5 x6 x7 x8 x9 x10 x11 x12 x13 x14 xf;generalize wA.drewN nq=wq at *;obtain⟨x0,x1,x2,x3,x4,x5,x6,x7,x8,x9,x10,x11,x12,x13,x14,xf⟩:=hMHSq.all
   obtain⟨_,_,VHSq,rHSq,_,_⟩:=HSq.out
   have c9:=rHSq.c9;obtain⟨aL9,cL9,hv9⟩:=rHSq.g9
   rw[hv9] at c9;clear rHSq;go_wp2_with fail;go_quiet (fail);rename_i nq;have HSr:=ah (HSq.out.drewN nq);have hMHSr:=hMA.kp HSr.out.kp hgW;clear x0 x1 x2 x3 x4 x5 x6 x7 x8 x9 x10 x11 x12 x13 x14 xf c9;generalize wq.drewN nq=wr at *;obtain⟨x0,x1,x2,x3,x4,x5,x6,x7,x8,x9,x10,x11,x12,x13,x14,xf⟩:=hMHSr.all
   go_wp2_with fail;refine (fu HSr.out hR P.frm 103 (by decide) (by omega)).mono ?_
   rintro e w1 ⟨rfl,hs1⟩;have HS1:=ah hs1;clear hs1;have hM1:=hMA.kp HS1.out.kp hgW;obtain⟨_,_,_,_,_,_,_,_,_,_,_,_,_,_,_,_⟩:=hM1.all
   go_wp2_with fail;exact bodyPost_ret (results_none rfl _ _ _) rfl ⟨rfl,by rw[HE.out];exact HK0.out _ _ HS1.out⟩
  ·have HE:Hid (R.fG P=R.bF P.commit):=by unfold Hid;rw[HE0.out,if_pos (by simpa using hq),if_neg q2]
   clear HE0;go_enter Tryz.func143,Tryz.ntmps143;go_upto_region 1 with fail
   generalize w.alloc (.cells (pqC P al cl ag cg ao co aL cL) 68)=wA at *;obtain⟨x0,x1,x2,x3,x4,x5,x6,x7,x8,x9,x10,x11,x12,x13,x14,xf⟩:=hMA.all
   have HPq:=ah (fun n=>fU (h2.drewN n) hR)
   go_wp2_with fail;go_quiet ((go_at_call 121;exact Calls.quiet_of (HPq.out _)))
   rename_i nq;have HSq:=ah (HSA.out.drewN nq);have hMHSq:=hMA.kp HSq.out.kp hgW;clear x0 x1 x2 x3 x4 x5 x6 x7 x8 x9 x10 x11 x12 x13 x14 xf;generalize wA.drewN nq=wq at *;obtain⟨x0,x1,x2,x3,x4,x5,x6,x7,x8,x9,x10,x11,x12,x13,x14,xf⟩:=hMHSq.all
   obtain⟨_,_,VHSq,rHSq,_,_⟩:=HSq.out
   have c9:=rHSq.c9;obtain⟨aL9,cL9,hv9⟩:=rHSq.g9
   rw[hv9] at c9;clear rHSq;go_wp2_with fail;go_quiet (fail);rename_i nq;have HSr:=ah (HSq.out.drewN nq);have hMHSr:=hMA.kp HSr.out.kp hgW;clear x0 x1 x2 x3 x4 x5 x6 x7 x8 x9 x10 x11 x12 x13 x14 xf c9;generalize wq.drewN nq=wr at *;obtain⟨x0,x1,x2,x3,x4,x5,x6,x7,x8,x9,x10,x11,x12,x13,x14,xf⟩:=hMHSr.all
   go_wp2_with fail;refine (iA HSr.out hR P.commit (by omega)).mono ?_
   rintro e w1 ⟨rfl,hs1⟩;have HS1:=ah hs1;clear hs1;have hM1:=hMA.kp HS1.out.kp hgW;obtain⟨_,_,_,_,_,_,_,_,_,_,_,_,_,_,_,_⟩:=hM1.all
   go_wp2_with fail;exact bodyPost_end (results_none rfl _ _ _) rfl ⟨rfl,by rw[HE.out];exact HK0.out _ _ HS1.out⟩
end
section
variable {w w0:World} {b bl:Nat} {W F:List Nat} {R:Rp} {V:Rv} {P:Pm} {vl vg vo vL:Value}
theorem GR (h:Rst w0 w b bl W F R) (hR:Ok R) (ho:R.out.length≤700000) :
  Calls Tryz.prog 98 #[Zp (some ⟨b,0,O⟩)] w fun e w'=>e=Zr (.tuple #[])∧Rst w0 w' b bl W F (R.jw):=by
 obtain⟨W1,F1,V1,h1,k1,m1⟩:=h
 have HE0:Hid (R.jw=if R.decided=R.log.length then R.gP R.grp { R.head 99 with commit:=R.decided } else Rp.mG (R.log.length-R.decided) R ((R.decided:Int)+1)):=rfl
 have c9:=h1.c9;have c10:=h1.c10;obtain⟨aL,cL,hvL⟩:=h1.g9
 rw[hvL] at c9;have hl10:=hR.lg;have hdc:=hR.dc;have hg5:=hR.g.1;have HS0:Hid (Rst w0 w b bl W F R):=⟨W1,F1,V1,h1,k1,m1⟩
 cases hq:((R.decided:Int)==(R.log.length:Int))
 ·have hne:¬R.decided=R.log.length:=by simp at hq;omega
  have HE:Hid (R.jw=Rp.mG (R.log.length-R.decided) R ((R.decided:Int)+1)):=by unfold Hid;rw[HE0.out,if_neg hne]
  have hw10:IntKind.i64.wrap ((R.decided:Int)+1)=(R.decided:Int)+1:=eB (by omega) (by omega)
  clear HE0 h1 k1 m1;go_enter Tryz.func98,Tryz.ntmps98;go_wp2_with fail;go_quiet (fail);rename_i nq;have HSq:=ah (HS0.out.drewN nq);clear c9;go_wp2_with fail;go_loopw [3] (fun i wr=>∃ (k:Nat) (Rk:Rp),k≤R.log.length-R.decided∧i=I J ((R.decided:Int)+1+k)∧Rst w0 wr b bl W F Rk∧Hid (Ok Rk∧Rk.log=R.log∧Rk.out.length≤R.out.length+5*k∧R.jw=Rp.mG (R.log.length-R.decided-k) Rk ((R.decided:Int)+1+k))) (fun i _=>R.log.length+1-(intOf i).toNat)
  case atStart=>exact⟨0,R,Nat.zero_le _,by go_num,HSq.out,⟨hR,rfl,by omega,by rw[HE.out];simp⟩⟩
  case round =>
   obtain⟨k,Rk,hk,rfl,hr,HI⟩:=hrel
   have HR:=ah hr;obtain⟨WQ,FQ,VQ,hQ,_,_⟩:=hr
   have d9:=hQ.c9;obtain⟨aL2,cL2,hvL2⟩:=hQ.g9
   rw[hvL2,show Rk.log.length=R.log.length from by rw[HI.out.2.1]] at d9
   clear hQ;by_cases hlt:k<R.log.length-R.decided
   ·have j1:(R.decided:Int)+1+(k:Int)≤(R.log.length:Int):=by omega
    have hw11:IntKind.i64.wrap ((R.decided:Int)+1+(k:Int)+1)=(R.decided:Int)+1+(k:Int)+1:=eB (by omega) (by omega)
    have HSe:=ah (sU HR.out HI.out.1 ((R.decided:Int)+1+k) (by omega) (by omega) (by have:=HI.out.2.2.1;omega))
    have HG:=ah (Rp.kE HI.out.1 ((R.decided:Int)+1+k));have HLe:Hid ((Rk.bL ((R.decided:Int)+1+k)).log=Rk.log):=by unfold Hid Rp.bL;split <;> rfl
    have HN:Hid (R.jw=Rp.mG (R.log.length-R.decided-(k+1)) (Rk.bL ((R.decided:Int)+1+k)) ((R.decided:Int)+1+(k+1:Nat))):=by
     unfold Hid;rw[HI.out.2.2.2];obtain⟨f,hf⟩:∃ f,R.log.length-R.decided-k=f+1:=⟨R.log.length-R.decided-k-1,by omega⟩
     rw[hf,show R.log.length-R.decided-(k+1)=f by omega,show (R.decided:Int)+1+((k+1:Nat):Int)=(R.decided:Int)+1+(k:Int)+1 by omega]
     rfl
    go_wp2_with fail;refine HSe.out.mono ?_;rintro e w5 ⟨rfl,hs5⟩;have HS5:=ah hs5;clear hs5;go_wp2_with fail;go_roundw
    case rel=>exact⟨k+1,_,by omega,by rw[show (R.decided:Int)+1+((k+1:Nat):Int)=(R.decided:Int)+1+(k:Int)+1 by omega],HS5.out,⟨HG.out.ok,HLe.out.trans HI.out.2.1,by have:=HG.out.out;have:=HI.out.2.2.1;omega,HN.out⟩⟩
    case measure=>simp[intOf];omega
   ·have j1:¬(R.decided:Int)+1+(k:Int)≤(R.log.length:Int):=by omega
    have HN:Hid (R.jw=Rk):=by
     unfold Hid;rw[HI.out.2.2.2,show R.log.length-R.decided-k=0 by omega];rfl
    go_wp2_with fail;exact bodyPost_end (results_none rfl _ _ _) rfl ⟨rfl,by rw[HN.out];exact HR.out⟩
 ·have heq:R.decided=R.log.length:=by simp at hq;omega
  have HE:Hid (R.jw=R.gP R.grp { R.head 99 with commit:=R.decided }):=by unfold Hid;rw[HE0.out,if_pos heq]
  clear HE0 heq;obtain⟨cl,hvl⟩:=h1.g2
  obtain⟨ag,cg,hvg⟩:=h1.g7
  have H1:=ah h1;have HK1:Hid (∀ w' R',Rst w w' b bl W1 F1 R'→Rst w0 w' b bl W F R'):=fun w' R' q=>Rst.step k1 m1 q
  clear h1 k1 m1;go_enter Tryz.func98,Tryz.ntmps98;go_wp2_with fail;go_quiet (fail);rename_i nq;have hbq:Below w.heap.size w (w.drewN nq):=below_drewN (Below.refl _ w) nq
  have hQ:=H1.out.below hbq;clear c9 c10;generalize w.drewN nq=wq at *;have HH:=ah (jY hQ 99);rw[hvl] at HH;have HSO:Hid (∀ w',Below wq.heap.size wq w'→Calls Tryz.prog 124 #[Zp (some ⟨b,0,O⟩),Y ag R.grp.length cg,.agg #[I .u8 99,I J R.id,Y (some ⟨bl,0,O⟩) R.lives.length cl,I J R.epoch,I J R.view,I J 0,I J 0,I J 0,Z ⟨#[]⟩,I J (R.decided:Int),I J 0,I J 0,Y O 0 0,Y O 0 0,Y O 0 0]] w' fun e w''=>e=Zr (.tuple #[])∧Rst w0 w'' b bl W F (R.gP R.grp { R.head 99 with commit:=R.decided })):=fun w' hb=>by
   have hw:=hQ.below hb;have hh:lu w' { R.head 99 with commit:=R.decided } V1.vl (Y O 0 0) (Y O 0 0) (Y O 0 0):=⟨hw.lives.rd,fH _,fH _,oV _⟩
   have hf:=hw.frH;have hg:=hw.grp;have hgf:=hw.frS hw.sg.fr;rw[hvl] at hh hf;rw[hvg] at hg hgf;exact (iT hw _ R.grp { R.head 99 with commit:=R.decided } _ _ _ _ ((Gn hR).pw hR) hh hf hg hgf (by omega) (by omega)).mono (fun e w'' q=>⟨q.1,HK1.out _ _ (Rst.pre (Kp.of_below (hbq.trans (hb.mono hbq.size))) (Snt.rst hw q.2))⟩)
  go_wp2_with fail;refine HH.out.mono ?_;rintro e w1 ⟨rfl,hb1⟩;have h2:=hQ.below hb1;have cgr:=h2.c7;rw[hvg] at cgr;have d10:=h2.c10;have hlb:=h2.lb;have hal:=fun o=>(Below.refl w1.heap.size w1).alloc (Nat.le_refl _) o
  have m10:=fun o=>((hal o).cell (p:=⟨b,10,O⟩) hlb).trans d10
  simp only[pmC,Rp.head,pm0];clear hal h2;go_wp2_with fail;have hbF:Below w1.heap.size w1 (w1.alloc (.cells #[I .u8 99,I J R.id,Y (some ⟨bl,0,O⟩) R.lives.length cl,I J R.epoch,I J R.view,I J 0,I J 0,I J 0,Z ⟨#[]⟩,I J (R.decided:Int),I J 0,I J 0,Y O 0 0,Y O 0 0,Y O 0 0] 68)):=(Below.refl _ w1).alloc (Nat.le_refl _) _
  have hM:bB (w1.alloc (.cells #[I .u8 99,I J R.id,Y (some ⟨bl,0,O⟩) R.lives.length cl,I J R.epoch,I J R.view,I J 0,I J 0,I J 0,Z ⟨#[]⟩,I J (R.decided:Int),I J 0,I J 0,Y O 0 0,Y O 0 0,Y O 0 0] 68)) w1.heap.size #[I .u8 99,I J R.id,Y (some ⟨bl,0,O⟩) R.lives.length cl,I J R.epoch,I J R.view,I J 0,I J 0,I J 0,Z ⟨#[]⟩,I J (R.decided:Int),I J 0,I J 0,Y O 0 0,Y O 0 0,Y O 0 0]:=⟨rfl,heap_alloc_new w1 _⟩
  have hb0D:Below wq.heap.size wq (w1.alloc (.cells #[I .u8 99,I J R.id,Y (some ⟨bl,0,O⟩) R.lives.length cl,I J R.epoch,I J R.view,I J 0,I J 0,I J 0,Z ⟨#[]⟩,I J (R.decided:Int),I J 0,I J 0,Y O 0 0,Y O 0 0,Y O 0 0] 68)).drew:=hb1.trans (hbF.drew.mono hb1.size)
  have HS2:=ah (HSO.out _ hb0D);have cg7:=((hbF).cell (p:=⟨b,7,O⟩) hlb).trans cgr;obtain⟨x0,x1,x2,x3,x4,x5,x6,x7,x8,x9,x10,x11,x12,x13,x14,xf⟩:=hM.all
  clear hbF hM hb0D m10;generalize w1.alloc (.cells #[I .u8 99,I J R.id,Y (some ⟨bl,0,O⟩) R.lives.length cl,I J R.epoch,I J R.view,I J 0,I J 0,I J 0,Z ⟨#[]⟩,I J (R.decided:Int),I J 0,I J 0,Y O 0 0,Y O 0 0,Y O 0 0] 68)=w2 at *;go_region_with (go_at_call 124;refine HS2.out.mono ?_;rintro r w3 ⟨rfl,hs3⟩)
  all_goals
   have HS:=ah hs3;clear hs3;go_wp2_with fail;exact bodyPost_ret (results_none rfl _ _ _) rfl ⟨rfl,by rw[HE.out];exact HS.out⟩
theorem Lj (h:Rst w0 w b bl W F R) (hR:Ok R) (ho:R.out.length≤700000) :
  Calls Tryz.prog 101 #[Zp (some ⟨b,0,O⟩)] w fun e w'=>e=Zr (.tuple #[])∧Rst w0 w' b bl W F (R.ask):=by
 obtain⟨nn,hnn⟩:∃ m:Nat,R.n=m:=⟨R.n.toNat,by have:=hR.n3;omega⟩
 have n7:nn≤7:=by have:=hR.n7;omega
 have HL:Hid (R.ask=(List.range nn).foldl Rp.oO R):=by unfold Hid Rp.ask;rw[hnn];rfl
 have HS:Hid (∀ k,(List.range (k+1)).foldl Rp.oO R=Rp.oO ((List.range k).foldl Rp.oO R) k):=fun k=>by rw[List.range_succ,List.foldl_append];rfl
 have HG:Hid (∀ k,Gd R ((List.range k).foldl Rp.oO R) k):=fun k=>by have:=Rp.Ay (List.range k) R hR;simpa using this
 have Hn:=ah hnn;clear hnn;go_enter Tryz.func101,Tryz.ntmps101;go_wp2_with fail;go_loopw [2] (fun i wr=>∃ k:Nat,k≤nn∧i=I J k∧Rst w0 wr b bl W F ((List.range k).foldl Rp.oO R)) (fun i _=>nn-(intOf i).toNat)
 case atStart=>exact⟨0,Nat.zero_le _,rfl,h⟩
 case round =>
  obtain⟨k,hk,rfl,hr⟩:=hrel
  have HR:=ah hr;have HGk:=ah (HG.out k);have HSk:=ah (HS.out k);obtain⟨WQ,FQ,VQ,hQ,_,_⟩:=hr
  have c0:=hQ.c0;have c1:=hQ.c1;rw[HGk.out.id] at c0;rw[HGk.out.n,Hn.out] at c1;clear hQ;have HRk:Hid (∃ x,x=(List.range k).foldl Rp.oO R):=⟨_,rfl⟩
  obtain⟨Rk,hRk⟩:=HRk.out
  have HRe:=ah hRk;rw[← hRk] at HR HGk HSk;clear hRk HRk;by_cases hlt:k<nn
  ·have j1:(k:Int)<(nn:Int):=by omega
   have HA:Hid (Rp.oO Rk k=if (k:Int) != Rk.id then Rk.bare k 114 else Rk):=rfl
   rw[HGk.out.id] at HA;cases hq:((k:Int)==R.id)
   ·have hne:((k:Int) != R.id)=true:=by simp[bne,hq]
    rw[hne,if_pos rfl] at HA;go_wp2_with fail;refine (fu HR.out HGk.out.ok k 114 (by decide) (by have:=HGk.out.out;omega)).mono ?_
    rintro e w2 ⟨rfl,hs2⟩;have HS2:=ah hs2;clear hs2;go_wp2_with fail;go_roundw
    case rel=>exact⟨k+1,by omega,by go_num,by rw[HSk.out,HA.out];exact HS2.out⟩
    case measure=>simp[intOf];omega
   ·have hne:((k:Int) != R.id)=false:=by simp[bne,hq]
    rw[hne,if_neg (by decide)] at HA
    go_wp2_with fail;go_roundw
    case rel=>exact⟨k+1,by omega,by go_num,by rw[HSk.out,HA.out];exact HR.out⟩
    case measure=>simp[intOf];omega
  ·have j1:¬(k:Int)<(nn:Int):=by omega
   have hkn:k=nn:=by omega
   have HF:Hid (R.ask=Rk):=by unfold Hid;rw[HL.out,← hkn];exact HRe.out.symm
   go_wp2_with fail;exact bodyPost_end (results_none rfl _ _ _) rfl ⟨rfl,by rw[HF.out];exact HR.out⟩
end
end Go.Proofs.YtajakaadgagejaaGreatDoor
