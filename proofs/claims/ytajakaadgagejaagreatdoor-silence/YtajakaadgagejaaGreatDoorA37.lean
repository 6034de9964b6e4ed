import Derived.Test.YtajakaadgagejaaGreatDoorA30
import Derived.Test.YtajakaadgagejaaGreatDoorA36
import Derived.Test.YtajakaadgagejaaGreatDoorA18
set_option maxRecDepth 100000
set_option maxHeartbeats 8000000
set_option linter.unusedVariables false
set_option linter.unusedSimpArgs false
set_option linter.unusedSectionVars false
namespace Go.Proofs.YtajakaadgagejaaGreatDoor
open Go.Value renaming int→I,slice→Y,string→Z,pointer→Zp
open Go.Ending renaming returned→Zr
open _root_.ByteArray renaming empty→Ze
open Go.IntKind renaming i64→J
open Option renaming none→O
open Go.RowKit
section
variable {w w0:World} {b bl:Nat} {W F:List Nat} {R:Rp} {V:Rv} {P:Pm} {vl vg vo vL:Value}
theorem Bw (h:Rst w0 w b bl W F R) (hR:Ok R) (hP:dF w0 W F P vl vg vo vL) (hm:eF R.n P)  :
  Calls Tryz.prog 51 #[Zp (some ⟨b,0,O⟩),.agg (pmC P vl vg vo vL)] w fun e w'=>e=Zr (.tuple #[])∧Rst w0 w' b bl W F (R.fZ P):=by
 obtain⟨W1,F1,V1,h1,k1,m1,p1⟩:=h.pm hP
 obtain⟨al,cl,ag,cg,ao,co,aL,cL,rfl,rfl,rfl,rfl⟩:=p1.cells
 have hbA:Below w.heap.size w (w.alloc (.cells (pqC P al cl ag cg ao co aL cL) 68)):=(Below.refl _ w).alloc (Nat.le_refl _) _
 have hMA:bB (w.alloc (.cells (pqC P al cl ag cg ao co aL cL) 68)) w.heap.size (pqC P al cl ag cg ao co aL cL):=⟨rfl,heap_alloc_new w _⟩
 have hPA:=p1.below hbA;have hgW:w.heap.size∉W1:=fun hc=>by have:=h1.wlt _ hc;omega
 have h2:=h1.below hbA;have HSA:=ah (Rst.refl h2);have HK0:Hid (∀ w' R',Rst (w.alloc (.cells (pqC P al cl ag cg ao co aL cL) 68)) w' b bl W1 F1 R'→Rst w0 w' b bl W F R'):=fun w' R' q=>Rst.step (k1.aF hbA) m1 q
 clear h p1 hP h1 hbA;simp only[pmC];have HE0:Hid (R.fZ P=if (R.status==5)&&(P.epoch==R.epoch)&&R.mem P.frm then (if gG R.grp<(Rp.starters (R.started.set P.frm.toNat true):Int) then { R with started:=R.started.set P.frm.toNat true,status:=4 } else { R with started:=R.started.set P.frm.toNat true }) else R):=rfl
 have f0:=hm.f0;have f7:P.frm<7:=by have:=hm.f1;have:=hR.n7;omega
 have hg5:=hR.g.1;have HMq:Hid (∀ n,Calls Tryz.prog 17 #[Zp (some ⟨b,0,O⟩),I J P.frm] ((w.alloc (.cells (pqC P al cl ag cg ao co aL cL) 68)).drewN n) fun e w'=>e=Zr (.bool (R.mem P.frm))∧w'=(w.alloc (.cells (pqC P al cl ag cg ao co aL cL) 68)).drewN n):=fun n=>kM (h2.drewN n) hR P.frm
 clear hm;cases hs:(R.status==5)
 ·have hne:(R.status != 5)=true:=by simp[bne,hs]
  have HE:Hid (R.fZ P=R):=by unfold Hid;rw[HE0.out,hs];rfl
  clear HE0;go_enter Tryz.func51,Tryz.ntmps51;go_upto_region 1 with fail
  generalize w.alloc (.cells (pqC P al cl ag cg ao co aL cL) 68)=wA at *;obtain⟨x0,x1,x2,x3,x4,x5,x6,x7,x8,x9,x10,x11,x12,x13,x14,xf⟩:=hMA.all
  have c3:=h2.c3;have c4:=h2.c4;go_wp2_with fail;go_quiet ((go_at_call 17;exact Calls.quiet_of_same (HMq.out _)))
  rename_i nq;have HSq:=ah (HSA.out.drewN nq);have hMHSq:=hMA.kp HSq.out.kp hgW;clear x0 x1 x2 x3 x4 x5 x6 x7 x8 x9 x10 x11 x12 x13 x14 xf c3 c4;generalize wA.drewN nq=wq at *;obtain⟨x0,x1,x2,x3,x4,x5,x6,x7,x8,x9,x10,x11,x12,x13,x14,xf⟩:=hMHSq.all
  go_wp2_with fail;exact bodyPost_ret (results_none rfl _ _ _) rfl ⟨rfl,by rw[HE.out];exact HK0.out _ _ HSq.out⟩
 ·have hne:(R.status != 5)=false:=by simp[bne,hs]
  cases ep:(P.epoch==R.epoch)
  ·have hne2:(P.epoch != R.epoch)=true:=by simp[bne,ep]
   have HE:Hid (R.fZ P=R):=by unfold Hid;rw[HE0.out,hs,ep];rfl
   clear HE0;go_enter Tryz.func51,Tryz.ntmps51;go_upto_region 1 with fail
   generalize w.alloc (.cells (pqC P al cl ag cg ao co aL cL) 68)=wA at *;obtain⟨x0,x1,x2,x3,x4,x5,x6,x7,x8,x9,x10,x11,x12,x13,x14,xf⟩:=hMA.all
   have c3:=h2.c3;have c4:=h2.c4;go_wp2_with fail;go_quiet ((go_at_call 17;exact Calls.quiet_of_same (HMq.out _)))
   rename_i nq;have HSq:=ah (HSA.out.drewN nq);have hMHSq:=hMA.kp HSq.out.kp hgW;clear x0 x1 x2 x3 x4 x5 x6 x7 x8 x9 x10 x11 x12 x13 x14 xf c3 c4;generalize wA.drewN nq=wq at *;obtain⟨x0,x1,x2,x3,x4,x5,x6,x7,x8,x9,x10,x11,x12,x13,x14,xf⟩:=hMHSq.all
   go_wp2_with fail;exact bodyPost_ret (results_none rfl _ _ _) rfl ⟨rfl,by rw[HE.out];exact HK0.out _ _ HSq.out⟩
  ·have hne2:(P.epoch != R.epoch)=false:=by simp[bne,ep]
   cases hmem:R.mem P.frm
   ·have HE:Hid (R.fZ P=R):=by unfold Hid;rw[HE0.out,hs,ep,hmem];rfl
    rw[hmem] at HMq;clear HE0;go_enter Tryz.func51,Tryz.ntmps51;go_upto_region 1 with fail
    generalize w.alloc (.cells (pqC P al cl ag cg ao co aL cL) 68)=wA at *;obtain⟨x0,x1,x2,x3,x4,x5,x6,x7,x8,x9,x10,x11,x12,x13,x14,xf⟩:=hMA.all
    have c3:=h2.c3;have c4:=h2.c4;go_wp2_with fail;go_quiet ((go_at_call 17;exact Calls.quiet_of_same (HMq.out _)))
    rename_i nq;have HSq:=ah (HSA.out.drewN nq);have hMHSq:=hMA.kp HSq.out.kp hgW;clear x0 x1 x2 x3 x4 x5 x6 x7 x8 x9 x10 x11 x12 x13 x14 xf c3 c4;generalize wA.drewN nq=wq at *;obtain⟨x0,x1,x2,x3,x4,x5,x6,x7,x8,x9,x10,x11,x12,x13,x14,xf⟩:=hMHSq.all
    go_wp2_with fail;exact bodyPost_ret (results_none rfl _ _ _) rfl ⟨rfl,by rw[HE.out];exact HK0.out _ _ HSq.out⟩
   ·have HE1:Hid (R.fZ P=if gG R.grp<(Rp.starters (R.started.set P.frm.toNat true):Int) then { R with started:=R.started.set P.frm.toNat true,status:=4 } else { R with started:=R.started.set P.frm.toNat true }):=by unfold Hid;rw[HE0.out,hs,ep,hmem];rfl
    rw[hmem] at HMq;clear HE0;go_enter Tryz.func51,Tryz.ntmps51;go_upto_region 1 with fail
    generalize w.alloc (.cells (pqC P al cl ag cg ao co aL cL) 68)=wA at *;obtain⟨x0,x1,x2,x3,x4,x5,x6,x7,x8,x9,x10,x11,x12,x13,x14,xf⟩:=hMA.all
    have c3:=h2.c3;have c4:=h2.c4;go_wp2_with fail;go_quiet ((go_at_call 17;exact Calls.quiet_of_same (HMq.out _)))
    rename_i nq;have HSq:=ah (HSA.out.drewN nq);have hMHSq:=hMA.kp HSq.out.kp hgW;clear x0 x1 x2 x3 x4 x5 x6 x7 x8 x9 x10 x11 x12 x13 x14 xf c3 c4;generalize wA.drewN nq=wq at *;obtain⟨x0,x1,x2,x3,x4,x5,x6,x7,x8,x9,x10,x11,x12,x13,x14,xf⟩:=hMHSq.all
    obtain⟨WQ,FQ,VQ,hQ,kQ,mQ⟩:=HSq.out
    have hst:=hQ.st;have ca:∃ v,wq.cell? ⟨b,64+P.frm.toNat,O⟩=some v:=⟨_,hQ.cst P.frm.toNat (by omega)⟩
    obtain⟨va,ca⟩:=ca
    have cf:=hQ.free (64+P.frm.toNat);have HS9:Hid (Rst wA (wq.setCell ⟨b,64+P.frm.toNat,O⟩ (.bool true)) b bl W1 F1 { R with started:=R.started.set P.frm.toNat true }):=Rst.step kQ mQ (Rst.of (hQ.setSt P.frm.toNat (by omega) true) (hQ.nM _ _))
    clear hQ kQ mQ hst;go_upto_region 2 with fail
    go_cut [] from 4 (fun wx=>Rst wA wx b bl W1 F1 { R with started:=R.started.set P.frm.toNat true })
    case first =>
     go_region
     all_goals go_wp2_with fail
     all_goals go_meet
     all_goals exact HS9.out.drew
    case rest =>
     have HSs:=ah hcut;obtain⟨w9,Hw9⟩:∃ x,x=wc:=⟨_,rfl⟩
     subst Hw9;obtain⟨WS,FSs,VS,hS,kS,mS⟩:=HSs.out
     have c7:=hS.c7;obtain⟨a7,cp7,hv7⟩:=hS.g7
     have hgI:=hS.grp;simp only at hv7 hgI
     rw[hv7] at c7 hgI;have HFa:Hid (∀ n,Calls Tryz.prog 90 #[Y a7 R.grp.length cp7] (w9.drewN n) fun e w'=>e=Zr (I J (gG R.grp))∧w'=w9.drewN n):=fun n=>nW _ R.grp _ (hgI.below (below_drewN (Below.refl _ _) n)) (by omega)
     have HSt:Hid (∀ n,Calls Tryz.prog 89 #[Zp (some ⟨b,0,O⟩)] (w9.drewN n) fun e w'=>e=Zr (I J (Rp.starters (R.started.set P.frm.toNat true):Int))∧w'=w9.drewN n):=fun n=>Bq (hS.drewN n)
     clear hcut x0 x1 x2 x3 x4 x5 x6 x7 x8 x9 x10 x11 x12 x13 x14 xf ca cf hS kS mS hgI;generalize Rp.starters (R.started.set P.frm.toNat true)=st at *;by_cases hq:gG R.grp<(st:Int)
     ·have HE:=ah HE1.out;rw[if_pos hq] at HE;go_wp2_with fail;go_quiet (first|(go_at_call 90;exact Calls.quiet_of_same (HFa.out _))|(go_at_call 89;exact Calls.quiet_of_same (HSt.out _)))
      rename_i nq;have HSt2:=ah (HSs.out.drewN nq);obtain⟨WT,FT,VT,hT,kT,mT⟩:=HSt2.out
      have t3:=hT.c3;have tf3:=hT.free 3;have HS10:Hid (Rst wA _ b bl W1 F1 { R with started:=R.started.set P.frm.toNat true,status:=4 }):=Rst.step kT mT (Rst.of (hT.iJ 4) (hT.nM _ _))
      clear hT kT mT c7;generalize w9.drewN nq=w10 at *;go_wp2_with fail;exact bodyPost_end (results_none rfl _ _ _) rfl ⟨rfl,by rw[HE.out];exact HK0.out _ _ HS10.out⟩
     ·have HE:=ah HE1.out;rw[if_neg hq] at HE;go_wp2_with fail;go_quiet (first|(go_at_call 90;exact Calls.quiet_of_same (HFa.out _))|(go_at_call 89;exact Calls.quiet_of_same (HSt.out _)))
      rename_i nq;have HS10:=ah (HSs.out.drewN nq);go_wp2_with fail;exact bodyPost_end (results_none rfl _ _ _) rfl ⟨rfl,by rw[HE.out];exact HK0.out _ _ HS10.out⟩
theorem zC (h:Rst w0 w b bl W F R) (hR:Ok R) (hP:dF w0 W F P vl vg vo vL) (hm:eF R.n P) (ho:R.out.length≤400000)  :
  Calls Tryz.prog 94 #[Zp (some ⟨b,0,O⟩),.agg (pmC P vl vg vo vL)] w fun e w'=>e=Zr (.tuple #[])∧Rst w0 w' b bl W F (R.cK P):=by
 obtain⟨W1,F1,V1,h1,k1,m1,p1⟩:=h.pm hP
 obtain⟨al,cl,ag,cg,ao,co,aL,cL,rfl,rfl,rfl,rfl⟩:=p1.cells
 have hbA:Below w.heap.size w (w.alloc (.cells (pqC P al cl ag cg ao co aL cL) 68)):=(Below.refl _ w).alloc (Nat.le_refl _) _
 have hMA:bB (w.alloc (.cells (pqC P al cl ag cg ao co aL cL) 68)) w.heap.size (pqC P al cl ag cg ao co aL cL):=⟨rfl,heap_alloc_new w _⟩
 have hPA:=p1.below hbA;have hgW:w.heap.size∉W1:=fun hc=>by have:=h1.wlt _ hc;omega
 have h2:=h1.below hbA;have HSA:=ah (Rst.refl h2);have HK0:Hid (∀ w' R',Rst (w.alloc (.cells (pqC P al cl ag cg ao co aL cL) 68)) w' b bl W1 F1 R'→Rst w0 w' b bl W F R'):=fun w' R' q=>Rst.step (k1.aF hbA) m1 q
 clear h p1 hP h1 hbA;simp only[pmC];have HE0:Hid (R.cK P=if P.kind=103 then R.tell P.frm else if R.mem P.frm then (if P.kind=112 then R.dZ P else if P.kind=99 then R.fG P else if P.kind=107 then R.jf P else if P.kind=104∨P.kind=118 then R.tell P.frm else R) else R):=rfl
 have HPm:=ah hm;clear hm;cases k1:(P.kind==103)
 ·have HM:=ah (dH HSA.out hR P.frm);cases hmem:R.mem P.frm
  ·rw[hmem] at HM;have HE:Hid (R.cK P=R):=by unfold Hid;rw[HE0.out,if_neg (by simpa using k1),hmem,if_neg (by decide)]
   clear HE0;go_enter Tryz.func94,Tryz.ntmps94;go_upto_region 1 with fail
   generalize w.alloc (.cells (pqC P al cl ag cg ao co aL cL) 68)=wA at *;obtain⟨x0,x1,x2,x3,x4,x5,x6,x7,x8,x9,x10,x11,x12,x13,x14,xf⟩:=hMA.all
   go_wp2_with fail;refine (HM.out).mono ?_;rintro e w1 ⟨rfl,hs1⟩;have HS1:=ah hs1;clear hs1;have hM1:=hMA.kp HS1.out.kp hgW;obtain⟨_,_,_,_,_,_,_,_,_,_,_,_,_,_,_,_⟩:=hM1.all
   go_wp2_with fail;exact bodyPost_ret (results_none rfl _ _ _) rfl ⟨rfl,by rw[HE.out];exact HK0.out _ _ HS1.out⟩
  ·rw[hmem] at HM;cases k2:(P.kind==112)
   ·cases k3:(P.kind==99)
    ·cases k4:(P.kind==107)
     ·cases k5:(P.kind==104)
      ·cases k6:(P.kind==118)
       ·have HE:Hid (R.cK P=R):=by unfold Hid;rw[HE0.out,if_neg (by simpa using k1),hmem,if_pos rfl,if_neg (by simpa using k2),if_neg (by simpa using k3),if_neg (by simpa using k4),if_neg (by simp at k5 k6;omega)]
        clear HE0;go_enter Tryz.func94,Tryz.ntmps94;go_upto_region 1 with fail
        generalize w.alloc (.cells (pqC P al cl ag cg ao co aL cL) 68)=wA at *;obtain⟨x0,x1,x2,x3,x4,x5,x6,x7,x8,x9,x10,x11,x12,x13,x14,xf⟩:=hMA.all
        go_wp2_with fail;refine (HM.out).mono ?_;rintro e w1 ⟨rfl,hs1⟩;have HS1:=ah hs1;clear hs1;have hM1:=hMA.kp HS1.out.kp hgW;obtain⟨_,_,_,_,_,_,_,_,_,_,_,_,_,_,_,_⟩:=hM1.all
        go_wp2_with fail;exact bodyPost_end (results_none rfl _ _ _) rfl ⟨rfl,by rw[HE.out];exact HK0.out _ _ HS1.out⟩
       ·have HE:Hid (R.cK P=R.tell P.frm):=by unfold Hid;rw[HE0.out,if_neg (by simpa using k1),hmem,if_pos rfl,if_neg (by simpa using k2),if_neg (by simpa using k3),if_neg (by simpa using k4),if_pos (.inr (by simpa using k6))]
        clear HE0;go_enter Tryz.func94,Tryz.ntmps94;go_upto_region 1 with fail
        generalize w.alloc (.cells (pqC P al cl ag cg ao co aL cL) 68)=wA at *;obtain⟨x0,x1,x2,x3,x4,x5,x6,x7,x8,x9,x10,x11,x12,x13,x14,xf⟩:=hMA.all
        go_wp2_with fail;refine (HM.out).mono ?_;rintro e w1 ⟨rfl,hs1⟩;have HS1:=ah hs1;clear hs1;have hM1:=hMA.kp HS1.out.kp hgW;obtain⟨_,_,_,_,_,_,_,_,_,_,_,_,_,_,_,_⟩:=hM1.all
        go_wp2_with fail;refine (qB HS1.out hR P.frm (by omega)).mono ?_
        rintro e w2 ⟨rfl,hs2⟩;have HS2:=ah hs2;clear hs2;have hM2:=hMA.kp HS2.out.kp hgW;obtain⟨_,_,_,_,_,_,_,_,_,_,_,_,_,_,_,_⟩:=hM2.all
        go_wp2_with fail;exact bodyPost_end (results_none rfl _ _ _) rfl ⟨rfl,by rw[HE.out];exact HK0.out _ _ HS2.out⟩
      ·have HE:Hid (R.cK P=R.tell P.frm):=by unfold Hid;rw[HE0.out,if_neg (by simpa using k1),hmem,if_pos rfl,if_neg (by simpa using k2),if_neg (by simpa using k3),if_neg (by simpa using k4),if_pos (.inl (by simpa using k5))]
       clear HE0;go_enter Tryz.func94,Tryz.ntmps94;go_upto_region 1 with fail
       generalize w.alloc (.cells (pqC P al cl ag cg ao co aL cL) 68)=wA at *;obtain⟨x0,x1,x2,x3,x4,x5,x6,x7,x8,x9,x10,x11,x12,x13,x14,xf⟩:=hMA.all
       go_wp2_with fail;refine (HM.out).mono ?_;rintro e w1 ⟨rfl,hs1⟩;have HS1:=ah hs1;clear hs1;have hM1:=hMA.kp HS1.out.kp hgW;obtain⟨_,_,_,_,_,_,_,_,_,_,_,_,_,_,_,_⟩:=hM1.all
       go_wp2_with fail;refine (qB HS1.out hR P.frm (by omega)).mono ?_
       rintro e w2 ⟨rfl,hs2⟩;have HS2:=ah hs2;clear hs2;have hM2:=hMA.kp HS2.out.kp hgW;obtain⟨_,_,_,_,_,_,_,_,_,_,_,_,_,_,_,_⟩:=hM2.all
       go_wp2_with fail;exact bodyPost_end (results_none rfl _ _ _) rfl ⟨rfl,by rw[HE.out];exact HK0.out _ _ HS2.out⟩
     ·have HE:Hid (R.cK P=R.jf P):=by unfold Hid;rw[HE0.out,if_neg (by simpa using k1),hmem,if_pos rfl,if_neg (by simpa using k2),if_neg (by simpa using k3),if_pos (by simpa using k4)]
      clear HE0;go_enter Tryz.func94,Tryz.ntmps94;go_upto_region 1 with fail
      generalize w.alloc (.cells (pqC P al cl ag cg ao co aL cL) 68)=wA at *;obtain⟨x0,x1,x2,x3,x4,x5,x6,x7,x8,x9,x10,x11,x12,x13,x14,xf⟩:=hMA.all
      go_wp2_with fail;refine (HM.out).mono ?_;rintro e w1 ⟨rfl,hs1⟩;have HS1:=ah hs1;clear hs1;have hM1:=hMA.kp HS1.out.kp hgW;obtain⟨_,_,_,_,_,_,_,_,_,_,_,_,_,_,_,_⟩:=hM1.all
      have HC:=ah (EA HS1.out hR hPA HPm.out (by omega))
      simp only[pmC] at HC;go_wp2_with fail;refine (HC.out).mono ?_;rintro e w2 ⟨rfl,hs2⟩;have HS2:=ah hs2;clear hs2;have hM2:=hMA.kp HS2.out.kp hgW;obtain⟨_,_,_,_,_,_,_,_,_,_,_,_,_,_,_,_⟩:=hM2.all
      go_wp2_with fail;exact bodyPost_end (results_none rfl _ _ _) rfl ⟨rfl,by rw[HE.out];exact HK0.out _ _ HS2.out⟩
    ·have HE:Hid (R.cK P=R.fG P):=by unfold Hid;rw[HE0.out,if_neg (by simpa using k1),hmem,if_pos rfl,if_neg (by simpa using k2),if_pos (by simpa using k3)]
     clear HE0;go_enter Tryz.func94,Tryz.ntmps94;go_upto_region 1 with fail
     generalize w.alloc (.cells (pqC P al cl ag cg ao co aL cL) 68)=wA at *;obtain⟨x0,x1,x2,x3,x4,x5,x6,x7,x8,x9,x10,x11,x12,x13,x14,xf⟩:=hMA.all
     go_wp2_with fail;refine (HM.out).mono ?_;rintro e w1 ⟨rfl,hs1⟩;have HS1:=ah hs1;clear hs1;have hM1:=hMA.kp HS1.out.kp hgW;obtain⟨_,_,_,_,_,_,_,_,_,_,_,_,_,_,_,_⟩:=hM1.all
     have HC:=ah (zA HS1.out hR hPA (by omega))
     simp only[pmC] at HC;go_wp2_with fail;refine (HC.out).mono ?_;rintro e w2 ⟨rfl,hs2⟩;have HS2:=ah hs2;clear hs2;have hM2:=hMA.kp HS2.out.kp hgW;obtain⟨_,_,_,_,_,_,_,_,_,_,_,_,_,_,_,_⟩:=hM2.all
     go_wp2_with fail;exact bodyPost_end (results_none rfl _ _ _) rfl ⟨rfl,by rw[HE.out];exact HK0.out _ _ HS2.out⟩
   ·have HE:Hid (R.cK P=R.dZ P):=by unfold Hid;rw[HE0.out,if_neg (by simpa using k1),hmem,if_pos rfl,if_pos (by simpa using k2)]
    clear HE0;go_enter Tryz.func94,Tryz.ntmps94;go_upto_region 1 with fail
    generalize w.alloc (.cells (pqC P al cl ag cg ao co aL cL) 68)=wA at *;obtain⟨x0,x1,x2,x3,x4,x5,x6,x7,x8,x9,x10,x11,x12,x13,x14,xf⟩:=hMA.all
    go_wp2_with fail;have HKd:Hid (P.kind=112):=ah (by simpa using k2)
    refine (HM.out).mono ?_;rintro e w1 ⟨rfl,hs1⟩;have HS1:=ah hs1;clear hs1;have hM1:=hMA.kp HS1.out.kp hgW;obtain⟨_,_,_,_,_,_,_,_,_,_,_,_,_,_,_,_⟩:=hM1.all
    have HC:=ah (Bv HS1.out hR hPA HPm.out (by omega) HKd.out)
    simp only[pmC] at HC;go_wp2_with fail;refine (HC.out).mono ?_;rintro e w2 ⟨rfl,hs2⟩;have HS2:=ah hs2;clear hs2;have hM2:=hMA.kp HS2.out.kp hgW;obtain⟨_,_,_,_,_,_,_,_,_,_,_,_,_,_,_,_⟩:=hM2.all
    go_wp2_with fail;exact bodyPost_end (results_none rfl _ _ _) rfl ⟨rfl,by rw[HE.out];exact HK0.out _ _ HS2.out⟩
 ·have HE:Hid (R.cK P=R.tell P.frm):=by unfold Hid;rw[HE0.out,if_pos (by simpa using k1)]
  clear HE0;go_enter Tryz.func94,Tryz.ntmps94;go_upto_region 1 with fail
  generalize w.alloc (.cells (pqC P al cl ag cg ao co aL cL) 68)=wA at *;obtain⟨x0,x1,x2,x3,x4,x5,x6,x7,x8,x9,x10,x11,x12,x13,x14,xf⟩:=hMA.all
  go_wp2_with fail;refine (qB HSA.out hR P.frm (by omega)).mono ?_
  rintro e w1 ⟨rfl,hs1⟩;have HS1:=ah hs1;clear hs1;have hM1:=hMA.kp HS1.out.kp hgW;obtain⟨_,_,_,_,_,_,_,_,_,_,_,_,_,_,_,_⟩:=hM1.all
  go_wp2_with fail;exact bodyPost_ret (results_none rfl _ _ _) rfl ⟨rfl,by rw[HE.out];exact HK0.out _ _ HS1.out⟩
end
end Go.Proofs.YtajakaadgagejaaGreatDoor
