import Derived.Test.YtbnihoahhomooaaGreatDoorA30
set_option maxRecDepth 100000
set_option maxHeartbeats 8000000
set_option linter.all false
namespace Go.Proofs.YtbnihoahhomooaaGreatDoor
open Go.Value renaming int→I,slice→Y,string→Z,pointer→Zp
open Go.Ending renaming returned→Zr
open _root_.ByteArray renaming empty→Ze
open Go.IntKind renaming i64→J
open Option renaming none→O
open Go.RowKit
section
variable {w w0:World} {b bl:Nat} {W F:List Nat} {R:Rp} {V:Rv} {P:Pm} {vl vg vo vL:Value}
theorem xY (h:Rst w0 w b bl W F R) (hR:Ok R) (hP:dM w0 W F P vl vg vo vL) (hm:dQ R.n P) (ho:R.out.length≤300000) (ep:(P.epoch==R.epoch)=false) :
  Calls Tryz.prog 53 #[Zp (some ⟨b,0,O⟩),.agg (pmC P vl vg vo vL)] w fun e w'=>e=Zr (.tuple #[])∧Rst w0 w' b bl W F (R.bM P):=by
 obtain⟨W1,F1,V1,al,cl,ag,cg,ao,co,aL,cL,rfl,rfl,rfl,rfl,hMA,hPA,hgW,h2,HSA,HK0⟩:=h.msg hP
 clear h hP;simp only[pmC];have HE0:Hid (R.bM P=if P.epoch=R.epoch∧P.view=R.view then (if R.status=2 then R.bC P else R.bV P) else if P.epoch=R.epoch∧R.view<P.view then (if Rp.qG P then R.bY P else R.bare P.frm 103) else if R.epoch<P.epoch then R.bare P.frm 103 else R.bX P):=rfl
 have HPm:=ah hm;have HCh:Hid (∀ w,Calls Tryz.prog 95 #[.agg (pqC P al cl ag cg ao co aL cL)] w fun e w'=>e=Zr (.bool (Rp.qG P))∧Below w.heap.size w w'):=fun w=>ji P _ _ _ _ w
 clear hm
 ·have e1:¬P.epoch=R.epoch:=by simpa using ep
  by_cases gt:R.epoch<P.epoch
  focus
   have HE:Hid (R.bM P=R.bare P.frm 103):=by unfold Hid;rw[HE0.out,if_neg (fun q=>e1 q.1),if_neg (fun q=>e1 q.1),if_pos gt]
  rotate_left
  focus
   have HE:Hid (R.bM P=R.bX P):=by unfold Hid;rw[HE0.out,if_neg (fun q=>e1 q.1),if_neg (fun q=>e1 q.1),if_neg gt]
  rotate_left
  all_goals
   clear HE0;clear e1;go_enter Tryz.func53,Tryz.ntmps53;go_upto_region 1 with fail
   generalize w.alloc (.cells (pqC P al cl ag cg ao co aL cL) 68)=wA at *;obtain⟨x0,x1,x2,x3,x4,x5,x6,x7,x8,x9,x10,x11,x12,x13,x14,xf⟩:=hMA.all
   have c3:=h2.c3;have c4:=h2.c4;have c5:=h2.c5;go_wp2_with fail;go_quiet (fail);rename_i nq;have HSq:=ah (HSA.out.drewN nq);have hMHSq:=hMA.kp HSq.out.kp hgW;clear x0 x1 x2 x3 x4 x5 x6 x7 x8 x9 x10 x11 x12 x13 x14 xf c3 c4 c5;generalize wA.drewN nq=wq at *;obtain⟨x0,x1,x2,x3,x4,x5,x6,x7,x8,x9,x10,x11,x12,x13,x14,xf⟩:=hMHSq.all
   obtain⟨_,_,VHSq,rHSq,_,_⟩:=HSq.out
   have c3:=rHSq.c3;have c4:=rHSq.c4;have c5:=rHSq.c5;go_wp2_with fail;go_quiet (fail);rename_i nq;have HSr:=ah (HSq.out.drewN nq);have hMHSr:=hMA.kp HSr.out.kp hgW;clear x0 x1 x2 x3 x4 x5 x6 x7 x8 x9 x10 x11 x12 x13 x14 xf c3 c4 c5;generalize wq.drewN nq=wr at *;obtain⟨x0,x1,x2,x3,x4,x5,x6,x7,x8,x9,x10,x11,x12,x13,x14,xf⟩:=hMHSr.all
   obtain⟨_,_,VHSr,rHSr,_,_⟩:=HSr.out
   have c3:=rHSr.c3;have c4:=rHSr.c4;have c5:=rHSr.c5;go_wp2_with fail;go_quiet (fail);rename_i nq;have HSt:=ah (HSr.out.drewN nq);have hMHSt:=hMA.kp HSt.out.kp hgW;clear x0 x1 x2 x3 x4 x5 x6 x7 x8 x9 x10 x11 x12 x13 x14 xf c3 c4 c5;generalize wr.drewN nq=wt at *;obtain⟨x0,x1,x2,x3,x4,x5,x6,x7,x8,x9,x10,x11,x12,x13,x14,xf⟩:=hMHSt.all
   obtain⟨_,_,VHSt,rHSt,_,_⟩:=HSt.out
   have c3:=rHSt.c3;have c4:=rHSt.c4;have c5:=rHSt.c5;go_wp2_with fail;go_quiet (fail);rename_i nq;have HSu:=ah (HSt.out.drewN nq);have hMHSu:=hMA.kp HSu.out.kp hgW;clear x0 x1 x2 x3 x4 x5 x6 x7 x8 x9 x10 x11 x12 x13 x14 xf c3 c4 c5;generalize wt.drewN nq=wu at *;obtain⟨x0,x1,x2,x3,x4,x5,x6,x7,x8,x9,x10,x11,x12,x13,x14,xf⟩:=hMHSu.all
  focus
   go_wp2_with fail;refine (fU HSu.out hR P.frm 103 (by decide) (by omega)).mono ?_
  rotate_left
  focus
   have HC:=ah (mY HSu.out hR hPA (by omega))
   simp only[pmC] at HC;go_wp2_with fail;refine (HC.out).mono ?_
  rotate_left
  all_goals
   rintro e w1 ⟨rfl,hs1⟩;have HS1:=ah hs1;clear hs1;have hM1:=hMA.kp HS1.out.kp hgW;obtain⟨_,_,_,_,_,_,_,_,_,_,_,_,_,_,_,_⟩:=hM1.all
   go_wp2;exact bodyPost_end (results_none rfl _ _ _) rfl ⟨rfl,by rw[HE.out];exact HK0.out _ _ HS1.out⟩
theorem xZ (h:Rst w0 w b bl W F R) (hR:Ok R) (hP:dM w0 W F P vl vg vo vL) (hm:dQ R.n P) (ho:R.out.length≤300000) (ep:(P.epoch==R.epoch)=true) (vi:(P.view==R.view)=false) (gt:R.view<P.view) :
  Calls Tryz.prog 53 #[Zp (some ⟨b,0,O⟩),.agg (pmC P vl vg vo vL)] w fun e w'=>e=Zr (.tuple #[])∧Rst w0 w' b bl W F (R.bM P):=by
 obtain⟨W1,F1,V1,al,cl,ag,cg,ao,co,aL,cL,rfl,rfl,rfl,rfl,hMA,hPA,hgW,h2,HSA,HK0⟩:=h.msg hP
 clear h hP;simp only[pmC];have HE0:Hid (R.bM P=if P.epoch=R.epoch∧P.view=R.view then (if R.status=2 then R.bC P else R.bV P) else if P.epoch=R.epoch∧R.view<P.view then (if Rp.qG P then R.bY P else R.bare P.frm 103) else if R.epoch<P.epoch then R.bare P.frm 103 else R.bX P):=rfl
 have HPm:=ah hm;have HCh:Hid (∀ w,Calls Tryz.prog 95 #[.agg (pqC P al cl ag cg ao co aL cL)] w fun e w'=>e=Zr (.bool (Rp.qG P))∧Below w.heap.size w w'):=fun w=>ji P _ _ _ _ w
 clear hm
 ·have e1:P.epoch=R.epoch:=by simpa using ep
  have ngt:¬R.epoch<P.epoch:=by omega
  ·have v1:¬P.view=R.view:=by simpa using vi
   ·cases hc:Rp.qG P
    focus
     have HE:Hid (R.bM P=R.bare P.frm 103):=by unfold Hid;rw[HE0.out,if_neg (fun q=>v1 q.2),if_pos ⟨e1,gt⟩,hc,if_neg (by decide)]
    rotate_left
    focus
     have HE:Hid (R.bM P=R.bY P):=by unfold Hid;rw[HE0.out,if_neg (fun q=>v1 q.2),if_pos ⟨e1,gt⟩,hc,if_pos rfl]
    rotate_left
    all_goals
     clear HE0;clear e1 v1;rw[hc] at HCh;go_enter Tryz.func53,Tryz.ntmps53;go_upto_region 1 with fail
     generalize w.alloc (.cells (pqC P al cl ag cg ao co aL cL) 68)=wA at *;obtain⟨x0,x1,x2,x3,x4,x5,x6,x7,x8,x9,x10,x11,x12,x13,x14,xf⟩:=hMA.all
     have c3:=h2.c3;have c4:=h2.c4;have c5:=h2.c5;go_wp2_with fail;go_quiet (fail);rename_i nq;have HSq:=ah (HSA.out.drewN nq);have hMHSq:=hMA.kp HSq.out.kp hgW;clear x0 x1 x2 x3 x4 x5 x6 x7 x8 x9 x10 x11 x12 x13 x14 xf c3 c4 c5;generalize wA.drewN nq=wq at *;obtain⟨x0,x1,x2,x3,x4,x5,x6,x7,x8,x9,x10,x11,x12,x13,x14,xf⟩:=hMHSq.all
     obtain⟨_,_,VHSq,rHSq,_,_⟩:=HSq.out
     have c3:=rHSq.c3;have c4:=rHSq.c4;have c5:=rHSq.c5;go_wp2_with fail;go_quiet (fail);rename_i nq;have HSr:=ah (HSq.out.drewN nq);have hMHSr:=hMA.kp HSr.out.kp hgW;clear x0 x1 x2 x3 x4 x5 x6 x7 x8 x9 x10 x11 x12 x13 x14 xf c3 c4 c5;generalize wq.drewN nq=wr at *;obtain⟨x0,x1,x2,x3,x4,x5,x6,x7,x8,x9,x10,x11,x12,x13,x14,xf⟩:=hMHSr.all
     obtain⟨_,_,VHSr,rHSr,_,_⟩:=HSr.out
     have c3:=rHSr.c3;have c4:=rHSr.c4;have c5:=rHSr.c5;go_wp2_with fail;go_quiet (fail);rename_i nq;have HSt:=ah (HSr.out.drewN nq);have hMHSt:=hMA.kp HSt.out.kp hgW;clear x0 x1 x2 x3 x4 x5 x6 x7 x8 x9 x10 x11 x12 x13 x14 xf c3 c4 c5;generalize wr.drewN nq=wt at *;obtain⟨x0,x1,x2,x3,x4,x5,x6,x7,x8,x9,x10,x11,x12,x13,x14,xf⟩:=hMHSt.all
     obtain⟨_,_,VHSt,rHSt,_,_⟩:=HSt.out
     have c3:=rHSt.c3;have c4:=rHSt.c4;have c5:=rHSt.c5;go_wp2_with fail;refine (HCh.out _).mono ?_;rintro e w1 ⟨rfl,hb1⟩;have HS1:=ah (HSt.out.below hb1);have hM1:=hMA.kp HS1.out.kp hgW;clear x0 x1 x2 x3 x4 x5 x6 x7 x8 x9 x10 x11 x12 x13 x14 xf c3 c4 c5 hb1;obtain⟨x0,x1,x2,x3,x4,x5,x6,x7,x8,x9,x10,x11,x12,x13,x14,xf⟩:=hM1.all
     obtain⟨_,_,V1',r1,_,_⟩:=HS1.out
     have c4:=r1.c4;clear r1
    focus
     go_wp2_with fail;go_quiet (fail);rename_i nq;have HSu:=ah (HS1.out.drewN nq);have hMHSu:=hMA.kp HSu.out.kp hgW;clear x0 x1 x2 x3 x4 x5 x6 x7 x8 x9 x10 x11 x12 x13 x14 xf c4;generalize w1.drewN nq=wu at *;obtain⟨x0,x1,x2,x3,x4,x5,x6,x7,x8,x9,x10,x11,x12,x13,x14,xf⟩:=hMHSu.all
     go_wp2_with fail;refine (fU HSu.out hR P.frm 103 (by decide) (by omega)).mono ?_
    rotate_left
    focus
     have HC:=ah (wU HS1.out hR hPA HPm.out (by omega))
     simp only[pmC] at HC;go_wp2_with fail;refine (HC.out).mono ?_
    rotate_left
    all_goals
     rintro e w2 ⟨rfl,hs2⟩;have HS2:=ah hs2;clear hs2;have hM2:=hMA.kp HS2.out.kp hgW;obtain⟨_,_,_,_,_,_,_,_,_,_,_,_,_,_,_,_⟩:=hM2.all
     go_wp2;exact bodyPost_end (results_none rfl _ _ _) rfl ⟨rfl,by rw[HE.out];exact HK0.out _ _ HS2.out⟩
theorem yc (h:Rst w0 w b bl W F R) (hR:Ok R) (hP:dM w0 W F P vl vg vo vL) (hm:dQ R.n P) (ho:R.out.length≤300000) (ep:(P.epoch==R.epoch)=true) (vi:(P.view==R.view)=false) (gt:¬R.view<P.view) :
  Calls Tryz.prog 53 #[Zp (some ⟨b,0,O⟩),.agg (pmC P vl vg vo vL)] w fun e w'=>e=Zr (.tuple #[])∧Rst w0 w' b bl W F (R.bM P):=by
 obtain⟨W1,F1,V1,al,cl,ag,cg,ao,co,aL,cL,rfl,rfl,rfl,rfl,hMA,hPA,hgW,h2,HSA,HK0⟩:=h.msg hP
 clear h hP;simp only[pmC];have HE0:Hid (R.bM P=if P.epoch=R.epoch∧P.view=R.view then (if R.status=2 then R.bC P else R.bV P) else if P.epoch=R.epoch∧R.view<P.view then (if Rp.qG P then R.bY P else R.bare P.frm 103) else if R.epoch<P.epoch then R.bare P.frm 103 else R.bX P):=rfl
 have HPm:=ah hm;have HCh:Hid (∀ w,Calls Tryz.prog 95 #[.agg (pqC P al cl ag cg ao co aL cL)] w fun e w'=>e=Zr (.bool (Rp.qG P))∧Below w.heap.size w w'):=fun w=>ji P _ _ _ _ w
 clear hm
 ·have e1:P.epoch=R.epoch:=by simpa using ep
  have ngt:¬R.epoch<P.epoch:=by omega
  ·have v1:¬P.view=R.view:=by simpa using vi
   ·have HE:Hid (R.bM P=R.bX P):=by unfold Hid;rw[HE0.out,if_neg (fun q=>v1 q.2),if_neg (fun q=>gt q.2),if_neg ngt]
    clear HE0;clear e1 v1;go_enter Tryz.func53,Tryz.ntmps53;go_upto_region 1 with fail
    generalize w.alloc (.cells (pqC P al cl ag cg ao co aL cL) 68)=wA at *;obtain⟨x0,x1,x2,x3,x4,x5,x6,x7,x8,x9,x10,x11,x12,x13,x14,xf⟩:=hMA.all
    have c3:=h2.c3;have c4:=h2.c4;have c5:=h2.c5;go_wp2_with fail;go_quiet (fail);rename_i nq;have HSq:=ah (HSA.out.drewN nq);have hMHSq:=hMA.kp HSq.out.kp hgW;clear x0 x1 x2 x3 x4 x5 x6 x7 x8 x9 x10 x11 x12 x13 x14 xf c3 c4 c5;generalize wA.drewN nq=wq at *;obtain⟨x0,x1,x2,x3,x4,x5,x6,x7,x8,x9,x10,x11,x12,x13,x14,xf⟩:=hMHSq.all
    obtain⟨_,_,VHSq,rHSq,_,_⟩:=HSq.out
    have c3:=rHSq.c3;have c4:=rHSq.c4;have c5:=rHSq.c5;go_wp2_with fail;go_quiet (fail);rename_i nq;have HSr:=ah (HSq.out.drewN nq);have hMHSr:=hMA.kp HSr.out.kp hgW;clear x0 x1 x2 x3 x4 x5 x6 x7 x8 x9 x10 x11 x12 x13 x14 xf c3 c4 c5;generalize wq.drewN nq=wr at *;obtain⟨x0,x1,x2,x3,x4,x5,x6,x7,x8,x9,x10,x11,x12,x13,x14,xf⟩:=hMHSr.all
    obtain⟨_,_,VHSr,rHSr,_,_⟩:=HSr.out
    have c3:=rHSr.c3;have c4:=rHSr.c4;have c5:=rHSr.c5;go_wp2_with fail;go_quiet (fail);rename_i nq;have HSt:=ah (HSr.out.drewN nq);have hMHSt:=hMA.kp HSt.out.kp hgW;clear x0 x1 x2 x3 x4 x5 x6 x7 x8 x9 x10 x11 x12 x13 x14 xf c3 c4 c5;generalize wr.drewN nq=wt at *;obtain⟨x0,x1,x2,x3,x4,x5,x6,x7,x8,x9,x10,x11,x12,x13,x14,xf⟩:=hMHSt.all
    obtain⟨_,_,VHSt,rHSt,_,_⟩:=HSt.out
    have c3:=rHSt.c3;have c4:=rHSt.c4;have c5:=rHSt.c5;go_wp2_with fail;go_quiet (fail);rename_i nq;have HSu:=ah (HSt.out.drewN nq);have hMHSu:=hMA.kp HSu.out.kp hgW;clear x0 x1 x2 x3 x4 x5 x6 x7 x8 x9 x10 x11 x12 x13 x14 xf c3 c4 c5;generalize wt.drewN nq=wu at *;obtain⟨x0,x1,x2,x3,x4,x5,x6,x7,x8,x9,x10,x11,x12,x13,x14,xf⟩:=hMHSu.all
    have HC:=ah (mY HSu.out hR hPA (by omega))
    simp only[pmC] at HC;go_wp2_with fail;refine (HC.out).mono ?_;rintro e w1 ⟨rfl,hs1⟩;have HS1:=ah hs1;clear hs1;have hM1:=hMA.kp HS1.out.kp hgW;obtain⟨_,_,_,_,_,_,_,_,_,_,_,_,_,_,_,_⟩:=hM1.all
    go_wp2;exact bodyPost_end (results_none rfl _ _ _) rfl ⟨rfl,by rw[HE.out];exact HK0.out _ _ HS1.out⟩
theorem yg (h:Rst w0 w b bl W F R) (hR:Ok R) (hP:dM w0 W F P vl vg vo vL) (hm:dQ R.n P) (ho:R.out.length≤300000) (ep:(P.epoch==R.epoch)=true) (vi:(P.view==R.view)=true) :
  Calls Tryz.prog 53 #[Zp (some ⟨b,0,O⟩),.agg (pmC P vl vg vo vL)] w fun e w'=>e=Zr (.tuple #[])∧Rst w0 w' b bl W F (R.bM P):=by
 obtain⟨W1,F1,V1,al,cl,ag,cg,ao,co,aL,cL,rfl,rfl,rfl,rfl,hMA,hPA,hgW,h2,HSA,HK0⟩:=h.msg hP
 clear h hP;simp only[pmC];have HE0:Hid (R.bM P=if P.epoch=R.epoch∧P.view=R.view then (if R.status=2 then R.bC P else R.bV P) else if P.epoch=R.epoch∧R.view<P.view then (if Rp.qG P then R.bY P else R.bare P.frm 103) else if R.epoch<P.epoch then R.bare P.frm 103 else R.bX P):=rfl
 have HPm:=ah hm;have HCh:Hid (∀ w,Calls Tryz.prog 95 #[.agg (pqC P al cl ag cg ao co aL cL)] w fun e w'=>e=Zr (.bool (Rp.qG P))∧Below w.heap.size w w'):=fun w=>ji P _ _ _ _ w
 clear hm
 ·have e1:P.epoch=R.epoch:=by simpa using ep
  have ngt:¬R.epoch<P.epoch:=by omega
  ·have v1:P.view=R.view:=by simpa using vi
   have vgt:¬R.view<P.view:=by omega
   cases st:(R.status==2)
   focus
    have HE:Hid (R.bM P=R.bV P):=by unfold Hid;rw[HE0.out,if_pos ⟨e1,v1⟩,if_neg (by simpa using st)]
   rotate_left
   focus
    have HE:Hid (R.bM P=R.bC P):=by unfold Hid;rw[HE0.out,if_pos ⟨e1,v1⟩,if_pos (by simpa using st)]
   rotate_left
   all_goals
    clear HE0;clear e1 v1;go_enter Tryz.func53,Tryz.ntmps53;go_upto_region 1 with fail
    generalize w.alloc (.cells (pqC P al cl ag cg ao co aL cL) 68)=wA at *;obtain⟨x0,x1,x2,x3,x4,x5,x6,x7,x8,x9,x10,x11,x12,x13,x14,xf⟩:=hMA.all
    have c3:=h2.c3;have c4:=h2.c4;have c5:=h2.c5;go_wp2_with fail;go_quiet (fail);rename_i nq;have HSq:=ah (HSA.out.drewN nq);have hMHSq:=hMA.kp HSq.out.kp hgW;clear x0 x1 x2 x3 x4 x5 x6 x7 x8 x9 x10 x11 x12 x13 x14 xf c3 c4 c5;generalize wA.drewN nq=wq at *;obtain⟨x0,x1,x2,x3,x4,x5,x6,x7,x8,x9,x10,x11,x12,x13,x14,xf⟩:=hMHSq.all
    obtain⟨_,_,VHSq,rHSq,_,_⟩:=HSq.out
    have c3:=rHSq.c3;have c4:=rHSq.c4;have c5:=rHSq.c5;go_wp2_with fail;go_quiet (fail);rename_i nq;have HSr:=ah (HSq.out.drewN nq);have hMHSr:=hMA.kp HSr.out.kp hgW;clear x0 x1 x2 x3 x4 x5 x6 x7 x8 x9 x10 x11 x12 x13 x14 xf c3 c4 c5;generalize wq.drewN nq=wr at *;obtain⟨x0,x1,x2,x3,x4,x5,x6,x7,x8,x9,x10,x11,x12,x13,x14,xf⟩:=hMHSr.all
    obtain⟨_,_,VHSr,rHSr,_,_⟩:=HSr.out
    have c3:=rHSr.c3;have c4:=rHSr.c4;have c5:=rHSr.c5
   focus
    go_wp2_with fail;go_quiet (fail);rename_i nq;have HSt:=ah (HSr.out.drewN nq);have hMHSt:=hMA.kp HSt.out.kp hgW;clear x0 x1 x2 x3 x4 x5 x6 x7 x8 x9 x10 x11 x12 x13 x14 xf c3 c4 c5;generalize wr.drewN nq=wt at *;obtain⟨x0,x1,x2,x3,x4,x5,x6,x7,x8,x9,x10,x11,x12,x13,x14,xf⟩:=hMHSt.all
    obtain⟨_,_,VHSt,rHSt,_,_⟩:=HSt.out
    have c3:=rHSt.c3;have c4:=rHSt.c4;have c5:=rHSt.c5;have HC:=ah (Br HSt.out hR hPA HPm.out (by omega))
   rotate_left
   focus
    have HC:=ah (xX HSr.out hR hPA HPm.out (by omega))
   rotate_left
   all_goals
    simp only[pmC] at HC;go_wp2_with fail;refine (HC.out).mono ?_;rintro e w1 ⟨rfl,hs1⟩;have HS1:=ah hs1;clear hs1;have hM1:=hMA.kp HS1.out.kp hgW;obtain⟨_,_,_,_,_,_,_,_,_,_,_,_,_,_,_,_⟩:=hM1.all
    go_wp2;exact bodyPost_end (results_none rfl _ _ _) rfl ⟨rfl,by rw[HE.out];exact HK0.out _ _ HS1.out⟩
theorem Bq (h:Rst w0 w b bl W F R) (hR:Ok R) (hP:dM w0 W F P vl vg vo vL) (hm:dQ R.n P) (ho:R.out.length≤300000) :
  Calls Tryz.prog 53 #[Zp (some ⟨b,0,O⟩),.agg (pmC P vl vg vo vL)] w fun e w'=>e=Zr (.tuple #[])∧Rst w0 w' b bl W F (R.bM P):=by
 cases ep:(P.epoch==R.epoch)
 ·exact xY h hR hP hm ho ep
 ·cases vi:(P.view==R.view)
  ·by_cases gt:R.view<P.view
   ·exact xZ h hR hP hm ho ep vi gt
   ·exact yc h hR hP hm ho ep vi gt
  ·exact yg h hR hP hm ho ep vi
end
end Go.Proofs.YtbnihoahhomooaaGreatDoor
