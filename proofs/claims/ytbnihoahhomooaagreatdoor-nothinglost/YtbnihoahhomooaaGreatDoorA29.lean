import Derived.Test.YtbnihoahhomooaaGreatDoorA15
set_option maxRecDepth 100000
set_option maxHeartbeats 8000000
set_option linter.all false
namespace Go.Proofs.YtbnihoahhomooaaGreatDoor
open Go.Value renaming int→I,slice→Y,string→Z,pointer→Zp
open Go.Ending renaming returned→Zr
open _root_.ByteArray renaming empty→Ze
open Go.IntKind renaming i64→J
open Option renaming none→O
open Go.RowKit
section
variable {w w0:World} {b bl:Nat} {W F:List Nat} {R:Rp} {V:Rv} {P:Pm} {vl vg vo vL:Value}
theorem qP (h:Rst w0 w b bl W F R) (hR:Ok R) (hP:dM w0 W F P vl vg vo vL) (ho:R.out.length≤900000)  :
  Calls Tryz.prog 52 #[Zp (some ⟨b,0,O⟩),.agg (pmC P vl vg vo vL)] w fun e w'=>e=Zr (.tuple #[])∧Rst w0 w' b bl W F (R.cK P):=by
 obtain⟨W1,F1,V1,al,cl,ag,cg,ao,co,aL,cL,rfl,rfl,rfl,rfl,hMA,hPA,hgW,h2,HSA,HK0⟩:=h.msg hP
 clear h hP;simp only[pmC];have HE0:Hid (R.cK P=if R.epoch<P.epoch then R.bare P.frm 103 else if (P.kind==103)&&(R.status==5)&&R.mem P.frm then R.tell P.frm else R):=rfl
 by_cases q1:R.epoch<P.epoch
 ·have HE:Hid (R.cK P=R.bare P.frm 103):=by unfold Hid;rw[HE0.out,if_pos q1]
  clear HE0;go_enter Tryz.func52,Tryz.ntmps52;go_upto_region 1 with fail
  generalize w.alloc (.cells (pqC P al cl ag cg ao co aL cL) 68)=wA at *;obtain⟨x0,x1,x2,x3,x4,x5,x6,x7,x8,x9,x10,x11,x12,x13,x14,xf⟩:=hMA.all
  have c4:=h2.c4;go_quiet (fail);rename_i nq;have HSq:=ah (HSA.out.drewN nq);have hMHSq:=hMA.kp HSq.out.kp hgW;clear x0 x1 x2 x3 x4 x5 x6 x7 x8 x9 x10 x11 x12 x13 x14 xf c4;generalize wA.drewN nq=wq at *;obtain⟨x0,x1,x2,x3,x4,x5,x6,x7,x8,x9,x10,x11,x12,x13,x14,xf⟩:=hMHSq.all
  go_wp2_with fail;refine (fU HSq.out hR P.frm 103 (by decide) ho).mono ?_
  rintro e w1 ⟨rfl,hs1⟩;have HS1:=ah hs1;clear hs1;have hM1:=hMA.kp HS1.out.kp hgW;obtain⟨_,_,_,_,_,_,_,_,_,_,_,_,_,_,_,_⟩:=hM1.all
  go_wp2;exact bodyPost_ret (results_none rfl _ _ _) rfl ⟨rfl,by rw[HE.out];exact HK0.out _ _ HS1.out⟩
 ·cases kd:(P.kind==103)
  ·have HE:Hid (R.cK P=R):=by unfold Hid;rw[HE0.out,if_neg q1,kd];rfl
   clear HE0;go_enter Tryz.func52,Tryz.ntmps52;go_upto_region 1 with fail
   generalize w.alloc (.cells (pqC P al cl ag cg ao co aL cL) 68)=wA at *;obtain⟨x0,x1,x2,x3,x4,x5,x6,x7,x8,x9,x10,x11,x12,x13,x14,xf⟩:=hMA.all
   have c4:=h2.c4;go_quiet (fail);rename_i nq;have HSq:=ah (HSA.out.drewN nq);have hMHSq:=hMA.kp HSq.out.kp hgW;clear x0 x1 x2 x3 x4 x5 x6 x7 x8 x9 x10 x11 x12 x13 x14 xf c4;generalize wA.drewN nq=wq at *;obtain⟨x0,x1,x2,x3,x4,x5,x6,x7,x8,x9,x10,x11,x12,x13,x14,xf⟩:=hMHSq.all
   go_wp2;exact bodyPost_end (results_none rfl _ _ _) rfl ⟨rfl,by rw[HE.out];exact HK0.out _ _ HSq.out⟩
  ·cases hs:(R.status==5)
   ·have HE:Hid (R.cK P=R):=by unfold Hid;rw[HE0.out,if_neg q1,kd,hs];rfl
    clear HE0;go_enter Tryz.func52,Tryz.ntmps52;go_upto_region 1 with fail
    generalize w.alloc (.cells (pqC P al cl ag cg ao co aL cL) 68)=wA at *;obtain⟨x0,x1,x2,x3,x4,x5,x6,x7,x8,x9,x10,x11,x12,x13,x14,xf⟩:=hMA.all
    have c4:=h2.c4;go_quiet (fail);rename_i nq;have HSq:=ah (HSA.out.drewN nq);have hMHSq:=hMA.kp HSq.out.kp hgW;clear x0 x1 x2 x3 x4 x5 x6 x7 x8 x9 x10 x11 x12 x13 x14 xf c4;generalize wA.drewN nq=wq at *;obtain⟨x0,x1,x2,x3,x4,x5,x6,x7,x8,x9,x10,x11,x12,x13,x14,xf⟩:=hMHSq.all
    obtain⟨_,_,VHSq,rHSq,_,_⟩:=HSq.out
    have c3:=rHSq.c3;go_wp2;exact bodyPost_end (results_none rfl _ _ _) rfl ⟨rfl,by rw[HE.out];exact HK0.out _ _ HSq.out⟩
   ·have HM:=ah (fun (wz:World) (hz:Rst (w.alloc (.cells (pqC P al cl ag cg ao co aL cL) 68)) wz b bl W1 F1 R)=>fT hz hR P.frm)
    cases hmem:R.mem P.frm
    focus
     have HE:Hid (R.cK P=R):=by unfold Hid;rw[HE0.out,if_neg q1,kd,hs,hmem];rfl
    rotate_left
    focus
     have HE:Hid (R.cK P=R.tell P.frm):=by unfold Hid;rw[HE0.out,if_neg q1,kd,hs,hmem];rfl
    rotate_left
    all_goals
     rw[hmem] at HM;clear HE0;go_enter Tryz.func52,Tryz.ntmps52;go_upto_region 1 with fail
     generalize w.alloc (.cells (pqC P al cl ag cg ao co aL cL) 68)=wA at *;obtain⟨x0,x1,x2,x3,x4,x5,x6,x7,x8,x9,x10,x11,x12,x13,x14,xf⟩:=hMA.all
     have c4:=h2.c4;go_quiet (fail);rename_i nq;have HSq:=ah (HSA.out.drewN nq);have hMHSq:=hMA.kp HSq.out.kp hgW;clear x0 x1 x2 x3 x4 x5 x6 x7 x8 x9 x10 x11 x12 x13 x14 xf c4;generalize wA.drewN nq=wq at *;obtain⟨x0,x1,x2,x3,x4,x5,x6,x7,x8,x9,x10,x11,x12,x13,x14,xf⟩:=hMHSq.all
     obtain⟨_,_,VHSq,rHSq,_,_⟩:=HSq.out
     have c3:=rHSq.c3;go_wp2_with fail;refine (HM.out _ HSq.out).mono ?_;rintro e w1 ⟨rfl,hs1⟩;have HS1:=ah hs1;clear hs1;have hM1:=hMA.kp HS1.out.kp hgW;obtain⟨_,_,_,_,_,_,_,_,_,_,_,_,_,_,_,_⟩:=hM1.all
     go_wp2_with fail
    ·exact bodyPost_end (results_none rfl _ _ _) rfl ⟨rfl,by rw[HE.out];exact HK0.out _ _ HS1.out⟩
    ·refine (rY HS1.out hR P.frm ho).mono ?_;rintro e w2 ⟨rfl,hs2⟩;have HS2:=ah hs2;clear hs2;have hM2:=hMA.kp HS2.out.kp hgW;obtain⟨_,_,_,_,_,_,_,_,_,_,_,_,_,_,_,_⟩:=hM2.all
     go_wp2;exact bodyPost_end (results_none rfl _ _ _) rfl ⟨rfl,by rw[HE.out];exact HK0.out _ _ HS2.out⟩
theorem JW (h:Rst w0 w b bl W F R) (hR:Ok R) (hP:dM w0 W F P vl vg vo vL) (hm:dQ R.n P) (ho:R.out.length≤400000) (hk:P.kind=97) :
  Calls Tryz.prog 82 #[Zp (some ⟨b,0,O⟩),.agg (pmC P vl vg vo vL)] w fun e w'=>e=Zr (.tuple #[])∧Rst w0 w' b bl W F (R.resume P):=by
 obtain⟨W1,F1,V1,al,cl,ag,cg,ao,co,aL,cL,rfl,rfl,rfl,rfl,hMA,hPA,hgW,h2,HSA,HK0⟩:=h.msg hP
 clear h hP;simp only[pmC];obtain⟨R2,HR2⟩:∃ x:Rp,x={ R.enter P with answers:=[] }:=⟨_,rfl⟩
 have HE0:Hid (R.resume P=if R2.mem R.id then ((if (R2.over P.log).dG then R2.over P.log else (R2.over P.log).ack P.frm).aT P.commit) else { R2 with status:=4 }):=by subst HR2;rfl
 have HLg:=ah (Rp.lI hm (.inr (.inr hk)));have HOe:Hid (Ok R2):=by subst HR2;exact Rp.mO (Rp.jO hR (.inr hk) hm) (l:=[]) (by simp) (by simp)
 have HId:Hid (R2.id=R.id∧R2.n=R.n∧R2.out=R.out):=by subst HR2;exact⟨rfl,rfl,rfl⟩
 have HRh:=ah HR2;have HPm:=ah hm;clear hm hk HR2;cases hmem:R2.mem R.id
 ·have HE:Hid (R.resume P={ R2 with status:=4 }):=by unfold Hid;rw[HE0.out,hmem];rfl
  clear HE0;go_enter Tryz.func82,Tryz.ntmps82;go_upto_region 1 with fail
  generalize w.alloc (.cells (pqC P al cl ag cg ao co aL cL) 68)=wA at *;obtain⟨x0,x1,x2,x3,x4,x5,x6,x7,x8,x9,x10,x11,x12,x13,x14,xf⟩:=hMA.all
  have HEn:=ah (uW HSA.out hPA);simp only[pmC] at HEn;go_wp2_with fail;refine HEn.out.mono ?_;rintro e w1 ⟨rfl,hs1⟩;obtain⟨W2,F2,V2,h3,k3,m3⟩:=hs1
  have e63:=h3.c63;have ef63:=h3.free 63;have h4:=h3.pY (Y O 0 0) [] (Pms.nil _ _ _);have HS2:Hid (Rst wA (w1.setCell ⟨b,63,O⟩ (Y O 0 0)) b bl W1 F1 R2):=Rst.step k3 m3 (Rst.of (by rw[HRh.out];exact h4) (h3.qo _ _))
  have e0:(w1.setCell ⟨b,63,O⟩ (Y O 0 0)).cell? ⟨b,0,O⟩=some (I J R.id):=h4.c0
  have hM2:=hMA.kp HS2.out.kp hgW;clear x0 x1 x2 x3 x4 x5 x6 x7 x8 x9 x10 x11 x12 x13 x14 xf h3 h4 k3 m3;go_wp2_with fail;generalize w1.setCell ⟨b,63,O⟩ (Y O 0 0)=w2 at *;have HGo:=ah (Rp.fB HOe.out (l:=P.log) (by rw[HId.out.2.1];exact HLg.out))
  have hoR:R2.out.length≤400000:=by rw[HId.out.2.2];exact ho
  have HM3:=ah (fT HS2.out HOe.out R.id);rw[hmem] at HM3;refine HM3.out.mono ?_;rintro e w3 ⟨rfl,hs3⟩;obtain⟨W3,F3,V3,h3,k3,m3⟩:=hs3
  have e3:=h3.c3;have ef3:=h3.free 3;have HS4:Hid (Rst wA _ b bl W1 F1 { R2 with status:=4 }):=Rst.step k3 m3 (Rst.of (h3.iW 4) (h3.qo _ _))
  clear h3 k3 m3;go_wp2;exact bodyPost_ret (results_none rfl _ _ _) rfl ⟨rfl,by rw[HE.out];exact HK0.out _ _ HS4.out⟩
 ·cases hpr:(R2.over P.log).dG
  focus
   have HE:Hid (R.resume P=((R2.over P.log).ack P.frm).aT P.commit):=by unfold Hid;rw[HE0.out,hmem,if_pos rfl,hpr];rfl
  rotate_left
  focus
   have HE:Hid (R.resume P=(R2.over P.log).aT P.commit):=by unfold Hid;rw[HE0.out,hmem,if_pos rfl,hpr];rfl
  rotate_left
  all_goals
   clear HE0;go_enter Tryz.func82,Tryz.ntmps82;go_upto_region 1 with fail
   generalize w.alloc (.cells (pqC P al cl ag cg ao co aL cL) 68)=wA at *;obtain⟨x0,x1,x2,x3,x4,x5,x6,x7,x8,x9,x10,x11,x12,x13,x14,xf⟩:=hMA.all
   have HEn:=ah (uW HSA.out hPA);simp only[pmC] at HEn;go_wp2_with fail;refine HEn.out.mono ?_;rintro e w1 ⟨rfl,hs1⟩;obtain⟨W2,F2,V2,h3,k3,m3⟩:=hs1
   have e63:=h3.c63;have ef63:=h3.free 63;have h4:=h3.pY (Y O 0 0) [] (Pms.nil _ _ _);have HS2:Hid (Rst wA (w1.setCell ⟨b,63,O⟩ (Y O 0 0)) b bl W1 F1 R2):=Rst.step k3 m3 (Rst.of (by rw[HRh.out];exact h4) (h3.qo _ _))
   have e0:(w1.setCell ⟨b,63,O⟩ (Y O 0 0)).cell? ⟨b,0,O⟩=some (I J R.id):=h4.c0
   have hM2:=hMA.kp HS2.out.kp hgW;clear x0 x1 x2 x3 x4 x5 x6 x7 x8 x9 x10 x11 x12 x13 x14 xf h3 h4 k3 m3;go_wp2_with fail;generalize w1.setCell ⟨b,63,O⟩ (Y O 0 0)=w2 at *;have HGo:=ah (Rp.fB HOe.out (l:=P.log) (by rw[HId.out.2.1];exact HLg.out))
   have hoR:R2.out.length≤400000:=by rw[HId.out.2.2];exact ho
   have HM3:=ah (fT HS2.out HOe.out R.id);rw[hmem] at HM3;have HGa:=ah (Rp.lH HGo.out.ok P.frm);have hoO:(R2.over P.log).out.length≤400000:=hoR
   refine (HM3.out).mono ?_;rintro e w3 ⟨rfl,hs3⟩;have HS3:=ah hs3;clear hs3;have hM3:=hMA.kp HS3.out.kp hgW;obtain⟨_,_,_,_,_,_,_,_,_,_,_,_,_,_,_,_⟩:=hM3.all
   go_wp2_with fail;refine (lD HS3.out hPA (by rw[HId.out.2.1];exact HLg.out)).mono ?_
   rintro e w4 ⟨rfl,hs4⟩;have HS4:=ah hs4;clear hs4;have hM4:=hMA.kp HS4.out.kp hgW;obtain⟨_,_,_,_,_,_,_,_,_,_,_,_,_,_,_,_⟩:=hM4.all
   have HP5:=ah (jr HS4.out HGo.out.ok);rw[hpr] at HP5;go_wp2_with fail;refine (HP5.out).mono ?_;rintro e w5 ⟨rfl,hs5⟩;have HS5:=ah hs5;clear hs5;have hM5:=hMA.kp HS5.out.kp hgW;obtain⟨_,_,_,_,_,_,_,_,_,_,_,_,_,_,_,_⟩:=hM5.all
   go_wp2_with fail
  focus
   refine (Dt HS5.out HGo.out.ok P.frm (by omega)).mono ?_
  rotate_left
  focus
   refine (iL HS5.out HGo.out.ok P.commit (by omega)).mono ?_
  rotate_left
  all_goals
   rintro e w6 ⟨rfl,hs6⟩;have HS6:=ah hs6;clear hs6;have hM6:=hMA.kp HS6.out.kp hgW;obtain⟨_,_,_,_,_,_,_,_,_,_,_,_,_,_,_,_⟩:=hM6.all
   go_wp2_with fail
  ·refine (iL HS6.out HGa.out.ok P.commit (Nat.le_trans HGa.out.out (by omega))).mono ?_
   rintro e w7 ⟨rfl,hs7⟩;have HS7:=ah hs7;clear hs7;have hM7:=hMA.kp HS7.out.kp hgW;obtain⟨_,_,_,_,_,_,_,_,_,_,_,_,_,_,_,_⟩:=hM7.all
   go_wp2;exact bodyPost_end (results_none rfl _ _ _) rfl ⟨rfl,by rw[HE.out];exact HK0.out _ _ HS7.out⟩
  ·exact bodyPost_end (results_none rfl _ _ _) rfl ⟨rfl,by rw[HE.out];exact HK0.out _ _ HS6.out⟩
theorem Bp (h:Rst w0 w b bl W F R) (hR:Ok R) (hP:dM w0 W F P vl vg vo vL) (ho:R.out.length≤500000)  :
  Calls Tryz.prog 143 #[Zp (some ⟨b,0,O⟩),.agg (pmC P vl vg vo vL)] w fun e w'=>e=Zr (.tuple #[])∧Rst w0 w' b bl W F (R.dV P):=by
 obtain⟨W1,F1,V1,al,cl,ag,cg,ao,co,aL,cL,rfl,rfl,rfl,rfl,hMA,hPA,hgW,h2,HSA,HK0⟩:=h.msg hP
 clear h hP;simp only[pmC];have HE0:Hid (R.dV P=if P.frm=R.iB then (if (R.log.length:Int)<P.commit then R.bare P.frm 103 else R.aT P.commit) else R):=rfl
 cases hq:(P.frm==R.iB)
 ·have hne:(P.frm != R.iB)=true:=by simp[bne,hq]
  have HE:Hid (R.dV P=R):=by unfold Hid;rw[HE0.out,if_neg (by simpa using hq)]
  clear HE0;go_enter Tryz.func143,Tryz.ntmps143;go_upto_region 1 with fail
  generalize w.alloc (.cells (pqC P al cl ag cg ao co aL cL) 68)=wA at *;obtain⟨x0,x1,x2,x3,x4,x5,x6,x7,x8,x9,x10,x11,x12,x13,x14,xf⟩:=hMA.all
  have HPq:=ah (fun n=>iN (h2.drewN n) hR)
  go_wp2_with fail;go_quiet ((go_at_call 121;exact Calls.quiet_of (HPq.out _)))
  rename_i nq;have HSq:=ah (HSA.out.drewN nq);have hMHSq:=hMA.kp HSq.out.kp hgW;clear x0 x1 x2 x3 x4 x5 x6 x7 x8 x9 x10 x11 x12 x13 x14 xf;generalize wA.drewN nq=wq at *;obtain⟨x0,x1,x2,x3,x4,x5,x6,x7,x8,x9,x10,x11,x12,x13,x14,xf⟩:=hMHSq.all
  go_wp2;exact bodyPost_ret (results_none rfl _ _ _) rfl ⟨rfl,by rw[HE.out];exact HK0.out _ _ HSq.out⟩
 ·have hne:(P.frm != R.iB)=false:=by simp[bne,hq]
  by_cases q2:(R.log.length:Int)<P.commit
  focus
   have HE:Hid (R.dV P=R.bare P.frm 103):=by unfold Hid;rw[HE0.out,if_pos (by simpa using hq),if_pos q2]
  rotate_left
  focus
   have HE:Hid (R.dV P=R.aT P.commit):=by unfold Hid;rw[HE0.out,if_pos (by simpa using hq),if_neg q2]
  rotate_left
  all_goals
   clear HE0;go_enter Tryz.func143,Tryz.ntmps143;go_upto_region 1 with fail
   generalize w.alloc (.cells (pqC P al cl ag cg ao co aL cL) 68)=wA at *;obtain⟨x0,x1,x2,x3,x4,x5,x6,x7,x8,x9,x10,x11,x12,x13,x14,xf⟩:=hMA.all
   have HPq:=ah (fun n=>iN (h2.drewN n) hR)
   go_wp2_with fail;go_quiet ((go_at_call 121;exact Calls.quiet_of (HPq.out _)))
   rename_i nq;have HSq:=ah (HSA.out.drewN nq);have hMHSq:=hMA.kp HSq.out.kp hgW;clear x0 x1 x2 x3 x4 x5 x6 x7 x8 x9 x10 x11 x12 x13 x14 xf;generalize wA.drewN nq=wq at *;obtain⟨x0,x1,x2,x3,x4,x5,x6,x7,x8,x9,x10,x11,x12,x13,x14,xf⟩:=hMHSq.all
   obtain⟨_,_,VHSq,rHSq,_,_⟩:=HSq.out
   have c9:=rHSq.c9;obtain⟨aL9,cL9,hv9⟩:=rHSq.g9
   rw[hv9] at c9;clear rHSq;go_wp2_with fail;go_quiet (fail);rename_i nq;have HSr:=ah (HSq.out.drewN nq);have hMHSr:=hMA.kp HSr.out.kp hgW;clear x0 x1 x2 x3 x4 x5 x6 x7 x8 x9 x10 x11 x12 x13 x14 xf c9;generalize wq.drewN nq=wr at *;obtain⟨x0,x1,x2,x3,x4,x5,x6,x7,x8,x9,x10,x11,x12,x13,x14,xf⟩:=hMHSr.all
   go_wp2_with fail
  focus
   refine (fU HSr.out hR P.frm 103 (by decide) (by omega)).mono ?_
  rotate_left
  focus
   refine (iL HSr.out hR P.commit (by omega)).mono ?_
  rotate_left
  all_goals
   rintro e w1 ⟨rfl,hs1⟩;have HS1:=ah hs1;clear hs1;have hM1:=hMA.kp HS1.out.kp hgW;obtain⟨_,_,_,_,_,_,_,_,_,_,_,_,_,_,_,_⟩:=hM1.all
   go_wp2_with fail
  ·exact bodyPost_ret (results_none rfl _ _ _) rfl ⟨rfl,by rw[HE.out];exact HK0.out _ _ HS1.out⟩
  ·exact bodyPost_end (results_none rfl _ _ _) rfl ⟨rfl,by rw[HE.out];exact HK0.out _ _ HS1.out⟩
end
section
variable {w w0:World} {b bl:Nat} {W F:List Nat} {R:Rp} {V:Rv} {P:Pm} {vl vg vo vL:Value}
theorem JU (h:Rst w0 w b bl W F R) (hR:Ok R) (hP:dM w0 W F P vl vg vo vL) (hm:dQ R.n P) (ho:R.out.length≤900000)  :
  Calls Tryz.prog 50 #[Zp (some ⟨b,0,O⟩),.agg (pmC P vl vg vo vL)] w fun e w'=>e=Zr (.tuple #[])∧Rst w0 w' b bl W F (R.answer P):=by
 obtain⟨W1,F1,V1,al,cl,ag,cg,ao,co,aL,cL,rfl,rfl,rfl,rfl,hMA,hPA,hgW,h2,HSA,HK0⟩:=h.msg hP
 clear h hP;simp only[pmC];have HE0:Hid (R.answer P=if R.status==1 then R.send P.frm { R.bf with kind:=97,life:=P.lives.getD P.frm.toNat 0 } else R):=rfl
 cases hs:(R.status==1)
 ·have hne:(R.status != 1)=true:=by simp[bne,hs]
  have HE:Hid (R.answer P=R):=by unfold Hid;rw[HE0.out,hs];rfl
  clear HE0 hm;go_enter Tryz.func50,Tryz.ntmps50;go_upto_region 1 with fail
  generalize w.alloc (.cells (pqC P al cl ag cg ao co aL cL) 68)=wA at *;obtain⟨x0,x1,x2,x3,x4,x5,x6,x7,x8,x9,x10,x11,x12,x13,x14,xf⟩:=hMA.all
  have c3:=h2.c3;go_wp2;exact bodyPost_ret (results_none rfl _ _ _) rfl ⟨rfl,by rw[HE.out];exact HK0.out _ _ HSA.out⟩
 ·have hne:(R.status != 1)=false:=by simp[bne,hs]
  obtain⟨fn,hfn⟩:∃ f:Nat,P.frm=f:=⟨P.frm.toNat,by have:=hm.f0;omega⟩
  have g2:fn<P.lives.length:=by have:=hm.f1;have:=hm.ll;omega
  have HE:Hid (R.answer P=R.send (fn:Int) { R.bf with kind:=97,life:=P.lives[fn] }):=by
   unfold Hid;rw[HE0.out,hs,hfn];simp[List.getD,g2]
  have HLf:=ah (hm.lb P.lives[fn] (List.getElem_mem _));have hpl:=hPA.lives;obtain⟨b3,o3,rfl,hb3,z3⟩:=hpl.get fn g2
  obtain⟨clr,hvl⟩:=h2.g2
  obtain⟨aLr,cLr,hvL⟩:=h2.g9
  obtain⟨agr,cgr,hvg⟩:=h2.g7
  obtain⟨aor,cor,hvo⟩:=h2.g8
  have HH:=ah (rX h2);rw[hvl,hvg,hvo,hvL] at HH;have HSe:Hid (∀ w',Below (w.alloc (.cells #[I .u8 P.kind,I J P.frm,Y (some ⟨b3,o3,O⟩) P.lives.length cl,I J P.epoch,I J P.view,I J P.place,I J P.ent.1,I J P.ent.2.1,Z P.ent.2.2,I J P.commit,I J P.normal,I J P.life,Y ag P.grp.length cg,Y ao P.old.length co,Y aL P.log.length cL] 68)).heap.size (w.alloc (.cells #[I .u8 P.kind,I J P.frm,Y (some ⟨b3,o3,O⟩) P.lives.length cl,I J P.epoch,I J P.view,I J P.place,I J P.ent.1,I J P.ent.2.1,Z P.ent.2.2,I J P.commit,I J P.normal,I J P.life,Y ag P.grp.length cg,Y ao P.old.length co,Y aL P.log.length cL] 68)) w'→Calls Tryz.prog 88 #[Zp (some ⟨b,0,O⟩),I J (fn:Int),.agg #[I .u8 97,I J R.id,Y (some ⟨bl,0,O⟩) R.lives.length clr,I J R.epoch,I J R.view,I J 0,I J 0,I J 0,Z ⟨#[]⟩,I J (R.decided:Int),I J 0,I J P.lives[fn],Y agr R.grp.length cgr,Y aor R.old.length cor,Y aLr R.log.length cLr]] w' fun e w''=>e=Zr (.tuple #[])∧Rst w0 w'' b bl W F (R.send (fn:Int) { R.bf with kind:=97,life:=P.lives[fn] })):=fun w' hb=>by
   have hw:=h2.below hb;have hh:mg w' { R.bf with kind:=97,life:=P.lives[fn] } V1.vl V1.vg V1.vo V1.vL:=⟨hw.lives.rd,hw.grp,hw.old,hw.ents⟩
   rw[hvl,hvg,hvo,hvL] at hh;exact (mV hw (fn:Int) { R.bf with kind:=97,life:=P.lives[fn] } _ _ _ _ ((Jv hR HLf.out).pw hR) hh (by omega)).mono (fun e w'' q=>⟨q.1,HK0.out _ _ (Rst.pre (Kp.of_below hb) (Snt.rst hw q.2))⟩)
  have HFn:=ah hfn;clear HE0 hm hfn;go_enter Tryz.func50,Tryz.ntmps50;go_upto_region 1 with fail
  generalize w.alloc (.cells #[I .u8 P.kind,I J P.frm,Y (some ⟨b3,o3,O⟩) P.lives.length cl,I J P.epoch,I J P.view,I J P.place,I J P.ent.1,I J P.ent.2.1,Z P.ent.2.2,I J P.commit,I J P.normal,I J P.life,Y ag P.grp.length cg,Y ao P.old.length co,Y aL P.log.length cL] 68)=wA at *;have c3:=h2.c3;go_wp2_with fail;refine HH.out.mono ?_;rintro e w1 ⟨rfl,hb1⟩;have hM1:dw w1 w.heap.size #[I .u8 P.kind,I J P.frm,Y (some ⟨b3,o3,O⟩) P.lives.length cl,I J P.epoch,I J P.view,I J P.place,I J P.ent.1,I J P.ent.2.1,Z P.ent.2.2,I J P.commit,I J P.normal,I J P.life,Y ag P.grp.length cg,Y ao P.old.length co,Y aL P.log.length cL]:=hMA.kp (S:=[]) (Kp.of_below hb1) (by simp)
  have x1:w1.cell? ⟨w.heap.size,1,O⟩=some (I J (fn:Int)):=by have q:=hM1.cell 1;rw[q];simp[HFn.out]
  have x2:w1.cell? ⟨w.heap.size,2,O⟩=some (Y (some ⟨b3,o3,O⟩) P.lives.length cl):=by have q:=hM1.cell 2;rw[q];rfl
  have z1:=(hb1.cell (p:=⟨b3,o3+fn,O⟩) hb3).trans z3;have hlM:=lt_of_block hM1.2;have hb31:b3<w1.heap.size:=Nat.lt_of_lt_of_le hb3 hb1.size
  have hal:=fun o=>(Below.refl w1.heap.size w1).alloc (Nat.le_refl _) o
  have y1:=fun o=>((hal o).cell (p:=⟨w.heap.size,1,O⟩) hlM).trans x1
  have y2:=fun o=>((hal o).cell (p:=⟨w.heap.size,2,O⟩) hlM).trans x2
  have y3:=fun o=>((hal o).cell (p:=⟨b3,o3+fn,O⟩) hb31).trans z1
  have j1:(0:Int)≤(fn:Int):=by omega
  have j2:(fn:Int)<(P.lives.length:Int):=by omega
  simp only[pmC,Rp.bf,Rp.head,pm0];clear hal hM1 x1 x2 z1 z3 hlM c3;go_wp2_with fail;refine (HSe.out _ (hb1.alloc hb1.size _)).mono ?_;rintro e w2 ⟨rfl,hs2⟩;have HS2:=ah hs2;clear hs2;go_wp2;exact bodyPost_end (results_none rfl _ _ _) rfl ⟨rfl,by rw[HE.out];exact HS2.out⟩
theorem G5 (h:Rst w0 w b bl W F R) (hR:Ok R) (hP:dM w0 W F P vl vg vo vL) (hm:dQ R.n P)  :
  Calls Tryz.prog 20 #[Zp (some ⟨b,0,O⟩),.agg (pmC P vl vg vo vL)] w fun e w'=>e=Zr (.bool (R.alive P))∧Rst w0 w' b bl W F (R):=by
 obtain⟨W1,F1,V1,al,cl,ag,cg,ao,co,aL,cL,rfl,rfl,rfl,rfl,hMA,hPA,hgW,h2,HSA,HK0⟩:=h.msg hP
 clear h hP;simp only[pmC];have HE0:Hid (R.alive P=((P.frm != R.id)&&decide (R.lives.getD P.frm.toNat 0≤P.lives.getD P.frm.toNat 0))):=rfl
 obtain⟨fn,hfn⟩:∃ f:Nat,P.frm=f:=⟨P.frm.toNat,by have:=hm.f0;omega⟩
 have g2:fn<P.lives.length:=by have:=hm.f1;have:=hm.ll;omega
 have g3:fn<R.lives.length:=by have:=hm.f1;have:=hR.ll;omega
 have HE1:Hid (R.alive P=(((fn:Int) != R.id)&&decide (R.lives[fn]≤P.lives[fn]))):=by
  unfold Hid;rw[HE0.out,hfn];simp[List.getD,g2,g3]
 obtain⟨b3,o3,rfl,hb3,z3⟩:=hPA.lives.get fn g2
 have hrl:=h2.lives.rd;obtain⟨clr,hvl⟩:=h2.g2
 rw[hvl] at hrl;obtain⟨b4,o4,hb4e,hb4,z4⟩:=Ints.get hrl fn g3
 simp only[Option.some.injEq,Addr.mk.injEq] at hb4e;obtain⟨rfl,rfl,_⟩:=hb4e
 simp only[Nat.zero_add] at z4;have c0:=h2.c0;have c2:=h2.c2;rw[hvl] at c2;have x1:(w.alloc (.cells #[I .u8 P.kind,I J P.frm,Y (some ⟨b3,o3,O⟩) P.lives.length cl,I J P.epoch,I J P.view,I J P.place,I J P.ent.1,I J P.ent.2.1,Z P.ent.2.2,I J P.commit,I J P.normal,I J P.life,Y ag P.grp.length cg,Y ao P.old.length co,Y aL P.log.length cL] 68)).cell? ⟨w.heap.size,1,O⟩=some (I J (fn:Int)):=by have q:=hMA.cell 1;rw[q];simp[hfn]
 have x2:(w.alloc (.cells #[I .u8 P.kind,I J P.frm,Y (some ⟨b3,o3,O⟩) P.lives.length cl,I J P.epoch,I J P.view,I J P.place,I J P.ent.1,I J P.ent.2.1,Z P.ent.2.2,I J P.commit,I J P.normal,I J P.life,Y ag P.grp.length cg,Y ao P.old.length co,Y aL P.log.length cL] 68)).cell? ⟨w.heap.size,2,O⟩=some (Y (some ⟨b3,o3,O⟩) P.lives.length cl):=by have q:=hMA.cell 2;rw[q];rfl
 have j1:(0:Int)≤(fn:Int):=by omega
 have j2:(fn:Int)<(P.lives.length:Int):=by omega
 have j3:(fn:Int)<(R.lives.length:Int):=by omega
 clear hm hfn HE0;cases hq:((fn:Int)==R.id)
 ·have hne:((fn:Int) != R.id)=true:=by simp[bne,hq]
  by_cases hp:R.lives[fn]≤P.lives[fn]
  focus
   have HE:Hid (R.alive P=true):=by unfold Hid;rw[HE1.out,hne,decide_eq_true hp];rfl
  rotate_left
  focus
   have HE:Hid (R.alive P=false):=by unfold Hid;rw[HE1.out,hne,decide_eq_false hp];rfl
  rotate_left
  all_goals
   clear HE1;go_enter Tryz.func20,Tryz.ntmps20;go_upto_region 1 with fail
   generalize w.alloc (.cells #[I .u8 P.kind,I J P.frm,Y (some ⟨b3,o3,O⟩) P.lives.length cl,I J P.epoch,I J P.view,I J P.place,I J P.ent.1,I J P.ent.2.1,Z P.ent.2.2,I J P.commit,I J P.normal,I J P.life,Y ag P.grp.length cg,Y ao P.old.length co,Y aL P.log.length cL] 68)=wA at *;go_wp2_with fail;go_quiet (fail);rename_i nq;have HSq:=ah (HSA.out.drewN nq);go_wp2;go_ret;exact⟨aU (by rw[HE.out];try (first|exact decide_eq_false (by omega)|exact decide_eq_true (by omega))),HK0.out _ _ HSq.out⟩
 ·have hne:((fn:Int) != R.id)=false:=by simp[bne,hq]
  have HE:Hid (R.alive P=false):=by unfold Hid;rw[HE1.out,hne];rfl
  clear HE1;go_enter Tryz.func20,Tryz.ntmps20;go_upto_region 1 with fail
  generalize w.alloc (.cells #[I .u8 P.kind,I J P.frm,Y (some ⟨b3,o3,O⟩) P.lives.length cl,I J P.epoch,I J P.view,I J P.place,I J P.ent.1,I J P.ent.2.1,Z P.ent.2.2,I J P.commit,I J P.normal,I J P.life,Y ag P.grp.length cg,Y ao P.old.length co,Y aL P.log.length cL] 68)=wA at *;go_wp2_with fail;go_quiet (fail);rename_i nq;have HSq:=ah (HSA.out.drewN nq);go_wp2;go_ret;exact⟨aU (by rw[HE.out];try (first|exact decide_eq_false (by omega)|exact decide_eq_true (by omega))),HK0.out _ _ HSq.out⟩
end
end Go.Proofs.YtbnihoahhomooaaGreatDoor
