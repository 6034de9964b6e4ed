import Derived.Test.YtbnihoahhomooaaGreatDoorA15
set_option maxRecDepth 100000
set_option maxHeartbeats 8000000
set_option linter.all false
namespace Go.Proofs.YtbnihoahhomooaaGreatDoor
open Go.Value renaming int→I,slice→Y,string→Z,pointer→Zp
open Go.Ending renaming returned→Zr
open _root_.ByteArray renaming empty→Ze
open Go.IntKind renaming i64→J
open Option renaming none→O
open Go.RowKit
section
variable {w w0:World} {b bl:Nat} {W F:List Nat} {R:Rp} {V:Rv} {P:Pm} {vl vg vo vL:Value}
theorem Du (h:Rst w0 w b bl W F R) (hR:Ok R) (hP:dM w0 W F P vl vg vo vL) (hm:dQ R.n P) (ho:R.out.length≤500000) (hk:P.kind=112) :
  Calls Tryz.prog 142 #[Zp (some ⟨b,0,O⟩),.agg (pmC P vl vg vo vL)] w fun e w'=>e=Zr (.tuple #[])∧Rst w0 w' b bl W F (R.dK P):=by
 obtain⟨W1,F1,V1,al,cl,ag,cg,ao,co,aL,cL,rfl,rfl,rfl,rfl,hMA,hPA,hgW,h2,HSA,HK0⟩:=h.msg hP
 clear h hP;simp only[pmC];obtain⟨i0,hi,hz0,hz1,hz2⟩:=info_parts Tryz.infoEnt
 have HE0:Hid (R.dK P=if P.frm=R.iB then (if (R.log.length:Int)+1<P.place then R.bare P.frm 103 else if P.place=(R.log.length:Int)+1 then (if R.closing then R else (({ R with log:=R.log++[P.ent] }:Rp).ack P.frm).aT P.commit) else (R.ack P.frm).aT P.commit) else R):=rfl
 have hl10:=hR.lg;have hwl:IntKind.i64.wrap ((R.log.length:Int)+1)=(R.log.length:Int)+1:=fC (by omega) (by omega)
 have HPl:=ah (hm.pl (.inl hk));have HEn:=ah (hm.en hk);have HGa:=ah (Rp.lH hR P.frm);clear hm hk;cases hq:(P.frm==R.iB)
 ·have hne:(P.frm != R.iB)=true:=by simp[bne,hq]
  have HE:Hid (R.dK P=R):=by unfold Hid;rw[HE0.out,if_neg (by simpa using hq)]
  clear HE0;go_enter Tryz.func142,Tryz.ntmps142;go_upto_region 1 with fail
  generalize w.alloc (.cells (pqC P al cl ag cg ao co aL cL) 68)=wA at *;obtain⟨x0,x1,x2,x3,x4,x5,x6,x7,x8,x9,x10,x11,x12,x13,x14,xf⟩:=hMA.all
  have HPq:=ah (fun n=>iN (h2.drewN n) hR)
  go_wp2_with fail;go_quiet ((go_at_call 121;exact Calls.quiet_of (HPq.out _)))
  rename_i nq;have HSq:=ah (HSA.out.drewN nq);have hMHSq:=hMA.kp HSq.out.kp hgW;clear x0 x1 x2 x3 x4 x5 x6 x7 x8 x9 x10 x11 x12 x13 x14 xf;generalize wA.drewN nq=wq at *;obtain⟨x0,x1,x2,x3,x4,x5,x6,x7,x8,x9,x10,x11,x12,x13,x14,xf⟩:=hMHSq.all
  obtain⟨_,_,VHSq,rHSq,_,_⟩:=HSq.out
  have c9:=rHSq.c9;obtain⟨aL9,cL9,hv9⟩:=rHSq.g9
  rw[hv9] at c9;clear rHSq;go_wp2;exact bodyPost_ret (results_none rfl _ _ _) rfl ⟨rfl,by rw[HE.out];exact HK0.out _ _ HSq.out⟩
 ·have hne:(P.frm != R.iB)=false:=by simp[bne,hq]
  have HE1:Hid (R.dK P=if (R.log.length:Int)+1<P.place then R.bare P.frm 103 else if P.place=(R.log.length:Int)+1 then (if R.closing then R else (({ R with log:=R.log++[P.ent] }:Rp).ack P.frm).aT P.commit) else (R.ack P.frm).aT P.commit):=by unfold Hid;rw[HE0.out,if_pos (by simpa using hq)]
  clear HE0;by_cases q1:(R.log.length:Int)+1<P.place
  ·have HE:Hid (R.dK P=R.bare P.frm 103):=by unfold Hid;rw[HE1.out,if_pos q1]
   clear HE1;go_enter Tryz.func142,Tryz.ntmps142;go_upto_region 1 with fail
   generalize w.alloc (.cells (pqC P al cl ag cg ao co aL cL) 68)=wA at *;obtain⟨x0,x1,x2,x3,x4,x5,x6,x7,x8,x9,x10,x11,x12,x13,x14,xf⟩:=hMA.all
   have HPq:=ah (fun n=>iN (h2.drewN n) hR)
   go_wp2_with fail;go_quiet ((go_at_call 121;exact Calls.quiet_of (HPq.out _)))
   rename_i nq;have HSq:=ah (HSA.out.drewN nq);have hMHSq:=hMA.kp HSq.out.kp hgW;clear x0 x1 x2 x3 x4 x5 x6 x7 x8 x9 x10 x11 x12 x13 x14 xf;generalize wA.drewN nq=wq at *;obtain⟨x0,x1,x2,x3,x4,x5,x6,x7,x8,x9,x10,x11,x12,x13,x14,xf⟩:=hMHSq.all
   obtain⟨_,_,VHSq,rHSq,_,_⟩:=HSq.out
   have c9:=rHSq.c9;obtain⟨aL9,cL9,hv9⟩:=rHSq.g9
   rw[hv9] at c9;clear rHSq;go_wp2_with fail;go_quiet (fail);rename_i nq;have HSr:=ah (HSq.out.drewN nq);have hMHSr:=hMA.kp HSr.out.kp hgW;clear x0 x1 x2 x3 x4 x5 x6 x7 x8 x9 x10 x11 x12 x13 x14 xf c9;generalize wq.drewN nq=wr at *;obtain⟨x0,x1,x2,x3,x4,x5,x6,x7,x8,x9,x10,x11,x12,x13,x14,xf⟩:=hMHSr.all
   obtain⟨_,_,VHSr,rHSr,_,_⟩:=HSr.out
   have c9:=rHSr.c9;obtain⟨aL9,cL9,hv9⟩:=rHSr.g9
   rw[hv9] at c9;clear rHSr;go_wp2_with fail;refine (fU HSr.out hR P.frm 103 (by decide) (by omega)).mono ?_
   rintro e w1 ⟨rfl,hs1⟩;have HS1:=ah hs1;clear hs1;have hM1:=hMA.kp HS1.out.kp hgW;obtain⟨_,_,_,_,_,_,_,_,_,_,_,_,_,_,_,_⟩:=hM1.all
   go_wp2;exact bodyPost_ret (results_none rfl _ _ _) rfl ⟨rfl,by rw[HE.out];exact HK0.out _ _ HS1.out⟩
  ·cases q2:(P.place==(R.log.length:Int)+1)
   ·have HE:Hid (R.dK P=(R.ack P.frm).aT P.commit):=by unfold Hid;rw[HE1.out,if_neg q1,if_neg (by simpa using q2)]
    clear HE1;go_enter Tryz.func142,Tryz.ntmps142;go_upto_region 1 with fail
    generalize w.alloc (.cells (pqC P al cl ag cg ao co aL cL) 68)=wA at *;obtain⟨x0,x1,x2,x3,x4,x5,x6,x7,x8,x9,x10,x11,x12,x13,x14,xf⟩:=hMA.all
    have HPq:=ah (fun n=>iN (h2.drewN n) hR)
    go_wp2_with fail;go_quiet ((go_at_call 121;exact Calls.quiet_of (HPq.out _)))
    rename_i nq;have HSq:=ah (HSA.out.drewN nq);have hMHSq:=hMA.kp HSq.out.kp hgW;clear x0 x1 x2 x3 x4 x5 x6 x7 x8 x9 x10 x11 x12 x13 x14 xf;generalize wA.drewN nq=wq at *;obtain⟨x0,x1,x2,x3,x4,x5,x6,x7,x8,x9,x10,x11,x12,x13,x14,xf⟩:=hMHSq.all
    obtain⟨_,_,VHSq,rHSq,_,_⟩:=HSq.out
    have c9:=rHSq.c9;obtain⟨aL9,cL9,hv9⟩:=rHSq.g9
    rw[hv9] at c9;clear rHSq;go_wp2_with fail;go_quiet (fail);rename_i nq;have HSr:=ah (HSq.out.drewN nq);have hMHSr:=hMA.kp HSr.out.kp hgW;clear x0 x1 x2 x3 x4 x5 x6 x7 x8 x9 x10 x11 x12 x13 x14 xf c9;generalize wq.drewN nq=wr at *;obtain⟨x0,x1,x2,x3,x4,x5,x6,x7,x8,x9,x10,x11,x12,x13,x14,xf⟩:=hMHSr.all
    obtain⟨_,_,VHSr,rHSr,_,_⟩:=HSr.out
    have c9:=rHSr.c9;obtain⟨aL9,cL9,hv9⟩:=rHSr.g9
    rw[hv9] at c9;clear rHSr;go_wp2_with fail;go_quiet (fail);rename_i nq;have HSt:=ah (HSr.out.drewN nq);have hMHSt:=hMA.kp HSt.out.kp hgW;clear x0 x1 x2 x3 x4 x5 x6 x7 x8 x9 x10 x11 x12 x13 x14 xf c9;generalize wr.drewN nq=wt at *;obtain⟨x0,x1,x2,x3,x4,x5,x6,x7,x8,x9,x10,x11,x12,x13,x14,xf⟩:=hMHSt.all
    obtain⟨_,_,VHSt,rHSt,_,_⟩:=HSt.out
    have c9:=rHSt.c9;obtain⟨aL9,cL9,hv9⟩:=rHSt.g9
    rw[hv9] at c9;clear rHSt;go_wp2_with fail;refine (Dt HSt.out hR P.frm (by omega)).mono ?_
    rintro e w1 ⟨rfl,hs1⟩;have HS1:=ah hs1;clear hs1;have hM1:=hMA.kp HS1.out.kp hgW;obtain⟨_,_,_,_,_,_,_,_,_,_,_,_,_,_,_,_⟩:=hM1.all
    go_wp2_with fail;refine (iL HS1.out HGa.out.ok P.commit (Nat.le_trans HGa.out.out (by omega))).mono ?_
    rintro e w2 ⟨rfl,hs2⟩;have HS2:=ah hs2;clear hs2;have hM2:=hMA.kp HS2.out.kp hgW;obtain⟨_,_,_,_,_,_,_,_,_,_,_,_,_,_,_,_⟩:=hM2.all
    go_wp2;exact bodyPost_end (results_none rfl _ _ _) rfl ⟨rfl,by rw[HE.out];exact HK0.out _ _ HS2.out⟩
   ·have HP2:Hid (P.place=(R.log.length:Int)+1):=ah (by simpa using q2)
    have HE2:Hid (R.dK P=if R.closing then R else (({ R with log:=R.log++[P.ent] }:Rp).ack P.frm).aT P.commit):=by unfold Hid;rw[HE1.out,if_neg q1,if_pos HP2.out]
    clear HE1;cases hcl:R.closing
    focus
     have HE:Hid (R.dK P=(({ R with log:=R.log++[P.ent] }:Rp).ack P.frm).aT P.commit):=by unfold Hid;rw[HE2.out,hcl];rfl
     have HO1:=ah (Rp.qM hR HEn.out (by have:=HPl.out.2;have:=HP2.out;omega))
     have HGb:=ah (Rp.lH HO1.out P.frm)
    rotate_left
    focus
     have HE:Hid (R.dK P=R):=by unfold Hid;rw[HE2.out,hcl];rfl
    rotate_left
    all_goals
     clear HE2;go_enter Tryz.func142,Tryz.ntmps142;go_upto_region 1 with fail
     generalize w.alloc (.cells (pqC P al cl ag cg ao co aL cL) 68)=wA at *;obtain⟨x0,x1,x2,x3,x4,x5,x6,x7,x8,x9,x10,x11,x12,x13,x14,xf⟩:=hMA.all
     have HPq:=ah (fun n=>iN (h2.drewN n) hR)
     go_wp2_with fail;go_quiet ((go_at_call 121;exact Calls.quiet_of (HPq.out _)))
     rename_i nq;have HSq:=ah (HSA.out.drewN nq);have hMHSq:=hMA.kp HSq.out.kp hgW;clear x0 x1 x2 x3 x4 x5 x6 x7 x8 x9 x10 x11 x12 x13 x14 xf;generalize wA.drewN nq=wq at *;obtain⟨x0,x1,x2,x3,x4,x5,x6,x7,x8,x9,x10,x11,x12,x13,x14,xf⟩:=hMHSq.all
     obtain⟨_,_,VHSq,rHSq,_,_⟩:=HSq.out
     have c9:=rHSq.c9;obtain⟨aL9,cL9,hv9⟩:=rHSq.g9
     rw[hv9] at c9;clear rHSq;go_wp2_with fail;go_quiet (fail);rename_i nq;have HSr:=ah (HSq.out.drewN nq);have hMHSr:=hMA.kp HSr.out.kp hgW;clear x0 x1 x2 x3 x4 x5 x6 x7 x8 x9 x10 x11 x12 x13 x14 xf c9;generalize wq.drewN nq=wr at *;obtain⟨x0,x1,x2,x3,x4,x5,x6,x7,x8,x9,x10,x11,x12,x13,x14,xf⟩:=hMHSr.all
     obtain⟨_,_,VHSr,rHSr,_,_⟩:=HSr.out
     have c9:=rHSr.c9;obtain⟨aL9,cL9,hv9⟩:=rHSr.g9
     rw[hv9] at c9;clear rHSr;go_wp2_with fail;go_quiet (fail);rename_i nq;have HSt:=ah (HSr.out.drewN nq);have hMHSt:=hMA.kp HSt.out.kp hgW;clear x0 x1 x2 x3 x4 x5 x6 x7 x8 x9 x10 x11 x12 x13 x14 xf c9;generalize wr.drewN nq=wt at *;obtain⟨x0,x1,x2,x3,x4,x5,x6,x7,x8,x9,x10,x11,x12,x13,x14,xf⟩:=hMHSt.all
     obtain⟨_,_,VHSt,rHSt,_,_⟩:=HSt.out
     have c9:=rHSt.c9;obtain⟨aL9,cL9,hv9⟩:=rHSt.g9
     rw[hv9] at c9;clear rHSt;have HC:=ah (pX HSt.out hR);rw[hcl] at HC;go_wp2_with fail
    ·refine HC.out.mono ?_;rintro e w1 ⟨rfl,hs1⟩;have HS1:=ah hs1;have hM1:=hMA.kp hs1.kp hgW;clear hs1 x0 x1 x2 x3 x4 x5 x6 x7 x8 x9 x10 x11 x12 x13 x14 xf c9;obtain⟨x0,x1,x2,x3,x4,x5,x6,x7,x8,x9,x10,x11,x12,x13,x14,xf⟩:=hM1.all
     obtain⟨WZ,FZ,VZ,hZ,kZ,mZ⟩:=HS1.out
     have c9:=hZ.c9;have f9:=hZ.free 9;obtain⟨aL9,cL9,hvL9⟩:=hZ.g9
     have hown9:=hZ.log;rw[hvL9] at c9 hown9;go_wp2_with fail;have hneb:some b≠(Y aL9 R.log.length cL9).ownBlock:=mJ hown9 hZ.block (by decide)
     have hbwz:b<w1.heap.size:=hZ.lb
     have ne9:=World.new_ne w1 ⟨b,9,O⟩ c9;go_region_law (first|(refine step_append_lies (w:=(w1.alloc (.cells #[I J P.ent.1,I J P.ent.2.1,Z P.ent.2.2] 66)).drew) (by rfl) (.tmp 37) (.tmp 40) 47 (by rfl) 0 66 i0 (.agg #[I J 0,I J 0,Z Ze]) 3 32 Tryz.underlying47 hi hz0 hz1 hz2 rfl (by decide) (Y aL9 R.log.length cL9) R.log.length (aA R.log) (by rfl) (bU (hown9.alloc _) (Below.refl _ _).drew) ⟨w1.heap.size,0,O⟩ 1 1 [I J P.ent.1,I J P.ent.2.1,Z P.ent.2.2] (by rfl) (by rfl) (World.news_of_block (show ((w1.alloc (.cells #[I J P.ent.1,I J P.ent.2.1,Z P.ent.2.2] 66)).drew).heap[w1.heap.size]? = _ from heap_alloc_new w1 (.cells #[I J P.ent.1,I J P.ent.2.1,Z P.ent.2.2] 66))) (by intro u hu;simp at hu;rcases hu with rfl|rfl|rfl <;> rfl) (by decide) (by unfold maxLen;omega) (by omega) (Nat.zero_le _) (w1.heap.size+1) (by simp) ?_;intro g4 cap4 w4 hown4 hg4 hat4 hlt4;have hbl:Below w1.heap.size w1 ((w1.alloc (.cells #[I J P.ent.1,I J P.ent.2.1,Z P.ent.2.2] 66)).drew):=(((Below.refl _ w1).alloc (Nat.le_refl _) _).drew);have t9:w4.cell? ⟨b,9,O⟩=some (Y aL9 R.log.length cL9):=(hg4.cell_far ⟨b,9,O⟩ (by simp;omega) hneb).trans ((hbl.cell (p:=⟨b,9,O⟩) hbwz).trans c9);have g9:w4.frozen? ⟨b,9,O⟩=false:=(hg4.frozen_far ⟨b,9,O⟩ (by simp;omega) hneb).trans ((hbl.frozen (p:=⟨b,9,O⟩) hbwz).trans f9))|(refine step_append_lies (w:=w1.drew.alloc (.cells #[I J P.ent.1,I J P.ent.2.1,Z P.ent.2.2] 66)) (by rfl) (.tmp 37) (.tmp 40) 47 (by rfl) 0 66 i0 (.agg #[I J 0,I J 0,Z Ze]) 3 32 Tryz.underlying47 hi hz0 hz1 hz2 rfl (by decide) (Y aL9 R.log.length cL9) R.log.length (aA R.log) (by rfl) ((bU hown9 (Below.refl _ _).drew).alloc _) ⟨w1.heap.size,0,O⟩ 1 1 [I J P.ent.1,I J P.ent.2.1,Z P.ent.2.2] (by rfl) (by rfl) (World.news_of_block (heap_alloc_new w1.drew (.cells #[I J P.ent.1,I J P.ent.2.1,Z P.ent.2.2] 66))) (by intro u hu;simp at hu;rcases hu with rfl|rfl|rfl <;> rfl) (by decide) (by unfold maxLen;omega) (by omega) (Nat.zero_le _) (w1.heap.size+1) (by simp) ?_;intro g4 cap4 w4 hown4 hg4 hat4 hlt4;have hbl:Below w1.heap.size w1 (w1.drew.alloc (.cells #[I J P.ent.1,I J P.ent.2.1,Z P.ent.2.2] 66)):=((Below.refl _ w1).drew.alloc (Nat.le_refl _) _);have t9:w4.cell? ⟨b,9,O⟩=some (Y aL9 R.log.length cL9):=(hg4.cell_far ⟨b,9,O⟩ (by simp;omega) hneb).trans ((hbl.cell (p:=⟨b,9,O⟩) hbwz).trans c9);have g9:w4.frozen? ⟨b,9,O⟩=false:=(hg4.frozen_far ⟨b,9,O⟩ (by simp;omega) hneb).trans ((hbl.frozen (p:=⟨b,9,O⟩) hbwz).trans f9)))
     all_goals
      have e2:aA (R.log++[P.ent])=aA R.log++[I J P.ent.1,I J P.ent.2.1,Z P.ent.2.2]:=by simp[aA]
      have ho4:w4.ownsRow 0 66 3 (Y (some ⟨g4,0,O⟩) (R.log.length+1) cap4) (R.log.length+1) (aA (R.log++[P.ent])):=by rw[e2];exact hown4
      have HSl:=ah (Rst.step kZ mZ (hZ.Ij (x:=P.ent) hbl (by rw[hvL9];exact hg4) ho4 (by rw[hvL9];exact hat4.imp (fun q=>q) (fun q=>by omega))))
      clear ho4 e2;clear x0 x1 x2 x3 x4 x5 x6 x7 x8 x9 x10 x11 x12 x13 x14 xf;have hM5:=hMA.kp HSl.out.kp hgW;generalize w4.setCell ⟨b,9,O⟩ (Y (some ⟨g4,0,O⟩) (R.log.length+1) cap4)=w5 at *;obtain⟨x0,x1,x2,x3,x4,x5,x6,x7,x8,x9,x10,x11,x12,x13,x14,xf⟩:=hM5.all
      go_wp2_with fail;refine (Dt HSl.out HO1.out P.frm (by show R.out.length≤900000;omega)).mono ?_
      rintro e w6 ⟨rfl,hs6⟩;have HS6:=ah hs6;clear hs6;have hM6:=hMA.kp HS6.out.kp hgW;obtain⟨_,_,_,_,_,_,_,_,_,_,_,_,_,_,_,_⟩:=hM6.all
      go_wp2_with fail;refine (iL HS6.out HGb.out.ok P.commit (Nat.le_trans HGb.out.out (by show R.out.length+1≤600000;omega))).mono ?_
      rintro e w7 ⟨rfl,hs7⟩;have HS7:=ah hs7;clear hs7;have hM7:=hMA.kp HS7.out.kp hgW;obtain⟨_,_,_,_,_,_,_,_,_,_,_,_,_,_,_,_⟩:=hM7.all
      go_wp2;exact bodyPost_end (results_none rfl _ _ _) rfl ⟨rfl,by rw[HE.out];exact HK0.out _ _ HS7.out⟩
    ·refine (HC.out).mono ?_;rintro e w1 ⟨rfl,hs1⟩;have HS1:=ah hs1;clear hs1;have hM1:=hMA.kp HS1.out.kp hgW;obtain⟨_,_,_,_,_,_,_,_,_,_,_,_,_,_,_,_⟩:=hM1.all
     go_wp2;exact bodyPost_ret (results_none rfl _ _ _) rfl ⟨rfl,by rw[HE.out];exact HK0.out _ _ HS1.out⟩
end
section
variable {w w0:World} {b bl:Nat} {W F:List Nat} {R:Rp} {V:Rv} {P:Pm} {vl vg vo vL:Value}
theorem Bu (l:List Bool) (k:Nat) (hk:k<l.length):Rp.starters (l.take (k+1))=Rp.starters (l.take k)+(if l[k]=true then 1 else 0):=by
 unfold Rp.starters;rw[List.take_succ_eq_append_getElem hk,List.countP_append,List.countP_singleton]
theorem Dq (h:ay w b bl W F R V):Calls Tryz.prog 89 #[Zp (some ⟨b,0,O⟩)] w fun e w'=>e=Zr (I J (Rp.starters R.started:Int))∧w'=w:=by
 have hl:=h.st;have HS:Hid (∀ k (hk:k<R.started.length),Rp.starters (R.started.take (k+1))=Rp.starters (R.started.take k)+(if R.started[k]=true then 1 else 0)):=Bu R.started
 have HF:Hid (Rp.starters (R.started.take 7)=Rp.starters R.started):=by unfold Hid;rw[← hl,List.take_length]
 have HL:Hid (∀ k,Rp.starters (R.started.take k)≤7):=fun k=>by
  have:=List.countP_le_length (p:=fun x=>x) (l:=R.started.take k)
  unfold Rp.starters;rw[List.length_take] at this;omega
 have HC:Hid (∀ k (hk:k<7),w.cell? ⟨b,64+k,O⟩=some (.bool (R.started[k]'(by rw[hl];exact hk)))):=fun k hk=>h.cst k hk
 go_enter Tryz.func89,Tryz.ntmps89;go_wp2_with fail;go_loop [3,4] (fun c i=>∃ k:Nat,k≤7∧i=I J k∧c=I J (Rp.starters (R.started.take k):Int)) (fun _ i=>7-(intOf i).toNat)
 case atStart=>exact⟨0,Nat.zero_le _,rfl,by simp[Rp.starters]⟩
 case round =>
  obtain⟨k,hk,rfl,rfl⟩:=hrel
  by_cases hlt:k<7
  ·have ck:=HC.out k hlt;have j1:(0:Int)≤(k:Int):=by omega
   have j2:(k:Int)<7:=by omega
   have hLk:=HL.out k;have HSk:=ah (HS.out k (by omega))
   generalize Rp.starters (R.started.take k)=sk at *;cases hq:R.started[k]'(by omega)
   ·rw[hq] at ck HSk;go_wp2_with fail;go_round
    case rel=>exact⟨k+1,by omega,by go_num,by rw[HSk.out];simp⟩
    case measure=>simp[intOf];omega
   ·rw[hq] at ck HSk;go_wp2_with fail;go_round
    case rel=>exact⟨k+1,by omega,by go_num,by rw[HSk.out];go_num⟩
    case measure=>simp[intOf];omega
  ·obtain rfl:k=7:=by omega
   rw[HF.out];go_wp2;go_ret;exact⟨rfl,rfl⟩
theorem drewN_drewN (w:World) (a c:Nat):(w.drewN a).drewN c=w.drewN (a+c):=by unfold World.drewN;simp[Nat.add_assoc]
theorem Cz (h:ay w b bl W F R V) {q:Int} (h0:0≤q) (h7:q<7):w.cell? ⟨b,55+q.toNat,O⟩=some (I J (R.acks.getD q.toNat 0)):=by
 have:=h.ak
 rw[h.su q.toNat (by omega)]
 simp[List.getD,List.getElem?_eq_getElem (show q.toNat<R.acks.length by omega)]
theorem Cy (g:List Int) (id place:Int) (acks:List Int) (k:Nat) (hk:k<g.length):(g.take (k+1)).countP (fun x=>(x != id)&&decide (place≤acks.getD x.toNat 0))=(g.take k).countP (fun x=>(x != id)&&decide (place≤acks.getD x.toNat 0))+(if ((g[k] != id)&&decide (place≤acks.getD g[k].toNat 0))=true then 1 else 0):=by
 rw[List.take_succ_eq_append_getElem hk,List.countP_append,List.countP_singleton]
theorem EK (h:ay w b bl W F R V) (hR:Ok R) (place:Int):Calls Tryz.prog 174 #[Zp (some ⟨b,0,O⟩),I J place] w fun e w'=>e=Zr (I J (R.nG place:Int))∧∃ n,w'=w.drewN n:=by
 have hg5:=hR.g.1;have hgb:=hR.g.2;have hn7:=hR.n7;obtain⟨a7,cp7,hv7⟩:=h.g7
 have hgI:=h.grp;rw[hv7] at hgI;have HS:Hid (∀ k (hk:k<R.grp.length),(R.grp.take (k+1)).countP (fun x=>(x != R.id)&&decide (place≤R.acks.getD x.toNat 0))=(R.grp.take k).countP (fun x=>(x != R.id)&&decide (place≤R.acks.getD x.toNat 0))+(if ((R.grp[k] != R.id)&&decide (place≤R.acks.getD R.grp[k].toNat 0))=true then 1 else 0)):=Cy R.grp R.id place R.acks
 have HF:Hid ((R.grp.take R.grp.length).countP (fun x=>(x != R.id)&&decide (place≤R.acks.getD x.toNat 0))=R.nG place):=by unfold Hid Rp.nG;rw[List.take_length]
 have HL:Hid (∀ k,(R.grp.take k).countP (fun x=>(x != R.id)&&decide (place≤R.acks.getD x.toNat 0))≤5):=fun k=>by
  have:=List.countP_le_length (p:=fun x=>(x != R.id)&&decide (place≤R.acks.getD x.toNat 0)) (l:=R.grp.take k)
  rw[List.length_take] at this;omega
 have H0:=ah h;clear h;go_enter Tryz.func174,Tryz.ntmps174;go_wp2_with fail;go_loopw [5,6] (fun c i wr=>∃ (k:Nat) (n:Nat),k≤R.grp.length∧i=I J k∧c=I J (((R.grp.take k).countP (fun x=>(x != R.id)&&decide (place≤R.acks.getD x.toNat 0)):Nat):Int)∧wr=w.drewN n) (fun _ i _=>R.grp.length-(intOf i).toNat)
 case atStart=>exact⟨0,0,Nat.zero_le _,rfl,rfl,rfl⟩
 case round =>
  obtain⟨k,n,hk,rfl,rfl,hwr⟩:=hrel
  have hr:ay wr b bl W F R V:=by rw[hwr];exact H0.out.drewN n
  have HW:=ah hwr;have HR:=ah hr;clear hwr;have c0:=hr.c0;have c7:=hr.c7;rw[hv7] at c7;by_cases hlt:k<R.grp.length
  ·have hgr:=hr.grp;rw[hv7] at hgr;obtain⟨b3,o3,rfl,hb3',z3⟩:=hgr.get k hlt
   have gk:=hgb R.grp[k] (List.getElem_mem _);have ca:=Cz hr (q:=R.grp[k]) gk.1 (by omega)
   have j1:(0:Int)≤(k:Int):=by omega
   have j2:(k:Int)<(R.grp.length:Int):=by omega
   have j3:(0:Int)≤R.grp[k]:=gk.1
   have j4:R.grp[k]<7:=by omega
   have hLk:=HL.out k;have HSk:=ah (HS.out k hlt);generalize (R.grp.take k).countP (fun x=>(x != R.id)&&decide (place≤R.acks.getD x.toNat 0))=sk at *
   clear hr hgr gk;generalize R.acks.getD R.grp[k].toNat 0=ak at *;have hq2:Hid (∀ n2,∃ m,(wr.drewN n2)=w.drewN m):=fun n2=>⟨n+n2,by rw[HW.out];exact drewN_drewN w n n2⟩
   cases hq:(R.grp[k]==R.id)
   ·have hne:(R.grp[k] != R.id)=true:=by simp[bne,hq]
    by_cases hp:place≤ak
    ·go_wp2_with fail;go_quiet (fail);rename_i nq;obtain⟨m,hm⟩:=hq2.out nq
     have HM:=ah hm;clear hm;go_wp2;go_roundw
     case rel=>exact⟨k+1,m,by omega,by go_num,by rw[HSk.out,hne,decide_eq_true hp];go_num,HM.out⟩
     case measure=>simp[intOf];omega
    ·go_wp2_with fail;go_quiet (fail);rename_i nq;obtain⟨m,hm⟩:=hq2.out nq
     have HM:=ah hm;clear hm;go_wp2;go_roundw
     case rel=>exact⟨k+1,m,by omega,by go_num,by rw[HSk.out,hne,decide_eq_false (by omega)];simp,HM.out⟩
     case measure=>simp[intOf];omega
   ·have hne:(R.grp[k] != R.id)=false:=by simp[bne,hq]
    go_wp2_with fail;go_quiet (fail);rename_i nq;obtain⟨m,hm⟩:=hq2.out nq
    have HM:=ah hm;clear hm;go_wp2;go_roundw
    case rel=>exact⟨k+1,m,by omega,by go_num,by rw[HSk.out,hne];simp,HM.out⟩
    case measure=>simp[intOf];omega
  ·obtain rfl:k=R.grp.length:=by omega
   rw[HF.out];go_wp2;go_ret;exact⟨rfl,n,HW.out⟩
end
section
variable {w w0:World} {b bl:Nat} {W F:List Nat} {R:Rp} {V:Rv} {P:Pm} {vl vg vo vL:Value}
theorem DJ (r:Rp) (k:Nat):r.mh (k+1)=if eZ r.grp≤(r.nG ((k:Int)+1):Int) then (k:Int)+1 else r.mh k:=rfl
theorem JQ (h:ay w b bl W F R V) (hR:Ok R):Calls Tryz.prog 164 #[Zp (some ⟨b,0,O⟩)] w fun e w'=>e=Zr (I J R.sI)∧∃ n,w'=w.drewN n:=by
 have hg5:=hR.g.1;have hl10:=hR.lg;have c7:=h.c7;have c9:=h.c9;obtain⟨a7,cp7,hv7⟩:=h.g7
 obtain⟨aL9,cL9,hv9⟩:=h.g9
 have hgI:=h.grp;rw[hv7] at hgI c7;rw[hv9] at c9;have HFa:=ah (pO _ R.grp w hgI (by omega))
 have HA:Hid (∀ (k n:Nat),Calls Tryz.prog 174 #[Zp (some ⟨b,0,O⟩),I J (k:Int)] (w.drewN n) fun e w'=>e=Zr (I J (R.nG (k:Int):Int))∧∃ m,w'=w.drewN m):=fun k n=>(EK (h.drewN n) hR k).mono (fun e w' q=>⟨q.1,by obtain⟨m,hm⟩:=q.2;exact⟨n+m,by rw[hm];exact drewN_drewN w n m⟩⟩)
 have HS:Hid (∀ k:Nat,R.mh (k+1)=if eZ R.grp≤(R.nG (((k+1:Nat)):Int):Int) then ((k+1:Nat):Int) else R.mh k):=fun k=>by
  rw[DJ,show (((k+1:Nat)):Int)=(k:Int)+1 by omega]
 have HZ:Hid (R.mh 0=0):=rfl
 have HD:Hid (R.sI=R.mh R.log.length):=rfl
 clear hgI h;go_enter Tryz.func164,Tryz.ntmps164;go_wp2_with fail;refine HFa.out.mono ?_;rintro e w1 ⟨rfl,hw1⟩;subst hw1;go_wp2_with fail;go_loopw [4] (fun i wr=>∃ (k:Nat) (n:Nat),k≤R.log.length∧i=I J k∧R.sI=R.mh k∧wr=w1.drewN n) (fun i _=>(intOf i).toNat)
 case atStart=>exact⟨R.log.length,0,Nat.le_refl _,rfl,HD.out,rfl⟩
 case round =>
  obtain⟨k,n,hk,rfl,hak,hwr⟩:=hrel
  have HK:=ah hak;clear hak;by_cases hz:k=0
  ·subst hz;have HE:Hid (R.sI=0):=by unfold Hid;rw[HK.out,HZ.out]
   have HW:=ah hwr;clear hwr;go_wp2;go_ret;exact⟨nS HE.out.symm,n,HW.out⟩
  ·obtain⟨j,rfl⟩:∃ j,k=j+1:=⟨k-1,by omega⟩
   subst hwr;have j1:(0:Int)<((j+1:Nat):Int):=by omega
   have HAj:=ah (HA.out (j+1) n);have HSj:=ah (HS.out j);go_wp2_with fail;refine HAj.out.mono ?_;rintro e w2 ⟨rfl,m,hm⟩;have HM:=ah hm;clear hm;generalize R.nG (((j+1:Nat)):Int)=ac at *;by_cases hq:eZ R.grp≤(ac:Int)
   ·have HE:Hid (R.sI=((j+1:Nat):Int)):=by unfold Hid;rw[HK.out,HSj.out,if_pos hq]
    go_wp2;go_ret;exact⟨nS HE.out.symm,m,HM.out⟩
   ·have HE:Hid (R.sI=R.mh j):=by unfold Hid;rw[HK.out,HSj.out,if_neg hq]
    go_wp2;go_roundw
    case rel=>exact⟨j,m,by omega,by go_num,HE.out,HM.out⟩
    case measure=>simp[intOf]
theorem EU (h:Rst w0 w b bl W F R) (hR:Ok R):Calls Tryz.prog 164 #[Zp (some ⟨b,0,O⟩)] w fun e w'=>e=Zr (I J R.sI)∧Rst w0 w' b bl W F R :=
 h.get fun _ _ _ h1=>(JQ h1 hR).mono (fun _ _ q=>⟨q.1,by obtain⟨n,hn⟩:=q.2;rw[hn];exact below_drewN (Below.refl _ _) n⟩)
theorem G6 (h:Rst w0 w b bl W F R) (hR:Ok R) (hP:dM w0 W F P vl vg vo vL) (hm:dQ R.n P) (ho:R.out.length≤500000)  :
  Calls Tryz.prog 144 #[Zp (some ⟨b,0,O⟩),.agg (pmC P vl vg vo vL)] w fun e w'=>e=Zr (.tuple #[])∧Rst w0 w' b bl W F (R.iw P):=by
 obtain⟨W1,F1,V1,al,cl,ag,cg,ao,co,aL,cL,rfl,rfl,rfl,rfl,hMA,hPA,hgW,h2,HSA,HK0⟩:=h.msg hP
 clear h hP;simp only[pmC];have HE0:Hid (R.iw P=if R.leads=true∧P.place≤(R.log.length:Int) then (R.eX P.frm.toNat P.place).aT (R.eX P.frm.toNat P.place).sI else R):=rfl
 have f0:=hm.f0;have f7:P.frm<7:=by have:=hm.f1;have:=hR.n7;omega
 have HGs:=ah (Rp.rA hR P.frm.toNat P.place);have HSt:Hid (R.eX P.frm.toNat P.place=if R.acks.getD P.frm.toNat 0<P.place then { R with acks:=R.acks.set P.frm.toNat P.place } else R):=rfl
 have HLq:=ah (fun n=>wT (h2.drewN n) hR)
 clear hm;cases hl:R.leads
 ·have HE:Hid (R.iw P=R):=by unfold Hid;rw[HE0.out,hl,if_neg (fun q=>absurd q.1 (by decide))]
  rw[hl] at HLq;clear HE0;go_enter Tryz.func144,Tryz.ntmps144;go_upto_region 1 with fail
  generalize w.alloc (.cells (pqC P al cl ag cg ao co aL cL) 68)=wA at *;obtain⟨x0,x1,x2,x3,x4,x5,x6,x7,x8,x9,x10,x11,x12,x13,x14,xf⟩:=hMA.all
  have c9:=h2.c9;obtain⟨aL9,cL9,hv9⟩:=h2.g9
  rw[hv9] at c9;go_wp2_with fail;go_quiet ((go_at_call 42;exact Calls.quiet_of (HLq.out _)))
  rename_i nq;have HSq:=ah (HSA.out.drewN nq);have hMHSq:=hMA.kp HSq.out.kp hgW;clear x0 x1 x2 x3 x4 x5 x6 x7 x8 x9 x10 x11 x12 x13 x14 xf c9;generalize wA.drewN nq=wq at *;obtain⟨x0,x1,x2,x3,x4,x5,x6,x7,x8,x9,x10,x11,x12,x13,x14,xf⟩:=hMHSq.all
  go_wp2;exact bodyPost_ret (results_none rfl _ _ _) rfl ⟨rfl,by rw[HE.out];exact HK0.out _ _ HSq.out⟩
 ·rw[hl] at HLq;by_cases hp:P.place≤(R.log.length:Int)
  ·have HE:Hid (R.iw P=(R.eX P.frm.toNat P.place).aT (R.eX P.frm.toNat P.place).sI):=by unfold Hid;rw[HE0.out,if_pos ⟨hl,hp⟩]
   clear HE0;by_cases ha:R.acks.getD P.frm.toNat 0<P.place
   focus
    rw[if_pos ha] at HSt
   rotate_left
   focus
    rw[if_neg ha] at HSt
   rotate_left
   all_goals
    go_enter Tryz.func144,Tryz.ntmps144;go_upto_region 1 with fail
    generalize w.alloc (.cells (pqC P al cl ag cg ao co aL cL) 68)=wA at *;obtain⟨x0,x1,x2,x3,x4,x5,x6,x7,x8,x9,x10,x11,x12,x13,x14,xf⟩:=hMA.all
    have c9:=h2.c9;obtain⟨aL9,cL9,hv9⟩:=h2.g9
    rw[hv9] at c9;go_wp2_with fail;go_quiet ((go_at_call 42;exact Calls.quiet_of (HLq.out _)))
    rename_i nq;have HSq:=ah (HSA.out.drewN nq);have hMHSq:=hMA.kp HSq.out.kp hgW;clear x0 x1 x2 x3 x4 x5 x6 x7 x8 x9 x10 x11 x12 x13 x14 xf c9;generalize wA.drewN nq=wq at *;obtain⟨x0,x1,x2,x3,x4,x5,x6,x7,x8,x9,x10,x11,x12,x13,x14,xf⟩:=hMHSq.all
    obtain⟨WQ,FQ,VQ,hQ,kQ,mQ⟩:=HSq.out
    have ca:=Cz hQ (q:=P.frm) f0 f7;have cf:=hQ.free (55+P.frm.toNat);have HQ:=ah hQ;have HKQ:=ah kQ;have HMQ:=ah mQ;clear hQ kQ mQ;generalize hak:R.acks.getD P.frm.toNat 0=ak at *;clear hak;go_wp2_with fail;go_quiet (fail);rename_i nq;have HSr:=ah (HSq.out.drewN nq);have hMr:=hMA.kp HSr.out.kp hgW
   ·have hr:=HQ.out.drewN nq;have hkr:=HKQ.out.aS (below_drewN (Below.refl _ wq) nq);clear x0 x1 x2 x3 x4 x5 x6 x7 x8 x9 x10 x11 x12 x13 x14 xf ca cf;generalize wq.drewN nq=wr at *;obtain⟨x0,x1,x2,x3,x4,x5,x6,x7,x8,x9,x10,x11,x12,x13,x14,xf⟩:=hMr.all
    have ca:∃ v,wr.cell? ⟨b,55+P.frm.toNat,O⟩=some v:=⟨_,Cz hr (q:=P.frm) f0 f7⟩
    obtain⟨va,ca⟩:=ca
    have cf:=hr.free (55+P.frm.toNat);have h9:=hr.eX P.frm.toNat (by omega) P.place
    have HS9:Hid (Rst wA (wr.setCell ⟨b,55+P.frm.toNat,O⟩ (I J P.place)) b bl W1 F1 (R.eX P.frm.toNat P.place)):=by rw[HSt.out];exact Rst.step hkr HMQ.out (Rst.of h9 (hr.qo _ _))
    clear h9 hr hkr;go_upto_region 3 with fail
    go_cut [] from 5 (fun wx=>Rst wA wx b bl W1 F1 (R.eX P.frm.toNat P.place))
    case first =>
     go_region
     all_goals go_wp2_with fail
     all_goals go_meet
     all_goals exact HS9.out.drew
    case rest =>
     have HSs:=ah hcut;clear hcut x0 x1 x2 x3 x4 x5 x6 x7 x8 x9 x10 x11 x12 x13 x14 xf ca cf;go_wp2_with fail;refine (EU HSs.out HGs.out.ok).mono ?_;rintro e w10 ⟨rfl,hs10⟩;have HS10:=ah hs10;clear hs10;go_wp2_with fail;refine (iL HS10.out HGs.out.ok _ (Nat.le_trans HGs.out.out (by omega))).mono ?_
     rintro e w11 ⟨rfl,hs11⟩;have HS11:=ah hs11;clear hs11;go_wp2;exact bodyPost_end (results_none rfl _ _ _) rfl ⟨rfl,by rw[HE.out];exact HK0.out _ _ HS11.out⟩
   ·rw[HSt.out] at HE HGs;clear x0 x1 x2 x3 x4 x5 x6 x7 x8 x9 x10 x11 x12 x13 x14 xf ca cf;generalize wq.drewN nq=wr at *;go_wp2_with fail;refine (EU HSr.out hR).mono ?_;rintro e w10 ⟨rfl,hs10⟩;have HS10:=ah hs10;clear hs10;go_wp2_with fail;refine (iL HS10.out hR _ (by omega)).mono ?_
    rintro e w11 ⟨rfl,hs11⟩;have HS11:=ah hs11;clear hs11;go_wp2;exact bodyPost_end (results_none rfl _ _ _) rfl ⟨rfl,by rw[HE.out];exact HK0.out _ _ HS11.out⟩
  ·have HE:Hid (R.iw P=R):=by unfold Hid;rw[HE0.out,if_neg (fun q=>hp q.2)]
   clear HE0;go_enter Tryz.func144,Tryz.ntmps144;go_upto_region 1 with fail
   generalize w.alloc (.cells (pqC P al cl ag cg ao co aL cL) 68)=wA at *;obtain⟨x0,x1,x2,x3,x4,x5,x6,x7,x8,x9,x10,x11,x12,x13,x14,xf⟩:=hMA.all
   have c9:=h2.c9;obtain⟨aL9,cL9,hv9⟩:=h2.g9
   rw[hv9] at c9;go_wp2_with fail;go_quiet ((go_at_call 42;exact Calls.quiet_of (HLq.out _)))
   rename_i nq;have HSq:=ah (HSA.out.drewN nq);have hMHSq:=hMA.kp HSq.out.kp hgW;clear x0 x1 x2 x3 x4 x5 x6 x7 x8 x9 x10 x11 x12 x13 x14 xf c9;generalize wA.drewN nq=wq at *;obtain⟨x0,x1,x2,x3,x4,x5,x6,x7,x8,x9,x10,x11,x12,x13,x14,xf⟩:=hMHSq.all
   go_wp2;exact bodyPost_ret (results_none rfl _ _ _) rfl ⟨rfl,by rw[HE.out];exact HK0.out _ _ HSq.out⟩
end
end Go.Proofs.YtbnihoahhomooaaGreatDoor
