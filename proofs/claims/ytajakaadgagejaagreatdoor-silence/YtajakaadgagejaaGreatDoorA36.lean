import Derived.Test.YtajakaadgagejaaGreatDoorA14
set_option maxRecDepth 100000
set_option maxHeartbeats 8000000
set_option linter.unusedVariables false
set_option linter.unusedSimpArgs false
set_option linter.unusedSectionVars false
namespace Go.Proofs.YtajakaadgagejaaGreatDoor
open Go.Value renaming int→I,slice→Y,string→Z,pointer→Zp
open Go.Ending renaming returned→Zr
open _root_.ByteArray renaming empty→Ze
open Go.IntKind renaming i64→J
open Option renaming none→O
open Go.RowKit
section
variable {w w0:World} {b bl:Nat} {W F:List Nat} {R:Rp} {V:Rv} {P:Pm} {vl vg vo vL:Value}
theorem Bv (h:Rst w0 w b bl W F R) (hR:Ok R) (hP:dF w0 W F P vl vg vo vL) (hm:eF R.n P) (ho:R.out.length≤500000) (hk:P.kind=112) :
  Calls Tryz.prog 142 #[Zp (some ⟨b,0,O⟩),.agg (pmC P vl vg vo vL)] w fun e w'=>e=Zr (.tuple #[])∧Rst w0 w' b bl W F (R.dZ P):=by
 obtain⟨W1,F1,V1,h1,k1,m1,p1⟩:=h.pm hP
 obtain⟨al,cl,ag,cg,ao,co,aL,cL,rfl,rfl,rfl,rfl⟩:=p1.cells
 have hbA:Below w.heap.size w (w.alloc (.cells (pqC P al cl ag cg ao co aL cL) 68)):=(Below.refl _ w).alloc (Nat.le_refl _) _
 have hMA:bB (w.alloc (.cells (pqC P al cl ag cg ao co aL cL) 68)) w.heap.size (pqC P al cl ag cg ao co aL cL):=⟨rfl,heap_alloc_new w _⟩
 have hPA:=p1.below hbA;have hgW:w.heap.size∉W1:=fun hc=>by have:=h1.wlt _ hc;omega
 have h2:=h1.below hbA;have HSA:=ah (Rst.refl h2);have HK0:Hid (∀ w' R',Rst (w.alloc (.cells (pqC P al cl ag cg ao co aL cL) 68)) w' b bl W1 F1 R'→Rst w0 w' b bl W F R'):=fun w' R' q=>Rst.step (k1.aF hbA) m1 q
 clear h p1 hP h1 hbA;simp only[pmC];obtain⟨i0,hi,hz0,hz1,hz2⟩:=info_parts Tryz.infoEnt
 have HE0:Hid (R.dZ P=if P.frm=R.jJ then (if (R.log.length:Int)+1<P.place then R.bare P.frm 103 else if P.place=(R.log.length:Int)+1 then (if R.closing then R else (({ R with log:=R.log++[P.ent] }:Rp).ack P.frm).bF P.commit) else (R.ack P.frm).bF P.commit) else R):=rfl
 have hl10:=hR.lg;have hwl:IntKind.i64.wrap ((R.log.length:Int)+1)=(R.log.length:Int)+1:=eB (by omega) (by omega)
 have HPl:=ah (hm.pl (.inl hk));have HEn:=ah (hm.en hk);have HGa:=ah (Rp.jG hR P.frm);clear hm hk;cases hq:(P.frm==R.jJ)
 ·have hne:(P.frm != R.jJ)=true:=by simp[bne,hq]
  have HE:Hid (R.dZ P=R):=by unfold Hid;rw[HE0.out,if_neg (by simpa using hq)]
  clear HE0;go_enter Tryz.func142,Tryz.ntmps142;go_upto_region 1 with fail
  generalize w.alloc (.cells (pqC P al cl ag cg ao co aL cL) 68)=wA at *;obtain⟨x0,x1,x2,x3,x4,x5,x6,x7,x8,x9,x10,x11,x12,x13,x14,xf⟩:=hMA.all
  have HPq:=ah (fun n=>fU (h2.drewN n) hR)
  go_wp2_with fail;go_quiet ((go_at_call 121;exact Calls.quiet_of (HPq.out _)))
  rename_i nq;have HSq:=ah (HSA.out.drewN nq);have hMHSq:=hMA.kp HSq.out.kp hgW;clear x0 x1 x2 x3 x4 x5 x6 x7 x8 x9 x10 x11 x12 x13 x14 xf;generalize wA.drewN nq=wq at *;obtain⟨x0,x1,x2,x3,x4,x5,x6,x7,x8,x9,x10,x11,x12,x13,x14,xf⟩:=hMHSq.all
  obtain⟨_,_,VHSq,rHSq,_,_⟩:=HSq.out
  have c9:=rHSq.c9;obtain⟨aL9,cL9,hv9⟩:=rHSq.g9
  rw[hv9] at c9;clear rHSq;go_wp2_with fail;exact bodyPost_ret (results_none rfl _ _ _) rfl ⟨rfl,by rw[HE.out];exact HK0.out _ _ HSq.out⟩
 ·have hne:(P.frm != R.jJ)=false:=by simp[bne,hq]
  have HE1:Hid (R.dZ P=if (R.log.length:Int)+1<P.place then R.bare P.frm 103 else if P.place=(R.log.length:Int)+1 then (if R.closing then R else (({ R with log:=R.log++[P.ent] }:Rp).ack P.frm).bF P.commit) else (R.ack P.frm).bF P.commit):=by unfold Hid;rw[HE0.out,if_pos (by simpa using hq)]
  clear HE0;by_cases q1:(R.log.length:Int)+1<P.place
  ·have HE:Hid (R.dZ P=R.bare P.frm 103):=by unfold Hid;rw[HE1.out,if_pos q1]
   clear HE1;go_enter Tryz.func142,Tryz.ntmps142;go_upto_region 1 with fail
   generalize w.alloc (.cells (pqC P al cl ag cg ao co aL cL) 68)=wA at *;obtain⟨x0,x1,x2,x3,x4,x5,x6,x7,x8,x9,x10,x11,x12,x13,x14,xf⟩:=hMA.all
   have HPq:=ah (fun n=>fU (h2.drewN n) hR)
   go_wp2_with fail;go_quiet ((go_at_call 121;exact Calls.quiet_of (HPq.out _)))
   rename_i nq;have HSq:=ah (HSA.out.drewN nq);have hMHSq:=hMA.kp HSq.out.kp hgW;clear x0 x1 x2 x3 x4 x5 x6 x7 x8 x9 x10 x11 x12 x13 x14 xf;generalize wA.drewN nq=wq at *;obtain⟨x0,x1,x2,x3,x4,x5,x6,x7,x8,x9,x10,x11,x12,x13,x14,xf⟩:=hMHSq.all
   obtain⟨_,_,VHSq,rHSq,_,_⟩:=HSq.out
   have c9:=rHSq.c9;obtain⟨aL9,cL9,hv9⟩:=rHSq.g9
   rw[hv9] at c9;clear rHSq;go_wp2_with fail;go_quiet (fail);rename_i nq;have HSr:=ah (HSq.out.drewN nq);have hMHSr:=hMA.kp HSr.out.kp hgW;clear x0 x1 x2 x3 x4 x5 x6 x7 x8 x9 x10 x11 x12 x13 x14 xf c9;generalize wq.drewN nq=wr at *;obtain⟨x0,x1,x2,x3,x4,x5,x6,x7,x8,x9,x10,x11,x12,x13,x14,xf⟩:=hMHSr.all
   obtain⟨_,_,VHSr,rHSr,_,_⟩:=HSr.out
   have c9:=rHSr.c9;obtain⟨aL9,cL9,hv9⟩:=rHSr.g9
   rw[hv9] at c9;clear rHSr;go_wp2_with fail;refine (fu HSr.out hR P.frm 103 (by decide) (by omega)).mono ?_
   rintro e w1 ⟨rfl,hs1⟩;have HS1:=ah hs1;clear hs1;have hM1:=hMA.kp HS1.out.kp hgW;obtain⟨_,_,_,_,_,_,_,_,_,_,_,_,_,_,_,_⟩:=hM1.all
   go_wp2_with fail;exact bodyPost_ret (results_none rfl _ _ _) rfl ⟨rfl,by rw[HE.out];exact HK0.out _ _ HS1.out⟩
  ·cases q2:(P.place==(R.log.length:Int)+1)
   ·have HE:Hid (R.dZ P=(R.ack P.frm).bF P.commit):=by unfold Hid;rw[HE1.out,if_neg q1,if_neg (by simpa using q2)]
    clear HE1;go_enter Tryz.func142,Tryz.ntmps142;go_upto_region 1 with fail
    generalize w.alloc (.cells (pqC P al cl ag cg ao co aL cL) 68)=wA at *;obtain⟨x0,x1,x2,x3,x4,x5,x6,x7,x8,x9,x10,x11,x12,x13,x14,xf⟩:=hMA.all
    have HPq:=ah (fun n=>fU (h2.drewN n) hR)
    go_wp2_with fail;go_quiet ((go_at_call 121;exact Calls.quiet_of (HPq.out _)))
    rename_i nq;have HSq:=ah (HSA.out.drewN nq);have hMHSq:=hMA.kp HSq.out.kp hgW;clear x0 x1 x2 x3 x4 x5 x6 x7 x8 x9 x10 x11 x12 x13 x14 xf;generalize wA.drewN nq=wq at *;obtain⟨x0,x1,x2,x3,x4,x5,x6,x7,x8,x9,x10,x11,x12,x13,x14,xf⟩:=hMHSq.all
    obtain⟨_,_,VHSq,rHSq,_,_⟩:=HSq.out
    have c9:=rHSq.c9;obtain⟨aL9,cL9,hv9⟩:=rHSq.g9
    rw[hv9] at c9;clear rHSq;go_wp2_with fail;go_quiet (fail);rename_i nq;have HSr:=ah (HSq.out.drewN nq);have hMHSr:=hMA.kp HSr.out.kp hgW;clear x0 x1 x2 x3 x4 x5 x6 x7 x8 x9 x10 x11 x12 x13 x14 xf c9;generalize wq.drewN nq=wr at *;obtain⟨x0,x1,x2,x3,x4,x5,x6,x7,x8,x9,x10,x11,x12,x13,x14,xf⟩:=hMHSr.all
    obtain⟨_,_,VHSr,rHSr,_,_⟩:=HSr.out
    have c9:=rHSr.c9;obtain⟨aL9,cL9,hv9⟩:=rHSr.g9
    rw[hv9] at c9;clear rHSr;go_wp2_with fail;go_quiet (fail);rename_i nq;have HSt:=ah (HSr.out.drewN nq);have hMHSt:=hMA.kp HSt.out.kp hgW;clear x0 x1 x2 x3 x4 x5 x6 x7 x8 x9 x10 x11 x12 x13 x14 xf c9;generalize wr.drewN nq=wt at *;obtain⟨x0,x1,x2,x3,x4,x5,x6,x7,x8,x9,x10,x11,x12,x13,x14,xf⟩:=hMHSt.all
    obtain⟨_,_,VHSt,rHSt,_,_⟩:=HSt.out
    have c9:=rHSt.c9;obtain⟨aL9,cL9,hv9⟩:=rHSt.g9
    rw[hv9] at c9;clear rHSt;go_wp2_with fail;refine (Bt HSt.out hR P.frm (by omega)).mono ?_
    rintro e w1 ⟨rfl,hs1⟩;have HS1:=ah hs1;clear hs1;have hM1:=hMA.kp HS1.out.kp hgW;obtain⟨_,_,_,_,_,_,_,_,_,_,_,_,_,_,_,_⟩:=hM1.all
    go_wp2_with fail;refine (iA HS1.out HGa.out.ok P.commit (Nat.le_trans HGa.out.out (by omega))).mono ?_
    rintro e w2 ⟨rfl,hs2⟩;have HS2:=ah hs2;clear hs2;have hM2:=hMA.kp HS2.out.kp hgW;obtain⟨_,_,_,_,_,_,_,_,_,_,_,_,_,_,_,_⟩:=hM2.all
    go_wp2_with fail;exact bodyPost_end (results_none rfl _ _ _) rfl ⟨rfl,by rw[HE.out];exact HK0.out _ _ HS2.out⟩
   ·have HP2:Hid (P.place=(R.log.length:Int)+1):=ah (by simpa using q2)
    have HE2:Hid (R.dZ P=if R.closing then R else (({ R with log:=R.log++[P.ent] }:Rp).ack P.frm).bF P.commit):=by unfold Hid;rw[HE1.out,if_neg q1,if_pos HP2.out]
    clear HE1;cases hcl:R.closing
    ·have HE:Hid (R.dZ P=(({ R with log:=R.log++[P.ent] }:Rp).ack P.frm).bF P.commit):=by unfold Hid;rw[HE2.out,hcl];rfl
     have HO1:=ah (Rp.um hR HEn.out (by have:=HPl.out.2;have:=HP2.out;omega))
     have HGb:=ah (Rp.jG HO1.out P.frm);clear HE2;go_enter Tryz.func142,Tryz.ntmps142;go_upto_region 1 with fail
     generalize w.alloc (.cells (pqC P al cl ag cg ao co aL cL) 68)=wA at *;obtain⟨x0,x1,x2,x3,x4,x5,x6,x7,x8,x9,x10,x11,x12,x13,x14,xf⟩:=hMA.all
     have HPq:=ah (fun n=>fU (h2.drewN n) hR)
     go_wp2_with fail;go_quiet ((go_at_call 121;exact Calls.quiet_of (HPq.out _)))
     rename_i nq;have HSq:=ah (HSA.out.drewN nq);have hMHSq:=hMA.kp HSq.out.kp hgW;clear x0 x1 x2 x3 x4 x5 x6 x7 x8 x9 x10 x11 x12 x13 x14 xf;generalize wA.drewN nq=wq at *;obtain⟨x0,x1,x2,x3,x4,x5,x6,x7,x8,x9,x10,x11,x12,x13,x14,xf⟩:=hMHSq.all
     obtain⟨_,_,VHSq,rHSq,_,_⟩:=HSq.out
     have c9:=rHSq.c9;obtain⟨aL9,cL9,hv9⟩:=rHSq.g9
     rw[hv9] at c9;clear rHSq;go_wp2_with fail;go_quiet (fail);rename_i nq;have HSr:=ah (HSq.out.drewN nq);have hMHSr:=hMA.kp HSr.out.kp hgW;clear x0 x1 x2 x3 x4 x5 x6 x7 x8 x9 x10 x11 x12 x13 x14 xf c9;generalize wq.drewN nq=wr at *;obtain⟨x0,x1,x2,x3,x4,x5,x6,x7,x8,x9,x10,x11,x12,x13,x14,xf⟩:=hMHSr.all
     obtain⟨_,_,VHSr,rHSr,_,_⟩:=HSr.out
     have c9:=rHSr.c9;obtain⟨aL9,cL9,hv9⟩:=rHSr.g9
     rw[hv9] at c9;clear rHSr;go_wp2_with fail;go_quiet (fail);rename_i nq;have HSt:=ah (HSr.out.drewN nq);have hMHSt:=hMA.kp HSt.out.kp hgW;clear x0 x1 x2 x3 x4 x5 x6 x7 x8 x9 x10 x11 x12 x13 x14 xf c9;generalize wr.drewN nq=wt at *;obtain⟨x0,x1,x2,x3,x4,x5,x6,x7,x8,x9,x10,x11,x12,x13,x14,xf⟩:=hMHSt.all
     obtain⟨_,_,VHSt,rHSt,_,_⟩:=HSt.out
     have c9:=rHSt.c9;obtain⟨aL9,cL9,hv9⟩:=rHSt.g9
     rw[hv9] at c9;clear rHSt;have HC:=ah (jy HSt.out hR);rw[hcl] at HC;go_wp2_with fail;refine HC.out.mono ?_;rintro e w1 ⟨rfl,hs1⟩;have HS1:=ah hs1;have hM1:=hMA.kp hs1.kp hgW;clear hs1 x0 x1 x2 x3 x4 x5 x6 x7 x8 x9 x10 x11 x12 x13 x14 xf c9;obtain⟨x0,x1,x2,x3,x4,x5,x6,x7,x8,x9,x10,x11,x12,x13,x14,xf⟩:=hM1.all
     obtain⟨WZ,FZ,VZ,hZ,kZ,mZ⟩:=HS1.out
     have c9:=hZ.c9;have f9:=hZ.free 9;obtain⟨aL9,cL9,hvL9⟩:=hZ.g9
     have hown9:=hZ.log;rw[hvL9] at c9 hown9;go_wp2_with fail;have hneb:some b≠(Y aL9 R.log.length cL9).ownBlock:=lQ hown9 hZ.block (by decide)
     have hbwz:b<w1.heap.size:=hZ.lb
     have ne9:=World.new_ne w1 ⟨b,9,O⟩ c9;go_region_law (first|(refine step_append_lies (w:=(w1.alloc (.cells #[I J P.ent.1,I J P.ent.2.1,Z P.ent.2.2] 66)).drew) (by rfl) (.tmp 37) (.tmp 40) 47 (by rfl) 0 66 i0 (.agg #[I J 0,I J 0,Z Ze]) 3 32 Tryz.underlying47 hi hz0 hz1 hz2 rfl (by decide) (Y aL9 R.log.length cL9) R.log.length (aA R.log) (by rfl) (bH (hown9.alloc _) (Below.refl _ _).drew) ⟨w1.heap.size,0,O⟩ 1 1 [I J P.ent.1,I J P.ent.2.1,Z P.ent.2.2] (by rfl) (by rfl) (World.news_of_block (show ((w1.alloc (.cells #[I J P.ent.1,I J P.ent.2.1,Z P.ent.2.2] 66)).drew).heap[w1.heap.size]? = _ from heap_alloc_new w1 (.cells #[I J P.ent.1,I J P.ent.2.1,Z P.ent.2.2] 66))) (by intro u hu;simp at hu;rcases hu with rfl|rfl|rfl <;> rfl) (by decide) (by unfold maxLen;omega) (by omega) (Nat.zero_le _) (w1.heap.size+1) (by simp) ?_;intro g4 cap4 w4 hown4 hg4 hat4 hlt4;have hbl:Below w1.heap.size w1 ((w1.alloc (.cells #[I J P.ent.1,I J P.ent.2.1,Z P.ent.2.2] 66)).drew):=(((Below.refl _ w1).alloc (Nat.le_refl _) _).drew);have t9:w4.cell? ⟨b,9,O⟩=some (Y aL9 R.log.length cL9):=(hg4.cell_far ⟨b,9,O⟩ (by simp;omega) hneb).trans ((hbl.cell (p:=⟨b,9,O⟩) hbwz).trans c9);have g9:w4.frozen? ⟨b,9,O⟩=false:=(hg4.frozen_far ⟨b,9,O⟩ (by simp;omega) hneb).trans ((hbl.frozen (p:=⟨b,9,O⟩) hbwz).trans f9))|(refine step_append_lies (w:=w1.drew.alloc (.cells #[I J P.ent.1,I J P.ent.2.1,Z P.ent.2.2] 66)) (by rfl) (.tmp 37) (.tmp 40) 47 (by rfl) 0 66 i0 (.agg #[I J 0,I J 0,Z Ze]) 3 32 Tryz.underlying47 hi hz0 hz1 hz2 rfl (by decide) (Y aL9 R.log.length cL9) R.log.length (aA R.log) (by rfl) ((bH hown9 (Below.refl _ _).drew).alloc _) ⟨w1.heap.size,0,O⟩ 1 1 [I J P.ent.1,I J P.ent.2.1,Z P.ent.2.2] (by rfl) (by rfl) (World.news_of_block (heap_alloc_new w1.drew (.cells #[I J P.ent.1,I J P.ent.2.1,Z P.ent.2.2] 66))) (by intro u hu;simp at hu;rcases hu with rfl|rfl|rfl <;> rfl) (by decide) (by unfold maxLen;omega) (by omega) (Nat.zero_le _) (w1.heap.size+1) (by simp) ?_;intro g4 cap4 w4 hown4 hg4 hat4 hlt4;have hbl:Below w1.heap.size w1 (w1.drew.alloc (.cells #[I J P.ent.1,I J P.ent.2.1,Z P.ent.2.2] 66)):=((Below.refl _ w1).drew.alloc (Nat.le_refl _) _);have t9:w4.cell? ⟨b,9,O⟩=some (Y aL9 R.log.length cL9):=(hg4.cell_far ⟨b,9,O⟩ (by simp;omega) hneb).trans ((hbl.cell (p:=⟨b,9,O⟩) hbwz).trans c9);have g9:w4.frozen? ⟨b,9,O⟩=false:=(hg4.frozen_far ⟨b,9,O⟩ (by simp;omega) hneb).trans ((hbl.frozen (p:=⟨b,9,O⟩) hbwz).trans f9)))
     all_goals
      have e2:aA (R.log++[P.ent])=aA R.log++[I J P.ent.1,I J P.ent.2.1,Z P.ent.2.2]:=by simp[aA]
      have ho4:w4.ownsRow 0 66 3 (Y (some ⟨g4,0,O⟩) (R.log.length+1) cap4) (R.log.length+1) (aA (R.log++[P.ent])):=by rw[e2];exact hown4
      have HSl:=ah (Rst.step kZ mZ (hZ.ES (x:=P.ent) hbl (by rw[hvL9];exact hg4) ho4 (by rw[hvL9];exact hat4.imp (fun q=>q) (fun q=>by omega))))
      clear ho4 e2;clear x0 x1 x2 x3 x4 x5 x6 x7 x8 x9 x10 x11 x12 x13 x14 xf;have hM5:=hMA.kp HSl.out.kp hgW;generalize w4.setCell ⟨b,9,O⟩ (Y (some ⟨g4,0,O⟩) (R.log.length+1) cap4)=w5 at *;obtain⟨x0,x1,x2,x3,x4,x5,x6,x7,x8,x9,x10,x11,x12,x13,x14,xf⟩:=hM5.all
      go_wp2_with fail;refine (Bt HSl.out HO1.out P.frm (by show R.out.length≤900000;omega)).mono ?_
      rintro e w6 ⟨rfl,hs6⟩;have HS6:=ah hs6;clear hs6;have hM6:=hMA.kp HS6.out.kp hgW;obtain⟨_,_,_,_,_,_,_,_,_,_,_,_,_,_,_,_⟩:=hM6.all
      go_wp2_with fail;refine (iA HS6.out HGb.out.ok P.commit (Nat.le_trans HGb.out.out (by show R.out.length+1≤600000;omega))).mono ?_
      rintro e w7 ⟨rfl,hs7⟩;have HS7:=ah hs7;clear hs7;have hM7:=hMA.kp HS7.out.kp hgW;obtain⟨_,_,_,_,_,_,_,_,_,_,_,_,_,_,_,_⟩:=hM7.all
      go_wp2_with fail;exact bodyPost_end (results_none rfl _ _ _) rfl ⟨rfl,by rw[HE.out];exact HK0.out _ _ HS7.out⟩
    ·have HE:Hid (R.dZ P=R):=by unfold Hid;rw[HE2.out,hcl];rfl
     clear HE2;go_enter Tryz.func142,Tryz.ntmps142;go_upto_region 1 with fail
     generalize w.alloc (.cells (pqC P al cl ag cg ao co aL cL) 68)=wA at *;obtain⟨x0,x1,x2,x3,x4,x5,x6,x7,x8,x9,x10,x11,x12,x13,x14,xf⟩:=hMA.all
     have HPq:=ah (fun n=>fU (h2.drewN n) hR)
     go_wp2_with fail;go_quiet ((go_at_call 121;exact Calls.quiet_of (HPq.out _)))
     rename_i nq;have HSq:=ah (HSA.out.drewN nq);have hMHSq:=hMA.kp HSq.out.kp hgW;clear x0 x1 x2 x3 x4 x5 x6 x7 x8 x9 x10 x11 x12 x13 x14 xf;generalize wA.drewN nq=wq at *;obtain⟨x0,x1,x2,x3,x4,x5,x6,x7,x8,x9,x10,x11,x12,x13,x14,xf⟩:=hMHSq.all
     obtain⟨_,_,VHSq,rHSq,_,_⟩:=HSq.out
     have c9:=rHSq.c9;obtain⟨aL9,cL9,hv9⟩:=rHSq.g9
     rw[hv9] at c9;clear rHSq;go_wp2_with fail;go_quiet (fail);rename_i nq;have HSr:=ah (HSq.out.drewN nq);have hMHSr:=hMA.kp HSr.out.kp hgW;clear x0 x1 x2 x3 x4 x5 x6 x7 x8 x9 x10 x11 x12 x13 x14 xf c9;generalize wq.drewN nq=wr at *;obtain⟨x0,x1,x2,x3,x4,x5,x6,x7,x8,x9,x10,x11,x12,x13,x14,xf⟩:=hMHSr.all
     obtain⟨_,_,VHSr,rHSr,_,_⟩:=HSr.out
     have c9:=rHSr.c9;obtain⟨aL9,cL9,hv9⟩:=rHSr.g9
     rw[hv9] at c9;clear rHSr;go_wp2_with fail;go_quiet (fail);rename_i nq;have HSt:=ah (HSr.out.drewN nq);have hMHSt:=hMA.kp HSt.out.kp hgW;clear x0 x1 x2 x3 x4 x5 x6 x7 x8 x9 x10 x11 x12 x13 x14 xf c9;generalize wr.drewN nq=wt at *;obtain⟨x0,x1,x2,x3,x4,x5,x6,x7,x8,x9,x10,x11,x12,x13,x14,xf⟩:=hMHSt.all
     obtain⟨_,_,VHSt,rHSt,_,_⟩:=HSt.out
     have c9:=rHSt.c9;obtain⟨aL9,cL9,hv9⟩:=rHSt.g9
     rw[hv9] at c9;clear rHSt;have HC:=ah (jy HSt.out hR);rw[hcl] at HC;go_wp2_with fail;refine (HC.out).mono ?_;rintro e w1 ⟨rfl,hs1⟩;have HS1:=ah hs1;clear hs1;have hM1:=hMA.kp HS1.out.kp hgW;obtain⟨_,_,_,_,_,_,_,_,_,_,_,_,_,_,_,_⟩:=hM1.all
     go_wp2_with fail;exact bodyPost_ret (results_none rfl _ _ _) rfl ⟨rfl,by rw[HE.out];exact HK0.out _ _ HS1.out⟩
end
section
variable {w w0:World} {b bl:Nat} {W F:List Nat} {R:Rp} {V:Rv} {P:Pm} {vl vg vo vL:Value}
theorem GQ (h:Rst w0 w b bl W F R) (hR:Ok R) (hP:dF w0 W F P vl vg vo vL) (hm:eF R.n P) (ho:R.out.length≤900000)  :
  Calls Tryz.prog 50 #[Zp (some ⟨b,0,O⟩),.agg (pmC P vl vg vo vL)] w fun e w'=>e=Zr (.tuple #[])∧Rst w0 w' b bl W F (R.answer P):=by
 obtain⟨W1,F1,V1,h1,k1,m1,p1⟩:=h.pm hP
 obtain⟨al,cl,ag,cg,ao,co,aL,cL,rfl,rfl,rfl,rfl⟩:=p1.cells
 have hbA:Below w.heap.size w (w.alloc (.cells (pqC P al cl ag cg ao co aL cL) 68)):=(Below.refl _ w).alloc (Nat.le_refl _) _
 have hMA:bB (w.alloc (.cells (pqC P al cl ag cg ao co aL cL) 68)) w.heap.size (pqC P al cl ag cg ao co aL cL):=⟨rfl,heap_alloc_new w _⟩
 have hPA:=p1.below hbA;have hgW:w.heap.size∉W1:=fun hc=>by have:=h1.wlt _ hc;omega
 have h2:=h1.below hbA;have HSA:=ah (Rst.refl h2);have HK0:Hid (∀ w' R',Rst (w.alloc (.cells (pqC P al cl ag cg ao co aL cL) 68)) w' b bl W1 F1 R'→Rst w0 w' b bl W F R'):=fun w' R' q=>Rst.step (k1.aF hbA) m1 q
 clear h p1 hP h1 hbA;simp only[pmC];have HE0:Hid (R.answer P=if R.status==1 then R.send P.frm { R.dQ with kind:=97,life:=P.lives.getD P.frm.toNat 0 } else R):=rfl
 cases hs:(R.status==1)
 ·have hne:(R.status != 1)=true:=by simp[bne,hs]
  have HE:Hid (R.answer P=R):=by unfold Hid;rw[HE0.out,hs];rfl
  clear HE0 hm;go_enter Tryz.func50,Tryz.ntmps50;go_upto_region 1 with fail
  generalize w.alloc (.cells (pqC P al cl ag cg ao co aL cL) 68)=wA at *;obtain⟨x0,x1,x2,x3,x4,x5,x6,x7,x8,x9,x10,x11,x12,x13,x14,xf⟩:=hMA.all
  have c3:=h2.c3;go_wp2_with fail;exact bodyPost_ret (results_none rfl _ _ _) rfl ⟨rfl,by rw[HE.out];exact HK0.out _ _ HSA.out⟩
 ·have hne:(R.status != 1)=false:=by simp[bne,hs]
  obtain⟨fn,hfn⟩:∃ f:Nat,P.frm=f:=⟨P.frm.toNat,by have:=hm.f0;omega⟩
  have g2:fn<P.lives.length:=by have:=hm.f1;have:=hm.ll;omega
  have HE:Hid (R.answer P=R.send (fn:Int) { R.dQ with kind:=97,life:=P.lives[fn] }):=by
   unfold Hid;rw[HE0.out,hs,hfn];simp[List.getD,g2]
  have HLf:=ah (hm.lb P.lives[fn] (List.getElem_mem _));have hpl:=hPA.lives;obtain⟨b3,o3,rfl,hb3,z3⟩:=hpl.get fn g2
  obtain⟨clr,hvl⟩:=h2.g2
  obtain⟨aLr,cLr,hvL⟩:=h2.g9
  obtain⟨agr,cgr,hvg⟩:=h2.g7
  obtain⟨aor,cor,hvo⟩:=h2.g8
  have HH:=ah (qA h2);rw[hvl,hvg,hvo,hvL] at HH;have HSe:Hid (∀ w',Below (w.alloc (.cells #[I .u8 P.kind,I J P.frm,Y (some ⟨b3,o3,O⟩) P.lives.length cl,I J P.epoch,I J P.view,I J P.place,I J P.ent.1,I J P.ent.2.1,Z P.ent.2.2,I J P.commit,I J P.normal,I J P.life,Y ag P.grp.length cg,Y ao P.old.length co,Y aL P.log.length cL] 68)).heap.size (w.alloc (.cells #[I .u8 P.kind,I J P.frm,Y (some ⟨b3,o3,O⟩) P.lives.length cl,I J P.epoch,I J P.view,I J P.place,I J P.ent.1,I J P.ent.2.1,Z P.ent.2.2,I J P.commit,I J P.normal,I J P.life,Y ag P.grp.length cg,Y ao P.old.length co,Y aL P.log.length cL] 68)) w'→Calls Tryz.prog 88 #[Zp (some ⟨b,0,O⟩),I J (fn:Int),.agg #[I .u8 97,I J R.id,Y (some ⟨bl,0,O⟩) R.lives.length clr,I J R.epoch,I J R.view,I J 0,I J 0,I J 0,Z ⟨#[]⟩,I J (R.decided:Int),I J 0,I J P.lives[fn],Y agr R.grp.length cgr,Y aor R.old.length cor,Y aLr R.log.length cLr]] w' fun e w''=>e=Zr (.tuple #[])∧Rst w0 w'' b bl W F (R.send (fn:Int) { R.dQ with kind:=97,life:=P.lives[fn] })):=fun w' hb=>by
   have hw:=h2.below hb;have hh:lu w' { R.dQ with kind:=97,life:=P.lives[fn] } V1.vl V1.vg V1.vo V1.vL:=⟨hw.lives.rd,hw.grp,hw.old,hw.ents⟩
   rw[hvl,hvg,hvo,hvL] at hh;exact (lU hw (fn:Int) { R.dQ with kind:=97,life:=P.lives[fn] } _ _ _ _ ((Gm hR HLf.out).pw hR) hh (by omega)).mono (fun e w'' q=>⟨q.1,HK0.out _ _ (Rst.pre (Kp.of_below hb) (Snt.rst hw q.2))⟩)
  have HFn:=ah hfn;clear HE0 hm hfn;go_enter Tryz.func50,Tryz.ntmps50;go_upto_region 1 with fail
  generalize w.alloc (.cells #[I .u8 P.kind,I J P.frm,Y (some ⟨b3,o3,O⟩) P.lives.length cl,I J P.epoch,I J P.view,I J P.place,I J P.ent.1,I J P.ent.2.1,Z P.ent.2.2,I J P.commit,I J P.normal,I J P.life,Y ag P.grp.length cg,Y ao P.old.length co,Y aL P.log.length cL] 68)=wA at *;have c3:=h2.c3;go_wp2_with fail;refine HH.out.mono ?_;rintro e w1 ⟨rfl,hb1⟩;have hM1:bB w1 w.heap.size #[I .u8 P.kind,I J P.frm,Y (some ⟨b3,o3,O⟩) P.lives.length cl,I J P.epoch,I J P.view,I J P.place,I J P.ent.1,I J P.ent.2.1,Z P.ent.2.2,I J P.commit,I J P.normal,I J P.life,Y ag P.grp.length cg,Y ao P.old.length co,Y aL P.log.length cL]:=hMA.kp (S:=[]) (Kp.of_below hb1) (by simp)
  have x1:w1.cell? ⟨w.heap.size,1,O⟩=some (I J (fn:Int)):=by have q:=hM1.cell 1;rw[q];simp[HFn.out]
  have x2:w1.cell? ⟨w.heap.size,2,O⟩=some (Y (some ⟨b3,o3,O⟩) P.lives.length cl):=by have q:=hM1.cell 2;rw[q];rfl
  have z1:=(hb1.cell (p:=⟨b3,o3+fn,O⟩) hb3).trans z3;have hlM:=lt_of_block hM1.2;have hb31:b3<w1.heap.size:=Nat.lt_of_lt_of_le hb3 hb1.size
  have hal:=fun o=>(Below.refl w1.heap.size w1).alloc (Nat.le_refl _) o
  have y1:=fun o=>((hal o).cell (p:=⟨w.heap.size,1,O⟩) hlM).trans x1
  have y2:=fun o=>((hal o).cell (p:=⟨w.heap.size,2,O⟩) hlM).trans x2
  have y3:=fun o=>((hal o).cell (p:=⟨b3,o3+fn,O⟩) hb31).trans z1
  have j1:(0:Int)≤(fn:Int):=by omega
  have j2:(fn:Int)<(P.lives.length:Int):=by omega
  simp only[pmC,Rp.dQ,Rp.head,pm0];clear hal hM1 x1 x2 z1 z3 hlM c3;go_wp2_with fail;refine (HSe.out _ (hb1.alloc hb1.size _)).mono ?_;rintro e w2 ⟨rfl,hs2⟩;have HS2:=ah hs2;clear hs2;go_wp2_with fail;exact bodyPost_end (results_none rfl _ _ _) rfl ⟨rfl,by rw[HE.out];exact HS2.out⟩
theorem Ez (h:Rst w0 w b bl W F R) (hR:Ok R) (hP:dF w0 W F P vl vg vo vL) (hm:eF R.n P)  :
  Calls Tryz.prog 20 #[Zp (some ⟨b,0,O⟩),.agg (pmC P vl vg vo vL)] w fun e w'=>e=Zr (.bool (R.alive P))∧Rst w0 w' b bl W F (R):=by
 obtain⟨W1,F1,V1,h1,k1,m1,p1⟩:=h.pm hP
 obtain⟨al,cl,ag,cg,ao,co,aL,cL,rfl,rfl,rfl,rfl⟩:=p1.cells
 have hbA:Below w.heap.size w (w.alloc (.cells (pqC P al cl ag cg ao co aL cL) 68)):=(Below.refl _ w).alloc (Nat.le_refl _) _
 have hMA:bB (w.alloc (.cells (pqC P al cl ag cg ao co aL cL) 68)) w.heap.size (pqC P al cl ag cg ao co aL cL):=⟨rfl,heap_alloc_new w _⟩
 have hPA:=p1.below hbA;have hgW:w.heap.size∉W1:=fun hc=>by have:=h1.wlt _ hc;omega
 have h2:=h1.below hbA;have HSA:=ah (Rst.refl h2);have HK0:Hid (∀ w' R',Rst (w.alloc (.cells (pqC P al cl ag cg ao co aL cL) 68)) w' b bl W1 F1 R'→Rst w0 w' b bl W F R'):=fun w' R' q=>Rst.step (k1.aF hbA) m1 q
 clear h p1 hP h1 hbA;simp only[pmC];have HE0:Hid (R.alive P=((P.frm != R.id)&&decide (R.lives.getD P.frm.toNat 0≤P.lives.getD P.frm.toNat 0))):=rfl
 obtain⟨fn,hfn⟩:∃ f:Nat,P.frm=f:=⟨P.frm.toNat,by have:=hm.f0;omega⟩
 have g2:fn<P.lives.length:=by have:=hm.f1;have:=hm.ll;omega
 have g3:fn<R.lives.length:=by have:=hm.f1;have:=hR.ll;omega
 have HE1:Hid (R.alive P=(((fn:Int) != R.id)&&decide (R.lives[fn]≤P.lives[fn]))):=by
  unfold Hid;rw[HE0.out,hfn];simp[List.getD,g2,g3]
 obtain⟨b3,o3,rfl,hb3,z3⟩:=hPA.lives.get fn g2
 have hrl:=h2.lives.rd;obtain⟨clr,hvl⟩:=h2.g2
 rw[hvl] at hrl;obtain⟨b4,o4,hb4e,hb4,z4⟩:=Ints.get hrl fn g3
 simp only[Option.some.injEq,Addr.mk.injEq] at hb4e;obtain⟨rfl,rfl,_⟩:=hb4e
 simp only[Nat.zero_add] at z4;have c0:=h2.c0;have c2:=h2.c2;rw[hvl] at c2;have x1:(w.alloc (.cells #[I .u8 P.kind,I J P.frm,Y (some ⟨b3,o3,O⟩) P.lives.length cl,I J P.epoch,I J P.view,I J P.place,I J P.ent.1,I J P.ent.2.1,Z P.ent.2.2,I J P.commit,I J P.normal,I J P.life,Y ag P.grp.length cg,Y ao P.old.length co,Y aL P.log.length cL] 68)).cell? ⟨w.heap.size,1,O⟩=some (I J (fn:Int)):=by have q:=hMA.cell 1;rw[q];simp[hfn]
 have x2:(w.alloc (.cells #[I .u8 P.kind,I J P.frm,Y (some ⟨b3,o3,O⟩) P.lives.length cl,I J P.epoch,I J P.view,I J P.place,I J P.ent.1,I J P.ent.2.1,Z P.ent.2.2,I J P.commit,I J P.normal,I J P.life,Y ag P.grp.length cg,Y ao P.old.length co,Y aL P.log.length cL] 68)).cell? ⟨w.heap.size,2,O⟩=some (Y (some ⟨b3,o3,O⟩) P.lives.length cl):=by have q:=hMA.cell 2;rw[q];rfl
 have j1:(0:Int)≤(fn:Int):=by omega
 have j2:(fn:Int)<(P.lives.length:Int):=by omega
 have j3:(fn:Int)<(R.lives.length:Int):=by omega
 clear hm hfn HE0;cases hq:((fn:Int)==R.id)
 ·have hne:((fn:Int) != R.id)=true:=by simp[bne,hq]
  by_cases hp:R.lives[fn]≤P.lives[fn]
  ·have HE:Hid (R.alive P=true):=by unfold Hid;rw[HE1.out,hne,decide_eq_true hp];rfl
   clear HE1;go_enter Tryz.func20,Tryz.ntmps20;go_upto_region 1 with fail
   generalize w.alloc (.cells #[I .u8 P.kind,I J P.frm,Y (some ⟨b3,o3,O⟩) P.lives.length cl,I J P.epoch,I J P.view,I J P.place,I J P.ent.1,I J P.ent.2.1,Z P.ent.2.2,I J P.commit,I J P.normal,I J P.life,Y ag P.grp.length cg,Y ao P.old.length co,Y aL P.log.length cL] 68)=wA at *;go_wp2_with fail;go_quiet (fail);rename_i nq;have HSq:=ah (HSA.out.drewN nq);go_wp2_with fail;go_ret;exact⟨aS (by rw[HE.out];try (first|exact decide_eq_false (by omega)|exact decide_eq_true (by omega))),HK0.out _ _ HSq.out⟩
  ·have HE:Hid (R.alive P=false):=by unfold Hid;rw[HE1.out,hne,decide_eq_false hp];rfl
   clear HE1;go_enter Tryz.func20,Tryz.ntmps20;go_upto_region 1 with fail
   generalize w.alloc (.cells #[I .u8 P.kind,I J P.frm,Y (some ⟨b3,o3,O⟩) P.lives.length cl,I J P.epoch,I J P.view,I J P.place,I J P.ent.1,I J P.ent.2.1,Z P.ent.2.2,I J P.commit,I J P.normal,I J P.life,Y ag P.grp.length cg,Y ao P.old.length co,Y aL P.log.length cL] 68)=wA at *;go_wp2_with fail;go_quiet (fail);rename_i nq;have HSq:=ah (HSA.out.drewN nq);go_wp2_with fail;go_ret;exact⟨aS (by rw[HE.out];try (first|exact decide_eq_false (by omega)|exact decide_eq_true (by omega))),HK0.out _ _ HSq.out⟩
 ·have hne:((fn:Int) != R.id)=false:=by simp[bne,hq]
  have HE:Hid (R.alive P=false):=by unfold Hid;rw[HE1.out,hne];rfl
  clear HE1;go_enter Tryz.func20,Tryz.ntmps20;go_upto_region 1 with fail
  generalize w.alloc (.cells #[I .u8 P.kind,I J P.frm,Y (some ⟨b3,o3,O⟩) P.lives.length cl,I J P.epoch,I J P.view,I J P.place,I J P.ent.1,I J P.ent.2.1,Z P.ent.2.2,I J P.commit,I J P.normal,I J P.life,Y ag P.grp.length cg,Y ao P.old.length co,Y aL P.log.length cL] 68)=wA at *;go_wp2_with fail;go_quiet (fail);rename_i nq;have HSq:=ah (HSA.out.drewN nq);go_wp2_with fail;go_ret;exact⟨aS (by rw[HE.out];try (first|exact decide_eq_false (by omega)|exact decide_eq_true (by omega))),HK0.out _ _ HSq.out⟩
end
end Go.Proofs.YtajakaadgagejaaGreatDoor
