import Derived.Test.YtbnihoahhomooaaGreatDoorA15
import Derived.Test.YtbnihoahhomooaaGreatDoorA17
set_option maxRecDepth 100000
set_option maxHeartbeats 8000000
set_option linter.all false
namespace Go.Proofs.YtbnihoahhomooaaGreatDoor
open Go.Value renaming int→I,slice→Y,string→Z,pointer→Zp
open Go.Ending renaming returned→Zr
open _root_.ByteArray renaming empty→Ze
open Go.IntKind renaming i64→J
open Option renaming none→O
open Go.RowKit
section
variable {w w0:World} {b bl:Nat} {W F:List Nat} {R:Rp} {V:Rv} {P:Pm} {vl vg vo vL:Value}
theorem Iy (h:Rst w0 w b bl W F R) (hR:Ok R) (ho:R.out.length≤900000) :
  Calls Tryz.prog 145 #[Zp (some ⟨b,0,O⟩)] w fun e w'=>e=Zr (.tuple #[])∧Rst w0 w' b bl W F (R.oU):=by
 obtain⟨W1,F1,V1,h1,k1,m1⟩:=h
 have HOv:=ah (ER h1 hR);have HE:Hid (R.oU=if R.dG then { R with aI:=aQ R.aI R.dD } else R.send R.iB R.dD):=rfl
 have H1:=ah h1;clear h1;go_enter Tryz.func145,Tryz.ntmps145;go_wp2_with fail;refine HOv.out.mono ?_;rintro e w1 ⟨vli,vlo,rfl,hl1,hL1,hb1⟩;obtain⟨al,cl,rfl⟩:=aj hl1
 obtain⟨aL,cL,rfl⟩:=aj hL1
 have hbA:Below w.heap.size w (w1.alloc (.cells #[I .u8 118,I J R.id,Y al R.lives.length cl,I J R.epoch,I J R.view,I J 0,I J 0,I J 0,Z ⟨#[]⟩,I J (R.decided:Int),I J R.normal,I J 0,Y O 0 0,Y O 0 0,Y aL R.log.length cL] 68)):=hb1.alloc hb1.size _
 have hMA:dw (w1.alloc (.cells #[I .u8 118,I J R.id,Y al R.lives.length cl,I J R.epoch,I J R.view,I J 0,I J 0,I J 0,Z ⟨#[]⟩,I J (R.decided:Int),I J R.normal,I J 0,Y O 0 0,Y O 0 0,Y aL R.log.length cL] 68)) w1.heap.size #[I .u8 118,I J R.id,Y al R.lives.length cl,I J R.epoch,I J R.view,I J 0,I J 0,I J 0,Z ⟨#[]⟩,I J (R.decided:Int),I J R.normal,I J 0,Y O 0 0,Y O 0 0,Y aL R.log.length cL]:=⟨rfl,heap_alloc_new w1 _⟩
 have hlA:=hl1.alloc (.cells #[I .u8 118,I J R.id,Y al R.lives.length cl,I J R.epoch,I J R.view,I J 0,I J 0,I J 0,Z ⟨#[]⟩,I J (R.decided:Int),I J R.normal,I J 0,Y O 0 0,Y O 0 0,Y aL R.log.length cL] 68);have hLA:=hL1.alloc (.cells #[I .u8 118,I J R.id,Y al R.lives.length cl,I J R.epoch,I J R.view,I J 0,I J 0,I J 0,Z ⟨#[]⟩,I J (R.decided:Int),I J R.normal,I J 0,Y O 0 0,Y O 0 0,Y aL R.log.length cL] 68);obtain⟨F2,h2,hsl,m2⟩:=Sl.news H1.out hbA [Y al R.lives.length cl,Y aL R.log.length cL] (by
  intro v hv;simp at hv;rcases hv with rfl|rfl
  ·exact lZ hlA
  ·exact lZ hLA)
 have hPA:dM (w1.alloc (.cells #[I .u8 118,I J R.id,Y al R.lives.length cl,I J R.epoch,I J R.view,I J 0,I J 0,I J 0,Z ⟨#[]⟩,I J (R.decided:Int),I J R.normal,I J 0,Y O 0 0,Y O 0 0,Y aL R.log.length cL] 68)) W1 F2 R.dD (Y al R.lives.length cl) (Y O 0 0) (Y O 0 0) (Y aL R.log.length cL) :=
  ⟨Rd.bR hlA,gD _,gD _,Rd.bR hLA,hsl _ (by simp),Sl.nil _ _,Sl.nil _ _,hsl _ (by simp)⟩
 have hgW:w1.heap.size∉W1:=fun hc=>by have:=H1.out.wlt _ hc;have:=hb1.size;omega
 have HS0:=ah (Rst.refl h2);have HK0:Hid (∀ w' R',Rst (w1.alloc (.cells #[I .u8 118,I J R.id,Y al R.lives.length cl,I J R.epoch,I J R.view,I J 0,I J 0,I J 0,Z ⟨#[]⟩,I J (R.decided:Int),I J R.normal,I J 0,Y O 0 0,Y O 0 0,Y aL R.log.length cL] 68)) w' b bl W1 F2 R'→Rst w0 w' b bl W F R'):=fun w' R' q=>Rst.step (k1.aS hbA) (m1.trans m2 k1.size) q
 simp only[pmC,Rp.dD,Rp.head,pm0];clear hlA hLA hl1 hL1 hsl h2 m2 hbA;go_wp2_with fail;generalize w1.alloc (.cells #[I .u8 118,I J R.id,Y al R.lives.length cl,I J R.epoch,I J R.view,I J 0,I J 0,I J 0,Z ⟨#[]⟩,I J (R.decided:Int),I J R.normal,I J 0,Y O 0 0,Y O 0 0,Y aL R.log.length cL] 68)=wA at *;have HP:=ah (jr HS0.out hR);cases hp:R.dG
 ·rw[hp] at HE HP;refine (HP.out).mono ?_;rintro e w2 ⟨rfl,hs2⟩;have HS2:=ah hs2;clear hs2;go_wp2_with fail;refine (Am HS2.out hR).mono ?_;rintro e w3 ⟨rfl,hs3⟩;obtain⟨W3,F3,V3,h3,k3,m3,p3⟩:=hs3.pm hPA
  have hM3:=hMA.kp k3 hgW;obtain⟨x0,x1,x2,x3,x4,x5,x6,x7,x8,x9,x10,x11,x12,x13,x14,xf⟩:=hM3.all
  have HSe:Hid (Calls Tryz.prog 88 #[Zp (some ⟨b,0,O⟩),I J R.iB,.agg #[I .u8 118,I J R.id,Y al R.lives.length cl,I J R.epoch,I J R.view,I J 0,I J 0,I J 0,Z ⟨#[]⟩,I J (R.decided:Int),I J R.normal,I J 0,Y O 0 0,Y O 0 0,Y aL R.log.length cL]] w3 fun e w'=>e=Zr (.tuple #[])∧Rst w0 w' b bl W F (R.send R.iB R.dD)):=(mV h3 R.iB R.dD _ _ _ _ ((O8 hR).pw hR) p3.rd (by omega)).mono (fun _ _ q=>⟨q.1,HK0.out _ _ (Rst.step k3 m3 (Snt.rst h3 q.2))⟩)
  clear h3 k3 m3 p3 hs3;go_wp2_with fail;refine HSe.out.mono ?_;rintro e w4 ⟨rfl,hs4⟩;have HS4:=ah hs4;clear hs4;go_wp2;exact bodyPost_end (results_none rfl _ _ _) rfl ⟨rfl,by rw[HE.out];exact HS4.out⟩
 ·rw[hp] at HE HP;refine (HP.out).mono ?_;rintro e w2 ⟨rfl,hs2⟩;have HS2:=ah hs2;clear hs2;go_wp2_with fail;obtain⟨W3,F3,V3,h3,k3,m3,p3⟩:=HS2.out.pm hPA
  have hM3:=hMA.kp k3 hgW;obtain⟨x0,x1,x2,x3,x4,x5,x6,x7,x8,x9,x10,x11,x12,x13,x14,xf⟩:=hM3.all
  have c62:=h3.c62;obtain⟨a62,cp62,hv62⟩:=h3.g62
  have hvt:=h3.aI;rw[hv62] at c62 hvt;have hl7:R.aI.length≤1000000:=by have:=mK hR.n7 hR.vn (fun m hm=>⟨(hR.vo m hm).2.f0,(hR.vo m hm).2.f1⟩);omega
  have HJ:=ah (tQ _ R.aI (R.dD) _ _ _ _ W3 F3 w2.drew (hvt.below (Below.refl _ _).drew) hl7 (p3.kp (Kp.of_below (Below.refl _ _).drew)));have HR3:=ah h3;have HK3:=ah k3;have HM3:=ah m3;clear h3 hvt p3 m3 k3;go_region_with (go_at_call 79;refine HJ.out.mono ?_;rintro e w5 ⟨v5,rfl,hms,hb5⟩;have HMs:=ah hms;obtain⟨xs5,ho5,hr5⟩:=hms;obtain⟨a5,c5,rfl⟩:=aj ho5;clear ho5 hr5;have hb5':=jc hb5;have d62:=(HR3.out.below hb5').c62;have df62:=(HR3.out.below hb5').free 62;rw[hv62] at d62)
  all_goals
   obtain⟨F5,h5,p5,m5⟩:=l8.rep (HR3.out.below (Below.refl _ _).drew) hb5 HMs.out (by simp)
   have h6:=h5.oP _ _ p5;have HS6:Hid (Rst wA _ b bl W1 F2 _):=⟨W3,F5,_,h6,(HK3.out.aS hb5').mv HM3.out (h5.qo _ _),HM3.out.trans (m5.vY (Nat.le_refl _)) HK3.out.size⟩
   clear h5 p5 m5 h6;go_wp2;exact bodyPost_ret (results_none rfl _ _ _) rfl ⟨rfl,by rw[HE.out];exact HK0.out _ _ HS6.out⟩
theorem uZ (h:Rst w0 w b bl W F R) (hR:Ok R) (ho:R.out.length≤900000) :
  Calls Tryz.prog 100 #[Zp (some ⟨b,0,O⟩)] w fun e w'=>e=Zr (.tuple #[])∧Rst w0 w' b bl W F (R.dP):=by
 have HS0:=ah h;clear h;have HE:Hid (R.dP=if R.dG then R else R.oU):=rfl
 have HP:=ah (jr HS0.out hR);cases hp:R.dG
 ·rw[hp] at HE HP;go_enter Tryz.func100,Tryz.ntmps100;go_wp2_with fail;refine (HP.out).mono ?_;rintro e w1 ⟨rfl,hs1⟩;have HS1:=ah hs1;clear hs1;go_wp2_with fail;refine (Iy HS1.out hR ho).mono ?_;rintro e w2 ⟨rfl,hs2⟩;have HS2:=ah hs2;clear hs2;go_wp2;exact bodyPost_end (results_none rfl _ _ _) rfl ⟨rfl,by rw[HE.out];exact HS2.out⟩
 ·rw[hp] at HE HP;go_enter Tryz.func100,Tryz.ntmps100;go_wp2_with fail;refine (HP.out).mono ?_;rintro e w1 ⟨rfl,hs1⟩;have HS1:=ah hs1;clear hs1;go_wp2;exact bodyPost_end (results_none rfl _ _ _) rfl ⟨rfl,by rw[HE.out];exact HS1.out⟩
end
section
variable {w w0:World} {b bl:Nat} {W F:List Nat} {R:Rp} {V:Rv} {P:Pm} {vl vg vo vL:Value}
theorem Dy (h:Rst w0 w b bl W F R) (hR:Ok R) (v:Int) (hv:0≤v∧v≤999) (ho:R.out.length≤700000) :
  Calls Tryz.prog 103 #[Zp (some ⟨b,0,O⟩),I J v] w fun e w'=>e=Zr (.tuple #[])∧Rst w0 w' b bl W F (R.want v):=by
 obtain⟨W1,F1,V1,h1,k1,m1⟩:=h
 have f3:=h1.free 3;have f5:=h1.free 5;have f6:=h1.free 6;have f55:=h1.free 55;have f56:=h1.free 56;have f57:=h1.free 57;have f58:=h1.free 58;have f59:=h1.free 59;have f60:=h1.free 60;have f61:=h1.free 61;have f62:=h1.free 62;have c3:=h1.c3;have c5:=h1.c5;have c6:=h1.c6;have c62:=h1.c62;have a0:w.cell? ⟨b,55,O⟩=some _:=h1.su 0 (by omega)
 have a1:w.cell? ⟨b,56,O⟩=some _:=h1.su 1 (by omega)
 have a2:w.cell? ⟨b,57,O⟩=some _:=h1.su 2 (by omega)
 have a3:w.cell? ⟨b,58,O⟩=some _:=h1.su 3 (by omega)
 have a4:w.cell? ⟨b,59,O⟩=some _:=h1.su 4 (by omega)
 have a5:w.cell? ⟨b,60,O⟩=some _:=h1.su 5 (by omega)
 have a6:w.cell? ⟨b,61,O⟩=some _:=h1.su 6 (by omega)
 have HE:Hid (R.want v=(R.lM v).call.oU):=rfl
 have HOk:=ah (Rp.zY hR hv);have HOc:=ah (Rp.yw HOk.out);cases hs:(R.status==1)
 focus
  have HW:Hid (R.lM v={ (R:Rp) with view:=v,status:=2,acks:=yH,aI:=[] }):=by unfold Hid Rp.lM;rw[hs];rfl
  have h2:=((((h1.yC v).iW 2).Au).oP (Y O 0 0) [] (Pms.nil _ _ _));have k2:Kp W1 w _:=Kp.wid ((oM [I J 0,I J 0,I J 0,I J 0,I J 0,I J 0,I J 0] 55 _ w (((Kp.refl [b] w).set b 5 (I J v) (.inl (by simp))).set b 3 (I J 2) (.inl (by simp)))).set b 62 (Y O 0 0) (.inl (by simp))) (by intro x hx;simp at hx;subst hx;exact h1.wb)
 rotate_left
 focus
  have HW:Hid (R.lM v={ ({ R with normal:=R.view }:Rp) with view:=v,status:=2,acks:=yH,aI:=[] }):=by unfold Hid Rp.lM;rw[hs];rfl
  have h2:=(((((h1.xu R.view).yC v).iW 2).Au).oP (Y O 0 0) [] (Pms.nil _ _ _));have k2:Kp W1 w _:=Kp.wid ((oM [I J 0,I J 0,I J 0,I J 0,I J 0,I J 0,I J 0] 55 _ w ((((Kp.refl [b] w).set b 6 (I J R.view) (.inl (by simp))).set b 5 (I J v) (.inl (by simp))).set b 3 (I J 2) (.inl (by simp)))).set b 62 (Y O 0 0) (.inl (by simp))) (by intro x hx;simp at hx;subst hx;exact h1.wb)
 rotate_left
 all_goals
  have HS1:Hid (Rst w0 _ b bl W F (R.lM v)):=Rst.step k1 m1 (Rst.of (by rw[HW.out];exact h2) k2)
  clear h2 k2 k1 m1;go_enter Tryz.func103,Tryz.ntmps103;go_wp2_with fail;refine (Iw HS1.out HOk.out (by show R.out.length≤800000;omega)).mono ?_
  rintro e w2 ⟨rfl,hs2⟩;have HS2:=ah hs2;clear hs2;go_wp2_with fail;refine (Iy HS2.out HOc.out.ok (by have:=HOc.out.out;show _≤900000;exact Nat.le_trans this (by show R.out.length+5≤900000;omega))).mono ?_
  rintro e w3 ⟨rfl,hs3⟩;have HS3:=ah hs3;clear hs3;go_wp2;exact bodyPost_end (results_none rfl _ _ _) rfl ⟨rfl,by rw[HE.out];exact HS3.out⟩
theorem EW (h:Rst w0 w b bl W F R) (hR:Ok R) (hP:dM w0 W F P vl vg vo vL) (hk:P.kind=118) (hm:dQ R.n P) (ho:R.out.length≤500000) :
  Calls Tryz.prog 141 #[Zp (some ⟨b,0,O⟩),.agg (pmC P vl vg vo vL)] w fun e w'=>e=Zr (.tuple #[])∧Rst w0 w' b bl W F (R.count P):=by
 obtain⟨W1,F1,V1,h1,k1,m1,p1⟩:=h.pm hP
 obtain⟨al,cl,ag,cg,ao,co,aL,cL,rfl,rfl,rfl,rfl⟩:=p1.cells
 have hbA:Below w.heap.size w (w.alloc (.cells (pqC P al cl ag cg ao co aL cL) 68)):=(Below.refl _ w).alloc (Nat.le_refl _) _
 have hMA:dw (w.alloc (.cells (pqC P al cl ag cg ao co aL cL) 68)) w.heap.size (pqC P al cl ag cg ao co aL cL):=⟨rfl,heap_alloc_new w _⟩
 have hPA:=p1.below hbA;have hgW:w.heap.size∉W1:=fun hc=>by have:=h1.wlt _ hc;omega
 have HSA:=ah (Rst.refl (h1.below hbA));have HK0:Hid (∀ w' R',Rst (w.alloc (.cells (pqC P al cl ag cg ao co aL cL) 68)) w' b bl W1 F1 R'→Rst w0 w' b bl W F R'):=fun w' R' q=>Rst.step (k1.aS hbA) m1 q
 have HO1:=ah (Rp.oK hR hk hm);have HE:Hid (R.count P=if ((aQ R.aI P).length:Int)≤eZ R.grp then { R with aI:=aQ R.aI P } else ({ R with aI:=aQ R.aI P }:Rp).counted ((je (aQ R.aI P)).getD pm0) (cZ ((aQ R.aI P).map (·.commit)))):=rfl
 have HLg:Hid (nZ R.n ((je (aQ R.aI P)).getD pm0).log):=Rp.yN HO1.out
 have HNe:Hid (aQ R.aI P≠[]):=by
  unfold Hid aQ
  split
  ·rename_i q;intro hc;have:=List.map_eq_nil_iff.1 hc
   rw[this] at q;simp at q
  ·simp
 clear h p1 hP h1 hk hm;simp only[pmC];go_enter Tryz.func141,Tryz.ntmps141;go_upto_region 1 with fail
 generalize w.alloc (.cells (pqC P al cl ag cg ao co aL cL) 68)=wA at *;go_cut [] from 6 (fun wx=>Rst wA wx b bl W1 F1 { R with aI:=aQ R.aI P })
 case first =>
  obtain⟨W3,F3,V3,h3,k3,m3,p3⟩:=HSA.out.pm hPA
  have hM3:=hMA.kp k3 hgW;obtain⟨x0,x1,x2,x3,x4,x5,x6,x7,x8,x9,x10,x11,x12,x13,x14,xf⟩:=hM3.all
  have c62:=h3.c62;obtain⟨a62,cp62,hv62⟩:=h3.g62
  have hvt:=h3.aI;rw[hv62] at c62 hvt;have hl7:R.aI.length≤1000000:=by have:=mK hR.n7 hR.vn (fun m hm=>⟨(hR.vo m hm).2.f0,(hR.vo m hm).2.f1⟩);omega
  have HJ:=ah (tQ _ R.aI (P) _ _ _ _ W3 F3 wA.drew (hvt.below (Below.refl _ _).drew) hl7 (p3.kp (Kp.of_below (Below.refl _ _).drew)));have HR3:=ah h3;have HK3:=ah k3;have HM3:=ah m3;clear h3 hvt p3 m3 k3;go_region_with (go_at_call 79;refine HJ.out.mono ?_;rintro e w5 ⟨v5,rfl,hms,hb5⟩;have HMs:=ah hms;obtain⟨xs5,ho5,hr5⟩:=hms;obtain⟨a5,c5,rfl⟩:=aj ho5;clear ho5 hr5;have hb5':=jc hb5;have d62:=(HR3.out.below hb5').c62;have df62:=(HR3.out.below hb5').free 62;rw[hv62] at d62)
  all_goals
   obtain⟨F5,h5,p5,m5⟩:=l8.rep (HR3.out.below (Below.refl _ _).drew) hb5 HMs.out (by simp)
   have h6:=h5.oP _ _ p5;have HS6:Hid (Rst wA _ b bl W1 F1 _):=⟨W3,F5,_,h6,(HK3.out.aS hb5').mv HM3.out (h5.qo _ _),HM3.out.trans (m5.vY (Nat.le_refl _)) HK3.out.size⟩
   clear h5 p5 m5 h6;go_wp2_with fail;go_meet;exact HS6.out
 case rest =>
  obtain⟨W6,F6,V6,h6,k6,m6⟩:=hcut
  obtain⟨w6,Hw6⟩:∃ x,x=wc:=⟨_,rfl⟩
  subst Hw6;have hl7:(aQ R.aI P).length≤7:=mK hR.n7 HO1.out.vn (fun m hm=>⟨(HO1.out.vo m hm).2.f0,(HO1.out.vo m hm).2.f1⟩)
  have hg5:=hR.g.1;have c7:=h6.c7;obtain⟨a7,cp7,hv7⟩:=h6.g7
  have c62:=h6.c62;obtain⟨a62,cp62,hv62⟩:=h6.g62
  have hgI:=h6.grp;simp only at hv7 hv62 hgI
  rw[hv7] at c7 hgI;rw[hv62] at c62;have HFa:Hid (∀ n,Calls Tryz.prog 90 #[Y a7 R.grp.length cp7] (w6.drewN n) fun e w'=>e=Zr (I J (eZ R.grp))∧w'=w6.drewN n):=fun n=>pO _ R.grp _ (hgI.below (below_drewN (Below.refl _ _) n)) (by omega)
  have H6:=ah h6;have HK6:=ah k6;have HM6:=ah m6;clear h6 k6 m6 hgI;by_cases q:((aQ R.aI P).length:Int)≤eZ R.grp
  ·rw[if_pos q] at HE;go_wp2_with fail;go_quiet ((go_at_call 90;exact Calls.quiet_of_same (HFa.out _)))
   rename_i nq;have HS7:=ah (HK0.out _ _ ⟨W6,F6,V6,H6.out.drewN nq,HK6.out.aS (below_drewN (Below.refl _ w6) nq),HM6.out⟩);go_wp2;exact bodyPost_ret (results_none rfl _ _ _) rfl ⟨rfl,by rw[HE.out];exact HS7.out⟩
  ·rw[if_neg q] at HE;go_wp2_with fail;go_quiet ((go_at_call 90;exact Calls.quiet_of_same (HFa.out _)))
   rename_i nq;have h7:=H6.out.drewN nq;have hk7:=HK6.out.aS (below_drewN (Below.refl _ w6) nq);clear HFa c7 c62;generalize w6.drewN nq=w7 at *;have c62:=h7.c62;rw[hv62] at c62;have hvt:=h7.aI;rw[hv62] at hvt;simp only at hvt
   have HBv:=ah (Dm _ (aQ R.aI P) W6 F6 w7 hvt (by omega) HNe.out)
   go_wp2_with fail;refine HBv.out.mono ?_;rintro e w8 ⟨u1,u2,u3,u4,rfl,hB,hb8⟩;generalize (je (aQ R.aI P)).getD pm0=B at *;obtain⟨al3,cl3,ag3,cg3,ao3,co3,aL3,cL3,rfl,rfl,rfl,rfl⟩:=hB.cells
   simp only[pmC];have hbB:Below w7.heap.size w7 (w8.alloc (.cells #[I .u8 B.kind,I J B.frm,Y al3 B.lives.length cl3,I J B.epoch,I J B.view,I J B.place,I J B.ent.1,I J B.ent.2.1,Z B.ent.2.2,I J B.commit,I J B.normal,I J B.life,Y ag3 B.grp.length cg3,Y ao3 B.old.length co3,Y aL3 B.log.length cL3] 68)):=hb8.alloc hb8.size _
   have hMB:dw (w8.alloc (.cells #[I .u8 B.kind,I J B.frm,Y al3 B.lives.length cl3,I J B.epoch,I J B.view,I J B.place,I J B.ent.1,I J B.ent.2.1,Z B.ent.2.2,I J B.commit,I J B.normal,I J B.life,Y ag3 B.grp.length cg3,Y ao3 B.old.length co3,Y aL3 B.log.length cL3] 68)) w8.heap.size #[I .u8 B.kind,I J B.frm,Y al3 B.lives.length cl3,I J B.epoch,I J B.view,I J B.place,I J B.ent.1,I J B.ent.2.1,Z B.ent.2.2,I J B.commit,I J B.normal,I J B.life,Y ag3 B.grp.length cg3,Y ao3 B.old.length co3,Y aL3 B.log.length cL3]:=⟨rfl,heap_alloc_new w8 _⟩
   have h9:=h7.below hbB;have hk9:=hk7.aS hbB;have e62:=h9.c62;rw[hv62] at e62;have hLB:=(hB.below hbB).log;have HGc:=ah (tO _ (aQ R.aI P) W6 F6 _ (hvt.below hbB) (by omega))
   obtain⟨x0,x1,x2,x3,x4,x5,x6,x7,x8,x9,x10,x11,x12,x13,x14,xf⟩:=hMB.all
   have HTo:=ah (pU h9 _ B.log hLB HLg.out);have HS9:=ah (fun w' R' (q:Rst _ w' b bl W6 F6 R')=>HK0.out w' R' (Rst.step hk9 HM6.out q))
   clear hbB hB hMB h9 hk9 hLB hvt h7 hk7 HBv hb8;go_wp2_with fail;refine HGc.out.mono ?_;rintro e w10 ⟨rfl,hw10⟩;subst hw10;go_wp2_with fail;refine HTo.out.mono ?_;rintro e w11 ⟨rfl,hs11⟩;have HS11:=ah (HS9.out _ _ hs11);clear hs11 x0 x1 x2 x3 x4 x5 x6 x7 x8 x9 x10 x11 x12 x13 x14 xf e62 c62;have HOv:=ah (Rp.fB HO1.out HLg.out);obtain⟨W11,F11,V11,h11,_,_⟩:=HS11.out
   have c5:=h11.c5;simp only[Rp.over] at c5;clear h11;go_wp2_with fail;refine (Ak HS11.out R.view).mono ?_;rintro e w12 ⟨rfl,hs12⟩;have HS12:=ah hs12;clear hs12;go_wp2_with fail;refine (nX HS12.out (Rp.kP HOv.out.ok hR.vi).ok (by show R.out.length≤800000;omega)).mono ?_
   rintro e w13 ⟨rfl,hs13⟩;have HS13:=ah hs13;clear hs13;go_wp2_with fail;have HGt:=ah (Rp.gL (Rp.kP HOv.out.ok hR.vi).ok);refine (iL HS13.out HGt.out.ok _ (Nat.le_trans HGt.out.out (by show R.out.length+5≤600000;omega))).mono ?_
   rintro e w14 ⟨rfl,hs14⟩;have HS14:=ah hs14;clear hs14;go_wp2;exact bodyPost_end (results_none rfl _ _ _) rfl ⟨rfl,by rw[HE.out];exact HS14.out⟩
end
end Go.Proofs.YtbnihoahhomooaaGreatDoor
