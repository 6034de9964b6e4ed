import Derived.Test.YtbnihoahhomooaaGreatDoorA31
import Derived.Test.YtbnihoahhomooaaGreatDoorA32
import Derived.Test.YtbnihoahhomooaaGreatDoorA18
set_option maxRecDepth 100000
set_option maxHeartbeats 8000000
set_option linter.all false
namespace Go.Proofs.YtbnihoahhomooaaGreatDoor
open Go.Value renaming int→I,slice→Y,string→Z,pointer→Zp
open Go.Ending renaming returned→Zr
open _root_.ByteArray renaming empty→Ze
open Go.IntKind renaming i64→J
open Option renaming none→O
open Go.RowKit
section
variable {w w0:World} {b bl:Nat} {W F:List Nat} {R:Rp} {V:Rv} {P:Pm} {vl vg vo vL:Value}
theorem Bo (h:Rst w0 w b bl W F R) (hR:Ok R) (hP:dM w0 W F P vl vg vo vL) (hm:dQ R.n P) (ho:R.out.length≤300000) (hk:P.kind=97) :
  Calls Tryz.prog 48 #[Zp (some ⟨b,0,O⟩),.agg (pmC P vl vg vo vL)] w fun e w'=>e=Zr (.tuple #[])∧Rst w0 w' b bl W F (R.dO P):=by
 obtain⟨W1,F1,V1,al,cl,ag,cg,ao,co,aL,cL,rfl,rfl,rfl,rfl,hMA,hPA,hgW,h2,HSA,HK0⟩:=h.msg hP
 clear h hP;simp only[pmC];obtain⟨idn,hid⟩:∃ f:Nat,R.id=f:=⟨R.id.toNat,by have:=hR.i0;omega⟩
 have g3:idn<R.lives.length:=by have:=hR.i1;have:=hR.ll;omega
 have HE0:Hid (R.dO P=if P.life=R.lives[idn] then (match gP (aQ R.answers P) with|some a=>if (regs a.log:Int)≤a.epoch then ({ R with answers:=aQ R.answers P }:Rp).resume a else { R with answers:=aQ R.answers P }|none=>{ R with answers:=aQ R.answers P }) else R):=by
  have e:R.lives.getD R.id.toNat 0=R.lives[idn]:=by rw[hid];simp[List.getD,g3]
  unfold Hid;rw[← e];rfl
 have HO1:=ah (Rp.uQ hR hk hm);have hrl:=h2.lives.rd;obtain⟨clr,hvl⟩:=h2.g2
 rw[hvl] at hrl;obtain⟨b4,o4,hb4e,hb4,z4⟩:=Ints.get hrl idn g3
 simp only[Option.some.injEq,Addr.mk.injEq] at hb4e;obtain⟨rfl,rfl,_⟩:=hb4e
 simp only[Nat.zero_add] at z4;have c0:=h2.c0;rw[hid] at c0;have c2:=h2.c2;rw[hvl] at c2;have j1:(0:Int)≤(idn:Int):=by omega
 have j2:(idn:Int)<(R.lives.length:Int):=by omega
 clear hm hk hid hrl;cases hq:(P.life==R.lives[idn])
 focus
  have hne:(P.life != R.lives[idn])=true:=by simp[bne,hq]
  have HE:Hid (R.dO P=R):=by unfold Hid;rw[HE0.out,if_neg (by simpa using hq)]
 rotate_left
 focus
  have hne:(P.life != R.lives[idn])=false:=by simp[bne,hq]
  have HE1:Hid (R.dO P=match gP (aQ R.answers P) with|some a=>if (regs a.log:Int)≤a.epoch then ({ R with answers:=aQ R.answers P }:Rp).resume a else { R with answers:=aQ R.answers P }|none=>{ R with answers:=aQ R.answers P }):=by unfold Hid;rw[HE0.out,if_pos (by simpa using hq)]
 rotate_left
 all_goals
  clear HE0;go_enter Tryz.func48,Tryz.ntmps48;go_upto_region 1 with fail
  generalize w.alloc (.cells (pqC P al cl ag cg ao co aL cL) 68)=wA at *;obtain⟨x0,x1,x2,x3,x4,x5,x6,x7,x8,x9,x10,x11,x12,x13,x14,xf⟩:=hMA.all
  go_wp2_with fail;go_quiet (fail);rename_i nq;have HSq:=ah (HSA.out.drewN nq);have hMHSq:=hMA.kp HSq.out.kp hgW;clear x0 x1 x2 x3 x4 x5 x6 x7 x8 x9 x10 x11 x12 x13 x14 xf c0 c2 z4;generalize wA.drewN nq=wq at *;obtain⟨x0,x1,x2,x3,x4,x5,x6,x7,x8,x9,x10,x11,x12,x13,x14,xf⟩:=hMHSq.all
 ·go_wp2;exact bodyPost_ret (results_none rfl _ _ _) rfl ⟨rfl,by rw[HE.out];exact HK0.out _ _ HSq.out⟩
 ·go_upto_region 2 with fail
  go_cut [] from 6 (fun wx=>Rst wA wx b bl W1 F1 { R with answers:=aQ R.answers P })
  case first =>
   clear x0 x1 x2 x3 x4 x5 x6 x7 x8 x9 x10 x11 x12 x13 x14 xf;obtain⟨W3,F3,V3,h3,k3,m3,p3⟩:=HSq.out.pm hPA
   have hM3:=hMA.kp k3 hgW;obtain⟨x0,x1,x2,x3,x4,x5,x6,x7,x8,x9,x10,x11,x12,x13,x14,xf⟩:=hM3.all
   have c63:=h3.c63;obtain⟨a62,cp62,hv62⟩:=h3.g63
   have hvt:=h3.answers;rw[hv62] at c63 hvt;have hl7:R.answers.length≤1000000:=by have:=mK hR.n7 hR.nn (fun m hm=>⟨(hR.an m hm).2.f0,(hR.an m hm).2.f1⟩);omega
   have HJ:=ah (tQ _ R.answers (P) _ _ _ _ W3 F3 wq.drew (hvt.below (Below.refl _ _).drew) hl7 (p3.kp (Kp.of_below (Below.refl _ _).drew)));have HR3:=ah h3;have HK3:=ah k3;have HM3:=ah m3;clear h3 hvt p3 m3 k3;go_region_with (go_at_call 79;refine HJ.out.mono ?_;rintro e w5 ⟨v5,rfl,hms,hb5⟩;have HMs:=ah hms;obtain⟨xs5,ho5,hr5⟩:=hms;obtain⟨a5,c5,rfl⟩:=aj ho5;clear ho5 hr5;have hb5':=jc hb5;have d63:=(HR3.out.below hb5').c63;have df63:=(HR3.out.below hb5').free 63;rw[hv62] at d63)
   all_goals
    obtain⟨F5,h5,p5,m5⟩:=l8.rep (HR3.out.below (Below.refl _ _).drew) hb5 HMs.out (by simp)
    have h6:=h5.pY _ _ p5;have HS6:Hid (Rst wA _ b bl W1 F1 _):=⟨W3,F5,_,h6,(HK3.out.aS hb5').mv HM3.out (h5.qo _ _),HM3.out.trans (m5.vY (Nat.le_refl _)) HK3.out.size⟩
    clear h5 p5 m5 h6;go_wp2_with fail;go_meet;exact HS6.out
  case rest =>
   have HSc:=ah hcut;obtain⟨W6,F6,V6,h6,k6,m6⟩:=hcut
   obtain⟨w6,Hw6⟩:∃ x,x=wc:=⟨_,rfl⟩
   subst Hw6;have hl7:(aQ R.answers P).length≤7:=mK hR.n7 HO1.out.nn (fun m hm=>⟨(HO1.out.an m hm).2.f0,(HO1.out.an m hm).2.f1⟩)
   have c63:=h6.c63;obtain⟨a63,cp63,hv63⟩:=h6.g63
   have hvt:=h6.answers;simp only at hv63 hvt
   rw[hv63] at c63 hvt;have HLd:=ah (EO _ (aQ R.answers P) W6 F6 w6 hvt hl7 h6.wlt h6.fl (fun m hm=>((HO1.out.an m hm).2.g (.inr (HO1.out.an m hm).1)).1.1) (fun m hm=>(HO1.out.an m hm).2.v1))
   have HAn:Hid (∀ a,gP (aQ R.answers P)=some a→a.kind=97∧dQ R.n a):=fun a ha=>HO1.out.an a (Rp.nM ha)
   have H6:=ah h6;have HK6:Hid (∀ w' R',Rst w6 w' b bl W6 F6 R'→Rst wA w' b bl W1 F1 R'):=fun w' R' q=>Rst.step k6 m6 q
   clear hvt h6 k6 m6 x0 x1 x2 x3 x4 x5 x6 x7 x8 x9 x10 x11 x12 x13 x14 xf;go_wp2_with fail;refine HLd.out.mono ?_;rintro e w7 ⟨hb7,hcase⟩;rcases hcase with ⟨hn,rfl⟩|⟨a,u1,u2,u3,u4,hsm,rfl,hPa⟩
   ·have HE:Hid (R.dO P={ R with answers:=aQ R.answers P }):=by unfold Hid;rw[HE1.out,hn]
    have HS7:=ah (HSc.out.below hb7);clear hn;go_wp2_with fail;go_quiet (fail);rename_i nq;have HS8:=ah ((HS7.out.below ((Below.refl _ w7).alloc (Nat.le_refl _) (.cells #[I .u8 0,I J 0,Y O 0 0,I J 0,I J 0,I J 0,I J 0,I J 0,Z ⟨#[]⟩,I J 0,I J 0,I J 0,Y O 0 0,Y O 0 0,Y O 0 0] 68))).drewN nq);go_wp2;exact bodyPost_end (results_none rfl _ _ _) rfl ⟨rfl,by rw[HE.out];exact HK0.out _ _ HS8.out⟩
   ·obtain⟨al3,cl3,ag3,cg3,ao3,co3,aL3,cL3,rfl,rfl,rfl,rfl⟩:=hPa.cells
    have HE2:Hid (R.dO P=if (regs a.log:Int)≤a.epoch then ({ R with answers:=aQ R.answers P }:Rp).resume a else { R with answers:=aQ R.answers P }):=by unfold Hid;rw[HE1.out,hsm]
    have HAo:=ah (HAn.out a hsm);have hMB:dw (w7.alloc (.cells #[I .u8 a.kind,I J a.frm,Y al3 a.lives.length cl3,I J a.epoch,I J a.view,I J a.place,I J a.ent.1,I J a.ent.2.1,Z a.ent.2.2,I J a.commit,I J a.normal,I J a.life,Y ag3 a.grp.length cg3,Y ao3 a.old.length co3,Y aL3 a.log.length cL3] 68)) w7.heap.size #[I .u8 a.kind,I J a.frm,Y al3 a.lives.length cl3,I J a.epoch,I J a.view,I J a.place,I J a.ent.1,I J a.ent.2.1,Z a.ent.2.2,I J a.commit,I J a.normal,I J a.life,Y ag3 a.grp.length cg3,Y ao3 a.old.length co3,Y aL3 a.log.length cL3]:=⟨rfl,heap_alloc_new w7 _⟩
    have hbB:Below w6.heap.size w6 (w7.alloc (.cells #[I .u8 a.kind,I J a.frm,Y al3 a.lives.length cl3,I J a.epoch,I J a.view,I J a.place,I J a.ent.1,I J a.ent.2.1,Z a.ent.2.2,I J a.commit,I J a.normal,I J a.life,Y ag3 a.grp.length cg3,Y ao3 a.old.length co3,Y aL3 a.log.length cL3] 68)):=hb7.alloc hb7.size _
    have hPB:=hPa.below ((Below.refl _ w7).alloc (Nat.le_refl _) (.cells #[I .u8 a.kind,I J a.frm,Y al3 a.lives.length cl3,I J a.epoch,I J a.view,I J a.place,I J a.ent.1,I J a.ent.2.1,Z a.ent.2.2,I J a.commit,I J a.normal,I J a.life,Y ag3 a.grp.length cg3,Y ao3 a.old.length co3,Y aL3 a.log.length cL3] 68));have hlg:=HAo.out.2.lg (.inr (.inr HAo.out.1));have hl10:=hlg.1;have HLz:Hid (∀ e∈a.log,e.2.2.size≤1000):=fun e he=>by have:=(hlg.2 e he).2.2.2.2.2;omega
    simp only[pmC];clear hsm hPa hb7 HE1 hlg;go_upto_region 4 with fail
    generalize w7.alloc (.cells #[I .u8 a.kind,I J a.frm,Y al3 a.lives.length cl3,I J a.epoch,I J a.view,I J a.place,I J a.ent.1,I J a.ent.2.1,Z a.ent.2.2,I J a.commit,I J a.normal,I J a.life,Y ag3 a.grp.length cg3,Y ao3 a.old.length co3,Y aL3 a.log.length cL3] 68)=wB at *;obtain⟨x0,x1,x2,x3,x4,x5,x6,x7,x8,x9,x10,x11,x12,x13,x14,xf⟩:=hMB.all
    have kx3:=cell_regrown x3;have kx14:=cell_regrown x14;have cR:=fun d os=>Calls.regrown_of (w:=wB) (d:=d) (os:=os) (pR _ a.log _ (hPB.log.below (below_regrown wB d os)) (by omega) HLz.out)
    have HPB:=ah hPB;have HBB:=ah hbB;clear hPB hbB;by_cases hr:(regs a.log:Int)≤a.epoch
    focus
     have HE:=ah HE2.out;rw[if_pos hr] at HE
    rotate_left
    focus
     have HE:=ah HE2.out;rw[if_neg hr] at HE
    rotate_left
    all_goals
     go_wp2_with fail;refine wp_region_quiet_below (by kernel_rfl) (by kernel_rfl) ?_
     repeat (go_big_quiet_step (first|exact cR _ _))
     refine wpQuiet_nil ?_;intro w8 hw';have hb8:Below wB.heap.size wB w8:=by
      obtain⟨⟨dq,osq⟩,hw''⟩:=hw'
      rw[hw''];exact below_regrown wB dq osq
    ·have hM8:=hMB.kp (S:=[]) (Kp.of_below hb8) (by simp)
     have h8:=(H6.out.below HBB.out).below hb8;have HRs:=ah ((JW (Rst.refl h8) HO1.out (HPB.out.below hb8) HAo.out.2 (by show R.out.length≤400000;omega) HAo.out.1).mono (fun e w' q=>(⟨q.1,HK6.out _ _ (Rst.pre (Kp.of_below (HBB.out.trans (hb8.mono HBB.out.size))) q.2)⟩:e=Zr (.tuple #[])∧Rst wA w' b bl W1 F1 _)))
     simp only[pmC] at HRs;clear hw' cR kx3 kx14 x0 x1 x2 x3 x4 x5 x6 x7 x8 x9 x10 x11 x12 x13 x14 xf h8;obtain⟨x0,x1,x2,x3,x4,x5,x6,x7,x8,x9,x10,x11,x12,x13,x14,xf⟩:=hM8.all
     go_wp2_with fail;refine HRs.out.mono ?_;rintro e w9 ⟨rfl,hs9⟩;have HS9:=ah hs9;clear hs9;go_wp2;exact bodyPost_end (results_none rfl _ _ _) rfl ⟨rfl,by rw[HE.out];exact HK0.out _ _ HS9.out⟩
    ·have HS8:=ah ((HSc.out.below HBB.out).below hb8);clear hw' cR kx3 kx14;go_wp2;exact bodyPost_end (results_none rfl _ _ _) rfl ⟨rfl,by rw[HE.out];exact HK0.out _ _ HS8.out⟩
theorem wV (h:Rst w0 w b bl W F R) (hR:Ok R) (hP:dM w0 W F P vl vg vo vL) (hm:dQ R.n P) (ho:R.out.length≤200000)  :
  Calls Tryz.prog 23 #[Zp (some ⟨b,0,O⟩),.agg (pmC P vl vg vo vL)] w fun e w'=>e=Zr (.tuple #[])∧Rst w0 w' b bl W F (R.bB P):=by
 obtain⟨W1,F1,V1,al,cl,ag,cg,ao,co,aL,cL,rfl,rfl,rfl,rfl,hMA,hPA,hgW,h2,HSA,HK0⟩:=h.msg hP
 clear h hP;simp only[pmC];have HE0:Hid (R.bB P=if R.status=3 then (if P.kind=97 then R.dO P else R) else if P.kind=115 then R.dY P else if P.kind=114 then R.answer P else if P.kind=116 then R.eB P else if P.kind=97 then R else if R.status=4∨R.status=5 then R.cK P else R.bM P):=rfl
 have HPm:=ah hm;clear hm;cases s3:(R.status==3)
 ·cases k1:(P.kind==115)
  ·cases k2:(P.kind==114)
   ·cases k3:(P.kind==116)
    ·cases k4:(P.kind==97)
     ·cases s4:(R.status==4)
      ·cases s5:(R.status==5)
       focus
        have HE:Hid (R.bB P=R.bM P):=by unfold Hid;rw[HE0.out,if_neg (by simpa using s3),if_neg (by simpa using k1),if_neg (by simpa using k2),if_neg (by simpa using k3),if_neg (by simpa using k4),if_neg (by simp at s4 s5;omega)]
       rotate_left
       focus
        have HE:Hid (R.bB P=R.cK P):=by unfold Hid;rw[HE0.out,if_neg (by simpa using s3),if_neg (by simpa using k1),if_neg (by simpa using k2),if_neg (by simpa using k3),if_neg (by simpa using k4),if_pos (.inr (by simpa using s5))]
       rotate_left
       all_goals
        clear HE0;go_enter Tryz.func23,Tryz.ntmps23;go_upto_region 1 with fail
        generalize w.alloc (.cells (pqC P al cl ag cg ao co aL cL) 68)=wA at *;obtain⟨x0,x1,x2,x3,x4,x5,x6,x7,x8,x9,x10,x11,x12,x13,x14,xf⟩:=hMA.all
        have c3:=h2.c3
       focus
        have HC:=ah (Bq HSA.out hR hPA HPm.out (by omega))
       rotate_left
       focus
        have HC:=ah (qP HSA.out hR hPA (by omega))
       rotate_left
       all_goals
        simp only[pmC] at HC;go_wp2_with fail;refine (HC.out).mono ?_;rintro e w1 ⟨rfl,hs1⟩;have HS1:=ah hs1;clear hs1;have hM1:=hMA.kp HS1.out.kp hgW;obtain⟨_,_,_,_,_,_,_,_,_,_,_,_,_,_,_,_⟩:=hM1.all
        go_wp2_with fail
       ·exact bodyPost_end (results_none rfl _ _ _) rfl ⟨rfl,by rw[HE.out];exact HK0.out _ _ HS1.out⟩
       ·exact bodyPost_ret (results_none rfl _ _ _) rfl ⟨rfl,by rw[HE.out];exact HK0.out _ _ HS1.out⟩
      ·have HE:Hid (R.bB P=R.cK P):=by unfold Hid;rw[HE0.out,if_neg (by simpa using s3),if_neg (by simpa using k1),if_neg (by simpa using k2),if_neg (by simpa using k3),if_neg (by simpa using k4),if_pos (.inl (by simpa using s4))]
       clear HE0;go_enter Tryz.func23,Tryz.ntmps23;go_upto_region 1 with fail
       generalize w.alloc (.cells (pqC P al cl ag cg ao co aL cL) 68)=wA at *;obtain⟨x0,x1,x2,x3,x4,x5,x6,x7,x8,x9,x10,x11,x12,x13,x14,xf⟩:=hMA.all
       have c3:=h2.c3;have HC:=ah (qP HSA.out hR hPA (by omega))
       simp only[pmC] at HC;go_wp2_with fail;refine (HC.out).mono ?_;rintro e w1 ⟨rfl,hs1⟩;have HS1:=ah hs1;clear hs1;have hM1:=hMA.kp HS1.out.kp hgW;obtain⟨_,_,_,_,_,_,_,_,_,_,_,_,_,_,_,_⟩:=hM1.all
       go_wp2;exact bodyPost_ret (results_none rfl _ _ _) rfl ⟨rfl,by rw[HE.out];exact HK0.out _ _ HS1.out⟩
     ·have HE:Hid (R.bB P=R):=by unfold Hid;rw[HE0.out,if_neg (by simpa using s3),if_neg (by simpa using k1),if_neg (by simpa using k2),if_neg (by simpa using k3),if_pos (by simpa using k4)]
      clear HE0;go_enter Tryz.func23,Tryz.ntmps23;go_upto_region 1 with fail
      generalize w.alloc (.cells (pqC P al cl ag cg ao co aL cL) 68)=wA at *;obtain⟨x0,x1,x2,x3,x4,x5,x6,x7,x8,x9,x10,x11,x12,x13,x14,xf⟩:=hMA.all
      have c3:=h2.c3;go_wp2;exact bodyPost_ret (results_none rfl _ _ _) rfl ⟨rfl,by rw[HE.out];exact HK0.out _ _ HSA.out⟩
    ·have HE:Hid (R.bB P=R.eB P):=by unfold Hid;rw[HE0.out,if_neg (by simpa using s3),if_neg (by simpa using k1),if_neg (by simpa using k2),if_pos (by simpa using k3)]
     clear HE0;go_enter Tryz.func23,Tryz.ntmps23;go_upto_region 1 with fail
     generalize w.alloc (.cells (pqC P al cl ag cg ao co aL cL) 68)=wA at *;obtain⟨x0,x1,x2,x3,x4,x5,x6,x7,x8,x9,x10,x11,x12,x13,x14,xf⟩:=hMA.all
     have c3:=h2.c3;have HC:=ah (Dv HSA.out hR hPA HPm.out);simp only[pmC] at HC;go_wp2_with fail;refine (HC.out).mono ?_;rintro e w1 ⟨rfl,hs1⟩;have HS1:=ah hs1;clear hs1;have hM1:=hMA.kp HS1.out.kp hgW;obtain⟨_,_,_,_,_,_,_,_,_,_,_,_,_,_,_,_⟩:=hM1.all
     go_wp2;exact bodyPost_ret (results_none rfl _ _ _) rfl ⟨rfl,by rw[HE.out];exact HK0.out _ _ HS1.out⟩
   ·have HE:Hid (R.bB P=R.answer P):=by unfold Hid;rw[HE0.out,if_neg (by simpa using s3),if_neg (by simpa using k1),if_pos (by simpa using k2)]
    clear HE0;go_enter Tryz.func23,Tryz.ntmps23;go_upto_region 1 with fail
    generalize w.alloc (.cells (pqC P al cl ag cg ao co aL cL) 68)=wA at *;obtain⟨x0,x1,x2,x3,x4,x5,x6,x7,x8,x9,x10,x11,x12,x13,x14,xf⟩:=hMA.all
    have c3:=h2.c3;have HC:=ah (JU HSA.out hR hPA HPm.out (by omega))
    simp only[pmC] at HC;go_wp2_with fail;refine (HC.out).mono ?_;rintro e w1 ⟨rfl,hs1⟩;have HS1:=ah hs1;clear hs1;have hM1:=hMA.kp HS1.out.kp hgW;obtain⟨_,_,_,_,_,_,_,_,_,_,_,_,_,_,_,_⟩:=hM1.all
    go_wp2;exact bodyPost_ret (results_none rfl _ _ _) rfl ⟨rfl,by rw[HE.out];exact HK0.out _ _ HS1.out⟩
  ·have HE:Hid (R.bB P=R.dY P):=by unfold Hid;rw[HE0.out,if_neg (by simpa using s3),if_pos (by simpa using k1)]
   clear HE0;have HKd:Hid (P.kind=115):=ah (by simpa using k1)
   go_enter Tryz.func23,Tryz.ntmps23;go_upto_region 1 with fail
   generalize w.alloc (.cells (pqC P al cl ag cg ao co aL cL) 68)=wA at *;obtain⟨x0,x1,x2,x3,x4,x5,x6,x7,x8,x9,x10,x11,x12,x13,x14,xf⟩:=hMA.all
   have c3:=h2.c3;have HC:=ah (Dw HSA.out hR hPA HPm.out (by omega) HKd.out)
   simp only[pmC] at HC;go_wp2_with fail;refine (HC.out).mono ?_;rintro e w1 ⟨rfl,hs1⟩;have HS1:=ah hs1;clear hs1;have hM1:=hMA.kp HS1.out.kp hgW;obtain⟨_,_,_,_,_,_,_,_,_,_,_,_,_,_,_,_⟩:=hM1.all
   go_wp2;exact bodyPost_ret (results_none rfl _ _ _) rfl ⟨rfl,by rw[HE.out];exact HK0.out _ _ HS1.out⟩
 ·cases k4:(P.kind==97)
  focus
   have HE:Hid (R.bB P=R):=by unfold Hid;rw[HE0.out,if_pos (by simpa using s3),if_neg (by simpa using k4)]
   clear HE0
  rotate_left
  focus
   have HE:Hid (R.bB P=R.dO P):=by unfold Hid;rw[HE0.out,if_pos (by simpa using s3),if_pos (by simpa using k4)]
   clear HE0;have HKd:Hid (P.kind=97):=ah (by simpa using k4)
  rotate_left
  all_goals
   go_enter Tryz.func23,Tryz.ntmps23;go_upto_region 1 with fail
   generalize w.alloc (.cells (pqC P al cl ag cg ao co aL cL) 68)=wA at *;obtain⟨x0,x1,x2,x3,x4,x5,x6,x7,x8,x9,x10,x11,x12,x13,x14,xf⟩:=hMA.all
   have c3:=h2.c3
  ·go_wp2;exact bodyPost_ret (results_none rfl _ _ _) rfl ⟨rfl,by rw[HE.out];exact HK0.out _ _ HSA.out⟩
  ·have HC:=ah (Bo HSA.out hR hPA HPm.out (by omega) HKd.out)
   simp only[pmC] at HC;go_wp2_with fail;refine (HC.out).mono ?_;rintro e w1 ⟨rfl,hs1⟩;have HS1:=ah hs1;clear hs1;have hM1:=hMA.kp HS1.out.kp hgW;obtain⟨_,_,_,_,_,_,_,_,_,_,_,_,_,_,_,_⟩:=hM1.all
   go_wp2;exact bodyPost_ret (results_none rfl _ _ _) rfl ⟨rfl,by rw[HE.out];exact HK0.out _ _ HS1.out⟩
end
end Go.Proofs.YtbnihoahhomooaaGreatDoor
