import Derived.Test.YtajakaadgagejaaGreatDoorA33
import Derived.Test.YtajakaadgagejaaGreatDoorA39
import Derived.Test.YtajakaadgagejaaGreatDoorA40
import Derived.Test.YtajakaadgagejaaGreatDoorA32
set_option maxRecDepth 100000
set_option maxHeartbeats 8000000
set_option linter.unusedVariables false
set_option linter.unusedSimpArgs false
set_option linter.unusedSectionVars false
namespace Go.Proofs.YtajakaadgagejaaGreatDoor
open Go.Value renaming int→I,slice→Y,string→Z,pointer→Zp
open Go.Ending renaming returned→Zr
open _root_.ByteArray renaming empty→Ze
open Go.IntKind renaming i64→J
open Option renaming none→O
open Go.RowKit
section
variable {w w0:World} {b bl:Nat} {W F:List Nat} {R:Rp} {V:Rv} {P:Pm} {vl vg vo vL:Value}
theorem GV (l:List En) (c:Int):(jZ (svF l) c).2.size≤1000:=by
 have hs:∀ (l:List En) (S:Sv),(∀ s∈S.ses,s.2.size≤1000)→∀ s∈(l.foldl nJ S).ses,s.2.size≤1000:=by
  intro l
  induction l with
  | nil=>intro S h;exact h
  | cons e l ih =>
   intro S h;simp only[List.foldl_cons];apply ih
   intro s hs;unfold nJ Au at hs;rcases List.mem_or_eq_of_mem_set hs with q|q
   ·exact h s q
   ·rw[q];exact BS _ _
 unfold jZ
 split
 ·show (0:Nat)≤1000;omega
 ·rw[List.getD_eq_getElem?_getD];by_cases hk:(c-1).toNat<(svF l).ses.length
  ·rw[List.getElem?_eq_getElem hk];refine hs l sv0 (fun s q=>?_) _ (List.getElem_mem _)
   have:=List.eq_of_mem_replicate q
   rw[this];show (0:Nat)≤1000;omega
  ·rw[List.getElem?_eq_none (by omega)];show (0:Nat)≤1000;omega
def TkR (R:Rp) (t:ByteArray) (R':Rp):Prop:=(aU t R.n=[]∧R'=R)∨(aU t R.n≠[]∧∃ P,Rp.MOk R.n P∧uX R.n (aU t R.n) P∧R'=R.take P)
theorem qz (h:ay w b bl W F R V) (hR:Ok R) (hS:Rp.SvI R) (ho:R.out=[]) (hv0:V.vt=Y O 0 0) (t:ByteArray) :
  Calls Tryz.prog 10 #[Zp (some ⟨b,0,O⟩),Z t] w fun e w'=>∃ R',TkR R t R'∧TkP w w' b bl W F R' e:=by
 have hz:∀ c,(jZ R.sv c).2.size≤1000:=fun c=>by rw[hS];exact GV _ c
 have HZ:=ah hz;have hol:R.out.length≤100000:=by rw[ho];simp
 have c1:=h.c1;have HRd:=ah (IC t R.n w hR.n3 hR.n7);have H0:=ah h;have HO:=ah ho;clear hS hz ho;go_enter Tryz.func10,Tryz.ntmps10;go_wp2_with fail;refine HRd.out.mono ?_;rintro e w1 ⟨hb1,P,vl,vg,vo,vL,rfl,hown,hM⟩;obtain⟨al,cl,rfl⟩:=au hown.lives
 obtain⟨ag,cg,rfl⟩:=au hown.grp
 obtain⟨ao,co,rfl⟩:=au hown.old
 obtain⟨aL,cL,rfl⟩:=au hown.log
 simp only[pmC];have hbA:Below w.heap.size w (w1.alloc (.cells (pqC P al cl ag cg ao co aL cL) 68)):=hb1.alloc hb1.size _
 have hMA:bB (w1.alloc (.cells (pqC P al cl ag cg ao co aL cL) 68)) w1.heap.size (pqC P al cl ag cg ao co aL cL):=⟨rfl,heap_alloc_new w1 _⟩
 have hl1:=hown.lives.alloc (.cells (pqC P al cl ag cg ao co aL cL) 68);have hl2:=hown.grp.alloc (.cells (pqC P al cl ag cg ao co aL cL) 68);have hl3:=hown.old.alloc (.cells (pqC P al cl ag cg ao co aL cL) 68);have hl4:=hown.log.alloc (.cells (pqC P al cl ag cg ao co aL cL) 68);obtain⟨F2,h2,hsl,m2⟩:=Sl.news H0.out hbA [Y al P.lives.length cl,Y ag P.grp.length cg,Y ao P.old.length co,Y aL P.log.length cL] (by
  intro v hv;simp at hv;rcases hv with rfl|rfl|rfl|rfl
  ·exact kR hl1
  ·exact kR hl2
  ·exact kR hl3
  ·exact kR hl4)
 have hPA:dF (w1.alloc (.cells (pqC P al cl ag cg ao co aL cL) 68)) W F2 P (Y al P.lives.length cl) (Y ag P.grp.length cg) (Y ao P.old.length co) (Y aL P.log.length cL) :=
  ⟨Rd.bK hl1,Rd.bK hl2,Rd.bK hl3,Rd.bK hl4,hsl _ (by simp),hsl _ (by simp),hsl _ (by simp),hsl _ (by simp)⟩
 have hgW:w1.heap.size∉W:=fun hc=>by have:=H0.out.wlt _ hc;have:=hb1.size;omega
 have HSA:=ah (Rst.refl h2);have HKA:Hid (∀ wX WX FX,Kp W (w1.alloc (.cells (pqC P al cl ag cg ao co aL cL) 68)) wX→Mv (w1.alloc (.cells (pqC P al cl ag cg ao co aL cL) 68)) W F2 WX FX→Kp W w wX∧(∀ x∈WX,x∈W∨w.heap.size≤x)∧(∀ x∈FX,x∈F∨w.heap.size≤x)):=fun wX WX FX k m=>by
  have mm:=m2.trans m hbA.size;exact⟨(Kp.of_below hbA).trans' k,mm.m,mm.g⟩
 by_cases hw:aU t R.n=[]
 ·have hd:decide (aU t R.n≠[])=false:=decide_eq_false (fun q=>q hw)
  rw[hd];have HFin:Hid (TkP w (w1.alloc (.cells (pqC P al cl ag cg ao co aL cL) 68)) b bl W F R (Zr (Y O 0 0))):=by
   have e:({ R with out:=[] }:Rp)=R:=by rw[← HO.out]
   exact⟨_,W,F2,V,rfl,by rw[HO.out];exact lq.nil _ _,by rw[e];exact h2,hv0,Kp.of_below hbA,fun x hx=>.inl hx,m2.g,Fr.nil _ _ _,fun k hk=>by simp[Value.ownBlock] at hk⟩
  have HW0:Hid (TkR R t R):=.inl ⟨hw,rfl⟩
  clear hd hw hM;go_wp2_with fail;go_ret;exact⟨R,HW0.out,HFin.out⟩
 ·have hd:decide (aU t R.n≠[])=true:=decide_eq_true hw
  rw[hd];have HMo:=ah (JX hw hR.n7 (hM hw));have HIn:Hid (∀ R',R'=R.take P→TkR R t R'):=fun R' e=>.inr ⟨hw,P,HMo.out,hM hw,e⟩
  clear hd hw hM hl1 hl2 hl3 hl4 hsl h2 m2 hbA hown;cases k1:(P.kind==113)
  ·cases k2:(P.kind==109)
   ·have HNk:Hid (¬(P.kind=113∨P.kind=109)):=ah (by simp at k1 k2;omega)
    have HPm:=ah (HMo.out.2 HNk.out);have HTk:Hid (R.take P=if R.alive P then ((R.learn P.lives).pruned).bP P else R):=by unfold Hid Rp.take;rw[if_neg HNk.out]
    have HAl:=ah (Ez HSA.out hR hPA HPm.out);have HGl:=ah (Rp.xw hR HPm.out.lb);have HGp:=ah (Rp.tO HGl.out.ok);simp only[pmC] at HAl;go_upto_region 4 with fail
    generalize w1.alloc (.cells (pqC P al cl ag cg ao co aL cL) 68)=wA at *;obtain⟨x0,x1,x2,x3,x4,x5,x6,x7,x8,x9,x10,x11,x12,x13,x14,xf⟩:=hMA.all
    go_wp2_with fail;cases hal:R.alive P
    ·rw[hal] at HTk HAl;refine (HAl.out).mono ?_;rintro e w3 ⟨rfl,hs3⟩;have HS3:=ah hs3;clear hs3;have hM3:=hMA.kp HS3.out.kp hgW;obtain⟨_,_,_,_,_,_,_,_,_,_,_,_,_,_,_,_⟩:=hM3.all
     obtain⟨WX,FX,VX,hX,kX,mX⟩:=HS3.out
     have HSt:=ah (iH hX);have HKX:=ah (HKA.out _ _ _ kX mX);have HwX:=ah hX.wt;have HfX:=ah hX.wf;obtain⟨aX,cX,hvX⟩:=hX.g71
     have HvX:=ah hvX;rw[hvX] at HSt;clear hX kX mX hvX;go_wp2_with fail;refine HSt.out.mono ?_;rintro e wS ⟨rfl,hoS,kS,WS,FSs,hRS,hWS,hFS,hfS⟩;have HFin:=ah (jg.mk' HKX.out HwX.out HfX.out HvX.out hoS kS hRS hWS hFS hfS);clear hoS kS hRS hWS hFS hfS;go_wp2_with fail;go_ret;exact⟨_,HIn.out _ (by have:=HTk.out;simpa using this.symm),HFin.out⟩
    ·rw[hal] at HTk HAl;refine (HAl.out).mono ?_;rintro e w3 ⟨rfl,hs3⟩;have HS3:=ah hs3;clear hs3;have hM3:=hMA.kp HS3.out.kp hgW;obtain⟨_,_,_,_,_,_,_,_,_,_,_,_,_,_,_,_⟩:=hM3.all
     go_wp2_with fail;refine (zw HS3.out hR hPA HPm.out.ll).mono ?_;rintro e w4 ⟨rfl,hs4⟩;have HS4:=ah hs4;clear hs4;have hM4:=hMA.kp HS4.out.kp hgW;obtain⟨_,_,_,_,_,_,_,_,_,_,_,_,_,_,_,_⟩:=hM4.all
     have HL4:Hid ((R.learn P.lives).n=R.n∧(R.learn P.lives).out.length≤100000):=⟨HGl.out.n,Nat.le_trans HGl.out.out (by omega)⟩
     clear x0 x1 x2 x3 x4 x5 x6 x7 x8 x9 x10 x11 x12 x13 x14 xf;generalize hRL:R.learn P.lives=RL at *;go_upto_region 8 with fail
     go_cut [] from 8 (fun wx=>Rst wA wx b bl W F2 { RL with votes:=fK RL.votes RL.lives })
     case first =>
      obtain⟨W3,F3,V3,h3,k3,m3⟩:=HS4.out
      have c62:=h3.c62;obtain⟨a62,cp62,hv62⟩:=h3.g62
      have hvt:=h3.votes;rw[hv62] at c62 hvt;have c2:=h3.c2;obtain⟨clr,hvl2⟩:=h3.g2
      have hli:=h3.lives.rd;rw[hvl2] at c2 hli;have hl7:(RL).votes.length≤1000000:=by have:=lS HGl.out.ok.n7 HGl.out.ok.vn (fun m hm=>⟨(HGl.out.ok.vo m hm).2.f0,(HGl.out.ok.vo m hm).2.f1⟩);omega
      have hlv:(RL).lives.length≤1000000:=by have:=HGl.out.ok.ll;have:=HGl.out.ok.n7;omega
      have hfr:∀ m∈(RL).votes,0≤m.frm∧m.frm<(RL).lives.length∧m.lives.length=(RL).lives.length:=fun m hm=>by
       have q:=(HGl.out.ok.vo m hm).2;have q1:=q.ll;have q2:=HGl.out.ok.ll;exact⟨q.f0,by have:=q.f1;omega,by omega⟩
      have HJ:=ah (pR _ _ (RL).votes (RL).lives W3 F3 w4.drew (hvt.below (Below.refl _ _).drew) hl7 (hli.below (Below.refl _ _).drew) hlv hfr);have HR3:=ah h3;have HK3:=ah k3;have HM3:=ah m3;clear h3 hvt m3 k3 hli hfr;go_region_with (go_at_call 22;refine HJ.out.mono ?_;rintro e w5 ⟨v5,rfl,hms,hb5⟩;have HMs:=ah hms;obtain⟨xs5,ho5,hr5⟩:=hms;obtain⟨a5,c5,rfl⟩:=au ho5;clear ho5 hr5;have hb5':=iL hb5;have d62:=(HR3.out.below hb5').c62;have df62:=(HR3.out.below hb5').free 62;rw[hv62] at d62)
      all_goals
       obtain⟨F5,h5,p5,m5⟩:=kY.rep (HR3.out.below (Below.refl _ _).drew) hb5 HMs.out (Nat.le_refl _)
       have h6:=h5.nI _ _ p5;have HS6:Hid (Rst wA _ b bl W F2 _):=⟨W3,F5,_,h6,(HK3.out.aF hb5').mv HM3.out (h5.nM _ _),HM3.out.trans (m5.ug (Nat.le_refl _)) HK3.out.size⟩
       clear h5 p5 m5 h6;go_wp2_with fail;go_meet;exact HS6.out
     case rest =>
      have HS5:=ah hcut;obtain⟨w5,Hw5⟩:∃ x,x=wc:=⟨_,rfl⟩
      subst Hw5;clear hcut;have HO5:Hid (Ok ({ RL with votes:=fK RL.votes RL.lives }:Rp)):=Rp.Cz HGl.out.ok (fun x hx=>HGl.out.ok.vo x (rM hx)) (nO HGl.out.ok.vn)
      go_upto_region 9 with fail
      go_cut [] from 8 (fun wx=>Rst wA wx b bl W F2 RL.pruned)
      case first =>
       obtain⟨W3,F3,V3,h3,k3,m3⟩:=HS5.out
       have c63:=h3.c63;obtain⟨a62,cp62,hv62⟩:=h3.g63
       have hvt:=h3.answers;rw[hv62] at c63 hvt;have c2:=h3.c2;obtain⟨clr,hvl2⟩:=h3.g2
       have hli:=h3.lives.rd;rw[hvl2] at c2 hli;have hl7:(({ RL with votes:=fK RL.votes RL.lives }:Rp)).answers.length≤1000000:=by have:=lS HO5.out.n7 HO5.out.nn (fun m hm=>⟨(HO5.out.an m hm).2.f0,(HO5.out.an m hm).2.f1⟩);omega
       have hlv:(({ RL with votes:=fK RL.votes RL.lives }:Rp)).lives.length≤1000000:=by have:=HO5.out.ll;have:=HO5.out.n7;omega
       have hfr:∀ m∈(({ RL with votes:=fK RL.votes RL.lives }:Rp)).answers,0≤m.frm∧m.frm<(({ RL with votes:=fK RL.votes RL.lives }:Rp)).lives.length∧m.lives.length=(({ RL with votes:=fK RL.votes RL.lives }:Rp)).lives.length:=fun m hm=>by
        have q:=(HO5.out.an m hm).2;have q1:=q.ll;have q2:=HO5.out.ll;exact⟨q.f0,by have:=q.f1;omega,by omega⟩
       have HJ:=ah (pR _ _ (({ RL with votes:=fK RL.votes RL.lives }:Rp)).answers (({ RL with votes:=fK RL.votes RL.lives }:Rp)).lives W3 F3 w5.drew (hvt.below (Below.refl _ _).drew) hl7 (hli.below (Below.refl _ _).drew) hlv hfr)
       have HR3:=ah h3;have HK3:=ah k3;have HM3:=ah m3;clear h3 hvt m3 k3 hli hfr;go_region_with (go_at_call 22;refine HJ.out.mono ?_;rintro e w5 ⟨v5,rfl,hms,hb5⟩;have HMs:=ah hms;obtain⟨xs5,ho5,hr5⟩:=hms;obtain⟨a5,c5,rfl⟩:=au ho5;clear ho5 hr5;have hb5':=iL hb5;have d63:=(HR3.out.below hb5').c63;have df63:=(HR3.out.below hb5').free 63;rw[hv62] at d63)
       all_goals
        obtain⟨F5,h5,p5,m5⟩:=kY.rep (HR3.out.below (Below.refl _ _).drew) hb5 HMs.out (Nat.le_refl _)
        have h6:=h5.lX _ _ p5;have HS6:Hid (Rst wA _ b bl W F2 _):=⟨W3,F5,_,h6,(HK3.out.aF hb5').mv HM3.out (h5.nM _ _),HM3.out.trans (m5.ug (Nat.le_refl _)) HK3.out.size⟩
        clear h5 p5 m5 h6;go_wp2_with fail;go_meet;exact HS6.out
      case rest =>
       have HS6:=ah hcut;obtain⟨w6,Hw6⟩:∃ x,x=wc:=⟨_,rfl⟩
       subst Hw6;clear hcut;have hM6:=hMA.kp HS6.out.kp hgW;obtain⟨x0,x1,x2,x3,x4,x5,x6,x7,x8,x9,x10,x11,x12,x13,x14,xf⟩:=hM6.all
       have HTo:=ah (uE HS6.out HGp.out.ok hPA (by rw[HGp.out.n,HL4.out.1];exact HPm.out) (Nat.le_trans HGp.out.out (by have:=HL4.out.2;omega)))
       simp only[pmC] at HTo;go_wp2_with fail;refine (HTo.out).mono ?_;rintro e w7 ⟨rfl,hs7⟩;have HS7:=ah hs7;clear hs7;have hM7:=hMA.kp HS7.out.kp hgW;obtain⟨_,_,_,_,_,_,_,_,_,_,_,_,_,_,_,_⟩:=hM7.all
       obtain⟨WX,FX,VX,hX,kX,mX⟩:=HS7.out
       have HSt:=ah (iH hX);have HKX:=ah (HKA.out _ _ _ kX mX);have HwX:=ah hX.wt;have HfX:=ah hX.wf;obtain⟨aX,cX,hvX⟩:=hX.g71
       have HvX:=ah hvX;rw[hvX] at HSt;clear hX kX mX hvX;go_wp2_with fail;refine HSt.out.mono ?_;rintro e wS ⟨rfl,hoS,kS,WS,FSs,hRS,hWS,hFS,hfS⟩;have HFin:=ah (jg.mk' HKX.out HwX.out HfX.out HvX.out hoS kS hRS hWS hFS hfS);clear hoS kS hRS hWS hFS hfS;go_wp2_with fail;go_ret;exact⟨_,HIn.out _ HTk.out.symm,HFin.out⟩
   ·have HTk:Hid (R.take P=R.cu P):=by unfold Hid Rp.take;rw[if_pos (.inr (by simpa using k2))]
    have HC:=ah (pX HSA.out hR hPA (HMo.out.1 (.inr (by simpa using k2))) (.inr (by simpa using k2)) (HZ.out _) (by omega))
    simp only[pmC] at HC;go_upto_region 4 with fail
    generalize w1.alloc (.cells (pqC P al cl ag cg ao co aL cL) 68)=wA at *;obtain⟨x0,x1,x2,x3,x4,x5,x6,x7,x8,x9,x10,x11,x12,x13,x14,xf⟩:=hMA.all
    go_wp2_with fail;refine (HC.out).mono ?_;rintro e w3 ⟨rfl,hs3⟩;have HS3:=ah hs3;clear hs3;have hM3:=hMA.kp HS3.out.kp hgW;obtain⟨_,_,_,_,_,_,_,_,_,_,_,_,_,_,_,_⟩:=hM3.all
    obtain⟨WX,FX,VX,hX,kX,mX⟩:=HS3.out
    have HSt:=ah (iH hX);have HKX:=ah (HKA.out _ _ _ kX mX);have HwX:=ah hX.wt;have HfX:=ah hX.wf;obtain⟨aX,cX,hvX⟩:=hX.g71
    have HvX:=ah hvX;rw[hvX] at HSt;clear hX kX mX hvX;go_wp2_with fail;refine HSt.out.mono ?_;rintro e wS ⟨rfl,hoS,kS,WS,FSs,hRS,hWS,hFS,hfS⟩;have HFin:=ah (jg.mk' HKX.out HwX.out HfX.out HvX.out hoS kS hRS hWS hFS hfS);clear hoS kS hRS hWS hFS hfS;go_wp2_with fail;go_ret;exact⟨_,HIn.out _ HTk.out.symm,HFin.out⟩
  ·have HTk:Hid (R.take P=R.cu P):=by unfold Hid Rp.take;rw[if_pos (.inl (by simpa using k1))]
   have HC:=ah (pX HSA.out hR hPA (HMo.out.1 (.inl (by simpa using k1))) (.inl (by simpa using k1)) (HZ.out _) (by omega))
   simp only[pmC] at HC;go_upto_region 4 with fail
   generalize w1.alloc (.cells (pqC P al cl ag cg ao co aL cL) 68)=wA at *;obtain⟨x0,x1,x2,x3,x4,x5,x6,x7,x8,x9,x10,x11,x12,x13,x14,xf⟩:=hMA.all
   go_wp2_with fail;refine (HC.out).mono ?_;rintro e w3 ⟨rfl,hs3⟩;have HS3:=ah hs3;clear hs3;have hM3:=hMA.kp HS3.out.kp hgW;obtain⟨_,_,_,_,_,_,_,_,_,_,_,_,_,_,_,_⟩:=hM3.all
   obtain⟨WX,FX,VX,hX,kX,mX⟩:=HS3.out
   have HSt:=ah (iH hX);have HKX:=ah (HKA.out _ _ _ kX mX);have HwX:=ah hX.wt;have HfX:=ah hX.wf;obtain⟨aX,cX,hvX⟩:=hX.g71
   have HvX:=ah hvX;rw[hvX] at HSt;clear hX kX mX hvX;go_wp2_with fail;refine HSt.out.mono ?_;rintro e wS ⟨rfl,hoS,kS,WS,FSs,hRS,hWS,hFS,hfS⟩;have HFin:=ah (jg.mk' HKX.out HwX.out HfX.out HvX.out hoS kS hRS hWS hFS hfS);clear hoS kS hRS hWS hFS hfS;go_wp2_with fail;go_ret;exact⟨_,HIn.out _ HTk.out.symm,HFin.out⟩
theorem I4 (h:ay w b bl W F R V) (hR:Ok R) (hS:Rp.SvI R) (ho:R.out=[]) (hv0:V.vt=Y O 0 0) (t:ByteArray) :
  Calls Tryz.prog 10 #[Zp (some ⟨b,0,O⟩),Z t] w fun e w'=>∃ R',(R'=R∨∃ P,Rp.MOk R.n P∧R'=R.take P)∧TkP w w' b bl W F R' e:=by
 refine (qz h hR hS ho hv0 t).mono ?_;rintro e w' ⟨R',hT,hP⟩;refine⟨R',?_,hP⟩
 rcases hT with ⟨_,rfl⟩|⟨_,P,h1,_,rfl⟩
 ·exact .inl rfl
 ·exact .inr ⟨P,h1,rfl⟩
end
section
variable {N:Nat} {w w':World} {g:Nat} {K K':Kw} {V V':Kv}
def gQ (K:Kw) (q:Nat) (x:Nod):Kw:={ K with nds:=K.nds.set q x }
theorem tu {q:Nat} {x:Nod} (hq:q<K.nds.length):(gQ K q x).nds[q]? = some x:=List.getElem?_set_self hq
theorem KI.gQ (h:KI K) {q:Nat} {x x1:Nod} (hx:K.nds[q]? = some x) (hn:NI K.n q x1):KI (gQ K q x1) :=
 ⟨⟨h.sz.n3,h.sz.n7,by have:=h.sz.nds;simpa [Go.Proofs.YtajakaadgagejaaGreatDoor.gQ] using this,h.sz.down,h.sz.begun,h.sz.opn⟩,h.part,fun j y hy=>by
  unfold Go.Proofs.YtajakaadgagejaaGreatDoor.gQ at hy;simp only at hy
  by_cases e:q=j
  ·subst e;rw[List.getElem?_set_self (List.getElem?_eq_some_iff.1 hx).1] at hy;cases hy;exact hn
  ·rw[List.getElem?_set_ne e] at hy;exact h.nod j y hy,h.net,h.wish,h.opn,h.list,h.grps,h.li,h.gl⟩
structure Did (N:Nat) (w w1:World) (g:Nat) (K:Kw) (V:Kv) (q:Nat) (x x1:Nod) (c:Nat) (vl:Value) (l:List (Int×ByteArray)):Prop where
 kst:Kst N w w1 g K V (gQ K q x1) V
 ki:KI (gQ K q x1)
 ms:dA (gQ K q x1)+l.length≤dA K+c
 out:wm w1 vl l
 fr:Fr (gV g (gQ K q x1) V) vl
 lt:∀ k,vl.ownBlock=some k→k<w1.heap.size
 sil:x1.R.status=3→∀ y∈l,Rp.jm y.2
 bx:x1.b=x.b
theorem Dx {w1:World} {q:Nat} {x:Nod} {R':Rp} {c:Nat} {vt:Value} {W' F':List Nat} {V1:Rv} (h:KAt N w g K V) (hi:KI K) (hx:K.nds[q]? = some x) (ha:ActP x.R R' c) (ht:jg w w1 x.b x.bl x.W x.F R' vt W' F' V1):Did N w w1 g K V q x ⟨x.b,x.bl,W',F',{ R' with out:=[] },V1⟩ c vt R'.out:=by
 have ni:=hi.nod q x hx;have hr:=h.nodes x (List.mem_of_getElem? hx);have hn1:NI K.n q ⟨x.b,x.bl,W',F',{ R' with out:=[] },V1⟩:=⟨ha.ok,ha.sv,ha.rc,rfl,ht.vt0,by show R'.id=_;rw[ha.id];exact ni.id,by show R'.n=_;rw[ha.n];exact ni.n⟩
 have hk:=h.nod (x':=⟨x.b,x.bl,W',F',{ R' with out:=[] },V1⟩) hx rfl (ht.kp.wid hr.wf) ht.rp ht.g
 have hcm:bS g (gQ K q ⟨x.b,x.bl,W',F',{ R' with out:=[] },V1⟩) V=(bS g K V).set (q+9) F':=rH (K:=K) (K':=gQ K q ⟨x.b,x.bl,W',F',{ R' with out:=[] },V1⟩) (x':=⟨x.b,x.bl,W',F',{ R' with out:=[] },V1⟩) rfl rfl
 refine⟨hk,hi.gQ hx hn1,?_,Rd.bK ht.out,fun k hk hc=>?_,fun k hk=>(ht.out.lt k hk).2,ha.sil,rfl⟩
 ·have e:=xY K.nds q x ⟨x.b,x.bl,W',F',{ R' with out:=[] },V1⟩ hx
  have b1:=Rp.KM ni.ok;have b2:=Rp.KM ha.ok;have m:=ha.mz;have e2:Rp.mz ({ R' with out:=[] }:Rp)=Rp.mz R':=rfl
  unfold dA gQ;simp only at e ⊢
  rw[e2] at e;omega
 ·unfold gV at hc;rw[hcm] at hc;obtain⟨d,hd,hkd⟩:=List.mem_flatten.1 hc
  obtain⟨i,hi⟩:=List.getElem?_of_mem hd
  by_cases e:q+9=i
  ·subst e;rw[List.getElem?_set_self (List.getElem?_eq_some_iff.1 (xO (g:=g) (V:=V) hx)).1] at hi;cases hi;exact ht.fr k hk hkd
  ·rw[List.getElem?_set_ne e] at hi;rcases ht.at_ k hk with p|p
   ·exact h.ap.ne (xO hx) hi e k p hkd
   ·have:=h.lt d (List.mem_of_getElem? hi) k hkd
    omega
def DidE (N:Nat) (w w1:World) (g:Nat) (K:Kw) (V:Kv) (q:Nat) (x:Nod) (c:Nat) (e:Ending):Prop:=∃ x1 vl l,e=Zr vl∧Did N w w1 g K V q x x1 c vl l
theorem StE.pre {w1:World} {K1:Kw} {V1:Kv} {c d:Nat} {e:Ending} (h:StE N w1 w' g K1 V1 d e) (k:Kst N w w1 g K V K1 V1) (hm:dA K1+d≤dA K+c) (hnet:K.net.length≤K1.net.length) (hn:K1.n=K.n):StE N w w' g K V c e:=by
 obtain⟨b,K',V',rfl,s⟩:=h
 exact⟨b,K',V',rfl,k.trans s.kst,s.ki,by have:=s.ms;omega,Nat.le_trans hnet s.net,s.n.trans hn,s.gr⟩
section
variable {w1 w2 w3:World} {q:Nat} {x x1:Nod} {c:Nat} {vl:Value} {l:List (Int×ByteArray)} {K3:Kw} {V3:Kv}
theorem pY (h:KAt N w g K V) (hb1:Below w.heap.size w w1) (D:Did N w1 w2 g K V q x x1 c vl l) (hq:q<K.nds.length) (hm:dA K+c≤900000000000) (A:Ag N w2 w3 g (gQ K q x1) V K3 V3) (gr:Gr K3) :
  Calls Tryz.prog 63 #[Zp (some ⟨g,0,O⟩),I J q,vl] w3 fun e w'=>StE N w w' g K V c e:=by
 have hq3:q<K3.nds.length:=by rw[A.nds];simpa [gQ] using hq
 have hx3:K3.nds[q]=x1:=by
  have e:=tu (K:=K) (x:=x1) hq;rw[← A.nds,List.getElem?_eq_getElem hq3] at e;exact Option.some.inj e
 have ms:=D.ms;have am:=A.dA;refine (D6 A.kst.at_ A.ki gr q hq3 vl l (Rd.kp D.out A.kst.kp D.fr (fun _ h=>h)) (fun k hk hc=>?_) (by rw[hx3];exact D.sil) (by omega)).mono ?_
 ·rcases A.kst.sub k hc with p|p
  ·exact D.fr k hk p
  ·have:=D.lt k hk;omega
 ·intro e w' hs;exact hs.pre (((Kst.refl h).below hb1).trans (D.kst.trans A.kst)) (by omega) (by rw[A.net];exact Nat.le_refl _) A.n
theorem wK (h:KAt N w g K V) (hb1:Below w.heap.size w w1) (D:Did N w1 w2 g K V q x x1 c vl l) (A:Ag N w2 w3 g (gQ K q x1) V K3 V3):StE N w w3 g K V c (Zr (.bool false)):=by
 have ms:=D.ms;have am:=A.dA;exact⟨false,K3,V3,rfl,((Kst.refl h).below hb1).trans (D.kst.trans A.kst),A.ki,by omega,by rw[A.net];exact Nat.le_refl _,A.n,fun h=>by simp at h⟩
theorem xH (gr:Gr K) (hx:K.nds[q]? = some x) (A:Ag N w2 w3 g (gQ K q x1) V K3 V3) (hg:x1.R.status=3∨x1.R.epoch<(K3.groups.length:Int)):Gr K3:=fun y hy=>by
 rw[A.nds] at hy;obtain⟨j,hj⟩:=List.getElem?_of_mem hy
 unfold gQ at hj;simp only at hj
 by_cases e:q=j
 ·subst e;rw[List.getElem?_set_self (List.getElem?_eq_some_iff.1 hx).1] at hj;cases hj;exact hg
 ·rw[List.getElem?_set_ne e] at hj;have hl:K.groups.length≤K3.groups.length:=A.gl
  exact (gr y (List.mem_of_getElem? hj)).imp id (fun p=>by omega)
theorem Ag.same (A:Ag N w w1 g K V K3 V3) (k:Kst N w1 w2 g K3 V3 K3 V3):Ag N w w2 g K V K3 V3:=⟨A.kst.trans k,A.ki,A.nds,A.net,A.n,A.wl,A.lv,A.gl⟩
theorem Ag.top {u:Int} (A:Ag N w w1 g K V K3 V3) (k:Kst N w1 w2 g K3 V3 { K3 with top:=u } V3):Ag N w w2 g K V { K3 with top:=u } V3:=⟨A.kst.trans k,⟨⟨A.ki.sz.n3,A.ki.sz.n7,A.ki.sz.nds,A.ki.sz.down,A.ki.sz.begun,A.ki.sz.opn⟩,A.ki.part,A.ki.nod,A.ki.net,A.ki.wish,A.ki.opn,A.ki.list,A.ki.grps,A.ki.li,A.ki.gl⟩,A.nds,A.net,A.n,A.wl,A.lv,A.gl⟩
end
theorem DN (h:KAt N w g K V) (hi:KI K) (gr:Gr K) (q:Nat) (hq:q<K.nds.length) (s:ByteArray) (hm:dA K+1≤900000000000) :
  Calls Tryz.prog 34 #[Zp (some ⟨g,0,O⟩),I J q,I J 0,Z s] w fun e w'=>StE N w w' g K V 1 e:=by
 have z:=hi.sz;obtain⟨n,hn⟩:∃ n:Nat,K.n=n:=⟨K.n.toNat,by have:=z.n3;omega⟩
 have z3:=z.n3;have z1:=z.nds;have z7:=z.n7;have zd:=z.down;have zb:=z.begun;have z10:=z.opn;rw[hn] at z1 z7 z3 zd zb;have HC1:Hid (∀ w2,Below w.heap.size w w2→w2.cell? ⟨g,1,O⟩=some (I J n)):=fun w2 hw2=>by rw[← hn];exact (h.below hw2).cell 1
 obtain⟨aN,cN,hvN⟩:=au h.rN
 have HC2:Hid (∀ w2,Below w.heap.size w w2→w2.cell? ⟨g,2,O⟩=some (Y aN K.nds.length cN)):=fun w2 hw2=>by rw[← hvN];exact (h.below hw2).cell 2
 have HN:=ah (fun (w2:World) (hw2:Below w.heap.size w w2)=>KAt.ptr h hvN hw2)
 obtain⟨aD,cD,hvD⟩:=au h.rD
 have HC3:Hid (∀ w2,Below w.heap.size w w2→w2.cell? ⟨g,3,O⟩=some (Y aD K.down.length cD)):=fun w2 hw2=>by rw[← hvD];exact (h.below hw2).cell 3
 have HD:=ah (fun (w2:World) (hw2:Below w.heap.size w w2)=>KAt.dwn h hvD hw2)
 have HWh:=ah (fun (w2:World) (hw2:Below w.heap.size w w2)=>KAt.whr h hw2)
 obtain⟨x,hxe⟩:∃ x,K.nds[q]=x:=⟨_,rfl⟩
 have hx:K.nds[q]? = some x:=by rw[List.getElem?_eq_getElem hq,hxe]
 have ni:=hi.nod q x hx;have HQ:=ah (HWh.out w (Below.refl _ _) q hq);rw[hxe] at HQ;have hqd:q<K.down.length:=by omega
 obtain⟨b1,o1,rfl,_,d1⟩:=HN.out w (Below.refl _ _) q hq
 obtain⟨b2,o2,rfl,_,d2⟩:=HD.out w (Below.refl _ _) q hqd
 have c2:=HC2.out w (Below.refl _ _);have c3:=HC3.out w (Below.refl _ _);rw[hxe] at d1;have j1:(0:Int)≤(q:Int):=by omega
 have j2:(q:Int)<(K.nds.length:Int):=by omega
 have j3:(q:Int)<(K.down.length:Int):=by omega
 have HY:Hid (StE N w w g K V 1 (Zr (.bool true))):=⟨true,K,V,rfl,Kst.refl h,hi,by omega,Nat.le_refl _,rfl,fun _=>gr⟩
 have HTk:Hid (∀ w2,Below w.heap.size w w2→Calls Tryz.prog 10 #[Zp (some ⟨x.b,0,O⟩),Z s] w2 fun e w'=>DidE N w2 w' g K V q x 1 e):=fun w2 hw2=>by
  have h2:=h.below hw2;have hr:=h2.nodes x (List.mem_of_getElem? hx);refine (I4 hr ni.ok ni.sv ni.ou ni.vt s).mono ?_;rintro e w3 ⟨R',hR',vt,W',F',V1,rfl,ht⟩;exact⟨_,vt,_,rfl,Dx h2 hi hx (Ht ni.ok ni.sv ni.rc ni.ou hR') ht⟩
 have HN2:Hid (∀ w2,Below w.heap.size w w2→w2.cell? ⟨g,2,O⟩=some (Y (some ⟨b1,o1,O⟩) K.nds.length cN)∧w2.cell? ⟨b1,o1+q,O⟩=some (Zp (some ⟨x.b,0,O⟩))):=fun w2 hw2=>by
  obtain⟨b3,o3,e3,_,d3⟩:=HN.out w2 hw2 q hq
  cases e3;rw[hxe] at d3;exact⟨HC2.out w2 hw2,d3⟩
 have HX:=ah hx;have HGr:=ah gr;have HH:=ah h;clear h hi gr z ni hx HWh HN HD hxe HC1 HC2 HC3;generalize K.down[q]=dq at *;cases dq
 ·generalize x.R.epoch=r1 at *;generalize x.R.view=r2 at *;generalize x.R.status=r3 at *;generalize x.R.decided=r4 at *;go_enter Tryz.func34,Tryz.ntmps34;go_wp2_with fail;refine HQ.out.mono ?_;rintro e w1 ⟨rfl,nn,hw1⟩;have hb1:Below w.heap.size w w1:=by rw[hw1];exact below_drewN (Below.refl _ _) nn
  clear hw1 c2 c3 d1 d2;obtain⟨c2,d1⟩:=HN2.out _ hb1
  generalize hxb:x.b=bb at *;go_wp2_with fail;refine (HTk.out _ hb1).mono ?_;rintro e w2 ⟨x1,vl,l,rfl,D⟩;have hx1:=tu (K:=K) (x:=x1) hq;have HD:=ah D;have HAg:=ah (pE D.kst.at_ D.ki q x1 hx1);have HX1:=ah hx1;obtain⟨al,nl,cl,hvl⟩:∃ a n c,vl=Y a n c:=by
   obtain⟨a,c,e,_⟩:=Rd.form D.out
   exact⟨a,_,c,e⟩
  subst hvl;clear D hx1 c2 d1;have HSn:Hid (∀ {w3:World} {K3:Kw} {V3:Kv},Ag N w2 w3 g (gQ K q x1) V K3 V3→Gr K3→Calls Tryz.prog 63 #[Zp (some ⟨g,0,O⟩),I J q,Y al nl cl] w3 fun e w'=>StE N w w' g K V 1 e):=fun A gr=>pY HH.out hb1 HD.out hq hm A gr
  have HNo:Hid (∀ {w3:World} {K3:Kw} {V3:Kv},Ag N w2 w3 g (gQ K q x1) V K3 V3→StE N w w3 g K V 1 (Zr (.bool false))):=fun A=>wK HH.out hb1 HD.out A
  have HRl:Hid (∀ {w3:World} {K3:Kw} {V3:Kv},Ag N w2 w3 g (gQ K q x1) V K3 V3→x1.R.status=3∨x1.R.epoch<(K3.groups.length:Int)→x1.R.status=4→Calls Tryz.prog 62 #[Zp (some ⟨g,0,O⟩),I J q] w3 fun e w'=>oL N w3 w' g K3 V3 16 e):=fun {w3 K3 V3} A hg h4=>by
   have hq3:q<K3.nds.length:=by rw[A.nds];simpa [gQ] using hq
   have hx3:K3.nds[q]=x1:=by
    have e:=HX1.out;rw[← A.nds,List.getElem?_eq_getElem hq3] at e;exact Option.some.inj e
   have hep:=(A.ki.nod q x1 (by rw[A.nds];exact HX1.out)).ok.ep
   exact mM A.kst.at_ A.ki.sz q hq3 (by rw[hx3];exact hep.1) (by rw[hx3];exact hg.resolve_left (by omega)) (fun t ht=>by have:=A.ki.gsz t ht;omega)
  go_wp2_with fail;refine HAg.out.mono ?_;rintro e w3 ⟨bA,K2,V2,rfl,A,hgr⟩;have HA:=ah A;clear A;cases bA
  ·have HFl:=ah (HNo.out HA.out);go_wp2_with fail;go_ret;exact HFl.out
  ·have HGx:=ah (hgr rfl);have HG2:=ah (xH HGr.out HX.out HA.out (hgr rfl));clear hgr;obtain⟨aN2,cN2,hvN2⟩:=au HA.out.kst.at_.rN
   have hq2:q<K2.nds.length:=by rw[HA.out.nds];simpa [gQ] using hq
   have hx2:K2.nds[q]=x1:=by
    have e:=HX1.out;rw[← HA.out.nds,List.getElem?_eq_getElem hq2] at e;exact Option.some.inj e
   obtain⟨b4,o4,rfl,_,d4⟩:=HA.out.kst.at_.ptr hvN2 (Below.refl _ _) q hq2
   have c2:w3.cell? ⟨g,2,O⟩=some (Y (some ⟨b4,o4,O⟩) K2.nds.length cN2):=by rw[← hvN2];exact HA.out.kst.at_.cell 2
   have j4:(q:Int)<(K2.nds.length:Int):=by omega
   rw[hx2] at d4;have HW2:=ah (kU (HA.out.node HX1.out));generalize x1.b=bb1 at *;generalize x1.R.epoch=s1 at *;generalize x1.R.view=s2 at *;generalize x1.R.status=s3 at *;generalize x1.R.decided=s4 at *;clear hx2;go_wp2_with fail;refine HW2.out.mono ?_;rintro e w4 ⟨rfl,nn4,hw4⟩;have HA:=ah (HA.out.below (by rw[hw4];exact below_drewN (Below.refl _ _) nn4:Below w3.heap.size w3 w4))
   clear hw4 c2 d4;have c6:w4.cell? ⟨g,6,O⟩=some (I J K2.top):=HA.out.kst.at_.cell 6
   have f6:=HA.out.kst.at_.free 6;by_cases htp:K2.top<s2
   ·have HA3:Hid (Ag N w2 (w4.setCell ⟨g,6,O⟩ (I J s2)) g (gQ K q x1) V { K2 with top:=s2 } V2):=HA.out.top (HA.out.kst.at_.scalar (K':={ K2 with top:=s2 }) 6 (I J s2) rfl rfl rfl)
    have HG3:Hid (Gr { K2 with top:=s2 }):=HG2
    clear HA HG2;go_upto_region 17 with fail
    clear c6 f6;generalize w4.setCell ⟨g,6,O⟩ (I J s2)=wZ at *;by_cases r5:r3=5
    ·subst r5;by_cases r4:s3=4
     ·have HRc:=ah (HRl.out HA3.out HGx.out r4);subst r4;by_cases ref:r1=s1
      ·have ref':(r1==s1)=true:=beq_iff_eq.2 ref
       clear ref;go_wp2_with fail;refine HRc.out.mono ?_;rintro e w6 ⟨b6,K6,rfl,k6,y6,n6⟩;cases b6
       ·have HFl:Hid (StE N w w6 g K V 1 (Zr (.bool false))):=by
         have e6:=n6 rfl;subst e6;exact HNo.out (HA3.out.fails k6 (by unfold dK;omega))
        go_wp2_with fail;go_ret;exact HFl.out
       ·have e6:=y6 rfl;subst e6;have HA3:=ah (HA3.out.same k6);clear k6 y6 n6;go_wp2_with fail;refine (HSn.out HA3.out HG3.out).mono ?_;rintro e w9 ⟨b9,K9,V9,rfl,hS9⟩;go_wp2_with fail;go_ret;exact⟨b9,K9,V9,rfl,hS9⟩
      ·have ref':(r1==s1)=false:=beq_eq_false_iff_ne.2 ref
       clear ref;go_wp2_with fail;refine (HSn.out HA3.out HG3.out).mono ?_;rintro e w9 ⟨b9,K9,V9,rfl,hS9⟩;go_wp2_with fail;go_ret;exact⟨b9,K9,V9,rfl,hS9⟩
     ·have r4':(s3==4)=false:=beq_eq_false_iff_ne.2 r4
      clear r4;go_wp2_with fail;refine (HSn.out HA3.out HG3.out).mono ?_;rintro e w9 ⟨b9,K9,V9,rfl,hS9⟩;go_wp2_with fail;go_ret;exact⟨b9,K9,V9,rfl,hS9⟩
    ·have r5':(r3==5)=false:=beq_eq_false_iff_ne.2 r5
     clear r5;go_wp2_with fail;refine (HSn.out HA3.out HG3.out).mono ?_;rintro e w9 ⟨b9,K9,V9,rfl,hS9⟩;go_wp2_with fail;go_ret;exact⟨b9,K9,V9,rfl,hS9⟩
   ·have HA3:=HA;have HG3:=HG2;by_cases r5:r3=5
    ·subst r5;by_cases r4:s3=4
     ·have HRc:=ah (HRl.out HA3.out HGx.out r4);subst r4;by_cases ref:r1=s1
      ·have ref':(r1==s1)=true:=beq_iff_eq.2 ref
       clear ref;go_wp2_with fail;refine HRc.out.mono ?_;rintro e w6 ⟨b6,K6,rfl,k6,y6,n6⟩;cases b6
       ·have HFl:Hid (StE N w w6 g K V 1 (Zr (.bool false))):=by
         have e6:=n6 rfl;subst e6;exact HNo.out (HA3.out.fails k6 (by unfold dK;omega))
        go_wp2_with fail;go_ret;exact HFl.out
       ·have e6:=y6 rfl;subst e6;have HA3:=ah (HA3.out.same k6);clear k6 y6 n6;go_wp2_with fail;refine (HSn.out HA3.out HG3.out).mono ?_;rintro e w9 ⟨b9,K9,V9,rfl,hS9⟩;go_wp2_with fail;go_ret;exact⟨b9,K9,V9,rfl,hS9⟩
      ·have ref':(r1==s1)=false:=beq_eq_false_iff_ne.2 ref
       clear ref;go_wp2_with fail;refine (HSn.out HA3.out HG3.out).mono ?_;rintro e w9 ⟨b9,K9,V9,rfl,hS9⟩;go_wp2_with fail;go_ret;exact⟨b9,K9,V9,rfl,hS9⟩
     ·have r4':(s3==4)=false:=beq_eq_false_iff_ne.2 r4
      clear r4;go_wp2_with fail;refine (HSn.out HA3.out HG3.out).mono ?_;rintro e w9 ⟨b9,K9,V9,rfl,hS9⟩;go_wp2_with fail;go_ret;exact⟨b9,K9,V9,rfl,hS9⟩
    ·have r5':(r3==5)=false:=beq_eq_false_iff_ne.2 r5
     clear r5;go_wp2_with fail;refine (HSn.out HA3.out HG3.out).mono ?_;rintro e w9 ⟨b9,K9,V9,rfl,hS9⟩;go_wp2_with fail;go_ret;exact⟨b9,K9,V9,rfl,hS9⟩
 ·go_enter Tryz.func34,Tryz.ntmps34;go_wp2_with fail;go_ret;exact HY.out
end
end Go.Proofs.YtajakaadgagejaaGreatDoor
