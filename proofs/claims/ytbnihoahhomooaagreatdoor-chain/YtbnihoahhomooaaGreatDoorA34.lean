import Derived.Test.YtbnihoahhomooaaGreatDoorA25
import Derived.Test.YtbnihoahhomooaaGreatDoorA33
import Derived.Test.YtbnihoahhomooaaGreatDoorA24
set_option maxRecDepth 100000
set_option maxHeartbeats 8000000
set_option linter.all false
namespace Go.Proofs.YtbnihoahhomooaaGreatDoor
open Go.Value renaming int→I,slice→Y,string→Z,pointer→Zp
open Go.Ending renaming returned→Zr
open _root_.ByteArray renaming empty→Ze
open Go.IntKind renaming i64→J
open Option renaming none→O
open Go.RowKit
section
variable {w w0:World} {b bl:Nat} {W F:List Nat} {R:Rp} {V:Rv} {P:Pm} {vl vg vo vL:Value}
theorem JX (l:List En) (c:Int):(jL (svF l) c).2.size≤1000:=by
 have hs:∀ (l:List En) (S:Sv),(∀ s∈S.ses,s.2.size≤1000)→∀ s∈(l.foldl lG S).ses,s.2.size≤1000:=by
  intro l
  induction l with
  | nil=>intro S h;exact h
  | cons e l ih =>
   intro S h;simp only[List.foldl_cons];apply ih
   intro s hs;unfold lG yP at hs;rcases List.mem_or_eq_of_mem_set hs with q|q
   ·exact h s q
   ·rw[q];exact DZ _ _
 unfold jL
 split
 ·show (0:Nat)≤1000;omega
 ·rw[List.getD_eq_getElem?_getD];by_cases hk:(c-1).toNat<(svF l).ses.length
  ·rw[List.getElem?_eq_getElem hk];refine hs l sv0 (fun s q=>?_) _ (List.getElem_mem _)
   have:=List.eq_of_mem_replicate q
   rw[this];show (0:Nat)≤1000;omega
  ·rw[List.getElem?_eq_none (by omega)];show (0:Nat)≤1000;omega
def TkR (R:Rp) (t:ByteArray) (R':Rp):Prop:=(aZ t R.n=[]∧R'=R)∨(aZ t R.n≠[]∧∃ P,Rp.MOk R.n P∧qp R.n (aZ t R.n) P∧R'=R.take P)
theorem rV (h:ay w b bl W F R V) (hR:Ok R) (hS:Rp.SvI R) (ho:R.out=[]) (hv0:V.vt=Y O 0 0) (t:ByteArray) :
  Calls Tryz.prog 10 #[Zp (some ⟨b,0,O⟩),Z t] w fun e w'=>∃ R',TkR R t R'∧TkP w w' b bl W F R' e:=by
 have hz:∀ c,(jL R.sv c).2.size≤1000:=fun c=>by rw[hS];exact JX _ c
 have HZ:=ah hz;have hol:R.out.length≤100000:=by rw[ho];simp
 have c1:=h.c1;have HRd:=ah (Le t R.n w hR.n3 hR.n7);have H0:=ah h;have HO:=ah ho;clear hS hz ho;go_enter Tryz.func10,Tryz.ntmps10;go_wp2_with fail;refine HRd.out.mono ?_;rintro e w1 ⟨hb1,P,vl,vg,vo,vL,rfl,hown,hM⟩;obtain⟨al,cl,rfl⟩:=aj hown.lives
 obtain⟨ag,cg,rfl⟩:=aj hown.grp
 obtain⟨ao,co,rfl⟩:=aj hown.old
 obtain⟨aL,cL,rfl⟩:=aj hown.log
 simp only[pmC];have hbA:Below w.heap.size w (w1.alloc (.cells (pqC P al cl ag cg ao co aL cL) 68)):=hb1.alloc hb1.size _
 have hMA:dw (w1.alloc (.cells (pqC P al cl ag cg ao co aL cL) 68)) w1.heap.size (pqC P al cl ag cg ao co aL cL):=⟨rfl,heap_alloc_new w1 _⟩
 have hl1:=hown.lives.alloc (.cells (pqC P al cl ag cg ao co aL cL) 68);have hl2:=hown.grp.alloc (.cells (pqC P al cl ag cg ao co aL cL) 68);have hl3:=hown.old.alloc (.cells (pqC P al cl ag cg ao co aL cL) 68);have hl4:=hown.log.alloc (.cells (pqC P al cl ag cg ao co aL cL) 68);obtain⟨F2,h2,hsl,m2⟩:=Sl.news H0.out hbA [Y al P.lives.length cl,Y ag P.grp.length cg,Y ao P.old.length co,Y aL P.log.length cL] (by
  intro v hv;simp at hv;rcases hv with rfl|rfl|rfl|rfl
  ·exact lZ hl1
  ·exact lZ hl2
  ·exact lZ hl3
  ·exact lZ hl4)
 have hPA:dM (w1.alloc (.cells (pqC P al cl ag cg ao co aL cL) 68)) W F2 P (Y al P.lives.length cl) (Y ag P.grp.length cg) (Y ao P.old.length co) (Y aL P.log.length cL) :=
  ⟨Rd.bR hl1,Rd.bR hl2,Rd.bR hl3,Rd.bR hl4,hsl _ (by simp),hsl _ (by simp),hsl _ (by simp),hsl _ (by simp)⟩
 have hgW:w1.heap.size∉W:=fun hc=>by have:=H0.out.wlt _ hc;have:=hb1.size;omega
 have HSA:=ah (Rst.refl h2);have HKA:Hid (∀ wX WX FX,Kp W (w1.alloc (.cells (pqC P al cl ag cg ao co aL cL) 68)) wX→Mv (w1.alloc (.cells (pqC P al cl ag cg ao co aL cL) 68)) W F2 WX FX→Kp W w wX∧(∀ x∈WX,x∈W∨w.heap.size≤x)∧(∀ x∈FX,x∈F∨w.heap.size≤x)):=fun wX WX FX k m=>by
  have mm:=m2.trans m hbA.size;exact⟨(Kp.of_below hbA).trans' k,mm.m,mm.g⟩
 by_cases hw:aZ t R.n=[]
 ·have hd:decide (aZ t R.n≠[])=false:=decide_eq_false (fun q=>q hw)
  rw[hd];have HFin:Hid (TkP w (w1.alloc (.cells (pqC P al cl ag cg ao co aL cL) 68)) b bl W F R (Zr (Y O 0 0))):=by
   have e:({ R with out:=[] }:Rp)=R:=by rw[← HO.out]
   exact⟨_,W,F2,V,rfl,by rw[HO.out];exact l9.nil _ _,by rw[e];exact h2,hv0,Kp.of_below hbA,fun x hx=>.inl hx,m2.g,Fr.nil _ _ _,fun k hk=>by simp[Value.ownBlock] at hk⟩
  have HW0:Hid (TkR R t R):=.inl ⟨hw,rfl⟩
  clear hd hw hM;go_wp2;go_ret;exact⟨R,HW0.out,HFin.out⟩
 ·have hd:decide (aZ t R.n≠[])=true:=decide_eq_true hw
  rw[hd];have HMo:=ah (Ny hw hR.n7 (hM hw));have HIn:Hid (∀ R',R'=R.take P→TkR R t R'):=fun R' e=>.inr ⟨hw,P,HMo.out,hM hw,e⟩
  clear hd hw hM hl1 hl2 hl3 hl4 hsl h2 m2 hbA hown;cases k1:(P.kind==113)
  ·cases k2:(P.kind==109)
   focus
    have HNk:Hid (¬(P.kind=113∨P.kind=109)):=ah (by simp at k1 k2;omega)
    have HPm:=ah (HMo.out.2 HNk.out);have HTk:Hid (R.take P=if R.alive P then ((R.learn P.lives).pruned).bB P else R):=by unfold Hid Rp.take;rw[if_neg HNk.out]
    have HAl:=ah (G5 HSA.out hR hPA HPm.out);have HGl:=ah (Rp.uD hR HPm.out.lb);have HGp:=ah (Rp.ru HGl.out.ok);simp only[pmC] at HAl
   rotate_left
   focus
    have HTk:Hid (R.take P=R.bT P):=by unfold Hid Rp.take;rw[if_pos (.inr (by simpa using k2))]
    have HC:=ah (qQ HSA.out hR hPA (HMo.out.1 (.inr (by simpa using k2))) (.inr (by simpa using k2)) (HZ.out _) (by omega))
    simp only[pmC] at HC
   rotate_left
   all_goals
    go_upto_region 4 with fail
    generalize w1.alloc (.cells (pqC P al cl ag cg ao co aL cL) 68)=wA at *;obtain⟨x0,x1,x2,x3,x4,x5,x6,x7,x8,x9,x10,x11,x12,x13,x14,xf⟩:=hMA.all
    go_wp2_with fail
   ·cases hal:R.alive P
    all_goals
     rw[hal] at HTk HAl;refine (HAl.out).mono ?_;rintro e w3 ⟨rfl,hs3⟩;have HS3:=ah hs3;clear hs3;have hM3:=hMA.kp HS3.out.kp hgW;obtain⟨_,_,_,_,_,_,_,_,_,_,_,_,_,_,_,_⟩:=hM3.all
    ·obtain⟨WX,FX,VX,hX,kX,mX⟩:=HS3.out
     have HSt:=ah (jD hX);have HKX:=ah (HKA.out _ _ _ kX mX);have HwX:=ah hX.wt;have HfX:=ah hX.wf;obtain⟨aX,cX,hvX⟩:=hX.g71
     have HvX:=ah hvX;rw[hvX] at HSt;clear hX kX mX hvX;go_wp2_with fail;refine HSt.out.mono ?_;rintro e wS ⟨rfl,hoS,kS,WS,FSs,hRS,hWS,hFS,hfS⟩;have HFin:=ah (jX.mk' HKX.out HwX.out HfX.out HvX.out hoS kS hRS hWS hFS hfS);clear hoS kS hRS hWS hFS hfS;go_wp2;go_ret;exact⟨_,HIn.out _ (by have:=HTk.out;simpa using this.symm),HFin.out⟩
    ·go_wp2_with fail;refine (Bl HS3.out hR hPA HPm.out.ll).mono ?_;rintro e w4 ⟨rfl,hs4⟩;have HS4:=ah hs4;clear hs4;have hM4:=hMA.kp HS4.out.kp hgW;obtain⟨_,_,_,_,_,_,_,_,_,_,_,_,_,_,_,_⟩:=hM4.all
     have HL4:Hid ((R.learn P.lives).n=R.n∧(R.learn P.lives).out.length≤100000):=⟨HGl.out.n,Nat.le_trans HGl.out.out (by omega)⟩
     clear x0 x1 x2 x3 x4 x5 x6 x7 x8 x9 x10 x11 x12 x13 x14 xf;generalize hRL:R.learn P.lives=RL at *;go_upto_region 8 with fail
     go_cut [] from 8 (fun wx=>Rst wA wx b bl W F2 { RL with aI:=gJ RL.aI RL.lives })
     case first =>
      obtain⟨W3,F3,V3,h3,k3,m3⟩:=HS4.out
      have c62:=h3.c62;obtain⟨a62,cp62,hv62⟩:=h3.g62
      have hvt:=h3.aI;rw[hv62] at c62 hvt;have c2:=h3.c2;obtain⟨clr,hvl2⟩:=h3.g2
      have hli:=h3.lives.rd;rw[hvl2] at c2 hli;have hl7:(RL).aI.length≤1000000:=by have:=mK HGl.out.ok.n7 HGl.out.ok.vn (fun m hm=>⟨(HGl.out.ok.vo m hm).2.f0,(HGl.out.ok.vo m hm).2.f1⟩);omega
      have hlv:(RL).lives.length≤1000000:=by have:=HGl.out.ok.ll;have:=HGl.out.ok.n7;omega
      have hfr:∀ m∈(RL).aI,0≤m.frm∧m.frm<(RL).lives.length∧m.lives.length=(RL).lives.length:=fun m hm=>by
       have q:=(HGl.out.ok.vo m hm).2;have q1:=q.ll;have q2:=HGl.out.ok.ll;exact⟨q.f0,by have:=q.f1;omega,by omega⟩
      have HJ:=ah (qO _ _ (RL).aI (RL).lives W3 F3 w4.drew (hvt.below (Below.refl _ _).drew) hl7 (hli.below (Below.refl _ _).drew) hlv hfr);have HR3:=ah h3;have HK3:=ah k3;have HM3:=ah m3;clear h3 hvt m3 k3 hli hfr;go_region_with (go_at_call 22;refine HJ.out.mono ?_;rintro e w5 ⟨v5,rfl,hms,hb5⟩;have HMs:=ah hms;obtain⟨xs5,ho5,hr5⟩:=hms;obtain⟨a5,c5,rfl⟩:=aj ho5;clear ho5 hr5;have hb5':=jc hb5;have d62:=(HR3.out.below hb5').c62;have df62:=(HR3.out.below hb5').free 62;rw[hv62] at d62)
      all_goals
       obtain⟨F5,h5,p5,m5⟩:=l8.rep (HR3.out.below (Below.refl _ _).drew) hb5 HMs.out (Nat.le_refl _)
       have h6:=h5.oP _ _ p5;have HS6:Hid (Rst wA _ b bl W F2 _):=⟨W3,F5,_,h6,(HK3.out.aS hb5').mv HM3.out (h5.qo _ _),HM3.out.trans (m5.vY (Nat.le_refl _)) HK3.out.size⟩
       clear h5 p5 m5 h6;go_wp2_with fail;go_meet;exact HS6.out
     case rest =>
      have HS5:=ah hcut;obtain⟨w5,Hw5⟩:∃ x,x=wc:=⟨_,rfl⟩
      subst Hw5;clear hcut;have HO5:Hid (Ok ({ RL with aI:=gJ RL.aI RL.lives }:Rp)):=Rp.EA HGl.out.ok (fun x hx=>HGl.out.ok.vo x (mM hx)) (pE HGl.out.ok.vn)
      go_upto_region 9 with fail
      go_cut [] from 8 (fun wx=>Rst wA wx b bl W F2 RL.pruned)
      case first =>
       obtain⟨W3,F3,V3,h3,k3,m3⟩:=HS5.out
       have c63:=h3.c63;obtain⟨a62,cp62,hv62⟩:=h3.g63
       have hvt:=h3.answers;rw[hv62] at c63 hvt;have c2:=h3.c2;obtain⟨clr,hvl2⟩:=h3.g2
       have hli:=h3.lives.rd;rw[hvl2] at c2 hli;have hl7:(({ RL with aI:=gJ RL.aI RL.lives }:Rp)).answers.length≤1000000:=by have:=mK HO5.out.n7 HO5.out.nn (fun m hm=>⟨(HO5.out.an m hm).2.f0,(HO5.out.an m hm).2.f1⟩);omega
       have hlv:(({ RL with aI:=gJ RL.aI RL.lives }:Rp)).lives.length≤1000000:=by have:=HO5.out.ll;have:=HO5.out.n7;omega
       have hfr:∀ m∈(({ RL with aI:=gJ RL.aI RL.lives }:Rp)).answers,0≤m.frm∧m.frm<(({ RL with aI:=gJ RL.aI RL.lives }:Rp)).lives.length∧m.lives.length=(({ RL with aI:=gJ RL.aI RL.lives }:Rp)).lives.length:=fun m hm=>by
        have q:=(HO5.out.an m hm).2;have q1:=q.ll;have q2:=HO5.out.ll;exact⟨q.f0,by have:=q.f1;omega,by omega⟩
       have HJ:=ah (qO _ _ (({ RL with aI:=gJ RL.aI RL.lives }:Rp)).answers (({ RL with aI:=gJ RL.aI RL.lives }:Rp)).lives W3 F3 w5.drew (hvt.below (Below.refl _ _).drew) hl7 (hli.below (Below.refl _ _).drew) hlv hfr)
       have HR3:=ah h3;have HK3:=ah k3;have HM3:=ah m3;clear h3 hvt m3 k3 hli hfr;go_region_with (go_at_call 22;refine HJ.out.mono ?_;rintro e w5 ⟨v5,rfl,hms,hb5⟩;have HMs:=ah hms;obtain⟨xs5,ho5,hr5⟩:=hms;obtain⟨a5,c5,rfl⟩:=aj ho5;clear ho5 hr5;have hb5':=jc hb5;have d63:=(HR3.out.below hb5').c63;have df63:=(HR3.out.below hb5').free 63;rw[hv62] at d63)
       all_goals
        obtain⟨F5,h5,p5,m5⟩:=l8.rep (HR3.out.below (Below.refl _ _).drew) hb5 HMs.out (Nat.le_refl _)
        have h6:=h5.pY _ _ p5;have HS6:Hid (Rst wA _ b bl W F2 _):=⟨W3,F5,_,h6,(HK3.out.aS hb5').mv HM3.out (h5.qo _ _),HM3.out.trans (m5.vY (Nat.le_refl _)) HK3.out.size⟩
        clear h5 p5 m5 h6;go_wp2_with fail;go_meet;exact HS6.out
      case rest =>
       have HS6:=ah hcut;obtain⟨w6,Hw6⟩:∃ x,x=wc:=⟨_,rfl⟩
       subst Hw6;clear hcut;have hM6:=hMA.kp HS6.out.kp hgW;obtain⟨x0,x1,x2,x3,x4,x5,x6,x7,x8,x9,x10,x11,x12,x13,x14,xf⟩:=hM6.all
       have HTo:=ah (wV HS6.out HGp.out.ok hPA (by rw[HGp.out.n,HL4.out.1];exact HPm.out) (Nat.le_trans HGp.out.out (by have:=HL4.out.2;omega)))
       simp only[pmC] at HTo;go_wp2_with fail;refine (HTo.out).mono ?_;rintro e w7 ⟨rfl,hs7⟩;have HS7:=ah hs7;clear hs7;have hM7:=hMA.kp HS7.out.kp hgW;obtain⟨_,_,_,_,_,_,_,_,_,_,_,_,_,_,_,_⟩:=hM7.all
       obtain⟨WX,FX,VX,hX,kX,mX⟩:=HS7.out
       have HSt:=ah (jD hX);have HKX:=ah (HKA.out _ _ _ kX mX);have HwX:=ah hX.wt;have HfX:=ah hX.wf;obtain⟨aX,cX,hvX⟩:=hX.g71
       have HvX:=ah hvX;rw[hvX] at HSt;clear hX kX mX hvX;go_wp2_with fail;refine HSt.out.mono ?_;rintro e wS ⟨rfl,hoS,kS,WS,FSs,hRS,hWS,hFS,hfS⟩;have HFin:=ah (jX.mk' HKX.out HwX.out HfX.out HvX.out hoS kS hRS hWS hFS hfS);clear hoS kS hRS hWS hFS hfS;go_wp2;go_ret;exact⟨_,HIn.out _ HTk.out.symm,HFin.out⟩
   ·refine (HC.out).mono ?_;rintro e w3 ⟨rfl,hs3⟩;have HS3:=ah hs3;clear hs3;have hM3:=hMA.kp HS3.out.kp hgW;obtain⟨_,_,_,_,_,_,_,_,_,_,_,_,_,_,_,_⟩:=hM3.all
    obtain⟨WX,FX,VX,hX,kX,mX⟩:=HS3.out
    have HSt:=ah (jD hX);have HKX:=ah (HKA.out _ _ _ kX mX);have HwX:=ah hX.wt;have HfX:=ah hX.wf;obtain⟨aX,cX,hvX⟩:=hX.g71
    have HvX:=ah hvX;rw[hvX] at HSt;clear hX kX mX hvX;go_wp2_with fail;refine HSt.out.mono ?_;rintro e wS ⟨rfl,hoS,kS,WS,FSs,hRS,hWS,hFS,hfS⟩;have HFin:=ah (jX.mk' HKX.out HwX.out HfX.out HvX.out hoS kS hRS hWS hFS hfS);clear hoS kS hRS hWS hFS hfS;go_wp2;go_ret;exact⟨_,HIn.out _ HTk.out.symm,HFin.out⟩
  ·have HTk:Hid (R.take P=R.bT P):=by unfold Hid Rp.take;rw[if_pos (.inl (by simpa using k1))]
   have HC:=ah (qQ HSA.out hR hPA (HMo.out.1 (.inl (by simpa using k1))) (.inl (by simpa using k1)) (HZ.out _) (by omega))
   simp only[pmC] at HC;go_upto_region 4 with fail
   generalize w1.alloc (.cells (pqC P al cl ag cg ao co aL cL) 68)=wA at *;obtain⟨x0,x1,x2,x3,x4,x5,x6,x7,x8,x9,x10,x11,x12,x13,x14,xf⟩:=hMA.all
   go_wp2_with fail;refine (HC.out).mono ?_;rintro e w3 ⟨rfl,hs3⟩;have HS3:=ah hs3;clear hs3;have hM3:=hMA.kp HS3.out.kp hgW;obtain⟨_,_,_,_,_,_,_,_,_,_,_,_,_,_,_,_⟩:=hM3.all
   obtain⟨WX,FX,VX,hX,kX,mX⟩:=HS3.out
   have HSt:=ah (jD hX);have HKX:=ah (HKA.out _ _ _ kX mX);have HwX:=ah hX.wt;have HfX:=ah hX.wf;obtain⟨aX,cX,hvX⟩:=hX.g71
   have HvX:=ah hvX;rw[hvX] at HSt;clear hX kX mX hvX;go_wp2_with fail;refine HSt.out.mono ?_;rintro e wS ⟨rfl,hoS,kS,WS,FSs,hRS,hWS,hFS,hfS⟩;have HFin:=ah (jX.mk' HKX.out HwX.out HfX.out HvX.out hoS kS hRS hWS hFS hfS);clear hoS kS hRS hWS hFS hfS;go_wp2;go_ret;exact⟨_,HIn.out _ HTk.out.symm,HFin.out⟩
end
end Go.Proofs.YtbnihoahhomooaaGreatDoor
