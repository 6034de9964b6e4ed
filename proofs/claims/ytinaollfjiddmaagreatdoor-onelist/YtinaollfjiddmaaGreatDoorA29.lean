import Derived.Test.YtinaollfjiddmaaGreatDoorA14
set_option maxRecDepth 100000
set_option maxHeartbeats 8000000
set_option linter.all false
namespace Go.Proofs.YtinaollfjiddmaaGreatDoor
open Go.Value renaming int→I,slice→Y,string→Z,pointer→Zp
open Go.Ending renaming returned→Zr
open _root_.ByteArray renaming empty→Ze
open Go.IntKind renaming i64→J
open Option renaming none→O
open Go.RowKit
section
variable {w w0:World} {b bl:Nat} {W F:List Nat} {R:Rp} {V:Rv} {P:Pm} {vl vg vo vL:Value}
theorem sW (h:Rst w0 w b bl W F R) (hR:Ok R) (hP:dX w0 W F P vl vg vo vL) (hm:dF R.n P) (ho:R.out.length≤400000) (hk:P.kind=115) :
    Calls Tryz.prog 85 #[Zp (some ⟨b,0,O⟩),.agg (pmC P vl vg vo vL)] w fun e w'=>e=Zr (.tuple #[])∧Rst w0 w' b bl W F (R.aF P):=by
  obtain⟨W1,F1,V1,al,cl,ag,cg,ao,co,aL,cL,rfl,rfl,rfl,rfl,hMA,hPA,hgW,h2,HSA,HK0⟩:=h.msg hP
  clear h hP
  simp only[pmC]
  have HE:Hid (R.aF P=if R.view<P.view∨(P.view=R.view∧R.status=2) then ((R.begin_ P.view).over P.log).bY P.commit else if P.view<R.view then (if R.status==1 then R.tell P.frm else R) else if R.dG=false∧R.log.length<P.log.length then (R.over P.log).bY P.commit else if R.mem P.frm then R else R.bare P.frm 116):=rfl
  have HLg:=ah (Rp.jN hm (.inr (.inl hk)))
  have HGb:=ah (Rp.jO hR ⟨hm.v0,hm.v1⟩)
  have HGo:=ah (Rp.eu HGb.out.ok (l:=P.log) HLg.out)
  have HGp:=ah (Rp.eu hR (l:=P.log) HLg.out)
  clear hm hk
  by_cases q1:R.view<P.view
  · rw[if_pos (.inl q1)] at HE
    go_enter Tryz.func85,Tryz.ntmps85
    go_upto_region 1 with fail
    generalize w.alloc (.cells (pqC P al cl ag cg ao co aL cL) 68)=wA at *
    obtain⟨x0,x1,x2,x3,x4,x5,x6,x7,x8,x9,x10,x11,x12,x13,x14,xf⟩:=hMA.all
    have c3:=h2.c3
    have c5:=h2.c5
    go_quiet (fail)
    rename_i nq
    have HSq:=ah (HSA.out.drewN nq)
    have hMHSq:=hMA.kp HSq.out.kp hgW
    clear x0 x1 x2 x3 x4 x5 x6 x7 x8 x9 x10 x11 x12 x13 x14 xf c3 c5
    generalize wA.drewN nq=wq at *
    obtain⟨x0,x1,x2,x3,x4,x5,x6,x7,x8,x9,x10,x11,x12,x13,x14,xf⟩:=hMHSq.all
    go_wp2_with fail
    refine (Aw HSq.out P.view).mono ?_
    rintro e w1 ⟨rfl,hs1⟩
    have HS1:=ah hs1
    clear hs1
    have hM1:=hMA.kp HS1.out.kp hgW
    obtain⟨_,_,_,_,_,_,_,_,_,_,_,_,_,_,_,_⟩:=hM1.all
    go_wp2_with fail
    refine (lZ HS1.out hPA HLg.out).mono ?_
    rintro e w2 ⟨rfl,hs2⟩
    have HS2:=ah hs2
    clear hs2
    have hM2:=hMA.kp HS2.out.kp hgW
    obtain⟨_,_,_,_,_,_,_,_,_,_,_,_,_,_,_,_⟩:=hM2.all
    go_wp2_with fail
    refine (qw HS2.out HGo.out.ok P.commit (by show R.out.length ≤ 500000; omega)).mono ?_
    rintro e w3 ⟨rfl,hs3⟩
    have HS3:=ah hs3
    clear hs3
    have hM3:=hMA.kp HS3.out.kp hgW
    obtain⟨_,_,_,_,_,_,_,_,_,_,_,_,_,_,_,_⟩:=hM3.all
    go_wp2
    exact bodyPost_end (results_none rfl _ _ _) rfl ⟨rfl, by rw [HE.out]; exact HK0.out _ _ HS3.out⟩
  · cases q2:(P.view==R.view)
    · have HE1:Hid (R.aF P=if R.status==1 then R.tell P.frm else R):=by
        unfold Hid
        have : ¬ P.view = R.view := by simpa using q2
        rw [HE.out, if_neg (by omega), if_pos (by omega)]
      have q3 : P.view < R.view := by have : ¬ P.view = R.view := by simpa using q2
                                      omega
      clear HE
      cases hs:(R.status==1)
      focus
        have HE : Hid (R.aF P = R) := by unfold Hid; rw [HE1.out, hs]; rfl
      rotate_left
      focus
        have HE : Hid (R.aF P = R.tell P.frm) := by unfold Hid; rw [HE1.out, hs]; rfl
      rotate_left
      all_goals
        clear HE1
        go_enter Tryz.func85,Tryz.ntmps85
        go_upto_region 1 with fail
        generalize w.alloc (.cells (pqC P al cl ag cg ao co aL cL) 68)=wA at *
        obtain⟨x0,x1,x2,x3,x4,x5,x6,x7,x8,x9,x10,x11,x12,x13,x14,xf⟩:=hMA.all
        have c3:=h2.c3
        have c5:=h2.c5
        go_quiet (fail)
        rename_i nq
        have HSq:=ah (HSA.out.drewN nq)
        have hMHSq:=hMA.kp HSq.out.kp hgW
        clear x0 x1 x2 x3 x4 x5 x6 x7 x8 x9 x10 x11 x12 x13 x14 xf c3 c5
        generalize wA.drewN nq=wq at *
        obtain⟨x0,x1,x2,x3,x4,x5,x6,x7,x8,x9,x10,x11,x12,x13,x14,xf⟩:=hMHSq.all
        obtain⟨_,_,VHSq,rHSq,_,_⟩:=HSq.out
        have c3:=rHSq.c3
        have c5:=rHSq.c5
        go_wp2_with fail
        go_quiet (fail)
        rename_i nq
        have HSr:=ah (HSq.out.drewN nq)
        have hMHSr:=hMA.kp HSr.out.kp hgW
        clear x0 x1 x2 x3 x4 x5 x6 x7 x8 x9 x10 x11 x12 x13 x14 xf c3 c5
        generalize wq.drewN nq=wr at *
        obtain⟨x0,x1,x2,x3,x4,x5,x6,x7,x8,x9,x10,x11,x12,x13,x14,xf⟩:=hMHSr.all
        obtain⟨_,_,VHSr,rHSr,_,_⟩:=HSr.out
        have c3:=rHSr.c3
        go_wp2_with fail
      · exact bodyPost_end (results_none rfl _ _ _) rfl ⟨rfl, by rw [HE.out]; exact HK0.out _ _ HSr.out⟩
      · refine (sN HSr.out hR P.frm (by omega)).mono ?_
        rintro e w1 ⟨rfl,hs1⟩
        have HS1:=ah hs1
        clear hs1
        have hM1:=hMA.kp HS1.out.kp hgW
        obtain⟨_,_,_,_,_,_,_,_,_,_,_,_,_,_,_,_⟩:=hM1.all
        go_wp2
        exact bodyPost_end (results_none rfl _ _ _) rfl ⟨rfl, by rw [HE.out]; exact HK0.out _ _ HS1.out⟩
    · have q4 : P.view = R.view := by simpa using q2
      have q5 : ¬ P.view < R.view := by omega
      cases hs:(R.status==2)
      · have HE1:Hid (R.aF P=if R.dG=false∧R.log.length<P.log.length then (R.over P.log).bY P.commit else if R.mem P.frm then R else R.bare P.frm 116):=by
          unfold Hid
          have : ¬ R.status = 2 := by simpa using hs
          rw [HE.out, if_neg (by omega), if_neg (by omega)]
        clear HE q4
        cases hp:R.dG
        · by_cases q6:R.log.length<P.log.length
          · have HE : Hid (R.aF P = (R.over P.log).bY P.commit) := by unfold Hid; rw [HE1.out, if_pos ⟨hp, q6⟩]
            clear HE1
            have q6' : (R.log.length : Int) < (P.log.length : Int) := by omega
            go_enter Tryz.func85,Tryz.ntmps85
            go_upto_region 1 with fail
            generalize w.alloc (.cells (pqC P al cl ag cg ao co aL cL) 68)=wA at *
            obtain⟨x0,x1,x2,x3,x4,x5,x6,x7,x8,x9,x10,x11,x12,x13,x14,xf⟩:=hMA.all
            have c3:=h2.c3
            have c5:=h2.c5
            go_quiet (fail)
            rename_i nq
            have HSq:=ah (HSA.out.drewN nq)
            have hMHSq:=hMA.kp HSq.out.kp hgW
            clear x0 x1 x2 x3 x4 x5 x6 x7 x8 x9 x10 x11 x12 x13 x14 xf c3 c5
            generalize wA.drewN nq=wq at *
            obtain⟨x0,x1,x2,x3,x4,x5,x6,x7,x8,x9,x10,x11,x12,x13,x14,xf⟩:=hMHSq.all
            obtain⟨_,_,VHSq,rHSq,_,_⟩:=HSq.out
            have c3:=rHSq.c3
            have c5:=rHSq.c5
            go_wp2_with fail
            go_quiet (fail)
            rename_i nq
            have HSr:=ah (HSq.out.drewN nq)
            have hMHSr:=hMA.kp HSr.out.kp hgW
            clear x0 x1 x2 x3 x4 x5 x6 x7 x8 x9 x10 x11 x12 x13 x14 xf c3 c5
            generalize wq.drewN nq=wr at *
            obtain⟨x0,x1,x2,x3,x4,x5,x6,x7,x8,x9,x10,x11,x12,x13,x14,xf⟩:=hMHSr.all
            obtain⟨_,_,VHSr,rHSr,_,_⟩:=HSr.out
            have c9:=rHSr.c9
            obtain⟨aL9,cL9,hv9⟩:=rHSr.g9
            rw[hv9] at c9
            have HPq:=ah (fun n=>jR (rHSr.drewN n) hR)
            rw[hp] at HPq
            clear rHSr
            go_wp2_with fail
            go_quiet ((go_at_call 72;exact Calls.quiet_of (HPq.out _)))
            rename_i nq
            have HSt:=ah (HSr.out.drewN nq)
            have hMt:=hMA.kp HSt.out.kp hgW
            clear x0 x1 x2 x3 x4 x5 x6 x7 x8 x9 x10 x11 x12 x13 x14 xf c9
            generalize wr.drewN nq=wt at *
            obtain⟨x0,x1,x2,x3,x4,x5,x6,x7,x8,x9,x10,x11,x12,x13,x14,xf⟩:=hMt.all
            go_wp2_with fail
            refine (lZ HSt.out hPA HLg.out).mono ?_
            rintro e w1 ⟨rfl,hs1⟩
            have HS1:=ah hs1
            clear hs1
            have hM1:=hMA.kp HS1.out.kp hgW
            obtain⟨_,_,_,_,_,_,_,_,_,_,_,_,_,_,_,_⟩:=hM1.all
            go_wp2_with fail
            refine (qw HS1.out HGp.out.ok P.commit (by show R.out.length ≤ 500000; omega)).mono ?_
            rintro e w2 ⟨rfl,hs2⟩
            have HS2:=ah hs2
            clear hs2
            have hM2:=hMA.kp HS2.out.kp hgW
            obtain⟨_,_,_,_,_,_,_,_,_,_,_,_,_,_,_,_⟩:=hM2.all
            go_wp2
            exact bodyPost_end (results_none rfl _ _ _) rfl ⟨rfl, by rw [HE.out]; exact HK0.out _ _ HS2.out⟩
          · have HE2 : Hid (R.aF P = if R.mem P.frm then R else R.bare P.frm 116) := by unfold Hid; rw [HE1.out, if_neg (fun q => q6 q.2)]
            clear HE1
            have q6' : ¬ (R.log.length : Int) < (P.log.length : Int) := by omega
            cases hmem:R.mem P.frm
            focus
              have HE : Hid (R.aF P = R.bare P.frm 116) := by unfold Hid; rw [HE2.out, hmem]; rfl
            rotate_left
            focus
              have HE : Hid (R.aF P = R) := by unfold Hid; rw [HE2.out, hmem]; rfl
            rotate_left
            all_goals
              clear HE2
              go_enter Tryz.func85,Tryz.ntmps85
              go_upto_region 1 with fail
              generalize w.alloc (.cells (pqC P al cl ag cg ao co aL cL) 68)=wA at *
              obtain⟨x0,x1,x2,x3,x4,x5,x6,x7,x8,x9,x10,x11,x12,x13,x14,xf⟩:=hMA.all
              have c3:=h2.c3
              have c5:=h2.c5
              go_quiet (fail)
              rename_i nq
              have HSq:=ah (HSA.out.drewN nq)
              have hMHSq:=hMA.kp HSq.out.kp hgW
              clear x0 x1 x2 x3 x4 x5 x6 x7 x8 x9 x10 x11 x12 x13 x14 xf c3 c5
              generalize wA.drewN nq=wq at *
              obtain⟨x0,x1,x2,x3,x4,x5,x6,x7,x8,x9,x10,x11,x12,x13,x14,xf⟩:=hMHSq.all
              obtain⟨_,_,VHSq,rHSq,_,_⟩:=HSq.out
              have c3:=rHSq.c3
              have c5:=rHSq.c5
              go_wp2_with fail
              go_quiet (fail)
              rename_i nq
              have HSr:=ah (HSq.out.drewN nq)
              have hMHSr:=hMA.kp HSr.out.kp hgW
              clear x0 x1 x2 x3 x4 x5 x6 x7 x8 x9 x10 x11 x12 x13 x14 xf c3 c5
              generalize wq.drewN nq=wr at *
              obtain⟨x0,x1,x2,x3,x4,x5,x6,x7,x8,x9,x10,x11,x12,x13,x14,xf⟩:=hMHSr.all
              obtain⟨_,_,VHSr,rHSr,_,_⟩:=HSr.out
              have c9:=rHSr.c9
              obtain⟨aL9,cL9,hv9⟩:=rHSr.g9
              rw[hv9] at c9
              have HPq:=ah (fun n=>jR (rHSr.drewN n) hR)
              rw[hp] at HPq
              clear rHSr
              go_wp2_with fail
              go_quiet ((go_at_call 72;exact Calls.quiet_of (HPq.out _)))
              rename_i nq
              have HSt:=ah (HSr.out.drewN nq)
              have hMt:=hMA.kp HSt.out.kp hgW
              clear x0 x1 x2 x3 x4 x5 x6 x7 x8 x9 x10 x11 x12 x13 x14 xf c9
              generalize wr.drewN nq=wt at *
              obtain⟨x0,x1,x2,x3,x4,x5,x6,x7,x8,x9,x10,x11,x12,x13,x14,xf⟩:=hMt.all
              go_wp2_with fail
              have HM1:=ah (gB HSt.out hR P.frm)
              rw[hmem] at HM1
              refine (HM1.out).mono ?_
              rintro e w1 ⟨rfl,hs1⟩
              have HS1:=ah hs1
              clear hs1
              have hM1:=hMA.kp HS1.out.kp hgW
              obtain⟨_,_,_,_,_,_,_,_,_,_,_,_,_,_,_,_⟩:=hM1.all
              go_wp2_with fail
            · refine (gD HS1.out hR P.frm 116 (by decide) (by omega)).mono ?_
              rintro e w2 ⟨rfl,hs2⟩
              have HS2:=ah hs2
              clear hs2
              have hM2:=hMA.kp HS2.out.kp hgW
              obtain⟨_,_,_,_,_,_,_,_,_,_,_,_,_,_,_,_⟩:=hM2.all
              go_wp2
              exact bodyPost_end (results_none rfl _ _ _) rfl ⟨rfl, by rw [HE.out]; exact HK0.out _ _ HS2.out⟩
            · exact bodyPost_end (results_none rfl _ _ _) rfl ⟨rfl, by rw [HE.out]; exact HK0.out _ _ HS1.out⟩
        · have HE2 : Hid (R.aF P = if R.mem P.frm then R else R.bare P.frm 116) := by unfold Hid; rw [HE1.out, if_neg (fun q => by rw [hp] at q; exact absurd q.1 (by decide))]
          clear HE1
          cases hmem:R.mem P.frm
          focus
            have HE : Hid (R.aF P = R.bare P.frm 116) := by unfold Hid; rw [HE2.out, hmem]; rfl
          rotate_left
          focus
            have HE : Hid (R.aF P = R) := by unfold Hid; rw [HE2.out, hmem]; rfl
          rotate_left
          all_goals
            clear HE2
            go_enter Tryz.func85,Tryz.ntmps85
            go_upto_region 1 with fail
            generalize w.alloc (.cells (pqC P al cl ag cg ao co aL cL) 68)=wA at *
            obtain⟨x0,x1,x2,x3,x4,x5,x6,x7,x8,x9,x10,x11,x12,x13,x14,xf⟩:=hMA.all
            have c3:=h2.c3
            have c5:=h2.c5
            go_quiet (fail)
            rename_i nq
            have HSq:=ah (HSA.out.drewN nq)
            have hMHSq:=hMA.kp HSq.out.kp hgW
            clear x0 x1 x2 x3 x4 x5 x6 x7 x8 x9 x10 x11 x12 x13 x14 xf c3 c5
            generalize wA.drewN nq=wq at *
            obtain⟨x0,x1,x2,x3,x4,x5,x6,x7,x8,x9,x10,x11,x12,x13,x14,xf⟩:=hMHSq.all
            obtain⟨_,_,VHSq,rHSq,_,_⟩:=HSq.out
            have c3:=rHSq.c3
            have c5:=rHSq.c5
            go_wp2_with fail
            go_quiet (fail)
            rename_i nq
            have HSr:=ah (HSq.out.drewN nq)
            have hMHSr:=hMA.kp HSr.out.kp hgW
            clear x0 x1 x2 x3 x4 x5 x6 x7 x8 x9 x10 x11 x12 x13 x14 xf c3 c5
            generalize wq.drewN nq=wr at *
            obtain⟨x0,x1,x2,x3,x4,x5,x6,x7,x8,x9,x10,x11,x12,x13,x14,xf⟩:=hMHSr.all
            obtain⟨_,_,VHSr,rHSr,_,_⟩:=HSr.out
            have c9:=rHSr.c9
            obtain⟨aL9,cL9,hv9⟩:=rHSr.g9
            rw[hv9] at c9
            have HPq:=ah (fun n=>jR (rHSr.drewN n) hR)
            rw[hp] at HPq
            clear rHSr
            go_wp2_with fail
            go_quiet ((go_at_call 72;exact Calls.quiet_of (HPq.out _)))
            rename_i nq
            have HSt:=ah (HSr.out.drewN nq)
            have hMt:=hMA.kp HSt.out.kp hgW
            clear x0 x1 x2 x3 x4 x5 x6 x7 x8 x9 x10 x11 x12 x13 x14 xf c9
            generalize wr.drewN nq=wt at *
            obtain⟨x0,x1,x2,x3,x4,x5,x6,x7,x8,x9,x10,x11,x12,x13,x14,xf⟩:=hMt.all
            go_wp2_with fail
            have HM1:=ah (gB HSt.out hR P.frm)
            rw[hmem] at HM1
            refine (HM1.out).mono ?_
            rintro e w1 ⟨rfl,hs1⟩
            have HS1:=ah hs1
            clear hs1
            have hM1:=hMA.kp HS1.out.kp hgW
            obtain⟨_,_,_,_,_,_,_,_,_,_,_,_,_,_,_,_⟩:=hM1.all
            go_wp2_with fail
          · refine (gD HS1.out hR P.frm 116 (by decide) (by omega)).mono ?_
            rintro e w2 ⟨rfl,hs2⟩
            have HS2:=ah hs2
            clear hs2
            have hM2:=hMA.kp HS2.out.kp hgW
            obtain⟨_,_,_,_,_,_,_,_,_,_,_,_,_,_,_,_⟩:=hM2.all
            go_wp2
            exact bodyPost_end (results_none rfl _ _ _) rfl ⟨rfl, by rw [HE.out]; exact HK0.out _ _ HS2.out⟩
          · exact bodyPost_end (results_none rfl _ _ _) rfl ⟨rfl, by rw [HE.out]; exact HK0.out _ _ HS1.out⟩
      · have hs2 : R.status = 2 := by simpa using hs
        rw[if_pos (.inr ⟨q4,hs2⟩)] at HE
        clear hs2 q4
        go_enter Tryz.func85,Tryz.ntmps85
        go_upto_region 1 with fail
        generalize w.alloc (.cells (pqC P al cl ag cg ao co aL cL) 68)=wA at *
        obtain⟨x0,x1,x2,x3,x4,x5,x6,x7,x8,x9,x10,x11,x12,x13,x14,xf⟩:=hMA.all
        have c3:=h2.c3
        have c5:=h2.c5
        go_quiet (fail)
        rename_i nq
        have HSq:=ah (HSA.out.drewN nq)
        have hMHSq:=hMA.kp HSq.out.kp hgW
        clear x0 x1 x2 x3 x4 x5 x6 x7 x8 x9 x10 x11 x12 x13 x14 xf c3 c5
        generalize wA.drewN nq=wq at *
        obtain⟨x0,x1,x2,x3,x4,x5,x6,x7,x8,x9,x10,x11,x12,x13,x14,xf⟩:=hMHSq.all
        go_wp2_with fail
        refine (Aw HSq.out P.view).mono ?_
        rintro e w1 ⟨rfl,hs1⟩
        have HS1:=ah hs1
        clear hs1
        have hM1:=hMA.kp HS1.out.kp hgW
        obtain⟨_,_,_,_,_,_,_,_,_,_,_,_,_,_,_,_⟩:=hM1.all
        go_wp2_with fail
        refine (lZ HS1.out hPA HLg.out).mono ?_
        rintro e w2 ⟨rfl,hs2⟩
        have HS2:=ah hs2
        clear hs2
        have hM2:=hMA.kp HS2.out.kp hgW
        obtain⟨_,_,_,_,_,_,_,_,_,_,_,_,_,_,_,_⟩:=hM2.all
        go_wp2_with fail
        refine (qw HS2.out HGo.out.ok P.commit (by show R.out.length ≤ 500000; omega)).mono ?_
        rintro e w3 ⟨rfl,hs3⟩
        have HS3:=ah hs3
        clear hs3
        have hM3:=hMA.kp HS3.out.kp hgW
        obtain⟨_,_,_,_,_,_,_,_,_,_,_,_,_,_,_,_⟩:=hM3.all
        go_wp2
        exact bodyPost_end (results_none rfl _ _ _) rfl ⟨rfl, by rw [HE.out]; exact HK0.out _ _ HS3.out⟩
end
section
variable {w w0:World} {b bl:Nat} {W F:List Nat} {R:Rp} {V:Rv} {P:Pm} {vl vg vo vL:Value}
theorem DR (h:Rst w0 w b bl W F R) (hR:Ok R) (hP:dX w0 W F P vl vg vo vL) (hm:dF R.n P) (ho:R.out.length≤500000) (hk:P.kind=112) :
  Calls Tryz.prog 141 #[Zp (some ⟨b,0,O⟩),.agg (pmC P vl vg vo vL)] w fun e w'=>e=Zr (.tuple #[])∧Rst w0 w' b bl W F (R.dI P):=by
 obtain⟨W1,F1,V1,al,cl,ag,cg,ao,co,aL,cL,rfl,rfl,rfl,rfl,j,bm,k,h2,an,ai⟩:=h.msg hP
 clear h hP;simp only[pmC];obtain⟨i0,hi,av,aw,ax⟩:=info_parts Tryz.infoEnt
 have ap:Hid (R.dI P=if P.frm=R.gZ then (if (R.log.length:Int)+1<P.place then R.bare P.frm 103 else if P.place=(R.log.length:Int)+1 then (if R.closing then R else (({ R with log:=R.log++[P.ent] }:Rp).ack P.frm).aV P.commit) else (R.ack P.frm).aV P.commit) else R):=rfl
 have bk:=hR.lg;have bn:IntKind.i64.wrap ((R.log.length:Int)+1)=(R.log.length:Int)+1:=gq (by omega) (by omega)
 have bc:=ah (hm.pl (.inl hk));have bd:=ah (hm.en hk);have az:=ah (Rp.l9 hR P.frm);clear hm hk;cases hq:(P.frm==R.gZ)
 ·have be:(P.frm != R.gZ)=true:=by simp[bne,hq]
  have HE:Hid (R.dI P=R):=by unfold Hid;rw[ap.out,if_neg (by simpa using hq)]
  clear ap;go_enter Tryz.func141,Tryz.ntmps141;go_upto_region 1 with fail
  generalize w.alloc (.cells (pqC P al cl ag cg ao co aL cL) 68)=wA at *;obtain⟨v,y,z,A,B,C,D,E,G,H,a,c,d,f,g,K⟩:=j.all
  have V:=ah (fun n=>jf (h2.drewN n) hR)
  go_wp2_with fail;go_quiet ((go_at_call 120;exact Calls.quiet_of (V.out _)))
  rename_i nq;have o:=ah (an.out.drewN nq);have r:=j.kp o.out.kp k;clear v y z A B C D E G H a c d f g K;generalize wA.drewN nq=wq at *;obtain⟨v,y,z,A,B,C,D,E,G,H,a,c,d,f,g,K⟩:=r.all
  obtain⟨_,_,ak,i,_,_⟩:=o.out
  have c9:=i.c9;obtain⟨s,t,l⟩:=i.g9
  rw[l] at c9;clear i;go_wp2;exact bodyPost_ret (results_none rfl _ _ _) rfl ⟨rfl,by rw[HE.out];exact ai.out _ _ o.out⟩
 ·have be:(P.frm != R.gZ)=false:=by simp[bne,hq]
  have ae:Hid (R.dI P=if (R.log.length:Int)+1<P.place then R.bare P.frm 103 else if P.place=(R.log.length:Int)+1 then (if R.closing then R else (({ R with log:=R.log++[P.ent] }:Rp).ack P.frm).aV P.commit) else (R.ack P.frm).aV P.commit):=by unfold Hid;rw[ap.out,if_pos (by simpa using hq)]
  clear ap;by_cases q1:(R.log.length:Int)+1<P.place
  ·have HE:Hid (R.dI P=R.bare P.frm 103):=by unfold Hid;rw[ae.out,if_pos q1]
   clear ae;go_enter Tryz.func141,Tryz.ntmps141;go_upto_region 1 with fail
   generalize w.alloc (.cells (pqC P al cl ag cg ao co aL cL) 68)=wA at *;obtain⟨v,y,z,A,B,C,D,E,G,H,a,c,d,f,g,K⟩:=j.all
   have V:=ah (fun n=>jf (h2.drewN n) hR)
   go_wp2_with fail;go_quiet ((go_at_call 120;exact Calls.quiet_of (V.out _)))
   rename_i nq;have o:=ah (an.out.drewN nq);have r:=j.kp o.out.kp k;clear v y z A B C D E G H a c d f g K;generalize wA.drewN nq=wq at *;obtain⟨v,y,z,A,B,C,D,E,G,H,a,c,d,f,g,K⟩:=r.all
   obtain⟨_,_,ak,i,_,_⟩:=o.out
   have c9:=i.c9;obtain⟨s,t,l⟩:=i.g9
   rw[l] at c9;clear i;go_wp2_with fail;go_quiet (fail);rename_i nq;have M:=ah (o.out.drewN nq);have N:=j.kp M.out.kp k;clear v y z A B C D E G H a c d f g K c9;generalize wq.drewN nq=wr at *;obtain⟨v,y,z,A,B,C,D,E,G,H,a,c,d,f,g,K⟩:=N.all
   obtain⟨_,_,aq,m,_,_⟩:=M.out
   have c9:=m.c9;obtain⟨s,t,l⟩:=m.g9
   rw[l] at c9;clear m;go_wp2_with fail;refine (gD M.out hR P.frm 103 (by decide) (by omega)).mono ?_
   rintro e Q ⟨rfl,L⟩;have T:=ah L;clear L;have X:=j.kp T.out.kp k;obtain⟨_,_,_,_,_,_,_,_,_,_,_,_,_,_,_,_⟩:=X.all
   go_wp2;exact bodyPost_ret (results_none rfl _ _ _) rfl ⟨rfl,by rw[HE.out];exact ai.out _ _ T.out⟩
  ·cases q2:(P.place==(R.log.length:Int)+1)
   ·have HE:Hid (R.dI P=(R.ack P.frm).aV P.commit):=by unfold Hid;rw[ae.out,if_neg q1,if_neg (by simpa using q2)]
    clear ae;go_enter Tryz.func141,Tryz.ntmps141;go_upto_region 1 with fail
    generalize w.alloc (.cells (pqC P al cl ag cg ao co aL cL) 68)=wA at *;obtain⟨v,y,z,A,B,C,D,E,G,H,a,c,d,f,g,K⟩:=j.all
    have V:=ah (fun n=>jf (h2.drewN n) hR)
    go_wp2_with fail;go_quiet ((go_at_call 120;exact Calls.quiet_of (V.out _)))
    rename_i nq;have o:=ah (an.out.drewN nq);have r:=j.kp o.out.kp k;clear v y z A B C D E G H a c d f g K;generalize wA.drewN nq=wq at *;obtain⟨v,y,z,A,B,C,D,E,G,H,a,c,d,f,g,K⟩:=r.all
    obtain⟨_,_,ak,i,_,_⟩:=o.out
    have c9:=i.c9;obtain⟨s,t,l⟩:=i.g9
    rw[l] at c9;clear i;go_wp2_with fail;go_quiet (fail);rename_i nq;have M:=ah (o.out.drewN nq);have N:=j.kp M.out.kp k;clear v y z A B C D E G H a c d f g K c9;generalize wq.drewN nq=wr at *;obtain⟨v,y,z,A,B,C,D,E,G,H,a,c,d,f,g,K⟩:=N.all
    obtain⟨_,_,aq,m,_,_⟩:=M.out
    have c9:=m.c9;obtain⟨s,t,l⟩:=m.g9
    rw[l] at c9;clear m;go_wp2_with fail;go_quiet (fail);rename_i nq;have aa:=ah (M.out.drewN nq);have ab:=j.kp aa.out.kp k;clear v y z A B C D E G H a c d f g K c9;generalize wr.drewN nq=wt at *;obtain⟨v,y,z,A,B,C,D,E,G,H,a,c,d,f,g,K⟩:=ab.all
    obtain⟨_,_,a0,S,_,_⟩:=aa.out
    have c9:=S.c9;obtain⟨s,t,l⟩:=S.g9
    rw[l] at c9;clear S;go_wp2_with fail;refine (DN aa.out hR P.frm (by omega)).mono ?_
    rintro e Q ⟨rfl,L⟩;have T:=ah L;clear L;have X:=j.kp T.out.kp k;obtain⟨_,_,_,_,_,_,_,_,_,_,_,_,_,_,_,_⟩:=X.all
    go_wp2_with fail;refine (iX T.out az.out.ok P.commit (Nat.le_trans az.out.out (by omega))).mono ?_
    rintro e w2 ⟨rfl,a1⟩;have a2:=ah a1;clear a1;have bg:=j.kp a2.out.kp k;obtain⟨_,_,_,_,_,_,_,_,_,_,_,_,_,_,_,_⟩:=bg.all
    go_wp2;exact bodyPost_end (results_none rfl _ _ _) rfl ⟨rfl,by rw[HE.out];exact ai.out _ _ a2.out⟩
   ·have a3:Hid (P.place=(R.log.length:Int)+1):=ah (by simpa using q2)
    have ar:Hid (R.dI P=if R.closing then R else (({ R with log:=R.log++[P.ent] }:Rp).ack P.frm).aV P.commit):=by unfold Hid;rw[ae.out,if_neg q1,if_pos a3.out]
    clear ae;cases hcl:R.closing
    focus
     have HE:Hid (R.dI P=(({ R with log:=R.log++[P.ent] }:Rp).ack P.frm).aV P.commit):=by unfold Hid;rw[ar.out,hcl];rfl
     have a4:=ah (Rp.qd hR bd.out (by have:=bc.out.2;have:=a3.out;omega))
     have a5:=ah (Rp.l9 a4.out P.frm)
    rotate_left
    focus
     have HE:Hid (R.dI P=R):=by unfold Hid;rw[ar.out,hcl];rfl
    rotate_left
    all_goals
     clear ar;go_enter Tryz.func141,Tryz.ntmps141;go_upto_region 1 with fail
     generalize w.alloc (.cells (pqC P al cl ag cg ao co aL cL) 68)=wA at *;obtain⟨v,y,z,A,B,C,D,E,G,H,a,c,d,f,g,K⟩:=j.all
     have V:=ah (fun n=>jf (h2.drewN n) hR)
     go_wp2_with fail;go_quiet ((go_at_call 120;exact Calls.quiet_of (V.out _)))
     rename_i nq;have o:=ah (an.out.drewN nq);have r:=j.kp o.out.kp k;clear v y z A B C D E G H a c d f g K;generalize wA.drewN nq=wq at *;obtain⟨v,y,z,A,B,C,D,E,G,H,a,c,d,f,g,K⟩:=r.all
     obtain⟨_,_,ak,i,_,_⟩:=o.out
     have c9:=i.c9;obtain⟨s,t,l⟩:=i.g9
     rw[l] at c9;clear i;go_wp2_with fail;go_quiet (fail);rename_i nq;have M:=ah (o.out.drewN nq);have N:=j.kp M.out.kp k;clear v y z A B C D E G H a c d f g K c9;generalize wq.drewN nq=wr at *;obtain⟨v,y,z,A,B,C,D,E,G,H,a,c,d,f,g,K⟩:=N.all
     obtain⟨_,_,aq,m,_,_⟩:=M.out
     have c9:=m.c9;obtain⟨s,t,l⟩:=m.g9
     rw[l] at c9;clear m;go_wp2_with fail;go_quiet (fail);rename_i nq;have aa:=ah (M.out.drewN nq);have ab:=j.kp aa.out.kp k;clear v y z A B C D E G H a c d f g K c9;generalize wr.drewN nq=wt at *;obtain⟨v,y,z,A,B,C,D,E,G,H,a,c,d,f,g,K⟩:=ab.all
     obtain⟨_,_,a0,S,_,_⟩:=aa.out
     have c9:=S.c9;obtain⟨s,t,l⟩:=S.g9
     rw[l] at c9;clear S;have HC:=ah (qx aa.out hR);rw[hcl] at HC;go_wp2_with fail
    ·refine HC.out.mono ?_;rintro e Q ⟨rfl,L⟩;have T:=ah L;have X:=j.kp L.kp k;clear L v y z A B C D E G H a c d f g K c9;obtain⟨v,y,z,A,B,C,D,E,G,H,a,c,d,f,g,K⟩:=X.all
     obtain⟨WZ,FZ,VZ,hZ,kZ,mZ⟩:=T.out
     have c9:=hZ.c9;have f9:=hZ.free 9;obtain⟨s,t,am⟩:=hZ.g9
     have U:=hZ.log;rw[am] at c9 U;go_wp2_with fail;have ac:some b≠(Y s R.log.length t).ownBlock:=nD U hZ.block (by decide)
     have ad:b<Q.heap.size:=hZ.lb
     have bo:=World.new_ne Q ⟨b,9,O⟩ c9;go_region_law (first|(refine step_append_lies (w:=(Q.alloc (.cells #[I J P.ent.1,I J P.ent.2.1,Z P.ent.2.2] 66)).drew) (by rfl) (.tmp 37) (.tmp 40) 47 (by rfl) 0 66 i0 (.agg #[I J 0,I J 0,Z Ze]) 3 32 Tryz.underlying47 hi av aw ax rfl (by decide) (Y s R.log.length t) R.log.length (aA R.log) (by rfl) (dh (U.alloc _) (Below.refl _ _).drew) ⟨Q.heap.size,0,O⟩ 1 1 [I J P.ent.1,I J P.ent.2.1,Z P.ent.2.2] (by rfl) (by rfl) (World.news_of_block (show ((Q.alloc (.cells #[I J P.ent.1,I J P.ent.2.1,Z P.ent.2.2] 66)).drew).heap[Q.heap.size]? = _ from heap_alloc_new Q (.cells #[I J P.ent.1,I J P.ent.2.1,Z P.ent.2.2] 66))) (by intro u hu;simp at hu;rcases hu with rfl|rfl|rfl <;> rfl) (by decide) (by unfold maxLen;omega) (by omega) (Nat.zero_le _) (Q.heap.size+1) (by simp) ?_;intro g4 cap4 w4 hown4 hg4 hat4 hlt4;have af:Below Q.heap.size Q ((Q.alloc (.cells #[I J P.ent.1,I J P.ent.2.1,Z P.ent.2.2] 66)).drew):=(((Below.refl _ Q).alloc (Nat.le_refl _) _).drew);have t9:w4.cell? ⟨b,9,O⟩=some (Y s R.log.length t):=(hg4.cell_far ⟨b,9,O⟩ (by simp;omega) ac).trans ((af.cell (p:=⟨b,9,O⟩) ad).trans c9);have g9:w4.frozen? ⟨b,9,O⟩=false:=(hg4.frozen_far ⟨b,9,O⟩ (by simp;omega) ac).trans ((af.frozen (p:=⟨b,9,O⟩) ad).trans f9))|(refine step_append_lies (w:=Q.drew.alloc (.cells #[I J P.ent.1,I J P.ent.2.1,Z P.ent.2.2] 66)) (by rfl) (.tmp 37) (.tmp 40) 47 (by rfl) 0 66 i0 (.agg #[I J 0,I J 0,Z Ze]) 3 32 Tryz.underlying47 hi av aw ax rfl (by decide) (Y s R.log.length t) R.log.length (aA R.log) (by rfl) ((dh U (Below.refl _ _).drew).alloc _) ⟨Q.heap.size,0,O⟩ 1 1 [I J P.ent.1,I J P.ent.2.1,Z P.ent.2.2] (by rfl) (by rfl) (World.news_of_block (heap_alloc_new Q.drew (.cells #[I J P.ent.1,I J P.ent.2.1,Z P.ent.2.2] 66))) (by intro u hu;simp at hu;rcases hu with rfl|rfl|rfl <;> rfl) (by decide) (by unfold maxLen;omega) (by omega) (Nat.zero_le _) (Q.heap.size+1) (by simp) ?_;intro g4 cap4 w4 hown4 hg4 hat4 hlt4;have af:Below Q.heap.size Q (Q.drew.alloc (.cells #[I J P.ent.1,I J P.ent.2.1,Z P.ent.2.2] 66)):=((Below.refl _ Q).drew.alloc (Nat.le_refl _) _);have t9:w4.cell? ⟨b,9,O⟩=some (Y s R.log.length t):=(hg4.cell_far ⟨b,9,O⟩ (by simp;omega) ac).trans ((af.cell (p:=⟨b,9,O⟩) ad).trans c9);have g9:w4.frozen? ⟨b,9,O⟩=false:=(hg4.frozen_far ⟨b,9,O⟩ (by simp;omega) ac).trans ((af.frozen (p:=⟨b,9,O⟩) ad).trans f9)))
     all_goals
      have e2:aA (R.log++[P.ent])=aA R.log++[I J P.ent.1,I J P.ent.2.1,Z P.ent.2.2]:=by simp[aA]
      have a6:w4.ownsRow 0 66 3 (Y (some ⟨g4,0,O⟩) (R.log.length+1) cap4) (R.log.length+1) (aA (R.log++[P.ent])):=by rw[e2];exact hown4
      have a7:=ah (Rst.step kZ mZ (hZ.IU (x:=P.ent) af (by rw[am];exact hg4) a6 (by rw[am];exact hat4.imp (fun q=>q) (fun q=>by omega))))
      clear a6 e2;clear v y z A B C D E G H a c d f g K;have bh:=j.kp a7.out.kp k;generalize w4.setCell ⟨b,9,O⟩ (Y (some ⟨g4,0,O⟩) (R.log.length+1) cap4)=w5 at *;obtain⟨v,y,z,A,B,C,D,E,G,H,a,c,d,f,g,K⟩:=bh.all
      go_wp2_with fail;refine (DN a7.out a4.out P.frm (by show R.out.length≤900000;omega)).mono ?_
      rintro e w6 ⟨rfl,a8⟩;have a9:=ah a8;clear a8;have bi:=j.kp a9.out.kp k;obtain⟨_,_,_,_,_,_,_,_,_,_,_,_,_,_,_,_⟩:=bi.all
      go_wp2_with fail;refine (iX a9.out a5.out.ok P.commit (Nat.le_trans a5.out.out (by show R.out.length+1≤600000;omega))).mono ?_
      rintro e w7 ⟨rfl,ba⟩;have bb:=ah ba;clear ba;have bj:=j.kp bb.out.kp k;obtain⟨_,_,_,_,_,_,_,_,_,_,_,_,_,_,_,_⟩:=bj.all
      go_wp2;exact bodyPost_end (results_none rfl _ _ _) rfl ⟨rfl,by rw[HE.out];exact ai.out _ _ bb.out⟩
    ·refine (HC.out).mono ?_;rintro e Q ⟨rfl,L⟩;have T:=ah L;clear L;have X:=j.kp T.out.kp k;obtain⟨_,_,_,_,_,_,_,_,_,_,_,_,_,_,_,_⟩:=X.all
     go_wp2;exact bodyPost_ret (results_none rfl _ _ _) rfl ⟨rfl,by rw[HE.out];exact ai.out _ _ T.out⟩
end
section
variable {w w0:World} {b bl:Nat} {W F:List Nat} {R:Rp} {V:Rv} {P:Pm} {vl vg vo vL:Value}
theorem BI (l:List Bool) (k:Nat) (hk:k<l.length):Rp.starters (l.take (k+1))=Rp.starters (l.take k)+(if l[k]=true then 1 else 0):=by
 unfold Rp.starters;rw[List.take_succ_eq_append_getElem hk,List.countP_append,List.countP_singleton]
theorem DJ (h:au w b bl W F R V):Calls Tryz.prog 88 #[Zp (some ⟨b,0,O⟩)] w fun e w'=>e=Zr (I J (Rp.starters R.started:Int))∧w'=w:=by
 have g:=h.st;have j:Hid (∀ k (d:k<R.started.length),Rp.starters (R.started.take (k+1))=Rp.starters (R.started.take k)+(if R.started[k]=true then 1 else 0)):=BI R.started
 have m:Hid (Rp.starters (R.started.take 7)=Rp.starters R.started):=by unfold Hid;rw[← g,List.take_length]
 have n:Hid (∀ k,Rp.starters (R.started.take k)≤7):=fun k=>by
  have:=List.countP_le_length (p:=fun x=>x) (l:=R.started.take k)
  unfold Rp.starters;rw[List.length_take] at this;omega
 have HC:Hid (∀ k (d:k<7),w.cell? ⟨b,64+k,O⟩=some (.bool (R.started[k]'(by rw[g];exact d)))):=fun k d=>h.cst k d
 go_enter Tryz.func88,Tryz.ntmps88;go_wp2_with fail;go_loop [3,4] (fun c i=>∃ k:Nat,k≤7∧i=I J k∧c=I J (Rp.starters (R.started.take k):Int)) (fun _ i=>7-(intOf i).toNat)
 case atStart=>exact⟨0,Nat.zero_le _,rfl,by simp[Rp.starters]⟩
 case round =>
  obtain⟨k,d,rfl,rfl⟩:=hrel
  by_cases f:k<7
  ·have ck:=HC.out k f;have q:(0:Int)≤(k:Int):=by omega
   have r:(k:Int)<7:=by omega
   have o:=n.out k;have a:=ah (j.out k (by omega))
   generalize Rp.starters (R.started.take k)=s at *;cases hq:R.started[k]'(by omega)
   ·rw[hq] at ck a;go_wp2_with fail;go_round
    case rel=>exact⟨k+1,by omega,by go_num,by rw[a.out];simp⟩
    case measure=>simp[intOf];omega
   ·rw[hq] at ck a;go_wp2_with fail;go_round
    case rel=>exact⟨k+1,by omega,by go_num,by rw[a.out];go_num⟩
    case measure=>simp[intOf];omega
  ·obtain rfl:k=7:=by omega
   rw[m.out];go_wp2;go_ret;exact⟨rfl,rfl⟩
theorem drewN_drewN (w:World) (a c:Nat):(w.drewN a).drewN c=w.drewN (a+c):=by unfold World.drewN;simp[Nat.add_assoc]
theorem CU (h:au w b bl W F R V) {q:Int} (h0:0≤q) (h7:q<7):w.cell? ⟨b,55+q.toNat,O⟩=some (I J (R.acks.getD q.toNat 0)):=by
 have:=h.ak
 rw[h.sS q.toNat (by omega)]
 simp[List.getD,List.getElem?_eq_getElem (show q.toNat<R.acks.length by omega)]
theorem CS (g:List Int) (id place:Int) (acks:List Int) (k:Nat) (hk:k<g.length):(g.take (k+1)).countP (fun x=>(x != id)&&decide (place≤acks.getD x.toNat 0))=(g.take k).countP (fun x=>(x != id)&&decide (place≤acks.getD x.toNat 0))+(if ((g[k] != id)&&decide (place≤acks.getD g[k].toNat 0))=true then 1 else 0):=by
 rw[List.take_succ_eq_append_getElem hk,List.countP_append,List.countP_singleton]
theorem Fb (h:au w b bl W F R V) (hR:Ok R) (place:Int):Calls Tryz.prog 173 #[Zp (some ⟨b,0,O⟩),I J place] w fun e w'=>e=Zr (I J (R.kE place:Int))∧∃ n,w'=w.drewN n:=by
 have D:=hR.g.1;have z:=hR.g.2;have E:=hR.n7;obtain⟨T,G,f⟩:=h.g7
 have A:=h.grp;rw[f] at A;have H:Hid (∀ k (K:k<R.grp.length),(R.grp.take (k+1)).countP (fun x=>(x != R.id)&&decide (place≤R.acks.getD x.toNat 0))=(R.grp.take k).countP (fun x=>(x != R.id)&&decide (place≤R.acks.getD x.toNat 0))+(if ((R.grp[k] != R.id)&&decide (place≤R.acks.getD R.grp[k].toNat 0))=true then 1 else 0)):=CS R.grp R.id place R.acks
 have L:Hid ((R.grp.take R.grp.length).countP (fun x=>(x != R.id)&&decide (place≤R.acks.getD x.toNat 0))=R.kE place):=by unfold Hid Rp.kE;rw[List.take_length]
 have M:Hid (∀ k,(R.grp.take k).countP (fun x=>(x != R.id)&&decide (place≤R.acks.getD x.toNat 0))≤5):=fun k=>by
  have:=List.countP_le_length (p:=fun x=>(x != R.id)&&decide (place≤R.acks.getD x.toNat 0)) (l:=R.grp.take k)
  rw[List.length_take] at this;omega
 have N:=ah h;clear h;go_enter Tryz.func173,Tryz.ntmps173;go_wp2_with fail;go_loopw [5,6] (fun c i wr=>∃ (k:Nat) (n:Nat),k≤R.grp.length∧i=I J k∧c=I J (((R.grp.take k).countP (fun x=>(x != R.id)&&decide (place≤R.acks.getD x.toNat 0)):Nat):Int)∧wr=w.drewN n) (fun _ i _=>R.grp.length-(intOf i).toNat)
 case atStart=>exact⟨0,0,Nat.zero_le _,rfl,rfl,rfl⟩
 case round =>
  obtain⟨k,n,K,rfl,rfl,j⟩:=hrel
  have t:au wr b bl W F R V:=by rw[j];exact N.out.drewN n
  have B:=ah j;have U:=ah t;clear j;have c0:=t.c0;have c7:=t.c7;rw[f] at c7;by_cases u:k<R.grp.length
  ·have o:=t.grp;rw[f] at o;obtain⟨X,o3,rfl,C,z3⟩:=o.get k u
   have gk:=z R.grp[k] (List.getElem_mem _);have ca:=CU t (q:=R.grp[k]) gk.1 (by omega)
   have j1:(0:Int)≤(k:Int):=by omega
   have j2:(k:Int)<(R.grp.length:Int):=by omega
   have j3:(0:Int)≤R.grp[k]:=gk.1
   have j4:R.grp[k]<7:=by omega
   have P:=M.out k;have r:=ah (H.out k u);generalize (R.grp.take k).countP (fun x=>(x != R.id)&&decide (place≤R.acks.getD x.toNat 0))=sk at *
   clear t o gk;generalize R.acks.getD R.grp[k].toNat 0=Q at *;have s:Hid (∀ y,∃ m,(wr.drewN y)=w.drewN m):=fun y=>⟨n+y,by rw[B.out];exact drewN_drewN w n y⟩
   cases hq:(R.grp[k]==R.id)
   ·have a:(R.grp[k] != R.id)=true:=by simp[bne,hq]
    by_cases S:place≤Q
    ·go_wp2_with fail;go_quiet (fail);rename_i nq;obtain⟨m,d⟩:=s.out nq
     have v:=ah d;clear d;go_wp2;go_roundw
     case rel=>exact⟨k+1,m,by omega,by go_num,by rw[r.out,a,decide_eq_true S];go_num,v.out⟩
     case measure=>simp[intOf];omega
    ·go_wp2_with fail;go_quiet (fail);rename_i nq;obtain⟨m,d⟩:=s.out nq
     have v:=ah d;clear d;go_wp2;go_roundw
     case rel=>exact⟨k+1,m,by omega,by go_num,by rw[r.out,a,decide_eq_false (by omega)];simp,v.out⟩
     case measure=>simp[intOf];omega
   ·have a:(R.grp[k] != R.id)=false:=by simp[bne,hq]
    go_wp2_with fail;go_quiet (fail);rename_i nq;obtain⟨m,d⟩:=s.out nq
    have v:=ah d;clear d;go_wp2;go_roundw
    case rel=>exact⟨k+1,m,by omega,by go_num,by rw[r.out,a];simp,v.out⟩
    case measure=>simp[intOf];omega
  ·obtain rfl:k=R.grp.length:=by omega
   rw[L.out];go_wp2;go_ret;exact⟨rfl,n,B.out⟩
end
section
variable {w w0:World} {b bl:Nat} {W F:List Nat} {R:Rp} {V:Rv} {P:Pm} {vl vg vo vL:Value}
theorem D7 (r:Rp) (k:Nat):r.kC (k+1)=if eP r.grp≤(r.kE ((k:Int)+1):Int) then (k:Int)+1 else r.kC k:=rfl
theorem Kl (h:au w b bl W F R V) (hR:Ok R):Calls Tryz.prog 163 #[Zp (some ⟨b,0,O⟩)] w fun e w'=>e=Zr (I J R.oO)∧∃ n,w'=w.drewN n:=by
 have A:=hR.g.1;have x:=hR.lg;have c7:=h.c7;have c9:=h.c9;obtain⟨Q,B,p⟩:=h.g7
 obtain⟨C,D,r⟩:=h.g9
 have a:=h.grp;rw[p] at a c7;rw[r] at c9;have s:=ah (ql _ R.grp w a (by omega))
 have E:Hid (∀ (k n:Nat),Calls Tryz.prog 173 #[Zp (some ⟨b,0,O⟩),I J (k:Int)] (w.drewN n) fun e w'=>e=Zr (I J (R.kE (k:Int):Int))∧∃ m,w'=w.drewN m):=fun k n=>(Fb (h.drewN n) hR k).mono (fun e w' q=>⟨q.1,by obtain⟨m,o⟩:=q.2;exact⟨n+m,by rw[o];exact drewN_drewN w n m⟩⟩)
 have G:Hid (∀ k:Nat,R.kC (k+1)=if eP R.grp≤(R.kE (((k+1:Nat)):Int):Int) then ((k+1:Nat):Int) else R.kC k):=fun k=>by
  rw[D7,show (((k+1:Nat)):Int)=(k:Int)+1 by omega]
 have H:Hid (R.kC 0=0):=rfl
 have K:Hid (R.oO=R.kC R.log.length):=rfl
 clear a h;go_enter Tryz.func163,Tryz.ntmps163;go_wp2_with fail;refine s.out.mono ?_;rintro e L ⟨rfl,t⟩;subst t;go_wp2_with fail;go_loopw [4] (fun i wr=>∃ (k:Nat) (n:Nat),k≤R.log.length∧i=I J k∧R.oO=R.kC k∧wr=L.drewN n) (fun i _=>(intOf i).toNat)
 case atStart=>exact⟨R.log.length,0,Nat.le_refl _,rfl,K.out,rfl⟩
 case round =>
  obtain⟨k,n,S,rfl,d,c⟩:=hrel
  have u:=ah d;clear d;by_cases M:k=0
  ·subst M;have f:Hid (R.oO=0):=by unfold Hid;rw[u.out,H.out]
   have N:=ah c;clear c;go_wp2;go_ret;exact⟨oz f.out.symm,n,N.out⟩
  ·obtain⟨j,rfl⟩:∃ j,k=j+1:=⟨k-1,by omega⟩
   subst c;have T:(0:Int)<((j+1:Nat):Int):=by omega
   have v:=ah (E.out (j+1) n);have l:=ah (G.out j);go_wp2_with fail;refine v.out.mono ?_;rintro e U ⟨rfl,m,o⟩;have y:=ah o;clear o;generalize R.kE (((j+1:Nat)):Int)=P at *;by_cases z:eP R.grp≤(P:Int)
   ·have f:Hid (R.oO=((j+1:Nat):Int)):=by unfold Hid;rw[u.out,l.out,if_pos z]
    go_wp2;go_ret;exact⟨oz f.out.symm,m,y.out⟩
   ·have f:Hid (R.oO=R.kC j):=by unfold Hid;rw[u.out,l.out,if_neg z]
    go_wp2;go_roundw
    case rel=>exact⟨j,m,by omega,by go_num,f.out,y.out⟩
    case measure=>simp[intOf]
theorem Fv (h:Rst w0 w b bl W F R) (hR:Ok R):Calls Tryz.prog 163 #[Zp (some ⟨b,0,O⟩)] w fun e w'=>e=Zr (I J R.oO)∧Rst w0 w' b bl W F R :=
 h.get fun _ _ _ a=>(Kl a hR).mono (fun _ _ q=>⟨q.1,by obtain⟨n,c⟩:=q.2;rw[c];exact below_drewN (Below.refl _ _) n⟩)
theorem Ih (h:Rst w0 w b bl W F R) (hR:Ok R) (hP:dX w0 W F P vl vg vo vL) (hm:dF R.n P) (ho:R.out.length≤500000)  :
  Calls Tryz.prog 143 #[Zp (some ⟨b,0,O⟩),.agg (pmC P vl vg vo vL)] w fun e w'=>e=Zr (.tuple #[])∧Rst w0 w' b bl W F (R.fZ P):=by
 obtain⟨W1,F1,V1,al,cl,ag,cg,ao,co,aL,cL,rfl,rfl,rfl,rfl,m,aq,K,Q,S,L⟩:=h.msg hP
 clear h hP;simp only[pmC];have o:Hid (R.fZ P=if R.leads=true∧P.place≤(R.log.length:Int) then (R.fq P.frm.toNat P.place).aV (R.fq P.frm.toNat P.place).oO else R):=rfl
 have f0:=hm.f0;have f7:P.frm<7:=by have:=hm.f1;have:=hR.n7;omega
 have M:=ah (Rp.oZ hR P.frm.toNat P.place);have N:Hid (R.fq P.frm.toNat P.place=if R.acks.getD P.frm.toNat 0<P.place then { R with acks:=R.acks.set P.frm.toNat P.place } else R):=rfl
 have D:=ah (fun n=>xM (Q.drewN n) hR)
 clear hm;cases hl:R.leads
 ·have T:Hid (R.fZ P=R):=by unfold Hid;rw[o.out,hl,if_neg (fun q=>absurd q.1 (by decide))]
  rw[hl] at D;clear o;go_enter Tryz.func143,Tryz.ntmps143;go_upto_region 1 with fail
  generalize w.alloc (.cells (pqC P al cl ag cg ao co aL cL) 68)=U at *;obtain⟨p,r,s,t,u,x,y,z,A,B,a,c,d,f,g,C⟩:=m.all
  have c9:=Q.c9;obtain⟨X,aa,E⟩:=Q.g9
  rw[E] at c9;go_wp2_with fail;go_quiet ((go_at_call 41;exact Calls.quiet_of (D.out _)))
  rename_i nq;have j:=ah (S.out.drewN nq);have i:=m.kp j.out.kp K;clear p r s t u x y z A B a c d f g C c9;generalize U.drewN nq=wq at *;obtain⟨p,r,s,t,u,x,y,z,A,B,a,c,d,f,g,C⟩:=i.all
  go_wp2;exact bodyPost_ret (results_none rfl _ _ _) rfl ⟨rfl,by rw[T.out];exact L.out _ _ j.out⟩
 ·rw[hl] at D;by_cases hp:P.place≤(R.log.length:Int)
  ·have T:Hid (R.fZ P=(R.fq P.frm.toNat P.place).aV (R.fq P.frm.toNat P.place).oO):=by unfold Hid;rw[o.out,if_pos ⟨hl,hp⟩]
   clear o;by_cases ha:R.acks.getD P.frm.toNat 0<P.place
   focus
    rw[if_pos ha] at N
   rotate_left
   focus
    rw[if_neg ha] at N
   rotate_left
   all_goals
    go_enter Tryz.func143,Tryz.ntmps143;go_upto_region 1 with fail
    generalize w.alloc (.cells (pqC P al cl ag cg ao co aL cL) 68)=U at *;obtain⟨p,r,s,t,u,x,y,z,A,B,a,c,d,f,g,C⟩:=m.all
    have c9:=Q.c9;obtain⟨X,aa,E⟩:=Q.g9
    rw[E] at c9;go_wp2_with fail;go_quiet ((go_at_call 41;exact Calls.quiet_of (D.out _)))
    rename_i nq;have j:=ah (S.out.drewN nq);have i:=m.kp j.out.kp K;clear p r s t u x y z A B a c d f g C c9;generalize U.drewN nq=wq at *;obtain⟨p,r,s,t,u,x,y,z,A,B,a,c,d,f,g,C⟩:=i.all
    obtain⟨WQ,FQ,VQ,hQ,kQ,mQ⟩:=j.out
    have V:=CU hQ (q:=P.frm) f0 f7;have cf:=hQ.free (55+P.frm.toNat);have HQ:=ah hQ;have ad:=ah kQ;have ae:=ah mQ;clear hQ kQ mQ;generalize hak:R.acks.getD P.frm.toNat 0=ak at *;clear hak;go_wp2_with fail;go_quiet (fail);rename_i nq;have ab:=ah (j.out.drewN nq);have af:=m.kp ab.out.kp K
   ·have hr:=HQ.out.drewN nq;have ac:=ad.out.aS (below_drewN (Below.refl _ wq) nq);clear p r s t u x y z A B a c d f g C V cf;generalize wq.drewN nq=wr at *;obtain⟨p,r,s,t,u,x,y,z,A,B,a,c,d,f,g,C⟩:=af.all
    have V:∃ v,wr.cell? ⟨b,55+P.frm.toNat,O⟩=some v:=⟨_,CU hr (q:=P.frm) f0 f7⟩
    obtain⟨va,V⟩:=V
    have cf:=hr.free (55+P.frm.toNat);have h9:=hr.fq P.frm.toNat (by omega) P.place
    have ai:Hid (Rst U (wr.setCell ⟨b,55+P.frm.toNat,O⟩ (I J P.place)) b bl W1 F1 (R.fq P.frm.toNat P.place)):=by rw[N.out];exact Rst.step ac ae.out (Rst.of h9 (hr.qI _ _))
    clear h9 hr ac;go_upto_region 3 with fail
    go_cut [] from 5 (fun wx=>Rst U wx b bl W1 F1 (R.fq P.frm.toNat P.place))
    case first =>
     go_region
     all_goals go_wp2_with fail
     all_goals go_meet
     all_goals exact ai.out.drew
    case rest =>
     have am:=ah hcut;clear hcut p r s t u x y z A B a c d f g C V cf;go_wp2_with fail;refine (Fv am.out M.out.ok).mono ?_;rintro e an ⟨rfl,k⟩;have G:=ah k;clear k;go_wp2_with fail;refine (iX G.out M.out.ok _ (Nat.le_trans M.out.out (by omega))).mono ?_
     rintro e ap ⟨rfl,l⟩;have H:=ah l;clear l;go_wp2;exact bodyPost_end (results_none rfl _ _ _) rfl ⟨rfl,by rw[T.out];exact L.out _ _ H.out⟩
   ·rw[N.out] at T M;clear p r s t u x y z A B a c d f g C V cf;generalize wq.drewN nq=wr at *;go_wp2_with fail;refine (Fv ab.out hR).mono ?_;rintro e an ⟨rfl,k⟩;have G:=ah k;clear k;go_wp2_with fail;refine (iX G.out hR _ (by omega)).mono ?_
    rintro e ap ⟨rfl,l⟩;have H:=ah l;clear l;go_wp2;exact bodyPost_end (results_none rfl _ _ _) rfl ⟨rfl,by rw[T.out];exact L.out _ _ H.out⟩
  ·have T:Hid (R.fZ P=R):=by unfold Hid;rw[o.out,if_neg (fun q=>hp q.2)]
   clear o;go_enter Tryz.func143,Tryz.ntmps143;go_upto_region 1 with fail
   generalize w.alloc (.cells (pqC P al cl ag cg ao co aL cL) 68)=U at *;obtain⟨p,r,s,t,u,x,y,z,A,B,a,c,d,f,g,C⟩:=m.all
   have c9:=Q.c9;obtain⟨X,aa,E⟩:=Q.g9
   rw[E] at c9;go_wp2_with fail;go_quiet ((go_at_call 41;exact Calls.quiet_of (D.out _)))
   rename_i nq;have j:=ah (S.out.drewN nq);have i:=m.kp j.out.kp K;clear p r s t u x y z A B a c d f g C c9;generalize U.drewN nq=wq at *;obtain⟨p,r,s,t,u,x,y,z,A,B,a,c,d,f,g,C⟩:=i.all
   go_wp2;exact bodyPost_ret (results_none rfl _ _ _) rfl ⟨rfl,by rw[T.out];exact L.out _ _ j.out⟩
end
end Go.Proofs.YtinaollfjiddmaaGreatDoor
