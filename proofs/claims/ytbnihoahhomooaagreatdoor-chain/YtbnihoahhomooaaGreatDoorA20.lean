import Derived.Test.YtbnihoahhomooaaGreatDoorA15
set_option maxRecDepth 100000
set_option maxHeartbeats 8000000
set_option linter.all false
namespace Go.Proofs.YtbnihoahhomooaaGreatDoor
open Go.Value renaming int→I,slice→Y,string→Z,pointer→Zp
open Go.Ending renaming returned→Zr
open _root_.ByteArray renaming empty→Ze
open Go.IntKind renaming i64→J
open Option renaming none→O
open Go.RowKit
section
variable {w w0:World} {b bl:Nat} {W F:List Nat} {R:Rp} {V:Rv} {P:Pm} {vl vg vo vL:Value}
theorem sG (h:Rst w0 w b bl W F R) (hR:Ok R) (hP:dM w0 W F P vl vg vo vL) (hm:dQ R.n P) (ho:R.out.length≤400000) (hk:P.kind=115) :
    Calls Tryz.prog 86 #[Zp (some ⟨b,0,O⟩),.agg (pmC P vl vg vo vL)] w fun e w'=>e=Zr (.tuple #[])∧Rst w0 w' b bl W F (R.aH P):=by
  obtain⟨W1,F1,V1,al,cl,ag,cg,ao,co,aL,cL,rfl,rfl,rfl,rfl,hMA,hPA,hgW,h2,HSA,HK0⟩:=h.msg hP
  clear h hP
  simp only[pmC]
  have HE:Hid (R.aH P=if R.view<P.view∨(P.view=R.view∧R.status=2) then ((R.begin_ P.view).over P.log).bZ P.commit else if P.view<R.view then (if R.status==1 then R.tell P.frm else R) else if R.dG=false∧R.log.length<P.log.length then (R.over P.log).bZ P.commit else if R.mem P.frm then R else R.bare P.frm 116):=rfl
  have HLg:=ah (Rp.lI hm (.inr (.inl hk)))
  have HGb:=ah (Rp.kP hR ⟨hm.v0,hm.v1⟩)
  have HGo:=ah (Rp.fB HGb.out.ok (l:=P.log) HLg.out)
  have HGp:=ah (Rp.fB hR (l:=P.log) HLg.out)
  clear hm hk
  by_cases q1:R.view<P.view
  · rw[if_pos (.inl q1)] at HE
    go_enter Tryz.func86,Tryz.ntmps86
    go_upto_region 1 with fail
    generalize w.alloc (.cells (pqC P al cl ag cg ao co aL cL) 68)=wA at *
    obtain⟨x0,x1,x2,x3,x4,x5,x6,x7,x8,x9,x10,x11,x12,x13,x14,xf⟩:=hMA.all
    have c3:=h2.c3
    have c5:=h2.c5
    go_quiet (fail)
    rename_i nq
    have HSq:=ah (HSA.out.drewN nq)
    have hMHSq:=hMA.kp HSq.out.kp hgW
    clear x0 x1 x2 x3 x4 x5 x6 x7 x8 x9 x10 x11 x12 x13 x14 xf c3 c5
    generalize wA.drewN nq=wq at *
    obtain⟨x0,x1,x2,x3,x4,x5,x6,x7,x8,x9,x10,x11,x12,x13,x14,xf⟩:=hMHSq.all
    go_wp2_with fail
    refine (Ak HSq.out P.view).mono ?_
    rintro e w1 ⟨rfl,hs1⟩
    have HS1:=ah hs1
    clear hs1
    have hM1:=hMA.kp HS1.out.kp hgW
    obtain⟨_,_,_,_,_,_,_,_,_,_,_,_,_,_,_,_⟩:=hM1.all
    go_wp2_with fail
    refine (lD HS1.out hPA HLg.out).mono ?_
    rintro e w2 ⟨rfl,hs2⟩
    have HS2:=ah hs2
    clear hs2
    have hM2:=hMA.kp HS2.out.kp hgW
    obtain⟨_,_,_,_,_,_,_,_,_,_,_,_,_,_,_,_⟩:=hM2.all
    go_wp2_with fail
    refine (pW HS2.out HGo.out.ok P.commit (by show R.out.length ≤ 500000; omega)).mono ?_
    rintro e w3 ⟨rfl,hs3⟩
    have HS3:=ah hs3
    clear hs3
    have hM3:=hMA.kp HS3.out.kp hgW
    obtain⟨_,_,_,_,_,_,_,_,_,_,_,_,_,_,_,_⟩:=hM3.all
    go_wp2
    exact bodyPost_end (results_none rfl _ _ _) rfl ⟨rfl, by rw [HE.out]; exact HK0.out _ _ HS3.out⟩
  · cases q2:(P.view==R.view)
    · have HE1:Hid (R.aH P=if R.status==1 then R.tell P.frm else R):=by
        unfold Hid
        have : ¬ P.view = R.view := by simpa using q2
        rw [HE.out, if_neg (by omega), if_pos (by omega)]
      have q3 : P.view < R.view := by have : ¬ P.view = R.view := by simpa using q2
                                      omega
      clear HE
      cases hs:(R.status==1)
      focus
        have HE : Hid (R.aH P = R) := by unfold Hid; rw [HE1.out, hs]; rfl
      rotate_left
      focus
        have HE : Hid (R.aH P = R.tell P.frm) := by unfold Hid; rw [HE1.out, hs]; rfl
      rotate_left
      all_goals
        clear HE1
        go_enter Tryz.func86,Tryz.ntmps86
        go_upto_region 1 with fail
        generalize w.alloc (.cells (pqC P al cl ag cg ao co aL cL) 68)=wA at *
        obtain⟨x0,x1,x2,x3,x4,x5,x6,x7,x8,x9,x10,x11,x12,x13,x14,xf⟩:=hMA.all
        have c3:=h2.c3
        have c5:=h2.c5
        go_quiet (fail)
        rename_i nq
        have HSq:=ah (HSA.out.drewN nq)
        have hMHSq:=hMA.kp HSq.out.kp hgW
        clear x0 x1 x2 x3 x4 x5 x6 x7 x8 x9 x10 x11 x12 x13 x14 xf c3 c5
        generalize wA.drewN nq=wq at *
        obtain⟨x0,x1,x2,x3,x4,x5,x6,x7,x8,x9,x10,x11,x12,x13,x14,xf⟩:=hMHSq.all
        obtain⟨_,_,VHSq,rHSq,_,_⟩:=HSq.out
        have c3:=rHSq.c3
        have c5:=rHSq.c5
        go_wp2_with fail
        go_quiet (fail)
        rename_i nq
        have HSr:=ah (HSq.out.drewN nq)
        have hMHSr:=hMA.kp HSr.out.kp hgW
        clear x0 x1 x2 x3 x4 x5 x6 x7 x8 x9 x10 x11 x12 x13 x14 xf c3 c5
        generalize wq.drewN nq=wr at *
        obtain⟨x0,x1,x2,x3,x4,x5,x6,x7,x8,x9,x10,x11,x12,x13,x14,xf⟩:=hMHSr.all
        obtain⟨_,_,VHSr,rHSr,_,_⟩:=HSr.out
        have c3:=rHSr.c3
        go_wp2_with fail
      · exact bodyPost_end (results_none rfl _ _ _) rfl ⟨rfl, by rw [HE.out]; exact HK0.out _ _ HSr.out⟩
      · refine (rY HSr.out hR P.frm (by omega)).mono ?_
        rintro e w1 ⟨rfl,hs1⟩
        have HS1:=ah hs1
        clear hs1
        have hM1:=hMA.kp HS1.out.kp hgW
        obtain⟨_,_,_,_,_,_,_,_,_,_,_,_,_,_,_,_⟩:=hM1.all
        go_wp2
        exact bodyPost_end (results_none rfl _ _ _) rfl ⟨rfl, by rw [HE.out]; exact HK0.out _ _ HS1.out⟩
    · have q4 : P.view = R.view := by simpa using q2
      have q5 : ¬ P.view < R.view := by omega
      cases hs:(R.status==2)
      · have HE1:Hid (R.aH P=if R.dG=false∧R.log.length<P.log.length then (R.over P.log).bZ P.commit else if R.mem P.frm then R else R.bare P.frm 116):=by
          unfold Hid
          have : ¬ R.status = 2 := by simpa using hs
          rw [HE.out, if_neg (by omega), if_neg (by omega)]
        clear HE q4
        cases hp:R.dG
        · by_cases q6:R.log.length<P.log.length
          · have HE : Hid (R.aH P = (R.over P.log).bZ P.commit) := by unfold Hid; rw [HE1.out, if_pos ⟨hp, q6⟩]
            clear HE1
            have q6' : (R.log.length : Int) < (P.log.length : Int) := by omega
            go_enter Tryz.func86,Tryz.ntmps86
            go_upto_region 1 with fail
            generalize w.alloc (.cells (pqC P al cl ag cg ao co aL cL) 68)=wA at *
            obtain⟨x0,x1,x2,x3,x4,x5,x6,x7,x8,x9,x10,x11,x12,x13,x14,xf⟩:=hMA.all
            have c3:=h2.c3
            have c5:=h2.c5
            go_quiet (fail)
            rename_i nq
            have HSq:=ah (HSA.out.drewN nq)
            have hMHSq:=hMA.kp HSq.out.kp hgW
            clear x0 x1 x2 x3 x4 x5 x6 x7 x8 x9 x10 x11 x12 x13 x14 xf c3 c5
            generalize wA.drewN nq=wq at *
            obtain⟨x0,x1,x2,x3,x4,x5,x6,x7,x8,x9,x10,x11,x12,x13,x14,xf⟩:=hMHSq.all
            obtain⟨_,_,VHSq,rHSq,_,_⟩:=HSq.out
            have c3:=rHSq.c3
            have c5:=rHSq.c5
            go_wp2_with fail
            go_quiet (fail)
            rename_i nq
            have HSr:=ah (HSq.out.drewN nq)
            have hMHSr:=hMA.kp HSr.out.kp hgW
            clear x0 x1 x2 x3 x4 x5 x6 x7 x8 x9 x10 x11 x12 x13 x14 xf c3 c5
            generalize wq.drewN nq=wr at *
            obtain⟨x0,x1,x2,x3,x4,x5,x6,x7,x8,x9,x10,x11,x12,x13,x14,xf⟩:=hMHSr.all
            obtain⟨_,_,VHSr,rHSr,_,_⟩:=HSr.out
            have c9:=rHSr.c9
            obtain⟨aL9,cL9,hv9⟩:=rHSr.g9
            rw[hv9] at c9
            have HPq:=ah (fun n=>jC (rHSr.drewN n) hR)
            rw[hp] at HPq
            clear rHSr
            go_wp2_with fail
            go_quiet ((go_at_call 73;exact Calls.quiet_of (HPq.out _)))
            rename_i nq
            have HSt:=ah (HSr.out.drewN nq)
            have hMt:=hMA.kp HSt.out.kp hgW
            clear x0 x1 x2 x3 x4 x5 x6 x7 x8 x9 x10 x11 x12 x13 x14 xf c9
            generalize wr.drewN nq=wt at *
            obtain⟨x0,x1,x2,x3,x4,x5,x6,x7,x8,x9,x10,x11,x12,x13,x14,xf⟩:=hMt.all
            go_wp2_with fail
            refine (lD HSt.out hPA HLg.out).mono ?_
            rintro e w1 ⟨rfl,hs1⟩
            have HS1:=ah hs1
            clear hs1
            have hM1:=hMA.kp HS1.out.kp hgW
            obtain⟨_,_,_,_,_,_,_,_,_,_,_,_,_,_,_,_⟩:=hM1.all
            go_wp2_with fail
            refine (pW HS1.out HGp.out.ok P.commit (by show R.out.length ≤ 500000; omega)).mono ?_
            rintro e w2 ⟨rfl,hs2⟩
            have HS2:=ah hs2
            clear hs2
            have hM2:=hMA.kp HS2.out.kp hgW
            obtain⟨_,_,_,_,_,_,_,_,_,_,_,_,_,_,_,_⟩:=hM2.all
            go_wp2
            exact bodyPost_end (results_none rfl _ _ _) rfl ⟨rfl, by rw [HE.out]; exact HK0.out _ _ HS2.out⟩
          · have HE2 : Hid (R.aH P = if R.mem P.frm then R else R.bare P.frm 116) := by unfold Hid; rw [HE1.out, if_neg (fun q => q6 q.2)]
            clear HE1
            have q6' : ¬ (R.log.length : Int) < (P.log.length : Int) := by omega
            cases hmem:R.mem P.frm
            focus
              have HE : Hid (R.aH P = R.bare P.frm 116) := by unfold Hid; rw [HE2.out, hmem]; rfl
            rotate_left
            focus
              have HE : Hid (R.aH P = R) := by unfold Hid; rw [HE2.out, hmem]; rfl
            rotate_left
            all_goals
              clear HE2
              go_enter Tryz.func86,Tryz.ntmps86
              go_upto_region 1 with fail
              generalize w.alloc (.cells (pqC P al cl ag cg ao co aL cL) 68)=wA at *
              obtain⟨x0,x1,x2,x3,x4,x5,x6,x7,x8,x9,x10,x11,x12,x13,x14,xf⟩:=hMA.all
              have c3:=h2.c3
              have c5:=h2.c5
              go_quiet (fail)
              rename_i nq
              have HSq:=ah (HSA.out.drewN nq)
              have hMHSq:=hMA.kp HSq.out.kp hgW
              clear x0 x1 x2 x3 x4 x5 x6 x7 x8 x9 x10 x11 x12 x13 x14 xf c3 c5
              generalize wA.drewN nq=wq at *
              obtain⟨x0,x1,x2,x3,x4,x5,x6,x7,x8,x9,x10,x11,x12,x13,x14,xf⟩:=hMHSq.all
              obtain⟨_,_,VHSq,rHSq,_,_⟩:=HSq.out
              have c3:=rHSq.c3
              have c5:=rHSq.c5
              go_wp2_with fail
              go_quiet (fail)
              rename_i nq
              have HSr:=ah (HSq.out.drewN nq)
              have hMHSr:=hMA.kp HSr.out.kp hgW
              clear x0 x1 x2 x3 x4 x5 x6 x7 x8 x9 x10 x11 x12 x13 x14 xf c3 c5
              generalize wq.drewN nq=wr at *
              obtain⟨x0,x1,x2,x3,x4,x5,x6,x7,x8,x9,x10,x11,x12,x13,x14,xf⟩:=hMHSr.all
              obtain⟨_,_,VHSr,rHSr,_,_⟩:=HSr.out
              have c9:=rHSr.c9
              obtain⟨aL9,cL9,hv9⟩:=rHSr.g9
              rw[hv9] at c9
              have HPq:=ah (fun n=>jC (rHSr.drewN n) hR)
              rw[hp] at HPq
              clear rHSr
              go_wp2_with fail
              go_quiet ((go_at_call 73;exact Calls.quiet_of (HPq.out _)))
              rename_i nq
              have HSt:=ah (HSr.out.drewN nq)
              have hMt:=hMA.kp HSt.out.kp hgW
              clear x0 x1 x2 x3 x4 x5 x6 x7 x8 x9 x10 x11 x12 x13 x14 xf c9
              generalize wr.drewN nq=wt at *
              obtain⟨x0,x1,x2,x3,x4,x5,x6,x7,x8,x9,x10,x11,x12,x13,x14,xf⟩:=hMt.all
              go_wp2_with fail
              have HM1:=ah (fT HSt.out hR P.frm)
              rw[hmem] at HM1
              refine (HM1.out).mono ?_
              rintro e w1 ⟨rfl,hs1⟩
              have HS1:=ah hs1
              clear hs1
              have hM1:=hMA.kp HS1.out.kp hgW
              obtain⟨_,_,_,_,_,_,_,_,_,_,_,_,_,_,_,_⟩:=hM1.all
              go_wp2_with fail
            · refine (fU HS1.out hR P.frm 116 (by decide) (by omega)).mono ?_
              rintro e w2 ⟨rfl,hs2⟩
              have HS2:=ah hs2
              clear hs2
              have hM2:=hMA.kp HS2.out.kp hgW
              obtain⟨_,_,_,_,_,_,_,_,_,_,_,_,_,_,_,_⟩:=hM2.all
              go_wp2
              exact bodyPost_end (results_none rfl _ _ _) rfl ⟨rfl, by rw [HE.out]; exact HK0.out _ _ HS2.out⟩
            · exact bodyPost_end (results_none rfl _ _ _) rfl ⟨rfl, by rw [HE.out]; exact HK0.out _ _ HS1.out⟩
        · have HE2 : Hid (R.aH P = if R.mem P.frm then R else R.bare P.frm 116) := by unfold Hid; rw [HE1.out, if_neg (fun q => by rw [hp] at q; exact absurd q.1 (by decide))]
          clear HE1
          cases hmem:R.mem P.frm
          focus
            have HE : Hid (R.aH P = R.bare P.frm 116) := by unfold Hid; rw [HE2.out, hmem]; rfl
          rotate_left
          focus
            have HE : Hid (R.aH P = R) := by unfold Hid; rw [HE2.out, hmem]; rfl
          rotate_left
          all_goals
            clear HE2
            go_enter Tryz.func86,Tryz.ntmps86
            go_upto_region 1 with fail
            generalize w.alloc (.cells (pqC P al cl ag cg ao co aL cL) 68)=wA at *
            obtain⟨x0,x1,x2,x3,x4,x5,x6,x7,x8,x9,x10,x11,x12,x13,x14,xf⟩:=hMA.all
            have c3:=h2.c3
            have c5:=h2.c5
            go_quiet (fail)
            rename_i nq
            have HSq:=ah (HSA.out.drewN nq)
            have hMHSq:=hMA.kp HSq.out.kp hgW
            clear x0 x1 x2 x3 x4 x5 x6 x7 x8 x9 x10 x11 x12 x13 x14 xf c3 c5
            generalize wA.drewN nq=wq at *
            obtain⟨x0,x1,x2,x3,x4,x5,x6,x7,x8,x9,x10,x11,x12,x13,x14,xf⟩:=hMHSq.all
            obtain⟨_,_,VHSq,rHSq,_,_⟩:=HSq.out
            have c3:=rHSq.c3
            have c5:=rHSq.c5
            go_wp2_with fail
            go_quiet (fail)
            rename_i nq
            have HSr:=ah (HSq.out.drewN nq)
            have hMHSr:=hMA.kp HSr.out.kp hgW
            clear x0 x1 x2 x3 x4 x5 x6 x7 x8 x9 x10 x11 x12 x13 x14 xf c3 c5
            generalize wq.drewN nq=wr at *
            obtain⟨x0,x1,x2,x3,x4,x5,x6,x7,x8,x9,x10,x11,x12,x13,x14,xf⟩:=hMHSr.all
            obtain⟨_,_,VHSr,rHSr,_,_⟩:=HSr.out
            have c9:=rHSr.c9
            obtain⟨aL9,cL9,hv9⟩:=rHSr.g9
            rw[hv9] at c9
            have HPq:=ah (fun n=>jC (rHSr.drewN n) hR)
            rw[hp] at HPq
            clear rHSr
            go_wp2_with fail
            go_quiet ((go_at_call 73;exact Calls.quiet_of (HPq.out _)))
            rename_i nq
            have HSt:=ah (HSr.out.drewN nq)
            have hMt:=hMA.kp HSt.out.kp hgW
            clear x0 x1 x2 x3 x4 x5 x6 x7 x8 x9 x10 x11 x12 x13 x14 xf c9
            generalize wr.drewN nq=wt at *
            obtain⟨x0,x1,x2,x3,x4,x5,x6,x7,x8,x9,x10,x11,x12,x13,x14,xf⟩:=hMt.all
            go_wp2_with fail
            have HM1:=ah (fT HSt.out hR P.frm)
            rw[hmem] at HM1
            refine (HM1.out).mono ?_
            rintro e w1 ⟨rfl,hs1⟩
            have HS1:=ah hs1
            clear hs1
            have hM1:=hMA.kp HS1.out.kp hgW
            obtain⟨_,_,_,_,_,_,_,_,_,_,_,_,_,_,_,_⟩:=hM1.all
            go_wp2_with fail
          · refine (fU HS1.out hR P.frm 116 (by decide) (by omega)).mono ?_
            rintro e w2 ⟨rfl,hs2⟩
            have HS2:=ah hs2
            clear hs2
            have hM2:=hMA.kp HS2.out.kp hgW
            obtain⟨_,_,_,_,_,_,_,_,_,_,_,_,_,_,_,_⟩:=hM2.all
            go_wp2
            exact bodyPost_end (results_none rfl _ _ _) rfl ⟨rfl, by rw [HE.out]; exact HK0.out _ _ HS2.out⟩
          · exact bodyPost_end (results_none rfl _ _ _) rfl ⟨rfl, by rw [HE.out]; exact HK0.out _ _ HS1.out⟩
      · have hs2 : R.status = 2 := by simpa using hs
        rw[if_pos (.inr ⟨q4,hs2⟩)] at HE
        clear hs2 q4
        go_enter Tryz.func86,Tryz.ntmps86
        go_upto_region 1 with fail
        generalize w.alloc (.cells (pqC P al cl ag cg ao co aL cL) 68)=wA at *
        obtain⟨x0,x1,x2,x3,x4,x5,x6,x7,x8,x9,x10,x11,x12,x13,x14,xf⟩:=hMA.all
        have c3:=h2.c3
        have c5:=h2.c5
        go_quiet (fail)
        rename_i nq
        have HSq:=ah (HSA.out.drewN nq)
        have hMHSq:=hMA.kp HSq.out.kp hgW
        clear x0 x1 x2 x3 x4 x5 x6 x7 x8 x9 x10 x11 x12 x13 x14 xf c3 c5
        generalize wA.drewN nq=wq at *
        obtain⟨x0,x1,x2,x3,x4,x5,x6,x7,x8,x9,x10,x11,x12,x13,x14,xf⟩:=hMHSq.all
        go_wp2_with fail
        refine (Ak HSq.out P.view).mono ?_
        rintro e w1 ⟨rfl,hs1⟩
        have HS1:=ah hs1
        clear hs1
        have hM1:=hMA.kp HS1.out.kp hgW
        obtain⟨_,_,_,_,_,_,_,_,_,_,_,_,_,_,_,_⟩:=hM1.all
        go_wp2_with fail
        refine (lD HS1.out hPA HLg.out).mono ?_
        rintro e w2 ⟨rfl,hs2⟩
        have HS2:=ah hs2
        clear hs2
        have hM2:=hMA.kp HS2.out.kp hgW
        obtain⟨_,_,_,_,_,_,_,_,_,_,_,_,_,_,_,_⟩:=hM2.all
        go_wp2_with fail
        refine (pW HS2.out HGo.out.ok P.commit (by show R.out.length ≤ 500000; omega)).mono ?_
        rintro e w3 ⟨rfl,hs3⟩
        have HS3:=ah hs3
        clear hs3
        have hM3:=hMA.kp HS3.out.kp hgW
        obtain⟨_,_,_,_,_,_,_,_,_,_,_,_,_,_,_,_⟩:=hM3.all
        go_wp2
        exact bodyPost_end (results_none rfl _ _ _) rfl ⟨rfl, by rw [HE.out]; exact HK0.out _ _ HS3.out⟩
end
section
variable {w w0:World} {b bl:Nat} {W F:List Nat} {R:Rp} {V:Rv} {P:Pm} {vl vg vo vL:Value}
theorem JV (h:Rst w0 w b bl W F R) (hR:Ok R) (ho:R.out.length≤700000) :
  Calls Tryz.prog 98 #[Zp (some ⟨b,0,O⟩)] w fun e w'=>e=Zr (.tuple #[])∧Rst w0 w' b bl W F (R.iZ):=by
 obtain⟨W1,F1,V1,h1,k1,m1⟩:=h
 have HE0:Hid (R.iZ=if R.decided=R.log.length then R.fI R.grp { R.head 99 with commit:=R.decided } else Rp.kK (R.log.length-R.decided) R ((R.decided:Int)+1)):=rfl
 have c9:=h1.c9;have c10:=h1.c10;obtain⟨aL,cL,hvL⟩:=h1.g9
 rw[hvL] at c9;have hl10:=hR.lg;have hdc:=hR.dc;have hg5:=hR.g.1;have HS0:Hid (Rst w0 w b bl W F R):=⟨W1,F1,V1,h1,k1,m1⟩
 cases hq:((R.decided:Int)==(R.log.length:Int))
 ·have hne:¬R.decided=R.log.length:=by simp at hq;omega
  have HE:Hid (R.iZ=Rp.kK (R.log.length-R.decided) R ((R.decided:Int)+1)):=by unfold Hid;rw[HE0.out,if_neg hne]
  have hw10:IntKind.i64.wrap ((R.decided:Int)+1)=(R.decided:Int)+1:=fC (by omega) (by omega)
  clear HE0 h1 k1 m1;go_enter Tryz.func98,Tryz.ntmps98;go_wp2_with fail;go_quiet (fail);rename_i nq;have HSq:=ah (HS0.out.drewN nq);clear c9;go_wp2_with fail;go_loopw [3] (fun i wr=>∃ (k:Nat) (Rk:Rp),k≤R.log.length-R.decided∧i=I J ((R.decided:Int)+1+k)∧Rst w0 wr b bl W F Rk∧Hid (Ok Rk∧Rk.log=R.log∧Rk.out.length≤R.out.length+5*k∧R.iZ=Rp.kK (R.log.length-R.decided-k) Rk ((R.decided:Int)+1+k))) (fun i _=>R.log.length+1-(intOf i).toNat)
  case atStart=>exact⟨0,R,Nat.zero_le _,by go_num,HSq.out,⟨hR,rfl,by omega,by rw[HE.out];simp⟩⟩
  case round =>
   obtain⟨k,Rk,hk,rfl,hr,HI⟩:=hrel
   have HR:=ah hr;obtain⟨WQ,FQ,VQ,hQ,_,_⟩:=hr
   have d9:=hQ.c9;obtain⟨aL2,cL2,hvL2⟩:=hQ.g9
   rw[hvL2,show Rk.log.length=R.log.length from by rw[HI.out.2.1]] at d9
   clear hQ;by_cases hlt:k<R.log.length-R.decided
   ·have j1:(R.decided:Int)+1+(k:Int)≤(R.log.length:Int):=by omega
    have hw11:IntKind.i64.wrap ((R.decided:Int)+1+(k:Int)+1)=(R.decided:Int)+1+(k:Int)+1:=fC (by omega) (by omega)
    have HSe:=ah (uX HR.out HI.out.1 ((R.decided:Int)+1+k) (by omega) (by omega) (by have:=HI.out.2.2.1;omega))
    have HG:=ah (Rp.lQ HI.out.1 ((R.decided:Int)+1+k));have HLe:Hid ((Rk.bF ((R.decided:Int)+1+k)).log=Rk.log):=by unfold Hid Rp.bF;split <;> rfl
    have HN:Hid (R.iZ=Rp.kK (R.log.length-R.decided-(k+1)) (Rk.bF ((R.decided:Int)+1+k)) ((R.decided:Int)+1+(k+1:Nat))):=by
     unfold Hid;rw[HI.out.2.2.2];obtain⟨f,hf⟩:∃ f,R.log.length-R.decided-k=f+1:=⟨R.log.length-R.decided-k-1,by omega⟩
     rw[hf,show R.log.length-R.decided-(k+1)=f by omega,show (R.decided:Int)+1+((k+1:Nat):Int)=(R.decided:Int)+1+(k:Int)+1 by omega]
     rfl
    go_wp2_with fail;refine HSe.out.mono ?_;rintro e w5 ⟨rfl,hs5⟩;have HS5:=ah hs5;clear hs5;go_wp2;go_roundw
    case rel=>exact⟨k+1,_,by omega,by rw[show (R.decided:Int)+1+((k+1:Nat):Int)=(R.decided:Int)+1+(k:Int)+1 by omega],HS5.out,⟨HG.out.ok,HLe.out.trans HI.out.2.1,by have:=HG.out.out;have:=HI.out.2.2.1;omega,HN.out⟩⟩
    case measure=>simp[intOf];omega
   ·have j1:¬(R.decided:Int)+1+(k:Int)≤(R.log.length:Int):=by omega
    have HN:Hid (R.iZ=Rk):=by
     unfold Hid;rw[HI.out.2.2.2,show R.log.length-R.decided-k=0 by omega];rfl
    go_wp2;exact bodyPost_end (results_none rfl _ _ _) rfl ⟨rfl,by rw[HN.out];exact HR.out⟩
 ·have heq:R.decided=R.log.length:=by simp at hq;omega
  have HE:Hid (R.iZ=R.fI R.grp { R.head 99 with commit:=R.decided }):=by unfold Hid;rw[HE0.out,if_pos heq]
  clear HE0 heq;obtain⟨cl,hvl⟩:=h1.g2
  obtain⟨ag,cg,hvg⟩:=h1.g7
  have H1:=ah h1;have HK1:Hid (∀ w' R',Rst w w' b bl W1 F1 R'→Rst w0 w' b bl W F R'):=fun w' R' q=>Rst.step k1 m1 q
  clear h1 k1 m1;go_enter Tryz.func98,Tryz.ntmps98;go_wp2_with fail;go_quiet (fail);rename_i nq;have hbq:Below w.heap.size w (w.drewN nq):=below_drewN (Below.refl _ w) nq
  have hQ:=H1.out.below hbq;clear c9 c10;generalize w.drewN nq=wq at *;have HH:=ah (lC hQ 99);rw[hvl] at HH;have HSO:Hid (∀ w',Below wq.heap.size wq w'→Calls Tryz.prog 124 #[Zp (some ⟨b,0,O⟩),Y ag R.grp.length cg,.agg #[I .u8 99,I J R.id,Y (some ⟨bl,0,O⟩) R.lives.length cl,I J R.epoch,I J R.view,I J 0,I J 0,I J 0,Z ⟨#[]⟩,I J (R.decided:Int),I J 0,I J 0,Y O 0 0,Y O 0 0,Y O 0 0]] w' fun e w''=>e=Zr (.tuple #[])∧Rst w0 w'' b bl W F (R.fI R.grp { R.head 99 with commit:=R.decided })):=fun w' hb=>by
   have hw:=hQ.below hb;have hh:mg w' { R.head 99 with commit:=R.decided } V1.vl (Y O 0 0) (Y O 0 0) (Y O 0 0):=⟨hw.lives.rd,gD _,gD _,qC _⟩
   have hf:=hw.frH;have hg:=hw.grp;have hgf:=hw.frS hw.sg.fr;rw[hvl] at hh hf;rw[hvg] at hg hgf;exact (jk hw _ R.grp { R.head 99 with commit:=R.decided } _ _ _ _ ((Jy hR).pw hR) hh hf hg hgf (by omega) (by omega)).mono (fun e w'' q=>⟨q.1,HK1.out _ _ (Rst.pre (Kp.of_below (hbq.trans (hb.mono hbq.size))) (Snt.rst hw q.2))⟩)
  go_wp2_with fail;refine HH.out.mono ?_;rintro e w1 ⟨rfl,hb1⟩;have h2:=hQ.below hb1;have cgr:=h2.c7;rw[hvg] at cgr;have d10:=h2.c10;have hlb:=h2.lb;have hal:=fun o=>(Below.refl w1.heap.size w1).alloc (Nat.le_refl _) o
  have m10:=fun o=>((hal o).cell (p:=⟨b,10,O⟩) hlb).trans d10
  simp only[pmC,Rp.head,pm0];clear hal h2;go_wp2_with fail;have hbF:Below w1.heap.size w1 (w1.alloc (.cells #[I .u8 99,I J R.id,Y (some ⟨bl,0,O⟩) R.lives.length cl,I J R.epoch,I J R.view,I J 0,I J 0,I J 0,Z ⟨#[]⟩,I J (R.decided:Int),I J 0,I J 0,Y O 0 0,Y O 0 0,Y O 0 0] 68)):=(Below.refl _ w1).alloc (Nat.le_refl _) _
  have hM:dw (w1.alloc (.cells #[I .u8 99,I J R.id,Y (some ⟨bl,0,O⟩) R.lives.length cl,I J R.epoch,I J R.view,I J 0,I J 0,I J 0,Z ⟨#[]⟩,I J (R.decided:Int),I J 0,I J 0,Y O 0 0,Y O 0 0,Y O 0 0] 68)) w1.heap.size #[I .u8 99,I J R.id,Y (some ⟨bl,0,O⟩) R.lives.length cl,I J R.epoch,I J R.view,I J 0,I J 0,I J 0,Z ⟨#[]⟩,I J (R.decided:Int),I J 0,I J 0,Y O 0 0,Y O 0 0,Y O 0 0]:=⟨rfl,heap_alloc_new w1 _⟩
  have hb0D:Below wq.heap.size wq (w1.alloc (.cells #[I .u8 99,I J R.id,Y (some ⟨bl,0,O⟩) R.lives.length cl,I J R.epoch,I J R.view,I J 0,I J 0,I J 0,Z ⟨#[]⟩,I J (R.decided:Int),I J 0,I J 0,Y O 0 0,Y O 0 0,Y O 0 0] 68)).drew:=hb1.trans (hbF.drew.mono hb1.size)
  have HS2:=ah (HSO.out _ hb0D);have cg7:=((hbF).cell (p:=⟨b,7,O⟩) hlb).trans cgr;obtain⟨x0,x1,x2,x3,x4,x5,x6,x7,x8,x9,x10,x11,x12,x13,x14,xf⟩:=hM.all
  clear hbF hM hb0D m10;generalize w1.alloc (.cells #[I .u8 99,I J R.id,Y (some ⟨bl,0,O⟩) R.lives.length cl,I J R.epoch,I J R.view,I J 0,I J 0,I J 0,Z ⟨#[]⟩,I J (R.decided:Int),I J 0,I J 0,Y O 0 0,Y O 0 0,Y O 0 0] 68)=w2 at *;go_region_with (go_at_call 124;refine HS2.out.mono ?_;rintro r w3 ⟨rfl,hs3⟩)
  all_goals
   have HS:=ah hs3;clear hs3;go_wp2;exact bodyPost_ret (results_none rfl _ _ _) rfl ⟨rfl,by rw[HE.out];exact HS.out⟩
theorem Pk (h:Rst w0 w b bl W F R) (hR:Ok R) (ho:R.out.length≤700000) :
  Calls Tryz.prog 101 #[Zp (some ⟨b,0,O⟩)] w fun e w'=>e=Zr (.tuple #[])∧Rst w0 w' b bl W F (R.ask):=by
 obtain⟨nn,hnn⟩:∃ m:Nat,R.n=m:=⟨R.n.toNat,by have:=hR.n3;omega⟩
 have n7:nn≤7:=by have:=hR.n7;omega
 have HL:Hid (R.ask=(List.range nn).foldl Rp.oW R):=by unfold Hid Rp.ask;rw[hnn];rfl
 have HS:Hid (∀ k,(List.range (k+1)).foldl Rp.oW R=Rp.oW ((List.range k).foldl Rp.oW R) k):=fun k=>by rw[List.range_succ,List.foldl_append];rfl
 have HG:Hid (∀ k,Gd R ((List.range k).foldl Rp.oW R) k):=fun k=>by have:=Rp.CQ (List.range k) R hR;simpa using this
 have Hn:=ah hnn;clear hnn;go_enter Tryz.func101,Tryz.ntmps101;go_wp2_with fail;go_loopw [2] (fun i wr=>∃ k:Nat,k≤nn∧i=I J k∧Rst w0 wr b bl W F ((List.range k).foldl Rp.oW R)) (fun i _=>nn-(intOf i).toNat)
 case atStart=>exact⟨0,Nat.zero_le _,rfl,h⟩
 case round =>
  obtain⟨k,hk,rfl,hr⟩:=hrel
  have HR:=ah hr;have HGk:=ah (HG.out k);have HSk:=ah (HS.out k);obtain⟨WQ,FQ,VQ,hQ,_,_⟩:=hr
  have c0:=hQ.c0;have c1:=hQ.c1;rw[HGk.out.id] at c0;rw[HGk.out.n,Hn.out] at c1;clear hQ;have HRk:Hid (∃ x,x=(List.range k).foldl Rp.oW R):=⟨_,rfl⟩
  obtain⟨Rk,hRk⟩:=HRk.out
  have HRe:=ah hRk;rw[← hRk] at HR HGk HSk;clear hRk HRk;by_cases hlt:k<nn
  ·have j1:(k:Int)<(nn:Int):=by omega
   have HA:Hid (Rp.oW Rk k=if (k:Int) != Rk.id then Rk.bare k 114 else Rk):=rfl
   rw[HGk.out.id] at HA;cases hq:((k:Int)==R.id)
   ·have hne:((k:Int) != R.id)=true:=by simp[bne,hq]
    rw[hne,if_pos rfl] at HA;go_wp2_with fail;refine (fU HR.out HGk.out.ok k 114 (by decide) (by have:=HGk.out.out;omega)).mono ?_
    rintro e w2 ⟨rfl,hs2⟩;have HS2:=ah hs2;clear hs2;go_wp2;go_roundw
    case rel=>exact⟨k+1,by omega,by go_num,by rw[HSk.out,HA.out];exact HS2.out⟩
    case measure=>simp[intOf];omega
   ·have hne:((k:Int) != R.id)=false:=by simp[bne,hq]
    rw[hne,if_neg (by decide)] at HA
    go_wp2;go_roundw
    case rel=>exact⟨k+1,by omega,by go_num,by rw[HSk.out,HA.out];exact HR.out⟩
    case measure=>simp[intOf];omega
  ·have j1:¬(k:Int)<(nn:Int):=by omega
   have hkn:k=nn:=by omega
   have HF:Hid (R.ask=Rk):=by unfold Hid;rw[HL.out,← hkn];exact HRe.out.symm
   go_wp2;exact bodyPost_end (results_none rfl _ _ _) rfl ⟨rfl,by rw[HF.out];exact HR.out⟩
end
end Go.Proofs.YtbnihoahhomooaaGreatDoor
