import Derived.Test.YtajakaadgagejaaGreatDoorA11
import Derived.Test.YtajakaadgagejaaGreatDoorA13
set_option maxRecDepth 100000
set_option maxHeartbeats 8000000
set_option linter.unusedVariables false
set_option linter.unusedSimpArgs false
set_option linter.unusedSectionVars false
namespace Go.Proofs.YtajakaadgagejaaGreatDoor
open Go.Value renaming int→I,slice→Y,string→Z,pointer→Zp
open Go.Ending renaming returned→Zr
open _root_.ByteArray renaming empty→Ze
open Go.IntKind renaming i64→J
open Option renaming none→O
open Go.RowKit
namespace Rp
theorem BR (r:Rp) (p:Int):r.bF p=if (r.decided:Int)<p∧r.decided<r.log.length then
  (if (r.carried (r.log.getD r.decided (0,0,⟨#[]⟩))).turns (r.log.getD r.decided (0,0,⟨#[]⟩)) then (r.carried (r.log.getD r.decided (0,0,⟨#[]⟩))).turn (uQ (r.log.getD r.decided (0,0,⟨#[]⟩)) r.n) else (r.carried (r.log.getD r.decided (0,0,⟨#[]⟩))).bF p) else r:=by
 unfold bF;rw[oP,jd];by_cases h:(r.decided:Int)<p∧r.decided<r.log.length
 ·rw[if_pos h];obtain⟨f,hf⟩:∃ f,r.log.length-r.decided=f+1:=⟨r.log.length-r.decided-1,by omega⟩
  rw[hf,show r.log.length-(r.decided+1)=f by omega]
  conv=>lhs;unfold iV
  rw[if_pos h]
 ·rw[if_neg h];cases hf:r.log.length-r.decided with
  | zero=>rfl
  | succ f=>unfold iV;rw[if_neg h]
end Rp
section
variable {w:World} {b bl:Nat} {W F:List Nat} {R:Rp} {V:Rv}
theorem Mv.ug {w w':World} {W F W' F':List Nat} (h:Mv w W F W' F') (hs:w'.heap.size≤w.heap.size):Mv w' W F W' F':=⟨fun x hx=>(h.m x hx).imp (fun q=>q) (fun q=>Nat.le_trans hs q),h.f,fun x hx=>(h.g x hx).imp (fun q=>q) (fun q=>Nat.le_trans hs q)⟩
theorem BS (vals:List Int) (op:ByteArray):(doS vals op).2.size≤1000:=by
 unfold doS
 (repeat' split) <;> first|exact (by decide:OKb.size≤1000)|exact (by decide:oI.size≤1000)|exact (by decide:NOb.size≤1000)|exact (show (1:Nat)≤1000 by omega)
theorem Eu (h:ay w b bl W F R V) (hR:Ok R) (p:Int) (ho:R.out.length≤600000) :
  Calls Tryz.prog 133 #[Zp (some ⟨b,0,O⟩),I J p] w fun e w'=>e=Zr (.tuple #[])∧Rst w w' b bl W F (R.bF p):=by
 have HSt:=ah (fun r:Rp=>Rp.BR r p)
 have HG:Hid (∀ w',ay w' b bl W F R V→True):=fun _ _=>trivial
 go_enter Tryz.func133,Tryz.ntmps133;go_wp2_with fail;go_loopw [] (fun wr=>∃ (R1:Rp) (W1 F1:List Nat) (V1:Rv),ay wr b bl W1 F1 R1 V1∧Hid (Ok R1∧R.bF p=R1.bF p∧R1.log=R.log∧R1.out.length≤600000+R1.decided)∧Kp W w wr∧Mv w W F W1 F1) (fun wr=>R.log.length-(wV wr b 10).toNat)
 case atStart=>exact⟨R,W,F,V,h,⟨hR,rfl,rfl,by omega⟩,Kp.refl _ _,Mv.refl _ _ _⟩
 case round =>
  obtain⟨R1,W1,F1,V1,h1,HI,hk,hm⟩:=hrel
  have c9:=h1.c9;have c10:=h1.c10;obtain⟨aL,cL,hvL⟩:=h1.g9
  rw[hvL] at c9;by_cases q1:(R1.decided:Int)<p
  ·by_cases q2:R1.decided<R1.log.length
   ·have hE:=h1.ents;rw[hvL] at hE;obtain⟨be,oe,hae,hbe,e0,e1,e2⟩:=hE.get R1.decided q2
    subst hae;have q2':(R1.decided:Int)<(R1.log.length:Int):=by omega
    have j0:(0:Int)≤(R1.decided:Int):=by omega
    have hgD:R1.log.getD R1.decided (0,0,⟨#[]⟩)=R1.log[R1.decided]:=by simp[List.getD,q2]
    have HEm:Hid (kV R1.n R1.log[R1.decided]):=HI.out.1.le _ (List.getElem_mem _)
    have HST:Hid (R.bF p=if (R1.carried R1.log[R1.decided]).turns R1.log[R1.decided] then (R1.carried R1.log[R1.decided]).turn (Rp.uQ R1.log[R1.decided] R1.n) else (R1.carried R1.log[R1.decided]).bF p):=by
     unfold Hid;rw[HI.out.2.1,HSt.out R1,if_pos ⟨q1,q2⟩,hgD]
    have HD10:Hid (R1.decided+1≤10∧R1.decided+1≤R1.log.length):=⟨by have:=HI.out.1.lg;omega,q2⟩
    clear hgD hE;generalize hEe:R1.log[R1.decided]=E at *;have HEe:=ah hEe;clear hEe;have HC0:Hid (wV wr b 10=(R1.decided:Int)):=by unfold Hid wV;rw[c10]
    have HF:=ah h1;go_wp2_with fail;go_quiet (fail);rename_i nq;have h0:=HF.out.drewN nq;have hk0:=hk.aF (below_drewN (Below.refl _ wr) nq);have hbq:Below wr.heap.size wr (wr.drewN nq):=below_drewN (Below.refl _ wr) nq
    have f0:=(hbq.cell (p:=⟨be,oe+R1.decided*3,O⟩) hbe).trans e0;have f1:=(hbq.cell (p:=⟨be,oe+R1.decided*3+1,O⟩) hbe).trans e1;have f2:=(hbq.cell (p:=⟨be,oe+R1.decided*3+2,O⟩) hbe).trans e2;have hmq:Mv w W F W1 F1:=hm
    have hbe0:be<(wr.drewN nq).heap.size:=Nat.lt_of_lt_of_le hbe hbq.size
    clear e0 e1 e2 c9 c10 HF h1 hk hbe hbq;generalize wr.drewN nq=w0 at *;have c9:=h0.c9;have c10:=h0.c10;rw[hvL] at c9;have hlb:=h0.lb;have hal:=fun o=>(Below.refl w0.heap.size w0).alloc (Nat.le_refl _) o
    have m9:=fun o=>((hal o).cell (p:=⟨b,9,O⟩) hlb).trans c9
    have m10:=fun o=>((hal o).cell (p:=⟨b,10,O⟩) hlb).trans c10
    have me0:=fun o=>((hal o).cell (p:=⟨be,oe+R1.decided*3,O⟩) hbe0).trans f0
    have me1:=fun o=>((hal o).cell (p:=⟨be,oe+R1.decided*3+1,O⟩) hbe0).trans f1
    have me2:=fun o=>((hal o).cell (p:=⟨be,oe+R1.decided*3+2,O⟩) hbe0).trans f2
    go_upto_region 1 with fail
    go_cut [4] from 7 to 83 (fun p wx=>∃ bE,p=Zp (some ⟨bE,0,O⟩)∧Below w0.heap.size w0 wx∧w0.heap.size≤bE∧wx.heap[bE]? = some (.cells #[I J E.1,I J E.2.1,Z E.2.2] 66 (0,0)))
    case first =>
     go_region
     all_goals go_wp2_with fail
     all_goals go_meet
     all_goals exact⟨_,rfl,((Below.refl _ w0).alloc (Nat.le_refl _) _).drew,Nat.le_refl _,heap_alloc_new w0 _⟩
    case rest =>
     obtain⟨bE,rfl,hb1,hbE,hqE⟩:=hcut
     obtain⟨wA,HwA⟩:∃ x,x=wc:=⟨_,rfl⟩
     subst HwA;clear c9 c10 f0 f1 f2 m9 m10 me0 me1 me2 hal hbe0;have hc1:=h0.below hb1;have hkc1:=hk0.aF hb1;have hEn:=HEm.out;have HCk:=ah (fun (d:Nat)=>tC ((hc1.below (below_drewN (Below.refl _ wA) d)).sv) E.1 E.2.1 E.2.2 (by have:=hEn.2.2.2.2.2;unfold maxLen;omega) hEn.small hEn.1 hEn.2.1)
     have x0:wA.cell? ⟨bE,0,O⟩=some (I J E.1):=by simp[World.cell?,hqE]
     have x1:wA.cell? ⟨bE,1,O⟩=some (I J E.2.1):=by simp[World.cell?,hqE]
     have x2:wA.cell? ⟨bE,2,O⟩=some (Z E.2.2):=by simp[World.cell?,hqE]
     have hbEb:bE≠b:=by omega
     have HQE:=ah hqE;clear hqE;go_upto_region 2 with fail
     go_cut [5] from 7 to 83 (fun p wx=>p=Z (doS R1.sv.vals E.2.2).2∧ay wx b bl W1 F1 { R1 with sv:=nJ R1.sv E } V1∧Kp [b] wA wx)
     case first =>
      go_region_with (go_at_call 157;refine (HCk.out 1).mono ?_;rintro e w3 ⟨rfl,hs3,k3⟩)
      all_goals
       have hr3:=(hc1.below (below_drewN (Below.refl _ wA) 1)).Jf hs3 k3;have hk3:Kp [b] wA w3:=(Kp.of_below (below_drewN (Below.refl _ wA) 1)).trans' k3
       have H3:=ah hr3;have HK3:=ah hk3;clear hr3 hk3 hs3 k3;go_wp2_with fail;go_meet;exact⟨rfl,H3.out,HK3.out⟩
     case rest =>
      obtain⟨rfl,hr3,hk3⟩:=hcut
      obtain⟨wc3,HwA⟩:∃ x,x=wc:=⟨_,rfl⟩
      subst HwA;clear HCk x0 x1 x2;have hqE3:wc3.heap[bE]? = some (.cells #[I J E.1,I J E.2.1,Z E.2.2] 66 (0,0)):=(hk3.block bE (lt_of_block HQE.out) (by simpa using hbEb)).trans HQE.out
      have d10:=hr3.c10;have df10:=hr3.free 10;have hD:ay (wc3.setCell ⟨b,10,O⟩ (I J ((R1.decided:Int)+1))) b bl W1 F1 (R1.lF E) V1:=by
       have q:=hr3.rV (R1.decided+1);rw[show (((R1.decided+1:Nat)):Int)=(R1.decided:Int)+1 by omega] at q
       exact q
      have hKD:Kp W w (wc3.setCell ⟨b,10,O⟩ (I J ((R1.decided:Int)+1))):=(hkc1.mv hmq (hk3.wid (by intro x hx;simp at hx;subst hx;exact hr3.wb))).mv hmq ((hr3.k1 _ _).wid (by intro x hx;simp at hx;subst hx;exact hr3.wb))
      have hKb:Kp [b] wc3 (wc3.setCell ⟨b,10,O⟩ (I J ((R1.decided:Int)+1))):=hr3.k1 _ _
      have hqD:=(hKb.block bE (lt_of_block hqE3) (by simpa using hbEb)).trans hqE3
      have hw10:IntKind.i64.wrap ((R1.decided:Int)+1)=(R1.decided:Int)+1:=eB (by omega) (by have:=HD10.out.1;omega)
      have HGc:=ah (Rp.zK HI.out.1 q2 E);have HLd:=ah (uz hD HGc.out.ok);have HDD:=ah hD;have HKD:=ah hKD;have HqD:=ah hqD;clear hD hKD hKb hqD hqE3 hr3 hk3;go_wp2_with fail;generalize wc3.setCell ⟨b,10,O⟩ (I J ((R1.decided:Int)+1))=wD at *;refine HLd.out.mono ?_;rintro e w4 ⟨rfl,n4,rfl⟩;have h4:=HDD.out.drewN n4;have hk4:=HKD.out.aF (below_drewN (Below.refl _ wD) n4);have hq4:(wD.drewN n4).heap[bE]? = some (.cells #[I J E.1,I J E.2.1,Z E.2.2] 66 (0,0)):=((below_drewN (Below.refl wD.heap.size wD) n4).block bE (lt_of_block HqD.out)).trans HqD.out
      clear HDD HKD HqD HLd;generalize wD.drewN n4=w4 at *;have x0:w4.cell? ⟨bE,0,O⟩=some (I J E.1):=by simp[World.cell?,hq4]
      have x1:w4.cell? ⟨bE,1,O⟩=some (I J E.2.1):=by simp[World.cell?,hq4]
      have HC:Hid (R1.carried E=if (R1.lF E).leads then (R1.lF E).reply E.1 E.2.1 (doS R1.sv.vals E.2.2).2 else R1.lF E):=rfl
      have hEn:=HEm.out;have HRp:=ah (Ac h4 E.1 E.2.1 (doS R1.sv.vals E.2.2).2 ⟨hEn.1,hEn.2.1⟩ ⟨by have:=hEn.2.2.1;omega,hEn.2.2.2.1⟩ (BS _ _) (by have:=HI.out.2.2.2;have:=HD10.out.1;show R1.out.length≤1000000;omega))
      go_upto_if 48 with fail
      go_cut [] from 7 to 83 (fun wx=>∃ W2 F2 V2,ay wx b bl W2 F2 (R1.carried E) V2∧Kp W w wx∧Mv w W F W2 F2∧wx.heap[bE]? = some (.cells #[I J E.1,I J E.2.1,Z E.2.2] 66 (0,0)))
      case first =>
       cases hl:(R1.lF E).leads
       ·rw[hl] at HC;have H4:=ah h4;go_wp2_with fail;go_meet;exact⟨W1,F1,V1,by rw[HC.out];exact H4.out,hk4,hmq,hq4⟩
       ·rw[hl] at HC;have H4:=ah h4;go_wp2_with fail;refine HRp.out.mono ?_;rintro e w5 ⟨rfl,W5,F5,vt5,hs5⟩;have HS5:=ah hs5;clear hs5;go_wp2_with fail;go_meet;have hkS:=H4.out.kS HS5.out.kp;exact⟨W5,F5,_,by rw[HC.out];exact HS5.out.rp,hk4.mv hmq hkS,hmq.trans HS5.out.mv hk4.size,(HS5.out.kp.block bE (lt_of_block hq4) (by
         intro hc;rcases List.mem_cons.1 hc with hc|hc
         ·exact hbEb hc
         ·have q:=H4.out.wf bE (H4.out.wt bE (by simpa using hc))
          have:=h0.fl bE q
          omega)).trans hq4⟩
      case rest =>
       obtain⟨W2,F2,V2,h6,hk6,hm6,hq6⟩:=hcut
       obtain⟨w6,HwA⟩:∃ x,x=wc:=⟨_,rfl⟩
       subst HwA;clear h4 hk4 hq4 x0 x1 HRp HC;have HG2:Hid (Ok (R1.carried E)∧(R1.carried E).n=R1.n∧(R1.carried E).decided=R1.decided+1∧(R1.carried E).out.length≤600000+(R1.carried E).decided∧(R1.carried E).epoch=R1.epoch∧(R1.carried E).log=R.log):=by
        have q:=Rp.rz HI.out.1 q2 E;refine⟨q.ok,q.n,Rp.jd E,?_,Rp.jc E,(Rp.oP E).trans HI.out.2.2.1⟩
        have:=q.out
        have:=HI.out.2.2.2
        rw[Rp.jd];omega
       have HST2:Hid (R.bF p=if (R1.carried E).turns E then (R1.carried E).turn (Rp.uQ E R1.n) else (R1.carried E).bF p):=HST.out
       generalize R1.carried E=R2 at *;clear HST;have c4:=h6.c4;have c9:=h6.c9;have c10:=h6.c10;obtain⟨aL2,cL2,hvL2⟩:=h6.g9
       obtain⟨_,_,he',hcl,hcm⟩:=h6.ents.shape
       rw[hvL2] at he';simp only[Value.slice.injEq] at he';obtain⟨-,-,rfl⟩:=he'
       rw[hvL2] at c9;have hEn:=HEm.out;have i1:(0:Int)≤(R2.decided:Int):=by omega
       have i2:(R2.decided:Int)≤(cL2:Int):=by have:=HG2.out.1.dc;omega
       have HI2:Hid (∀ w,Calls Tryz.prog 75 #[.agg #[I J E.1,I J E.2.1,Z E.2.2]] w fun e w'=>e=Zr (.bool (jI E))∧Below w.heap.size w w'):=fun w=>jN E.1 E.2.1 E.2.2 w (by have:=hEn.2.2.2.2.2;unfold maxLen;omega)
       have HR2:Hid (∀ w',Below w6.heap.size w6 w'→Calls Tryz.prog 81 #[Y aL2 R2.decided cL2] w' fun e w''=>e=Zr (I J (regs (R2.log.take R2.decided):Int))∧Below w'.heap.size w' w''):=fun w' hb=>by
        have hE:=(h6.below hb).ents;rw[hvL2] at hE;have hd:=HG2.out.2.2.1;exact nX _ (R2.log.take R2.decided) w' (E8 hE R2.decided HG2.out.1.dc (by omega)) (by have:=HG2.out.1.lg;simp;omega) (fun e he=>by have:=(HG2.out.1.le e (List.mem_of_mem_take he)).2.2.2.2.2;omega)
       have x0:w6.cell? ⟨bE,0,O⟩=some (I J E.1):=by simp[World.cell?,hq6]
       have x1:w6.cell? ⟨bE,1,O⟩=some (I J E.2.1):=by simp[World.cell?,hq6]
       have x2:w6.cell? ⟨bE,2,O⟩=some (Z E.2.2):=by simp[World.cell?,hq6]
       have k4:=cell_regrown c4;have k9:=cell_regrown c9;have k10:=cell_regrown c10;have kx0:=cell_regrown x0;have kx1:=cell_regrown x1;have kx2:=cell_regrown x2;have cI:=fun d os=>Calls.regrown_of (w:=w6) (d:=d) (os:=os) (HI2.out _)
       have cR:=fun d os=>Calls.regrown_of (w:=w6) (d:=d) (os:=os) (HR2.out _ (below_regrown w6 d os))
       have HTn:Hid (R2.turns E=(jI E&&decide (R2.epoch<(regs (R2.log.take R2.decided):Int)))):=rfl
       cases hrg:jI E
       ·have HT2:Hid (R2.turns E=false):=by unfold Hid;rw[HTn.out,hrg];rfl
        rw[hrg] at cI;go_wp2_with fail;refine wp_region_quiet_below (by kernel_rfl) (by kernel_rfl) ?_
        repeat (go_big_quiet_step (first|exact cI _ _|exact cR _ _))
        refine wpQuiet_nil ?_;intro w7 hw';have hb7:Below w6.heap.size w6 w7:=by
         obtain⟨⟨dq,osq⟩,hw''⟩:=hw'
         rw[hw''];exact below_regrown w6 dq osq
        clear hw' cI cR k4 k9 k10 kx0 kx1 kx2;have H7:=ah (h6.below hb7);have HK7:=ah (hk6.aF hb7);go_wp2_with fail;go_roundw
        case rel=>exact⟨R2,W2,F2,V2,H7.out,⟨HG2.out.1,by rw[HST2.out,if_neg (by rw[HT2.out];simp)],HG2.out.2.2.2.2.2,HG2.out.2.2.2.1⟩,HK7.out,hm6⟩
        case measure =>
         have e7:wV w7 b 10=(R2.decided:Int):=by unfold wV;rw[H7.out.c10]
         have e0:=HC0.out;have:=HG2.out.2.2.1
         have:=HD10.out.2
         have h2:=HG2.out.2.2.2.2.2;have h3:=HI.out.2.2.1;have h4:R1.log.length=R.log.length:=by rw[h3]
         rw[e7,e0];omega
       ·rw[hrg] at cI;by_cases hlt:R2.epoch<(regs (R2.log.take R2.decided):Int)
        ·have HT2:Hid (R2.turns E=true):=by unfold Hid;rw[HTn.out,hrg,decide_eq_true hlt];rfl
         go_wp2_with fail;refine wp_region_quiet_below (by kernel_rfl) (by kernel_rfl) ?_
         repeat (go_big_quiet_step (first|exact cI _ _|exact cR _ _))
         refine wpQuiet_nil ?_;intro w7 hw';have hb7:Below w6.heap.size w6 w7:=by
          obtain⟨⟨dq,osq⟩,hw''⟩:=hw'
          rw[hw''];exact below_regrown w6 dq osq
         clear hw' cI cR k4 k9 k10 kx0 kx1 kx2;have h7:=h6.below hb7;have hk7:=hk6.aF hb7;have hq7:=(hb7.block bE (lt_of_block hq6)).trans hq6;have z0:w7.cell? ⟨bE,0,O⟩=some (I J E.1):=by simp[World.cell?,hq7]
         have z1:w7.cell? ⟨bE,1,O⟩=some (I J E.2.1):=by simp[World.cell?,hq7]
         have z2:w7.cell? ⟨bE,2,O⟩=some (Z E.2.2):=by simp[World.cell?,hq7]
         have z3:=h7.c1;have HNx:Hid (∀ w',Calls Tryz.prog 45 #[.agg #[I J E.1,I J E.2.1,Z E.2.2],I J R2.n] w' fun e w''=>∃ v,e=Zr v∧w''.ownsRow w'.heap.size 3 1 v (Rp.uQ E R2.n).length ((Rp.uQ E R2.n).map (Value.int .i64))∧Below w'.heap.size w' w''):=fun w'=>(mO E.1 E.2.1 E.2.2 R2.n w' (by have:=hEn.2.2.2.2.2;unfold maxLen;omega)).mono (fun e w'' q=>by
          obtain⟨v,q1,q2,_,q3⟩:=q
          exact⟨v,q1,q2 hrg,q3⟩)
         have HST3:Hid (R.bF p=R2.turn (Rp.uQ E R2.n)):=by unfold Hid;rw[HST2.out,if_pos HT2.out,HG2.out.2.1]
         have H7:=ah h7;clear x0 x1 x2 c4 c9 c10 hq6 hq7 h7;go_wp2_with fail;go_region_with (go_at_call 45;refine (HNx.out _).mono ?_;rintro e w8 ⟨v8,rfl,hown8,hb8⟩)
         all_goals
          have hb8':Below w7.heap.size w7 w8:=iL hb8
          obtain⟨F8,h8,hsl8,hmv8⟩:=Sl.fresh H7.out hb8' hown8
          have HTu:=ah (I7 h8 HG2.out.1 (Rp.Dn HG2.out.1 HT2.out) v8 (Rp.uQ E R2.n) (Rd.bK hown8) hsl8 (vX _ _) (by have:=HG2.out.2.2.2.1;have:=HG2.out.1.dc;have:=HG2.out.1.lg;omega))
          have HK8:=ah (hk7.aF hb8');have HM8:=ah (hm6.trans (hmv8.ug (Nat.le_refl _)) (Nat.le_trans hk6.size hb7.size));clear h8 hsl8 hmv8 hown8 hb8 hb8' z0 z1 z2 z3;go_wp2_with fail;refine HTu.out.mono ?_;rintro e w9 ⟨rfl,hs9⟩;have HS9:=ah (Rst.step HK8.out HM8.out hs9);clear hs9;go_wp2_with fail;exact bodyPost_ret (results_none rfl _ _ _) rfl ⟨rfl,by rw[HST3.out];exact HS9.out⟩
        ·have HT2:Hid (R2.turns E=false):=by unfold Hid;rw[HTn.out,hrg,decide_eq_false hlt];rfl
         go_wp2_with fail;refine wp_region_quiet_below (by kernel_rfl) (by kernel_rfl) ?_
         repeat (go_big_quiet_step (first|exact cI _ _|exact cR _ _))
         refine wpQuiet_nil ?_;intro w7 hw';have hb7:Below w6.heap.size w6 w7:=by
          obtain⟨⟨dq,osq⟩,hw''⟩:=hw'
          rw[hw''];exact below_regrown w6 dq osq
         clear hw' cI cR k4 k9 k10 kx0 kx1 kx2;have H7:=ah (h6.below hb7);have HK7:=ah (hk6.aF hb7);go_wp2_with fail;go_roundw
         case rel=>exact⟨R2,W2,F2,V2,H7.out,⟨HG2.out.1,by rw[HST2.out,if_neg (by rw[HT2.out];simp)],HG2.out.2.2.2.2.2,HG2.out.2.2.2.1⟩,HK7.out,hm6⟩
         case measure =>
          have e7:wV w7 b 10=(R2.decided:Int):=by unfold wV;rw[H7.out.c10]
          have e0:=HC0.out;have:=HG2.out.2.2.1
          have:=HD10.out.2
          have h2:=HG2.out.2.2.2.2.2;have h3:=HI.out.2.2.1;have h4:R1.log.length=R.log.length:=by rw[h3]
          rw[e7,e0];omega
   ·have q2':¬(R1.decided:Int)<(R1.log.length:Int):=by omega
    have HZ:Hid (R.bF p=R1):=by unfold Hid;rw[HI.out.2.1,HSt.out R1,if_neg (by omega)]
    have HF:=ah h1;go_wp2_with fail;go_quiet (fail);rename_i nq;have HF2:=ah (HF.out.drewN nq);have HK2:=ah (hk.aF (below_drewN (Below.refl _ wr) nq));go_wp2_with fail;exact bodyPost_end (results_none rfl _ _ _) rfl ⟨rfl,W1,F1,V1,by rw[HZ.out];exact HF2.out,HK2.out,hm⟩
  ·have HZ:Hid (R.bF p=R1):=by unfold Hid;rw[HI.out.2.1,HSt.out R1,if_neg (by omega)]
   have HF:=ah h1;have hd1:decide ((R1.decided:Int)<p)=false:=decide_eq_false q1
   go_wp2_with fail;go_quiet (fail);rename_i nq;have HF2:=ah (HF.out.drewN nq);have HK2:=ah (hk.aF (below_drewN (Below.refl _ wr) nq));go_wp2_with fail;exact bodyPost_end (results_none rfl _ _ _) rfl ⟨rfl,W1,F1,V1,by rw[HZ.out];exact HF2.out,HK2.out,hm⟩
end
section
variable {w w0:World} {b bl:Nat} {W F:List Nat} {R R2:Rp} {P:Pm} {vl vg vo vL:Value}
theorem Rst.drewN (h:Rst w0 w b bl W F R) (n:Nat):Rst w0 (w.drewN n) b bl W F R:=h.below (below_drewN (Below.refl _ _) n)
theorem Rst.drew (h:Rst w0 w b bl W F R):Rst w0 w.drew b bl W F R:=h.below (Below.refl _ _).drew
theorem Rst.bind {f:FuncId} {args:Array Value} {r:Value} (h:Rst w0 w b bl W F R) (hh:∀ W1 F1 V1,ay w b bl W1 F1 R V1→Calls Tryz.prog f args w fun e w2=>e=Zr r∧Rst w w2 b bl W1 F1 R2) :
  Calls Tryz.prog f args w fun e w2=>e=Zr r∧Rst w0 w2 b bl W F R2:=by
 obtain⟨W1,F1,V1,h1,k1,m1⟩:=h
 exact (hh W1 F1 V1 h1).mono (fun e w2 q=>⟨q.1,Rst.step k1 m1 q.2⟩)
theorem Rst.get {f:FuncId} {args:Array Value} {r:Value} (h:Rst w0 w b bl W F R) (hh:∀ W1 F1 V1,ay w b bl W1 F1 R V1→Calls Tryz.prog f args w fun e w2=>e=Zr r∧Below w.heap.size w w2) :
  Calls Tryz.prog f args w fun e w2=>e=Zr r∧Rst w0 w2 b bl W F R:=by
 obtain⟨W1,F1,V1,h1,k1,m1⟩:=h
 exact (hh W1 F1 V1 h1).mono (fun e w2 q=>⟨q.1,W1,F1,V1,h1.below q.2,k1.aF q.2,m1⟩)
theorem Rst.pm (h:Rst w0 w b bl W F R) (hP:dF w0 W F P vl vg vo vL):∃ W1 F1 V1,ay w b bl W1 F1 R V1∧Kp W w0 w∧Mv w0 W F W1 F1∧dF w W1 F1 P vl vg vo vL:=by
 obtain⟨W1,F1,V1,h1,k1,m1⟩:=h
 exact⟨W1,F1,V1,h1,k1,m1,hP.mv k1 m1⟩
theorem Rst.Kr {f:FuncId} {args:Array Value} {r:Value} (h:Rst w0 w b bl W F R) (hP:dF w0 W F P vl vg vo vL) (hh:∀ W1 F1 V1,ay w b bl W1 F1 R V1→dF w W1 F1 P vl vg vo vL→Calls Tryz.prog f args w fun e w2=>e=Zr r∧Rst w w2 b bl W1 F1 R2) :
  Calls Tryz.prog f args w fun e w2=>e=Zr r∧Rst w0 w2 b bl W F R2:=by
 obtain⟨W1,F1,V1,h1,k1,m1,hP1⟩:=h.pm hP
 exact (hh W1 F1 V1 h1 hP1).mono (fun e w2 q=>⟨q.1,Rst.step k1 m1 q.2⟩)
theorem Rst.kp (h:Rst w0 w b bl W F R):Kp W w0 w:=by obtain⟨_,_,_,_,k,_⟩:=h;exact k
theorem dH (h:Rst w0 w b bl W F R) (hR:Ok R) (x:Int) :
  Calls Tryz.prog 17 #[Zp (some ⟨b,0,O⟩),I J x] w fun e w'=>e=Zr (.bool (R.mem x))∧Rst w0 w' b bl W F (R) :=
 h.get fun _ _ _ h1=>(kM h1 hR x).mono (fun _ _ q=>⟨q.1,by rw[q.2];exact Below.refl _ _⟩)
theorem yF (h:Rst w0 w b bl W F R) (hR:Ok R) :
  Calls Tryz.prog 121 #[Zp (some ⟨b,0,O⟩)] w fun e w'=>e=Zr (I J R.jJ)∧Rst w0 w' b bl W F (R) :=
 h.get fun _ _ _ h1=>(fU h1 hR).mono (fun _ _ q=>⟨q.1,by obtain⟨n,hn⟩:=q.2;rw[hn];exact below_drewN (Below.refl _ _) n⟩)
theorem fP (h:Rst w0 w b bl W F R) (hR:Ok R) :
  Calls Tryz.prog 73 #[Zp (some ⟨b,0,O⟩)] w fun e w'=>e=Zr (.bool R.dS)∧Rst w0 w' b bl W F (R) :=
 h.get fun _ _ _ h1=>(gU h1 hR).mono (fun _ _ q=>⟨q.1,by obtain⟨n,hn⟩:=q.2;rw[hn];exact below_drewN (Below.refl _ _) n⟩)
theorem Df (h:Rst w0 w b bl W F R) (hR:Ok R) :
  Calls Tryz.prog 42 #[Zp (some ⟨b,0,O⟩)] w fun e w'=>e=Zr (.bool R.leads)∧Rst w0 w' b bl W F (R) :=
 h.get fun _ _ _ h1=>(uz h1 hR).mono (fun _ _ q=>⟨q.1,by obtain⟨n,hn⟩:=q.2;rw[hn];exact below_drewN (Below.refl _ _) n⟩)
theorem nZ (h:Rst w0 w b bl W F R)  :
  Calls Tryz.prog 84 #[Zp (some ⟨b,0,O⟩)] w fun e w'=>e=Zr (.bool R.carries)∧Rst w0 w' b bl W F (R) :=
 h.get fun _ _ _ h1=>(uS h1).mono (fun _ _ q=>⟨q.1,by rw[q.2];exact Below.refl _ _⟩)
theorem jy (h:Rst w0 w b bl W F R) (hR:Ok R) :
  Calls Tryz.prog 77 #[Zp (some ⟨b,0,O⟩)] w fun e w'=>e=Zr (.bool R.closing)∧Rst w0 w' b bl W F (R) :=
 h.get fun _ _ _ h1=>(zo h1 hR).mono (fun _ _ q=>⟨q.1,q.2⟩)
theorem fu (h:Rst w0 w b bl W F R) (hR:Ok R) (qt k:Int) (hk:0≤k∧k<128) (ho:R.out.length≤900000) :
  Calls Tryz.prog 91 #[Zp (some ⟨b,0,O⟩),I J qt,I .u8 k] w fun e w'=>e=Zr (.tuple #[])∧Rst w0 w' b bl W F (R.bare qt k) :=
 h.bind fun _ _ _ h1=>(Bp h1 hR qt k hk ho).mono (fun _ _ q=>⟨q.1,Snt.rst h1 q.2⟩)
theorem Bt (h:Rst w0 w b bl W F R) (hR:Ok R) (qt:Int) (ho:R.out.length≤900000) :
  Calls Tryz.prog 132 #[Zp (some ⟨b,0,O⟩),I J qt] w fun e w'=>e=Zr (.tuple #[])∧Rst w0 w' b bl W F (R.ack qt) :=
 h.bind fun _ _ _ h1=>(JZ h1 hR qt ho).mono (fun _ _ q=>⟨q.1,Snt.rst h1 q.2⟩)
theorem qB (h:Rst w0 w b bl W F R) (hR:Ok R) (qt:Int) (ho:R.out.length≤900000) :
  Calls Tryz.prog 92 #[Zp (some ⟨b,0,O⟩),I J qt] w fun e w'=>e=Zr (.tuple #[])∧Rst w0 w' b bl W F (R.tell qt) :=
 h.bind fun _ _ _ h1=>(I6 h1 hR qt ho).mono (fun _ _ q=>⟨q.1,Snt.rst h1 q.2⟩)
theorem uF (h:Rst w0 w b bl W F R) (hR:Ok R) (qt:Int) (ho:R.out.length≤900000) :
  Calls Tryz.prog 138 #[Zp (some ⟨b,0,O⟩),I J qt] w fun e w'=>e=Zr (.tuple #[])∧Rst w0 w' b bl W F (R.oC qt) :=
 h.bind fun _ _ _ h1=>(sS h1 hR qt ho).mono (fun _ _ q=>⟨q.1,Snt.rst h1 q.2⟩)
theorem mP (h:Rst w0 w b bl W F R) (hR:Ok R) (ho:R.out.length≤800000) :
  Calls Tryz.prog 102 #[Zp (some ⟨b,0,O⟩)] w fun e w'=>e=Zr (.tuple #[])∧Rst w0 w' b bl W F (R.dY) :=
 h.bind fun _ _ _ h1=>(lV h1 hR ho).mono (fun _ _ q=>⟨q.1,Snt.rst h1 q.2⟩)
theorem BA (h:Rst w0 w b bl W F R) (hR:Ok R) (ho:R.out.length≤800000) :
  Calls Tryz.prog 135 #[Zp (some ⟨b,0,O⟩)] w fun e w'=>e=Zr (.tuple #[])∧Rst w0 w' b bl W F (R.iX) :=
 h.bind fun _ _ _ h1=>(qV h1 hR ho).mono (fun _ _ q=>⟨q.1,Snt.rst h1 q.2⟩)
theorem Bu (h:Rst w0 w b bl W F R) (hR:Ok R) (ho:R.out.length≤800000) :
  Calls Tryz.prog 99 #[Zp (some ⟨b,0,O⟩)] w fun e w'=>e=Zr (.tuple #[])∧Rst w0 w' b bl W F (R.call) :=
 h.bind fun _ _ _ h1=>(I5 h1 hR ho).mono (fun _ _ q=>⟨q.1,Snt.rst h1 q.2⟩)
theorem sU (h:Rst w0 w b bl W F R) (hR:Ok R) (p:Int) (hp:p≤1000) (hp0 : -1000≤p) (ho:R.out.length≤800000) :
  Calls Tryz.prog 78 #[Zp (some ⟨b,0,O⟩),I J p] w fun e w'=>e=Zr (.tuple #[])∧Rst w0 w' b bl W F (R.bL p) :=
 h.bind fun _ _ _ h1=>(zq h1 hR p hp hp0 ho).mono (fun _ _ q=>⟨q.1,Snt.rst h1 q.2⟩)
theorem yH (h:Rst w0 w b bl W F R) (c m:Int) (t:ByteArray) (hc:1≤c∧c≤9) (hm:0≤m∧m≤999) (ht:t.size≤1000) (ho:R.out.length≤1000000) :
  Calls Tryz.prog 46 #[Zp (some ⟨b,0,O⟩),I J c,I J m,Z t] w fun e w'=>e=Zr (.tuple #[])∧Rst w0 w' b bl W F (R.reply c m t) :=
 h.bind fun _ _ _ h1=>(Ac h1 c m t hc hm ht ho).mono (fun _ _ q=>⟨q.1,Snt.rst h1 q.2⟩)
theorem yE (h:Rst w0 w b bl W F R) (v:Int) :
  Calls Tryz.prog 139 #[Zp (some ⟨b,0,O⟩),I J v] w fun e w'=>e=Zr (.tuple #[])∧Rst w0 w' b bl W F (R.begin_ v) :=
 h.bind fun _ _ _ h1=>(uw h1 v).mono (fun _ _ q=>⟨q.1,Rst.of q.2.1 (h1.kW q.2.2)⟩)
theorem jk (h:Rst w0 w b bl W F R) (hP:dF w0 W F P vl vg vo vL) (hl:qX R.n P.log) :
  Calls Tryz.prog 131 #[Zp (some ⟨b,0,O⟩),vL] w fun e w'=>e=Zr (.tuple #[])∧Rst w0 w' b bl W F (R.over P.log) :=
 h.Kr hP fun _ _ _ h1 p1=>nY h1 vL P.log p1.log hl
theorem nH (h:Rst w0 w b bl W F R) (hP:dF w0 W F P vl vg vo vL) :
  Calls Tryz.prog 130 #[Zp (some ⟨b,0,O⟩),.agg (pmC P vl vg vo vL)] w fun e w'=>e=Zr (.tuple #[])∧Rst w0 w' b bl W F (R.enter P) :=
 h.Kr hP fun _ _ _ h1 p1=>(GN h1 P vl vg vo vL p1).mono (fun _ _ q=>⟨q.1,Rst.of q.2.1 (h1.kW q.2.2)⟩)
theorem iA (h:Rst w0 w b bl W F R) (hR:Ok R) (p:Int) (ho:R.out.length≤600000) :
  Calls Tryz.prog 133 #[Zp (some ⟨b,0,O⟩),I J p] w fun e w'=>e=Zr (.tuple #[])∧Rst w0 w' b bl W F (R.bF p) :=
 h.bind fun _ _ _ h1=>Eu h1 hR p ho
end
section
variable {w w0:World} {b bl:Nat} {W F:List Nat} {R:Rp} {V:Rv} {P:Pm} {vl vg vo vL:Value}
theorem Sl.news {w w':World} (h:ay w b bl W F R V) (hb:Below w.heap.size w w') (vs:List Value) (hv:∀ v∈vs,∀ k,v.ownBlock=some k→w.heap.size≤k∧k<w'.heap.size) :
  ∃ F',ay w' b bl W F' R V∧(∀ v∈vs,Sl W F' v)∧Mv w W F W F':=by
 have hm:∀ x,x∈vs.flatMap (fun v=>v.ownBlock.toList)→w.heap.size≤x∧x<w'.heap.size:=fun x hx=>by
  obtain⟨v,h1,h2⟩:=List.mem_flatMap.1 hx
  exact hv v h1 x (by simpa using h2)
 have h1:=h.below hb;refine⟨vs.flatMap (fun v=>v.ownBlock.toList)++F,h1.more (fun x hx=>List.mem_append.2 (.inr hx)) (fun x hx=>?_) ?_,fun v q=>⟨fun k hk hc=>?_,fun k hk=>?_⟩,⟨fun x hx=>.inl hx,fun x hx=>List.mem_append.2 (.inr hx),fun x hx=>?_⟩⟩
 ·rcases List.mem_append.1 hx with q|q
  ·exact (hm x q).2
  ·exact h1.fl x q
 ·intro hc;rcases List.mem_append.1 hc with q|q
  ·have:=(hm 0 q).1;have:=h.lb;omega
  ·exact h.t0 q
 ·have:=(hv v q k hk).1;have:=h.wlt _ hc;omega
 ·exact List.mem_append.2 (.inl (List.mem_flatMap.2 ⟨v,q,by simpa using hk⟩))
 ·rcases List.mem_append.1 hx with q|q
  ·exact .inr (hm x q).1
  ·exact .inl q
theorem kR {w':World} {base:Nat} {e:TypeId} {size:Nat} {v:Value} {n:Nat} {xs:List Value} (h:w'.ownsRow base e size v n xs):∀ k,v.ownBlock=some k→base≤k∧k<w'.heap.size:=fun k hk=>h.lt k hk
theorem oh (h:Rst w0 w b bl W F R) (hR:Ok R) (c:Int) (ho:R.out.length≤500000) :
  Calls Tryz.prog 136 #[Zp (some ⟨b,0,O⟩),I J c] w fun e w'=>e=Zr (.tuple #[])∧Rst w0 w' b bl W F (R.iC c):=by
 have HS0:=ah h;clear h;have HE:Hid (R.iC c=(if R.dS then R else R.ack R.jJ).bF c):=rfl
 have HP:=ah (fP HS0.out hR);have HG:=ah (Rp.jG hR R.jJ);cases hp:R.dS
 ·rw[hp] at HE HP;go_enter Tryz.func136,Tryz.ntmps136;go_wp2_with fail;refine (HP.out).mono ?_;rintro e w1 ⟨rfl,hs1⟩;have HS1:=ah hs1;clear hs1;go_wp2_with fail;refine (yF HS1.out hR).mono ?_;rintro e w2 ⟨rfl,hs2⟩;have HS2:=ah hs2;clear hs2;go_wp2_with fail;refine (Bt HS2.out hR R.jJ (by omega)).mono ?_
  rintro e w3 ⟨rfl,hs3⟩;have HS3:=ah hs3;clear hs3;go_wp2_with fail;refine (iA HS3.out HG.out.ok c (by have:=HG.out.out;omega)).mono ?_
  rintro e w4 ⟨rfl,hs4⟩;have HS4:=ah hs4;clear hs4;go_wp2_with fail;exact bodyPost_end (results_none rfl _ _ _) rfl ⟨rfl,by rw[HE.out];exact HS4.out⟩
 ·rw[hp] at HE HP;go_enter Tryz.func136,Tryz.ntmps136;go_wp2_with fail;refine (HP.out).mono ?_;rintro e w1 ⟨rfl,hs1⟩;have HS1:=ah hs1;clear hs1;go_wp2_with fail;refine (iA HS1.out hR c (by omega)).mono ?_
  rintro e w2 ⟨rfl,hs2⟩;have HS2:=ah hs2;clear hs2;go_wp2_with fail;exact bodyPost_end (results_none rfl _ _ _) rfl ⟨rfl,by rw[HE.out];exact HS2.out⟩
theorem C9 (h:ay w b bl W F R V) (hR:Ok R) :
  Calls Tryz.prog 165 #[Zp (some ⟨b,0,O⟩)] w fun e w'=>∃ vl vL,e=Zr (.agg (pmC R.dR vl (Y O 0 0) (Y O 0 0) vL))∧w'.ownsRow w.heap.size 3 1 vl R.lives.length (R.lives.map (Value.int .i64))∧w'.ownsRow w.heap.size 66 3 vL R.log.length (aA R.log)∧Below w.heap.size w w':=by
 obtain⟨cl,hvl⟩:=h.g2
 have hll:R.lives.length≤1000:=by have:=hR.ll;have:=hR.n7;omega
 have hlg:R.log.length≤1000:=by have:=hR.lg;omega
 have HH:Hid (∀ w',Below w.heap.size w w'→Calls Tryz.prog 123 #[Zp (some ⟨b,0,O⟩),I .u8 118] w' fun e w''=>e=Zr (.agg #[I .u8 118,I J R.id,Y (some ⟨bl,0,O⟩) R.lives.length cl,I J R.epoch,I J R.view,I J 0,I J 0,I J 0,Z ⟨#[]⟩,I J 0,I J 0,I J 0,Y O 0 0,Y O 0 0,Y O 0 0])∧Below w'.heap.size w' w''):=fun w' hb=>by
  have q:=jY (h.below hb) 118;rw[hvl] at q;exact q
 have HLi:Hid (∀ w',Below w.heap.size w w'→Calls Tryz.prog 175 #[Zp (some ⟨b,0,O⟩)] w' fun e w''=>∃ v,e=Zr v∧w''.ownsRow w'.heap.size 3 1 v R.lives.length (R.lives.map (Value.int .i64))∧Below w'.heap.size w' w''):=fun w' hb=>GJ (h.below hb) hll
 have HLo:Hid (∀ w',Below w.heap.size w w'→Calls Tryz.prog 104 #[Zp (some ⟨b,0,O⟩)] w' fun e w''=>∃ v,e=Zr v∧w''.ownsRow w'.heap.size 66 3 v R.log.length (aA R.log)∧Below w'.heap.size w' w''):=fun w' hb=>qy (h.below hb) hlg
 have hz:bB (w.alloc (.cells #[I .u8 0,I J 0,Y O 0 0,I J 0,I J 0,I J 0,I J 0,I J 0,Z ⟨#[]⟩,I J 0,I J 0,I J 0,Y O 0 0,Y O 0 0,Y O 0 0] 68)) w.heap.size #[I .u8 0,I J 0,Y O 0 0,I J 0,I J 0,I J 0,I J 0,I J 0,Z ⟨#[]⟩,I J 0,I J 0,I J 0,Y O 0 0,Y O 0 0,Y O 0 0]:=⟨rfl,heap_alloc_new w _⟩
 have hbZ:Below w.heap.size w (w.alloc (.cells #[I .u8 0,I J 0,Y O 0 0,I J 0,I J 0,I J 0,I J 0,I J 0,Z ⟨#[]⟩,I J 0,I J 0,I J 0,Y O 0 0,Y O 0 0,Y O 0 0] 68)):=(Below.refl _ w).alloc (Nat.le_refl _) _
 go_enter Tryz.func165,Tryz.ntmps165;go_wp2_with fail;generalize w.alloc (.cells #[I .u8 0,I J 0,Y O 0 0,I J 0,I J 0,I J 0,I J 0,I J 0,Z ⟨#[]⟩,I J 0,I J 0,I J 0,Y O 0 0,Y O 0 0,Y O 0 0] 68)=wZ at *;refine (HH.out _ hbZ).mono ?_;rintro e w1 ⟨rfl,hb1⟩;have hb01:Below w.heap.size w w1:=hbZ.trans (hb1.mono hbZ.size)
 have hz1:bB w1 w.heap.size #[I .u8 0,I J 0,Y O 0 0,I J 0,I J 0,I J 0,I J 0,I J 0,Z ⟨#[]⟩,I J 0,I J 0,I J 0,Y O 0 0,Y O 0 0,Y O 0 0]:=hz.kp (S:=[]) (Kp.of_below hb1) (by simp)
 have hbA:Below w.heap.size w (w1.alloc (.cells #[I .u8 118,I J R.id,Y (some ⟨bl,0,O⟩) R.lives.length cl,I J R.epoch,I J R.view,I J 0,I J 0,I J 0,Z ⟨#[]⟩,I J 0,I J 0,I J 0,Y O 0 0,Y O 0 0,Y O 0 0] 68)):=hb01.alloc hb01.size _
 have hMA:bB (w1.alloc (.cells #[I .u8 118,I J R.id,Y (some ⟨bl,0,O⟩) R.lives.length cl,I J R.epoch,I J R.view,I J 0,I J 0,I J 0,Z ⟨#[]⟩,I J 0,I J 0,I J 0,Y O 0 0,Y O 0 0,Y O 0 0] 68)) w1.heap.size #[I .u8 118,I J R.id,Y (some ⟨bl,0,O⟩) R.lives.length cl,I J R.epoch,I J R.view,I J 0,I J 0,I J 0,Z ⟨#[]⟩,I J 0,I J 0,I J 0,Y O 0 0,Y O 0 0,Y O 0 0]:=⟨rfl,heap_alloc_new w1 _⟩
 have hzA:bB (w1.alloc (.cells #[I .u8 118,I J R.id,Y (some ⟨bl,0,O⟩) R.lives.length cl,I J R.epoch,I J R.view,I J 0,I J 0,I J 0,Z ⟨#[]⟩,I J 0,I J 0,I J 0,Y O 0 0,Y O 0 0,Y O 0 0] 68)) w.heap.size #[I .u8 0,I J 0,Y O 0 0,I J 0,I J 0,I J 0,I J 0,I J 0,Z ⟨#[]⟩,I J 0,I J 0,I J 0,Y O 0 0,Y O 0 0,Y O 0 0]:=hz1.kp (S:=[]) (Kp.of_below ((Below.refl _ w1).alloc (Nat.le_refl _) _)) (by simp)
 have hlz:=lt_of_block hz1.2;clear hz hbZ hb1 hz1;go_wp2_with fail;generalize w1.alloc (.cells #[I .u8 118,I J R.id,Y (some ⟨bl,0,O⟩) R.lives.length cl,I J R.epoch,I J R.view,I J 0,I J 0,I J 0,Z ⟨#[]⟩,I J 0,I J 0,I J 0,Y O 0 0,Y O 0 0,Y O 0 0] 68)=wA at *;refine (HLi.out _ hbA).mono ?_;rintro e w2 ⟨vli,rfl,hown2,hb2⟩;obtain⟨al,cl2,rfl⟩:=au hown2
 have hb02:Below w.heap.size w w2:=hbA.trans (hb2.mono hbA.size)
 have hM2:bB w2 w1.heap.size #[I .u8 118,I J R.id,Y (some ⟨bl,0,O⟩) R.lives.length cl,I J R.epoch,I J R.view,I J 0,I J 0,I J 0,Z ⟨#[]⟩,I J 0,I J 0,I J 0,Y O 0 0,Y O 0 0,Y O 0 0]:=hMA.kp (S:=[]) (Kp.of_below hb2) (by simp)
 have hz2:bB w2 w.heap.size #[I .u8 0,I J 0,Y O 0 0,I J 0,I J 0,I J 0,I J 0,I J 0,Z ⟨#[]⟩,I J 0,I J 0,I J 0,Y O 0 0,Y O 0 0,Y O 0 0]:=hzA.kp (S:=[]) (Kp.of_below hb2) (by simp)
 have h2:=h.below hb02;have c6:=h2.c6;have c10:=h2.c10;have hlb:=h.lb;have hne:¬b=w1.heap.size:=by have:=hb01.size;omega
 have hne2:¬w1.heap.size=b:=by have:=hb01.size;omega
 have hgn:w.heap.size≤w1.heap.size:=hb01.size
 have kS:Kp [w1.heap.size] w2 (((w2.setCell ⟨w1.heap.size,2,O⟩ (Y al R.lives.length cl2)).setCell ⟨w1.heap.size,10,O⟩ (I J R.normal)).setCell ⟨w1.heap.size,9,O⟩ (I J (R.decided:Int))):=(((Kp.refl _ w2).set _ 2 _ (.inl (by simp))).set _ 10 _ (.inl (by simp))).set _ 9 _ (.inl (by simp))
 have hbS:Below w.heap.size w (((w2.setCell ⟨w1.heap.size,2,O⟩ (Y al R.lives.length cl2)).setCell ⟨w1.heap.size,10,O⟩ (I J R.normal)).setCell ⟨w1.heap.size,9,O⟩ (I J (R.decided:Int))):=Below.setCell (p:=⟨w1.heap.size,9,O⟩) (Below.setCell (p:=⟨w1.heap.size,10,O⟩) (Below.setCell (p:=⟨w1.heap.size,2,O⟩) hb02 hgn _) hgn _) hgn _
 have hMS:bB (((w2.setCell ⟨w1.heap.size,2,O⟩ (Y al R.lives.length cl2)).setCell ⟨w1.heap.size,10,O⟩ (I J R.normal)).setCell ⟨w1.heap.size,9,O⟩ (I J (R.decided:Int))) w1.heap.size #[I .u8 118,I J R.id,Y al R.lives.length cl2,I J R.epoch,I J R.view,I J 0,I J 0,I J 0,Z ⟨#[]⟩,I J (R.decided:Int),I J R.normal,I J 0,Y O 0 0,Y O 0 0,Y O 0 0]:=by
  have q:=((hM2.set 2 (Y al R.lives.length cl2)).set 10 (I J R.normal)).set 9 (I J (R.decided:Int))
  simpa using q
 have hzS:=hz2.kp kS (by simp;omega)
 have hownS:World.ownsRow _ w.heap.size 3 1 (Y al R.lives.length cl2) R.lives.length (R.lives.map (Value.int .i64)):=dV (dO hown2 hbA.size) kS (by
  intro k hk hc;simp at hc;subst hc;have:=(hown2.lt _ hk).1
  have:=lt_of_block hMA.2
  omega)
 obtain⟨x0,x1,x2,x3,x4,x5,x6,x7,x8,x9,x10,x11,x12,x13,x14,xf⟩:=hM2.all
 clear hown2 hM2 hz2 hMA hzA hb2 kS;go_wp2_with fail;generalize ((w2.setCell ⟨w1.heap.size,2,O⟩ (Y al R.lives.length cl2)).setCell ⟨w1.heap.size,10,O⟩ (I J R.normal)).setCell ⟨w1.heap.size,9,O⟩ (I J (R.decided:Int))=wS at *;clear x0 x1 x2 x3 x4 x5 x6 x7 x8 x9 x10 x11 x12 x13 x14 xf c6 c10;refine (HLo.out _ hbS).mono ?_;rintro e w3 ⟨vlo,rfl,hown3,hb3⟩;obtain⟨aL,cL,rfl⟩:=au hown3
 have hM3:bB w3 w1.heap.size #[I .u8 118,I J R.id,Y al R.lives.length cl2,I J R.epoch,I J R.view,I J 0,I J 0,I J 0,Z ⟨#[]⟩,I J (R.decided:Int),I J R.normal,I J 0,Y O 0 0,Y O 0 0,Y O 0 0]:=hMS.kp (S:=[]) (Kp.of_below hb3) (by simp)
 have hz3:bB w3 w.heap.size #[I .u8 0,I J 0,Y O 0 0,I J 0,I J 0,I J 0,I J 0,I J 0,Z ⟨#[]⟩,I J 0,I J 0,I J 0,Y O 0 0,Y O 0 0,Y O 0 0]:=hzS.kp (S:=[]) (Kp.of_below hb3) (by simp)
 have hl1:=lt_of_block hMS.2;have k4:Kp [w1.heap.size] w3 (w3.setCell ⟨w1.heap.size,14,O⟩ (Y aL R.log.length cL)):=(Kp.refl _ w3).set _ 14 _ (.inl (by simp))
 have hz4:=hz3.kp k4 (by simp;omega)
 have hM4:bB (w3.setCell ⟨w1.heap.size,14,O⟩ (Y aL R.log.length cL)) w1.heap.size #[I .u8 118,I J R.id,Y al R.lives.length cl2,I J R.epoch,I J R.view,I J 0,I J 0,I J 0,Z ⟨#[]⟩,I J (R.decided:Int),I J R.normal,I J 0,Y O 0 0,Y O 0 0,Y aL R.log.length cL]:=by
  have q:=hM3.set 14 (Y aL R.log.length cL)
  simpa using q
 have hb4:Below w.heap.size w (w3.setCell ⟨w1.heap.size,14,O⟩ (Y aL R.log.length cL)):=Below.setCell (p:=⟨w1.heap.size,14,O⟩) (hbS.trans (hb3.mono hbS.size)) hgn _
 have hownI:=dV (gM hownS (Kp.of_below (S:=[]) hb3) (by simp)) k4 (by
  intro k hk hc;simp at hc;subst hc;have q:=hownS.2;rcases q with ⟨q,_⟩|⟨g,cap,cur,q,q1,q2,q3⟩
  ·rw[q] at hk;simp[Value.ownBlock] at hk
  ·rw[q] at hk;simp[Value.ownBlock] at hk;subst hk;rw[hMS.2] at q2;simp at q2)
 have hownL:=dV (dO hown3 hbS.size) k4 (by
  intro k hk hc;simp at hc;subst hc;have:=(hown3.lt _ hk).1
  omega)
 have HL:=ah (jv hz4 (I .u8 118) (I J R.id) (Y al R.lives.length cl2) (I J R.epoch) (I J R.view) (I J 0) (I J 0) (I J 0) (Z ⟨#[]⟩) (I J (R.decided:Int)) (I J R.normal) (I J 0) (Y O 0 0) (Y O 0 0) (Y aL R.log.length cL));have HB:=ah (eP (Nat.le_refl w.heap.size) [I .u8 118,I J R.id,Y al R.lives.length cl2,I J R.epoch,I J R.view,I J 0,I J 0,I J 0,Z ⟨#[]⟩,I J (R.decided:Int),I J R.normal,I J 0,Y O 0 0,Y O 0 0,Y aL R.log.length cL] _ 0 hb4);have HK:=ah (kK (g:=w.heap.size) [I .u8 118,I J R.id,Y al R.lives.length cl2,I J R.epoch,I J R.view,I J 0,I J 0,I J 0,Z ⟨#[]⟩,I J (R.decided:Int),I J R.normal,I J 0,Y O 0 0,Y O 0 0,Y aL R.log.length cL] (w3.setCell ⟨w1.heap.size,14,O⟩ (Y aL R.log.length cL)) 0);rw[← jP] at HL HB HK;have HI:Hid (∀ w',Kp [w.heap.size] (w3.setCell ⟨w1.heap.size,14,O⟩ (Y aL R.log.length cL)) w'→w'.ownsRow w.heap.size 3 1 (Y al R.lives.length cl2) R.lives.length (R.lives.map (Value.int .i64))∧w'.ownsRow w.heap.size 66 3 (Y aL R.log.length cL) R.log.length (aA R.log)):=fun w' k=>⟨dV hownI k (Fr.gZ hownI hz4.2 (by decide)),dV hownL k (Fr.gZ hownL hz4.2 (by decide))⟩
 have HTh:=ah hz4.there;have HOne:Hid ((#[I .u8 118,I J R.id,Y al R.lives.length cl2,I J R.epoch,I J R.view,I J 0,I J 0,I J 0,Z ⟨#[]⟩,I J (R.decided:Int),I J R.normal,I J 0,Y O 0 0,Y O 0 0,Y aL R.log.length cL]:Array Value).all (·.oneCell')=true):=all_oneCell_toArray (cs:=[I .u8 118,I J R.id,Y al R.lives.length cl2,I J R.epoch,I J R.view,I J 0,I J 0,I J 0,Z ⟨#[]⟩,I J (R.decided:Int),I J R.normal,I J 0,Y O 0 0,Y O 0 0,Y aL R.log.length cL]) (by intro u hu;simp at hu;rcases hu with rfl|rfl|rfl|rfl|rfl|rfl|rfl|rfl|rfl|rfl|rfl|rfl|rfl|rfl|rfl <;> rfl)
 obtain⟨x0,x1,x2,x3,x4,x5,x6,x7,x8,x9,x10,x11,x12,x13,x14,xf⟩:=hM3.all
 obtain⟨y0,y1,y2,y3,y4,y5,y6,y7,y8,y9,y10,y11,y12,y13,y14,yf⟩:=hM4.all
 clear hownI hownL hz4 hz3 hM3 hM4 hzS hMS hownS hown3 hb3 k4 hb4;go_upto_region 6 with fail
 generalize w3.setCell ⟨w1.heap.size,14,O⟩ (Y aL R.log.length cL)=w4 at *;go_wp2_with (refine wpList_store_mid rfl 68 (.tmp 2) (.tmp 22) (by rfl) w.heap.size 0 #[I .u8 118,I J R.id,Y al R.lives.length cl2,I J R.epoch,I J R.view,I J 0,I J 0,I J 0,Z ⟨#[]⟩,I J (R.decided:Int),I J R.normal,I J 0,Y O 0 0,Y O 0 0,Y aL R.log.length cL] (by rfl) (by rfl) HTh.out Tryz.sizeMsg HOne.out ?_)
 go_wp2_with fail;refine bodyPost_ret (aZ rfl _ _ _ rfl HL.out) rfl ?_;exact⟨_,_,rfl,(HI.out _ HK.out).1,(HI.out _ HK.out).2,HB.out⟩
end
end Go.Proofs.YtajakaadgagejaaGreatDoor
