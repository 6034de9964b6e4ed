import Derived.Test.YtbnihoahhomooaaGreatDoorA12
import Derived.Test.YtbnihoahhomooaaGreatDoorA11
set_option maxRecDepth 100000
set_option maxHeartbeats 8000000
set_option linter.all false
namespace Go.Proofs.YtbnihoahhomooaaGreatDoor
open Go.Value renaming int→I,slice→Y,string→Z,pointer→Zp
open Go.Ending renaming returned→Zr
open _root_.ByteArray renaming empty→Ze
open Go.IntKind renaming i64→J
open Option renaming none→O
open Go.RowKit
section
variable {w:World} {b bl:Nat} {W F:List Nat} {R:Rp} {V:Rv}
theorem ay.LZ (h:ay w b bl W F R V):ay (w.setCells b 64 (#[.bool false,.bool false,.bool false,.bool false,.bool false,.bool false,.bool false]:Array Value).toList) b bl W F { R with started:=st0 } V:=by
 rw[kH];exact h.Po
theorem IG:(#[.bool false,.bool false,.bool false,.bool false,.bool false,.bool false,.bool false]:Array Value).all (·.oneCell')=true:=all_oneCell_toArray (cs:=[.bool false,.bool false,.bool false,.bool false,.bool false,.bool false,.bool false]) (by intro v hv;simp at hv;subst hv;rfl)
theorem Tryz.sizeSt7:(Tryz.prog.info? 61).map (·.size)=some 7:=by kernel_rfl
theorem LK (h:ay w b bl W F R V) (hR:Ok R) (he:R.epoch+1≤10) (v:Value) (g:List Int) (hv:Ints w v g) (hs:Sl W F v) (hg:fE R.n g) (ho:R.out.length≤700000) :
  Calls Tryz.prog 158 #[Zp (some ⟨b,0,O⟩),v] w fun e w'=>e=Zr (.tuple #[])∧Rst w w' b bl W F (R.turn g):=by
 obtain⟨ag,cg,hvg⟩:=h.g7
 obtain⟨av,cv,rfl,_,_⟩:=hv.shape
 have c7:=h.c7;have c8:=h.c8;have c4:=h.c4;have f7:=h.free 7;have f8:=h.free 8;have f4:=h.free 4;have h1:=h.LY V.vg R.grp h.grp h.sg;have h2:=h1.LX _ g (hv.kp (h.qo 8 V.vg) hs.fr) hs;have h3:=h2.Av (R.epoch+1);have hw4:IntKind.i64.wrap (R.epoch+1)=R.epoch+1:=fC (by have:=hR.ep;omega) (by omega)
 have HB:=ah (wN h3 0);have hk3:Kp W w (((w.setCell ⟨b,8,O⟩ V.vg).setCell ⟨b,7,O⟩ (Y av g.length cv)).setCell ⟨b,4,O⟩ (I J (R.epoch+1))):=(((Kp.refl W w).set b 8 _ (.inl h.wb)).set b 7 _ (.inl h.wb)).set b 4 _ (.inl h.wb)
 have HK3:=ah hk3;rw[hvg] at c7 HB HK3;have HT3:=ah (Rp.zX hR he hg);have hwb:=h.wb;have HG:Hid (R.turn g=if iQ g R.id then ({ ({ R with old:=R.grp,grp:=g,epoch:=R.epoch+1 }:Rp).begin_ 0 with started:=st0 }:Rp).bS.bH else ({ ({ ({ R with old:=R.grp,grp:=g,epoch:=R.epoch+1 }:Rp).begin_ 0 with started:=st0 }:Rp) with status:=5 }:Rp).bS):=rfl
 clear h1 h2 h3 hk3;go_enter Tryz.func158,Tryz.ntmps158;go_wp2_with fail;refine HB.out.mono ?_;rintro e w2 ⟨rfl,h4,k4⟩;have hk4:Kp W w w2:=HK3.out.trans' (k4.wid (by intro x hx;simp at hx;subst hx;exact hwb))
 have h5:=h4.LZ;have hth:=ah (h4.there 64 7 (by omega))
 have k5:Kp W w (w2.setCells b 64 (#[.bool false,.bool false,.bool false,.bool false,.bool false,.bool false,.bool false]:Array Value).toList):=hk4.trans' ((nK _ 64 (Kp.refl [b] w2)).wid (by intro x hx;simp at hx;subst hx;exact hwb))
 have d0:=h5.c0;have d3:=h5.c3;have df3:=h5.free 3;have HM:=ah (lV h5 HT3.out R.id);have HE5:Hid (Rp.mem { ({ R with old:=R.grp,grp:=g,epoch:=R.epoch+1 }:Rp).begin_ 0 with started:=st0 } R.id=iQ g R.id):=rfl
 have H5:=ah h5;have HK5:=ah k5;clear h5 k4 k5 hk4;go_upto_region 5 with (refine wpList_store_mid rfl 61 (.tmp 28) (.tmp 26) (by rfl) b 64 #[.bool false,.bool false,.bool false,.bool false,.bool false,.bool false,.bool false] (by rfl) (by rfl) hth.out Tryz.sizeSt7 IG ?_)
 generalize w2.setCells b 64 (#[.bool false,.bool false,.bool false,.bool false,.bool false,.bool false,.bool false]:Array Value).toList=wS at *;clear h4 hth;cases hm:iQ g R.id
 ·rw[show Rp.mem { ({ R with old:=R.grp,grp:=g,epoch:=R.epoch+1 }:Rp).begin_ 0 with started:=st0 } R.id=false from HE5.out.trans hm] at HM
  rw[hm] at HG;have HT:=ah (mW (H5.out.iW 5) (Rp.iH HT3.out (s:=5) (by decide)).ok (by simp only[Rp.begin_];omega))
  have HK6:=ah (HK5.out.set b 3 (I J 5) (.inl hwb));have H6:=ah (H5.out.iW 5);go_wp2_with fail;refine HM.out.mono ?_;rintro e w3 ⟨rfl,hw3⟩;subst hw3;go_wp2_with fail;refine HT.out.mono ?_;rintro e w4 ⟨rfl,hs4⟩;have HS4:=ah (Rst.pre HK6.out (Snt.rst H6.out hs4));clear hs4;go_wp2;exact bodyPost_end (results_none rfl _ _ _) rfl ⟨rfl,by rw[HG.out];exact HS4.out⟩
 ·rw[show Rp.mem { ({ R with old:=R.grp,grp:=g,epoch:=R.epoch+1 }:Rp).begin_ 0 with started:=st0 } R.id=true from HE5.out.trans hm] at HM
  rw[hm] at HG;have HT:=ah (mW H5.out HT3.out (by show R.out.length≤800000;omega))
  have HO1:=ah (Rp.gL HT3.out);go_wp2_with fail;refine HM.out.mono ?_;rintro e w3 ⟨rfl,hw3⟩;subst hw3;go_wp2_with fail;refine HT.out.mono ?_;rintro e w4 ⟨rfl,W4,F4,vt4,hs4⟩;have HS5:=ah (sS hs4.rp HO1.out.ok (Nat.le_trans HO1.out.out (by show R.out.length+5≤800000;omega)))
  have HR4:=ah (H5.out.kS hs4.kp);have HS4:=ah hs4;clear hs4;go_wp2_with fail;refine HS5.out.mono ?_;rintro e w5 ⟨rfl,hs5⟩;have HS6:=ah (Rst.pre HK5.out (Rst.step HR4.out HS4.out.mv (Snt.rst HS4.out.rp hs5)));clear hs5;go_wp2;exact bodyPost_end (results_none rfl _ _ _) rfl ⟨rfl,by rw[HG.out];exact HS6.out⟩
theorem uU (h:ay w b bl W F R V) (hR:Ok R) (qt:Int) (ho:R.out.length≤900000) :
  Calls Tryz.prog 138 #[Zp (some ⟨b,0,O⟩),I J qt] w fun e w'=>e=Zr (.tuple #[])∧Snt w w' b bl W F V (R.kM qt):=by
 obtain⟨cl,hvl⟩:=h.g2
 obtain⟨aL,cL,hvL⟩:=h.g9
 obtain⟨ag,cg,hvg⟩:=h.g7
 obtain⟨ao,co,hvo⟩:=h.g8
 have hl10:=hR.lg;have hsz:∀ e∈R.log,e.2.2.size≤1000:=fun e he=>by have:=(hR.le e he).2.2.2.2.2;omega
 have HH:=ah (rX h);rw[hvl,hvg,hvo,hvL] at HH;have HU:Hid (∀ w',Below w.heap.size w w'→Calls Tryz.prog 159 #[Y aL R.log.length cL,I J R.epoch] w' fun e w''=>∃ n c,e=Zr (Y aL n c)∧gW w'' (Y aL n c) (dW R.log R.epoch)∧Below w'.heap.size w' w''):=fun w' hb=>qj aL cL R.log R.epoch w' (by have:=(h.below hb).ents;rw[hvL] at this;exact this) (by omega) hsz
 have HSe:Hid (∀ w' n3 c3,Below w.heap.size w w'→gW w' (Y aL n3 c3) (dW R.log R.epoch)→Calls Tryz.prog 88 #[Zp (some ⟨b,0,O⟩),I J qt,.agg #[I .u8 115,I J R.id,Y (some ⟨bl,0,O⟩) R.lives.length cl,I J R.epoch,I J 0,I J 0,I J 0,I J 0,Z ⟨#[]⟩,I J (n3:Int),I J 0,I J 0,Y ag R.grp.length cg,Y ao R.old.length co,Y aL n3 c3]] w' fun e w''=>e=Zr (.tuple #[])∧Snt w w'' b bl W F V (R.kM qt)):=fun w' n3 c3 hb hE=>by
  have hn:n3=(dW R.log R.epoch).length:=by obtain⟨a',c',e',_⟩:=hE.shape;simp only[Value.slice.injEq] at e';exact e'.2.1
  have hw:=h.below hb;have hh:mg w' R.kg V.vl V.vg V.vo (Y aL n3 c3):=⟨hw.lives.rd,hw.grp,hw.old,hE⟩
  rw[hvl,hvg,hvo] at hh;have r:=mV hw qt R.kg _ _ _ _ ((O7 hR).pw hR) hh (by omega)
  rw[hn] at r ⊢;refine r.mono ?_;rintro e w'' ⟨rfl,hs⟩;exact⟨rfl,hs.pre hb⟩
 go_enter Tryz.func138,Tryz.ntmps138;go_wp2_with fail;refine HH.out.mono ?_;rintro e w1 ⟨rfl,hb1⟩;have h1:=h.below hb1;have d9:=h1.c9;have d4:=h1.c4;rw[hvL] at d9;have hlb:=h1.lb;have hal:=fun o=>(Below.refl w1.heap.size w1).alloc (Nat.le_refl _) o
 have m9:=fun o=>((hal o).cell (p:=⟨b,9,O⟩) hlb).trans d9
 have m4:=fun o=>((hal o).cell (p:=⟨b,4,O⟩) hlb).trans d4
 simp only[pmC,Rp.bf,Rp.head,pm0];go_wp2_with fail;have hM:dw (w1.alloc (.cells #[I .u8 115,I J R.id,Y (some ⟨bl,0,O⟩) R.lives.length cl,I J R.epoch,I J 0,I J 0,I J 0,I J 0,Z ⟨#[]⟩,I J (R.decided:Int),I J 0,I J 0,Y ag R.grp.length cg,Y ao R.old.length co,Y aL R.log.length cL] 68)) w1.heap.size #[I .u8 115,I J R.id,Y (some ⟨bl,0,O⟩) R.lives.length cl,I J R.epoch,I J 0,I J 0,I J 0,I J 0,Z ⟨#[]⟩,I J (R.decided:Int),I J 0,I J 0,Y ag R.grp.length cg,Y ao R.old.length co,Y aL R.log.length cL]:=⟨rfl,heap_alloc_new w1 _⟩
 have hbA:Below w.heap.size w (w1.alloc (.cells #[I .u8 115,I J R.id,Y (some ⟨bl,0,O⟩) R.lives.length cl,I J R.epoch,I J 0,I J 0,I J 0,I J 0,Z ⟨#[]⟩,I J (R.decided:Int),I J 0,I J 0,Y ag R.grp.length cg,Y ao R.old.length co,Y aL R.log.length cL] 68)):=hb1.trans ((hal _).mono hb1.size)
 have e9:=m9 (.cells #[I .u8 115,I J R.id,Y (some ⟨bl,0,O⟩) R.lives.length cl,I J R.epoch,I J 0,I J 0,I J 0,I J 0,Z ⟨#[]⟩,I J (R.decided:Int),I J 0,I J 0,Y ag R.grp.length cg,Y ao R.old.length co,Y aL R.log.length cL] 68);have e4:=m4 (.cells #[I .u8 115,I J R.id,Y (some ⟨bl,0,O⟩) R.lives.length cl,I J R.epoch,I J 0,I J 0,I J 0,I J 0,Z ⟨#[]⟩,I J (R.decided:Int),I J 0,I J 0,Y ag R.grp.length cg,Y ao R.old.length co,Y aL R.log.length cL] 68);have hs1:(w1.alloc (.cells #[I .u8 115,I J R.id,Y (some ⟨bl,0,O⟩) R.lives.length cl,I J R.epoch,I J 0,I J 0,I J 0,I J 0,Z ⟨#[]⟩,I J (R.decided:Int),I J 0,I J 0,Y ag R.grp.length cg,Y ao R.old.length co,Y aL R.log.length cL] 68)).heap.size=w1.heap.size+1:=by simp
 have HU1:=ah (HU.out _ (hbA.trans ((Below.refl _ _).drew.mono hbA.size)));clear m9 m4 d9 d4 hal h1;generalize w1.alloc (.cells #[I .u8 115,I J R.id,Y (some ⟨bl,0,O⟩) R.lives.length cl,I J R.epoch,I J 0,I J 0,I J 0,I J 0,Z ⟨#[]⟩,I J (R.decided:Int),I J 0,I J 0,Y ag R.grp.length cg,Y ao R.old.length co,Y aL R.log.length cL] 68)=wA at *;obtain⟨x0,x1,x2,x3,x4,x5,x6,x7,x8,x9,x10,x11,x12,x13,x14,xf⟩:=hM.all
 go_region_with (go_at_call 159;refine HU1.out.mono ?_;rintro e w3 ⟨n3,c3,rfl,hE3,hb3⟩;have hM3:dw w3 w1.heap.size #[I .u8 115,I J R.id,Y (some ⟨bl,0,O⟩) R.lives.length cl,I J R.epoch,I J 0,I J 0,I J 0,I J 0,Z ⟨#[]⟩,I J (R.decided:Int),I J 0,I J 0,Y ag R.grp.length cg,Y ao R.old.length co,Y aL R.log.length cL]:=hM.kp (S:=[]) (Kp.of_below (jc hb3)) (by simp);obtain⟨u0,u1,u2,u3,u4,u5,u6,u7,u8,u9,u10,u11,u12,u13,u14,uf⟩:=hM3.all)
 all_goals
  have hb03:Below w.heap.size w w3:=hbA.trans ((jc hb3).mono hbA.size)
  have hks:∀ v9 v14:Value,Below w.heap.size w ((w3.setCell ⟨w1.heap.size,14,O⟩ v14).setCell ⟨w1.heap.size,9,O⟩ v9):=fun v9 v14=>Below.setCell (p:=⟨w1.heap.size,9,O⟩) (Below.setCell (p:=⟨w1.heap.size,14,O⟩) hb03 hb1.size v14) hb1.size v9
  have hE5:∀ v9 v14:Value,gW ((w3.setCell ⟨w1.heap.size,14,O⟩ v14).setCell ⟨w1.heap.size,9,O⟩ v9) (Y aL n3 c3) (dW R.log R.epoch):=fun v9 v14=>by
   have k:Kp [w1.heap.size] w3 ((w3.setCell ⟨w1.heap.size,14,O⟩ v14).setCell ⟨w1.heap.size,9,O⟩ v9):=((Kp.refl _ _).set _ 14 _ (.inl (by simp))).set _ 9 _ (.inl (by simp))
   refine hE3.kp k (fun q hq hc=>?_)
   simp at hc;subst hc;have:=(h.ents.lt w1.heap.size (by rw[hvL];cases aL with
    | none=>simp[Value.ownBlock] at hq
    | some a=>simpa [Value.ownBlock] using hq))
   have:=hb1.size
   omega
  have HS1:=ah (HSe.out _ n3 c3 (hks (I J (n3:Int)) (Y aL n3 c3)) (hE5 _ _));clear hks hE5 hE3 hb03;go_wp2_with fail;refine HS1.out.mono ?_;rintro e w4 ⟨rfl,hs⟩;have HS:=ah hs;clear hs;go_wp2;exact bodyPost_end (results_none rfl _ _ _) rfl ⟨rfl,HS.out⟩
end
namespace Rp
theorem DY (r:Rp) (p:Int):r.aT p=if (r.decided:Int)<p∧r.decided<r.log.length then
  (if (r.carried (r.log.getD r.decided (0,0,⟨#[]⟩))).turns (r.log.getD r.decided (0,0,⟨#[]⟩)) then (r.carried (r.log.getD r.decided (0,0,⟨#[]⟩))).turn (qh (r.log.getD r.decided (0,0,⟨#[]⟩)) r.n) else (r.carried (r.log.getD r.decided (0,0,⟨#[]⟩))).aT p) else r:=by
 unfold aT;rw[qy,jE];by_cases h:(r.decided:Int)<p∧r.decided<r.log.length
 ·rw[if_pos h];obtain⟨f,hf⟩:∃ f,r.log.length-r.decided=f+1:=⟨r.log.length-r.decided-1,by omega⟩
  rw[hf,show r.log.length-(r.decided+1)=f by omega]
  conv=>lhs;unfold dZ
  rw[if_pos h]
 ·rw[if_neg h];cases hf:r.log.length-r.decided with
  | zero=>rfl
  | succ f=>unfold dZ;rw[if_neg h]
end Rp
section
variable {w:World} {b bl:Nat} {W F:List Nat} {R:Rp} {V:Rv}
theorem Mv.vY {w w':World} {W F W' F':List Nat} (h:Mv w W F W' F') (hs:w'.heap.size≤w.heap.size):Mv w' W F W' F':=⟨fun x hx=>(h.m x hx).imp (fun q=>q) (fun q=>Nat.le_trans hs q),h.f,fun x hx=>(h.g x hx).imp (fun q=>q) (fun q=>Nat.le_trans hs q)⟩
theorem DZ (vals:List Int) (op:ByteArray):(doS vals op).2.size≤1000:=by
 unfold doS
 (repeat' split) <;> first|exact (by decide:OKb.size≤1000)|exact (by decide:ql.size≤1000)|exact (by decide:NOb.size≤1000)|exact (show (1:Nat)≤1000 by omega)
theorem GV (h:ay w b bl W F R V) (hR:Ok R) (p:Int) (ho:R.out.length≤600000) :
  Calls Tryz.prog 133 #[Zp (some ⟨b,0,O⟩),I J p] w fun e w'=>e=Zr (.tuple #[])∧Rst w w' b bl W F (R.aT p):=by
 have HSt:=ah (fun r:Rp=>Rp.DY r p)
 have HG:Hid (∀ w',ay w' b bl W F R V→True):=fun _ _=>trivial
 go_enter Tryz.func133,Tryz.ntmps133;go_wp2_with fail;go_loopw [] (fun wr=>∃ (R1:Rp) (W1 F1:List Nat) (V1:Rv),ay wr b bl W1 F1 R1 V1∧Hid (Ok R1∧R.aT p=R1.aT p∧R1.log=R.log∧R1.out.length≤600000+R1.decided)∧Kp W w wr∧Mv w W F W1 F1) (fun wr=>R.log.length-(yS wr b 10).toNat)
 case atStart=>exact⟨R,W,F,V,h,⟨hR,rfl,rfl,by omega⟩,Kp.refl _ _,Mv.refl _ _ _⟩
 case round =>
  obtain⟨R1,W1,F1,V1,h1,HI,hk,hm⟩:=hrel
  have c9:=h1.c9;have c10:=h1.c10;obtain⟨aL,cL,hvL⟩:=h1.g9
  rw[hvL] at c9;by_cases q1:(R1.decided:Int)<p
  ·by_cases q2:R1.decided<R1.log.length
   ·have hE:=h1.ents;rw[hvL] at hE;obtain⟨be,oe,hae,hbe,e0,e1,e2⟩:=hE.get R1.decided q2
    subst hae;have q2':(R1.decided:Int)<(R1.log.length:Int):=by omega
    have j0:(0:Int)≤(R1.decided:Int):=by omega
    have hgD:R1.log.getD R1.decided (0,0,⟨#[]⟩)=R1.log[R1.decided]:=by simp[List.getD,q2]
    have HEm:Hid (jd R1.n R1.log[R1.decided]):=HI.out.1.le _ (List.getElem_mem _)
    have HST:Hid (R.aT p=if (R1.carried R1.log[R1.decided]).turns R1.log[R1.decided] then (R1.carried R1.log[R1.decided]).turn (Rp.qh R1.log[R1.decided] R1.n) else (R1.carried R1.log[R1.decided]).aT p):=by
     unfold Hid;rw[HI.out.2.1,HSt.out R1,if_pos ⟨q1,q2⟩,hgD]
    have HD10:Hid (R1.decided+1≤10∧R1.decided+1≤R1.log.length):=⟨by have:=HI.out.1.lg;omega,q2⟩
    clear hgD hE;generalize hEe:R1.log[R1.decided]=E at *;have HEe:=ah hEe;clear hEe;have HC0:Hid (yS wr b 10=(R1.decided:Int)):=by unfold Hid yS;rw[c10]
    have HF:=ah h1;go_wp2_with fail;go_quiet (fail);rename_i nq;have h0:=HF.out.drewN nq;have hk0:=hk.aS (below_drewN (Below.refl _ wr) nq);have hbq:Below wr.heap.size wr (wr.drewN nq):=below_drewN (Below.refl _ wr) nq
    have f0:=(hbq.cell (p:=⟨be,oe+R1.decided*3,O⟩) hbe).trans e0;have f1:=(hbq.cell (p:=⟨be,oe+R1.decided*3+1,O⟩) hbe).trans e1;have f2:=(hbq.cell (p:=⟨be,oe+R1.decided*3+2,O⟩) hbe).trans e2;have hmq:Mv w W F W1 F1:=hm
    have hbe0:be<(wr.drewN nq).heap.size:=Nat.lt_of_lt_of_le hbe hbq.size
    clear e0 e1 e2 c9 c10 HF h1 hk hbe hbq;generalize wr.drewN nq=w0 at *;have c9:=h0.c9;have c10:=h0.c10;rw[hvL] at c9;have hlb:=h0.lb;have hal:=fun o=>(Below.refl w0.heap.size w0).alloc (Nat.le_refl _) o
    have m9:=fun o=>((hal o).cell (p:=⟨b,9,O⟩) hlb).trans c9
    have m10:=fun o=>((hal o).cell (p:=⟨b,10,O⟩) hlb).trans c10
    have me0:=fun o=>((hal o).cell (p:=⟨be,oe+R1.decided*3,O⟩) hbe0).trans f0
    have me1:=fun o=>((hal o).cell (p:=⟨be,oe+R1.decided*3+1,O⟩) hbe0).trans f1
    have me2:=fun o=>((hal o).cell (p:=⟨be,oe+R1.decided*3+2,O⟩) hbe0).trans f2
    go_upto_region 1 with fail
    go_cut [4] from 7 to 83 (fun p wx=>∃ bE,p=Zp (some ⟨bE,0,O⟩)∧Below w0.heap.size w0 wx∧w0.heap.size≤bE∧wx.heap[bE]? = some (.cells #[I J E.1,I J E.2.1,Z E.2.2] 66 (0,0)))
    case first =>
     go_region
     all_goals go_wp2_with fail
     all_goals go_meet
     all_goals exact⟨_,rfl,((Below.refl _ w0).alloc (Nat.le_refl _) _).drew,Nat.le_refl _,heap_alloc_new w0 _⟩
    case rest =>
     obtain⟨bE,rfl,hb1,hbE,hqE⟩:=hcut
     obtain⟨wA,HwA⟩:∃ x,x=wc:=⟨_,rfl⟩
     subst HwA;clear c9 c10 f0 f1 f2 m9 m10 me0 me1 me2 hal hbe0;have hc1:=h0.below hb1;have hkc1:=hk0.aS hb1;have hEn:=HEm.out;have HCk:=ah (fun (d:Nat)=>vF ((hc1.below (below_drewN (Below.refl _ wA) d)).sv) E.1 E.2.1 E.2.2 (by have:=hEn.2.2.2.2.2;unfold maxLen;omega) hEn.small hEn.1 hEn.2.1)
     have x0:wA.cell? ⟨bE,0,O⟩=some (I J E.1):=by simp[World.cell?,hqE]
     have x1:wA.cell? ⟨bE,1,O⟩=some (I J E.2.1):=by simp[World.cell?,hqE]
     have x2:wA.cell? ⟨bE,2,O⟩=some (Z E.2.2):=by simp[World.cell?,hqE]
     have hbEb:bE≠b:=by omega
     have HQE:=ah hqE;clear hqE;go_upto_region 2 with fail
     go_cut [5] from 7 to 83 (fun p wx=>p=Z (doS R1.sv.vals E.2.2).2∧ay wx b bl W1 F1 { R1 with sv:=lG R1.sv E } V1∧Kp [b] wA wx)
     case first =>
      go_region_with (go_at_call 157;refine (HCk.out 1).mono ?_;rintro e w3 ⟨rfl,hs3,k3⟩)
      all_goals
       have hr3:=(hc1.below (below_drewN (Below.refl _ wA) 1)).L8 hs3 k3;have hk3:Kp [b] wA w3:=(Kp.of_below (below_drewN (Below.refl _ wA) 1)).trans' k3
       have H3:=ah hr3;have HK3:=ah hk3;clear hr3 hk3 hs3 k3;go_wp2_with fail;go_meet;exact⟨rfl,H3.out,HK3.out⟩
     case rest =>
      obtain⟨rfl,hr3,hk3⟩:=hcut
      obtain⟨wc3,HwA⟩:∃ x,x=wc:=⟨_,rfl⟩
      subst HwA;clear HCk x0 x1 x2;have hqE3:wc3.heap[bE]? = some (.cells #[I J E.1,I J E.2.1,Z E.2.2] 66 (0,0)):=(hk3.block bE (lt_of_block HQE.out) (by simpa using hbEb)).trans HQE.out
      have d10:=hr3.c10;have df10:=hr3.free 10;have hD:ay (wc3.setCell ⟨b,10,O⟩ (I J ((R1.decided:Int)+1))) b bl W1 F1 (R1.mq E) V1:=by
       have q:=hr3.tV (R1.decided+1);rw[show (((R1.decided+1:Nat)):Int)=(R1.decided:Int)+1 by omega] at q
       exact q
      have hKD:Kp W w (wc3.setCell ⟨b,10,O⟩ (I J ((R1.decided:Int)+1))):=(hkc1.mv hmq (hk3.wid (by intro x hx;simp at hx;subst hx;exact hr3.wb))).mv hmq ((hr3.k1 _ _).wid (by intro x hx;simp at hx;subst hx;exact hr3.wb))
      have hKb:Kp [b] wc3 (wc3.setCell ⟨b,10,O⟩ (I J ((R1.decided:Int)+1))):=hr3.k1 _ _
      have hqD:=(hKb.block bE (lt_of_block hqE3) (by simpa using hbEb)).trans hqE3
      have hw10:IntKind.i64.wrap ((R1.decided:Int)+1)=(R1.decided:Int)+1:=fC (by omega) (by have:=HD10.out.1;omega)
      have HGc:=ah (Rp.BK HI.out.1 q2 E);have HLd:=ah (wT hD HGc.out.ok);have HDD:=ah hD;have HKD:=ah hKD;have HqD:=ah hqD;clear hD hKD hKb hqD hqE3 hr3 hk3;go_wp2_with fail;generalize wc3.setCell ⟨b,10,O⟩ (I J ((R1.decided:Int)+1))=wD at *;refine HLd.out.mono ?_;rintro e w4 ⟨rfl,n4,rfl⟩;have h4:=HDD.out.drewN n4;have hk4:=HKD.out.aS (below_drewN (Below.refl _ wD) n4);have hq4:(wD.drewN n4).heap[bE]? = some (.cells #[I J E.1,I J E.2.1,Z E.2.2] 66 (0,0)):=((below_drewN (Below.refl wD.heap.size wD) n4).block bE (lt_of_block HqD.out)).trans HqD.out
      clear HDD HKD HqD HLd;generalize wD.drewN n4=w4 at *;have x0:w4.cell? ⟨bE,0,O⟩=some (I J E.1):=by simp[World.cell?,hq4]
      have x1:w4.cell? ⟨bE,1,O⟩=some (I J E.2.1):=by simp[World.cell?,hq4]
      have HC:Hid (R1.carried E=if (R1.mq E).leads then (R1.mq E).reply E.1 E.2.1 (doS R1.sv.vals E.2.2).2 else R1.mq E):=rfl
      have hEn:=HEm.out;have HRp:=ah (Cj h4 E.1 E.2.1 (doS R1.sv.vals E.2.2).2 ⟨hEn.1,hEn.2.1⟩ ⟨by have:=hEn.2.2.1;omega,hEn.2.2.2.1⟩ (DZ _ _) (by have:=HI.out.2.2.2;have:=HD10.out.1;show R1.out.length≤1000000;omega))
      go_upto_if 48 with fail
      go_cut [] from 7 to 83 (fun wx=>∃ W2 F2 V2,ay wx b bl W2 F2 (R1.carried E) V2∧Kp W w wx∧Mv w W F W2 F2∧wx.heap[bE]? = some (.cells #[I J E.1,I J E.2.1,Z E.2.2] 66 (0,0)))
      case first =>
       cases hl:(R1.mq E).leads
       ·rw[hl] at HC;have H4:=ah h4;go_wp2_with fail;go_meet;exact⟨W1,F1,V1,by rw[HC.out];exact H4.out,hk4,hmq,hq4⟩
       ·rw[hl] at HC;have H4:=ah h4;go_wp2_with fail;refine HRp.out.mono ?_;rintro e w5 ⟨rfl,W5,F5,vt5,hs5⟩;have HS5:=ah hs5;clear hs5;go_wp2_with fail;go_meet;have hkS:=H4.out.kS HS5.out.kp;exact⟨W5,F5,_,by rw[HC.out];exact HS5.out.rp,hk4.mv hmq hkS,hmq.trans HS5.out.mv hk4.size,(HS5.out.kp.block bE (lt_of_block hq4) (by
         intro hc;rcases List.mem_cons.1 hc with hc|hc
         ·exact hbEb hc
         ·have q:=H4.out.wf bE (H4.out.wt bE (by simpa using hc))
          have:=h0.fl bE q
          omega)).trans hq4⟩
      case rest =>
       obtain⟨W2,F2,V2,h6,hk6,hm6,hq6⟩:=hcut
       obtain⟨w6,HwA⟩:∃ x,x=wc:=⟨_,rfl⟩
       subst HwA;clear h4 hk4 hq4 x0 x1 HRp HC;have HG2:Hid (Ok (R1.carried E)∧(R1.carried E).n=R1.n∧(R1.carried E).decided=R1.decided+1∧(R1.carried E).out.length≤600000+(R1.carried E).decided∧(R1.carried E).epoch=R1.epoch∧(R1.carried E).log=R.log):=by
        have q:=Rp.kr HI.out.1 q2 E;refine⟨q.ok,q.n,Rp.jE E,?_,Rp.jy E,(Rp.qy E).trans HI.out.2.2.1⟩
        have:=q.out
        have:=HI.out.2.2.2
        rw[Rp.jE];omega
       have HST2:Hid (R.aT p=if (R1.carried E).turns E then (R1.carried E).turn (Rp.qh E R1.n) else (R1.carried E).aT p):=HST.out
       generalize R1.carried E=R2 at *;clear HST;have c4:=h6.c4;have c9:=h6.c9;have c10:=h6.c10;obtain⟨aL2,cL2,hvL2⟩:=h6.g9
       obtain⟨_,_,he',hcl,hcm⟩:=h6.ents.shape
       rw[hvL2] at he';simp only[Value.slice.injEq] at he';obtain⟨-,-,rfl⟩:=he'
       rw[hvL2] at c9;have hEn:=HEm.out;have i1:(0:Int)≤(R2.decided:Int):=by omega
       have i2:(R2.decided:Int)≤(cL2:Int):=by have:=HG2.out.1.dc;omega
       have HI2:Hid (∀ w,Calls Tryz.prog 75 #[.agg #[I J E.1,I J E.2.1,Z E.2.2]] w fun e w'=>e=Zr (.bool (eT E))∧Below w.heap.size w w'):=fun w=>kG E.1 E.2.1 E.2.2 w (by have:=hEn.2.2.2.2.2;unfold maxLen;omega)
       have HR2:Hid (∀ w',Below w6.heap.size w6 w'→Calls Tryz.prog 81 #[Y aL2 R2.decided cL2] w' fun e w''=>e=Zr (I J (regs (R2.log.take R2.decided):Int))∧Below w'.heap.size w' w''):=fun w' hb=>by
        have hE:=(h6.below hb).ents;rw[hvL2] at hE;have hd:=HG2.out.2.2.1;exact pR _ (R2.log.take R2.decided) w' (Ir hE R2.decided HG2.out.1.dc (by omega)) (by have:=HG2.out.1.lg;simp;omega) (fun e he=>by have:=(HG2.out.1.le e (List.mem_of_mem_take he)).2.2.2.2.2;omega)
       have x0:w6.cell? ⟨bE,0,O⟩=some (I J E.1):=by simp[World.cell?,hq6]
       have x1:w6.cell? ⟨bE,1,O⟩=some (I J E.2.1):=by simp[World.cell?,hq6]
       have x2:w6.cell? ⟨bE,2,O⟩=some (Z E.2.2):=by simp[World.cell?,hq6]
       have k4:=cell_regrown c4;have k9:=cell_regrown c9;have k10:=cell_regrown c10;have kx0:=cell_regrown x0;have kx1:=cell_regrown x1;have kx2:=cell_regrown x2;have cI:=fun d os=>Calls.regrown_of (w:=w6) (d:=d) (os:=os) (HI2.out _)
       have cR:=fun d os=>Calls.regrown_of (w:=w6) (d:=d) (os:=os) (HR2.out _ (below_regrown w6 d os))
       have HTn:Hid (R2.turns E=(eT E&&decide (R2.epoch<(regs (R2.log.take R2.decided):Int)))):=rfl
       cases hrg:eT E
       ·have HT2:Hid (R2.turns E=false):=by unfold Hid;rw[HTn.out,hrg];rfl
        rw[hrg] at cI;go_wp2_with fail;refine wp_region_quiet_below (by kernel_rfl) (by kernel_rfl) ?_
        repeat (go_big_quiet_step (first|exact cI _ _|exact cR _ _))
        refine wpQuiet_nil ?_;intro w7 hw';have hb7:Below w6.heap.size w6 w7:=by
         obtain⟨⟨dq,osq⟩,hw''⟩:=hw'
         rw[hw''];exact below_regrown w6 dq osq
        clear hw' cI cR k4 k9 k10 kx0 kx1 kx2;have H7:=ah (h6.below hb7);have HK7:=ah (hk6.aS hb7);go_wp2;go_roundw
        case rel=>exact⟨R2,W2,F2,V2,H7.out,⟨HG2.out.1,by rw[HST2.out,if_neg (by rw[HT2.out];simp)],HG2.out.2.2.2.2.2,HG2.out.2.2.2.1⟩,HK7.out,hm6⟩
        case measure =>
         have e7:yS w7 b 10=(R2.decided:Int):=by unfold yS;rw[H7.out.c10]
         have e0:=HC0.out;have:=HG2.out.2.2.1
         have:=HD10.out.2
         have h2:=HG2.out.2.2.2.2.2;have h3:=HI.out.2.2.1;have h4:R1.log.length=R.log.length:=by rw[h3]
         rw[e7,e0];omega
       ·rw[hrg] at cI;by_cases hlt:R2.epoch<(regs (R2.log.take R2.decided):Int)
        focus
         have HT2:Hid (R2.turns E=true):=by unfold Hid;rw[HTn.out,hrg,decide_eq_true hlt];rfl
        rotate_left
        focus
         have HT2:Hid (R2.turns E=false):=by unfold Hid;rw[HTn.out,hrg,decide_eq_false hlt];rfl
        rotate_left
        all_goals
         go_wp2_with fail;refine wp_region_quiet_below (by kernel_rfl) (by kernel_rfl) ?_
         repeat (go_big_quiet_step (first|exact cI _ _|exact cR _ _))
         refine wpQuiet_nil ?_;intro w7 hw';have hb7:Below w6.heap.size w6 w7:=by
          obtain⟨⟨dq,osq⟩,hw''⟩:=hw'
          rw[hw''];exact below_regrown w6 dq osq
         clear hw' cI cR k4 k9 k10 kx0 kx1 kx2
        ·have h7:=h6.below hb7;have hk7:=hk6.aS hb7;have hq7:=(hb7.block bE (lt_of_block hq6)).trans hq6;have z0:w7.cell? ⟨bE,0,O⟩=some (I J E.1):=by simp[World.cell?,hq7]
         have z1:w7.cell? ⟨bE,1,O⟩=some (I J E.2.1):=by simp[World.cell?,hq7]
         have z2:w7.cell? ⟨bE,2,O⟩=some (Z E.2.2):=by simp[World.cell?,hq7]
         have z3:=h7.c1;have HNx:Hid (∀ w',Calls Tryz.prog 45 #[.agg #[I J E.1,I J E.2.1,Z E.2.2],I J R2.n] w' fun e w''=>∃ v,e=Zr v∧w''.ownsRow w'.heap.size 3 1 v (Rp.qh E R2.n).length ((Rp.qh E R2.n).map (Value.int .i64))∧Below w'.heap.size w' w''):=fun w'=>(nV E.1 E.2.1 E.2.2 R2.n w' (by have:=hEn.2.2.2.2.2;unfold maxLen;omega)).mono (fun e w'' q=>by
          obtain⟨v,q1,q2,_,q3⟩:=q
          exact⟨v,q1,q2 hrg,q3⟩)
         have HST3:Hid (R.aT p=R2.turn (Rp.qh E R2.n)):=by unfold Hid;rw[HST2.out,if_pos HT2.out,HG2.out.2.1]
         have H7:=ah h7;clear x0 x1 x2 c4 c9 c10 hq6 hq7 h7;go_wp2_with fail;go_region_with (go_at_call 45;refine (HNx.out _).mono ?_;rintro e w8 ⟨v8,rfl,hown8,hb8⟩)
         all_goals
          have hb8':Below w7.heap.size w7 w8:=jc hb8
          obtain⟨F8,h8,hsl8,hmv8⟩:=Sl.fresh H7.out hb8' hown8
          have HTu:=ah (LK h8 HG2.out.1 (Rp.AJ HG2.out.1 HT2.out) v8 (Rp.qh E R2.n) (Rd.bR hown8) hsl8 (rC _ _) (by have:=HG2.out.2.2.2.1;have:=HG2.out.1.dc;have:=HG2.out.1.lg;omega))
          have HK8:=ah (hk7.aS hb8');have HM8:=ah (hm6.trans (hmv8.vY (Nat.le_refl _)) (Nat.le_trans hk6.size hb7.size));clear h8 hsl8 hmv8 hown8 hb8 hb8' z0 z1 z2 z3;go_wp2_with fail;refine HTu.out.mono ?_;rintro e w9 ⟨rfl,hs9⟩;have HS9:=ah (Rst.step HK8.out HM8.out hs9);clear hs9;go_wp2;exact bodyPost_ret (results_none rfl _ _ _) rfl ⟨rfl,by rw[HST3.out];exact HS9.out⟩
        ·have H7:=ah (h6.below hb7);have HK7:=ah (hk6.aS hb7);go_wp2;go_roundw
         case rel=>exact⟨R2,W2,F2,V2,H7.out,⟨HG2.out.1,by rw[HST2.out,if_neg (by rw[HT2.out];simp)],HG2.out.2.2.2.2.2,HG2.out.2.2.2.1⟩,HK7.out,hm6⟩
         case measure =>
          have e7:yS w7 b 10=(R2.decided:Int):=by unfold yS;rw[H7.out.c10]
          have e0:=HC0.out;have:=HG2.out.2.2.1
          have:=HD10.out.2
          have h2:=HG2.out.2.2.2.2.2;have h3:=HI.out.2.2.1;have h4:R1.log.length=R.log.length:=by rw[h3]
          rw[e7,e0];omega
   ·have q2':¬(R1.decided:Int)<(R1.log.length:Int):=by omega
    have HZ:Hid (R.aT p=R1):=by unfold Hid;rw[HI.out.2.1,HSt.out R1,if_neg (by omega)]
    have HF:=ah h1;go_wp2_with fail;go_quiet (fail);rename_i nq;have HF2:=ah (HF.out.drewN nq);have HK2:=ah (hk.aS (below_drewN (Below.refl _ wr) nq));go_wp2;exact bodyPost_end (results_none rfl _ _ _) rfl ⟨rfl,W1,F1,V1,by rw[HZ.out];exact HF2.out,HK2.out,hm⟩
  ·have HZ:Hid (R.aT p=R1):=by unfold Hid;rw[HI.out.2.1,HSt.out R1,if_neg (by omega)]
   have HF:=ah h1;have hd1:decide ((R1.decided:Int)<p)=false:=decide_eq_false q1
   go_wp2_with fail;go_quiet (fail);rename_i nq;have HF2:=ah (HF.out.drewN nq);have HK2:=ah (hk.aS (below_drewN (Below.refl _ wr) nq));go_wp2;exact bodyPost_end (results_none rfl _ _ _) rfl ⟨rfl,W1,F1,V1,by rw[HZ.out];exact HF2.out,HK2.out,hm⟩
end
end Go.Proofs.YtbnihoahhomooaaGreatDoor
