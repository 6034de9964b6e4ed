import Derived.Test.YtajakaadgagejaaGreatDoorA31
set_option maxRecDepth 100000
set_option maxHeartbeats 8000000
set_option linter.unusedVariables false
set_option linter.unusedSimpArgs false
set_option linter.unusedSectionVars false
namespace Go.Proofs.YtajakaadgagejaaGreatDoor
open Go.Value renaming int→I,slice→Y,string→Z,pointer→Zp
open Go.Ending renaming returned→Zr
open _root_.ByteArray renaming empty→Ze
open Go.IntKind renaming i64→J
open Option renaming none→O
open Go.RowKit
theorem Jv (s:ByteArray) (c:Int):1≤(bX s c).length:=by unfold bX;simp
theorem Ju (s:ByteArray) (c:Int):(bX s c).length≤s.size+1:=by
 unfold bX;rw[List.length_append];have:=(xg s c s.size).2
 simp;omega
def jQ (w w':World) (t:ByteArray) (n:Int) (e:Ending):Prop :=
 Below w.heap.size w w'∧∃ P vl vg vo vL,e=Zr (.tuple #[.agg (pmC P vl vg vo vL),.bool (decide (aU t n≠[]))])∧uK w' w.heap.size P vl vg vo vL∧(aU t n≠[]→uX n (aU t n) P)
theorem IC (t:ByteArray) (n:Int) (w:World) (hn3:3≤n) (hn7:n≤7):Calls Tryz.prog 18 #[Z t,I J n] w fun e w'=>jQ w w' t n e:=by
 have hb0:Below w.heap.size w (w.alloc (.cells #[I .u8 0,I J 0,Y O 0 0,I J 0,I J 0,I J 0,I J 0,I J 0,Z ⟨#[]⟩,I J 0,I J 0,I J 0,Y O 0 0,Y O 0 0,Y O 0 0] 68)):=(Below.refl _ w).alloc (Nat.le_refl _) _
 have hz0:bB (w.alloc (.cells #[I .u8 0,I J 0,Y O 0 0,I J 0,I J 0,I J 0,I J 0,I J 0,Z ⟨#[]⟩,I J 0,I J 0,I J 0,Y O 0 0,Y O 0 0,Y O 0 0] 68)) w.heap.size (iy 0):=⟨rfl,heap_alloc_new w _⟩
 by_cases h4:400<t.size
 ·have h4i:(400:Int)<(t.size:Int):=by omega
  have HW:Hid (aU t n=[]):=by unfold Hid aU;rw[if_pos h4]
  have HP:Hid (∀ e w',Below w.heap.size w w'→e=Zr (.tuple #[.agg (pmC ⟨0,0,[],0,0,0,(0,0,⟨#[]⟩),0,0,0,[],[],[]⟩ (Y O 0 0) (Y O 0 0) (Y O 0 0) (Y O 0 0)),.bool false])→jQ w w' t n e):=fun e w' hb he =>
   ⟨hb,⟨0,0,[],0,0,0,(0,0,⟨#[]⟩),0,0,0,[],[],[]⟩,_,_,_,_,by rw[he,HW.out];simp,⟨World.ownsRow_nil _ _ _ _,World.ownsRow_nil _ _ _ _,World.ownsRow_nil _ _ _ _,World.ownsRow_nil _ _ _ _⟩,fun hc=>absurd HW.out hc⟩
  generalize jQ w=RP at *;go_enter Tryz.func18,Tryz.ntmps18;go_upto_region 1 with fail
  generalize w.alloc (.cells #[I .u8 0,I J 0,Y O 0 0,I J 0,I J 0,I J 0,I J 0,I J 0,Z ⟨#[]⟩,I J 0,I J 0,I J 0,Y O 0 0,Y O 0 0,Y O 0 0] 68)=wA at *;have hz1:bB wA w.heap.size #[I .u8 0,I J 0,Y O 0 0,I J 0,I J 0,I J 0,I J 0,I J 0,Z ⟨#[]⟩,I J 0,I J 0,I J 0,Y O 0 0,Y O 0 0,Y O 0 0]:=hz0
  obtain⟨y0,y1,y2,y3,y4,y5,y6,y7,y8,y9,y10,y11,y12,y13,y14,yf⟩:=hz1.all
  clear hz1;have HL:=ah (jv hz0 (I .u8 0) (I J 0) (Y O 0 0) (I J 0) (I J 0) (I J 0) (I J 0) (I J 0) (Z ⟨#[]⟩) (I J 0) (I J 0) (I J 0) (Y O 0 0) (Y O 0 0) (Y O 0 0));have HB:=ah (eP (Nat.le_refl w.heap.size) [I .u8 0,I J 0,Y O 0 0,I J 0,I J 0,I J 0,I J 0,I J 0,Z ⟨#[]⟩,I J 0,I J 0,I J 0,Y O 0 0,Y O 0 0,Y O 0 0] wA 0 hb0);clear hz0 hb0;go_wp2_with fail;exact bodyPost_ret (dB rfl _ _ _ rfl HL.out) rfl (HP.out _ _ HB.out rfl)
 ·have h4i:¬(400:Int)<(t.size:Int):=by omega
  have HW:Hid (aU t n=if jr (bX t 32) n=true then bX t 32 else []):=by unfold Hid;rw[tL,if_neg h4]
  have HS:Hid (∀ w,Calls Tryz.prog 40 #[Z t,I .u8 32] w fun e w'=>∃ v,e=Zr v∧w'.ownsRow w.heap.size 9 1 v (bX t 32).length ((bX t 32).map Value.string)∧Below w.heap.size w w'):=fun w=>qj t 32 w (by omega)
  have hws:(bX t 32).length≤100000:=by have:=Ju t 32;omega
  have hwz:∀ x∈bX t 32,x.size≤1000:=fun x hx=>by have:=kN t 32 x hx;omega
  have hw1:=Jv t 32;have hwi:((bX t 32).length:Int)≤100000:=by omega
  have HP:Hid (∀ e w',jQ w w' t n e=jQ w w' t n e):=fun _ _=>rfl
  have HP1:Hid (∀ e w' P vl vg vo vL,Below w.heap.size w w'→jr (bX t 32) n=true→e=Zr (.tuple #[.agg (pmC P vl vg vo vL),.bool true])→uK w' w.heap.size P vl vg vo vL→uX n (bX t 32) P→jQ w w' t n e):=fun e w' P vl vg vo vL hb hk he ho hm=>by
   have e1:aU t n=bX t 32:=by rw[HW.out,if_pos hk]
   have e2:aU t n≠[]:=by rw[e1];intro hc;rw[hc] at hw1;simp at hw1
   exact⟨hb,P,vl,vg,vo,vL,by rw[he,decide_eq_true e2],ho,fun _=>by rw[e1];exact hm⟩
  have HP2:Hid (∀ e w',Below w.heap.size w w'→jr (bX t 32) n=false→e=Zr (.tuple #[.agg (pmC ⟨0,0,[],0,0,0,(0,0,⟨#[]⟩),0,0,0,[],[],[]⟩ (Y O 0 0) (Y O 0 0) (Y O 0 0) (Y O 0 0)),.bool false])→jQ w w' t n e):=fun e w' hb hk he=>by
   have e1:aU t n=[]:=by rw[HW.out,hk];rfl
   exact⟨hb,⟨0,0,[],0,0,0,(0,0,⟨#[]⟩),0,0,0,[],[],[]⟩,_,_,_,_,by rw[he,e1];simp,⟨World.ownsRow_nil _ _ _ _,World.ownsRow_nil _ _ _ _,World.ownsRow_nil _ _ _ _,World.ownsRow_nil _ _ _ _⟩,fun hc=>absurd e1 hc⟩
  have HRM:Hid (∀ br vw w,aI w br vw (bX t 32) 0 n false→Calls Tryz.prog 41 #[Zp (some ⟨br,0,O⟩)] w fun e w'=>eY w w' br vw (bX t 32) n e):=fun br vw w h=>CP br vw (bX t 32) n w h hws hwz hn3 hn7 hw1
  clear hwz hws hw1 HW HP;generalize jQ w=RP at *;generalize bX t 32=ws at *;go_enter Tryz.func18,Tryz.ntmps18;go_wp2_with fail;generalize hwA:w.alloc (.cells #[I .u8 0,I J 0,Y O 0 0,I J 0,I J 0,I J 0,I J 0,I J 0,Z ⟨#[]⟩,I J 0,I J 0,I J 0,Y O 0 0,Y O 0 0,Y O 0 0] 68)=wA at *;refine (HS.out _).mono ?_;rintro e w1 ⟨v,rfl,hO1,hb1⟩;obtain⟨av,cv,rfl⟩:=au hO1
  have hwAs:wA.heap.size=w.heap.size+1:=by rw[← hwA];simp
  clear hwA;have hst1:=Strs.bK hO1;have hsz1:=hb1.size;have hbR:Below w1.heap.size w1 (w1.alloc (.cells #[Y av ws.length cv,I J 0,I J n,.bool false] 91)):=(Below.refl _ w1).alloc (Nat.le_refl _) _
  have hRA:aI (w1.alloc (.cells #[Y av ws.length cv,I J 0,I J n,.bool false] 91)) w1.heap.size (Y av ws.length cv) ws 0 n false :=
   ⟨heap_alloc_new w1 _,hst1.below hbR,fun k hk hc=>by have:=hst1.lt k hk;simp at hc;omega,Nat.zero_le _⟩
  have hb01:Below w.heap.size w w1:=hb0.trans (hb1.mono hb0.size)
  have hz1:=hz0.kp (Kp.of_below (S:=[]) hb1) (by simp)
  have hz2:=hz1.kp (Kp.of_below (S:=[]) hbR) (by simp)
  have hb02:=hb01.trans (hbR.mono hb01.size);clear hz0 hz1 hO1 hst1 hb0;go_wp2_with fail;generalize hw2:w1.alloc _=w2 at *;have hsz2:w2.heap.size=w1.heap.size+1:=by rw[← hw2];simp
  clear hw2 hbR;refine (HRM.out _ _ _ hRA).mono ?_;rintro e w3 ⟨P,vl,vg,vo,vL,nx',wr',rfl,hO,hR,hI,hM⟩;obtain⟨al,cl,rfl⟩:=au hO.lives
  obtain⟨ag,cg,rfl⟩:=au hO.grp
  obtain⟨ao,co,rfl⟩:=au hO.old
  obtain⟨aL,cL,rfl⟩:=au hO.log
  have hb03:=p9 hb02 hR.2 (by intro x hx;simp at hx;omega)
  have hz3:=hz2.kp hR.2 (by simp;omega)
  have hR3:=hR.1;clear hz2 hRA hR hb02;simp only[pmC];have hbM:Below w3.heap.size w3 (w3.alloc (.cells (pqC P al cl ag cg ao co aL cL) 68)):=(Below.refl _ w3).alloc (Nat.le_refl _) _
  have hM4:bB (w3.alloc (.cells (pqC P al cl ag cg ao co aL cL) 68)) w3.heap.size (pqC P al cl ag cg ao co aL cL):=⟨rfl,heap_alloc_new w3 _⟩
  have hR4:=hR3.below hbM;have hz4:=hz3.kp (Kp.of_below (S:=[]) hbM) (by simp)
  have hb04:=hb03.trans (hbM.mono hb03.size);have hO4:=hO.kp (base':=w.heap.size+1) (Kp.of_below (S:=[]) hbM) (by simp) (by omega)
  have hsz3:=hb03.size;have hlt3:=lt_of_block hz3.2;clear hz3 hb03 hO;have HI:=ah hI;have HM:=ah hM;clear hI hM;go_wp2_with fail;generalize w3.alloc (.cells (pqC P al cl ag cg ao co aL cL) 68)=w4 at *;have c0:=hR4.at 0 (by omega)
  have c1:=hR4.at 1 (by omega)
  have c3:=hR4.at 3 (by omega)
  simp at c0 c1 c3;cases wr'
  ·by_cases hnx:nx'=ws.length
   ·have hnx':((nx':Int) != (ws.length:Int))=false:=by rw[hnx];simp
    have HOK:Hid (jr ws n=true):=HI.out.1 ⟨rfl,hnx⟩
    have HNX:=ah hnx;clear hnx;go_quiet (fail);have hq:=below_drewN (Below.refl w4.heap.size w4) nq;have hz5:=hz4.kp (Kp.of_below (S:=[]) hq) (by simp)
    have hM5:=hM4.kp (Kp.of_below (S:=[]) hq) (by simp)
    have hb05:=hb04.trans (hq.mono hb04.size);have hO5:=hO4.kp (base':=w.heap.size+1) (Kp.of_below (S:=[]) hq) (by simp) (Nat.le_refl _)
    generalize w4.drewN nq=w5 at *;have hz6:bB w5 w.heap.size #[I .u8 0,I J 0,Y O 0 0,I J 0,I J 0,I J 0,I J 0,I J 0,Z ⟨#[]⟩,I J 0,I J 0,I J 0,Y O 0 0,Y O 0 0,Y O 0 0]:=hz5
    obtain⟨y0,y1,y2,y3,y4,y5,y6,y7,y8,y9,y10,y11,y12,y13,y14,yf⟩:=hz6.all
    obtain⟨x0,x1,x2,x3,x4,x5,x6,x7,x8,x9,x10,x11,x12,x13,x14,xf⟩:=hM5.all
    have HL:=ah (jv hz5 (I .u8 P.kind) (I J P.frm) (Y al P.lives.length cl) (I J P.epoch) (I J P.view) (I J P.place) (I J P.ent.1) (I J P.ent.2.1) (Z P.ent.2.2) (I J P.commit) (I J P.normal) (I J P.life) (Y ag P.grp.length cg) (Y ao P.old.length co) (Y aL P.log.length cL));have HB:=ah (eP (Nat.le_refl w.heap.size) [I .u8 P.kind,I J P.frm,Y al P.lives.length cl,I J P.epoch,I J P.view,I J P.place,I J P.ent.1,I J P.ent.2.1,Z P.ent.2.2,I J P.commit,I J P.normal,I J P.life,Y ag P.grp.length cg,Y ao P.old.length co,Y aL P.log.length cL] w5 0 hb05);have HO:=ah (hO5.kp (base':=w.heap.size) (kK (g:=w.heap.size) [I .u8 P.kind,I J P.frm,Y al P.lives.length cl,I J P.epoch,I J P.view,I J P.place,I J P.ent.1,I J P.ent.2.1,Z P.ent.2.2,I J P.commit,I J P.normal,I J P.life,Y ag P.grp.length cg,Y ao P.old.length co,Y aL P.log.length cL] w5 0) (fun x hx=>by simp at hx;omega) (by omega))
    clear hz4 hz5 hz6 hb04 hb05 hq c0 c1 c3 hM4 hM5 hO4 hO5;go_wp2_with fail;exact bodyPost_ret (dB rfl _ _ _ rfl HL.out) rfl (HP1.out _ _ P _ _ _ _ HB.out HOK.out rfl HO.out (HM.out HOK.out))
   ·have hnx':((nx':Int) != (ws.length:Int))=true:=by simp[bne];omega
    have HNX:=ah hnx;clear hnx;go_quiet (fail);have hq:=below_drewN (Below.refl w4.heap.size w4) nq;have hz5:=hz4.kp (Kp.of_below (S:=[]) hq) (by simp)
    have hb05:=hb04.trans (hq.mono hb04.size);generalize w4.drewN nq=w5 at *;have hz6:bB w5 w.heap.size #[I .u8 0,I J 0,Y O 0 0,I J 0,I J 0,I J 0,I J 0,I J 0,Z ⟨#[]⟩,I J 0,I J 0,I J 0,Y O 0 0,Y O 0 0,Y O 0 0]:=hz5
    obtain⟨y0,y1,y2,y3,y4,y5,y6,y7,y8,y9,y10,y11,y12,y13,y14,yf⟩:=hz6.all
    have HL:=ah (jv hz5 (I .u8 0) (I J 0) (Y O 0 0) (I J 0) (I J 0) (I J 0) (I J 0) (I J 0) (Z ⟨#[]⟩) (I J 0) (I J 0) (I J 0) (Y O 0 0) (Y O 0 0) (Y O 0 0));have HB:=ah (eP (Nat.le_refl w.heap.size) [I .u8 0,I J 0,Y O 0 0,I J 0,I J 0,I J 0,I J 0,I J 0,Z ⟨#[]⟩,I J 0,I J 0,I J 0,Y O 0 0,Y O 0 0,Y O 0 0] w5 0 hb05);clear hz4 hz5 hz6 hb04 hb05 hq c0 c1 c3;go_wp2_with fail;exact bodyPost_ret (dB rfl _ _ _ rfl HL.out) rfl (HP2.out _ _ HB.out (by cases hk:jr ws n;rfl;exact absurd (HI.out.2 hk).2 HNX.out) rfl)
  ·go_quiet (fail);have hq:=below_drewN (Below.refl w4.heap.size w4) nq;have hz5:=hz4.kp (Kp.of_below (S:=[]) hq) (by simp)
   have hb05:=hb04.trans (hq.mono hb04.size);generalize w4.drewN nq=w5 at *;have hz6:bB w5 w.heap.size #[I .u8 0,I J 0,Y O 0 0,I J 0,I J 0,I J 0,I J 0,I J 0,Z ⟨#[]⟩,I J 0,I J 0,I J 0,Y O 0 0,Y O 0 0,Y O 0 0]:=hz5
   obtain⟨y0,y1,y2,y3,y4,y5,y6,y7,y8,y9,y10,y11,y12,y13,y14,yf⟩:=hz6.all
   have HL:=ah (jv hz5 (I .u8 0) (I J 0) (Y O 0 0) (I J 0) (I J 0) (I J 0) (I J 0) (I J 0) (Z ⟨#[]⟩) (I J 0) (I J 0) (I J 0) (Y O 0 0) (Y O 0 0) (Y O 0 0));have HB:=ah (eP (Nat.le_refl w.heap.size) [I .u8 0,I J 0,Y O 0 0,I J 0,I J 0,I J 0,I J 0,I J 0,Z ⟨#[]⟩,I J 0,I J 0,I J 0,Y O 0 0,Y O 0 0,Y O 0 0] w5 0 hb05);clear hz4 hz5 hz6 hb04 hb05 hq c0 c1 c3;go_wp2_with fail;exact bodyPost_ret (dB rfl _ _ _ rfl HL.out) rfl (HP2.out _ _ HB.out (by cases hk:jr ws n;rfl;exact absurd (HI.out.2 hk).1 (by simp)) rfl)
end Go.Proofs.YtajakaadgagejaaGreatDoor
