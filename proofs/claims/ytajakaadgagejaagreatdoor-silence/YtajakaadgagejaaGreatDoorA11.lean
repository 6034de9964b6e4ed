import Derived.Test.YtajakaadgagejaaGreatDoorA10
set_option maxRecDepth 100000
set_option maxHeartbeats 8000000
set_option linter.unusedVariables false
set_option linter.unusedSimpArgs false
set_option linter.unusedSectionVars false
namespace Go.Proofs.YtajakaadgagejaaGreatDoor
open Go.Value renaming int→I,slice→Y,string→Z,pointer→Zp
open Go.Ending renaming returned→Zr
open _root_.ByteArray renaming empty→Ze
open Go.IntKind renaming i64→J
open Option renaming none→O
open Go.RowKit
section
variable {w:World} {b bl:Nat} {W F:List Nat} {R:Rp} {V:Rv}
theorem ay.Je (h:ay w b bl W F R V):ay (w.setCells b 64 (#[.bool false,.bool false,.bool false,.bool false,.bool false,.bool false,.bool false]:Array Value).toList) b bl W F { R with started:=st0 } V:=by
 rw[jP];exact h.Lm
theorem Fe:(#[.bool false,.bool false,.bool false,.bool false,.bool false,.bool false,.bool false]:Array Value).all (·.oneCell')=true:=all_oneCell_toArray (cs:=[.bool false,.bool false,.bool false,.bool false,.bool false,.bool false,.bool false]) (by intro v hv;simp at hv;subst hv;rfl)
theorem Tryz.sizeSt7:(Tryz.prog.info? 61).map (·.size)=some 7:=by kernel_rfl
theorem I7 (h:ay w b bl W F R V) (hR:Ok R) (he:R.epoch+1≤10) (v:Value) (g:List Int) (hv:Ints w v g) (hs:Sl W F v) (hg:fQ R.n g) (ho:R.out.length≤700000) :
  Calls Tryz.prog 158 #[Zp (some ⟨b,0,O⟩),v] w fun e w'=>e=Zr (.tuple #[])∧Rst w w' b bl W F (R.turn g):=by
 obtain⟨ag,cg,hvg⟩:=h.g7
 obtain⟨av,cv,rfl,_,_⟩:=hv.shape
 have c7:=h.c7;have c8:=h.c8;have c4:=h.c4;have f7:=h.free 7;have f8:=h.free 8;have f4:=h.free 4;have h1:=h.Jd V.vg R.grp h.grp h.sg;have h2:=h1.Jc _ g (hv.kp (h.nM 8 V.vg) hs.fr) hs;have h3:=h2.yJ (R.epoch+1);have hw4:IntKind.i64.wrap (R.epoch+1)=R.epoch+1:=eB (by have:=hR.ep;omega) (by omega)
 have HB:=ah (uw h3 0);have hk3:Kp W w (((w.setCell ⟨b,8,O⟩ V.vg).setCell ⟨b,7,O⟩ (Y av g.length cv)).setCell ⟨b,4,O⟩ (I J (R.epoch+1))):=(((Kp.refl W w).set b 8 _ (.inl h.wb)).set b 7 _ (.inl h.wb)).set b 4 _ (.inl h.wb)
 have HK3:=ah hk3;rw[hvg] at c7 HB HK3;have HT3:=ah (Rp.Cy hR he hg);have hwb:=h.wb;have HG:Hid (R.turn g=if lN g R.id then ({ ({ R with old:=R.grp,grp:=g,epoch:=R.epoch+1 }:Rp).begin_ 0 with started:=st0 }:Rp).dY.iX else ({ ({ ({ R with old:=R.grp,grp:=g,epoch:=R.epoch+1 }:Rp).begin_ 0 with started:=st0 }:Rp) with status:=5 }:Rp).dY):=rfl
 clear h1 h2 h3 hk3;go_enter Tryz.func158,Tryz.ntmps158;go_wp2_with fail;refine HB.out.mono ?_;rintro e w2 ⟨rfl,h4,k4⟩;have hk4:Kp W w w2:=HK3.out.trans' (k4.wid (by intro x hx;simp at hx;subst hx;exact hwb))
 have h5:=h4.Je;have hth:=ah (h4.there 64 7 (by omega))
 have k5:Kp W w (w2.setCells b 64 (#[.bool false,.bool false,.bool false,.bool false,.bool false,.bool false,.bool false]:Array Value).toList):=hk4.trans' ((mq _ 64 (Kp.refl [b] w2)).wid (by intro x hx;simp at hx;subst hx;exact hwb))
 have d0:=h5.c0;have d3:=h5.c3;have df3:=h5.free 3;have HM:=ah (kM h5 HT3.out R.id);have HE5:Hid (Rp.mem { ({ R with old:=R.grp,grp:=g,epoch:=R.epoch+1 }:Rp).begin_ 0 with started:=st0 } R.id=lN g R.id):=rfl
 have H5:=ah h5;have HK5:=ah k5;clear h5 k4 k5 hk4;go_upto_region 5 with (refine wpList_store_mid rfl 61 (.tmp 28) (.tmp 26) (by rfl) b 64 #[.bool false,.bool false,.bool false,.bool false,.bool false,.bool false,.bool false] (by rfl) (by rfl) hth.out Tryz.sizeSt7 Fe ?_)
 generalize w2.setCells b 64 (#[.bool false,.bool false,.bool false,.bool false,.bool false,.bool false,.bool false]:Array Value).toList=wS at *;clear h4 hth;cases hm:lN g R.id
 ·rw[show Rp.mem { ({ R with old:=R.grp,grp:=g,epoch:=R.epoch+1 }:Rp).begin_ 0 with started:=st0 } R.id=false from HE5.out.trans hm] at HM
  rw[hm] at HG;have HT:=ah (lV (H5.out.iJ 5) (Rp.ji HT3.out (s:=5) (by decide)).ok (by simp only[Rp.begin_];omega))
  have HK6:=ah (HK5.out.set b 3 (I J 5) (.inl hwb));have H6:=ah (H5.out.iJ 5);go_wp2_with fail;refine HM.out.mono ?_;rintro e w3 ⟨rfl,hw3⟩;subst hw3;go_wp2_with fail;refine HT.out.mono ?_;rintro e w4 ⟨rfl,hs4⟩;have HS4:=ah (Rst.pre HK6.out (Snt.rst H6.out hs4));clear hs4;go_wp2_with fail;exact bodyPost_end (results_none rfl _ _ _) rfl ⟨rfl,by rw[HG.out];exact HS4.out⟩
 ·rw[show Rp.mem { ({ R with old:=R.grp,grp:=g,epoch:=R.epoch+1 }:Rp).begin_ 0 with started:=st0 } R.id=true from HE5.out.trans hm] at HM
  rw[hm] at HG;have HT:=ah (lV H5.out HT3.out (by show R.out.length≤800000;omega))
  have HO1:=ah (Rp.fT HT3.out);go_wp2_with fail;refine HM.out.mono ?_;rintro e w3 ⟨rfl,hw3⟩;subst hw3;go_wp2_with fail;refine HT.out.mono ?_;rintro e w4 ⟨rfl,W4,F4,vt4,hs4⟩;have HS5:=ah (qV hs4.rp HO1.out.ok (Nat.le_trans HO1.out.out (by show R.out.length+5≤800000;omega)))
  have HR4:=ah (H5.out.kS hs4.kp);have HS4:=ah hs4;clear hs4;go_wp2_with fail;refine HS5.out.mono ?_;rintro e w5 ⟨rfl,hs5⟩;have HS6:=ah (Rst.pre HK5.out (Rst.step HR4.out HS4.out.mv (Snt.rst HS4.out.rp hs5)));clear hs5;go_wp2_with fail;exact bodyPost_end (results_none rfl _ _ _) rfl ⟨rfl,by rw[HG.out];exact HS6.out⟩
theorem sS (h:ay w b bl W F R V) (hR:Ok R) (qt:Int) (ho:R.out.length≤900000) :
  Calls Tryz.prog 138 #[Zp (some ⟨b,0,O⟩),I J qt] w fun e w'=>e=Zr (.tuple #[])∧Snt w w' b bl W F V (R.oC qt):=by
 obtain⟨cl,hvl⟩:=h.g2
 obtain⟨aL,cL,hvL⟩:=h.g9
 obtain⟨ag,cg,hvg⟩:=h.g7
 obtain⟨ao,co,hvo⟩:=h.g8
 have hl10:=hR.lg;have hsz:∀ e∈R.log,e.2.2.size≤1000:=fun e he=>by have:=(hR.le e he).2.2.2.2.2;omega
 have HH:=ah (qA h);rw[hvl,hvg,hvo,hvL] at HH;have HU:Hid (∀ w',Below w.heap.size w w'→Calls Tryz.prog 159 #[Y aL R.log.length cL,I J R.epoch] w' fun e w''=>∃ n c,e=Zr (Y aL n c)∧gu w'' (Y aL n c) (iU R.log R.epoch)∧Below w'.heap.size w' w''):=fun w' hb=>oH aL cL R.log R.epoch w' (by have:=(h.below hb).ents;rw[hvL] at this;exact this) (by omega) hsz
 have HSe:Hid (∀ w' n3 c3,Below w.heap.size w w'→gu w' (Y aL n3 c3) (iU R.log R.epoch)→Calls Tryz.prog 88 #[Zp (some ⟨b,0,O⟩),I J qt,.agg #[I .u8 115,I J R.id,Y (some ⟨bl,0,O⟩) R.lives.length cl,I J R.epoch,I J 0,I J 0,I J 0,I J 0,Z ⟨#[]⟩,I J (n3:Int),I J 0,I J 0,Y ag R.grp.length cg,Y ao R.old.length co,Y aL n3 c3]] w' fun e w''=>e=Zr (.tuple #[])∧Snt w w'' b bl W F V (R.oC qt)):=fun w' n3 c3 hb hE=>by
  have hn:n3=(iU R.log R.epoch).length:=by obtain⟨a',c',e',_⟩:=hE.shape;simp only[Value.slice.injEq] at e';exact e'.2.1
  have hw:=h.below hb;have hh:lu w' R.yP V.vl V.vg V.vo (Y aL n3 c3):=⟨hw.lives.rd,hw.grp,hw.old,hE⟩
  rw[hvl,hvg,hvo] at hh;have r:=lU hw qt R.yP _ _ _ _ ((Lc hR).pw hR) hh (by omega)
  rw[hn] at r ⊢;refine r.mono ?_;rintro e w'' ⟨rfl,hs⟩;exact⟨rfl,hs.pre hb⟩
 go_enter Tryz.func138,Tryz.ntmps138;go_wp2_with fail;refine HH.out.mono ?_;rintro e w1 ⟨rfl,hb1⟩;have h1:=h.below hb1;have d9:=h1.c9;have d4:=h1.c4;rw[hvL] at d9;have hlb:=h1.lb;have hal:=fun o=>(Below.refl w1.heap.size w1).alloc (Nat.le_refl _) o
 have m9:=fun o=>((hal o).cell (p:=⟨b,9,O⟩) hlb).trans d9
 have m4:=fun o=>((hal o).cell (p:=⟨b,4,O⟩) hlb).trans d4
 simp only[pmC,Rp.dQ,Rp.head,pm0];go_wp2_with fail;have hM:bB (w1.alloc (.cells #[I .u8 115,I J R.id,Y (some ⟨bl,0,O⟩) R.lives.length cl,I J R.epoch,I J 0,I J 0,I J 0,I J 0,Z ⟨#[]⟩,I J (R.decided:Int),I J 0,I J 0,Y ag R.grp.length cg,Y ao R.old.length co,Y aL R.log.length cL] 68)) w1.heap.size #[I .u8 115,I J R.id,Y (some ⟨bl,0,O⟩) R.lives.length cl,I J R.epoch,I J 0,I J 0,I J 0,I J 0,Z ⟨#[]⟩,I J (R.decided:Int),I J 0,I J 0,Y ag R.grp.length cg,Y ao R.old.length co,Y aL R.log.length cL]:=⟨rfl,heap_alloc_new w1 _⟩
 have hbA:Below w.heap.size w (w1.alloc (.cells #[I .u8 115,I J R.id,Y (some ⟨bl,0,O⟩) R.lives.length cl,I J R.epoch,I J 0,I J 0,I J 0,I J 0,Z ⟨#[]⟩,I J (R.decided:Int),I J 0,I J 0,Y ag R.grp.length cg,Y ao R.old.length co,Y aL R.log.length cL] 68)):=hb1.trans ((hal _).mono hb1.size)
 have e9:=m9 (.cells #[I .u8 115,I J R.id,Y (some ⟨bl,0,O⟩) R.lives.length cl,I J R.epoch,I J 0,I J 0,I J 0,I J 0,Z ⟨#[]⟩,I J (R.decided:Int),I J 0,I J 0,Y ag R.grp.length cg,Y ao R.old.length co,Y aL R.log.length cL] 68);have e4:=m4 (.cells #[I .u8 115,I J R.id,Y (some ⟨bl,0,O⟩) R.lives.length cl,I J R.epoch,I J 0,I J 0,I J 0,I J 0,Z ⟨#[]⟩,I J (R.decided:Int),I J 0,I J 0,Y ag R.grp.length cg,Y ao R.old.length co,Y aL R.log.length cL] 68);have hs1:(w1.alloc (.cells #[I .u8 115,I J R.id,Y (some ⟨bl,0,O⟩) R.lives.length cl,I J R.epoch,I J 0,I J 0,I J 0,I J 0,Z ⟨#[]⟩,I J (R.decided:Int),I J 0,I J 0,Y ag R.grp.length cg,Y ao R.old.length co,Y aL R.log.length cL] 68)).heap.size=w1.heap.size+1:=by simp
 have HU1:=ah (HU.out _ (hbA.trans ((Below.refl _ _).drew.mono hbA.size)));clear m9 m4 d9 d4 hal h1;generalize w1.alloc (.cells #[I .u8 115,I J R.id,Y (some ⟨bl,0,O⟩) R.lives.length cl,I J R.epoch,I J 0,I J 0,I J 0,I J 0,Z ⟨#[]⟩,I J (R.decided:Int),I J 0,I J 0,Y ag R.grp.length cg,Y ao R.old.length co,Y aL R.log.length cL] 68)=wA at *;obtain⟨x0,x1,x2,x3,x4,x5,x6,x7,x8,x9,x10,x11,x12,x13,x14,xf⟩:=hM.all
 go_region_with (go_at_call 159;refine HU1.out.mono ?_;rintro e w3 ⟨n3,c3,rfl,hE3,hb3⟩;have hM3:bB w3 w1.heap.size #[I .u8 115,I J R.id,Y (some ⟨bl,0,O⟩) R.lives.length cl,I J R.epoch,I J 0,I J 0,I J 0,I J 0,Z ⟨#[]⟩,I J (R.decided:Int),I J 0,I J 0,Y ag R.grp.length cg,Y ao R.old.length co,Y aL R.log.length cL]:=hM.kp (S:=[]) (Kp.of_below (iL hb3)) (by simp);obtain⟨u0,u1,u2,u3,u4,u5,u6,u7,u8,u9,u10,u11,u12,u13,u14,uf⟩:=hM3.all)
 all_goals
  have hb03:Below w.heap.size w w3:=hbA.trans ((iL hb3).mono hbA.size)
  have hks:∀ v9 v14:Value,Below w.heap.size w ((w3.setCell ⟨w1.heap.size,14,O⟩ v14).setCell ⟨w1.heap.size,9,O⟩ v9):=fun v9 v14=>Below.setCell (p:=⟨w1.heap.size,9,O⟩) (Below.setCell (p:=⟨w1.heap.size,14,O⟩) hb03 hb1.size v14) hb1.size v9
  have hE5:∀ v9 v14:Value,gu ((w3.setCell ⟨w1.heap.size,14,O⟩ v14).setCell ⟨w1.heap.size,9,O⟩ v9) (Y aL n3 c3) (iU R.log R.epoch):=fun v9 v14=>by
   have k:Kp [w1.heap.size] w3 ((w3.setCell ⟨w1.heap.size,14,O⟩ v14).setCell ⟨w1.heap.size,9,O⟩ v9):=((Kp.refl _ _).set _ 14 _ (.inl (by simp))).set _ 9 _ (.inl (by simp))
   refine hE3.kp k (fun q hq hc=>?_)
   simp at hc;subst hc;have:=(h.ents.lt w1.heap.size (by rw[hvL];cases aL with
    | none=>simp[Value.ownBlock] at hq
    | some a=>simpa [Value.ownBlock] using hq))
   have:=hb1.size
   omega
  have HS1:=ah (HSe.out _ n3 c3 (hks (I J (n3:Int)) (Y aL n3 c3)) (hE5 _ _));clear hks hE5 hE3 hb03;go_wp2_with fail;refine HS1.out.mono ?_;rintro e w4 ⟨rfl,hs⟩;have HS:=ah hs;clear hs;go_wp2_with fail;exact bodyPost_end (results_none rfl _ _ _) rfl ⟨rfl,HS.out⟩
end
end Go.Proofs.YtajakaadgagejaaGreatDoor
