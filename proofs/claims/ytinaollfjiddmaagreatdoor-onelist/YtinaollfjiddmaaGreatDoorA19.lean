import Derived.Test.YtinaollfjiddmaaGreatDoorA14
set_option maxRecDepth 100000
set_option maxHeartbeats 8000000
set_option linter.all false
namespace Go.Proofs.YtinaollfjiddmaaGreatDoor
open Go.Value renaming int→I,slice→Y,string→Z,pointer→Zp
open Go.Ending renaming returned→Zr
open _root_.ByteArray renaming empty→Ze
open Go.IntKind renaming i64→J
open Option renaming none→O
open Go.RowKit
section
variable {w w0:World} {b bl:Nat} {W F:List Nat} {R:Rp} {V:Rv} {P:Pm} {vl vg vo vL:Value}
theorem Jc (h:Rst w0 w b bl W F R) (hR:Ok R) (ho:R.out.length≤900000) :
  Calls Tryz.prog 144 #[Zp (some ⟨b,0,O⟩)] w fun e w'=>e=Zr (.tuple #[])∧Rst w0 w' b bl W F (R.kN):=by
 obtain⟨U,F1,V1,h1,k1,m1⟩:=h
 have aa:=ah (Fp h1 hR);have V:Hid (R.kN=if R.dG then { R with aI:=aK R.aI R.dw } else R.send R.gZ R.dw):=rfl
 have H1:=ah h1;clear h1;go_enter Tryz.func144,Tryz.ntmps144;go_wp2_with fail;refine aa.out.mono ?_;rintro e k ⟨ax,az,rfl,n,o,p⟩;obtain⟨a,c,rfl⟩:=aj n
 obtain⟨d,f,rfl⟩:=aj o
 have r:Below w.heap.size w (k.alloc (.cells #[I .u8 118,I J R.id,Y a R.lives.length c,I J R.epoch,I J R.view,I J 0,I J 0,I J 0,Z ⟨#[]⟩,I J (R.decided:Int),I J R.normal,I J 0,Y O 0 0,Y O 0 0,Y d R.log.length f] 68)):=p.alloc p.size _
 have C:dD (k.alloc (.cells #[I .u8 118,I J R.id,Y a R.lives.length c,I J R.epoch,I J R.view,I J 0,I J 0,I J 0,Z ⟨#[]⟩,I J (R.decided:Int),I J R.normal,I J 0,Y O 0 0,Y O 0 0,Y d R.log.length f] 68)) k.heap.size #[I .u8 118,I J R.id,Y a R.lives.length c,I J R.epoch,I J R.view,I J 0,I J 0,I J 0,Z ⟨#[]⟩,I J (R.decided:Int),I J R.normal,I J 0,Y O 0 0,Y O 0 0,Y d R.log.length f]:=⟨rfl,heap_alloc_new k _⟩
 have s:=n.alloc (.cells #[I .u8 118,I J R.id,Y a R.lives.length c,I J R.epoch,I J R.view,I J 0,I J 0,I J 0,Z ⟨#[]⟩,I J (R.decided:Int),I J R.normal,I J 0,Y O 0 0,Y O 0 0,Y d R.log.length f] 68);have t:=o.alloc (.cells #[I .u8 118,I J R.id,Y a R.lives.length c,I J R.epoch,I J R.view,I J 0,I J 0,I J 0,Z ⟨#[]⟩,I J (R.decided:Int),I J R.normal,I J 0,Y O 0 0,Y O 0 0,Y d R.log.length f] 68);obtain⟨F2,h2,u,m2⟩:=Sl.news H1.out r [Y a R.lives.length c,Y d R.log.length f] (by
  intro v hv;simp at hv;rcases hv with rfl|rfl
  ·exact mP s
  ·exact mP t)
 have D:dX (k.alloc (.cells #[I .u8 118,I J R.id,Y a R.lives.length c,I J R.epoch,I J R.view,I J 0,I J 0,I J 0,Z ⟨#[]⟩,I J (R.decided:Int),I J R.normal,I J 0,Y O 0 0,Y O 0 0,Y d R.log.length f] 68)) U F2 R.dw (Y a R.lives.length c) (Y O 0 0) (Y O 0 0) (Y d R.log.length f) :=
  ⟨Rd.bX s,gL _,gL _,Rd.bX t,u _ (by simp),Sl.nil _ _,Sl.nil _ _,u _ (by simp)⟩
 have E:k.heap.size∉U:=fun hc=>by have:=H1.out.wlt _ hc;have:=p.size;omega
 have ab:=ah (Rst.refl h2);have G:Hid (∀ w' R',Rst (k.alloc (.cells #[I .u8 118,I J R.id,Y a R.lives.length c,I J R.epoch,I J R.view,I J 0,I J 0,I J 0,Z ⟨#[]⟩,I J (R.decided:Int),I J R.normal,I J 0,Y O 0 0,Y O 0 0,Y d R.log.length f] 68)) w' b bl U F2 R'→Rst w0 w' b bl W F R'):=fun w' R' q=>Rst.step (k1.aS r) (m1.trans m2 k1.size) q
 simp only[pmC,Rp.dw,Rp.head,pm0];clear s t n o u h2 m2 r;go_wp2_with fail;generalize k.alloc (.cells #[I .u8 118,I J R.id,Y a R.lives.length c,I J R.epoch,I J R.view,I J 0,I J 0,I J 0,Z ⟨#[]⟩,I J (R.decided:Int),I J R.normal,I J 0,Y O 0 0,Y O 0 0,Y d R.log.length f] 68)=wA at *;have X:=ah (jK ab.out hR);cases hp:R.dG
 ·rw[hp] at V X;refine (X.out).mono ?_;rintro e w2 ⟨rfl,g⟩;have x:=ah g;clear g;go_wp2_with fail;refine (Ay x.out hR).mono ?_;rintro e w3 ⟨rfl,H⟩;obtain⟨W3,F3,V3,j,y,K,L⟩:=H.pm D
  have z:=C.kp y E;obtain⟨x0,x1,x2,x3,x4,x5,x6,x7,x8,x9,ac,ad,ae,af,ai,xf⟩:=z.all
  have ak:Hid (Calls Tryz.prog 87 #[Zp (some ⟨b,0,O⟩),I J R.gZ,.agg #[I .u8 118,I J R.id,Y a R.lives.length c,I J R.epoch,I J R.view,I J 0,I J 0,I J 0,Z ⟨#[]⟩,I J (R.decided:Int),I J R.normal,I J 0,Y O 0 0,Y O 0 0,Y d R.log.length f]] w3 fun e w'=>e=Zr (.tuple #[])∧Rst w0 w' b bl W F (R.send R.gZ R.dw)):=(nI j R.gZ R.dw _ _ _ _ ((Qi hR).pw hR) L.rd (by omega)).mono (fun _ _ q=>⟨q.1,G.out _ _ (Rst.step y K (Snt.rst j q.2))⟩)
  clear j y K L H;go_wp2_with fail;refine ak.out.mono ?_;rintro e w4 ⟨rfl,M⟩;have am:=ah M;clear M;go_wp2;exact bodyPost_end (results_none rfl _ _ _) rfl ⟨rfl,by rw[V.out];exact am.out⟩
 ·rw[hp] at V X;refine (X.out).mono ?_;rintro e w2 ⟨rfl,g⟩;have x:=ah g;clear g;go_wp2_with fail;obtain⟨W3,F3,V3,j,y,K,L⟩:=x.out.pm D
  have z:=C.kp y E;obtain⟨x0,x1,x2,x3,x4,x5,x6,x7,x8,x9,ac,ad,ae,af,ai,xf⟩:=z.all
  have c62:=j.c62;obtain⟨a0,av,l⟩:=j.g62
  have A:=j.aI;rw[l] at c62 A;have an:R.aI.length≤1000000:=by have:=nE hR.n7 hR.vn (fun m hm=>⟨(hR.vo m hm).2.f0,(hR.vo m hm).2.f1⟩);omega
  have HJ:=ah (uF _ R.aI (R.dw) _ _ _ _ W3 F3 w2.drew (A.below (Below.refl _ _).drew) an (L.kp (Kp.of_below (Below.refl _ _).drew)));have B:=ah j;have N:=ah y;have P:=ah K;clear j A L K y;go_region_with (go_at_call 78;refine HJ.out.mono ?_;rintro e w5 ⟨v5,rfl,Q,S⟩;have ao:=ah Q;obtain⟨a1,T,ap⟩:=Q;obtain⟨a5,c5,rfl⟩:=aj T;clear T ap;have i:=jv S;have aq:=(B.out.below i).c62;have aw:=(B.out.below i).free 62;rw[l] at aq)
  all_goals
   obtain⟨F5,h5,p5,m5⟩:=mR.rep (B.out.below (Below.refl _ _).drew) S ao.out (by simp)
   have h6:=h5.pJ _ _ p5;have ar:Hid (Rst wA _ b bl U F2 _):=⟨W3,F5,_,h6,(N.out.aS i).mv P.out (h5.qI _ _),P.out.trans (m5.xE (Nat.le_refl _)) N.out.size⟩
   clear h5 p5 m5 h6;go_wp2;exact bodyPost_ret (results_none rfl _ _ _) rfl ⟨rfl,by rw[V.out];exact G.out _ _ ar.out⟩
theorem vY (h:Rst w0 w b bl W F R) (hR:Ok R) (ho:R.out.length≤900000) :
  Calls Tryz.prog 99 #[Zp (some ⟨b,0,O⟩)] w fun e w'=>e=Zr (.tuple #[])∧Rst w0 w' b bl W F (R.dJ):=by
 have i:=ah h;clear h;have f:Hid (R.dJ=if R.dG then R else R.kN):=rfl
 have g:=ah (jK i.out hR);cases hp:R.dG
 ·rw[hp] at f g;go_enter Tryz.func99,Tryz.ntmps99;go_wp2_with fail;refine (g.out).mono ?_;rintro e k ⟨rfl,a⟩;have c:=ah a;clear a;go_wp2_with fail;refine (Jc c.out hR ho).mono ?_;rintro e l ⟨rfl,d⟩;have j:=ah d;clear d;go_wp2;exact bodyPost_end (results_none rfl _ _ _) rfl ⟨rfl,by rw[f.out];exact j.out⟩
 ·rw[hp] at f g;go_enter Tryz.func99,Tryz.ntmps99;go_wp2_with fail;refine (g.out).mono ?_;rintro e k ⟨rfl,a⟩;have c:=ah a;clear a;go_wp2;exact bodyPost_end (results_none rfl _ _ _) rfl ⟨rfl,by rw[f.out];exact c.out⟩
end
section
variable {w w0:World} {b bl:Nat} {W F:List Nat} {R:Rp} {V:Rv} {P:Pm} {vl vg vo vL:Value}
theorem DW (h:Rst w0 w b bl W F R) (hR:Ok R) (v:Int) (hv:0≤v∧v≤999) (ho:R.out.length≤700000) :
  Calls Tryz.prog 102 #[Zp (some ⟨b,0,O⟩),I J v] w fun e w'=>e=Zr (.tuple #[])∧Rst w0 w' b bl W F (R.want v):=by
 obtain⟨n,C,D,a,k1,o⟩:=h
 have E:=a.free 3;have G:=a.free 5;have H:=a.free 6;have q:=a.free 55;have r:=a.free 56;have s:=a.free 57;have t:=a.free 58;have u:=a.free 59;have y:=a.free 60;have z:=a.free 61;have A:=a.free 62;have c3:=a.c3;have c5:=a.c5;have c6:=a.c6;have c62:=a.c62;have K:w.cell? ⟨b,55,O⟩=some _:=a.sS 0 (by omega)
 have L:w.cell? ⟨b,56,O⟩=some _:=a.sS 1 (by omega)
 have M:w.cell? ⟨b,57,O⟩=some _:=a.sS 2 (by omega)
 have N:w.cell? ⟨b,58,O⟩=some _:=a.sS 3 (by omega)
 have P:w.cell? ⟨b,59,O⟩=some _:=a.sS 4 (by omega)
 have Q:w.cell? ⟨b,60,O⟩=some _:=a.sS 5 (by omega)
 have S:w.cell? ⟨b,61,O⟩=some _:=a.sS 6 (by omega)
 have B:Hid (R.want v=(R.jH v).call.kN):=rfl
 have c:=ah (Rp.vM hR hv);have d:=ah (Rp.yO c.out);cases hs:(R.status==1)
 focus
  have p:Hid (R.jH v={ (R:Rp) with view:=v,status:=2,acks:=jW,aI:=[] }):=by unfold Hid Rp.jH;rw[hs];rfl
  have i:=((((a.yS v).jq 2).AJ).pJ (Y O 0 0) [] (Pms.nil _ _ _));have j:Kp n w _:=Kp.wid ((pF [I J 0,I J 0,I J 0,I J 0,I J 0,I J 0,I J 0] 55 _ w (((Kp.refl [b] w).set b 5 (I J v) (.inl (by simp))).set b 3 (I J 2) (.inl (by simp)))).set b 62 (Y O 0 0) (.inl (by simp))) (by intro x hx;simp at hx;subst hx;exact a.wb)
 rotate_left
 focus
  have p:Hid (R.jH v={ ({ R with normal:=R.view }:Rp) with view:=v,status:=2,acks:=jW,aI:=[] }):=by unfold Hid Rp.jH;rw[hs];rfl
  have i:=(((((a.xU R.view).yS v).jq 2).AJ).pJ (Y O 0 0) [] (Pms.nil _ _ _));have j:Kp n w _:=Kp.wid ((pF [I J 0,I J 0,I J 0,I J 0,I J 0,I J 0,I J 0] 55 _ w ((((Kp.refl [b] w).set b 6 (I J R.view) (.inl (by simp))).set b 5 (I J v) (.inl (by simp))).set b 3 (I J 2) (.inl (by simp)))).set b 62 (Y O 0 0) (.inl (by simp))) (by intro x hx;simp at hx;subst hx;exact a.wb)
 rotate_left
 all_goals
  have k:Hid (Rst w0 _ b bl W F (R.jH v)):=Rst.step k1 o (Rst.of (by rw[p.out];exact i) j)
  clear i j k1 o;go_enter Tryz.func102,Tryz.ntmps102;go_wp2_with fail;refine (Jb k.out c.out (by show R.out.length≤800000;omega)).mono ?_
  rintro e T ⟨rfl,f⟩;have l:=ah f;clear f;go_wp2_with fail;refine (Jc l.out d.out.ok (by have:=d.out.out;show _≤900000;exact Nat.le_trans this (by show R.out.length+5≤900000;omega))).mono ?_
  rintro e U ⟨rfl,g⟩;have m:=ah g;clear g;go_wp2;exact bodyPost_end (results_none rfl _ _ _) rfl ⟨rfl,by rw[B.out];exact m.out⟩
theorem Fw (h:Rst w0 w b bl W F R) (hR:Ok R) (hP:dX w0 W F P vl vg vo vL) (hk:P.kind=118) (hm:dF R.n P) (ho:R.out.length≤500000) :
  Calls Tryz.prog 140 #[Zp (some ⟨b,0,O⟩),.agg (pmC P vl vg vo vL)] w fun e w'=>e=Zr (.tuple #[])∧Rst w0 w' b bl W F (R.count P):=by
 obtain⟨W1,F1,V1,h1,k1,m1,p1⟩:=h.pm hP
 obtain⟨M,N,ag,Q,S,T,U,V,rfl,rfl,rfl,rfl⟩:=p1.cells
 have t:Below w.heap.size w (w.alloc (.cells (pqC P M N ag Q S T U V) 68)):=(Below.refl _ w).alloc (Nat.le_refl _) _
 have be:dD (w.alloc (.cells (pqC P M N ag Q S T U V) 68)) w.heap.size (pqC P M N ag Q S T U V):=⟨rfl,heap_alloc_new w _⟩
 have bg:=p1.below t;have bh:w.heap.size∉W1:=fun hc=>by have:=h1.wlt _ hc;omega
 have bi:=ah (Rst.refl (h1.below t));have X:Hid (∀ w' L,Rst (w.alloc (.cells (pqC P M N ag Q S T U V) 68)) w' b bl W1 F1 L→Rst w0 w' b bl W F L):=fun w' L q=>Rst.step (k1.aS t) m1 q
 have d:=ah (Rp.lV hR hk hm);have HE:Hid (R.count P=if ((aK R.aI P).length:Int)≤eP R.grp then { R with aI:=aK R.aI P } else ({ R with aI:=aK R.aI P }:Rp).counted ((ji (aK R.aI P)).getD pm0) (cK ((aK R.aI P).map (·.commit)))):=rfl
 have aa:Hid (oD R.n ((ji (aK R.aI P)).getD pm0).log):=Rp.za d.out
 have bj:Hid (aK R.aI P≠[]):=by
  unfold Hid aK
  split
  ·rename_i q;intro hc;have:=List.map_eq_nil_iff.1 hc
   rw[this] at q;simp at q
  ·simp
 clear h p1 hP h1 hk hm;simp only[pmC];go_enter Tryz.func140,Tryz.ntmps140;go_upto_region 1 with fail
 generalize w.alloc (.cells (pqC P M N ag Q S T U V) 68)=wA at *;go_cut [] from 6 (fun wx=>Rst wA wx b bl W1 F1 { R with aI:=aK R.aI P })
 case first =>
  obtain⟨W3,F3,V3,h3,k3,m3,p3⟩:=bi.out.pm bg
  have bk:=be.kp k3 bh;obtain⟨x0,x1,x2,x3,x4,x5,x6,x7,x8,x9,ab,ac,ad,ae,af,xf⟩:=bk.all
  have c62:=h3.c62;obtain⟨bm,ai,a⟩:=h3.g62
  have c:=h3.aI;rw[a] at c62 c;have ak:R.aI.length≤1000000:=by have:=nE hR.n7 hR.vn (fun m hm=>⟨(hR.vo m hm).2.f0,(hR.vo m hm).2.f1⟩);omega
  have HJ:=ah (uF _ R.aI (P) _ _ _ _ W3 F3 wA.drew (c.below (Below.refl _ _).drew) ak (p3.kp (Kp.of_below (Below.refl _ _).drew)));have u:=ah h3;have am:=ah k3;have an:=ah m3;clear h3 c p3 m3 k3;go_region_with (go_at_call 78;refine HJ.out.mono ?_;rintro e w5 ⟨v5,rfl,ap,aq⟩;have bn:=ah ap;obtain⟨bz,ar,bo⟩:=ap;obtain⟨a5,c5,rfl⟩:=aj ar;clear ar bo;have f:=jv aq;have bp:=(u.out.below f).c62;have bx:=(u.out.below f).free 62;rw[a] at bp)
  all_goals
   obtain⟨F5,h5,p5,m5⟩:=mR.rep (u.out.below (Below.refl _ _).drew) aq bn.out (by simp)
   have j:=h5.pJ _ _ p5;have bq:Hid (Rst wA _ b bl W1 F1 _):=⟨W3,F5,_,j,(am.out.aS f).mv an.out (h5.qI _ _),an.out.trans (m5.xE (Nat.le_refl _)) am.out.size⟩
   clear h5 p5 m5 j;go_wp2_with fail;go_meet;exact bq.out
 case rest =>
  obtain⟨W6,F6,V6,j,k6,m6⟩:=hcut
  obtain⟨w6,br⟩:∃ x,x=wc:=⟨_,rfl⟩
  subst br;have ak:(aK R.aI P).length≤7:=nE hR.n7 d.out.vn (fun m hm=>⟨(d.out.vo m hm).2.f0,(d.out.vo m hm).2.f1⟩)
  have b2:=hR.g.1;have c7:=j.c7;obtain⟨a7,bs,av⟩:=j.g7
  have c62:=j.c62;obtain⟨bm,ai,a⟩:=j.g62
  have k:=j.grp;simp only at av a k
  rw[av] at c7 k;rw[a] at c62;have v:Hid (∀ n,Calls Tryz.prog 89 #[Y a7 R.grp.length bs] (w6.drewN n) fun e w'=>e=Zr (I J (eP R.grp))∧w'=w6.drewN n):=fun n=>ql _ R.grp _ (k.below (below_drewN (Below.refl _ _) n)) (by omega)
  have H6:=ah j;have aw:=ah k6;have ax:=ah m6;clear j k6 m6 k;by_cases q:((aK R.aI P).length:Int)≤eP R.grp
  ·rw[if_pos q] at HE;go_wp2_with fail;go_quiet ((go_at_call 89;exact Calls.quiet_of_same (v.out _)))
   rename_i nq;have bt:=ah (X.out _ _ ⟨W6,F6,V6,H6.out.drewN nq,aw.out.aS (below_drewN (Below.refl _ w6) nq),ax.out⟩);go_wp2;exact bodyPost_ret (results_none rfl _ _ _) rfl ⟨rfl,by rw[HE.out];exact bt.out⟩
  ·rw[if_neg q] at HE;go_wp2_with fail;go_quiet ((go_at_call 89;exact Calls.quiet_of_same (v.out _)))
   rename_i nq;have h7:=H6.out.drewN nq;have az:=aw.out.aS (below_drewN (Below.refl _ w6) nq);clear v c7 c62;generalize w6.drewN nq=w7 at *;have c62:=h7.c62;rw[a] at c62;have c:=h7.aI;rw[a] at c;simp only at c
   have a0:=ah (DC _ (aK R.aI P) W6 F6 w7 c (by omega) bj.out)
   go_wp2_with fail;refine a0.out.mono ?_;rintro e w8 ⟨u1,u2,u3,u4,rfl,hB,y⟩;generalize (ji (aK R.aI P)).getD pm0=B at *;obtain⟨z,A,C,D,E,G,H,K,rfl,rfl,rfl,rfl⟩:=hB.cells
   simp only[pmC];have i:Below w7.heap.size w7 (w8.alloc (.cells #[I .u8 B.kind,I J B.frm,Y z B.lives.length A,I J B.epoch,I J B.view,I J B.place,I J B.ent.1,I J B.ent.2.1,Z B.ent.2.2,I J B.commit,I J B.normal,I J B.life,Y C B.grp.length D,Y E B.old.length G,Y H B.log.length K] 68)):=y.alloc y.size _
   have a1:dD (w8.alloc (.cells #[I .u8 B.kind,I J B.frm,Y z B.lives.length A,I J B.epoch,I J B.view,I J B.place,I J B.ent.1,I J B.ent.2.1,Z B.ent.2.2,I J B.commit,I J B.normal,I J B.life,Y C B.grp.length D,Y E B.old.length G,Y H B.log.length K] 68)) w8.heap.size #[I .u8 B.kind,I J B.frm,Y z B.lives.length A,I J B.epoch,I J B.view,I J B.place,I J B.ent.1,I J B.ent.2.1,Z B.ent.2.2,I J B.commit,I J B.normal,I J B.life,Y C B.grp.length D,Y E B.old.length G,Y H B.log.length K]:=⟨rfl,heap_alloc_new w8 _⟩
   have h9:=h7.below i;have a2:=az.aS i;have a3:=h9.c62;rw[a] at a3;have a4:=(hB.below i).log;have bu:=ah (uE _ (aK R.aI P) W6 F6 _ (c.below i) (by omega))
   obtain⟨x0,x1,x2,x3,x4,x5,x6,x7,x8,x9,ab,ac,ad,ae,af,xf⟩:=a1.all
   have bv:=ah (qo h9 _ B.log a4 aa.out);have bw:=ah (fun w' L (q:Rst _ w' b bl W6 F6 L)=>X.out w' L (Rst.step a2 ax.out q))
   clear i hB a1 h9 a2 a4 c h7 az a0 y;go_wp2_with fail;refine bu.out.mono ?_;rintro e b3 ⟨rfl,a6⟩;subst a6;go_wp2_with fail;refine bv.out.mono ?_;rintro e b4 ⟨rfl,l⟩;have o:=ah (bw.out _ _ l);clear l x0 x1 x2 x3 x4 x5 x6 x7 x8 x9 ab ac ad ae af xf a3 c62;have a8:=ah (Rp.eu d.out aa.out);obtain⟨b5,b6,b7,a9,_,_⟩:=o.out
   have c5:=a9.c5;simp only[Rp.over] at c5;clear a9;go_wp2_with fail;refine (Aw o.out R.view).mono ?_;rintro e b8 ⟨rfl,p⟩;have ba:=ah p;clear p;go_wp2_with fail;refine (oJ ba.out (Rp.jO a8.out.ok hR.vi).ok (by show R.out.length≤800000;omega)).mono ?_
   rintro e b9 ⟨rfl,r⟩;have bb:=ah r;clear r;go_wp2_with fail;have bc:=ah (Rp.gU (Rp.jO a8.out.ok hR.vi).ok);refine (iX bb.out bc.out.ok _ (Nat.le_trans bc.out.out (by show R.out.length+5≤600000;omega))).mono ?_
   rintro e ca ⟨rfl,s⟩;have bd:=ah s;clear s;go_wp2;exact bodyPost_end (results_none rfl _ _ _) rfl ⟨rfl,by rw[HE.out];exact bd.out⟩
end
section
variable {w w0:World} {b bl:Nat} {W F:List Nat} {R:Rp} {V:Rv} {P:Pm} {vl vg vo vL:Value}
theorem xO (h:Rst w0 w b bl W F R) (hR:Ok R) (hP:dX w0 W F P vl vg vo vL) (hm:dF R.n P) (ho:R.out.length≤400000)  :
  Calls Tryz.prog 95 #[Zp (some ⟨b,0,O⟩),.agg (pmC P vl vg vo vL)] w fun e w'=>e=Zr (.tuple #[])∧Rst w0 w' b bl W F (R.bR P):=by
 obtain⟨W1,F1,V1,C,D,ag,E,G,H,K,L,rfl,rfl,rfl,rfl,a,M,g,h2,N,o⟩:=h.msg hP
 clear h hP;simp only[pmC];have m:Hid (R.bR P=if R.mem P.frm then (if (P.kind==118)&&(R.want P.view).dG then (R.want P.view).count P else R.want P.view) else R):=rfl
 have c:=ah (gB N.out hR P.frm);have p:=ah (Rp.uZ hR ⟨hm.v0,hm.v1⟩);have i:=ah hm;clear hm;cases hmem:R.mem P.frm
 ·rw[hmem] at m c;go_enter Tryz.func95,Tryz.ntmps95;go_upto_region 1 with fail
  generalize w.alloc (.cells (pqC P C D ag E G H K L) 68)=U at *;obtain⟨V,X,x2,x3,x4,x5,x6,x7,x8,x9,s,t,u,v,x,xf⟩:=a.all
  go_wp2_with fail;refine (c.out).mono ?_;rintro e w1 ⟨rfl,d⟩;have f:=ah d;clear d;have j:=a.kp f.out.kp g;obtain⟨_,_,_,_,_,_,_,_,_,_,_,_,_,_,_,_⟩:=j.all
  go_wp2;exact bodyPost_ret (results_none rfl _ _ _) rfl ⟨rfl,by rw[m.out];exact o.out _ _ f.out⟩
 ·rw[hmem] at m c;cases hkd:(P.kind==118)
  ·rw[hkd] at m;go_enter Tryz.func95,Tryz.ntmps95;go_upto_region 1 with fail
   generalize w.alloc (.cells (pqC P C D ag E G H K L) 68)=U at *;obtain⟨V,X,x2,x3,x4,x5,x6,x7,x8,x9,s,t,u,v,x,xf⟩:=a.all
   go_wp2_with fail;refine (c.out).mono ?_;rintro e w1 ⟨rfl,d⟩;have f:=ah d;clear d;have j:=a.kp f.out.kp g;obtain⟨_,_,_,_,_,_,_,_,_,_,_,_,_,_,_,_⟩:=j.all
   go_wp2_with fail;refine (DW f.out hR P.view ⟨i.out.v0,i.out.v1⟩ (by omega)).mono ?_
   rintro e w2 ⟨rfl,k⟩;have l:=ah k;clear k;have q:=a.kp l.out.kp g;obtain⟨_,_,_,_,_,_,_,_,_,_,_,_,_,_,_,_⟩:=q.all
   go_wp2;exact bodyPost_end (results_none rfl _ _ _) rfl ⟨rfl,by rw[m.out];exact o.out _ _ l.out⟩
  ·rw[hkd] at m;cases hpr:(R.want P.view).dG
   focus
    rw[hpr] at m
   rotate_left
   focus
    rw[hpr] at m;have Q:Hid (P.kind=118):=ah (by simpa using hkd)
   rotate_left
   all_goals
    go_enter Tryz.func95,Tryz.ntmps95;go_upto_region 1 with fail
    generalize w.alloc (.cells (pqC P C D ag E G H K L) 68)=U at *;obtain⟨V,X,x2,x3,x4,x5,x6,x7,x8,x9,s,t,u,v,x,xf⟩:=a.all
    go_wp2_with fail;refine (c.out).mono ?_;rintro e w1 ⟨rfl,d⟩;have f:=ah d;clear d;have j:=a.kp f.out.kp g;obtain⟨_,_,_,_,_,_,_,_,_,_,_,_,_,_,_,_⟩:=j.all
    go_wp2_with fail;refine (DW f.out hR P.view ⟨i.out.v0,i.out.v1⟩ (by omega)).mono ?_
    rintro e w2 ⟨rfl,k⟩;have l:=ah k;clear k;have q:=a.kp l.out.kp g;obtain⟨_,_,_,_,_,_,_,_,_,_,_,_,_,_,_,_⟩:=q.all
    go_wp2_with fail;have y:=ah (jK l.out p.out.ok);rw[hpr] at y;refine (y.out).mono ?_;rintro e w3 ⟨rfl,z⟩;have r:=ah z;clear z;have S:=a.kp r.out.kp g;obtain⟨_,_,_,_,_,_,_,_,_,_,_,_,_,_,_,_⟩:=S.all
    go_wp2_with fail
   ·exact bodyPost_end (results_none rfl _ _ _) rfl ⟨rfl,by rw[m.out];exact o.out _ _ r.out⟩
   ·have HC:=ah (Fw r.out p.out.ok M Q.out (by rw[p.out.n];exact i.out) (Nat.le_trans p.out.out (by omega)))
    simp only[pmC] at HC;refine (HC.out).mono ?_;rintro e w4 ⟨rfl,A⟩;have B:=ah A;clear A;have T:=a.kp B.out.kp g;obtain⟨_,_,_,_,_,_,_,_,_,_,_,_,_,_,_,_⟩:=T.all
    go_wp2;exact bodyPost_end (results_none rfl _ _ _) rfl ⟨rfl,by rw[m.out];exact o.out _ _ B.out⟩
theorem yG (h:Rst w0 w b bl W F R) (hR:Ok R) (hP:dX w0 W F P vl vg vo vL) (hm:dF R.n P) (ho:R.out.length≤400000)  :
  Calls Tryz.prog 92 #[Zp (some ⟨b,0,O⟩),.agg (pmC P vl vg vo vL)] w fun e w'=>e=Zr (.tuple #[])∧Rst w0 w' b bl W F (R.aT P):=by
 obtain⟨W1,F1,V1,y,z,ag,A,B,C,D,E,rfl,rfl,rfl,rfl,a,ae,i,h2,af,o⟩:=h.msg hP
 clear h hP;simp only[pmC];have l:Hid (R.aT P=if R.mem P.frm then (if P.kind=112∨P.kind=99 then R.bare P.frm 103 else if P.kind=104 then R.dJ else if P.kind=118∧R.dG=true then R.count P else R) else R):=rfl
 have f:=ah (gB af.out hR P.frm);have ai:=ah hm;clear hm;cases hmem:R.mem P.frm
 ·rw[hmem,if_neg (by decide)] at l
  rw[hmem] at f;go_enter Tryz.func92,Tryz.ntmps92;go_upto_region 1 with fail
  generalize w.alloc (.cells (pqC P y z ag A B C D E) 68)=G at *;obtain⟨H,K,L,M,N,Q,S,T,U,V,r,s,t,u,v,X⟩:=a.all
  go_wp2_with fail;refine (f.out).mono ?_;rintro e w1 ⟨rfl,c⟩;have d:=ah c;clear c;have j:=a.kp d.out.kp i;obtain⟨_,_,_,_,_,_,_,_,_,_,_,_,_,_,_,_⟩:=j.all
  go_wp2;exact bodyPost_ret (results_none rfl _ _ _) rfl ⟨rfl,by rw[l.out];exact o.out _ _ d.out⟩
 ·rw[hmem,if_pos rfl] at l;rw[hmem] at f;cases ka:(P.kind==112)
  ·cases kb:(P.kind==99)
   ·have m:Hid (R.aT P=if P.kind=104 then R.dJ else if P.kind=118∧R.dG=true then R.count P else R):=by
     unfold Hid;rw[l.out,if_neg (by simp at ka kb;omega)]
    clear l;cases kc:(P.kind==104)
    ·have x:Hid (R.aT P=if P.kind=118∧R.dG=true then R.count P else R):=by
      unfold Hid;rw[m.out,if_neg (by simpa using kc)]
     clear m;cases kd:(P.kind==118)
     ·have l:Hid (R.aT P=R):=by unfold Hid;rw[x.out,if_neg (fun q=>by simp at kd;exact kd q.1)]
      clear x;go_enter Tryz.func92,Tryz.ntmps92;go_upto_region 1 with fail
      generalize w.alloc (.cells (pqC P y z ag A B C D E) 68)=G at *;obtain⟨H,K,L,M,N,Q,S,T,U,V,r,s,t,u,v,X⟩:=a.all
      go_wp2_with fail;refine (f.out).mono ?_;rintro e w1 ⟨rfl,c⟩;have d:=ah c;clear c;have j:=a.kp d.out.kp i;obtain⟨_,_,_,_,_,_,_,_,_,_,_,_,_,_,_,_⟩:=j.all
      go_wp2;exact bodyPost_end (results_none rfl _ _ _) rfl ⟨rfl,by rw[l.out];exact o.out _ _ d.out⟩
     ·cases hpr:R.dG
      focus
       have l:Hid (R.aT P=R):=by unfold Hid;rw[x.out,if_neg (fun q=>by rw[hpr] at q;exact absurd q.2 (by decide))]
      rotate_left
      focus
       have aa:Hid (P.kind=118):=ah (by simpa using kd)
       have l:Hid (R.aT P=R.count P):=by unfold Hid;rw[x.out,if_pos ⟨aa.out,hpr⟩]
      rotate_left
      all_goals
       clear x;go_enter Tryz.func92,Tryz.ntmps92;go_upto_region 1 with fail
       generalize w.alloc (.cells (pqC P y z ag A B C D E) 68)=G at *;obtain⟨H,K,L,M,N,Q,S,T,U,V,r,s,t,u,v,X⟩:=a.all
       go_wp2_with fail;refine (f.out).mono ?_;rintro e w1 ⟨rfl,c⟩;have d:=ah c;clear c;have j:=a.kp d.out.kp i;obtain⟨_,_,_,_,_,_,_,_,_,_,_,_,_,_,_,_⟩:=j.all
       go_wp2_with fail;have ab:=ah (jK d.out hR);rw[hpr] at ab;refine (ab.out).mono ?_;rintro e w2 ⟨rfl,k⟩;have g:=ah k;clear k;have p:=a.kp g.out.kp i;obtain⟨_,_,_,_,_,_,_,_,_,_,_,_,_,_,_,_⟩:=p.all
       go_wp2_with fail
      ·exact bodyPost_end (results_none rfl _ _ _) rfl ⟨rfl,by rw[l.out];exact o.out _ _ g.out⟩
      ·have HC:=ah (Fw g.out hR ae aa.out ai.out (by omega))
       simp only[pmC] at HC;refine (HC.out).mono ?_;rintro e w3 ⟨rfl,ac⟩;have ad:=ah ac;clear ac;have ak:=a.kp ad.out.kp i;obtain⟨_,_,_,_,_,_,_,_,_,_,_,_,_,_,_,_⟩:=ak.all
       go_wp2;exact bodyPost_end (results_none rfl _ _ _) rfl ⟨rfl,by rw[l.out];exact o.out _ _ ad.out⟩
    ·have l:Hid (R.aT P=R.dJ):=by
      unfold Hid;rw[m.out,if_pos (by simpa using kc)]
     clear m;go_enter Tryz.func92,Tryz.ntmps92;go_upto_region 1 with fail
     generalize w.alloc (.cells (pqC P y z ag A B C D E) 68)=G at *;obtain⟨H,K,L,M,N,Q,S,T,U,V,r,s,t,u,v,X⟩:=a.all
     go_wp2_with fail;refine (f.out).mono ?_;rintro e w1 ⟨rfl,c⟩;have d:=ah c;clear c;have j:=a.kp d.out.kp i;obtain⟨_,_,_,_,_,_,_,_,_,_,_,_,_,_,_,_⟩:=j.all
     go_wp2_with fail;refine (vY d.out hR (by omega)).mono ?_
     rintro e w2 ⟨rfl,k⟩;have g:=ah k;clear k;have p:=a.kp g.out.kp i;obtain⟨_,_,_,_,_,_,_,_,_,_,_,_,_,_,_,_⟩:=p.all
     go_wp2;exact bodyPost_end (results_none rfl _ _ _) rfl ⟨rfl,by rw[l.out];exact o.out _ _ g.out⟩
   ·have m:Hid (R.aT P=R.bare P.frm 103):=by
     unfold Hid;rw[l.out,if_pos (.inr (by simpa using kb))]
    clear l;have l:=ah m.out;clear m;go_enter Tryz.func92,Tryz.ntmps92;go_upto_region 1 with fail
    generalize w.alloc (.cells (pqC P y z ag A B C D E) 68)=G at *;obtain⟨H,K,L,M,N,Q,S,T,U,V,r,s,t,u,v,X⟩:=a.all
    go_wp2_with fail;refine (f.out).mono ?_;rintro e w1 ⟨rfl,c⟩;have d:=ah c;clear c;have j:=a.kp d.out.kp i;obtain⟨_,_,_,_,_,_,_,_,_,_,_,_,_,_,_,_⟩:=j.all
    go_wp2_with fail;refine (gD d.out hR P.frm 103 (by decide) (by omega)).mono ?_
    rintro e w2 ⟨rfl,k⟩;have g:=ah k;clear k;have p:=a.kp g.out.kp i;obtain⟨_,_,_,_,_,_,_,_,_,_,_,_,_,_,_,_⟩:=p.all
    go_wp2;exact bodyPost_end (results_none rfl _ _ _) rfl ⟨rfl,by rw[l.out];exact o.out _ _ g.out⟩
  ·have m:Hid (R.aT P=R.bare P.frm 103):=by
    unfold Hid;rw[l.out,if_pos (.inl (by simpa using ka))]
   clear l;have l:=ah m.out;clear m;go_enter Tryz.func92,Tryz.ntmps92;go_upto_region 1 with fail
   generalize w.alloc (.cells (pqC P y z ag A B C D E) 68)=G at *;obtain⟨H,K,L,M,N,Q,S,T,U,V,r,s,t,u,v,X⟩:=a.all
   go_wp2_with fail;refine (f.out).mono ?_;rintro e w1 ⟨rfl,c⟩;have d:=ah c;clear c;have j:=a.kp d.out.kp i;obtain⟨_,_,_,_,_,_,_,_,_,_,_,_,_,_,_,_⟩:=j.all
   go_wp2_with fail;refine (gD d.out hR P.frm 103 (by decide) (by omega)).mono ?_
   rintro e w2 ⟨rfl,k⟩;have g:=ah k;clear k;have p:=a.kp g.out.kp i;obtain⟨_,_,_,_,_,_,_,_,_,_,_,_,_,_,_,_⟩:=p.all
   go_wp2;exact bodyPost_end (results_none rfl _ _ _) rfl ⟨rfl,by rw[l.out];exact o.out _ _ g.out⟩
theorem nK (h:Rst w0 w b bl W F R) (hR:Ok R) (hP:dX w0 W F P vl vg vo vL) (ho:R.out.length≤900000)  :
  Calls Tryz.prog 84 #[Zp (some ⟨b,0,O⟩),.agg (pmC P vl vg vo vL)] w fun e w'=>e=Zr (.tuple #[])∧Rst w0 w' b bl W F (R.bP P):=by
 obtain⟨W1,F1,V1,N,Q,ag,S,T,U,V,X,rfl,rfl,rfl,rfl,c,ae,d,M,r,g⟩:=h.msg hP
 clear h hP;simp only[pmC];have f:Hid (R.bP P=if R.status==1 then R.tell P.frm else if P.epoch<R.epoch then R.jL P.frm else if Rp.qW P&&R.mem P.frm then R.bare P.frm 104 else R):=rfl
 cases hs:(R.status==1)
 ·rw[hs,if_neg (by decide)] at f
  by_cases hq:P.epoch<R.epoch
  focus
   rw[if_pos hq] at f
  rotate_left
  focus
   rw[if_neg hq] at f;have aa:Hid (∀ w,Calls Tryz.prog 94 #[.agg (pqC P N Q ag S T U V X)] w fun e w'=>e=Zr (.bool (Rp.qW P))∧Below w.heap.size w w'):=fun w=>jE P _ _ _ _ w
  rotate_left
  all_goals
   go_enter Tryz.func84,Tryz.ntmps84;go_upto_region 1 with fail
   generalize w.alloc (.cells (pqC P N Q ag S T U V X) 68)=wA at *;obtain⟨s,t,u,v,x,y,z,A,B,C,i,j,k,l,m,D⟩:=c.all
   have c3:=M.c3;have c4:=M.c4;go_wp2_with fail;go_quiet (fail);rename_i nq;have p:=ah (r.out.drewN nq);have ab:=c.kp p.out.kp d;clear s t u v x y z A B C i j k l m D c3 c4;generalize wA.drewN nq=wq at *;obtain⟨s,t,u,v,x,y,z,A,B,C,i,j,k,l,m,D⟩:=ab.all
   go_wp2_with fail
  ·refine (xQ p.out hR P.frm ho).mono ?_;rintro e w1 ⟨rfl,n⟩;have a:=ah n;clear n;have o:=c.kp a.out.kp d;obtain⟨_,_,_,_,_,_,_,_,_,_,_,_,_,_,_,_⟩:=o.all
   go_wp2;exact bodyPost_end (results_none rfl _ _ _) rfl ⟨rfl,by rw[f.out];exact g.out _ _ a.out⟩
  ·refine (aa.out _).mono ?_;rintro e w1 ⟨rfl,E⟩;have a:=ah (p.out.below E);have o:=c.kp a.out.kp d;clear s t u v x y z A B C i j k l m D;obtain⟨s,t,u,v,x,y,z,A,B,C,i,j,k,l,m,D⟩:=o.all
   clear E;cases hc:Rp.qW P
   ·rw[hc,Bool.false_and,if_neg (by decide)] at f
    go_wp2;exact bodyPost_end (results_none rfl _ _ _) rfl ⟨rfl,by rw[f.out];exact g.out _ _ a.out⟩
   ·rw[hc,Bool.true_and] at f;have G:=ah (gB a.out hR P.frm);cases hmem:R.mem P.frm
    focus
     rw[hmem,if_neg (by decide)] at f
    rotate_left
    focus
     rw[hmem,if_pos rfl] at f
    rotate_left
    all_goals
     rw[hmem] at G;go_wp2_with fail;refine (G.out).mono ?_;rintro e w2 ⟨rfl,H⟩;have q:=ah H;clear H;have ac:=c.kp q.out.kp d;obtain⟨_,_,_,_,_,_,_,_,_,_,_,_,_,_,_,_⟩:=ac.all
     go_wp2_with fail
    ·exact bodyPost_end (results_none rfl _ _ _) rfl ⟨rfl,by rw[f.out];exact g.out _ _ q.out⟩
    ·refine (gD q.out hR P.frm 104 (by decide) ho).mono ?_
     rintro e w3 ⟨rfl,K⟩;have L:=ah K;clear K;have ad:=c.kp L.out.kp d;obtain⟨_,_,_,_,_,_,_,_,_,_,_,_,_,_,_,_⟩:=ad.all
     go_wp2;exact bodyPost_end (results_none rfl _ _ _) rfl ⟨rfl,by rw[f.out];exact g.out _ _ L.out⟩
 ·rw[hs,if_pos rfl] at f;go_enter Tryz.func84,Tryz.ntmps84;go_upto_region 1 with fail
  generalize w.alloc (.cells (pqC P N Q ag S T U V X) 68)=wA at *;obtain⟨s,t,u,v,x,y,z,A,B,C,i,j,k,l,m,D⟩:=c.all
  have c3:=M.c3;have c4:=M.c4;go_wp2_with fail;refine (sN r.out hR P.frm ho).mono ?_;rintro e w1 ⟨rfl,n⟩;have a:=ah n;clear n;have o:=c.kp a.out.kp d;obtain⟨_,_,_,_,_,_,_,_,_,_,_,_,_,_,_,_⟩:=o.all
  go_wp2;exact bodyPost_end (results_none rfl _ _ _) rfl ⟨rfl,by rw[f.out];exact g.out _ _ a.out⟩
end
end Go.Proofs.YtinaollfjiddmaaGreatDoor
