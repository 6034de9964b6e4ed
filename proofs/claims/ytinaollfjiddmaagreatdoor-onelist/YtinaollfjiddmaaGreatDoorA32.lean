import Derived.Test.YtinaollfjiddmaaGreatDoorA30
import Derived.Test.YtinaollfjiddmaaGreatDoorA31
import Derived.Test.YtinaollfjiddmaaGreatDoorA17
set_option maxRecDepth 100000
set_option maxHeartbeats 8000000
set_option linter.all false
namespace Go.Proofs.YtinaollfjiddmaaGreatDoor
open Go.Value renaming int→I,slice→Y,string→Z,pointer→Zp
open Go.Ending renaming returned→Zr
open _root_.ByteArray renaming empty→Ze
open Go.IntKind renaming i64→J
open Option renaming none→O
open Go.RowKit
section
variable {w w0:World} {b bl:Nat} {W F:List Nat} {R:Rp} {V:Rv} {P:Pm} {vl vg vo vL:Value}
theorem BA (h:Rst w0 w b bl W F R) (hR:Ok R) (hP:dX w0 W F P vl vg vo vL) (hm:dF R.n P) (ho:R.out.length≤300000) (hk:P.kind=97) :
  Calls Tryz.prog 47 #[Zp (some ⟨b,0,O⟩),.agg (pmC P vl vg vo vL)] w fun e w'=>e=Zr (.tuple #[])∧Rst w0 w' b bl W F (R.dH P):=by
 obtain⟨W1,F1,V1,al,cl,ag,cg,ao,co,aL,cL,rfl,rfl,rfl,rfl,ad,bj,a2,h2,bk,G⟩:=h.msg hP
 clear h hP;simp only[pmC];obtain⟨c,ae⟩:∃ f:Nat,R.id=f:=⟨R.id.toNat,by have:=hR.i0;omega⟩
 have g3:c<R.lives.length:=by have:=hR.i1;have:=hR.ll;omega
 have af:Hid (R.dH P=if P.life=R.lives[c] then (match fI (aK R.answers P) with|some a=>if (regs a.log:Int)≤a.epoch then ({ R with answers:=aK R.answers P }:Rp).resume a else { R with answers:=aK R.answers P }|none=>{ R with answers:=aK R.answers P }) else R):=by
  have e:R.lives.getD R.id.toNat 0=R.lives[c]:=by rw[ae];simp[List.getD,g3]
  unfold Hid;rw[← e];rfl
 have j:=ah (Rp.rz hR hk hm);have ai:=h2.lives.rd;obtain⟨ca,a3⟩:=h2.g2
 rw[a3] at ai;obtain⟨b4,o4,Q,cb,z4⟩:=Ints.get ai c g3
 simp only[Option.some.injEq,Addr.mk.injEq] at Q;obtain⟨rfl,rfl,_⟩:=Q
 simp only[Nat.zero_add] at z4;have c0:=h2.c0;rw[ae] at c0;have c2:=h2.c2;rw[a3] at c2;have j1:(0:Int)≤(c:Int):=by omega
 have j2:(c:Int)<(R.lives.length:Int):=by omega
 clear hm hk ae ai;cases hq:(P.life==R.lives[c])
 focus
  have bm:(P.life != R.lives[c])=true:=by simp[bne,hq]
  have H:Hid (R.dH P=R):=by unfold Hid;rw[af.out,if_neg (by simpa using hq)]
 rotate_left
 focus
  have bm:(P.life != R.lives[c])=false:=by simp[bne,hq]
  have ak:Hid (R.dH P=match fI (aK R.answers P) with|some a=>if (regs a.log:Int)≤a.epoch then ({ R with answers:=aK R.answers P }:Rp).resume a else { R with answers:=aK R.answers P }|none=>{ R with answers:=aK R.answers P }):=by unfold Hid;rw[af.out,if_pos (by simpa using hq)]
 rotate_left
 all_goals
  clear af;go_enter Tryz.func47,Tryz.ntmps47;go_upto_region 1 with fail
  generalize w.alloc (.cells (pqC P al cl ag cg ao co aL cL) 68)=wA at *;obtain⟨T,U,V,K,X,x5,x6,x7,x8,x9,k,l,o,p,i,xf⟩:=ad.all
  go_wp2_with fail;go_quiet (fail);rename_i nq;have am:=ah (bk.out.drewN nq);have ap:=ad.kp am.out.kp a2;clear T U V K X x5 x6 x7 x8 x9 k l o p i xf c0 c2 z4;generalize wA.drewN nq=wq at *;obtain⟨T,U,V,K,X,x5,x6,x7,x8,x9,k,l,o,p,i,xf⟩:=ap.all
 ·go_wp2;exact bodyPost_ret (results_none rfl _ _ _) rfl ⟨rfl,by rw[H.out];exact G.out _ _ am.out⟩
 ·go_upto_region 2 with fail
  go_cut [] from 6 (fun wx=>Rst wA wx b bl W1 F1 { R with answers:=aK R.answers P })
  case first =>
   clear T U V K X x5 x6 x7 x8 x9 k l o p i xf;obtain⟨W3,F3,V3,h3,k3,m3,p3⟩:=am.out.pm bj
   have bn:=ad.kp k3 a2;obtain⟨T,U,V,K,X,x5,x6,x7,x8,x9,k,l,o,p,i,xf⟩:=bn.all
   have c63:=h3.c63;obtain⟨cc,b6,aa⟩:=h3.g63
   have r:=h3.answers;rw[aa] at c63 r;have aq:R.answers.length≤1000000:=by have:=nE hR.n7 hR.nn (fun m hm=>⟨(hR.an m hm).2.f0,(hR.an m hm).2.f1⟩);omega
   have HJ:=ah (uF _ R.answers (P) _ _ _ _ W3 F3 wq.drew (r.below (Below.refl _ _).drew) aq (p3.kp (Kp.of_below (Below.refl _ _).drew)));have ar:=ah h3;have a4:=ah k3;have a6:=ah m3;clear h3 r p3 m3 k3;go_region_with (go_at_call 78;refine HJ.out.mono ?_;rintro e w5 ⟨v5,rfl,a7,a8⟩;have bo:=ah a7;obtain⟨cd,a9,bp⟩:=a7;obtain⟨a5,c5,rfl⟩:=aj a9;clear a9 bp;have s:=jv a8;have bq:=(ar.out.below s).c63;have b7:=(ar.out.below s).free 63;rw[aa] at bq)
   all_goals
    obtain⟨F5,h5,p5,m5⟩:=mR.rep (ar.out.below (Below.refl _ _).drew) a8 bo.out (by simp)
    have E:=h5.qy _ _ p5;have br:Hid (Rst wA _ b bl W1 F1 _):=⟨W3,F5,_,E,(a4.out.aS s).mv a6.out (h5.qI _ _),a6.out.trans (m5.xE (Nat.le_refl _)) a4.out.size⟩
    clear h5 p5 m5 E;go_wp2_with fail;go_meet;exact br.out
  case rest =>
   have ba:=ah hcut;obtain⟨W6,F6,V6,E,k6,m6⟩:=hcut
   obtain⟨w6,bs⟩:∃ x,x=wc:=⟨_,rfl⟩
   subst bs;have aq:(aK R.answers P).length≤7:=nE hR.n7 j.out.nn (fun m hm=>⟨(j.out.an m hm).2.f0,(j.out.an m hm).2.f1⟩)
   have c63:=E.c63;obtain⟨ce,b8,ab⟩:=E.g63
   have r:=E.answers;simp only at ab r
   rw[ab] at c63 r;have bt:=ah (Fh _ (aK R.answers P) W6 F6 w6 r aq E.wlt E.fl (fun m hm=>((j.out.an m hm).2.g (.inr (j.out.an m hm).1)).1.1) (fun m hm=>(j.out.an m hm).2.v1))
   have bu:Hid (∀ a,fI (aK R.answers P)=some a→a.kind=97∧dF R.n a):=fun a ha=>j.out.an a (Rp.nX ha)
   have H6:=ah E;have bv:Hid (∀ w' R',Rst w6 w' b bl W6 F6 R'→Rst wA w' b bl W1 F1 R'):=fun w' R' q=>Rst.step k6 m6 q
   clear r E k6 m6 T U V K X x5 x6 x7 x8 x9 k l o p i xf;go_wp2_with fail;refine bt.out.mono ?_;rintro e w7 ⟨L,av⟩;rcases av with ⟨hn,rfl⟩|⟨a,u1,u2,u3,u4,aw,rfl,ax⟩
   ·have H:Hid (R.dH P={ R with answers:=aK R.answers P }):=by unfold Hid;rw[ak.out,hn]
    have bw:=ah (ba.out.below L);clear hn;go_wp2_with fail;go_quiet (fail);rename_i nq;have az:=ah ((bw.out.below ((Below.refl _ w7).alloc (Nat.le_refl _) (.cells #[I .u8 0,I J 0,Y O 0 0,I J 0,I J 0,I J 0,I J 0,I J 0,Z ⟨#[]⟩,I J 0,I J 0,I J 0,Y O 0 0,Y O 0 0,Y O 0 0] 68))).drewN nq);go_wp2;exact bodyPost_end (results_none rfl _ _ _) rfl ⟨rfl,by rw[H.out];exact G.out _ _ az.out⟩
   ·obtain⟨t,u,v,y,z,A,B,C,rfl,rfl,rfl,rfl⟩:=ax.cells
    have bb:Hid (R.dH P=if (regs a.log:Int)≤a.epoch then ({ R with answers:=aK R.answers P }:Rp).resume a else { R with answers:=aK R.answers P }):=by unfold Hid;rw[ak.out,aw]
    have M:=ah (bu.out a aw);have bc:dD (w7.alloc (.cells #[I .u8 a.kind,I J a.frm,Y t a.lives.length u,I J a.epoch,I J a.view,I J a.place,I J a.ent.1,I J a.ent.2.1,Z a.ent.2.2,I J a.commit,I J a.normal,I J a.life,Y v a.grp.length y,Y z a.old.length A,Y B a.log.length C] 68)) w7.heap.size #[I .u8 a.kind,I J a.frm,Y t a.lives.length u,I J a.epoch,I J a.view,I J a.place,I J a.ent.1,I J a.ent.2.1,Z a.ent.2.2,I J a.commit,I J a.normal,I J a.life,Y v a.grp.length y,Y z a.old.length A,Y B a.log.length C]:=⟨rfl,heap_alloc_new w7 _⟩
    have bd:Below w6.heap.size w6 (w7.alloc (.cells #[I .u8 a.kind,I J a.frm,Y t a.lives.length u,I J a.epoch,I J a.view,I J a.place,I J a.ent.1,I J a.ent.2.1,Z a.ent.2.2,I J a.commit,I J a.normal,I J a.life,Y v a.grp.length y,Y z a.old.length A,Y B a.log.length C] 68)):=L.alloc L.size _
    have a0:=ax.below ((Below.refl _ w7).alloc (Nat.le_refl _) (.cells #[I .u8 a.kind,I J a.frm,Y t a.lives.length u,I J a.epoch,I J a.view,I J a.place,I J a.ent.1,I J a.ent.2.1,Z a.ent.2.2,I J a.commit,I J a.normal,I J a.life,Y v a.grp.length y,Y z a.old.length A,Y B a.log.length C] 68));have a1:=M.out.2.lg (.inr (.inr M.out.1));have b9:=a1.1;have bx:Hid (∀ e∈a.log,e.2.2.size≤1000):=fun e he=>by have:=(a1.2 e he).2.2.2.2.2;omega
    simp only[pmC];clear aw ax L ak a1;go_upto_region 4 with fail
    generalize w7.alloc (.cells #[I .u8 a.kind,I J a.frm,Y t a.lives.length u,I J a.epoch,I J a.view,I J a.place,I J a.ent.1,I J a.ent.2.1,Z a.ent.2.2,I J a.commit,I J a.normal,I J a.life,Y v a.grp.length y,Y z a.old.length A,Y B a.log.length C] 68)=wB at *;obtain⟨T,U,V,K,X,x5,x6,x7,x8,x9,k,l,o,p,i,xf⟩:=bc.all
    have be:=cell_regrown K;have ac:=cell_regrown i;have cR:=fun d os=>Calls.regrown_of (w:=wB) (d:=d) (os:=os) (qm _ a.log _ (a0.log.below (below_regrown wB d os)) (by omega) bx.out)
    have bz:=ah a0;have N:=ah bd;clear a0 bd;by_cases hr:(regs a.log:Int)≤a.epoch
    focus
     have H:=ah bb.out;rw[if_pos hr] at H
    rotate_left
    focus
     have H:=ah bb.out;rw[if_neg hr] at H
    rotate_left
    all_goals
     go_wp2_with fail;refine wp_region_quiet_below (by kernel_rfl) (by kernel_rfl) ?_
     repeat (go_big_quiet_step (first|exact cR _ _))
     refine wpQuiet_nil ?_;intro w8 hw';have D:Below wB.heap.size wB w8:=by
      obtain⟨⟨dq,b2⟩,bg⟩:=hw'
      rw[bg];exact below_regrown wB dq b2
    ·have b3:=bc.kp (S:=[]) (Kp.of_below D) (by simp)
     have h8:=(H6.out.below N.out).below D;have bh:=ah ((Kq (Rst.refl h8) j.out (bz.out.below D) M.out.2 (by show R.out.length≤400000;omega) M.out.1).mono (fun e w' q=>(⟨q.1,bv.out _ _ (Rst.pre (Kp.of_below (N.out.trans (D.mono N.out.size))) q.2)⟩:e=Zr (.tuple #[])∧Rst wA w' b bl W1 F1 _)))
     simp only[pmC] at bh;clear hw' cR be ac T U V K X x5 x6 x7 x8 x9 k l o p i xf h8;obtain⟨T,U,V,K,X,x5,x6,x7,x8,x9,k,l,o,p,i,xf⟩:=b3.all
     go_wp2_with fail;refine bh.out.mono ?_;rintro e w9 ⟨rfl,bi⟩;have b5:=ah bi;clear bi;go_wp2;exact bodyPost_end (results_none rfl _ _ _) rfl ⟨rfl,by rw[H.out];exact G.out _ _ b5.out⟩
    ·have az:=ah ((ba.out.below N.out).below D);clear hw' cR be ac;go_wp2;exact bodyPost_end (results_none rfl _ _ _) rfl ⟨rfl,by rw[H.out];exact G.out _ _ az.out⟩
theorem xP (h:Rst w0 w b bl W F R) (hR:Ok R) (hP:dX w0 W F P vl vg vo vL) (hm:dF R.n P) (ho:R.out.length≤200000)  :
  Calls Tryz.prog 22 #[Zp (some ⟨b,0,O⟩),.agg (pmC P vl vg vo vL)] w fun e w'=>e=Zr (.tuple #[])∧Rst w0 w' b bl W F (R.aU P):=by
 obtain⟨W1,F1,V1,u,v,ag,x,y,z,A,B,rfl,rfl,rfl,rfl,f,l,m,C,i,j⟩:=h.msg hP
 clear h hP;simp only[pmC];have c:Hid (R.aU P=if R.status=3 then (if P.kind=97 then R.dH P else R) else if P.kind=115 then R.dQ P else if P.kind=114 then R.answer P else if P.kind=116 then R.dV P else if P.kind=97 then R else if R.status=4∨R.status=5 then R.bZ P else R.bH P):=rfl
 have t:=ah hm;clear hm;cases s3:(R.status==3)
 ·cases k1:(P.kind==115)
  ·cases k2:(P.kind==114)
   ·cases k3:(P.kind==116)
    ·cases k4:(P.kind==97)
     ·cases s4:(R.status==4)
      ·cases s5:(R.status==5)
       focus
        have k:Hid (R.aU P=R.bH P):=by unfold Hid;rw[c.out,if_neg (by simpa using s3),if_neg (by simpa using k1),if_neg (by simpa using k2),if_neg (by simpa using k3),if_neg (by simpa using k4),if_neg (by simp at s4 s5;omega)]
       rotate_left
       focus
        have k:Hid (R.aU P=R.bZ P):=by unfold Hid;rw[c.out,if_neg (by simpa using s3),if_neg (by simpa using k1),if_neg (by simpa using k2),if_neg (by simpa using k3),if_neg (by simpa using k4),if_pos (.inr (by simpa using s5))]
       rotate_left
       all_goals
        clear c;go_enter Tryz.func22,Tryz.ntmps22;go_upto_region 1 with fail
        generalize w.alloc (.cells (pqC P u v ag x y z A B) 68)=E at *;obtain⟨G,H,K,L,M,N,Q,S,T,U,o,p,q,r,s,V⟩:=f.all
        have c3:=C.c3
       focus
        have HC:=ah (BF i.out hR l t.out (by omega))
       rotate_left
       focus
        have HC:=ah (rJ i.out hR l (by omega))
       rotate_left
       all_goals
        simp only[pmC] at HC;go_wp2_with fail;refine (HC.out).mono ?_;rintro e X ⟨rfl,d⟩;have a:=ah d;clear d;have g:=f.kp a.out.kp m;obtain⟨_,_,_,_,_,_,_,_,_,_,_,_,_,_,_,_⟩:=g.all
        go_wp2_with fail
       ·exact bodyPost_end (results_none rfl _ _ _) rfl ⟨rfl,by rw[k.out];exact j.out _ _ a.out⟩
       ·exact bodyPost_ret (results_none rfl _ _ _) rfl ⟨rfl,by rw[k.out];exact j.out _ _ a.out⟩
      ·have k:Hid (R.aU P=R.bZ P):=by unfold Hid;rw[c.out,if_neg (by simpa using s3),if_neg (by simpa using k1),if_neg (by simpa using k2),if_neg (by simpa using k3),if_neg (by simpa using k4),if_pos (.inl (by simpa using s4))]
       clear c;go_enter Tryz.func22,Tryz.ntmps22;go_upto_region 1 with fail
       generalize w.alloc (.cells (pqC P u v ag x y z A B) 68)=E at *;obtain⟨G,H,K,L,M,N,Q,S,T,U,o,p,q,r,s,V⟩:=f.all
       have c3:=C.c3;have HC:=ah (rJ i.out hR l (by omega))
       simp only[pmC] at HC;go_wp2_with fail;refine (HC.out).mono ?_;rintro e X ⟨rfl,d⟩;have a:=ah d;clear d;have g:=f.kp a.out.kp m;obtain⟨_,_,_,_,_,_,_,_,_,_,_,_,_,_,_,_⟩:=g.all
       go_wp2;exact bodyPost_ret (results_none rfl _ _ _) rfl ⟨rfl,by rw[k.out];exact j.out _ _ a.out⟩
     ·have k:Hid (R.aU P=R):=by unfold Hid;rw[c.out,if_neg (by simpa using s3),if_neg (by simpa using k1),if_neg (by simpa using k2),if_neg (by simpa using k3),if_pos (by simpa using k4)]
      clear c;go_enter Tryz.func22,Tryz.ntmps22;go_upto_region 1 with fail
      generalize w.alloc (.cells (pqC P u v ag x y z A B) 68)=E at *;obtain⟨G,H,K,L,M,N,Q,S,T,U,o,p,q,r,s,V⟩:=f.all
      have c3:=C.c3;go_wp2;exact bodyPost_ret (results_none rfl _ _ _) rfl ⟨rfl,by rw[k.out];exact j.out _ _ i.out⟩
    ·have k:Hid (R.aU P=R.dV P):=by unfold Hid;rw[c.out,if_neg (by simpa using s3),if_neg (by simpa using k1),if_neg (by simpa using k2),if_pos (by simpa using k3)]
     clear c;go_enter Tryz.func22,Tryz.ntmps22;go_upto_region 1 with fail
     generalize w.alloc (.cells (pqC P u v ag x y z A B) 68)=E at *;obtain⟨G,H,K,L,M,N,Q,S,T,U,o,p,q,r,s,V⟩:=f.all
     have c3:=C.c3;have HC:=ah (DT i.out hR l t.out);simp only[pmC] at HC;go_wp2_with fail;refine (HC.out).mono ?_;rintro e X ⟨rfl,d⟩;have a:=ah d;clear d;have g:=f.kp a.out.kp m;obtain⟨_,_,_,_,_,_,_,_,_,_,_,_,_,_,_,_⟩:=g.all
     go_wp2;exact bodyPost_ret (results_none rfl _ _ _) rfl ⟨rfl,by rw[k.out];exact j.out _ _ a.out⟩
   ·have k:Hid (R.aU P=R.answer P):=by unfold Hid;rw[c.out,if_neg (by simpa using s3),if_neg (by simpa using k1),if_pos (by simpa using k2)]
    clear c;go_enter Tryz.func22,Tryz.ntmps22;go_upto_region 1 with fail
    generalize w.alloc (.cells (pqC P u v ag x y z A B) 68)=E at *;obtain⟨G,H,K,L,M,N,Q,S,T,U,o,p,q,r,s,V⟩:=f.all
    have c3:=C.c3;have HC:=ah (Kn i.out hR l t.out (by omega))
    simp only[pmC] at HC;go_wp2_with fail;refine (HC.out).mono ?_;rintro e X ⟨rfl,d⟩;have a:=ah d;clear d;have g:=f.kp a.out.kp m;obtain⟨_,_,_,_,_,_,_,_,_,_,_,_,_,_,_,_⟩:=g.all
    go_wp2;exact bodyPost_ret (results_none rfl _ _ _) rfl ⟨rfl,by rw[k.out];exact j.out _ _ a.out⟩
  ·have k:Hid (R.aU P=R.dQ P):=by unfold Hid;rw[c.out,if_neg (by simpa using s3),if_pos (by simpa using k1)]
   clear c;have D:Hid (P.kind=115):=ah (by simpa using k1)
   go_enter Tryz.func22,Tryz.ntmps22;go_upto_region 1 with fail
   generalize w.alloc (.cells (pqC P u v ag x y z A B) 68)=E at *;obtain⟨G,H,K,L,M,N,Q,S,T,U,o,p,q,r,s,V⟩:=f.all
   have c3:=C.c3;have HC:=ah (DU i.out hR l t.out (by omega) D.out)
   simp only[pmC] at HC;go_wp2_with fail;refine (HC.out).mono ?_;rintro e X ⟨rfl,d⟩;have a:=ah d;clear d;have g:=f.kp a.out.kp m;obtain⟨_,_,_,_,_,_,_,_,_,_,_,_,_,_,_,_⟩:=g.all
   go_wp2;exact bodyPost_ret (results_none rfl _ _ _) rfl ⟨rfl,by rw[k.out];exact j.out _ _ a.out⟩
 ·cases k4:(P.kind==97)
  focus
   have k:Hid (R.aU P=R):=by unfold Hid;rw[c.out,if_pos (by simpa using s3),if_neg (by simpa using k4)]
   clear c
  rotate_left
  focus
   have k:Hid (R.aU P=R.dH P):=by unfold Hid;rw[c.out,if_pos (by simpa using s3),if_pos (by simpa using k4)]
   clear c;have D:Hid (P.kind=97):=ah (by simpa using k4)
  rotate_left
  all_goals
   go_enter Tryz.func22,Tryz.ntmps22;go_upto_region 1 with fail
   generalize w.alloc (.cells (pqC P u v ag x y z A B) 68)=E at *;obtain⟨G,H,K,L,M,N,Q,S,T,U,o,p,q,r,s,V⟩:=f.all
   have c3:=C.c3
  ·go_wp2;exact bodyPost_ret (results_none rfl _ _ _) rfl ⟨rfl,by rw[k.out];exact j.out _ _ i.out⟩
  ·have HC:=ah (BA i.out hR l t.out (by omega) D.out)
   simp only[pmC] at HC;go_wp2_with fail;refine (HC.out).mono ?_;rintro e X ⟨rfl,d⟩;have a:=ah d;clear d;have g:=f.kp a.out.kp m;obtain⟨_,_,_,_,_,_,_,_,_,_,_,_,_,_,_,_⟩:=g.all
   go_wp2;exact bodyPost_ret (results_none rfl _ _ _) rfl ⟨rfl,by rw[k.out];exact j.out _ _ a.out⟩
end
end Go.Proofs.YtinaollfjiddmaaGreatDoor
