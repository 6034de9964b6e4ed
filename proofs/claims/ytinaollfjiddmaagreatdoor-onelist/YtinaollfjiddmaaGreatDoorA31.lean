import Derived.Test.YtinaollfjiddmaaGreatDoorA20
import Derived.Test.YtinaollfjiddmaaGreatDoorA29
import Derived.Test.YtinaollfjiddmaaGreatDoorA19
set_option maxRecDepth 100000
set_option maxHeartbeats 8000000
set_option linter.all false
namespace Go.Proofs.YtinaollfjiddmaaGreatDoor
open Go.Value renaming int→I,slice→Y,string→Z,pointer→Zp
open Go.Ending renaming returned→Zr
open _root_.ByteArray renaming empty→Ze
open Go.IntKind renaming i64→J
open Option renaming none→O
open Go.RowKit
section
variable {w w0:World} {b bl:Nat} {W F:List Nat} {R:Rp} {V:Rv} {P:Pm} {vl vg vo vL:Value}
theorem DT (h:Rst w0 w b bl W F R) (hR:Ok R) (hP:dX w0 W F P vl vg vo vL) (hm:dF R.n P)  :
  Calls Tryz.prog 50 #[Zp (some ⟨b,0,O⟩),.agg (pmC P vl vg vo vL)] w fun e w'=>e=Zr (.tuple #[])∧Rst w0 w' b bl W F (R.dV P):=by
 obtain⟨W1,F1,V1,T,U,ag,V,X,co,aL,cL,rfl,rfl,rfl,rfl,m,aq,L,M,N,o⟩:=h.msg hP
 clear h hP;simp only[pmC];have l:Hid (R.dV P=if (R.status==5)&&(P.epoch==R.epoch)&&R.mem P.frm then (if eP R.grp<(Rp.starters (R.started.set P.frm.toNat true):Int) then { R with started:=R.started.set P.frm.toNat true,status:=4 } else { R with started:=R.started.set P.frm.toNat true }) else R):=rfl
 have f0:=hm.f0;have f7:P.frm<7:=by have:=hm.f1;have:=hR.n7;omega
 have ar:=hR.g.1;have r:Hid (∀ n,Calls Tryz.prog 16 #[Zp (some ⟨b,0,O⟩),I J P.frm] ((w.alloc (.cells (pqC P T U ag V X co aL cL) 68)).drewN n) fun e w'=>e=Zr (.bool (R.mem P.frm))∧w'=(w.alloc (.cells (pqC P T U ag V X co aL cL) 68)).drewN n):=fun n=>mK (M.drewN n) hR P.frm
 clear hm;cases hs:(R.status==5)
 ·have ae:(R.status != 5)=true:=by simp[bne,hs]
  have p:Hid (R.dV P=R):=by unfold Hid;rw[l.out,hs];rfl
  clear l;go_enter Tryz.func50,Tryz.ntmps50;go_upto_region 1 with fail
  generalize w.alloc (.cells (pqC P T U ag V X co aL cL) 68)=K at *;obtain⟨s,t,u,y,z,A,B,C,D,E,c,d,f,i,j,G⟩:=m.all
  have c3:=M.c3;have c4:=M.c4;go_wp2_with fail;go_quiet ((go_at_call 16;exact Calls.quiet_of_same (r.out _)))
  rename_i nq;have k:=ah (N.out.drewN nq);have a:=m.kp k.out.kp L;clear s t u y z A B C D E c d f i j G c3 c4;generalize K.drewN nq=wq at *;obtain⟨s,t,u,y,z,A,B,C,D,E,c,d,f,i,j,G⟩:=a.all
  go_wp2;exact bodyPost_ret (results_none rfl _ _ _) rfl ⟨rfl,by rw[p.out];exact o.out _ _ k.out⟩
 ·have ae:(R.status != 5)=false:=by simp[bne,hs]
  cases ep:(P.epoch==R.epoch)
  ·have aa:(P.epoch != R.epoch)=true:=by simp[bne,ep]
   have p:Hid (R.dV P=R):=by unfold Hid;rw[l.out,hs,ep];rfl
   clear l;go_enter Tryz.func50,Tryz.ntmps50;go_upto_region 1 with fail
   generalize w.alloc (.cells (pqC P T U ag V X co aL cL) 68)=K at *;obtain⟨s,t,u,y,z,A,B,C,D,E,c,d,f,i,j,G⟩:=m.all
   have c3:=M.c3;have c4:=M.c4;go_wp2_with fail;go_quiet ((go_at_call 16;exact Calls.quiet_of_same (r.out _)))
   rename_i nq;have k:=ah (N.out.drewN nq);have a:=m.kp k.out.kp L;clear s t u y z A B C D E c d f i j G c3 c4;generalize K.drewN nq=wq at *;obtain⟨s,t,u,y,z,A,B,C,D,E,c,d,f,i,j,G⟩:=a.all
   go_wp2;exact bodyPost_ret (results_none rfl _ _ _) rfl ⟨rfl,by rw[p.out];exact o.out _ _ k.out⟩
  ·have aa:(P.epoch != R.epoch)=false:=by simp[bne,ep]
   cases hmem:R.mem P.frm
   focus
    have p:Hid (R.dV P=R):=by unfold Hid;rw[l.out,hs,ep,hmem];rfl
   rotate_left
   focus
    have ab:Hid (R.dV P=if eP R.grp<(Rp.starters (R.started.set P.frm.toNat true):Int) then { R with started:=R.started.set P.frm.toNat true,status:=4 } else { R with started:=R.started.set P.frm.toNat true }):=by unfold Hid;rw[l.out,hs,ep,hmem];rfl
   rotate_left
   all_goals
    rw[hmem] at r;clear l;go_enter Tryz.func50,Tryz.ntmps50;go_upto_region 1 with fail
    generalize w.alloc (.cells (pqC P T U ag V X co aL cL) 68)=K at *;obtain⟨s,t,u,y,z,A,B,C,D,E,c,d,f,i,j,G⟩:=m.all
    have c3:=M.c3;have c4:=M.c4;go_wp2_with fail;go_quiet ((go_at_call 16;exact Calls.quiet_of_same (r.out _)))
    rename_i nq;have k:=ah (N.out.drewN nq);have a:=m.kp k.out.kp L;clear s t u y z A B C D E c d f i j G c3 c4;generalize K.drewN nq=wq at *;obtain⟨s,t,u,y,z,A,B,C,D,E,c,d,f,i,j,G⟩:=a.all
   ·go_wp2;exact bodyPost_ret (results_none rfl _ _ _) rfl ⟨rfl,by rw[p.out];exact o.out _ _ k.out⟩
   ·obtain⟨WQ,FQ,VQ,S,kQ,mQ⟩:=k.out
    have af:=S.st;have ca:∃ v,wq.cell? ⟨b,64+P.frm.toNat,O⟩=some v:=⟨_,S.cst P.frm.toNat (by omega)⟩
    obtain⟨va,ca⟩:=ca
    have cf:=S.free (64+P.frm.toNat);have ai:Hid (Rst K (wq.setCell ⟨b,64+P.frm.toNat,O⟩ (.bool true)) b bl W1 F1 { R with started:=R.started.set P.frm.toNat true }):=Rst.step kQ mQ (Rst.of (S.setSt P.frm.toNat (by omega) true) (S.qI _ _))
    clear S kQ mQ af;go_upto_region 2 with fail
    go_cut [] from 4 (fun wx=>Rst K wx b bl W1 F1 { R with started:=R.started.set P.frm.toNat true })
    case first =>
     go_region
     all_goals go_wp2_with fail
     all_goals go_meet
     all_goals exact ai.out.drew
    case rest =>
     have Q:=ah hcut;obtain⟨w9,ak⟩:∃ x,x=wc:=⟨_,rfl⟩
     subst ak;obtain⟨WS,av,VS,hS,kS,mS⟩:=Q.out
     have c7:=hS.c7;obtain⟨a7,am,ac⟩:=hS.g7
     have H:=hS.grp;simp only at ac H
     rw[ac] at c7 H;have an:Hid (∀ n,Calls Tryz.prog 89 #[Y a7 R.grp.length am] (w9.drewN n) fun e w'=>e=Zr (I J (eP R.grp))∧w'=w9.drewN n):=fun n=>ql _ R.grp _ (H.below (below_drewN (Below.refl _ _) n)) (by omega)
     have ap:Hid (∀ n,Calls Tryz.prog 88 #[Zp (some ⟨b,0,O⟩)] (w9.drewN n) fun e w'=>e=Zr (I J (Rp.starters (R.started.set P.frm.toNat true):Int))∧w'=w9.drewN n):=fun n=>DJ (hS.drewN n)
     clear hcut s t u y z A B C D E c d f i j G ca cf hS kS mS H;generalize Rp.starters (R.started.set P.frm.toNat true)=st at *;by_cases hq:eP R.grp<(st:Int)
     focus
      have p:=ah ab.out;rw[if_pos hq] at p
     rotate_left
     focus
      have p:=ah ab.out;rw[if_neg hq] at p
     rotate_left
     all_goals
      go_wp2_with fail;go_quiet (first|(go_at_call 89;exact Calls.quiet_of_same (an.out _))|(go_at_call 88;exact Calls.quiet_of_same (ap.out _)))
      rename_i nq
     ·have ad:=ah (Q.out.drewN nq);obtain⟨WT,FT,VT,hT,kT,mT⟩:=ad.out
      have t3:=hT.c3;have aw:=hT.free 3;have q:Hid (Rst K _ b bl W1 F1 { R with started:=R.started.set P.frm.toNat true,status:=4 }):=Rst.step kT mT (Rst.of (hT.jq 4) (hT.qI _ _))
      clear hT kT mT c7;generalize w9.drewN nq=ax at *;go_wp2;exact bodyPost_end (results_none rfl _ _ _) rfl ⟨rfl,by rw[p.out];exact o.out _ _ q.out⟩
     ·have q:=ah (Q.out.drewN nq);go_wp2;exact bodyPost_end (results_none rfl _ _ _) rfl ⟨rfl,by rw[p.out];exact o.out _ _ q.out⟩
theorem BG (h:Rst w0 w b bl W F R) (hR:Ok R) (hP:dX w0 W F P vl vg vo vL) (hm:dF R.n P) (ho:R.out.length≤400000)  :
  Calls Tryz.prog 93 #[Zp (some ⟨b,0,O⟩),.agg (pmC P vl vg vo vL)] w fun e w'=>e=Zr (.tuple #[])∧Rst w0 w' b bl W F (R.bS P):=by
 obtain⟨W1,F1,V1,v,x,ag,y,z,A,B,C,rfl,rfl,rfl,rfl,d,D,k,h2,aa,m⟩:=h.msg hP
 clear h hP;simp only[pmC];have f:Hid (R.bS P=if P.kind=103 then R.tell P.frm else if R.mem P.frm then (if P.kind=112 then R.dI P else if P.kind=99 then R.dL P else if P.kind=107 then R.fZ P else if P.kind=104∨P.kind=118 then R.tell P.frm else R) else R):=rfl
 have ab:=ah hm;clear hm;cases k1:(P.kind==103)
 ·have u:=ah (gB aa.out hR P.frm);cases hmem:R.mem P.frm
  ·rw[hmem] at u;have o:Hid (R.bS P=R):=by unfold Hid;rw[f.out,if_neg (by simpa using k1),hmem,if_neg (by decide)]
   clear f;go_enter Tryz.func93,Tryz.ntmps93;go_upto_region 1 with fail
   generalize w.alloc (.cells (pqC P v x ag y z A B C) 68)=E at *;obtain⟨G,H,K,L,M,N,Q,S,T,U,p,q,r,s,t,V⟩:=d.all
   go_wp2_with fail;refine (u.out).mono ?_;rintro e X ⟨rfl,c⟩;have a:=ah c;clear c;have j:=d.kp a.out.kp k;obtain⟨_,_,_,_,_,_,_,_,_,_,_,_,_,_,_,_⟩:=j.all
   go_wp2;exact bodyPost_ret (results_none rfl _ _ _) rfl ⟨rfl,by rw[o.out];exact m.out _ _ a.out⟩
  ·rw[hmem] at u;cases k2:(P.kind==112)
   ·cases k3:(P.kind==99)
    ·cases k4:(P.kind==107)
     ·cases k5:(P.kind==104)
      ·cases k6:(P.kind==118)
       focus
        have o:Hid (R.bS P=R):=by unfold Hid;rw[f.out,if_neg (by simpa using k1),hmem,if_pos rfl,if_neg (by simpa using k2),if_neg (by simpa using k3),if_neg (by simpa using k4),if_neg (by simp at k5 k6;omega)]
       rotate_left
       focus
        have o:Hid (R.bS P=R.tell P.frm):=by unfold Hid;rw[f.out,if_neg (by simpa using k1),hmem,if_pos rfl,if_neg (by simpa using k2),if_neg (by simpa using k3),if_neg (by simpa using k4),if_pos (.inr (by simpa using k6))]
       rotate_left
       all_goals
        clear f;go_enter Tryz.func93,Tryz.ntmps93;go_upto_region 1 with fail
        generalize w.alloc (.cells (pqC P v x ag y z A B C) 68)=E at *;obtain⟨G,H,K,L,M,N,Q,S,T,U,p,q,r,s,t,V⟩:=d.all
        go_wp2_with fail;refine (u.out).mono ?_;rintro e X ⟨rfl,c⟩;have a:=ah c;clear c;have j:=d.kp a.out.kp k;obtain⟨_,_,_,_,_,_,_,_,_,_,_,_,_,_,_,_⟩:=j.all
        go_wp2_with fail
       ·exact bodyPost_end (results_none rfl _ _ _) rfl ⟨rfl,by rw[o.out];exact m.out _ _ a.out⟩
       ·refine (sN a.out hR P.frm (by omega)).mono ?_
        rintro e w2 ⟨rfl,g⟩;have i:=ah g;clear g;have l:=d.kp i.out.kp k;obtain⟨_,_,_,_,_,_,_,_,_,_,_,_,_,_,_,_⟩:=l.all
        go_wp2;exact bodyPost_end (results_none rfl _ _ _) rfl ⟨rfl,by rw[o.out];exact m.out _ _ i.out⟩
      ·have o:Hid (R.bS P=R.tell P.frm):=by unfold Hid;rw[f.out,if_neg (by simpa using k1),hmem,if_pos rfl,if_neg (by simpa using k2),if_neg (by simpa using k3),if_neg (by simpa using k4),if_pos (.inl (by simpa using k5))]
       clear f;go_enter Tryz.func93,Tryz.ntmps93;go_upto_region 1 with fail
       generalize w.alloc (.cells (pqC P v x ag y z A B C) 68)=E at *;obtain⟨G,H,K,L,M,N,Q,S,T,U,p,q,r,s,t,V⟩:=d.all
       go_wp2_with fail;refine (u.out).mono ?_;rintro e X ⟨rfl,c⟩;have a:=ah c;clear c;have j:=d.kp a.out.kp k;obtain⟨_,_,_,_,_,_,_,_,_,_,_,_,_,_,_,_⟩:=j.all
       go_wp2_with fail;refine (sN a.out hR P.frm (by omega)).mono ?_
       rintro e w2 ⟨rfl,g⟩;have i:=ah g;clear g;have l:=d.kp i.out.kp k;obtain⟨_,_,_,_,_,_,_,_,_,_,_,_,_,_,_,_⟩:=l.all
       go_wp2;exact bodyPost_end (results_none rfl _ _ _) rfl ⟨rfl,by rw[o.out];exact m.out _ _ i.out⟩
     ·have o:Hid (R.bS P=R.fZ P):=by unfold Hid;rw[f.out,if_neg (by simpa using k1),hmem,if_pos rfl,if_neg (by simpa using k2),if_neg (by simpa using k3),if_pos (by simpa using k4)]
      clear f;go_enter Tryz.func93,Tryz.ntmps93;go_upto_region 1 with fail
      generalize w.alloc (.cells (pqC P v x ag y z A B C) 68)=E at *;obtain⟨G,H,K,L,M,N,Q,S,T,U,p,q,r,s,t,V⟩:=d.all
      go_wp2_with fail;refine (u.out).mono ?_;rintro e X ⟨rfl,c⟩;have a:=ah c;clear c;have j:=d.kp a.out.kp k;obtain⟨_,_,_,_,_,_,_,_,_,_,_,_,_,_,_,_⟩:=j.all
      have HC:=ah (Ih a.out hR D ab.out (by omega))
      simp only[pmC] at HC;go_wp2_with fail;refine (HC.out).mono ?_;rintro e w2 ⟨rfl,g⟩;have i:=ah g;clear g;have l:=d.kp i.out.kp k;obtain⟨_,_,_,_,_,_,_,_,_,_,_,_,_,_,_,_⟩:=l.all
      go_wp2;exact bodyPost_end (results_none rfl _ _ _) rfl ⟨rfl,by rw[o.out];exact m.out _ _ i.out⟩
    ·have o:Hid (R.bS P=R.dL P):=by unfold Hid;rw[f.out,if_neg (by simpa using k1),hmem,if_pos rfl,if_neg (by simpa using k2),if_pos (by simpa using k3)]
     clear f;go_enter Tryz.func93,Tryz.ntmps93;go_upto_region 1 with fail
     generalize w.alloc (.cells (pqC P v x ag y z A B C) 68)=E at *;obtain⟨G,H,K,L,M,N,Q,S,T,U,p,q,r,s,t,V⟩:=d.all
     go_wp2_with fail;refine (u.out).mono ?_;rintro e X ⟨rfl,c⟩;have a:=ah c;clear c;have j:=d.kp a.out.kp k;obtain⟨_,_,_,_,_,_,_,_,_,_,_,_,_,_,_,_⟩:=j.all
     have HC:=ah (BD a.out hR D (by omega))
     simp only[pmC] at HC;go_wp2_with fail;refine (HC.out).mono ?_;rintro e w2 ⟨rfl,g⟩;have i:=ah g;clear g;have l:=d.kp i.out.kp k;obtain⟨_,_,_,_,_,_,_,_,_,_,_,_,_,_,_,_⟩:=l.all
     go_wp2;exact bodyPost_end (results_none rfl _ _ _) rfl ⟨rfl,by rw[o.out];exact m.out _ _ i.out⟩
   ·have o:Hid (R.bS P=R.dI P):=by unfold Hid;rw[f.out,if_neg (by simpa using k1),hmem,if_pos rfl,if_pos (by simpa using k2)]
    clear f;go_enter Tryz.func93,Tryz.ntmps93;go_upto_region 1 with fail
    generalize w.alloc (.cells (pqC P v x ag y z A B C) 68)=E at *;obtain⟨G,H,K,L,M,N,Q,S,T,U,p,q,r,s,t,V⟩:=d.all
    go_wp2_with fail;have ac:Hid (P.kind=112):=ah (by simpa using k2)
    refine (u.out).mono ?_;rintro e X ⟨rfl,c⟩;have a:=ah c;clear c;have j:=d.kp a.out.kp k;obtain⟨_,_,_,_,_,_,_,_,_,_,_,_,_,_,_,_⟩:=j.all
    have HC:=ah (DR a.out hR D ab.out (by omega) ac.out)
    simp only[pmC] at HC;go_wp2_with fail;refine (HC.out).mono ?_;rintro e w2 ⟨rfl,g⟩;have i:=ah g;clear g;have l:=d.kp i.out.kp k;obtain⟨_,_,_,_,_,_,_,_,_,_,_,_,_,_,_,_⟩:=l.all
    go_wp2;exact bodyPost_end (results_none rfl _ _ _) rfl ⟨rfl,by rw[o.out];exact m.out _ _ i.out⟩
 ·have o:Hid (R.bS P=R.tell P.frm):=by unfold Hid;rw[f.out,if_pos (by simpa using k1)]
  clear f;go_enter Tryz.func93,Tryz.ntmps93;go_upto_region 1 with fail
  generalize w.alloc (.cells (pqC P v x ag y z A B C) 68)=E at *;obtain⟨G,H,K,L,M,N,Q,S,T,U,p,q,r,s,t,V⟩:=d.all
  go_wp2_with fail;refine (sN aa.out hR P.frm (by omega)).mono ?_
  rintro e X ⟨rfl,c⟩;have a:=ah c;clear c;have j:=d.kp a.out.kp k;obtain⟨_,_,_,_,_,_,_,_,_,_,_,_,_,_,_,_⟩:=j.all
  go_wp2;exact bodyPost_ret (results_none rfl _ _ _) rfl ⟨rfl,by rw[o.out];exact m.out _ _ a.out⟩
end
section
variable {w w0:World} {b bl:Nat} {W F:List Nat} {R:Rp} {V:Rv} {P:Pm} {vl vg vo vL:Value}
theorem yH (h:Rst w0 w b bl W F R) (hR:Ok R) (hP:dX w0 W F P vl vg vo vL) (hm:dF R.n P) (ho:R.out.length≤300000) (ep:(P.epoch==R.epoch)=false) :
  Calls Tryz.prog 52 #[Zp (some ⟨b,0,O⟩),.agg (pmC P vl vg vo vL)] w fun e w'=>e=Zr (.tuple #[])∧Rst w0 w' b bl W F (R.bH P):=by
 obtain⟨W1,F1,V1,A,B,ag,C,D,E,G,H,rfl,rfl,rfl,rfl,d,t,i,h2,u,v⟩:=h.msg hP
 clear h hP;simp only[pmC];have f:Hid (R.bH P=if P.epoch=R.epoch∧P.view=R.view then (if R.status=2 then R.aT P else R.bS P) else if P.epoch=R.epoch∧R.view<P.view then (if Rp.qW P then R.bR P else R.bare P.frm 103) else if R.epoch<P.epoch then R.bare P.frm 103 else R.bP P):=rfl
 have ab:=ah hm;have ac:Hid (∀ w,Calls Tryz.prog 94 #[.agg (pqC P A B ag C D E G H)] w fun e w'=>e=Zr (.bool (Rp.qW P))∧Below w.heap.size w w'):=fun w=>jE P _ _ _ _ w
 clear hm
 ·have j:¬P.epoch=R.epoch:=by simpa using ep
  by_cases K:R.epoch<P.epoch
  focus
   have L:Hid (R.bH P=R.bare P.frm 103):=by unfold Hid;rw[f.out,if_neg (fun q=>j q.1),if_neg (fun q=>j q.1),if_pos K]
  rotate_left
  focus
   have L:Hid (R.bH P=R.bP P):=by unfold Hid;rw[f.out,if_neg (fun q=>j q.1),if_neg (fun q=>j q.1),if_neg K]
  rotate_left
  all_goals
   clear f;clear j;go_enter Tryz.func52,Tryz.ntmps52;go_upto_region 1 with fail
   generalize w.alloc (.cells (pqC P A B ag C D E G H) 68)=wA at *;obtain⟨M,N,Q,S,T,U,V,X,x8,x9,k,l,m,o,p,xf⟩:=d.all
   have c:=u;have a:=h2;obtain⟨wy,y⟩:∃ x,x=wA:=⟨_,rfl⟩
   subst y
   iterate 4
    have c3:=a.c3;have c4:=a.c4;have c5:=a.c5;go_wp2_with fail;go_quiet (fail);rename_i nq;have c:=ah (c.out.drewN nq);have g:=d.kp c.out.kp i;clear M N Q S T U V X x8 x9 k l m o p xf c3 c4 c5;generalize wy.drewN nq=wy at *;obtain⟨M,N,Q,S,T,U,V,X,x8,x9,k,l,m,o,p,xf⟩:=g.all
    obtain⟨_,_,aa,a,_,_⟩:=c.out
  focus
   go_wp2_with fail;refine (gD c.out hR P.frm 103 (by decide) (by omega)).mono ?_
  rotate_left
  focus
   have HC:=ah (nK c.out hR t (by omega))
   simp only[pmC] at HC;go_wp2_with fail;refine (HC.out).mono ?_
  rotate_left
  all_goals
   rintro e w1 ⟨rfl,r⟩;have s:=ah r;clear r;have z:=d.kp s.out.kp i;obtain⟨_,_,_,_,_,_,_,_,_,_,_,_,_,_,_,_⟩:=z.all
   go_wp2;exact bodyPost_end (results_none rfl _ _ _) rfl ⟨rfl,by rw[L.out];exact v.out _ _ s.out⟩
theorem yI (h:Rst w0 w b bl W F R) (hR:Ok R) (hP:dX w0 W F P vl vg vo vL) (hm:dF R.n P) (ho:R.out.length≤300000) (ep:(P.epoch==R.epoch)=true) (vi:(P.view==R.view)=false) (gt:R.view<P.view) :
  Calls Tryz.prog 52 #[Zp (some ⟨b,0,O⟩),.agg (pmC P vl vg vo vL)] w fun e w'=>e=Zr (.tuple #[])∧Rst w0 w' b bl W F (R.bH P):=by
 obtain⟨W1,F1,V1,al,cl,ag,cg,ao,co,aL,cL,rfl,rfl,rfl,rfl,j,N,l,h2,Q,S⟩:=h.msg hP
 clear h hP;simp only[pmC];have o:Hid (R.bH P=if P.epoch=R.epoch∧P.view=R.view then (if R.status=2 then R.aT P else R.bS P) else if P.epoch=R.epoch∧R.view<P.view then (if Rp.qW P then R.bR P else R.bare P.frm 103) else if R.epoch<P.epoch then R.bare P.frm 103 else R.bP P):=rfl
 have T:=ah hm;have G:Hid (∀ w,Calls Tryz.prog 94 #[.agg (pqC P al cl ag cg ao co aL cL)] w fun e w'=>e=Zr (.bool (Rp.qW P))∧Below w.heap.size w w'):=fun w=>jE P _ _ _ _ w
 clear hm
 ·have U:P.epoch=R.epoch:=by simpa using ep
  have ad:¬R.epoch<P.epoch:=by omega
  ·have V:¬P.view=R.view:=by simpa using vi
   ·cases hc:Rp.qW P
    focus
     have HE:Hid (R.bH P=R.bare P.frm 103):=by unfold Hid;rw[o.out,if_neg (fun q=>V q.2),if_pos ⟨U,gt⟩,hc,if_neg (by decide)]
    rotate_left
    focus
     have HE:Hid (R.bH P=R.bR P):=by unfold Hid;rw[o.out,if_neg (fun q=>V q.2),if_pos ⟨U,gt⟩,hc,if_pos rfl]
    rotate_left
    all_goals
     clear o;clear U V;rw[hc] at G;go_enter Tryz.func52,Tryz.ntmps52;go_upto_region 1 with fail
     generalize w.alloc (.cells (pqC P al cl ag cg ao co aL cL) 68)=wA at *;obtain⟨s,t,u,v,y,z,A,B,C,D,c,d,f,g,i,E⟩:=j.all
     have k:=Q;have a:=h2;obtain⟨wy,X⟩:∃ x,x=wA:=⟨_,rfl⟩
     subst X
     iterate 3
      have c3:=a.c3;have c4:=a.c4;have c5:=a.c5;go_wp2_with fail;go_quiet (fail);rename_i nq;have k:=ah (k.out.drewN nq);have p:=j.kp k.out.kp l;clear s t u v y z A B C D c d f g i E c3 c4 c5;generalize wy.drewN nq=wy at *;obtain⟨s,t,u,v,y,z,A,B,C,D,c,d,f,g,i,E⟩:=p.all
      obtain⟨_,_,ac,a,_,_⟩:=k.out
     have c3:=a.c3;have c4:=a.c4;have c5:=a.c5;go_wp2_with fail;refine (G.out _).mono ?_;rintro e w1 ⟨rfl,H⟩;have m:=ah (k.out.below H);have aa:=j.kp m.out.kp l;clear s t u v y z A B C D c d f g i E c3 c4 c5 H;obtain⟨s,t,u,v,y,z,A,B,C,D,c,d,f,g,i,E⟩:=aa.all
     obtain⟨_,_,ae,r1,_,_⟩:=m.out
     have c4:=r1.c4;clear r1
    focus
     go_wp2_with fail;go_quiet (fail);rename_i nq;have K:=ah (m.out.drewN nq);have r:=j.kp K.out.kp l;clear s t u v y z A B C D c d f g i E c4;generalize w1.drewN nq=wu at *;obtain⟨s,t,u,v,y,z,A,B,C,D,c,d,f,g,i,E⟩:=r.all
     go_wp2_with fail;refine (gD K.out hR P.frm 103 (by decide) (by omega)).mono ?_
    rotate_left
    focus
     have HC:=ah (xO m.out hR N T.out (by omega))
     simp only[pmC] at HC;go_wp2_with fail;refine (HC.out).mono ?_
    rotate_left
    all_goals
     rintro e w2 ⟨rfl,L⟩;have M:=ah L;clear L;have ab:=j.kp M.out.kp l;obtain⟨_,_,_,_,_,_,_,_,_,_,_,_,_,_,_,_⟩:=ab.all
     go_wp2;exact bodyPost_end (results_none rfl _ _ _) rfl ⟨rfl,by rw[HE.out];exact S.out _ _ M.out⟩
theorem yJ (h:Rst w0 w b bl W F R) (hR:Ok R) (hP:dX w0 W F P vl vg vo vL) (hm:dF R.n P) (ho:R.out.length≤300000) (ep:(P.epoch==R.epoch)=true) (vi:(P.view==R.view)=false) (gt:¬R.view<P.view) :
  Calls Tryz.prog 52 #[Zp (some ⟨b,0,O⟩),.agg (pmC P vl vg vo vL)] w fun e w'=>e=Zr (.tuple #[])∧Rst w0 w' b bl W F (R.bH P):=by
 obtain⟨W1,F1,V1,A,B,ag,C,D,E,G,H,rfl,rfl,rfl,rfl,d,s,g,h2,t,u⟩:=h.msg hP
 clear h hP;simp only[pmC];have i:Hid (R.bH P=if P.epoch=R.epoch∧P.view=R.view then (if R.status=2 then R.aT P else R.bS P) else if P.epoch=R.epoch∧R.view<P.view then (if Rp.qW P then R.bR P else R.bare P.frm 103) else if R.epoch<P.epoch then R.bare P.frm 103 else R.bP P):=rfl
 have ab:=ah hm;have ac:Hid (∀ w,Calls Tryz.prog 94 #[.agg (pqC P A B ag C D E G H)] w fun e w'=>e=Zr (.bool (Rp.qW P))∧Below w.heap.size w w'):=fun w=>jE P _ _ _ _ w
 clear hm
 ·have e1:P.epoch=R.epoch:=by simpa using ep
  have v:¬R.epoch<P.epoch:=by omega
  ·have K:¬P.view=R.view:=by simpa using vi
   ·have HE:Hid (R.bH P=R.bP P):=by unfold Hid;rw[i.out,if_neg (fun q=>K q.2),if_neg (fun q=>gt q.2),if_neg v]
    clear i;clear e1 K;go_enter Tryz.func52,Tryz.ntmps52;go_upto_region 1 with fail
    generalize w.alloc (.cells (pqC P A B ag C D E G H) 68)=wA at *;obtain⟨L,M,N,Q,S,T,U,V,X,x9,j,k,l,m,o,xf⟩:=d.all
    have c:=t;have a:=h2;obtain⟨wy,y⟩:∃ x,x=wA:=⟨_,rfl⟩
    subst y
    iterate 4
     have c3:=a.c3;have c4:=a.c4;have c5:=a.c5;go_wp2_with fail;go_quiet (fail);rename_i nq;have c:=ah (c.out.drewN nq);have f:=d.kp c.out.kp g;clear L M N Q S T U V X x9 j k l m o xf c3 c4 c5;generalize wy.drewN nq=wy at *;obtain⟨L,M,N,Q,S,T,U,V,X,x9,j,k,l,m,o,xf⟩:=f.all
     obtain⟨_,_,aa,a,_,_⟩:=c.out
    have HC:=ah (nK c.out hR s (by omega))
    simp only[pmC] at HC;go_wp2_with fail;refine (HC.out).mono ?_;rintro e w1 ⟨rfl,p⟩;have r:=ah p;clear p;have z:=d.kp r.out.kp g;obtain⟨_,_,_,_,_,_,_,_,_,_,_,_,_,_,_,_⟩:=z.all
    go_wp2;exact bodyPost_end (results_none rfl _ _ _) rfl ⟨rfl,by rw[HE.out];exact u.out _ _ r.out⟩
theorem yK (h:Rst w0 w b bl W F R) (hR:Ok R) (hP:dX w0 W F P vl vg vo vL) (hm:dF R.n P) (ho:R.out.length≤300000) (ep:(P.epoch==R.epoch)=true) (vi:(P.view==R.view)=true) :
  Calls Tryz.prog 52 #[Zp (some ⟨b,0,O⟩),.agg (pmC P vl vg vo vL)] w fun e w'=>e=Zr (.tuple #[])∧Rst w0 w' b bl W F (R.bH P):=by
 obtain⟨W1,F1,V1,X,cl,ag,cg,ao,co,aL,cL,rfl,rfl,rfl,rfl,f,s,m,h2,M,N⟩:=h.msg hP
 clear h hP;simp only[pmC];have o:Hid (R.bH P=if P.epoch=R.epoch∧P.view=R.view then (if R.status=2 then R.aT P else R.bS P) else if P.epoch=R.epoch∧R.view<P.view then (if Rp.qW P then R.bR P else R.bare P.frm 103) else if R.epoch<P.epoch then R.bare P.frm 103 else R.bP P):=rfl
 have t:=ah hm;have ac:Hid (∀ w,Calls Tryz.prog 94 #[.agg (pqC P X cl ag cg ao co aL cL)] w fun e w'=>e=Zr (.bool (Rp.qW P))∧Below w.heap.size w w'):=fun w=>jE P _ _ _ _ w
 clear hm
 ·have Q:P.epoch=R.epoch:=by simpa using ep
  have ad:¬R.epoch<P.epoch:=by omega
  ·have S:P.view=R.view:=by simpa using vi
   have ae:¬R.view<P.view:=by omega
   cases st:(R.status==2)
   focus
    have HE:Hid (R.bH P=R.bS P):=by unfold Hid;rw[o.out,if_pos ⟨Q,S⟩,if_neg (by simpa using st)]
   rotate_left
   focus
    have HE:Hid (R.bH P=R.aT P):=by unfold Hid;rw[o.out,if_pos ⟨Q,S⟩,if_pos (by simpa using st)]
   rotate_left
   all_goals
    clear o;clear Q S;go_enter Tryz.func52,Tryz.ntmps52;go_upto_region 1 with fail
    generalize w.alloc (.cells (pqC P X cl ag cg ao co aL cL) 68)=wA at *;obtain⟨y,z,A,B,C,D,E,G,H,K,g,i,j,k,l,L⟩:=f.all
    have c:=M;have a:=h2;obtain⟨T,U⟩:∃ x,x=wA:=⟨_,rfl⟩
    subst U
    iterate 2
     have c3:=a.c3;have c4:=a.c4;have c5:=a.c5;go_wp2_with fail;go_quiet (fail);rename_i nq;have c:=ah (c.out.drewN nq);have p:=f.kp c.out.kp m;clear y z A B C D E G H K g i j k l L c3 c4 c5;generalize T.drewN nq=T at *;obtain⟨y,z,A,B,C,D,E,G,H,K,g,i,j,k,l,L⟩:=p.all
     obtain⟨_,_,aa,a,_,_⟩:=c.out
    have c3:=a.c3;have c4:=a.c4;have c5:=a.c5
   focus
    go_wp2_with fail;go_quiet (fail);rename_i nq;have q:=ah (c.out.drewN nq);have r:=f.kp q.out.kp m;clear y z A B C D E G H K g i j k l L c3 c4 c5;generalize T.drewN nq=wt at *;obtain⟨y,z,A,B,C,D,E,G,H,K,g,i,j,k,l,L⟩:=r.all
    obtain⟨_,_,ab,d,_,_⟩:=q.out
    have c3:=d.c3;have c4:=d.c4;have c5:=d.c5;have HC:=ah (BG q.out hR s t.out (by omega))
   rotate_left
   focus
    have HC:=ah (yG c.out hR s t.out (by omega))
   rotate_left
   all_goals
    simp only[pmC] at HC;go_wp2_with fail;refine (HC.out).mono ?_;rintro e w1 ⟨rfl,u⟩;have v:=ah u;clear u;have V:=f.kp v.out.kp m;obtain⟨_,_,_,_,_,_,_,_,_,_,_,_,_,_,_,_⟩:=V.all
    go_wp2;exact bodyPost_end (results_none rfl _ _ _) rfl ⟨rfl,by rw[HE.out];exact N.out _ _ v.out⟩
theorem BF (h:Rst w0 w b bl W F R) (hR:Ok R) (hP:dX w0 W F P vl vg vo vL) (hm:dF R.n P) (ho:R.out.length≤300000) :
  Calls Tryz.prog 52 #[Zp (some ⟨b,0,O⟩),.agg (pmC P vl vg vo vL)] w fun e w'=>e=Zr (.tuple #[])∧Rst w0 w' b bl W F (R.bH P):=by
 cases ep:(P.epoch==R.epoch)
 ·exact yH h hR hP hm ho ep
 ·cases vi:(P.view==R.view)
  ·by_cases a:R.view<P.view
   ·exact yI h hR hP hm ho ep vi a
   ·exact yJ h hR hP hm ho ep vi a
  ·exact yK h hR hP hm ho ep vi
end
end Go.Proofs.YtinaollfjiddmaaGreatDoor
