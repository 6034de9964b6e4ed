import Derived.Test.YtinaollfjiddmaaGreatDoorA19
import Derived.Test.YtinaollfjiddmaaGreatDoorA29
set_option maxRecDepth 100000
set_option maxHeartbeats 8000000
set_option linter.all false
namespace Go.Proofs.YtinaollfjiddmaaGreatDoor
open Go.Value renaming int→I,slice→Y,string→Z,pointer→Zp
open Go.Ending renaming returned→Zr
open _root_.ByteArray renaming empty→Ze
open Go.IntKind renaming i64→J
open Option renaming none→O
open Go.RowKit
section
variable {w w0:World} {b bl:Nat} {W F:List Nat} {R:Rp} {V:Rv} {P:Pm} {vl vg vo vL:Value}
theorem yw (h:Rst w0 w b bl W F R) (hR:Ok R) (hP:dX w0 W F P vl vg vo vL) (hm:dF R.n P) (ho5:P.old.length≤1000)  :
  Calls Tryz.prog 133 #[Zp (some ⟨b,0,O⟩),.agg (pmC P vl vg vo vL)] w fun e w'=>e=Zr (.bool (R.jP P))∧Rst w0 w' b bl W F (R):=by
 obtain⟨V,X,V1,j,k,ag,l,g,i,m,o,rfl,rfl,rfl,rfl,p,A,T,q,r,s⟩:=h.msg hP
 clear h hP;simp only[pmC];have c:Hid (∀ n,Calls Tryz.prog 83 #[Zp (some ⟨b,0,O⟩)] ((w.alloc (.cells (pqC P j k ag l g i m o) 68)).drewN n) fun e w'=>e=Zr (.bool R.carries)∧w'=(w.alloc (.cells (pqC P j k ag l g i m o) 68)).drewN n):=fun n=>yt (q.drewN n)
 have f:Hid (∀ n,Calls Tryz.prog 38 #[Y g P.old.length i,I J R.id] ((w.alloc (.cells (pqC P j k ag l g i m o) 68)).drewN n) fun e w'=>e=Zr (.bool (gW P.old R.id))∧w'=(w.alloc (.cells (pqC P j k ag l g i m o) 68)).drewN n):=fun n=>mH _ P.old R.id _ ((A.old).below (below_drewN (Below.refl _ _) n)) (by omega)
 have U:IntKind.i64.wrap (R.epoch+1)=R.epoch+1:=gq (by have:=hR.ep;omega) (by have:=hR.ep;omega)
 have a:Hid (R.jP P=(R.carries&&(P.epoch==R.epoch+1)&&gW P.old R.id)):=rfl
 clear hm ho5;cases ca:R.carries
 ·have t:Hid (R.jP P=false):=by unfold Hid;rw[a.out,ca];rfl
  rw[ca] at c;clear a;go_enter Tryz.func133,Tryz.ntmps133;go_upto_region 1 with fail
  generalize w.alloc (.cells (pqC P j k ag l g i m o) 68)=B at *;obtain⟨C,D,E,G,H,K,L,M,N,Q,u,v,x,y,z,S⟩:=p.all
  have c0:=q.c0;have c4:=q.c4;go_wp2_with fail;go_quiet (first|(go_at_call 83;exact Calls.quiet_of_same (c.out _))|(go_at_call 38;exact Calls.quiet_of_same (f.out _)))
  rename_i nq;have d:=ah (r.out.drewN nq);go_wp2;go_ret;exact⟨bC (by rw[t.out]),s.out _ _ d.out⟩
 ·rw[ca] at c;cases ep:(P.epoch==R.epoch+1)
  ·have t:Hid (R.jP P=false):=by unfold Hid;rw[a.out,ca,ep];rfl
   clear a;go_enter Tryz.func133,Tryz.ntmps133;go_upto_region 1 with fail
   generalize w.alloc (.cells (pqC P j k ag l g i m o) 68)=B at *;obtain⟨C,D,E,G,H,K,L,M,N,Q,u,v,x,y,z,S⟩:=p.all
   have c0:=q.c0;have c4:=q.c4;go_wp2_with fail;go_quiet (first|(go_at_call 83;exact Calls.quiet_of_same (c.out _))|(go_at_call 38;exact Calls.quiet_of_same (f.out _)))
   rename_i nq;have d:=ah (r.out.drewN nq);go_wp2;go_ret;exact⟨bC (by rw[t.out]),s.out _ _ d.out⟩
  ·cases mo:gW P.old R.id
   focus
    have t:Hid (R.jP P=false):=by unfold Hid;rw[a.out,ca,ep,mo];rfl
   rotate_left
   focus
    have t:Hid (R.jP P=true):=by unfold Hid;rw[a.out,ca,ep,mo];rfl
   rotate_left
   all_goals
    rw[mo] at f;clear a;go_enter Tryz.func133,Tryz.ntmps133;go_upto_region 1 with fail
    generalize w.alloc (.cells (pqC P j k ag l g i m o) 68)=B at *;obtain⟨C,D,E,G,H,K,L,M,N,Q,u,v,x,y,z,S⟩:=p.all
    have c0:=q.c0;have c4:=q.c4;go_wp2_with fail;go_quiet (first|(go_at_call 83;exact Calls.quiet_of_same (c.out _))|(go_at_call 38;exact Calls.quiet_of_same (f.out _)))
    rename_i nq;have d:=ah (r.out.drewN nq);go_wp2;go_ret;exact⟨bC (by rw[t.out]),s.out _ _ d.out⟩
theorem J8 (h:Ok R):Ok R.leave0 :=
 ⟨h.n3,h.n7,h.i0,h.i1,h.ll,h.lb,by simp[Rp.leave0],h.ep,by simp[Rp.leave0],by simp[Rp.leave0],h.g,h.o,h.lg,h.le,h.dc,h.vo,h.vn,h.an,h.nn⟩
theorem MN (h:Rst w0 w b bl W F R) (hR:Ok R) (hP:dX w0 W F P vl vg vo vL) (ho:R.out.length≤400000) (hl:oD R.n P.log) :
  Calls Tryz.prog 136 #[Zp (some ⟨b,0,O⟩),.agg (pmC P vl vg vo vL)] w fun e w'=>e=Zr (.tuple #[])∧Rst w0 w' b bl W F (R.leave P):=by
 obtain⟨W1,F1,V1,al,cl,ag,cg,ao,co,aL,cL,rfl,rfl,rfl,rfl,k,X,o,j,aq,aa⟩:=h.msg hP
 clear h hP;simp only[pmC];have HE:Hid (R.leave P=((R.leave0.over (dP P.log R.epoch)).aV P.commit).bF):=rfl
 have ab:=ah (J8 hR);have p:=ah (hl.upto R.epoch);have r:=ah (Rp.eu ab.out (l:=dP P.log R.epoch) p.out);have s:=ah (Rp.iU r.out.ok P.commit);have ap:=hl.1;have ac:Hid (∀ e∈P.log,e.2.2.size≤1000):=fun e he=>by have:=(hl.2 e he).2.2.2.2.2;omega
 clear hl;go_enter Tryz.func136,Tryz.ntmps136;go_upto_region 1 with fail
 generalize w.alloc (.cells (pqC P al cl ag cg ao co aL cL) 68)=m at *;obtain⟨E,G,H,K,L,M,N,Q,S,T,c,d,f,g,i,U⟩:=k.all
 have c3:=j.c3;have c5:=j.c5;have c6:=j.c6;have f3:=j.free 3;have f5:=j.free 5;have f6:=j.free 6;have h3:=((j.jq 5).yS 0).xU 0;have k3:Kp [b] m (((m.setCell ⟨b,3,O⟩ (I J 5)).setCell ⟨b,5,O⟩ (I J 0)).setCell ⟨b,6,O⟩ (I J 0)):=(((Kp.refl [b] m).set b 3 _ (.inl (by simp))).set b 5 _ (.inl (by simp))).set b 6 _ (.inl (by simp))
 go_upto_region 4 with fail
 generalize ((m.setCell ⟨b,3,O⟩ (I J 5)).setCell ⟨b,5,O⟩ (I J 0)).setCell ⟨b,6,O⟩ (I J 0)=V at *;have ad:=ah (h3.there 64 7 (by omega))
 have t:=h3.MU;have u:Kp W1 m (V.setCells b 64 (#[.bool false,.bool false,.bool false,.bool false,.bool false,.bool false,.bool false]:Array Value).toList):=(k3.trans' (nV _ 64 (Kp.refl [b] V))).wid (by intro x hx;simp at hx;subst hx;exact j.wb)
 have v:Hid (Rst m (V.setCells b 64 (#[.bool false,.bool false,.bool false,.bool false,.bool false,.bool false,.bool false]:Array Value).toList) b bl W1 F1 R.leave0):=Rst.of t u
 clear h3 t k3 u c3 c5 c6 f3 f5 f6 E G H K L M N Q S T c d f g i U;go_upto_region 5 with (refine wpList_store_mid rfl 61 (.tmp 17) (.tmp 15) (by rfl) b 64 #[.bool false,.bool false,.bool false,.bool false,.bool false,.bool false,.bool false] (by rfl) (by rfl) ad.out Tryz.sizeSt7 Ji ?_)
 generalize V.setCells b 64 (#[.bool false,.bool false,.bool false,.bool false,.bool false,.bool false,.bool false]:Array Value).toList=wC at *;obtain⟨W4,F4,V4,t,u,m4,p4⟩:=v.out.pm X
 have ae:=k.kp u o;obtain⟨E,G,H,K,L,M,N,Q,S,T,c,d,f,g,i,U⟩:=ae.all
 have c4:=t.c4;simp only[Rp.leave0] at c4;have HU:=ah (qF aL cL P.log R.epoch wC.drew (p4.log.below (Below.refl _ _).drew) (by omega) ac.out)
 go_region_with (go_at_call 158;refine HU.out.mono ?_;rintro e w5 ⟨n5,c5,rfl,y,z⟩)
 all_goals
  have a:Below wC.heap.size wC w5:=jv z
  have ar:=ah (v.out.below a);have af:=ah (qo (t.below a) _ (dP P.log R.epoch) y p.out);have ai:=ah (fun w' R' (q:Rst w5 w' b bl W4 F4 R')=>Rst.step (u.aS a) m4 q)
  clear E G H K L M N Q S T c d f g i U c4 z y;go_wp2_with fail;refine af.out.mono ?_;rintro e w6 ⟨rfl,A⟩;have B:=ah (ai.out _ _ A);clear A;have ak:=k.kp B.out.kp o;obtain⟨E,G,H,K,L,M,N,Q,S,T,c,d,f,g,i,U⟩:=ak.all
  go_wp2_with fail;refine (iX B.out r.out.ok P.commit (by show R.out.length≤600000;omega)).mono ?_
  rintro e w7 ⟨rfl,C⟩;have am:=ah C;clear C;go_wp2_with fail;refine (oJ am.out s.out.ok (Nat.le_trans s.out.out (by show R.out.length+20≤800000;omega))).mono ?_
  rintro e w8 ⟨rfl,D⟩;have an:=ah D;clear D;go_wp2;exact bodyPost_end (results_none rfl _ _ _) rfl ⟨rfl,by rw[HE.out];exact aa.out _ _ an.out⟩
theorem vX (h:Rst w0 w b bl W F R) (hR:Ok R) (hP:dX w0 W F P vl vg vo vL) (hm:dF R.n P) (ho:R.out.length≤300000) (hk:P.kind=115) :
  Calls Tryz.prog 82 #[Zp (some ⟨b,0,O⟩),.agg (pmC P vl vg vo vL)] w fun e w'=>e=Zr (.tuple #[])∧Rst w0 w' b bl W F (R.bI P):=by
 obtain⟨W1,F1,V1,al,cl,ag,cg,ao,co,aL,cL,rfl,rfl,rfl,rfl,a,i,c,h2,D,x⟩:=h.msg hP
 clear h hP;simp only[pmC];have k:Hid (R.bI P=if (R.enter P).mem R.id then (((R.enter P).over P.log).dz).bY P.commit else if R.jP P then (R.enter P).leave P else { R.enter P with status:=4 }):=rfl
 have y:=ah (Rp.jN hm (.inr (.inl hk)));have v:=ah (Rp.iW hR (.inl hk) hm);have E:=ah (Rp.eu v.out (l:=P.log) y.out);have G:=ah (Rp.mG E.out.ok);have H:=ah hm;have K:Hid (P.old.length≤1000):=by have:=(hm.g (.inl hk)).2.1;exact Nat.le_trans this (by omega)
 clear hm hk;cases hmem:(R.enter P).mem R.id
 ·cases hlv:R.jP P
  focus
   have L:Hid (R.bI P={ R.enter P with status:=4 }):=by unfold Hid;rw[k.out,hmem,hlv];rfl
  rotate_left
  focus
   have L:Hid (R.bI P=(R.enter P).leave P):=by unfold Hid;rw[k.out,hmem,hlv];rfl
  rotate_left
  all_goals
   clear k;go_enter Tryz.func82,Tryz.ntmps82;go_upto_region 1 with fail
   generalize w.alloc (.cells (pqC P al cl ag cg ao co aL cL) 68)=X at *;obtain⟨x0,x1,x2,x3,x4,x5,x6,x7,x8,x9,aa,ab,ac,ad,ae,xf⟩:=a.all
   have m:=ah (yw D.out hR i H.out K.out);have o:=ah (fun (wz:World) (hz:Rst X wz b bl W1 F1 R)=>vU hz i)
   simp only[pmC] at m o;go_wp2_with fail;refine (m.out).mono ?_;rintro e w1 ⟨rfl,p⟩;have q:=ah p;clear p;have z:=a.kp q.out.kp c;obtain⟨_,_,_,_,_,_,_,_,_,_,_,_,_,_,_,_⟩:=z.all
   go_wp2_with fail;refine (o.out _ q.out).mono ?_;rintro e w2 ⟨rfl,r⟩;have d:=ah r;clear r;have A:=a.kp d.out.kp c;obtain⟨_,_,_,_,_,_,_,_,_,_,_,_,_,_,_,_⟩:=A.all
   obtain⟨_,_,V2,q2,_,_⟩:=d.out
   have M:=q2.c0;go_wp2_with fail;have s:=ah (gB d.out v.out R.id);rw[hmem] at s;refine (s.out).mono ?_;rintro e w3 ⟨rfl,t⟩;have j:=ah t;clear t;have B:=a.kp j.out.kp c;obtain⟨_,_,_,_,_,_,_,_,_,_,_,_,_,_,_,_⟩:=B.all
  ·obtain⟨W3,F3,V3,N,k3,m3⟩:=j.out
   have e3:=N.c3;have ak:=N.free 3;have f:Hid (Rst X _ b bl W1 F1 { R.enter P with status:=4 }):=Rst.step k3 m3 (Rst.of (N.jq 4) (N.qI _ _))
   clear N k3 m3;go_wp2;exact bodyPost_end (results_none rfl _ _ _) rfl ⟨rfl,by rw[L.out];exact x.out _ _ f.out⟩
  ·have Q:=ah (MN j.out v.out i (by show R.out.length≤400000;omega) y.out)
   simp only[pmC] at Q;go_wp2_with fail;refine (Q.out).mono ?_;rintro e w4 ⟨rfl,u⟩;have f:=ah u;clear u;have C:=a.kp f.out.kp c;obtain⟨_,_,_,_,_,_,_,_,_,_,_,_,_,_,_,_⟩:=C.all
   go_wp2;exact bodyPost_end (results_none rfl _ _ _) rfl ⟨rfl,by rw[L.out];exact x.out _ _ f.out⟩
 ·have L:Hid (R.bI P=(((R.enter P).over P.log).dz).bY P.commit):=by unfold Hid;rw[k.out,hmem];rfl
  clear k;go_enter Tryz.func82,Tryz.ntmps82;go_upto_region 1 with fail
  generalize w.alloc (.cells (pqC P al cl ag cg ao co aL cL) 68)=X at *;obtain⟨x0,x1,x2,x3,x4,x5,x6,x7,x8,x9,aa,ab,ac,ad,ae,xf⟩:=a.all
  have m:=ah (yw D.out hR i H.out K.out);have o:=ah (fun (wz:World) (hz:Rst X wz b bl W1 F1 R)=>vU hz i)
  simp only[pmC] at m o;go_wp2_with fail;refine (m.out).mono ?_;rintro e w1 ⟨rfl,p⟩;have q:=ah p;clear p;have z:=a.kp q.out.kp c;obtain⟨_,_,_,_,_,_,_,_,_,_,_,_,_,_,_,_⟩:=z.all
  go_wp2_with fail;refine (o.out _ q.out).mono ?_;rintro e w2 ⟨rfl,r⟩;have d:=ah r;clear r;have A:=a.kp d.out.kp c;obtain⟨_,_,_,_,_,_,_,_,_,_,_,_,_,_,_,_⟩:=A.all
  obtain⟨_,_,V2,q2,_,_⟩:=d.out
  have M:=q2.c0;go_wp2_with fail;have s:=ah (gB d.out v.out R.id);rw[hmem] at s;refine (s.out).mono ?_;rintro e w3 ⟨rfl,t⟩;have j:=ah t;clear t;have B:=a.kp j.out.kp c;obtain⟨_,_,_,_,_,_,_,_,_,_,_,_,_,_,_,_⟩:=B.all
  go_wp2_with fail;refine (lZ j.out i y.out).mono ?_;rintro e w4 ⟨rfl,u⟩;have f:=ah u;clear u;have C:=a.kp f.out.kp c;obtain⟨_,_,_,_,_,_,_,_,_,_,_,_,_,_,_,_⟩:=C.all
  go_wp2_with fail;refine (DV f.out E.out.ok (by show R.out.length≤800000;omega)).mono ?_
  rintro e w5 ⟨rfl,S⟩;have T:=ah S;clear S;have af:=a.kp T.out.kp c;obtain⟨_,_,_,_,_,_,_,_,_,_,_,_,_,_,_,_⟩:=af.all
  go_wp2_with fail;refine (qw T.out G.out.ok P.commit (Nat.le_trans G.out.out (by show R.out.length+5≤500000;omega))).mono ?_
  rintro e w6 ⟨rfl,U⟩;have V:=ah U;clear U;have ai:=a.kp V.out.kp c;obtain⟨_,_,_,_,_,_,_,_,_,_,_,_,_,_,_,_⟩:=ai.all
  go_wp2;exact bodyPost_end (results_none rfl _ _ _) rfl ⟨rfl,by rw[L.out];exact x.out _ _ V.out⟩
theorem DU (h:Rst w0 w b bl W F R) (hR:Ok R) (hP:dX w0 W F P vl vg vo vL) (hm:dF R.n P) (ho:R.out.length≤300000) (hk:P.kind=115) :
  Calls Tryz.prog 48 #[Zp (some ⟨b,0,O⟩),.agg (pmC P vl vg vo vL)] w fun e w'=>e=Zr (.tuple #[])∧Rst w0 w' b bl W F (R.dQ P):=by
 obtain⟨W1,F1,V1,X,cl,ag,cg,ao,co,aL,cL,rfl,rfl,rfl,rfl,a,D,l,h2,E,G⟩:=h.msg hP
 clear h hP;simp only[pmC];have p:Hid (R.dQ P=if R.epoch<P.epoch then R.bI P else if R.carries then (if P.epoch<R.epoch then R.bP P else R.aF P) else R):=rfl
 have N:=ah hm;have Q:=ah hk;clear hm hk;by_cases L:R.epoch<P.epoch
 ·have M:Hid (R.dQ P=R.bI P):=by unfold Hid;rw[p.out,if_pos L]
  clear p;go_enter Tryz.func48,Tryz.ntmps48;go_upto_region 2 with fail
  generalize w.alloc (.cells (pqC P X cl ag cg ao co aL cL) 68)=S at *;obtain⟨r,s,t,u,v,x,y,z,A,B,d,f,g,i,j,C⟩:=a.all
  have c4:=h2.c4;go_quiet (fail);rename_i nq;have m:=ah (E.out.drewN nq);have c:=a.kp m.out.kp l;clear r s t u v x y z A B d f g i j C c4;generalize S.drewN nq=wq at *;obtain⟨r,s,t,u,v,x,y,z,A,B,d,f,g,i,j,C⟩:=c.all
  have HC:=ah (vX m.out hR D N.out ho Q.out);simp only[pmC] at HC;go_wp2_with fail;refine (HC.out).mono ?_;rintro e w1 ⟨rfl,o⟩;have k:=ah o;clear o;have q:=a.kp k.out.kp l;obtain⟨_,_,_,_,_,_,_,_,_,_,_,_,_,_,_,_⟩:=q.all
  go_wp2;exact bodyPost_end (results_none rfl _ _ _) rfl ⟨rfl,by rw[M.out];exact G.out _ _ k.out⟩
 ·cases ca:R.carries
  ·have M:Hid (R.dQ P=R):=by unfold Hid;rw[p.out,if_neg L,ca];rfl
   clear p;go_enter Tryz.func48,Tryz.ntmps48;go_upto_region 2 with fail
   generalize w.alloc (.cells (pqC P X cl ag cg ao co aL cL) 68)=S at *;obtain⟨r,s,t,u,v,x,y,z,A,B,d,f,g,i,j,C⟩:=a.all
   have c4:=h2.c4;go_quiet (fail);rename_i nq;have m:=ah (E.out.drewN nq);have c:=a.kp m.out.kp l;clear r s t u v x y z A B d f g i j C c4;generalize S.drewN nq=wq at *;obtain⟨r,s,t,u,v,x,y,z,A,B,d,f,g,i,j,C⟩:=c.all
   have HC:=ah (uG m.out);rw[ca] at HC;go_wp2_with fail;refine (HC.out).mono ?_;rintro e w1 ⟨rfl,o⟩;have k:=ah o;clear o;have q:=a.kp k.out.kp l;obtain⟨_,_,_,_,_,_,_,_,_,_,_,_,_,_,_,_⟩:=q.all
   go_wp2;exact bodyPost_ret (results_none rfl _ _ _) rfl ⟨rfl,by rw[M.out];exact G.out _ _ k.out⟩
  ·by_cases q2:P.epoch<R.epoch
   focus
    have M:Hid (R.dQ P=R.bP P):=by unfold Hid;rw[p.out,if_neg L,ca,if_pos rfl,if_pos q2]
   rotate_left
   focus
    have M:Hid (R.dQ P=R.aF P):=by unfold Hid;rw[p.out,if_neg L,ca,if_pos rfl,if_neg q2]
   rotate_left
   all_goals
    clear p;go_enter Tryz.func48,Tryz.ntmps48;go_upto_region 2 with fail
    generalize w.alloc (.cells (pqC P X cl ag cg ao co aL cL) 68)=S at *;obtain⟨r,s,t,u,v,x,y,z,A,B,d,f,g,i,j,C⟩:=a.all
    have c4:=h2.c4;go_quiet (fail);rename_i nq;have m:=ah (E.out.drewN nq);have c:=a.kp m.out.kp l;clear r s t u v x y z A B d f g i j C c4;generalize S.drewN nq=wq at *;obtain⟨r,s,t,u,v,x,y,z,A,B,d,f,g,i,j,C⟩:=c.all
    have HC:=ah (uG m.out);rw[ca] at HC;go_wp2_with fail;refine (HC.out).mono ?_;rintro e w1 ⟨rfl,o⟩;have k:=ah o;clear o;have q:=a.kp k.out.kp l;obtain⟨_,_,_,_,_,_,_,_,_,_,_,_,_,_,_,_⟩:=q.all
    obtain⟨_,_,V1,L,_,_⟩:=k.out
    have T:=L.c4;go_wp2_with fail;go_quiet (fail);rename_i nq;have H:=ah (k.out.drewN nq);have K:=a.kp H.out.kp l;clear r s t u v x y z A B d f g i j C T;generalize w1.drewN nq=wr at *;obtain⟨r,s,t,u,v,x,y,z,A,B,d,f,g,i,j,C⟩:=K.all
   focus
    have HD:=ah (nK H.out hR D (by omega))
   rotate_left
   focus
    have HD:=ah (sW H.out hR D N.out (by omega) Q.out)
   rotate_left
   all_goals
    simp only[pmC] at HD;go_wp2_with fail;refine (HD.out).mono ?_;rintro e w2 ⟨rfl,U⟩;have V:=ah U;clear U;have aa:=a.kp V.out.kp l;obtain⟨_,_,_,_,_,_,_,_,_,_,_,_,_,_,_,_⟩:=aa.all
    go_wp2;exact bodyPost_end (results_none rfl _ _ _) rfl ⟨rfl,by rw[M.out];exact G.out _ _ V.out⟩
end
end Go.Proofs.YtinaollfjiddmaaGreatDoor
