import Derived.Test.YtinaollfjiddmaaGreatDoorA14
set_option maxRecDepth 100000
set_option maxHeartbeats 8000000
set_option linter.all false
namespace Go.Proofs.YtinaollfjiddmaaGreatDoor
open Go.Value renaming int→I,slice→Y,string→Z,pointer→Zp
open Go.Ending renaming returned→Zr
open _root_.ByteArray renaming empty→Ze
open Go.IntKind renaming i64→J
open Option renaming none→O
open Go.RowKit
section
variable {w w0:World} {b bl:Nat} {W F:List Nat} {R:Rp} {V:Rv} {P:Pm} {vl vg vo vL:Value}
theorem rJ (h:Rst w0 w b bl W F R) (hR:Ok R) (hP:dX w0 W F P vl vg vo vL) (ho:R.out.length≤900000)  :
  Calls Tryz.prog 51 #[Zp (some ⟨b,0,O⟩),.agg (pmC P vl vg vo vL)] w fun e w'=>e=Zr (.tuple #[])∧Rst w0 w' b bl W F (R.bZ P):=by
 obtain⟨W1,F1,V1,K,L,ag,M,N,Q,S,T,rfl,rfl,rfl,rfl,d,ac,m,h2,D,o⟩:=h.msg hP
 clear h hP;simp only[pmC];have l:Hid (R.bZ P=if R.epoch<P.epoch then R.bare P.frm 103 else if (P.kind==103)&&(R.status==5)&&R.mem P.frm then R.tell P.frm else R):=rfl
 by_cases U:R.epoch<P.epoch
 ·have E:Hid (R.bZ P=R.bare P.frm 103):=by unfold Hid;rw[l.out,if_pos U]
  clear l;go_enter Tryz.func51,Tryz.ntmps51;go_upto_region 1 with fail
  generalize w.alloc (.cells (pqC P K L ag M N Q S T) 68)=G at *;obtain⟨p,q,r,s,t,u,v,x,y,z,f,g,i,j,k,A⟩:=d.all
  have c4:=h2.c4;go_quiet (fail);rename_i nq;have c:=ah (D.out.drewN nq);have a:=d.kp c.out.kp m;clear p q r s t u v x y z f g i j k A c4;generalize G.drewN nq=wq at *;obtain⟨p,q,r,s,t,u,v,x,y,z,f,g,i,j,k,A⟩:=a.all
  go_wp2_with fail;refine (gD c.out hR P.frm 103 (by decide) ho).mono ?_
  rintro e w1 ⟨rfl,B⟩;have n:=ah B;clear B;have H:=d.kp n.out.kp m;obtain⟨_,_,_,_,_,_,_,_,_,_,_,_,_,_,_,_⟩:=H.all
  go_wp2;exact bodyPost_ret (results_none rfl _ _ _) rfl ⟨rfl,by rw[E.out];exact o.out _ _ n.out⟩
 ·cases kd:(P.kind==103)
  ·have E:Hid (R.bZ P=R):=by unfold Hid;rw[l.out,if_neg U,kd];rfl
   clear l;go_enter Tryz.func51,Tryz.ntmps51;go_upto_region 1 with fail
   generalize w.alloc (.cells (pqC P K L ag M N Q S T) 68)=G at *;obtain⟨p,q,r,s,t,u,v,x,y,z,f,g,i,j,k,A⟩:=d.all
   have c4:=h2.c4;go_quiet (fail);rename_i nq;have c:=ah (D.out.drewN nq);have a:=d.kp c.out.kp m;clear p q r s t u v x y z f g i j k A c4;generalize G.drewN nq=wq at *;obtain⟨p,q,r,s,t,u,v,x,y,z,f,g,i,j,k,A⟩:=a.all
   go_wp2;exact bodyPost_end (results_none rfl _ _ _) rfl ⟨rfl,by rw[E.out];exact o.out _ _ c.out⟩
  ·cases hs:(R.status==5)
   ·have E:Hid (R.bZ P=R):=by unfold Hid;rw[l.out,if_neg U,kd,hs];rfl
    clear l;go_enter Tryz.func51,Tryz.ntmps51;go_upto_region 1 with fail
    generalize w.alloc (.cells (pqC P K L ag M N Q S T) 68)=G at *;obtain⟨p,q,r,s,t,u,v,x,y,z,f,g,i,j,k,A⟩:=d.all
    have c4:=h2.c4;go_quiet (fail);rename_i nq;have c:=ah (D.out.drewN nq);have a:=d.kp c.out.kp m;clear p q r s t u v x y z f g i j k A c4;generalize G.drewN nq=wq at *;obtain⟨p,q,r,s,t,u,v,x,y,z,f,g,i,j,k,A⟩:=a.all
    obtain⟨_,_,V,C,_,_⟩:=c.out
    have c3:=C.c3;go_wp2;exact bodyPost_end (results_none rfl _ _ _) rfl ⟨rfl,by rw[E.out];exact o.out _ _ c.out⟩
   ·have HM:=ah (fun (wz:World) (hz:Rst (w.alloc (.cells (pqC P K L ag M N Q S T) 68)) wz b bl W1 F1 R)=>gB hz hR P.frm)
    cases hmem:R.mem P.frm
    focus
     have E:Hid (R.bZ P=R):=by unfold Hid;rw[l.out,if_neg U,kd,hs,hmem];rfl
    rotate_left
    focus
     have E:Hid (R.bZ P=R.tell P.frm):=by unfold Hid;rw[l.out,if_neg U,kd,hs,hmem];rfl
    rotate_left
    all_goals
     rw[hmem] at HM;clear l;go_enter Tryz.func51,Tryz.ntmps51;go_upto_region 1 with fail
     generalize w.alloc (.cells (pqC P K L ag M N Q S T) 68)=G at *;obtain⟨p,q,r,s,t,u,v,x,y,z,f,g,i,j,k,A⟩:=d.all
     have c4:=h2.c4;go_quiet (fail);rename_i nq;have c:=ah (D.out.drewN nq);have a:=d.kp c.out.kp m;clear p q r s t u v x y z f g i j k A c4;generalize G.drewN nq=wq at *;obtain⟨p,q,r,s,t,u,v,x,y,z,f,g,i,j,k,A⟩:=a.all
     obtain⟨_,_,V,C,_,_⟩:=c.out
     have c3:=C.c3;go_wp2_with fail;refine (HM.out _ c.out).mono ?_;rintro e w1 ⟨rfl,B⟩;have n:=ah B;clear B;have H:=d.kp n.out.kp m;obtain⟨_,_,_,_,_,_,_,_,_,_,_,_,_,_,_,_⟩:=H.all
     go_wp2_with fail
    ·exact bodyPost_end (results_none rfl _ _ _) rfl ⟨rfl,by rw[E.out];exact o.out _ _ n.out⟩
    ·refine (sN n.out hR P.frm ho).mono ?_;rintro e w2 ⟨rfl,X⟩;have aa:=ah X;clear X;have ab:=d.kp aa.out.kp m;obtain⟨_,_,_,_,_,_,_,_,_,_,_,_,_,_,_,_⟩:=ab.all
     go_wp2;exact bodyPost_end (results_none rfl _ _ _) rfl ⟨rfl,by rw[E.out];exact o.out _ _ aa.out⟩
theorem Kq (h:Rst w0 w b bl W F R) (hR:Ok R) (hP:dX w0 W F P vl vg vo vL) (hm:dF R.n P) (ho:R.out.length≤400000) (hk:P.kind=97) :
  Calls Tryz.prog 81 #[Zp (some ⟨b,0,O⟩),.agg (pmC P vl vg vo vL)] w fun e w'=>e=Zr (.tuple #[])∧Rst w0 w' b bl W F (R.resume P):=by
 obtain⟨W1,F1,V1,al,cl,ag,cg,ao,co,aL,cL,rfl,rfl,rfl,rfl,c,v,f,h2,N,y⟩:=h.msg hP
 clear h hP;simp only[pmC];obtain⟨a,g⟩:∃ x:Rp,x={ R.enter P with answers:=[] }:=⟨_,rfl⟩
 have i:Hid (R.resume P=if a.mem R.id then ((if (a.over P.log).dG then a.over P.log else (a.over P.log).ack P.frm).aV P.commit) else { a with status:=4 }):=by subst g;rfl
 have z:=ah (Rp.jN hm (.inr (.inr hk)));have q:Hid (Ok a):=by subst g;exact Rp.lG (Rp.iW hR (.inr hk) hm) (l:=[]) (by simp) (by simp)
 have j:Hid (a.id=R.id∧a.n=R.n∧a.out=R.out):=by subst g;exact⟨rfl,rfl,rfl⟩
 have Q:=ah g;have av:=ah hm;clear hm hk g;cases hmem:a.mem R.id
 ·have S:Hid (R.resume P={ a with status:=4 }):=by unfold Hid;rw[i.out,hmem];rfl
  clear i;go_enter Tryz.func81,Tryz.ntmps81;go_upto_region 1 with fail
  generalize w.alloc (.cells (pqC P al cl ag cg ao co aL cL) 68)=wA at *;obtain⟨x0,x1,x2,x3,x4,x5,x6,x7,x8,x9,A,B,C,D,E,xf⟩:=c.all
  have k:=ah (vU N.out v);simp only[pmC] at k;go_wp2_with fail;refine k.out.mono ?_;rintro e G ⟨rfl,H⟩;obtain⟨W2,F2,V2,d,t,u⟩:=H
  have ai:=d.c63;have T:=d.free 63;have K:=d.qy (Y O 0 0) [] (Pms.nil _ _ _);have m:Hid (Rst wA (G.setCell ⟨b,63,O⟩ (Y O 0 0)) b bl W1 F1 a):=Rst.step t u (Rst.of (by rw[Q.out];exact K) (d.qI _ _))
  have e0:(G.setCell ⟨b,63,O⟩ (Y O 0 0)).cell? ⟨b,0,O⟩=some (I J R.id):=K.c0
  have ak:=c.kp m.out.kp f;clear x0 x1 x2 x3 x4 x5 x6 x7 x8 x9 A B C D E xf d K t u;go_wp2_with fail;generalize G.setCell ⟨b,63,O⟩ (Y O 0 0)=w2 at *;have o:=ah (Rp.eu q.out (l:=P.log) (by rw[j.out.2.1];exact z.out))
  have U:a.out.length≤400000:=by rw[j.out.2.2];exact ho
  have p:=ah (gB m.out q.out R.id);rw[hmem] at p;refine p.out.mono ?_;rintro e w3 ⟨rfl,r⟩;obtain⟨W3,F3,V3,d,t,u⟩:=r
  have e3:=d.c3;have aw:=d.free 3;have s:Hid (Rst wA _ b bl W1 F1 { a with status:=4 }):=Rst.step t u (Rst.of (d.jq 4) (d.qI _ _))
  clear d t u;go_wp2;exact bodyPost_ret (results_none rfl _ _ _) rfl ⟨rfl,by rw[S.out];exact y.out _ _ s.out⟩
 ·cases hpr:(a.over P.log).dG
  focus
   have S:Hid (R.resume P=((a.over P.log).ack P.frm).aV P.commit):=by unfold Hid;rw[i.out,hmem,if_pos rfl,hpr];rfl
  rotate_left
  focus
   have S:Hid (R.resume P=(a.over P.log).aV P.commit):=by unfold Hid;rw[i.out,hmem,if_pos rfl,hpr];rfl
  rotate_left
  all_goals
   clear i;go_enter Tryz.func81,Tryz.ntmps81;go_upto_region 1 with fail
   generalize w.alloc (.cells (pqC P al cl ag cg ao co aL cL) 68)=wA at *;obtain⟨x0,x1,x2,x3,x4,x5,x6,x7,x8,x9,A,B,C,D,E,xf⟩:=c.all
   have k:=ah (vU N.out v);simp only[pmC] at k;go_wp2_with fail;refine k.out.mono ?_;rintro e G ⟨rfl,H⟩;obtain⟨W2,F2,V2,d,t,u⟩:=H
   have ai:=d.c63;have T:=d.free 63;have K:=d.qy (Y O 0 0) [] (Pms.nil _ _ _);have m:Hid (Rst wA (G.setCell ⟨b,63,O⟩ (Y O 0 0)) b bl W1 F1 a):=Rst.step t u (Rst.of (by rw[Q.out];exact K) (d.qI _ _))
   have e0:(G.setCell ⟨b,63,O⟩ (Y O 0 0)).cell? ⟨b,0,O⟩=some (I J R.id):=K.c0
   have ak:=c.kp m.out.kp f;clear x0 x1 x2 x3 x4 x5 x6 x7 x8 x9 A B C D E xf d K t u;go_wp2_with fail;generalize G.setCell ⟨b,63,O⟩ (Y O 0 0)=w2 at *;have o:=ah (Rp.eu q.out (l:=P.log) (by rw[j.out.2.1];exact z.out))
   have U:a.out.length≤400000:=by rw[j.out.2.2];exact ho
   have p:=ah (gB m.out q.out R.id);rw[hmem] at p;have V:=ah (Rp.l9 o.out.ok P.frm);have ax:(a.over P.log).out.length≤400000:=U
   refine (p.out).mono ?_;rintro e w3 ⟨rfl,r⟩;have X:=ah r;clear r;have am:=c.kp X.out.kp f;obtain⟨_,_,_,_,_,_,_,_,_,_,_,_,_,_,_,_⟩:=am.all
   go_wp2_with fail;refine (lZ X.out v (by rw[j.out.2.1];exact z.out)).mono ?_
   rintro e w4 ⟨rfl,aa⟩;have s:=ah aa;clear aa;have an:=c.kp s.out.kp f;obtain⟨_,_,_,_,_,_,_,_,_,_,_,_,_,_,_,_⟩:=an.all
   have ab:=ah (jK s.out o.out.ok);rw[hpr] at ab;go_wp2_with fail;refine (ab.out).mono ?_;rintro e w5 ⟨rfl,ac⟩;have L:=ah ac;clear ac;have ap:=c.kp L.out.kp f;obtain⟨_,_,_,_,_,_,_,_,_,_,_,_,_,_,_,_⟩:=ap.all
   go_wp2_with fail
  focus
   refine (DN L.out o.out.ok P.frm (by omega)).mono ?_
  rotate_left
  focus
   refine (iX L.out o.out.ok P.commit (by omega)).mono ?_
  rotate_left
  all_goals
   rintro e w6 ⟨rfl,ad⟩;have M:=ah ad;clear ad;have aq:=c.kp M.out.kp f;obtain⟨_,_,_,_,_,_,_,_,_,_,_,_,_,_,_,_⟩:=aq.all
   go_wp2_with fail
  ·refine (iX M.out V.out.ok P.commit (Nat.le_trans V.out.out (by omega))).mono ?_
   rintro e w7 ⟨rfl,ae⟩;have af:=ah ae;clear ae;have ar:=c.kp af.out.kp f;obtain⟨_,_,_,_,_,_,_,_,_,_,_,_,_,_,_,_⟩:=ar.all
   go_wp2;exact bodyPost_end (results_none rfl _ _ _) rfl ⟨rfl,by rw[S.out];exact y.out _ _ af.out⟩
  ·exact bodyPost_end (results_none rfl _ _ _) rfl ⟨rfl,by rw[S.out];exact y.out _ _ M.out⟩
theorem BD (h:Rst w0 w b bl W F R) (hR:Ok R) (hP:dX w0 W F P vl vg vo vL) (ho:R.out.length≤500000)  :
  Calls Tryz.prog 142 #[Zp (some ⟨b,0,O⟩),.agg (pmC P vl vg vo vL)] w fun e w'=>e=Zr (.tuple #[])∧Rst w0 w' b bl W F (R.dL P):=by
 obtain⟨W1,F1,V1,T,U,ag,V,X,co,aL,cL,rfl,rfl,rfl,rfl,j,ab,o,h2,H,p⟩:=h.msg hP
 clear h hP;simp only[pmC];have l:Hid (R.dL P=if P.frm=R.gZ then (if (R.log.length:Int)<P.commit then R.bare P.frm 103 else R.aV P.commit) else R):=rfl
 cases hq:(P.frm==R.gZ)
 ·have M:(P.frm != R.gZ)=true:=by simp[bne,hq]
  have K:Hid (R.dL P=R):=by unfold Hid;rw[l.out,if_neg (by simpa using hq)]
  clear l;go_enter Tryz.func142,Tryz.ntmps142;go_upto_region 1 with fail
  generalize w.alloc (.cells (pqC P T U ag V X co aL cL) 68)=N at *;obtain⟨q,r,s,t,u,v,x,y,z,A,a,c,d,f,g,B⟩:=j.all
  have C:=ah (fun n=>jf (h2.drewN n) hR)
  go_wp2_with fail;go_quiet ((go_at_call 120;exact Calls.quiet_of (C.out _)))
  rename_i nq;have k:=ah (H.out.drewN nq);have i:=j.kp k.out.kp o;clear q r s t u v x y z A a c d f g B;generalize N.drewN nq=wq at *;obtain⟨q,r,s,t,u,v,x,y,z,A,a,c,d,f,g,B⟩:=i.all
  go_wp2;exact bodyPost_ret (results_none rfl _ _ _) rfl ⟨rfl,by rw[K.out];exact p.out _ _ k.out⟩
 ·have M:(P.frm != R.gZ)=false:=by simp[bne,hq]
  by_cases q2:(R.log.length:Int)<P.commit
  focus
   have K:Hid (R.dL P=R.bare P.frm 103):=by unfold Hid;rw[l.out,if_pos (by simpa using hq),if_pos q2]
  rotate_left
  focus
   have K:Hid (R.dL P=R.aV P.commit):=by unfold Hid;rw[l.out,if_pos (by simpa using hq),if_neg q2]
  rotate_left
  all_goals
   clear l;go_enter Tryz.func142,Tryz.ntmps142;go_upto_region 1 with fail
   generalize w.alloc (.cells (pqC P T U ag V X co aL cL) 68)=N at *;obtain⟨q,r,s,t,u,v,x,y,z,A,a,c,d,f,g,B⟩:=j.all
   have C:=ah (fun n=>jf (h2.drewN n) hR)
   go_wp2_with fail;go_quiet ((go_at_call 120;exact Calls.quiet_of (C.out _)))
   rename_i nq;have k:=ah (H.out.drewN nq);have i:=j.kp k.out.kp o;clear q r s t u v x y z A a c d f g B;generalize N.drewN nq=wq at *;obtain⟨q,r,s,t,u,v,x,y,z,A,a,c,d,f,g,B⟩:=i.all
   obtain⟨_,_,aa,m,_,_⟩:=k.out
   have c9:=m.c9;obtain⟨ac,ad,Q⟩:=m.g9
   rw[Q] at c9;clear m;go_wp2_with fail;go_quiet (fail);rename_i nq;have D:=ah (k.out.drewN nq);have E:=j.kp D.out.kp o;clear q r s t u v x y z A a c d f g B c9;generalize wq.drewN nq=wr at *;obtain⟨q,r,s,t,u,v,x,y,z,A,a,c,d,f,g,B⟩:=E.all
   go_wp2_with fail
  focus
   refine (gD D.out hR P.frm 103 (by decide) (by omega)).mono ?_
  rotate_left
  focus
   refine (iX D.out hR P.commit (by omega)).mono ?_
  rotate_left
  all_goals
   rintro e w1 ⟨rfl,L⟩;have G:=ah L;clear L;have S:=j.kp G.out.kp o;obtain⟨_,_,_,_,_,_,_,_,_,_,_,_,_,_,_,_⟩:=S.all
   go_wp2_with fail
  ·exact bodyPost_ret (results_none rfl _ _ _) rfl ⟨rfl,by rw[K.out];exact p.out _ _ G.out⟩
  ·exact bodyPost_end (results_none rfl _ _ _) rfl ⟨rfl,by rw[K.out];exact p.out _ _ G.out⟩
end
section
variable {w w0:World} {b bl:Nat} {W F:List Nat} {R:Rp} {V:Rv} {P:Pm} {vl vg vo vL:Value}
theorem Ko (h:Rst w0 w b bl W F R) (hR:Ok R) (ho:R.out.length≤700000) :
  Calls Tryz.prog 97 #[Zp (some ⟨b,0,O⟩)] w fun e w'=>e=Zr (.tuple #[])∧Rst w0 w' b bl W F (R.iD):=by
 obtain⟨W1,F1,V1,d,k1,M⟩:=h
 have j:Hid (R.iD=if R.decided=R.log.length then R.eZ R.grp { R.head 99 with commit:=R.decided } else Rp.jU (R.log.length-R.decided) R ((R.decided:Int)+1)):=rfl
 have c9:=d.c9;have c10:=d.c10;obtain⟨aL,cL,S⟩:=d.g9
 rw[S] at c9;have al:=hR.lg;have ao:=hR.dc;have ap:=hR.g.1;have T:Hid (Rst w0 w b bl W F R):=⟨W1,F1,V1,d,k1,M⟩
 cases hq:((R.decided:Int)==(R.log.length:Int))
 ·have U:¬R.decided=R.log.length:=by simp at hq;omega
  have V:Hid (R.iD=Rp.jU (R.log.length-R.decided) R ((R.decided:Int)+1)):=by unfold Hid;rw[j.out,if_neg U]
  have am:IntKind.i64.wrap ((R.decided:Int)+1)=(R.decided:Int)+1:=gq (by omega) (by omega)
  clear j d k1 M;go_enter Tryz.func97,Tryz.ntmps97;go_wp2_with fail;go_quiet (fail);rename_i nq;have X:=ah (T.out.drewN nq);clear c9;go_wp2_with fail;go_loopw [3] (fun i wr=>∃ (k:Nat) (a:Rp),k≤R.log.length-R.decided∧i=I J ((R.decided:Int)+1+k)∧Rst w0 wr b bl W F a∧Hid (Ok a∧a.log=R.log∧a.out.length≤R.out.length+5*k∧R.iD=Rp.jU (R.log.length-R.decided-k) a ((R.decided:Int)+1+k))) (fun i _=>R.log.length+1-(intOf i).toNat)
  case atStart=>exact⟨0,R,Nat.zero_le _,by go_num,X.out,⟨hR,rfl,by omega,by rw[V.out];simp⟩⟩
  case round =>
   obtain⟨k,a,hk,rfl,hr,l⟩:=hrel
   have HR:=ah hr;obtain⟨WQ,FQ,VQ,n,_,_⟩:=hr
   have d9:=n.c9;obtain⟨aq,ar,y⟩:=n.g9
   rw[y,show a.log.length=R.log.length from by rw[l.out.2.1]] at d9
   clear n;by_cases av:k<R.log.length-R.decided
   ·have j1:(R.decided:Int)+1+(k:Int)≤(R.log.length:Int):=by omega
    have an:IntKind.i64.wrap ((R.decided:Int)+1+(k:Int)+1)=(R.decided:Int)+1+(k:Int)+1:=gq (by omega) (by omega)
    have aa:=ah (vV HR.out l.out.1 ((R.decided:Int)+1+k) (by omega) (by omega) (by have:=l.out.2.2.1;omega))
    have HG:=ah (Rp.mF l.out.1 ((R.decided:Int)+1+k));have ab:Hid ((a.aQ ((R.decided:Int)+1+k)).log=a.log):=by unfold Hid Rp.aQ;split <;> rfl
    have HN:Hid (R.iD=Rp.jU (R.log.length-R.decided-(k+1)) (a.aQ ((R.decided:Int)+1+k)) ((R.decided:Int)+1+(k+1:Nat))):=by
     unfold Hid;rw[l.out.2.2.2];obtain⟨f,N⟩:∃ f,R.log.length-R.decided-k=f+1:=⟨R.log.length-R.decided-k-1,by omega⟩
     rw[N,show R.log.length-R.decided-(k+1)=f by omega,show (R.decided:Int)+1+((k+1:Nat):Int)=(R.decided:Int)+1+(k:Int)+1 by omega]
     rfl
    go_wp2_with fail;refine aa.out.mono ?_;rintro e w5 ⟨rfl,z⟩;have ac:=ah z;clear z;go_wp2;go_roundw
    case rel=>exact⟨k+1,_,by omega,by rw[show (R.decided:Int)+1+((k+1:Nat):Int)=(R.decided:Int)+1+(k:Int)+1 by omega],ac.out,⟨HG.out.ok,ab.out.trans l.out.2.1,by have:=HG.out.out;have:=l.out.2.2.1;omega,HN.out⟩⟩
    case measure=>simp[intOf];omega
   ·have j1:¬(R.decided:Int)+1+(k:Int)≤(R.log.length:Int):=by omega
    have HN:Hid (R.iD=a):=by
     unfold Hid;rw[l.out.2.2.2,show R.log.length-R.decided-k=0 by omega];rfl
    go_wp2;exact bodyPost_end (results_none rfl _ _ _) rfl ⟨rfl,by rw[HN.out];exact HR.out⟩
 ·have A:R.decided=R.log.length:=by simp at hq;omega
  have V:Hid (R.iD=R.eZ R.grp { R.head 99 with commit:=R.decided }):=by unfold Hid;rw[j.out,if_pos A]
  clear j A;obtain⟨x,B⟩:=d.g2
  obtain⟨ag,cg,C⟩:=d.g7
  have H1:=ah d;have ad:Hid (∀ w' R',Rst w w' b bl W1 F1 R'→Rst w0 w' b bl W F R'):=fun w' R' q=>Rst.step k1 M q
  clear d k1 M;go_enter Tryz.func97,Tryz.ntmps97;go_wp2_with fail;go_quiet (fail);rename_i nq;have s:Below w.heap.size w (w.drewN nq):=below_drewN (Below.refl _ w) nq
  have n:=H1.out.below s;clear c9 c10;generalize w.drewN nq=P at *;have HH:=ah (lY n 99);rw[B] at HH;have ae:Hid (∀ w',Below P.heap.size P w'→Calls Tryz.prog 123 #[Zp (some ⟨b,0,O⟩),Y ag R.grp.length cg,.agg #[I .u8 99,I J R.id,Y (some ⟨bl,0,O⟩) R.lives.length x,I J R.epoch,I J R.view,I J 0,I J 0,I J 0,Z ⟨#[]⟩,I J (R.decided:Int),I J 0,I J 0,Y O 0 0,Y O 0 0,Y O 0 0]] w' fun e D=>e=Zr (.tuple #[])∧Rst w0 D b bl W F (R.eZ R.grp { R.head 99 with commit:=R.decided })):=fun w' hb=>by
   have t:=n.below hb;have hh:mV w' { R.head 99 with commit:=R.decided } V1.vl (Y O 0 0) (Y O 0 0) (Y O 0 0):=⟨t.lives.rd,gL _,gL _,qP _⟩
   have N:=t.frH;have hg:=t.grp;have E:=t.frS t.sg.fr;rw[B] at hh N;rw[C] at hg E;exact (jF t _ R.grp { R.head 99 with commit:=R.decided } _ _ _ _ ((JZ hR).pw hR) hh N hg E (by omega) (by omega)).mono (fun e D q=>⟨q.1,ad.out _ _ (Rst.pre (Kp.of_below (s.trans (hb.mono s.size))) (Snt.rst t q.2))⟩)
  go_wp2_with fail;refine HH.out.mono ?_;rintro e c ⟨rfl,u⟩;have Q:=n.below u;have G:=Q.c7;rw[C] at G;have af:=Q.c10;have H:=Q.lb;have K:=fun o=>(Below.refl c.heap.size c).alloc (Nat.le_refl _) o
  have ai:=fun o=>((K o).cell (p:=⟨b,10,O⟩) H).trans af
  simp only[pmC,Rp.head,pm0];clear K Q;go_wp2_with fail;have v:Below c.heap.size c (c.alloc (.cells #[I .u8 99,I J R.id,Y (some ⟨bl,0,O⟩) R.lives.length x,I J R.epoch,I J R.view,I J 0,I J 0,I J 0,Z ⟨#[]⟩,I J (R.decided:Int),I J 0,I J 0,Y O 0 0,Y O 0 0,Y O 0 0] 68)):=(Below.refl _ c).alloc (Nat.le_refl _) _
  have hM:dD (c.alloc (.cells #[I .u8 99,I J R.id,Y (some ⟨bl,0,O⟩) R.lives.length x,I J R.epoch,I J R.view,I J 0,I J 0,I J 0,Z ⟨#[]⟩,I J (R.decided:Int),I J 0,I J 0,Y O 0 0,Y O 0 0,Y O 0 0] 68)) c.heap.size #[I .u8 99,I J R.id,Y (some ⟨bl,0,O⟩) R.lives.length x,I J R.epoch,I J R.view,I J 0,I J 0,I J 0,Z ⟨#[]⟩,I J (R.decided:Int),I J 0,I J 0,Y O 0 0,Y O 0 0,Y O 0 0]:=⟨rfl,heap_alloc_new c _⟩
  have m:Below P.heap.size P (c.alloc (.cells #[I .u8 99,I J R.id,Y (some ⟨bl,0,O⟩) R.lives.length x,I J R.epoch,I J R.view,I J 0,I J 0,I J 0,Z ⟨#[]⟩,I J (R.decided:Int),I J 0,I J 0,Y O 0 0,Y O 0 0,Y O 0 0] 68)).drew:=u.trans (v.drew.mono u.size)
  have ak:=ah (ae.out _ m);have aw:=((v).cell (p:=⟨b,7,O⟩) H).trans G;obtain⟨x0,x1,x2,x3,x4,x5,x6,x7,x8,x9,ax,az,a0,a1,a2,xf⟩:=hM.all
  clear v hM m ai;generalize c.alloc (.cells #[I .u8 99,I J R.id,Y (some ⟨bl,0,O⟩) R.lives.length x,I J R.epoch,I J R.view,I J 0,I J 0,I J 0,Z ⟨#[]⟩,I J (R.decided:Int),I J 0,I J 0,Y O 0 0,Y O 0 0,Y O 0 0] 68)=w2 at *;go_region_with (go_at_call 123;refine ak.out.mono ?_;rintro r w3 ⟨rfl,L⟩)
  all_goals
   have HS:=ah L;clear L;go_wp2;exact bodyPost_ret (results_none rfl _ _ _) rfl ⟨rfl,by rw[V.out];exact HS.out⟩
theorem Qu (h:Rst w0 w b bl W F R) (hR:Ok R) (ho:R.out.length≤700000) :
  Calls Tryz.prog 100 #[Zp (some ⟨b,0,O⟩)] w fun e w'=>e=Zr (.tuple #[])∧Rst w0 w' b bl W F (R.ask):=by
 obtain⟨c,d⟩:∃ m:Nat,R.n=m:=⟨R.n.toNat,by have:=hR.n3;omega⟩
 have H:c≤7:=by have:=hR.n7;omega
 have z:Hid (R.ask=(List.range c).foldl Rp.oF R):=by unfold Hid Rp.ask;rw[d];rfl
 have A:Hid (∀ k,(List.range (k+1)).foldl Rp.oF R=Rp.oF ((List.range k).foldl Rp.oF R) k):=fun k=>by rw[List.range_succ,List.foldl_append];rfl
 have B:Hid (∀ k,Gd R ((List.range k).foldl Rp.oF R) k):=fun k=>by have:=Rp.C9 (List.range k) R hR;simpa using this
 have C:=ah d;clear d;go_enter Tryz.func100,Tryz.ntmps100;go_wp2_with fail;go_loopw [2] (fun i wr=>∃ k:Nat,k≤c∧i=I J k∧Rst w0 wr b bl W F ((List.range k).foldl Rp.oF R)) (fun i _=>c-(intOf i).toNat)
 case atStart=>exact⟨0,Nat.zero_le _,rfl,h⟩
 case round =>
  obtain⟨k,K,rfl,y⟩:=hrel
  have r:=ah y;have a:=ah (B.out k);have f:=ah (A.out k);obtain⟨L,M,N,s,_,_⟩:=y
  have c0:=s.c0;have c1:=s.c1;rw[a.out.id] at c0;rw[a.out.n,C.out] at c1;clear s;have l:Hid (∃ x,x=(List.range k).foldl Rp.oF R):=⟨_,rfl⟩
  obtain⟨o,g⟩:=l.out
  have t:=ah g;rw[← g] at r a f;clear g l;by_cases D:k<c
  ·have E:(k:Int)<(c:Int):=by omega
   have p:Hid (Rp.oF o k=if (k:Int) != o.id then o.bare k 114 else o):=rfl
   rw[a.out.id] at p;cases hq:((k:Int)==R.id)
   ·have j:((k:Int) != R.id)=true:=by simp[bne,hq]
    rw[j,if_pos rfl] at p;go_wp2_with fail;refine (gD r.out a.out.ok k 114 (by decide) (by have:=a.out.out;omega)).mono ?_
    rintro e P ⟨rfl,q⟩;have u:=ah q;clear q;go_wp2;go_roundw
    case rel=>exact⟨k+1,by omega,by go_num,by rw[f.out,p.out];exact u.out⟩
    case measure=>simp[intOf];omega
   ·have j:((k:Int) != R.id)=false:=by simp[bne,hq]
    rw[j,if_neg (by decide)] at p
    go_wp2;go_roundw
    case rel=>exact⟨k+1,by omega,by go_num,by rw[f.out,p.out];exact r.out⟩
    case measure=>simp[intOf];omega
  ·have E:¬(k:Int)<(c:Int):=by omega
   have v:k=c:=by omega
   have G:Hid (R.ask=o):=by unfold Hid;rw[z.out,← v];exact t.out.symm
   go_wp2;exact bodyPost_end (results_none rfl _ _ _) rfl ⟨rfl,by rw[G.out];exact r.out⟩
end
end Go.Proofs.YtinaollfjiddmaaGreatDoor
