import Derived.Test.YtinaollfjiddmaaGreatDoorA16
set_option maxRecDepth 100000
set_option maxHeartbeats 8000000
set_option linter.all false
namespace Go.Proofs.YtinaollfjiddmaaGreatDoor
open Go.Value renaming int→I,slice→Y,string→Z,pointer→Zp
open Go.Ending renaming returned→Zr
open _root_.ByteArray renaming empty→Ze
open Go.IntKind renaming i64→J
open Option renaming none→O
open Go.RowKit
section
variable {w w0:World} {b bl:Nat} {W F:List Nat} {R:Rp} {V:Rv} {P:Pm} {vl vg vo vL:Value}
theorem rM (h:Rst w0 w b bl W F R) (hR:Ok R) (hP:dX w0 W F P vl vg vo vL) (hm:Rp.FU P) (hk:P.kind=113∨P.kind=109) (hz:(kr R.sv P.ent.1).2.size≤1000) (ho:R.out.length≤600000)  :
  Calls Tryz.prog 18 #[Zp (some ⟨b,0,O⟩),.agg (pmC P vl vg vo vL)] w fun e w'=>e=Zr (.tuple #[])∧Rst w0 w' b bl W F (R.bQ P):=by
 obtain⟨W1,F1,V1,al,cl,ag,cg,ao,co,aL,cL,rfl,rfl,rfl,rfl,o,be,p,h2,a9,C⟩:=h.msg hP
 clear h hP;simp only[pmC];have ax:Hid (R.bQ P=if R.leads then (if P.ent.2.1<R.iQ P.ent.1 then R else if P.ent.2.1=R.iQ P.ent.1 then R.eU P.ent else if P.kind=109∧R.epoch<P.epoch then R else if P.kind=109∧(P.epoch<R.epoch∨Rp.fu P.ent R.n=true) then R.reply P.ent.1 P.ent.2.1 ⟨#[98,97,100]⟩ else R.propose P.ent) else R):=rfl
 have y:=ah hm;have a2:Hid (¬(P.kind=109∧Rp.fu P.ent R.n=true)→iZ R.n P.ent):=fun q=>Rp.yY hm hk q
 have az:=ah (Fz a9.out hR);clear hm hk;cases hl:R.leads
 focus
  have z:Hid (R.bQ P=R):=by unfold Hid;rw[ax.out,hl];rfl
 rotate_left
 focus
  have ak:Hid (R.bQ P=if P.ent.2.1<R.iQ P.ent.1 then R else if P.ent.2.1=R.iQ P.ent.1 then R.eU P.ent else if P.kind=109∧R.epoch<P.epoch then R else if P.kind=109∧(P.epoch<R.epoch∨Rp.fu P.ent R.n=true) then R.reply P.ent.1 P.ent.2.1 ⟨#[98,97,100]⟩ else R.propose P.ent):=by unfold Hid;rw[ax.out,hl];rfl
 rotate_left
 all_goals
  rw[hl] at az;clear ax;go_enter Tryz.func18,Tryz.ntmps18;go_upto_region 1 with fail
  generalize w.alloc (.cells (pqC P al cl ag cg ao co aL cL) 68)=wA at *;obtain⟨A,E,G,B,H,K,L,M,N,Q,i,j,k,l,m,S⟩:=o.all
  go_wp2_with fail
 ·refine (az.out).mono ?_;rintro e d ⟨rfl,af⟩;have a4:=ah af;clear af;have ar:=o.kp a4.out.kp p;obtain⟨_,_,_,_,_,_,_,_,_,_,_,_,_,_,_,_⟩:=ar.all
  go_wp2;exact bodyPost_ret (results_none rfl _ _ _) rfl ⟨rfl,by rw[z.out];exact C.out _ _ a4.out⟩
 ·refine az.out.mono ?_;rintro e d ⟨rfl,af⟩;have ar:=o.kp af.kp p;have a5:Below d.heap.size d (d.alloc (.cells #[I J P.ent.1,I J P.ent.2.1,Z P.ent.2.2] 66)):=(Below.refl _ d).alloc (Nat.le_refl _) _
  have T:=ah (af.below a5);have ai:(d.alloc (.cells #[I J P.ent.1,I J P.ent.2.1,Z P.ent.2.2] 66)).heap[d.heap.size]? = _:=heap_alloc_new d (.cells #[I J P.ent.1,I J P.ent.2.1,Z P.ent.2.2] 66)
  have ba:=o.kp T.out.kp p;clear A E G B H K L M N Q i j k l m S af;obtain⟨A,E,G,B,H,K,L,M,N,Q,i,j,k,l,m,S⟩:=ar.all
  clear a5;go_upto_region 3 with fail
  clear A E G B H K L M N Q i j k l m S ar;generalize d.alloc (.cells #[I J P.ent.1,I J P.ent.2.1,Z P.ent.2.2] 66)=wE at *;have e0:wE.cell? ⟨d.heap.size,0,O⟩=some (I J P.ent.1):=by simp[World.cell?,ai]
  have e1:wE.cell? ⟨d.heap.size,1,O⟩=some (I J P.ent.2.1):=by simp[World.cell?,ai]
  have e2:wE.cell? ⟨d.heap.size,2,O⟩=some (Z P.ent.2.2):=by simp[World.cell?,ai]
  obtain⟨A,E,G,B,H,K,L,M,N,Q,i,j,k,l,m,S⟩:=ba.all
  obtain⟨WL,FL,VL,hL,kL,mL⟩:=T.out
  have c4:=hL.c4;have c1:=hL.c1;have bb:=ah (Fg hL hR P.ent.1);clear hL kL mL;go_wp2_with fail;refine bb.out.mono ?_;rintro e w2 ⟨rfl,bc⟩;subst bc;obtain⟨wE,bd⟩:∃ x,x=w2:=⟨_,rfl⟩
  subst bd;generalize R.iQ P.ent.1=ln at *;by_cases qa:P.ent.2.1<ln
  ·have z:=ah ak.out;rw[if_pos qa] at z;go_wp2;exact bodyPost_ret (results_none rfl _ _ _) rfl ⟨rfl,by rw[z.out];exact C.out _ _ T.out⟩
  ·cases qb:(P.ent.2.1==ln)
   ·have U:Hid (R.bQ P=if P.kind=109∧R.epoch<P.epoch then R else if P.kind=109∧(P.epoch<R.epoch∨Rp.fu P.ent R.n=true) then R.reply P.ent.1 P.ent.2.1 ⟨#[98,97,100]⟩ else R.propose P.ent):=by unfold Hid;rw[ak.out,if_neg qa,if_neg (by simpa using qb)]
    clear ak;cases kd:(P.kind==109)
    ·have z:Hid (R.bQ P=R.propose P.ent):=by unfold Hid;rw[U.out,if_neg (fun q=>by simp at kd;exact kd q.1),if_neg (fun q=>by simp at kd;exact kd q.1)]
     clear U;go_wp2_with fail;go_quiet (fail);rename_i nq;have r:=ah (T.out.drewN nq);have u:=o.kp r.out.kp p;have f:(wE.drewN nq).heap[d.heap.size]? = _:=ai
     clear A E G B H K L M N Q i j k l m S e0 e1 e2 c4 c1;generalize wE.drewN nq=V at *;obtain⟨A,E,G,B,H,K,L,M,N,Q,i,j,k,l,m,S⟩:=u.all
     have e0:V.cell? ⟨d.heap.size,0,O⟩=some (I J P.ent.1):=by simp[World.cell?,f]
     have e1:V.cell? ⟨d.heap.size,1,O⟩=some (I J P.ent.2.1):=by simp[World.cell?,f]
     have e2:V.cell? ⟨d.heap.size,2,O⟩=some (Z P.ent.2.2):=by simp[World.cell?,f]
     obtain⟨_,_,aw,g,_,_⟩:=r.out
     have c4:=g.c4;have c1:=g.c1;clear g;go_wp2_with fail;go_quiet (fail);rename_i nq;have X:=ah (r.out.drewN nq);have aa:=o.kp X.out.kp p;have ab:(V.drewN nq).heap[d.heap.size]? = _:=f
     clear A E G B H K L M N Q i j k l m S e0 e1 e2 c4 c1;generalize V.drewN nq=wG at *;obtain⟨A,E,G,B,H,K,L,M,N,Q,i,j,k,l,m,S⟩:=aa.all
     have e0:wG.cell? ⟨d.heap.size,0,O⟩=some (I J P.ent.1):=by simp[World.cell?,ab]
     have e1:wG.cell? ⟨d.heap.size,1,O⟩=some (I J P.ent.2.1):=by simp[World.cell?,ab]
     have e2:wG.cell? ⟨d.heap.size,2,O⟩=some (Z P.ent.2.2):=by simp[World.cell?,ab]
     obtain⟨_,_,a6,v,_,_⟩:=X.out
     have c4:=v.c4;have c1:=v.c1;clear v;go_wp2_with fail;refine (Az X.out hR P.ent (a2.out (fun q=>by simp at kd;exact kd q.1)) (by omega)).mono ?_
     rintro e w3 ⟨rfl,D⟩;have t:=ah D;clear D;have am:=o.kp t.out.kp p;obtain⟨_,_,_,_,_,_,_,_,_,_,_,_,_,_,_,_⟩:=am.all
     go_wp2;exact bodyPost_end (results_none rfl _ _ _) rfl ⟨rfl,by rw[z.out];exact C.out _ _ t.out⟩
    ·have a7:P.kind=109:=by simpa using kd
     have an:=ah a7;clear a7;by_cases gt:R.epoch<P.epoch
     ·have z:Hid (R.bQ P=R):=by unfold Hid;rw[U.out,if_pos ⟨an.out,gt⟩]
      clear U;go_wp2_with fail;go_quiet (fail);rename_i nq;have r:=ah (T.out.drewN nq);have u:=o.kp r.out.kp p;have f:(wE.drewN nq).heap[d.heap.size]? = _:=ai
      clear A E G B H K L M N Q i j k l m S e0 e1 e2 c4 c1;generalize wE.drewN nq=V at *;obtain⟨A,E,G,B,H,K,L,M,N,Q,i,j,k,l,m,S⟩:=u.all
      have e0:V.cell? ⟨d.heap.size,0,O⟩=some (I J P.ent.1):=by simp[World.cell?,f]
      have e1:V.cell? ⟨d.heap.size,1,O⟩=some (I J P.ent.2.1):=by simp[World.cell?,f]
      have e2:V.cell? ⟨d.heap.size,2,O⟩=some (Z P.ent.2.2):=by simp[World.cell?,f]
      obtain⟨_,_,aw,g,_,_⟩:=r.out
      have c4:=g.c4;have c1:=g.c1;clear g;go_wp2;exact bodyPost_ret (results_none rfl _ _ _) rfl ⟨rfl,by rw[z.out];exact C.out _ _ r.out⟩
     ·by_cases lt:P.epoch<R.epoch
      focus
       have z:Hid (R.bQ P=R.reply P.ent.1 P.ent.2.1 ⟨#[98,97,100]⟩):=by unfold Hid;rw[U.out,if_neg (fun q=>gt q.2),if_pos ⟨an.out,.inl lt⟩]
      rotate_left
      focus
       have bg:=fun w a n c=>Lib.run_eql_slice_nil (P:=Tryz.prog) w 44 3 a n c 0 0 Tryz.underlying44
       have av:=ah (fun w=>Kk P.ent R.n w (by have:=y.out.s;unfold maxLen;omega))
       have a8:Hid (R.bQ P=if Rp.fu P.ent R.n=true then R.reply P.ent.1 P.ent.2.1 ⟨#[98,97,100]⟩ else R.propose P.ent):=by
        unfold Hid;rw[U.out,if_neg (fun q=>gt q.2)]
        by_cases hg:Rp.fu P.ent R.n=true
        ·rw[if_pos ⟨an.out,.inr hg⟩,if_pos hg]
        ·rw[if_neg (fun q=>by rcases q.2 with q|q;exact lt q;exact hg q),if_neg hg]
      rotate_left
      all_goals
       clear U;go_wp2_with fail;go_quiet (fail);rename_i nq;have r:=ah (T.out.drewN nq);have u:=o.kp r.out.kp p;have f:(wE.drewN nq).heap[d.heap.size]? = _:=ai
       clear A E G B H K L M N Q i j k l m S e0 e1 e2 c4 c1;generalize wE.drewN nq=V at *;obtain⟨A,E,G,B,H,K,L,M,N,Q,i,j,k,l,m,S⟩:=u.all
       have e0:V.cell? ⟨d.heap.size,0,O⟩=some (I J P.ent.1):=by simp[World.cell?,f]
       have e1:V.cell? ⟨d.heap.size,1,O⟩=some (I J P.ent.2.1):=by simp[World.cell?,f]
       have e2:V.cell? ⟨d.heap.size,2,O⟩=some (Z P.ent.2.2):=by simp[World.cell?,f]
       obtain⟨_,_,aw,g,_,_⟩:=r.out
       have c4:=g.c4;have c1:=g.c1;clear g
      ·go_wp2_with fail;go_quiet (fail);rename_i nq;have X:=ah (r.out.drewN nq);have aa:=o.kp X.out.kp p;have ab:(V.drewN nq).heap[d.heap.size]? = _:=f
       clear A E G B H K L M N Q i j k l m S e0 e1 e2 c4 c1;generalize V.drewN nq=wG at *;obtain⟨A,E,G,B,H,K,L,M,N,Q,i,j,k,l,m,S⟩:=aa.all
       have e0:wG.cell? ⟨d.heap.size,0,O⟩=some (I J P.ent.1):=by simp[World.cell?,ab]
       have e1:wG.cell? ⟨d.heap.size,1,O⟩=some (I J P.ent.2.1):=by simp[World.cell?,ab]
       have e2:wG.cell? ⟨d.heap.size,2,O⟩=some (Z P.ent.2.2):=by simp[World.cell?,ab]
       obtain⟨_,_,a6,v,_,_⟩:=X.out
       have c4:=v.c4;have c1:=v.c1;clear v;go_wp2_with fail;refine (AA X.out P.ent.1 P.ent.2.1 ⟨#[98,97,100]⟩ y.out.c ⟨by have:=y.out.n;omega,y.out.n.2⟩ (by decide) (by omega)).mono ?_
       rintro e w3 ⟨rfl,D⟩;have t:=ah D;clear D;have am:=o.kp t.out.kp p;obtain⟨_,_,_,_,_,_,_,_,_,_,_,_,_,_,_,_⟩:=am.all
       go_wp2;exact bodyPost_end (results_none rfl _ _ _) rfl ⟨rfl,by rw[z.out];exact C.out _ _ t.out⟩
      ·cases hno:Rp.fu P.ent R.n
       ·have z:=ah a8.out;rw[hno,if_neg (by decide)] at z
        rw[hno] at av;rw[an.out] at A;rw[show P.epoch=R.epoch by omega] at B
        go_wp2_with fail;go_region_with (go_at_call 44;refine (av.out _).mono ?_;rintro e w3 ⟨a3,k3,c3,rfl,a0,ac⟩;obtain⟨ad,rfl⟩:∃ ad,a3=some ad:=(by cases a3 with|none=>simp at a0|some ad=>exact⟨ad,rfl⟩))
        all_goals
         have t:=ah (r.out.below (jv ac));have ae:=((jv ac).block d.heap.size (lt_of_block f)).trans f;clear A E G B H K L M N Q i j k l m S e0 e1 e2 c4 c1 ac;have e0:w3.cell? ⟨d.heap.size,0,O⟩=some (I J P.ent.1):=by simp[World.cell?,ae]
         have e1:w3.cell? ⟨d.heap.size,1,O⟩=some (I J P.ent.2.1):=by simp[World.cell?,ae]
         have e2:w3.cell? ⟨d.heap.size,2,O⟩=some (Z P.ent.2.2):=by simp[World.cell?,ae]
         go_wp2_with fail;refine (Az t.out hR P.ent (a2.out (fun q=>by rw[hno] at q;exact absurd q.2 (by decide))) (by omega)).mono ?_
         rintro e w4 ⟨rfl,ap⟩;have aq:=ah ap;clear ap;have a1:=o.kp aq.out.kp p;obtain⟨_,_,_,_,_,_,_,_,_,_,_,_,_,_,_,_⟩:=a1.all
         go_wp2;exact bodyPost_end (results_none rfl _ _ _) rfl ⟨rfl,by rw[z.out];exact C.out _ _ aq.out⟩
       ·have z:=ah a8.out;rw[hno,if_pos rfl] at z;rw[hno] at av;rw[an.out] at A;rw[show P.epoch=R.epoch by omega] at B
        go_wp2_with fail;go_region_with (go_at_call 44;refine (av.out _).mono ?_;rintro e w3 ⟨a3,k3,c3,rfl,a0,ac⟩;obtain rfl:a3=O:=(by cases a3 with|none=>rfl|some ad=>simp at a0))
        all_goals
         have t:=ah (r.out.below (jv ac));have ae:=((jv ac).block d.heap.size (lt_of_block f)).trans f;clear A E G B H K L M N Q i j k l m S e0 e1 e2 c4 c1 ac;have e0:w3.cell? ⟨d.heap.size,0,O⟩=some (I J P.ent.1):=by simp[World.cell?,ae]
         have e1:w3.cell? ⟨d.heap.size,1,O⟩=some (I J P.ent.2.1):=by simp[World.cell?,ae]
         have e2:w3.cell? ⟨d.heap.size,2,O⟩=some (Z P.ent.2.2):=by simp[World.cell?,ae]
         go_wp2_with fail;refine (AA t.out P.ent.1 P.ent.2.1 ⟨#[98,97,100]⟩ y.out.c ⟨by have:=y.out.n;omega,y.out.n.2⟩ (by decide) (by omega)).mono ?_
         rintro e w4 ⟨rfl,ap⟩;have aq:=ah ap;clear ap;have a1:=o.kp aq.out.kp p;obtain⟨_,_,_,_,_,_,_,_,_,_,_,_,_,_,_,_⟩:=a1.all
         go_wp2;exact bodyPost_end (results_none rfl _ _ _) rfl ⟨rfl,by rw[z.out];exact C.out _ _ aq.out⟩
   ·have z:Hid (R.bQ P=R.eU P.ent):=by unfold Hid;rw[ak.out,if_neg qa,if_pos (by simpa using qb)]
    clear ak;go_wp2_with fail;refine (Bz T.out P.ent y.out.c ⟨by have:=y.out.n;omega,y.out.n.2⟩ hz (by omega)).mono ?_
    rintro e w3 ⟨rfl,D⟩;have t:=ah D;clear D;have am:=o.kp t.out.kp p;obtain⟨_,_,_,_,_,_,_,_,_,_,_,_,_,_,_,_⟩:=am.all
    go_wp2;exact bodyPost_end (results_none rfl _ _ _) rfl ⟨rfl,by rw[z.out];exact C.out _ _ t.out⟩
end
end Go.Proofs.YtinaollfjiddmaaGreatDoor
