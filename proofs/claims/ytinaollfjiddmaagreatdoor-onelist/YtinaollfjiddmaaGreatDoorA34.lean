import Derived.Test.YtinaollfjiddmaaGreatDoorA28
import Derived.Test.YtinaollfjiddmaaGreatDoorA32
import Derived.Test.YtinaollfjiddmaaGreatDoorA33
import Derived.Test.YtinaollfjiddmaaGreatDoorA21
set_option maxRecDepth 100000
set_option maxHeartbeats 8000000
set_option linter.all false
namespace Go.Proofs.YtinaollfjiddmaaGreatDoor
open Go.Value renaming int→I,slice→Y,string→Z,pointer→Zp
open Go.Ending renaming returned→Zr
open _root_.ByteArray renaming empty→Ze
open Go.IntKind renaming i64→J
open Option renaming none→O
open Go.RowKit
section
variable {w w0:World} {b bl:Nat} {W F:List Nat} {R:Rp} {V:Rv} {P:Pm} {vl vg vo vL:Value}
theorem Kr (l:List En) (c:Int):(kr (svF l) c).2.size≤1000:=by
 have a:∀ (l:List En) (S:Sv),(∀ s∈S.ses,s.2.size≤1000)→∀ s∈(l.foldl l8 S).ses,s.2.size≤1000:=by
  intro l
  induction l with
  | nil=>intro S h;exact h
  | cons e l ih =>
   intro S h;simp only[List.foldl_cons];apply ih
   intro s a;unfold l8 zh at a;rcases List.mem_or_eq_of_mem_set a with q|q
   ·exact h s q
   ·rw[q];exact Ei _ _
 unfold kr
 split
 ·show (0:Nat)≤1000;omega
 ·rw[List.getD_eq_getElem?_getD];by_cases b:(c-1).toNat<(svF l).ses.length
  ·rw[List.getElem?_eq_getElem b];refine a l sv0 (fun s q=>?_) _ (List.getElem_mem _)
   have:=List.eq_of_mem_replicate q
   rw[this];show (0:Nat)≤1000;omega
  ·rw[List.getElem?_eq_none (by omega)];show (0:Nat)≤1000;omega
def TkR (R:Rp) (t:ByteArray) (R':Rp):Prop:=(aZ t R.n=[]∧R'=R)∨(aZ t R.n≠[]∧∃ P,Rp.MOk R.n P∧oL R.n (aZ t R.n) P∧R'=R.take P)
theorem sJ (h:au w b bl W F R V) (hR:Ok R) (hS:Rp.SvI R) (ho:R.out=[]) (hv0:V.vt=Y O 0 0) (t:ByteArray) :
  Calls Tryz.prog 9 #[Zp (some ⟨b,0,O⟩),Z t] w fun e w'=>∃ R',TkR R t R'∧TkP w w' b bl W F R' e:=by
 have hz:∀ c,(kr R.sv c).2.size≤1000:=fun c=>by rw[hS];exact Kr _ c
 have HZ:=ah hz;have ci:R.out.length≤100000:=by rw[ho];simp
 have c1:=h.c1;have b2:=ah (L8 t R.n w hR.n3 hR.n7);have H0:=ah h;have HO:=ah ho;clear hS hz ho;go_enter Tryz.func9,Tryz.ntmps9;go_wp2_with fail;refine b2.out.mono ?_;rintro e w1 ⟨a7,P,vl,vg,vo,vL,rfl,f,hM⟩;obtain⟨H,K,rfl⟩:=aj f.lives
 obtain⟨ag,L,rfl⟩:=aj f.grp
 obtain⟨M,N,rfl⟩:=aj f.old
 obtain⟨Q,S,rfl⟩:=aj f.log
 simp only[pmC];have ak:Below w.heap.size w (w1.alloc (.cells (pqC P H K ag L M N Q S) 68)):=a7.alloc a7.size _
 have B:dD (w1.alloc (.cells (pqC P H K ag L M N Q S) 68)) w1.heap.size (pqC P H K ag L M N Q S):=⟨rfl,heap_alloc_new w1 _⟩
 have a8:=f.lives.alloc (.cells (pqC P H K ag L M N Q S) 68);have a9:=f.grp.alloc (.cells (pqC P H K ag L M N Q S) 68);have ba:=f.old.alloc (.cells (pqC P H K ag L M N Q S) 68);have bb:=f.log.alloc (.cells (pqC P H K ag L M N Q S) 68);obtain⟨F2,h2,am,m2⟩:=Sl.news H0.out ak [Y H P.lives.length K,Y ag P.grp.length L,Y M P.old.length N,Y Q P.log.length S] (by
  intro v hv;simp at hv;rcases hv with rfl|rfl|rfl|rfl
  ·exact mP a8
  ·exact mP a9
  ·exact mP ba
  ·exact mP bb)
 have ap:dX (w1.alloc (.cells (pqC P H K ag L M N Q S) 68)) W F2 P (Y H P.lives.length K) (Y ag P.grp.length L) (Y M P.old.length N) (Y Q P.log.length S) :=
  ⟨Rd.bX a8,Rd.bX a9,Rd.bX ba,Rd.bX bb,am _ (by simp),am _ (by simp),am _ (by simp),am _ (by simp)⟩
 have af:w1.heap.size∉W:=fun hc=>by have:=H0.out.wlt _ hc;have:=a7.size;omega
 have bc:=ah (Rst.refl h2);have a2:Hid (∀ wX WX FX,Kp W (w1.alloc (.cells (pqC P H K ag L M N Q S) 68)) wX→Mv (w1.alloc (.cells (pqC P H K ag L M N Q S) 68)) W F2 WX FX→Kp W w wX∧(∀ x∈WX,x∈W∨w.heap.size≤x)∧(∀ x∈FX,x∈F∨w.heap.size≤x)):=fun wX WX FX k m=>by
  have mm:=m2.trans m ak.size;exact⟨(Kp.of_below ak).trans' k,mm.m,mm.g⟩
 by_cases hw:aZ t R.n=[]
 ·have hd:decide (aZ t R.n≠[])=false:=decide_eq_false (fun q=>q hw)
  rw[hd];have i:Hid (TkP w (w1.alloc (.cells (pqC P H K ag L M N Q S) 68)) b bl W F R (Zr (Y O 0 0))):=by
   have e:({ R with out:=[] }:Rp)=R:=by rw[← HO.out]
   exact⟨_,W,F2,V,rfl,by rw[HO.out];exact mU.nil _ _,by rw[e];exact h2,hv0,Kp.of_below ak,fun x hx=>.inl hx,m2.g,Fr.nil _ _ _,fun k hk=>by simp[Value.ownBlock] at hk⟩
  have b3:Hid (TkR R t R):=.inl ⟨hw,rfl⟩
  clear hd hw hM;go_wp2;go_ret;exact⟨R,b3.out,i.out⟩
 ·have hd:decide (aZ t R.n≠[])=true:=decide_eq_true hw
  rw[hd];have a3:=ah (OD hw hR.n7 (hM hw));have a4:Hid (∀ R',R'=R.take P→TkR R t R'):=fun R' e=>.inr ⟨hw,P,a3.out,hM hw,e⟩
  clear hd hw hM a8 a9 ba bb am h2 m2 ak f;cases k1:(P.kind==113)
  ·cases k2:(P.kind==109)
   focus
    have br:Hid (¬(P.kind=113∨P.kind=109)):=ah (by simp at k1 k2;omega)
    have a6:=ah (a3.out.2 br.out);have T:Hid (R.take P=if R.alive P then ((R.learn P.lives).pruned).aU P else R):=by unfold Hid Rp.take;rw[if_neg br.out]
    have bd:=ah (Ig bc.out hR ap a6.out);have j:=ah (Rp.qQ hR a6.out.lb);have be:=ah (Rp.oW j.out.ok);simp only[pmC] at bd
   rotate_left
   focus
    have T:Hid (R.take P=R.bQ P):=by unfold Hid Rp.take;rw[if_pos (.inr (by simpa using k2))]
    have HC:=ah (rM bc.out hR ap (a3.out.1 (.inr (by simpa using k2))) (.inr (by simpa using k2)) (HZ.out _) (by omega))
    simp only[pmC] at HC
   rotate_left
   all_goals
    go_upto_region 4 with fail
    generalize w1.alloc (.cells (pqC P H K ag L M N Q S) 68)=wA at *;obtain⟨x0,x1,x2,x3,x4,x5,x6,x7,x8,x9,bg,bh,bi,bj,bk,xf⟩:=B.all
    go_wp2_with fail
   ·cases hal:R.alive P
    all_goals
     rw[hal] at T bd;refine (bd.out).mono ?_;rintro e w3 ⟨rfl,C⟩;have A:=ah C;clear C;have aq:=B.kp A.out.kp af;obtain⟨_,_,_,_,_,_,_,_,_,_,_,_,_,_,_,_⟩:=aq.all
    ·obtain⟨WX,FX,VX,l,kX,mX⟩:=A.out
     have o:=ah (jS l);have U:=ah (a2.out _ _ _ kX mX);have X:=ah l.wt;have aa:=ah l.wf;obtain⟨aX,cX,d⟩:=l.g71
     have ab:=ah d;rw[d] at o;clear l kX mX d;go_wp2_with fail;refine o.out.mono ?_;rintro e wS ⟨rfl,p,kS,WS,bm,r,s,u,y⟩;have i:=ah (kU.mk' U.out X.out aa.out ab.out p kS r s u y);clear p kS r s u y;go_wp2;go_ret;exact⟨_,a4.out _ (by have:=T.out;simpa using this.symm),i.out⟩
    ·go_wp2_with fail;refine (Bw A.out hR ap a6.out.ll).mono ?_;rintro e w4 ⟨rfl,bs⟩;have bt:=ah bs;clear bs;have b4:=B.kp bt.out.kp af;obtain⟨_,_,_,_,_,_,_,_,_,_,_,_,_,_,_,_⟩:=b4.all
     have bu:Hid ((R.learn P.lives).n=R.n∧(R.learn P.lives).out.length≤100000):=⟨j.out.n,Nat.le_trans j.out.out (by omega)⟩
     clear x0 x1 x2 x3 x4 x5 x6 x7 x8 x9 bg bh bi bj bk xf;generalize hRL:R.learn P.lives=a at *;go_upto_region 8 with fail
     go_cut [] from 8 (fun wx=>Rst wA wx b bl W F2 { a with aI:=gT a.aI a.lives })
     case first =>
      obtain⟨W3,F3,V3,D,k3,m3⟩:=bt.out
      have c62:=D.c62;obtain⟨b5,bv,E⟩:=D.g62
      have ac:=D.aI;rw[E] at c62 ac;have c2:=D.c2;obtain⟨b6,ar⟩:=D.g2
      have ad:=D.lives.rd;rw[ar] at c2 ad;have bn:(a).aI.length≤1000000:=by have:=nE j.out.ok.n7 j.out.ok.vn (fun m hm=>⟨(j.out.ok.vo m hm).2.f0,(j.out.ok.vo m hm).2.f1⟩);omega
      have bo:(a).lives.length≤1000000:=by have:=j.out.ok.ll;have:=j.out.ok.n7;omega
      have av:∀ m∈(a).aI,0≤m.frm∧m.frm<(a).lives.length∧m.lives.length=(a).lives.length:=fun m hm=>by
       have q:=(j.out.ok.vo m hm).2;have q1:=q.ll;have q2:=j.out.ok.ll;exact⟨q.f0,by have:=q.f1;omega,by omega⟩
      have HJ:=ah (rH _ _ (a).aI (a).lives W3 F3 w4.drew (ac.below (Below.refl _ _).drew) bn (ad.below (Below.refl _ _).drew) bo av);have ae:=ah D;have aw:=ah k3;have ax:=ah m3;clear D ac m3 k3 ad av;go_region_with (go_at_call 21;refine HJ.out.mono ?_;rintro e w5 ⟨v5,rfl,az,a0⟩;have bp:=ah az;obtain⟨b7,a1,bq⟩:=az;obtain⟨a5,c5,rfl⟩:=aj a1;clear a1 bq;have z:=jv a0;have b8:=(ae.out.below z).c62;have cf:=(ae.out.below z).free 62;rw[E] at b8)
      all_goals
       obtain⟨F5,h5,p5,m5⟩:=mR.rep (ae.out.below (Below.refl _ _).drew) a0 bp.out (Nat.le_refl _)
       have h6:=h5.pJ _ _ p5;have ai:Hid (Rst wA _ b bl W F2 _):=⟨W3,F5,_,h6,(aw.out.aS z).mv ax.out (h5.qI _ _),ax.out.trans (m5.xE (Nat.le_refl _)) aw.out.size⟩
       clear h5 p5 m5 h6;go_wp2_with fail;go_meet;exact ai.out
     case rest =>
      have b9:=ah hcut;obtain⟨w5,ca⟩:∃ x,x=wc:=⟨_,rfl⟩
      subst ca;clear hcut;have G:Hid (Ok ({ a with aI:=gT a.aI a.lives }:Rp)):=Rp.EU j.out.ok (fun x hx=>j.out.ok.vo x (nG hx)) (qc j.out.ok.vn)
      go_upto_region 9 with fail
      go_cut [] from 8 (fun wx=>Rst wA wx b bl W F2 a.pruned)
      case first =>
       obtain⟨W3,F3,V3,D,k3,m3⟩:=b9.out
       have c63:=D.c63;obtain⟨b5,bv,E⟩:=D.g63
       have ac:=D.answers;rw[E] at c63 ac;have c2:=D.c2;obtain⟨b6,ar⟩:=D.g2
       have ad:=D.lives.rd;rw[ar] at c2 ad;have bn:(({ a with aI:=gT a.aI a.lives }:Rp)).answers.length≤1000000:=by have:=nE G.out.n7 G.out.nn (fun m hm=>⟨(G.out.an m hm).2.f0,(G.out.an m hm).2.f1⟩);omega
       have bo:(({ a with aI:=gT a.aI a.lives }:Rp)).lives.length≤1000000:=by have:=G.out.ll;have:=G.out.n7;omega
       have av:∀ m∈(({ a with aI:=gT a.aI a.lives }:Rp)).answers,0≤m.frm∧m.frm<(({ a with aI:=gT a.aI a.lives }:Rp)).lives.length∧m.lives.length=(({ a with aI:=gT a.aI a.lives }:Rp)).lives.length:=fun m hm=>by
        have q:=(G.out.an m hm).2;have q1:=q.ll;have q2:=G.out.ll;exact⟨q.f0,by have:=q.f1;omega,by omega⟩
       have HJ:=ah (rH _ _ (({ a with aI:=gT a.aI a.lives }:Rp)).answers (({ a with aI:=gT a.aI a.lives }:Rp)).lives W3 F3 w5.drew (ac.below (Below.refl _ _).drew) bn (ad.below (Below.refl _ _).drew) bo av)
       have ae:=ah D;have aw:=ah k3;have ax:=ah m3;clear D ac m3 k3 ad av;go_region_with (go_at_call 21;refine HJ.out.mono ?_;rintro e w5 ⟨v5,rfl,az,a0⟩;have bp:=ah az;obtain⟨b7,a1,bq⟩:=az;obtain⟨a5,c5,rfl⟩:=aj a1;clear a1 bq;have z:=jv a0;have cb:=(ae.out.below z).c63;have ch:=(ae.out.below z).free 63;rw[E] at cb)
       all_goals
        obtain⟨F5,h5,p5,m5⟩:=mR.rep (ae.out.below (Below.refl _ _).drew) a0 bp.out (Nat.le_refl _)
        have h6:=h5.qy _ _ p5;have ai:Hid (Rst wA _ b bl W F2 _):=⟨W3,F5,_,h6,(aw.out.aS z).mv ax.out (h5.qI _ _),ax.out.trans (m5.xE (Nat.le_refl _)) aw.out.size⟩
        clear h5 p5 m5 h6;go_wp2_with fail;go_meet;exact ai.out
      case rest =>
       have ai:=ah hcut;obtain⟨w6,cc⟩:∃ x,x=wc:=⟨_,rfl⟩
       subst cc;clear hcut;have cd:=B.kp ai.out.kp af;obtain⟨x0,x1,x2,x3,x4,x5,x6,x7,x8,x9,bg,bh,bi,bj,bk,xf⟩:=cd.all
       have bw:=ah (xP ai.out be.out.ok ap (by rw[be.out.n,bu.out.1];exact a6.out) (Nat.le_trans be.out.out (by have:=bu.out.2;omega)))
       simp only[pmC] at bw;go_wp2_with fail;refine (bw.out).mono ?_;rintro e w7 ⟨rfl,bx⟩;have bz:=ah bx;clear bx;have ce:=B.kp bz.out.kp af;obtain⟨_,_,_,_,_,_,_,_,_,_,_,_,_,_,_,_⟩:=ce.all
       obtain⟨WX,FX,VX,l,kX,mX⟩:=bz.out
       have o:=ah (jS l);have U:=ah (a2.out _ _ _ kX mX);have X:=ah l.wt;have aa:=ah l.wf;obtain⟨aX,cX,d⟩:=l.g71
       have ab:=ah d;rw[d] at o;clear l kX mX d;go_wp2_with fail;refine o.out.mono ?_;rintro e wS ⟨rfl,p,kS,WS,bm,r,s,u,y⟩;have i:=ah (kU.mk' U.out X.out aa.out ab.out p kS r s u y);clear p kS r s u y;go_wp2;go_ret;exact⟨_,a4.out _ T.out.symm,i.out⟩
   ·refine (HC.out).mono ?_;rintro e w3 ⟨rfl,C⟩;have A:=ah C;clear C;have aq:=B.kp A.out.kp af;obtain⟨_,_,_,_,_,_,_,_,_,_,_,_,_,_,_,_⟩:=aq.all
    obtain⟨WX,FX,VX,l,kX,mX⟩:=A.out
    have o:=ah (jS l);have U:=ah (a2.out _ _ _ kX mX);have X:=ah l.wt;have aa:=ah l.wf;obtain⟨aX,cX,d⟩:=l.g71
    have ab:=ah d;rw[d] at o;clear l kX mX d;go_wp2_with fail;refine o.out.mono ?_;rintro e wS ⟨rfl,p,kS,WS,bm,r,s,u,y⟩;have i:=ah (kU.mk' U.out X.out aa.out ab.out p kS r s u y);clear p kS r s u y;go_wp2;go_ret;exact⟨_,a4.out _ T.out.symm,i.out⟩
  ·have T:Hid (R.take P=R.bQ P):=by unfold Hid Rp.take;rw[if_pos (.inl (by simpa using k1))]
   have HC:=ah (rM bc.out hR ap (a3.out.1 (.inl (by simpa using k1))) (.inl (by simpa using k1)) (HZ.out _) (by omega))
   simp only[pmC] at HC;go_upto_region 4 with fail
   generalize w1.alloc (.cells (pqC P H K ag L M N Q S) 68)=wA at *;obtain⟨x0,x1,x2,x3,x4,x5,x6,x7,x8,x9,bg,bh,bi,bj,bk,xf⟩:=B.all
   go_wp2_with fail;refine (HC.out).mono ?_;rintro e w3 ⟨rfl,C⟩;have A:=ah C;clear C;have aq:=B.kp A.out.kp af;obtain⟨_,_,_,_,_,_,_,_,_,_,_,_,_,_,_,_⟩:=aq.all
   obtain⟨WX,FX,VX,l,kX,mX⟩:=A.out
   have o:=ah (jS l);have U:=ah (a2.out _ _ _ kX mX);have X:=ah l.wt;have aa:=ah l.wf;obtain⟨aX,cX,d⟩:=l.g71
   have ab:=ah d;rw[d] at o;clear l kX mX d;go_wp2_with fail;refine o.out.mono ?_;rintro e wS ⟨rfl,p,kS,WS,bm,r,s,u,y⟩;have i:=ah (kU.mk' U.out X.out aa.out ab.out p kS r s u y);clear p kS r s u y;go_wp2;go_ret;exact⟨_,a4.out _ T.out.symm,i.out⟩
end
end Go.Proofs.YtinaollfjiddmaaGreatDoor
