import Derived.Test.YtinaollfjiddmaaGreatDoorA10
import Derived.Test.YtinaollfjiddmaaGreatDoorA11
set_option maxRecDepth 100000
set_option maxHeartbeats 8000000
set_option linter.all false
namespace Go.Proofs.YtinaollfjiddmaaGreatDoor
open Go.Value renaming int→I,slice→Y,string→Z,pointer→Zp
open Go.Ending renaming returned→Zr
open _root_.ByteArray renaming empty→Ze
open Go.IntKind renaming i64→J
open Option renaming none→O
open Go.RowKit
section
variable {w:World} {b bl:Nat} {W F:List Nat} {R:Rp} {V:Rv}
theorem au.MU (h:au w b bl W F R V):au (w.setCells b 64 (#[.bool false,.bool false,.bool false,.bool false,.bool false,.bool false,.bool false]:Array Value).toList) b bl W F { R with started:=st0 } V:=by
 rw[lM];exact h.Qx
theorem Ji:(#[.bool false,.bool false,.bool false,.bool false,.bool false,.bool false,.bool false]:Array Value).all (·.oneCell')=true:=all_oneCell_toArray (cs:=[.bool false,.bool false,.bool false,.bool false,.bool false,.bool false,.bool false]) (by intro v hv;simp at hv;subst hv;rfl)
theorem Tryz.sizeSt7:(Tryz.prog.info? 61).map (·.size)=some 7:=by kernel_rfl
theorem MJ (h:au w b bl W F R V) (hR:Ok R) (he:R.epoch+1≤10) (v:Value) (g:List Int) (hv:Ints w v g) (hs:Sl W F v) (hg:fG R.n g) (ho:R.out.length≤700000) :
  Calls Tryz.prog 157 #[Zp (some ⟨b,0,O⟩),v] w fun e w'=>e=Zr (.tuple #[])∧Rst w w' b bl W F (R.turn g):=by
 obtain⟨ag,cg,B⟩:=h.g7
 obtain⟨T,cv,rfl,_,_⟩:=hv.shape
 have c7:=h.c7;have c8:=h.c8;have c4:=h.c4;have f7:=h.free 7;have f8:=h.free 8;have f4:=h.free 4;have L:=h.MR V.vg R.grp h.grp h.sg;have M:=L.MQ _ g (hv.kp (h.qI 8 V.vg) hs.fr) hs;have N:=M.AL (R.epoch+1);have U:IntKind.i64.wrap (R.epoch+1)=R.epoch+1:=gq (by have:=hR.ep;omega) (by omega)
 have P:=ah (xK N 0);have k:Kp W w (((w.setCell ⟨b,8,O⟩ V.vg).setCell ⟨b,7,O⟩ (Y T g.length cv)).setCell ⟨b,4,O⟩ (I J (R.epoch+1))):=(((Kp.refl W w).set b 8 _ (.inl h.wb)).set b 7 _ (.inl h.wb)).set b 4 _ (.inl h.wb)
 have l:=ah k;rw[B] at c7 P l;have c:=ah (Rp.vK hR he hg);have f:=h.wb;have u:Hid (R.turn g=if gW g R.id then ({ ({ R with old:=R.grp,grp:=g,epoch:=R.epoch+1 }:Rp).begin_ 0 with started:=st0 }:Rp).bF.dz else ({ ({ ({ R with old:=R.grp,grp:=g,epoch:=R.epoch+1 }:Rp).begin_ 0 with started:=st0 }:Rp) with status:=5 }:Rp).bF):=rfl
 clear L M N k;go_enter Tryz.func157,Tryz.ntmps157;go_wp2_with fail;refine P.out.mono ?_;rintro e y ⟨rfl,C,Q⟩;have m:Kp W w y:=l.out.trans' (Q.wid (by intro x hx;simp at hx;subst hx;exact f))
 have j:=C.MU;have o:=ah (C.there 64 7 (by omega))
 have S:Kp W w (y.setCells b 64 (#[.bool false,.bool false,.bool false,.bool false,.bool false,.bool false,.bool false]:Array Value).toList):=m.trans' ((nV _ 64 (Kp.refl [b] y)).wid (by intro x hx;simp at hx;subst hx;exact f))
 have d0:=j.c0;have d3:=j.c3;have X:=j.free 3;have z:=ah (mK j c.out R.id);have p:Hid (Rp.mem { ({ R with old:=R.grp,grp:=g,epoch:=R.epoch+1 }:Rp).begin_ 0 with started:=st0 } R.id=gW g R.id):=rfl
 have A:=ah j;have q:=ah S;clear j Q S m;go_upto_region 5 with (refine wpList_store_mid rfl 61 (.tmp 28) (.tmp 26) (by rfl) b 64 #[.bool false,.bool false,.bool false,.bool false,.bool false,.bool false,.bool false] (by rfl) (by rfl) o.out Tryz.sizeSt7 Ji ?_)
 generalize y.setCells b 64 (#[.bool false,.bool false,.bool false,.bool false,.bool false,.bool false,.bool false]:Array Value).toList=wS at *;clear C o;cases hm:gW g R.id
 ·rw[show Rp.mem { ({ R with old:=R.grp,grp:=g,epoch:=R.epoch+1 }:Rp).begin_ 0 with started:=st0 } R.id=false from p.out.trans hm] at z
  rw[hm] at u;have D:=ah (nJ (A.out.jq 5) (Rp.fM c.out (s:=5) (by decide)).ok (by simp only[Rp.begin_];omega))
  have E:=ah (q.out.set b 3 (I J 5) (.inl f));have H6:=ah (A.out.jq 5);go_wp2_with fail;refine z.out.mono ?_;rintro e w3 ⟨rfl,i⟩;subst i;go_wp2_with fail;refine D.out.mono ?_;rintro e w4 ⟨rfl,a⟩;have d:=ah (Rst.pre E.out (Snt.rst H6.out a));clear a;go_wp2;exact bodyPost_end (results_none rfl _ _ _) rfl ⟨rfl,by rw[u.out];exact d.out⟩
 ·rw[show Rp.mem { ({ R with old:=R.grp,grp:=g,epoch:=R.epoch+1 }:Rp).begin_ 0 with started:=st0 } R.id=true from p.out.trans hm] at z
  rw[hm] at u;have D:=ah (nJ A.out c.out (by show R.out.length≤800000;omega))
  have r:=ah (Rp.gU c.out);go_wp2_with fail;refine z.out.mono ?_;rintro e w3 ⟨rfl,i⟩;subst i;go_wp2_with fail;refine D.out.mono ?_;rintro e w4 ⟨rfl,W4,F4,aa,a⟩;have G:=ah (tN a.rp r.out.ok (Nat.le_trans r.out.out (by show R.out.length+5≤800000;omega)))
  have H:=ah (A.out.kS a.kp);have d:=ah a;clear a;go_wp2_with fail;refine G.out.mono ?_;rintro e w5 ⟨rfl,t⟩;have K:=ah (Rst.pre q.out (Rst.step H.out d.out.mv (Snt.rst d.out.rp t)));clear t;go_wp2;exact bodyPost_end (results_none rfl _ _ _) rfl ⟨rfl,by rw[u.out];exact K.out⟩
theorem vT (h:au w b bl W F R V) (hR:Ok R) (qt:Int) (ho:R.out.length≤900000) :
  Calls Tryz.prog 137 #[Zp (some ⟨b,0,O⟩),I J qt] w fun e w'=>e=Zr (.tuple #[])∧Snt w w' b bl W F V (R.jL qt):=by
 obtain⟨s,D⟩:=h.g2
 obtain⟨f,m,t⟩:=h.g9
 obtain⟨ag,u,E⟩:=h.g7
 obtain⟨v,x,G⟩:=h.g8
 have ae:=hR.lg;have X:∀ e∈R.log,e.2.2.size≤1000:=fun e he=>by have:=(hR.le e he).2.2.2.2.2;omega
 have HH:=ah (sM h);rw[D,E,G,t] at HH;have HU:Hid (∀ w',Below w.heap.size w w'→Calls Tryz.prog 158 #[Y f R.log.length m,I J R.epoch] w' fun e j=>∃ n c,e=Zr (Y f n c)∧iw j (Y f n c) (dP R.log R.epoch)∧Below w'.heap.size w' j):=fun w' P=>qF f m R.log R.epoch w' (by have:=(h.below P).ents;rw[t] at this;exact this) (by omega) X
 have aa:Hid (∀ w' l c3,Below w.heap.size w w'→iw w' (Y f l c3) (dP R.log R.epoch)→Calls Tryz.prog 87 #[Zp (some ⟨b,0,O⟩),I J qt,.agg #[I .u8 115,I J R.id,Y (some ⟨bl,0,O⟩) R.lives.length s,I J R.epoch,I J 0,I J 0,I J 0,I J 0,Z ⟨#[]⟩,I J (l:Int),I J 0,I J 0,Y ag R.grp.length u,Y v R.old.length x,Y f l c3]] w' fun e j=>e=Zr (.tuple #[])∧Snt w j b bl W F V (R.jL qt)):=fun w' l c3 P hE=>by
  have hn:l=(dP R.log R.epoch).length:=by obtain⟨a',c',e',_⟩:=hE.shape;simp only[Value.slice.injEq] at e';exact e'.2.1
  have Q:=h.below P;have hh:mV w' R.iA V.vl V.vg V.vo (Y f l c3):=⟨Q.lives.rd,Q.grp,Q.old,hE⟩
  rw[D,E,G] at hh;have r:=nI Q qt R.iA _ _ _ _ ((Qh hR).pw hR) hh (by omega)
  rw[hn] at r ⊢;refine r.mono ?_;rintro e j ⟨rfl,T⟩;exact⟨rfl,T.pre P⟩
 go_enter Tryz.func137,Tryz.ntmps137;go_wp2_with fail;refine HH.out.mono ?_;rintro e d ⟨rfl,i⟩;have U:=h.below i;have d9:=U.c9;have d4:=U.c4;rw[t] at d9;have H:=U.lb;have y:=fun o=>(Below.refl d.heap.size d).alloc (Nat.le_refl _) o
 have m9:=fun o=>((y o).cell (p:=⟨b,9,O⟩) H).trans d9
 have m4:=fun o=>((y o).cell (p:=⟨b,4,O⟩) H).trans d4
 simp only[pmC,Rp.aC,Rp.head,pm0];go_wp2_with fail;have hM:dD (d.alloc (.cells #[I .u8 115,I J R.id,Y (some ⟨bl,0,O⟩) R.lives.length s,I J R.epoch,I J 0,I J 0,I J 0,I J 0,Z ⟨#[]⟩,I J (R.decided:Int),I J 0,I J 0,Y ag R.grp.length u,Y v R.old.length x,Y f R.log.length m] 68)) d.heap.size #[I .u8 115,I J R.id,Y (some ⟨bl,0,O⟩) R.lives.length s,I J R.epoch,I J 0,I J 0,I J 0,I J 0,Z ⟨#[]⟩,I J (R.decided:Int),I J 0,I J 0,Y ag R.grp.length u,Y v R.old.length x,Y f R.log.length m]:=⟨rfl,heap_alloc_new d _⟩
 have z:Below w.heap.size w (d.alloc (.cells #[I .u8 115,I J R.id,Y (some ⟨bl,0,O⟩) R.lives.length s,I J R.epoch,I J 0,I J 0,I J 0,I J 0,Z ⟨#[]⟩,I J (R.decided:Int),I J 0,I J 0,Y ag R.grp.length u,Y v R.old.length x,Y f R.log.length m] 68)):=i.trans ((y _).mono i.size)
 have e9:=m9 (.cells #[I .u8 115,I J R.id,Y (some ⟨bl,0,O⟩) R.lives.length s,I J R.epoch,I J 0,I J 0,I J 0,I J 0,Z ⟨#[]⟩,I J (R.decided:Int),I J 0,I J 0,Y ag R.grp.length u,Y v R.old.length x,Y f R.log.length m] 68);have e4:=m4 (.cells #[I .u8 115,I J R.id,Y (some ⟨bl,0,O⟩) R.lives.length s,I J R.epoch,I J 0,I J 0,I J 0,I J 0,Z ⟨#[]⟩,I J (R.decided:Int),I J 0,I J 0,Y ag R.grp.length u,Y v R.old.length x,Y f R.log.length m] 68);have af:(d.alloc (.cells #[I .u8 115,I J R.id,Y (some ⟨bl,0,O⟩) R.lives.length s,I J R.epoch,I J 0,I J 0,I J 0,I J 0,Z ⟨#[]⟩,I J (R.decided:Int),I J 0,I J 0,Y ag R.grp.length u,Y v R.old.length x,Y f R.log.length m] 68)).heap.size=d.heap.size+1:=by simp
 have ab:=ah (HU.out _ (z.trans ((Below.refl _ _).drew.mono z.size)));clear m9 m4 d9 d4 y U;generalize d.alloc (.cells #[I .u8 115,I J R.id,Y (some ⟨bl,0,O⟩) R.lives.length s,I J R.epoch,I J 0,I J 0,I J 0,I J 0,Z ⟨#[]⟩,I J (R.decided:Int),I J 0,I J 0,Y ag R.grp.length u,Y v R.old.length x,Y f R.log.length m] 68)=wA at *;obtain⟨x0,x1,x2,x3,x4,x5,x6,x7,x8,x9,ai,ak,al,am,an,xf⟩:=hM.all
 go_region_with (go_at_call 158;refine ab.out.mono ?_;rintro e C ⟨l,c3,rfl,K,L⟩;have ac:dD C d.heap.size #[I .u8 115,I J R.id,Y (some ⟨bl,0,O⟩) R.lives.length s,I J R.epoch,I J 0,I J 0,I J 0,I J 0,Z ⟨#[]⟩,I J (R.decided:Int),I J 0,I J 0,Y ag R.grp.length u,Y v R.old.length x,Y f R.log.length m]:=hM.kp (S:=[]) (Kp.of_below (jv L)) (by simp);obtain⟨u0,u1,u2,u3,u4,u5,u6,u7,u8,u9,ap,aq,ar,av,aw,uf⟩:=ac.all)
 all_goals
  have A:Below w.heap.size w C:=z.trans ((jv L).mono z.size)
  have M:∀ B g:Value,Below w.heap.size w ((C.setCell ⟨d.heap.size,14,O⟩ g).setCell ⟨d.heap.size,9,O⟩ B):=fun B g=>Below.setCell (p:=⟨d.heap.size,9,O⟩) (Below.setCell (p:=⟨d.heap.size,14,O⟩) A i.size g) i.size B
  have N:∀ B g:Value,iw ((C.setCell ⟨d.heap.size,14,O⟩ g).setCell ⟨d.heap.size,9,O⟩ B) (Y f l c3) (dP R.log R.epoch):=fun B g=>by
   have k:Kp [d.heap.size] C ((C.setCell ⟨d.heap.size,14,O⟩ g).setCell ⟨d.heap.size,9,O⟩ B):=((Kp.refl _ _).set _ 14 _ (.inl (by simp))).set _ 9 _ (.inl (by simp))
   refine K.kp k (fun q hq hc=>?_)
   simp at hc;subst hc;have:=(h.ents.lt d.heap.size (by rw[t];cases f with
    | none=>simp[Value.ownBlock] at hq
    | some a=>simpa [Value.ownBlock] using hq))
   have:=i.size
   omega
  have ad:=ah (aa.out _ l c3 (M (I J (l:Int)) (Y f l c3)) (N _ _));clear M N K A;go_wp2_with fail;refine ad.out.mono ?_;rintro e w4 ⟨rfl,T⟩;have HS:=ah T;clear T;go_wp2;exact bodyPost_end (results_none rfl _ _ _) rfl ⟨rfl,HS.out⟩
end
namespace Rp
theorem Eh (r:Rp) (p:Int):r.aV p=if (r.decided:Int)<p∧r.decided<r.log.length then
  (if (r.carried (r.log.getD r.decided (0,0,⟨#[]⟩))).turns (r.log.getD r.decided (0,0,⟨#[]⟩)) then (r.carried (r.log.getD r.decided (0,0,⟨#[]⟩))).turn (qE (r.log.getD r.decided (0,0,⟨#[]⟩)) r.n) else (r.carried (r.log.getD r.decided (0,0,⟨#[]⟩))).aV p) else r:=by
 unfold aV;rw[lQ,iF];by_cases h:(r.decided:Int)<p∧r.decided<r.log.length
 ·rw[if_pos h];obtain⟨f,a⟩:∃ f,r.log.length-r.decided=f+1:=⟨r.log.length-r.decided-1,by omega⟩
  rw[a,show r.log.length-(r.decided+1)=f by omega]
  conv=>lhs;unfold dZ
  rw[if_pos h]
 ·rw[if_neg h];cases a:r.log.length-r.decided with
  | zero=>rfl
  | succ f=>unfold dZ;rw[if_neg h]
end Rp
section
variable {w:World} {b bl:Nat} {W F:List Nat} {R:Rp} {V:Rv}
theorem Mv.xE {w w':World} {W F W' F':List Nat} (h:Mv w W F W' F') (hs:w'.heap.size≤w.heap.size):Mv w' W F W' F':=⟨fun x a=>(h.m x a).imp (fun q=>q) (fun q=>Nat.le_trans hs q),h.f,fun x a=>(h.g x a).imp (fun q=>q) (fun q=>Nat.le_trans hs q)⟩
theorem Ei (vals:List Int) (op:ByteArray):(doS vals op).2.size≤1000:=by
 unfold doS
 (repeat' split) <;> first|exact (by decide:OKb.size≤1000)|exact (by decide:qG.size≤1000)|exact (by decide:NOb.size≤1000)|exact (show (1:Nat)≤1000 by omega)
theorem Ia (h:au w b bl W F R V) (hR:Ok R) (p:Int) (ho:R.out.length≤600000) :
  Calls Tryz.prog 132 #[Zp (some ⟨b,0,O⟩),I J p] w fun e w'=>e=Zr (.tuple #[])∧Rst w w' b bl W F (R.aV p):=by
 have ai:=ah (fun r:Rp=>Rp.Eh r p)
 have HG:Hid (∀ w',au w' b bl W F R V→True):=fun _ _=>trivial
 go_enter Tryz.func132,Tryz.ntmps132;go_wp2_with fail;go_loopw [] (fun wr=>∃ (a:Rp) (W1 F1:List Nat) (V1:Rv),au wr b bl W1 F1 a V1∧Hid (Ok a∧R.aV p=a.aV p∧a.log=R.log∧a.out.length≤600000+a.decided)∧Kp W w wr∧Mv w W F W1 F1) (fun wr=>R.log.length-(zn wr b 10).toNat)
 case atStart=>exact⟨R,W,F,V,h,⟨hR,rfl,rfl,by omega⟩,Kp.refl _ _,Mv.refl _ _ _⟩
 case round =>
  obtain⟨a,W1,F1,V1,h1,D,hk,hm⟩:=hrel
  have c9:=h1.c9;have c10:=h1.c10;obtain⟨aL,cL,ak⟩:=h1.g9
  rw[ak] at c9;by_cases q1:(a.decided:Int)<p
  ·by_cases q2:a.decided<a.log.length
   ·have hE:=h1.ents;rw[ak] at hE;obtain⟨be,oe,bs,G,e0,e1,e2⟩:=hE.get a.decided q2
    subst bs;have bt:(a.decided:Int)<(a.log.length:Int):=by omega
    have j0:(0:Int)≤(a.decided:Int):=by omega
    have ax:a.log.getD a.decided (0,0,⟨#[]⟩)=a.log[a.decided]:=by simp[List.getD,q2]
    have al:Hid (iZ a.n a.log[a.decided]):=D.out.1.le _ (List.getElem_mem _)
    have az:Hid (R.aV p=if (a.carried a.log[a.decided]).turns a.log[a.decided] then (a.carried a.log[a.decided]).turn (Rp.qE a.log[a.decided] a.n) else (a.carried a.log[a.decided]).aV p):=by
     unfold Hid;rw[D.out.2.1,ai.out a,if_pos ⟨q1,q2⟩,ax]
    have m:Hid (a.decided+1≤10∧a.decided+1≤a.log.length):=⟨by have:=D.out.1.lg;omega,q2⟩
    clear ax hE;generalize hEe:a.log[a.decided]=E at *;have cg:=ah hEe;clear hEe;have a0:Hid (zn wr b 10=(a.decided:Int)):=by unfold Hid zn;rw[c10]
    have HF:=ah h1;go_wp2_with fail;go_quiet (fail);rename_i nq;have h0:=HF.out.drewN nq;have bu:=hk.aS (below_drewN (Below.refl _ wr) nq);have H:Below wr.heap.size wr (wr.drewN nq):=below_drewN (Below.refl _ wr) nq
    have f0:=(H.cell (p:=⟨be,oe+a.decided*3,O⟩) G).trans e0;have f1:=(H.cell (p:=⟨be,oe+a.decided*3+1,O⟩) G).trans e1;have f2:=(H.cell (p:=⟨be,oe+a.decided*3+2,O⟩) G).trans e2;have K:Mv w W F W1 F1:=hm
    have s:be<(wr.drewN nq).heap.size:=Nat.lt_of_lt_of_le G H.size
    clear e0 e1 e2 c9 c10 HF h1 hk G H;generalize wr.drewN nq=w0 at *;have c9:=h0.c9;have c10:=h0.c10;rw[ak] at c9;have a1:=h0.lb;have u:=fun o=>(Below.refl w0.heap.size w0).alloc (Nat.le_refl _) o
    have m9:=fun o=>((u o).cell (p:=⟨b,9,O⟩) a1).trans c9
    have bv:=fun o=>((u o).cell (p:=⟨b,10,O⟩) a1).trans c10
    have bw:=fun o=>((u o).cell (p:=⟨be,oe+a.decided*3,O⟩) s).trans f0
    have bx:=fun o=>((u o).cell (p:=⟨be,oe+a.decided*3+1,O⟩) s).trans f1
    have bz:=fun o=>((u o).cell (p:=⟨be,oe+a.decided*3+2,O⟩) s).trans f2
    go_upto_region 1 with fail
    go_cut [4] from 7 to 83 (fun p wx=>∃ g,p=Zp (some ⟨g,0,O⟩)∧Below w0.heap.size w0 wx∧w0.heap.size≤g∧wx.heap[g]? = some (.cells #[I J E.1,I J E.2.1,Z E.2.2] 66 (0,0)))
    case first =>
     go_region
     all_goals go_wp2_with fail
     all_goals go_meet
     all_goals exact⟨_,rfl,((Below.refl _ w0).alloc (Nat.le_refl _) _).drew,Nat.le_refl _,heap_alloc_new w0 _⟩
    case rest =>
     obtain⟨g,rfl,a2,ch,L⟩:=hcut
     obtain⟨wA,M⟩:∃ x,x=wc:=⟨_,rfl⟩
     subst M;clear c9 c10 f0 f1 f2 m9 bv bw bx bz u s;have a3:=h0.below a2;have a4:=bu.aS a2;have i:=al.out;have a5:=ah (fun (d:Nat)=>wm ((a3.below (below_drewN (Below.refl _ wA) d)).sv) E.1 E.2.1 E.2.2 (by have:=i.2.2.2.2.2;unfold maxLen;omega) i.small i.1 i.2.1)
     have x0:wA.cell? ⟨g,0,O⟩=some (I J E.1):=by simp[World.cell?,L]
     have x1:wA.cell? ⟨g,1,O⟩=some (I J E.2.1):=by simp[World.cell?,L]
     have x2:wA.cell? ⟨g,2,O⟩=some (Z E.2.2):=by simp[World.cell?,L]
     have N:g≠b:=by omega
     have a6:=ah L;clear L;go_upto_region 2 with fail
     go_cut [5] from 7 to 83 (fun p wx=>p=Z (doS a.sv.vals E.2.2).2∧au wx b bl W1 F1 { a with sv:=l8 a.sv E } V1∧Kp [b] wA wx)
     case first =>
      go_region_with (go_at_call 156;refine (a5.out 1).mono ?_;rintro e w3 ⟨rfl,a7,k3⟩)
      all_goals
       have j:=(a3.below (below_drewN (Below.refl _ wA) 1)).MV a7 k3;have y:Kp [b] wA w3:=(Kp.of_below (below_drewN (Below.refl _ wA) 1)).trans' k3
       have H3:=ah j;have b2:=ah y;clear j y a7 k3;go_wp2_with fail;go_meet;exact⟨rfl,H3.out,b2.out⟩
     case rest =>
      obtain⟨rfl,j,y⟩:=hcut
      obtain⟨z,M⟩:∃ x,x=wc:=⟨_,rfl⟩
      subst M;clear a5 x0 x1 x2;have P:z.heap[g]? = some (.cells #[I J E.1,I J E.2.1,Z E.2.2] 66 (0,0)):=(y.block g (lt_of_block a6.out) (by simpa using N)).trans a6.out
      have ci:=j.c10;have ce:=j.free 10;have hD:au (z.setCell ⟨b,10,O⟩ (I J ((a.decided:Int)+1))) b bl W1 F1 (a.l6 E) V1:=by
       have q:=j.uH (a.decided+1);rw[show (((a.decided+1:Nat)):Int)=(a.decided:Int)+1 by omega] at q
       exact q
      have a8:Kp W w (z.setCell ⟨b,10,O⟩ (I J ((a.decided:Int)+1))):=(a4.mv K (y.wid (by intro x hx;simp at hx;subst hx;exact j.wb))).mv K ((j.k1 _ _).wid (by intro x hx;simp at hx;subst hx;exact j.wb))
      have a9:Kp [b] z (z.setCell ⟨b,10,O⟩ (I J ((a.decided:Int)+1))):=j.k1 _ _
      have ba:=(a9.block g (lt_of_block P) (by simpa using N)).trans P
      have cf:IntKind.i64.wrap ((a.decided:Int)+1)=(a.decided:Int)+1:=gq (by omega) (by have:=m.out.1;omega)
      have b3:=ah (Rp.xg D.out.1 q2 E);have bb:=ah (xM hD b3.out.ok);have bc:=ah hD;have bd:=ah a8;have am:=ah ba;clear hD a8 a9 ba P j y;go_wp2_with fail;generalize z.setCell ⟨b,10,O⟩ (I J ((a.decided:Int)+1))=wD at *;refine bb.out.mono ?_;rintro e w4 ⟨rfl,n4,rfl⟩;have h4:=bc.out.drewN n4;have aa:=bd.out.aS (below_drewN (Below.refl _ wD) n4);have A:(wD.drewN n4).heap[g]? = some (.cells #[I J E.1,I J E.2.1,Z E.2.2] 66 (0,0)):=((below_drewN (Below.refl wD.heap.size wD) n4).block g (lt_of_block am.out)).trans am.out
      clear bc bd am bb;generalize wD.drewN n4=w4 at *;have x0:w4.cell? ⟨g,0,O⟩=some (I J E.1):=by simp[World.cell?,A]
      have x1:w4.cell? ⟨g,1,O⟩=some (I J E.2.1):=by simp[World.cell?,A]
      have HC:Hid (a.carried E=if (a.l6 E).leads then (a.l6 E).reply E.1 E.2.1 (doS a.sv.vals E.2.2).2 else a.l6 E):=rfl
      have i:=al.out;have bg:=ah (Cw h4 E.1 E.2.1 (doS a.sv.vals E.2.2).2 ⟨i.1,i.2.1⟩ ⟨by have:=i.2.2.1;omega,i.2.2.2.1⟩ (Ei _ _) (by have:=D.out.2.2.2;have:=m.out.1;show a.out.length≤1000000;omega))
      go_upto_if 48 with fail
      go_cut [] from 7 to 83 (fun wx=>∃ W2 F2 V2,au wx b bl W2 F2 (a.carried E) V2∧Kp W w wx∧Mv w W F W2 F2∧wx.heap[g]? = some (.cells #[I J E.1,I J E.2.1,Z E.2.2] 66 (0,0)))
      case first =>
       cases hl:(a.l6 E).leads
       ·rw[hl] at HC;have H4:=ah h4;go_wp2_with fail;go_meet;exact⟨W1,F1,V1,by rw[HC.out];exact H4.out,aa,K,A⟩
       ·rw[hl] at HC;have H4:=ah h4;go_wp2_with fail;refine bg.out.mono ?_;rintro e w5 ⟨rfl,W5,F5,cj,bh⟩;have ab:=ah bh;clear bh;go_wp2_with fail;go_meet;have b4:=H4.out.kS ab.out.kp;exact⟨W5,F5,_,by rw[HC.out];exact ab.out.rp,aa.mv K b4,K.trans ab.out.mv aa.size,(ab.out.kp.block g (lt_of_block A) (by
         intro hc;rcases List.mem_cons.1 hc with hc|hc
         ·exact N hc
         ·have q:=H4.out.wf g (H4.out.wt g (by simpa using hc))
          have:=h0.fl g q
          omega)).trans A⟩
      case rest =>
       obtain⟨W2,F2,V2,h6,ac,an,B⟩:=hcut
       obtain⟨t,M⟩:∃ x,x=wc:=⟨_,rfl⟩
       subst M;clear h4 aa A x0 x1 bg HC;have c:Hid (Ok (a.carried E)∧(a.carried E).n=a.n∧(a.carried E).decided=a.decided+1∧(a.carried E).out.length≤600000+(a.carried E).decided∧(a.carried E).epoch=a.epoch∧(a.carried E).log=R.log):=by
        have q:=Rp.lD D.out.1 q2 E;refine⟨q.ok,q.n,Rp.iF E,?_,Rp.iL E,(Rp.lQ E).trans D.out.2.2.1⟩
        have:=q.out
        have:=D.out.2.2.2
        rw[Rp.iF];omega
       have Q:Hid (R.aV p=if (a.carried E).turns E then (a.carried E).turn (Rp.qE E a.n) else (a.carried E).aV p):=az.out
       generalize a.carried E=f at *;clear az;have c4:=h6.c4;have c9:=h6.c9;have c10:=h6.c10;obtain⟨b5,bi,S⟩:=h6.g9
       obtain⟨_,_,ao,cl,cm⟩:=h6.ents.shape
       rw[S] at ao;simp only[Value.slice.injEq] at ao;obtain⟨-,-,rfl⟩:=ao
       rw[S] at c9;have i:=al.out;have i1:(0:Int)≤(f.decided:Int):=by omega
       have i2:(f.decided:Int)≤(bi:Int):=by have:=c.out.1.dc;omega
       have b6:Hid (∀ w,Calls Tryz.prog 74 #[.agg #[I J E.1,I J E.2.1,Z E.2.2]] w fun e w'=>e=Zr (.bool (fA E))∧Below w.heap.size w w'):=fun w=>lK E.1 E.2.1 E.2.2 w (by have:=i.2.2.2.2.2;unfold maxLen;omega)
       have b7:Hid (∀ w',Below t.heap.size t w'→Calls Tryz.prog 80 #[Y b5 f.decided bi] w' fun e T=>e=Zr (I J (regs (f.log.take f.decided):Int))∧Below w'.heap.size w' T):=fun w' hb=>by
        have hE:=(h6.below hb).ents;rw[S] at hE;have hd:=c.out.2.2.1;exact qm _ (f.log.take f.decided) w' (I9 hE f.decided c.out.1.dc (by omega)) (by have:=c.out.1.lg;simp;omega) (fun e he=>by have:=(c.out.1.le e (List.mem_of_mem_take he)).2.2.2.2.2;omega)
       have x0:t.cell? ⟨g,0,O⟩=some (I J E.1):=by simp[World.cell?,B]
       have x1:t.cell? ⟨g,1,O⟩=some (I J E.2.1):=by simp[World.cell?,B]
       have x2:t.cell? ⟨g,2,O⟩=some (Z E.2.2):=by simp[World.cell?,B]
       have k4:=cell_regrown c4;have k9:=cell_regrown c9;have bj:=cell_regrown c10;have bk:=cell_regrown x0;have bm:=cell_regrown x1;have bn:=cell_regrown x2;have cI:=fun d os=>Calls.regrown_of (w:=t) (d:=d) (os:=os) (b6.out _)
       have cR:=fun d os=>Calls.regrown_of (w:=t) (d:=d) (os:=os) (b7.out _ (below_regrown t d os))
       have ap:Hid (f.turns E=(fA E&&decide (f.epoch<(regs (f.log.take f.decided):Int)))):=rfl
       cases hrg:fA E
       ·have C:Hid (f.turns E=false):=by unfold Hid;rw[ap.out,hrg];rfl
        rw[hrg] at cI;go_wp2_with fail;refine wp_region_quiet_below (by kernel_rfl) (by kernel_rfl) ?_
        repeat (go_big_quiet_step (first|exact cI _ _|exact cR _ _))
        refine wpQuiet_nil ?_;intro w7 hw';have k:Below t.heap.size t w7:=by
         obtain⟨⟨dq,aq⟩,U⟩:=hw'
         rw[U];exact below_regrown t dq aq
        clear hw' cI cR k4 k9 bj bk bm bn;have H7:=ah (h6.below k);have ar:=ah (ac.aS k);go_wp2;go_roundw
        case rel=>exact⟨f,W2,F2,V2,H7.out,⟨c.out.1,by rw[Q.out,if_neg (by rw[C.out];simp)],c.out.2.2.2.2.2,c.out.2.2.2.1⟩,ar.out,an⟩
        case measure =>
         have e7:zn w7 b 10=(f.decided:Int):=by unfold zn;rw[H7.out.c10]
         have e0:=a0.out;have:=c.out.2.2.1
         have:=m.out.2
         have h2:=c.out.2.2.2.2.2;have h3:=D.out.2.2.1;have h4:a.log.length=R.log.length:=by rw[h3]
         rw[e7,e0];omega
       ·rw[hrg] at cI;by_cases bo:f.epoch<(regs (f.log.take f.decided):Int)
        focus
         have C:Hid (f.turns E=true):=by unfold Hid;rw[ap.out,hrg,decide_eq_true bo];rfl
        rotate_left
        focus
         have C:Hid (f.turns E=false):=by unfold Hid;rw[ap.out,hrg,decide_eq_false bo];rfl
        rotate_left
        all_goals
         go_wp2_with fail;refine wp_region_quiet_below (by kernel_rfl) (by kernel_rfl) ?_
         repeat (go_big_quiet_step (first|exact cI _ _|exact cR _ _))
         refine wpQuiet_nil ?_;intro w7 hw';have k:Below t.heap.size t w7:=by
          obtain⟨⟨dq,aq⟩,U⟩:=hw'
          rw[U];exact below_regrown t dq aq
         clear hw' cI cR k4 k9 bj bk bm bn
        ·have h7:=h6.below k;have b8:=ac.aS k;have ad:=(k.block g (lt_of_block B)).trans B;have z0:w7.cell? ⟨g,0,O⟩=some (I J E.1):=by simp[World.cell?,ad]
         have z1:w7.cell? ⟨g,1,O⟩=some (I J E.2.1):=by simp[World.cell?,ad]
         have z2:w7.cell? ⟨g,2,O⟩=some (Z E.2.2):=by simp[World.cell?,ad]
         have z3:=h7.c1;have b9:Hid (∀ w',Calls Tryz.prog 44 #[.agg #[I J E.1,I J E.2.1,Z E.2.2],I J f.n] w' fun e T=>∃ v,e=Zr v∧T.ownsRow w'.heap.size 3 1 v (Rp.qE E f.n).length ((Rp.qE E f.n).map (Value.int .i64))∧Below w'.heap.size w' T):=fun w'=>(oH E.1 E.2.1 E.2.2 f.n w' (by have:=i.2.2.2.2.2;unfold maxLen;omega)).mono (fun e T q=>by
          obtain⟨v,q1,q2,_,q3⟩:=q
          exact⟨v,q1,q2 hrg,q3⟩)
         have bp:Hid (R.aV p=f.turn (Rp.qE E f.n)):=by unfold Hid;rw[Q.out,if_pos C.out,c.out.2.1]
         have H7:=ah h7;clear x0 x1 x2 c4 c9 c10 B ad h7;go_wp2_with fail;go_region_with (go_at_call 44;refine (b9.out _).mono ?_;rintro e w8 ⟨v8,rfl,l,bq⟩)
         all_goals
          have X:Below w7.heap.size w7 w8:=jv bq
          obtain⟨F8,h8,ae,af⟩:=Sl.fresh H7.out X l
          have ca:=ah (MJ h8 c.out.1 (Rp.wK c.out.1 C.out) v8 (Rp.qE E f.n) (Rd.bX l) ae (rZ _ _) (by have:=c.out.2.2.2.1;have:=c.out.1.dc;have:=c.out.1.lg;omega))
          have cb:=ah (b8.aS X);have cc:=ah (an.trans (af.xE (Nat.le_refl _)) (Nat.le_trans ac.size k.size));clear h8 ae af l bq X z0 z1 z2 z3;go_wp2_with fail;refine ca.out.mono ?_;rintro e w9 ⟨rfl,br⟩;have cd:=ah (Rst.step cb.out cc.out br);clear br;go_wp2;exact bodyPost_ret (results_none rfl _ _ _) rfl ⟨rfl,by rw[bp.out];exact cd.out⟩
        ·have H7:=ah (h6.below k);have ar:=ah (ac.aS k);go_wp2;go_roundw
         case rel=>exact⟨f,W2,F2,V2,H7.out,⟨c.out.1,by rw[Q.out,if_neg (by rw[C.out];simp)],c.out.2.2.2.2.2,c.out.2.2.2.1⟩,ar.out,an⟩
         case measure =>
          have e7:zn w7 b 10=(f.decided:Int):=by unfold zn;rw[H7.out.c10]
          have e0:=a0.out;have:=c.out.2.2.1
          have:=m.out.2
          have h2:=c.out.2.2.2.2.2;have h3:=D.out.2.2.1;have h4:a.log.length=R.log.length:=by rw[h3]
          rw[e7,e0];omega
   ·have bt:¬(a.decided:Int)<(a.log.length:Int):=by omega
    have HZ:Hid (R.aV p=a):=by unfold Hid;rw[D.out.2.1,ai.out a,if_neg (by omega)]
    have HF:=ah h1;go_wp2_with fail;go_quiet (fail);rename_i nq;have av:=ah (HF.out.drewN nq);have aw:=ah (hk.aS (below_drewN (Below.refl _ wr) nq));go_wp2;exact bodyPost_end (results_none rfl _ _ _) rfl ⟨rfl,W1,F1,V1,by rw[HZ.out];exact av.out,aw.out,hm⟩
  ·have HZ:Hid (R.aV p=a):=by unfold Hid;rw[D.out.2.1,ai.out a,if_neg (by omega)]
   have HF:=ah h1;have hd1:decide ((a.decided:Int)<p)=false:=decide_eq_false q1
   go_wp2_with fail;go_quiet (fail);rename_i nq;have av:=ah (HF.out.drewN nq);have aw:=ah (hk.aS (below_drewN (Below.refl _ wr) nq));go_wp2;exact bodyPost_end (results_none rfl _ _ _) rfl ⟨rfl,W1,F1,V1,by rw[HZ.out];exact av.out,aw.out,hm⟩
end
end Go.Proofs.YtinaollfjiddmaaGreatDoor
