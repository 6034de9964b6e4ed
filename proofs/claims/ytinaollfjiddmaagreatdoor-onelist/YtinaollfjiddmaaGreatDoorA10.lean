import Derived.Test.YtinaollfjiddmaaGreatDoorA09
set_option maxRecDepth 100000
set_option maxHeartbeats 8000000
set_option linter.all false
namespace Go.Proofs.YtinaollfjiddmaaGreatDoor
open Go.Value renaming int→I,slice→Y,string→Z,pointer→Zp
open Go.Ending renaming returned→Zr
open _root_.ByteArray renaming empty→Ze
open Go.IntKind renaming i64→J
open Option renaming none→O
open Go.RowKit
section
variable {w:World} {b bl:Nat} {W F:List Nat} {R:Rp} {V:Rv}
theorem MH (h:au w b bl W F R V) (hR:Ok R) (qt:Int) (ho:R.out.length≤900000) :
  Calls Tryz.prog 91 #[Zp (some ⟨b,0,O⟩),I J qt] w fun e w'=>e=Zr (.tuple #[])∧Snt w w' b bl W F V (R.tell qt):=by
 obtain⟨o,a⟩:=h.g2
 obtain⟨p,q,c⟩:=h.g9
 obtain⟨ag,r,d⟩:=h.g7
 obtain⟨s,t,f⟩:=h.g8
 have m:=ah (sM h);rw[a,d,f,c] at m;have k:Hid (∀ w',Below w.heap.size w w'→Calls Tryz.prog 87 #[Zp (some ⟨b,0,O⟩),I J qt,.agg #[I .u8 115,I J R.id,Y (some ⟨bl,0,O⟩) R.lives.length o,I J R.epoch,I J R.view,I J 0,I J 0,I J 0,Z ⟨#[]⟩,I J (R.decided:Int),I J 0,I J 0,Y ag R.grp.length r,Y s R.old.length t,Y p R.log.length q]] w' fun e g=>e=Zr (.tuple #[])∧Snt w g b bl W F V (R.tell qt)):=fun w' l=>by
  have n:=(h.below l).rdS;rw[a,d,f,c] at n;refine (nI (h.below l) qt R.aC _ _ _ _ ((EM hR).pw hR) n (by omega)).mono ?_
  rintro e g ⟨rfl,j⟩;exact⟨rfl,j.pre l⟩
 go_enter Tryz.func91,Tryz.ntmps91;go_wp2_with fail;refine m.out.mono ?_;rintro e v ⟨rfl,i⟩;simp only[pmC,Rp.aC,Rp.head,pm0];go_wp2_with fail;refine (k.out _ (i.alloc i.size _)).mono ?_;rintro e x ⟨rfl,j⟩;have u:=ah j;clear j;go_wp2;exact bodyPost_end (results_none rfl _ _ _) rfl ⟨rfl,u.out⟩
theorem nJ (h:au w b bl W F R V) (hR:Ok R) (ho:R.out.length≤800000) :
  Calls Tryz.prog 101 #[Zp (some ⟨b,0,O⟩)] w fun e w'=>e=Zr (.tuple #[])∧Snt w w' b bl W F V R.bF:=by
 have M:=hR.g.1;obtain⟨k,s⟩:=h.g2
 obtain⟨l,m,t⟩:=h.g9
 obtain⟨ag,i,a⟩:=h.g7
 obtain⟨n,o,u⟩:=h.g8
 have D:=ah (sM h);rw[s,a,u,t] at D;have A:Hid (∀ w',Below w.heap.size w w'→Calls Tryz.prog 123 #[Zp (some ⟨b,0,O⟩),Y ag R.grp.length i,.agg #[I .u8 115,I J R.id,Y (some ⟨bl,0,O⟩) R.lives.length k,I J R.epoch,I J R.view,I J 0,I J 0,I J 0,Z ⟨#[]⟩,I J (R.decided:Int),I J 0,I J 0,Y ag R.grp.length i,Y n R.old.length o,Y l R.log.length m]] w' fun e v=>e=Zr (.tuple #[])∧Snt w v b bl W F V (R.bF)):=fun w' E=>by
  have q:=h.below E;have G:=q.rdS;have H:=q.frT;have K:=q.grp;have x:=q.frS q.sg.fr;rw[s,a,u,t] at G H;rw[a] at K x;refine (jF q _ R.grp R.aC _ _ _ _ ((EM hR).pw hR) G H K x (by omega) (by omega)).mono ?_
  rintro e v ⟨rfl,N⟩;exact⟨rfl,N.pre E⟩
 go_enter Tryz.func101,Tryz.ntmps101;go_wp2_with fail;refine D.out.mono ?_;rintro e c ⟨rfl,d⟩;have y:=(h.below d).c7;rw[a] at y;have B:=(h.below d).lb;simp only[pmC,Rp.aC,Rp.head,pm0];go_wp2_with fail;have j:Below c.heap.size c (c.alloc (.cells #[I .u8 115,I J R.id,Y (some ⟨bl,0,O⟩) R.lives.length k,I J R.epoch,I J R.view,I J 0,I J 0,I J 0,Z ⟨#[]⟩,I J (R.decided:Int),I J 0,I J 0,Y ag R.grp.length i,Y n R.old.length o,Y l R.log.length m] 68)):=(Below.refl _ c).alloc (Nat.le_refl _) _
 have L:dD (c.alloc (.cells #[I .u8 115,I J R.id,Y (some ⟨bl,0,O⟩) R.lives.length k,I J R.epoch,I J R.view,I J 0,I J 0,I J 0,Z ⟨#[]⟩,I J (R.decided:Int),I J 0,I J 0,Y ag R.grp.length i,Y n R.old.length o,Y l R.log.length m] 68)) c.heap.size #[I .u8 115,I J R.id,Y (some ⟨bl,0,O⟩) R.lives.length k,I J R.epoch,I J R.view,I J 0,I J 0,I J 0,Z ⟨#[]⟩,I J (R.decided:Int),I J 0,I J 0,Y ag R.grp.length i,Y n R.old.length o,Y l R.log.length m]:=⟨rfl,heap_alloc_new c _⟩
 have f:Below w.heap.size w (c.alloc (.cells #[I .u8 115,I J R.id,Y (some ⟨bl,0,O⟩) R.lives.length k,I J R.epoch,I J R.view,I J 0,I J 0,I J 0,Z ⟨#[]⟩,I J (R.decided:Int),I J 0,I J 0,Y ag R.grp.length i,Y n R.old.length o,Y l R.log.length m] 68)).drew:=d.trans (j.drew.mono d.size)
 have C:=ah (A.out _ f);have P:=((j).cell (p:=⟨b,7,O⟩) B).trans y;obtain⟨x0,x1,x2,x3,x4,x5,x6,x7,x8,x9,Q,S,T,U,X,xf⟩:=L.all
 clear j L f;generalize c.alloc (.cells #[I .u8 115,I J R.id,Y (some ⟨bl,0,O⟩) R.lives.length k,I J R.epoch,I J R.view,I J 0,I J 0,I J 0,Z ⟨#[]⟩,I J (R.decided:Int),I J 0,I J 0,Y ag R.grp.length i,Y n R.old.length o,Y l R.log.length m] 68)=w2 at *;go_region_with (go_at_call 123;refine C.out.mono ?_;rintro r w3 ⟨rfl,z⟩)
 all_goals
  have HS:=ah z;clear z;go_wp2;exact bodyPost_end (results_none rfl _ _ _) rfl ⟨rfl,HS.out⟩
theorem tN (h:au w b bl W F R V) (hR:Ok R) (ho:R.out.length≤800000) :
  Calls Tryz.prog 134 #[Zp (some ⟨b,0,O⟩)] w fun e w'=>e=Zr (.tuple #[])∧Snt w w' b bl W F V R.dz:=by
 have D:=hR.o.1;obtain⟨g,j⟩:=h.g2
 obtain⟨E,G,l⟩:=h.g8
 have x:=ah (lY h 116);rw[j] at x;have t:Hid (∀ w',Below w.heap.size w w'→Calls Tryz.prog 123 #[Zp (some ⟨b,0,O⟩),Y E R.old.length G,.agg #[I .u8 116,I J R.id,Y (some ⟨bl,0,O⟩) R.lives.length g,I J R.epoch,I J R.view,I J 0,I J 0,I J 0,Z ⟨#[]⟩,I J 0,I J 0,I J 0,Y O 0 0,Y O 0 0,Y O 0 0]] w' fun e m=>e=Zr (.tuple #[])∧Snt w m b bl W F V (R.dz)):=fun w' y=>by
  have i:=h.below y;have z:=i.rdH 116;have A:=i.frH;have B:=i.old;have n:=i.frS i.so.fr;rw[j] at z A;rw[l] at B n;refine (jF i _ R.old (R.head 116) _ _ _ _ ((Dm hR (k:=116) (by decide)).pw hR) z A B n (by omega) (by omega)).mono ?_
  rintro e m ⟨rfl,H⟩;exact⟨rfl,H.pre y⟩
 go_enter Tryz.func134,Tryz.ntmps134;go_wp2_with fail;refine x.out.mono ?_;rintro e a ⟨rfl,c⟩;have q:=(h.below c).c8;rw[l] at q;have u:=(h.below c).lb;simp only[pmC,Rp.head,pm0];go_wp2_with fail;have f:Below a.heap.size a (a.alloc (.cells #[I .u8 116,I J R.id,Y (some ⟨bl,0,O⟩) R.lives.length g,I J R.epoch,I J R.view,I J 0,I J 0,I J 0,Z ⟨#[]⟩,I J 0,I J 0,I J 0,Y O 0 0,Y O 0 0,Y O 0 0] 68)):=(Below.refl _ a).alloc (Nat.le_refl _) _
 have C:dD (a.alloc (.cells #[I .u8 116,I J R.id,Y (some ⟨bl,0,O⟩) R.lives.length g,I J R.epoch,I J R.view,I J 0,I J 0,I J 0,Z ⟨#[]⟩,I J 0,I J 0,I J 0,Y O 0 0,Y O 0 0,Y O 0 0] 68)) a.heap.size #[I .u8 116,I J R.id,Y (some ⟨bl,0,O⟩) R.lives.length g,I J R.epoch,I J R.view,I J 0,I J 0,I J 0,Z ⟨#[]⟩,I J 0,I J 0,I J 0,Y O 0 0,Y O 0 0,Y O 0 0]:=⟨rfl,heap_alloc_new a _⟩
 have d:Below w.heap.size w (a.alloc (.cells #[I .u8 116,I J R.id,Y (some ⟨bl,0,O⟩) R.lives.length g,I J R.epoch,I J R.view,I J 0,I J 0,I J 0,Z ⟨#[]⟩,I J 0,I J 0,I J 0,Y O 0 0,Y O 0 0,Y O 0 0] 68)).drew:=c.trans (f.drew.mono c.size)
 have v:=ah (t.out _ d);have K:=((f).cell (p:=⟨b,8,O⟩) u).trans q;obtain⟨T,U,X,x3,x4,x5,x6,x7,x8,x9,L,M,N,P,Q,xf⟩:=C.all
 clear f C d;generalize a.alloc (.cells #[I .u8 116,I J R.id,Y (some ⟨bl,0,O⟩) R.lives.length g,I J R.epoch,I J R.view,I J 0,I J 0,I J 0,Z ⟨#[]⟩,I J 0,I J 0,I J 0,Y O 0 0,Y O 0 0,Y O 0 0] 68)=w2 at *;go_region_with (go_at_call 123;refine v.out.mono ?_;rintro r w3 ⟨rfl,s⟩)
 all_goals
  have S:=ah s;clear s;go_wp2;exact bodyPost_end (results_none rfl _ _ _) rfl ⟨rfl,S.out⟩
theorem MG (h:au w b bl W F R V) (hR:Ok R) (ho:R.out.length≤800000) :
  Calls Tryz.prog 98 #[Zp (some ⟨b,0,O⟩)] w fun e w'=>e=Zr (.tuple #[])∧Snt w w' b bl W F V R.call:=by
 have D:=hR.g.1;obtain⟨i,l⟩:=h.g2
 obtain⟨ag,E,m⟩:=h.g7
 have x:=ah (lY h 104);rw[l] at x;have t:Hid (∀ w',Below w.heap.size w w'→Calls Tryz.prog 123 #[Zp (some ⟨b,0,O⟩),Y ag R.grp.length E,.agg #[I .u8 104,I J R.id,Y (some ⟨bl,0,O⟩) R.lives.length i,I J R.epoch,I J R.view,I J 0,I J 0,I J 0,Z ⟨#[]⟩,I J 0,I J 0,I J 0,Y O 0 0,Y O 0 0,Y O 0 0]] w' fun e n=>e=Zr (.tuple #[])∧Snt w n b bl W F V (R.call)):=fun w' y=>by
  have j:=h.below y;have z:=j.rdH 104;have A:=j.frH;have B:=j.grp;have o:=j.frS j.sg.fr;rw[l] at z A;rw[m] at B o;refine (jF j _ R.grp (R.head 104) _ _ _ _ ((Dm hR (k:=104) (by decide)).pw hR) z A B o (by omega) (by omega)).mono ?_
  rintro e n ⟨rfl,G⟩;exact⟨rfl,G.pre y⟩
 go_enter Tryz.func98,Tryz.ntmps98;go_wp2_with fail;refine x.out.mono ?_;rintro e a ⟨rfl,c⟩;have q:=(h.below c).c7;rw[m] at q;have u:=(h.below c).lb;simp only[pmC,Rp.head,pm0];go_wp2_with fail;have f:Below a.heap.size a (a.alloc (.cells #[I .u8 104,I J R.id,Y (some ⟨bl,0,O⟩) R.lives.length i,I J R.epoch,I J R.view,I J 0,I J 0,I J 0,Z ⟨#[]⟩,I J 0,I J 0,I J 0,Y O 0 0,Y O 0 0,Y O 0 0] 68)):=(Below.refl _ a).alloc (Nat.le_refl _) _
 have C:dD (a.alloc (.cells #[I .u8 104,I J R.id,Y (some ⟨bl,0,O⟩) R.lives.length i,I J R.epoch,I J R.view,I J 0,I J 0,I J 0,Z ⟨#[]⟩,I J 0,I J 0,I J 0,Y O 0 0,Y O 0 0,Y O 0 0] 68)) a.heap.size #[I .u8 104,I J R.id,Y (some ⟨bl,0,O⟩) R.lives.length i,I J R.epoch,I J R.view,I J 0,I J 0,I J 0,Z ⟨#[]⟩,I J 0,I J 0,I J 0,Y O 0 0,Y O 0 0,Y O 0 0]:=⟨rfl,heap_alloc_new a _⟩
 have d:Below w.heap.size w (a.alloc (.cells #[I .u8 104,I J R.id,Y (some ⟨bl,0,O⟩) R.lives.length i,I J R.epoch,I J R.view,I J 0,I J 0,I J 0,Z ⟨#[]⟩,I J 0,I J 0,I J 0,Y O 0 0,Y O 0 0,Y O 0 0] 68)).drew:=c.trans (f.drew.mono c.size)
 have v:=ah (t.out _ d);have H:=((f).cell (p:=⟨b,7,O⟩) u).trans q;obtain⟨S,T,U,X,x4,x5,x6,x7,x8,x9,K,L,M,N,P,xf⟩:=C.all
 clear f C d;generalize a.alloc (.cells #[I .u8 104,I J R.id,Y (some ⟨bl,0,O⟩) R.lives.length i,I J R.epoch,I J R.view,I J 0,I J 0,I J 0,Z ⟨#[]⟩,I J 0,I J 0,I J 0,Y O 0 0,Y O 0 0,Y O 0 0] 68)=w2 at *;go_region_with (go_at_call 123;refine v.out.mono ?_;rintro r w3 ⟨rfl,s⟩)
 all_goals
  have Q:=ah s;clear s;go_wp2;exact bodyPost_end (results_none rfl _ _ _) rfl ⟨rfl,Q.out⟩
theorem Bu (h:au w b bl W F R V) (hR:Ok R) (p:Int) (hp:p≤1000) (hp0 : -1000≤p) (ho:R.out.length≤800000) :
  Calls Tryz.prog 77 #[Zp (some ⟨b,0,O⟩),I J p] w fun e w'=>e=Zr (.tuple #[])∧Snt w w' b bl W F V (R.aQ p):=by
 have aa:=hR.g.1;obtain⟨s,x⟩:=h.g2
 obtain⟨aL,cL,j⟩:=h.g9
 obtain⟨ag,cg,y⟩:=h.g7
 have c9:=h.c9;rw[j] at c9;by_cases q1:p<1
 ·have t:Hid (R.aQ p=R):=by unfold Hid Rp.aQ;rw[if_pos (.inl q1)]
  have z:=ah (qJ.refl h);go_enter Tryz.func77,Tryz.ntmps77;go_wp2;exact bodyPost_ret (results_none rfl _ _ _) rfl ⟨rfl,W,F,V.vt,by rw[t.out];exact z.out⟩
 ·by_cases q2:(R.log.length:Int)<p
  ·have t:Hid (R.aQ p=R):=by unfold Hid Rp.aQ;rw[if_pos (.inr q2)]
   have z:=ah (qJ.refl h);go_enter Tryz.func77,Tryz.ntmps77;go_wp2;exact bodyPost_ret (results_none rfl _ _ _) rfl ⟨rfl,W,F,V.vt,by rw[t.out];exact z.out⟩
  ·obtain⟨k,rfl⟩:∃ k:Nat,p=(k:Int)+1:=⟨(p-1).toNat,by omega⟩
   have N:k<R.log.length:=by omega
   have d:R.log.getD ((k:Int)+1-1).toNat (0,0,⟨#[]⟩)=R.log[k]:=by rw[show ((k:Int)+1-1).toNat=k by omega];simp[List.getD,N]
   have t:R.aQ ((k:Int)+1)=R.eZ R.grp (R.dA ((k:Int)+1)):=by unfold Rp.aQ;rw[if_neg (by omega)]
   have f:R.dA ((k:Int)+1)={ R.head 112 with place:=(k:Int)+1,ent:=R.log[k],commit:=R.decided }:=by unfold Rp.dA;rw[d]
   have P:=ah (lY h 112);rw[x] at P;have E:Hid (∀ w',Below w.heap.size w w'→Calls Tryz.prog 123 #[Zp (some ⟨b,0,O⟩),Y ag R.grp.length cg,.agg #[I .u8 112,I J R.id,Y (some ⟨bl,0,O⟩) R.lives.length s,I J R.epoch,I J R.view,I J ((k:Int)+1),I J R.log[k].1,I J R.log[k].2.1,Z R.log[k].2.2,I J (R.decided:Int),I J 0,I J 0,Y O 0 0,Y O 0 0,Y O 0 0]] w' fun e A=>e=Zr (.tuple #[])∧Snt w A b bl W F V (R.aQ ((k:Int)+1))):=fun w' Q=>by
    have u:=h.below Q;have S:mV w' (R.dA ((k:Int)+1)) V.vl (Y O 0 0) (Y O 0 0) (Y O 0 0):=⟨u.lives.rd,gL _,gL _,qP _⟩
    have T:=u.frH;have U:=u.grp;have B:=u.frS u.sg.fr;rw[x] at S T;rw[y] at U B;have r:=jF u _ R.grp (R.dA ((k:Int)+1)) _ _ _ _ ((LZ hR (by omega) (by omega)).pw hR) S T U B (by omega) (by omega)
    rw[t];rw[f] at r ⊢;refine r.mono ?_;rintro e A ⟨rfl,hs⟩;exact⟨rfl,hs.pre Q⟩
   clear t f d;have j1:(0:Int)≤(k:Int):=by omega
   have j2:(k:Int)<(R.log.length:Int):=by omega
   have j3:IntKind.i64.wrap ((k:Int)+1-1)=(k:Int):=by rw[show (k:Int)+1-1=k by omega];exact gq (by omega) (by omega)
   have j4:(k:Int)+1-1=k:=by omega
   go_enter Tryz.func77,Tryz.ntmps77;go_wp2_with fail;refine P.out.mono ?_;rintro e c ⟨rfl,l⟩;have v:=h.below l;have C:=v.c7;have X:=v.c9;have G:=v.c10;rw[y] at C;rw[j] at X;have H:=v.ents;rw[j] at H;obtain⟨K,L,rfl,m,e0,e1,e2⟩:=H.get k N
   have n:=v.lb;have a:=fun o=>(Below.refl c.heap.size c).alloc (Nat.le_refl _) o
   have m9:=fun o=>((a o).cell (p:=⟨b,9,O⟩) n).trans X
   have ab:=fun o=>((a o).cell (p:=⟨b,10,O⟩) n).trans G
   have ac:=fun o=>((a o).cell (p:=⟨K,L+k*3,O⟩) m).trans e0
   have ad:=fun o=>((a o).cell (p:=⟨K,L+k*3+1,O⟩) m).trans e1
   have ae:=fun o=>((a o).cell (p:=⟨K,L+k*3+2,O⟩) m).trans e2
   clear a H v;simp only[pmC,Rp.head,pm0];go_wp2_with fail;have q:Below c.heap.size c (c.alloc (.cells #[I .u8 112,I J R.id,Y (some ⟨bl,0,O⟩) R.lives.length s,I J R.epoch,I J R.view,I J ((k:Int)+1),I J R.log[k].1,I J R.log[k].2.1,Z R.log[k].2.2,I J (R.decided:Int),I J 0,I J 0,Y O 0 0,Y O 0 0,Y O 0 0] 68)):=(Below.refl _ c).alloc (Nat.le_refl _) _
   have hM:dD (c.alloc (.cells #[I .u8 112,I J R.id,Y (some ⟨bl,0,O⟩) R.lives.length s,I J R.epoch,I J R.view,I J ((k:Int)+1),I J R.log[k].1,I J R.log[k].2.1,Z R.log[k].2.2,I J (R.decided:Int),I J 0,I J 0,Y O 0 0,Y O 0 0,Y O 0 0] 68)) c.heap.size #[I .u8 112,I J R.id,Y (some ⟨bl,0,O⟩) R.lives.length s,I J R.epoch,I J R.view,I J ((k:Int)+1),I J R.log[k].1,I J R.log[k].2.1,Z R.log[k].2.2,I J (R.decided:Int),I J 0,I J 0,Y O 0 0,Y O 0 0,Y O 0 0]:=⟨rfl,heap_alloc_new c _⟩
   have i:Below w.heap.size w (c.alloc (.cells #[I .u8 112,I J R.id,Y (some ⟨bl,0,O⟩) R.lives.length s,I J R.epoch,I J R.view,I J ((k:Int)+1),I J R.log[k].1,I J R.log[k].2.1,Z R.log[k].2.2,I J (R.decided:Int),I J 0,I J 0,Y O 0 0,Y O 0 0,Y O 0 0] 68)).drew:=l.trans (q.drew.mono l.size)
   have M:=ah (E.out _ i);have af:=((q).cell (p:=⟨b,7,O⟩) n).trans C;obtain⟨x0,x1,x2,x3,x4,x5,x6,x7,x8,x9,ai,ak,al,am,an,xf⟩:=hM.all
   clear q hM i;generalize c.alloc (.cells #[I .u8 112,I J R.id,Y (some ⟨bl,0,O⟩) R.lives.length s,I J R.epoch,I J R.view,I J ((k:Int)+1),I J R.log[k].1,I J R.log[k].2.1,Z R.log[k].2.2,I J (R.decided:Int),I J 0,I J 0,Y O 0 0,Y O 0 0,Y O 0 0] 68)=w2 at *;go_region_with (go_at_call 123;refine M.out.mono ?_;rintro r w3 ⟨rfl,D⟩)
   all_goals
    have z:=ah D;clear D;go_wp2;exact bodyPost_end (results_none rfl _ _ _) rfl ⟨rfl,z.out⟩
end
end Go.Proofs.YtinaollfjiddmaaGreatDoor
