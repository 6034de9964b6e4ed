import Derived.Test.YtbnihoahhomooaaGreatDoorA08
set_option maxRecDepth 100000
set_option maxHeartbeats 8000000
set_option linter.all false
namespace Go.Proofs.YtbnihoahhomooaaGreatDoor
open Go.Value renaming int→I,slice→Y,string→Z,pointer→Zp
open Go.Ending renaming returned→Zr
open _root_.ByteArray renaming empty→Ze
open Go.IntKind renaming i64→J
open Option renaming none→O
open Go.RowKit
section
variable {w:World} {b bl:Nat} {W F:List Nat} {R:Rp} {V:Rv}
theorem LJ (h:ay w b bl W F R V) (hR:Ok R) (qt:Int) (ho:R.out.length≤900000) :
  Calls Tryz.prog 92 #[Zp (some ⟨b,0,O⟩),I J qt] w fun e w'=>e=Zr (.tuple #[])∧Snt w w' b bl W F V (R.tell qt):=by
 obtain⟨cl,hvl⟩:=h.g2
 obtain⟨aL,cL,hvL⟩:=h.g9
 obtain⟨ag,cg,hvg⟩:=h.g7
 obtain⟨ao,co,hvo⟩:=h.g8
 have HH:=ah (rX h);rw[hvl,hvg,hvo,hvL] at HH;have HSe:Hid (∀ w',Below w.heap.size w w'→Calls Tryz.prog 88 #[Zp (some ⟨b,0,O⟩),I J qt,.agg #[I .u8 115,I J R.id,Y (some ⟨bl,0,O⟩) R.lives.length cl,I J R.epoch,I J R.view,I J 0,I J 0,I J 0,Z ⟨#[]⟩,I J (R.decided:Int),I J 0,I J 0,Y ag R.grp.length cg,Y ao R.old.length co,Y aL R.log.length cL]] w' fun e w''=>e=Zr (.tuple #[])∧Snt w w'' b bl W F V (R.tell qt)):=fun w' hb=>by
  have hh:=(h.below hb).rdS;rw[hvl,hvg,hvo,hvL] at hh;refine (mV (h.below hb) qt R.bf _ _ _ _ ((Et hR).pw hR) hh (by omega)).mono ?_
  rintro e w'' ⟨rfl,hs⟩;exact⟨rfl,hs.pre hb⟩
 go_enter Tryz.func92,Tryz.ntmps92;go_wp2_with fail;refine HH.out.mono ?_;rintro e w1 ⟨rfl,hb1⟩;simp only[pmC,Rp.bf,Rp.head,pm0];go_wp2_with fail;refine (HSe.out _ (hb1.alloc hb1.size _)).mono ?_;rintro e w2 ⟨rfl,hs⟩;have HS:=ah hs;clear hs;go_wp2;exact bodyPost_end (results_none rfl _ _ _) rfl ⟨rfl,HS.out⟩
theorem mW (h:ay w b bl W F R V) (hR:Ok R) (ho:R.out.length≤800000) :
  Calls Tryz.prog 102 #[Zp (some ⟨b,0,O⟩)] w fun e w'=>e=Zr (.tuple #[])∧Snt w w' b bl W F V R.bS:=by
 have hg5:=hR.g.1;obtain⟨cl,hvl⟩:=h.g2
 obtain⟨aL,cL,hvL⟩:=h.g9
 obtain⟨ag,cg,hvg⟩:=h.g7
 obtain⟨ao,co,hvo⟩:=h.g8
 have HH:=ah (rX h);rw[hvl,hvg,hvo,hvL] at HH;have HSO:Hid (∀ w',Below w.heap.size w w'→Calls Tryz.prog 124 #[Zp (some ⟨b,0,O⟩),Y ag R.grp.length cg,.agg #[I .u8 115,I J R.id,Y (some ⟨bl,0,O⟩) R.lives.length cl,I J R.epoch,I J R.view,I J 0,I J 0,I J 0,Z ⟨#[]⟩,I J (R.decided:Int),I J 0,I J 0,Y ag R.grp.length cg,Y ao R.old.length co,Y aL R.log.length cL]] w' fun e w''=>e=Zr (.tuple #[])∧Snt w w'' b bl W F V (R.bS)):=fun w' hb=>by
  have hw:=h.below hb;have hh:=hw.rdS;have hf:=hw.frT;have hg:=hw.grp;have hgf:=hw.frS hw.sg.fr;rw[hvl,hvg,hvo,hvL] at hh hf;rw[hvg] at hg hgf;refine (jk hw _ R.grp R.bf _ _ _ _ ((Et hR).pw hR) hh hf hg hgf (by omega) (by omega)).mono ?_
  rintro e w'' ⟨rfl,hs⟩;exact⟨rfl,hs.pre hb⟩
 go_enter Tryz.func102,Tryz.ntmps102;go_wp2_with fail;refine HH.out.mono ?_;rintro e w1 ⟨rfl,hb1⟩;have cgr:=(h.below hb1).c7;rw[hvg] at cgr;have hlb:=(h.below hb1).lb;simp only[pmC,Rp.bf,Rp.head,pm0];go_wp2_with fail;have hbF:Below w1.heap.size w1 (w1.alloc (.cells #[I .u8 115,I J R.id,Y (some ⟨bl,0,O⟩) R.lives.length cl,I J R.epoch,I J R.view,I J 0,I J 0,I J 0,Z ⟨#[]⟩,I J (R.decided:Int),I J 0,I J 0,Y ag R.grp.length cg,Y ao R.old.length co,Y aL R.log.length cL] 68)):=(Below.refl _ w1).alloc (Nat.le_refl _) _
 have hM:dw (w1.alloc (.cells #[I .u8 115,I J R.id,Y (some ⟨bl,0,O⟩) R.lives.length cl,I J R.epoch,I J R.view,I J 0,I J 0,I J 0,Z ⟨#[]⟩,I J (R.decided:Int),I J 0,I J 0,Y ag R.grp.length cg,Y ao R.old.length co,Y aL R.log.length cL] 68)) w1.heap.size #[I .u8 115,I J R.id,Y (some ⟨bl,0,O⟩) R.lives.length cl,I J R.epoch,I J R.view,I J 0,I J 0,I J 0,Z ⟨#[]⟩,I J (R.decided:Int),I J 0,I J 0,Y ag R.grp.length cg,Y ao R.old.length co,Y aL R.log.length cL]:=⟨rfl,heap_alloc_new w1 _⟩
 have hb0D:Below w.heap.size w (w1.alloc (.cells #[I .u8 115,I J R.id,Y (some ⟨bl,0,O⟩) R.lives.length cl,I J R.epoch,I J R.view,I J 0,I J 0,I J 0,Z ⟨#[]⟩,I J (R.decided:Int),I J 0,I J 0,Y ag R.grp.length cg,Y ao R.old.length co,Y aL R.log.length cL] 68)).drew:=hb1.trans (hbF.drew.mono hb1.size)
 have HS2:=ah (HSO.out _ hb0D);have cg7:=((hbF).cell (p:=⟨b,7,O⟩) hlb).trans cgr;obtain⟨x0,x1,x2,x3,x4,x5,x6,x7,x8,x9,x10,x11,x12,x13,x14,xf⟩:=hM.all
 clear hbF hM hb0D;generalize w1.alloc (.cells #[I .u8 115,I J R.id,Y (some ⟨bl,0,O⟩) R.lives.length cl,I J R.epoch,I J R.view,I J 0,I J 0,I J 0,Z ⟨#[]⟩,I J (R.decided:Int),I J 0,I J 0,Y ag R.grp.length cg,Y ao R.old.length co,Y aL R.log.length cL] 68)=w2 at *;go_region_with (go_at_call 124;refine HS2.out.mono ?_;rintro r w3 ⟨rfl,hs3⟩)
 all_goals
  have HS:=ah hs3;clear hs3;go_wp2;exact bodyPost_end (results_none rfl _ _ _) rfl ⟨rfl,HS.out⟩
theorem sS (h:ay w b bl W F R V) (hR:Ok R) (ho:R.out.length≤800000) :
  Calls Tryz.prog 135 #[Zp (some ⟨b,0,O⟩)] w fun e w'=>e=Zr (.tuple #[])∧Snt w w' b bl W F V R.bH:=by
 have hg5:=hR.o.1;obtain⟨cl,hvl⟩:=h.g2
 obtain⟨ao,co,hvo⟩:=h.g8
 have HH:=ah (lC h 116);rw[hvl] at HH;have HSO:Hid (∀ w',Below w.heap.size w w'→Calls Tryz.prog 124 #[Zp (some ⟨b,0,O⟩),Y ao R.old.length co,.agg #[I .u8 116,I J R.id,Y (some ⟨bl,0,O⟩) R.lives.length cl,I J R.epoch,I J R.view,I J 0,I J 0,I J 0,Z ⟨#[]⟩,I J 0,I J 0,I J 0,Y O 0 0,Y O 0 0,Y O 0 0]] w' fun e w''=>e=Zr (.tuple #[])∧Snt w w'' b bl W F V (R.bH)):=fun w' hb=>by
  have hw:=h.below hb;have hh:=hw.rdH 116;have hf:=hw.frH;have hg:=hw.old;have hgf:=hw.frS hw.so.fr;rw[hvl] at hh hf;rw[hvo] at hg hgf;refine (jk hw _ R.old (R.head 116) _ _ _ _ ((Db hR (k:=116) (by decide)).pw hR) hh hf hg hgf (by omega) (by omega)).mono ?_
  rintro e w'' ⟨rfl,hs⟩;exact⟨rfl,hs.pre hb⟩
 go_enter Tryz.func135,Tryz.ntmps135;go_wp2_with fail;refine HH.out.mono ?_;rintro e w1 ⟨rfl,hb1⟩;have cgr:=(h.below hb1).c8;rw[hvo] at cgr;have hlb:=(h.below hb1).lb;simp only[pmC,Rp.head,pm0];go_wp2_with fail;have hbF:Below w1.heap.size w1 (w1.alloc (.cells #[I .u8 116,I J R.id,Y (some ⟨bl,0,O⟩) R.lives.length cl,I J R.epoch,I J R.view,I J 0,I J 0,I J 0,Z ⟨#[]⟩,I J 0,I J 0,I J 0,Y O 0 0,Y O 0 0,Y O 0 0] 68)):=(Below.refl _ w1).alloc (Nat.le_refl _) _
 have hM:dw (w1.alloc (.cells #[I .u8 116,I J R.id,Y (some ⟨bl,0,O⟩) R.lives.length cl,I J R.epoch,I J R.view,I J 0,I J 0,I J 0,Z ⟨#[]⟩,I J 0,I J 0,I J 0,Y O 0 0,Y O 0 0,Y O 0 0] 68)) w1.heap.size #[I .u8 116,I J R.id,Y (some ⟨bl,0,O⟩) R.lives.length cl,I J R.epoch,I J R.view,I J 0,I J 0,I J 0,Z ⟨#[]⟩,I J 0,I J 0,I J 0,Y O 0 0,Y O 0 0,Y O 0 0]:=⟨rfl,heap_alloc_new w1 _⟩
 have hb0D:Below w.heap.size w (w1.alloc (.cells #[I .u8 116,I J R.id,Y (some ⟨bl,0,O⟩) R.lives.length cl,I J R.epoch,I J R.view,I J 0,I J 0,I J 0,Z ⟨#[]⟩,I J 0,I J 0,I J 0,Y O 0 0,Y O 0 0,Y O 0 0] 68)).drew:=hb1.trans (hbF.drew.mono hb1.size)
 have HS2:=ah (HSO.out _ hb0D);have cg7:=((hbF).cell (p:=⟨b,8,O⟩) hlb).trans cgr;obtain⟨x0,x1,x2,x3,x4,x5,x6,x7,x8,x9,x10,x11,x12,x13,x14,xf⟩:=hM.all
 clear hbF hM hb0D;generalize w1.alloc (.cells #[I .u8 116,I J R.id,Y (some ⟨bl,0,O⟩) R.lives.length cl,I J R.epoch,I J R.view,I J 0,I J 0,I J 0,Z ⟨#[]⟩,I J 0,I J 0,I J 0,Y O 0 0,Y O 0 0,Y O 0 0] 68)=w2 at *;go_region_with (go_at_call 124;refine HS2.out.mono ?_;rintro r w3 ⟨rfl,hs3⟩)
 all_goals
  have HS:=ah hs3;clear hs3;go_wp2;exact bodyPost_end (results_none rfl _ _ _) rfl ⟨rfl,HS.out⟩
theorem LH (h:ay w b bl W F R V) (hR:Ok R) (ho:R.out.length≤800000) :
  Calls Tryz.prog 99 #[Zp (some ⟨b,0,O⟩)] w fun e w'=>e=Zr (.tuple #[])∧Snt w w' b bl W F V R.call:=by
 have hg5:=hR.g.1;obtain⟨cl,hvl⟩:=h.g2
 obtain⟨ag,cg,hvg⟩:=h.g7
 have HH:=ah (lC h 104);rw[hvl] at HH;have HSO:Hid (∀ w',Below w.heap.size w w'→Calls Tryz.prog 124 #[Zp (some ⟨b,0,O⟩),Y ag R.grp.length cg,.agg #[I .u8 104,I J R.id,Y (some ⟨bl,0,O⟩) R.lives.length cl,I J R.epoch,I J R.view,I J 0,I J 0,I J 0,Z ⟨#[]⟩,I J 0,I J 0,I J 0,Y O 0 0,Y O 0 0,Y O 0 0]] w' fun e w''=>e=Zr (.tuple #[])∧Snt w w'' b bl W F V (R.call)):=fun w' hb=>by
  have hw:=h.below hb;have hh:=hw.rdH 104;have hf:=hw.frH;have hg:=hw.grp;have hgf:=hw.frS hw.sg.fr;rw[hvl] at hh hf;rw[hvg] at hg hgf;refine (jk hw _ R.grp (R.head 104) _ _ _ _ ((Db hR (k:=104) (by decide)).pw hR) hh hf hg hgf (by omega) (by omega)).mono ?_
  rintro e w'' ⟨rfl,hs⟩;exact⟨rfl,hs.pre hb⟩
 go_enter Tryz.func99,Tryz.ntmps99;go_wp2_with fail;refine HH.out.mono ?_;rintro e w1 ⟨rfl,hb1⟩;have cgr:=(h.below hb1).c7;rw[hvg] at cgr;have hlb:=(h.below hb1).lb;simp only[pmC,Rp.head,pm0];go_wp2_with fail;have hbF:Below w1.heap.size w1 (w1.alloc (.cells #[I .u8 104,I J R.id,Y (some ⟨bl,0,O⟩) R.lives.length cl,I J R.epoch,I J R.view,I J 0,I J 0,I J 0,Z ⟨#[]⟩,I J 0,I J 0,I J 0,Y O 0 0,Y O 0 0,Y O 0 0] 68)):=(Below.refl _ w1).alloc (Nat.le_refl _) _
 have hM:dw (w1.alloc (.cells #[I .u8 104,I J R.id,Y (some ⟨bl,0,O⟩) R.lives.length cl,I J R.epoch,I J R.view,I J 0,I J 0,I J 0,Z ⟨#[]⟩,I J 0,I J 0,I J 0,Y O 0 0,Y O 0 0,Y O 0 0] 68)) w1.heap.size #[I .u8 104,I J R.id,Y (some ⟨bl,0,O⟩) R.lives.length cl,I J R.epoch,I J R.view,I J 0,I J 0,I J 0,Z ⟨#[]⟩,I J 0,I J 0,I J 0,Y O 0 0,Y O 0 0,Y O 0 0]:=⟨rfl,heap_alloc_new w1 _⟩
 have hb0D:Below w.heap.size w (w1.alloc (.cells #[I .u8 104,I J R.id,Y (some ⟨bl,0,O⟩) R.lives.length cl,I J R.epoch,I J R.view,I J 0,I J 0,I J 0,Z ⟨#[]⟩,I J 0,I J 0,I J 0,Y O 0 0,Y O 0 0,Y O 0 0] 68)).drew:=hb1.trans (hbF.drew.mono hb1.size)
 have HS2:=ah (HSO.out _ hb0D);have cg7:=((hbF).cell (p:=⟨b,7,O⟩) hlb).trans cgr;obtain⟨x0,x1,x2,x3,x4,x5,x6,x7,x8,x9,x10,x11,x12,x13,x14,xf⟩:=hM.all
 clear hbF hM hb0D;generalize w1.alloc (.cells #[I .u8 104,I J R.id,Y (some ⟨bl,0,O⟩) R.lives.length cl,I J R.epoch,I J R.view,I J 0,I J 0,I J 0,Z ⟨#[]⟩,I J 0,I J 0,I J 0,Y O 0 0,Y O 0 0,Y O 0 0] 68)=w2 at *;go_region_with (go_at_call 124;refine HS2.out.mono ?_;rintro r w3 ⟨rfl,hs3⟩)
 all_goals
  have HS:=ah hs3;clear hs3;go_wp2;exact bodyPost_end (results_none rfl _ _ _) rfl ⟨rfl,HS.out⟩
theorem Bh (h:ay w b bl W F R V) (hR:Ok R) (p:Int) (hp:p≤1000) (hp0 : -1000≤p) (ho:R.out.length≤800000) :
  Calls Tryz.prog 78 #[Zp (some ⟨b,0,O⟩),I J p] w fun e w'=>e=Zr (.tuple #[])∧Snt w w' b bl W F V (R.bF p):=by
 have hg5:=hR.g.1;obtain⟨cl,hvl⟩:=h.g2
 obtain⟨aL,cL,hvL⟩:=h.g9
 obtain⟨ag,cg,hvg⟩:=h.g7
 have c9:=h.c9;rw[hvL] at c9;by_cases q1:p<1
 ·have HZ:Hid (R.bF p=R):=by unfold Hid Rp.bF;rw[if_pos (.inl q1)]
  have HS:=ah (qw.refl h);go_enter Tryz.func78,Tryz.ntmps78;go_wp2;exact bodyPost_ret (results_none rfl _ _ _) rfl ⟨rfl,W,F,V.vt,by rw[HZ.out];exact HS.out⟩
 ·by_cases q2:(R.log.length:Int)<p
  ·have HZ:Hid (R.bF p=R):=by unfold Hid Rp.bF;rw[if_pos (.inr q2)]
   have HS:=ah (qw.refl h);go_enter Tryz.func78,Tryz.ntmps78;go_wp2;exact bodyPost_ret (results_none rfl _ _ _) rfl ⟨rfl,W,F,V.vt,by rw[HZ.out];exact HS.out⟩
  ·obtain⟨k,rfl⟩:∃ k:Nat,p=(k:Int)+1:=⟨(p-1).toNat,by omega⟩
   have hk:k<R.log.length:=by omega
   have hlog:R.log.getD ((k:Int)+1-1).toNat (0,0,⟨#[]⟩)=R.log[k]:=by rw[show ((k:Int)+1-1).toNat=k by omega];simp[List.getD,hk]
   have HZ:R.bF ((k:Int)+1)=R.fI R.grp (R.eP ((k:Int)+1)):=by unfold Rp.bF;rw[if_neg (by omega)]
   have hent:R.eP ((k:Int)+1)={ R.head 112 with place:=(k:Int)+1,ent:=R.log[k],commit:=R.decided }:=by unfold Rp.eP;rw[hlog]
   have HH:=ah (lC h 112);rw[hvl] at HH;have HSO:Hid (∀ w',Below w.heap.size w w'→Calls Tryz.prog 124 #[Zp (some ⟨b,0,O⟩),Y ag R.grp.length cg,.agg #[I .u8 112,I J R.id,Y (some ⟨bl,0,O⟩) R.lives.length cl,I J R.epoch,I J R.view,I J ((k:Int)+1),I J R.log[k].1,I J R.log[k].2.1,Z R.log[k].2.2,I J (R.decided:Int),I J 0,I J 0,Y O 0 0,Y O 0 0,Y O 0 0]] w' fun e w''=>e=Zr (.tuple #[])∧Snt w w'' b bl W F V (R.bF ((k:Int)+1))):=fun w' hb=>by
    have hw:=h.below hb;have hh:mg w' (R.eP ((k:Int)+1)) V.vl (Y O 0 0) (Y O 0 0) (Y O 0 0):=⟨hw.lives.rd,gD _,gD _,qC _⟩
    have hf:=hw.frH;have hg:=hw.grp;have hgf:=hw.frS hw.sg.fr;rw[hvl] at hh hf;rw[hvg] at hg hgf;have r:=jk hw _ R.grp (R.eP ((k:Int)+1)) _ _ _ _ ((Ld hR (by omega) (by omega)).pw hR) hh hf hg hgf (by omega) (by omega)
    rw[HZ];rw[hent] at r ⊢;refine r.mono ?_;rintro e w'' ⟨rfl,hs⟩;exact⟨rfl,hs.pre hb⟩
   clear HZ hent hlog;have j1:(0:Int)≤(k:Int):=by omega
   have j2:(k:Int)<(R.log.length:Int):=by omega
   have j3:IntKind.i64.wrap ((k:Int)+1-1)=(k:Int):=by rw[show (k:Int)+1-1=k by omega];exact fC (by omega) (by omega)
   have j4:(k:Int)+1-1=k:=by omega
   go_enter Tryz.func78,Tryz.ntmps78;go_wp2_with fail;refine HH.out.mono ?_;rintro e w1 ⟨rfl,hb1⟩;have h1:=h.below hb1;have cgr:=h1.c7;have d9:=h1.c9;have d10:=h1.c10;rw[hvg] at cgr;rw[hvL] at d9;have hE:=h1.ents;rw[hvL] at hE;obtain⟨be,oe,rfl,hbe,e0,e1,e2⟩:=hE.get k hk
   have hlb:=h1.lb;have hal:=fun o=>(Below.refl w1.heap.size w1).alloc (Nat.le_refl _) o
   have m9:=fun o=>((hal o).cell (p:=⟨b,9,O⟩) hlb).trans d9
   have m10:=fun o=>((hal o).cell (p:=⟨b,10,O⟩) hlb).trans d10
   have me0:=fun o=>((hal o).cell (p:=⟨be,oe+k*3,O⟩) hbe).trans e0
   have me1:=fun o=>((hal o).cell (p:=⟨be,oe+k*3+1,O⟩) hbe).trans e1
   have me2:=fun o=>((hal o).cell (p:=⟨be,oe+k*3+2,O⟩) hbe).trans e2
   clear hal hE h1;simp only[pmC,Rp.head,pm0];go_wp2_with fail;have hbF:Below w1.heap.size w1 (w1.alloc (.cells #[I .u8 112,I J R.id,Y (some ⟨bl,0,O⟩) R.lives.length cl,I J R.epoch,I J R.view,I J ((k:Int)+1),I J R.log[k].1,I J R.log[k].2.1,Z R.log[k].2.2,I J (R.decided:Int),I J 0,I J 0,Y O 0 0,Y O 0 0,Y O 0 0] 68)):=(Below.refl _ w1).alloc (Nat.le_refl _) _
   have hM:dw (w1.alloc (.cells #[I .u8 112,I J R.id,Y (some ⟨bl,0,O⟩) R.lives.length cl,I J R.epoch,I J R.view,I J ((k:Int)+1),I J R.log[k].1,I J R.log[k].2.1,Z R.log[k].2.2,I J (R.decided:Int),I J 0,I J 0,Y O 0 0,Y O 0 0,Y O 0 0] 68)) w1.heap.size #[I .u8 112,I J R.id,Y (some ⟨bl,0,O⟩) R.lives.length cl,I J R.epoch,I J R.view,I J ((k:Int)+1),I J R.log[k].1,I J R.log[k].2.1,Z R.log[k].2.2,I J (R.decided:Int),I J 0,I J 0,Y O 0 0,Y O 0 0,Y O 0 0]:=⟨rfl,heap_alloc_new w1 _⟩
   have hb0D:Below w.heap.size w (w1.alloc (.cells #[I .u8 112,I J R.id,Y (some ⟨bl,0,O⟩) R.lives.length cl,I J R.epoch,I J R.view,I J ((k:Int)+1),I J R.log[k].1,I J R.log[k].2.1,Z R.log[k].2.2,I J (R.decided:Int),I J 0,I J 0,Y O 0 0,Y O 0 0,Y O 0 0] 68)).drew:=hb1.trans (hbF.drew.mono hb1.size)
   have HS2:=ah (HSO.out _ hb0D);have cg7:=((hbF).cell (p:=⟨b,7,O⟩) hlb).trans cgr;obtain⟨x0,x1,x2,x3,x4,x5,x6,x7,x8,x9,x10,x11,x12,x13,x14,xf⟩:=hM.all
   clear hbF hM hb0D;generalize w1.alloc (.cells #[I .u8 112,I J R.id,Y (some ⟨bl,0,O⟩) R.lives.length cl,I J R.epoch,I J R.view,I J ((k:Int)+1),I J R.log[k].1,I J R.log[k].2.1,Z R.log[k].2.2,I J (R.decided:Int),I J 0,I J 0,Y O 0 0,Y O 0 0,Y O 0 0] 68)=w2 at *;go_region_with (go_at_call 124;refine HS2.out.mono ?_;rintro r w3 ⟨rfl,hs3⟩)
   all_goals
    have HS:=ah hs3;clear hs3;go_wp2;exact bodyPost_end (results_none rfl _ _ _) rfl ⟨rfl,HS.out⟩
end
end Go.Proofs.YtbnihoahhomooaaGreatDoor
