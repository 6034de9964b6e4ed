import Derived.Test.YtbnihoahhomooaaGreatDoorA06
import Derived.Test.YtbnihoahhomooaaGreatDoorA07
set_option maxRecDepth 100000
set_option maxHeartbeats 8000000
set_option linter.all false
namespace Go.Proofs.YtbnihoahhomooaaGreatDoor
open Go.Value renaming int→I,slice→Y,string→Z,pointer→Zp
open Go.Ending renaming returned→Zr
open _root_.ByteArray renaming empty→Ze
open Go.IntKind renaming i64→J
open Option renaming none→O
open Go.RowKit
theorem gD (w:World):Ints w (Y O 0 0) []:=⟨rfl,.inl ⟨rfl,rfl⟩⟩
theorem qC (w:World):gW w (Y O 0 0) []:=⟨rfl,.inl ⟨rfl,rfl⟩⟩
section
variable {w:World} {b bl:Nat} {W F:List Nat} {R:Rp} {V:Rv}
theorem Ic {n:Int} {g:List Int} (h:fE n g) (hn:n≤7):g.length≤1000∧∀ x∈g,0≤x∧x≤999999999 :=
 ⟨by have:=h.1;omega,fun x hx=>by have:=h.2 x hx;omega⟩
theorem lv_w {l:List Int} (h:∀ x∈l,0≤x∧x≤999):∀ x∈l,0≤x∧x≤999999999:=fun x hx=>by have:=h x hx;omega
structure Mk (R:Rp) (P:Pm):Prop where
 frm:P.frm=R.id
 lives:P.lives=R.lives
 ep:P.epoch=R.epoch
 vi:0≤P.view∧P.view≤999
 kd:0≤P.kind∧P.kind<128
 pl:0≤P.place∧P.place≤999
 en:tY P.ent
 co:0≤P.commit∧P.commit≤999
 no:0≤P.normal∧P.normal≤999
 li:0≤P.life∧P.life≤999
 g:fE R.n P.grp
 o:fE R.n P.old
 l:nZ R.n P.log
theorem Mk.pw {P:Pm} (h:Ok R) (k:Mk R P):PmW P:=by
 have n7:=h.n7;have hll:=h.ll;have hi:=h.i1;refine⟨by rw[k.lives];omega,(Ic k.g n7).1,(Ic k.o n7).1,by have:=k.l.1;omega,by rw[k.lives];exact lv_w h.lb,(Ic k.g n7).2,(Ic k.o n7).2,fun x hx=>(k.l.2 x hx).w,by have:=k.pl;omega,by have:=k.co;omega,by have:=k.no;omega,by have:=k.li;omega,k.en,by rw[k.frm];have:=h.i0;omega,by rw[k.ep];have:=h.ep;omega,by have:=k.vi;omega,k.kd⟩
theorem Db (h:Ok R) {k:Int} (hk:0≤k∧k<128):Mk R (R.head k) :=
 ⟨rfl,rfl,rfl,h.vi,hk,by simp[Rp.head,pm0],tu,by simp[Rp.head,pm0],by simp[Rp.head,pm0],by simp[Rp.head,pm0],fE.nil _,fE.nil _,⟨by simp[Rp.head,pm0],by simp[Rp.head,pm0]⟩⟩
theorem Et (h:Ok R):Mk R R.bf :=
 ⟨rfl,rfl,rfl,h.vi,by simp[Rp.bf,Rp.head],by simp[Rp.bf,Rp.head,pm0],tu,by have:=h.dc;have:=h.lg;simp[Rp.bf];omega,by simp[Rp.bf,Rp.head,pm0],by simp[Rp.bf,Rp.head,pm0],h.g,h.o,⟨h.lg,h.le⟩⟩
theorem O7 (h:Ok R):Mk R R.kg :=
 ⟨rfl,rfl,rfl,by simp[Rp.kg],by simp[Rp.kg,Rp.bf,Rp.head],by simp[Rp.kg,Rp.bf,Rp.head,pm0],tu,by have:=Cu R.log R.epoch;have:=h.lg;simp only[Rp.kg];omega,by simp[Rp.kg,Rp.bf,Rp.head,pm0],by simp[Rp.kg,Rp.bf,Rp.head,pm0],h.g,h.o,nZ.upto ⟨h.lg,h.le⟩ _⟩
theorem O8 (h:Ok R):Mk R R.dD :=
 ⟨rfl,rfl,rfl,h.vi,by simp[Rp.dD,Rp.head],by simp[Rp.dD,Rp.head,pm0],tu,by have:=h.dc;have:=h.lg;simp[Rp.dD];omega,h.no,by simp[Rp.dD,Rp.head,pm0],fE.nil _,fE.nil _,⟨h.lg,h.le⟩⟩
theorem Ld (h:Ok R) {p:Int} (h1:1≤p) (h2:p≤R.log.length):Mk R (R.eP p) :=
 ⟨rfl,rfl,rfl,h.vi,by simp[Rp.eP,Rp.head],by have:=h.lg;simp only[Rp.eP];omega,(h.le _ (Om (by omega))).w,by have:=h.dc;have:=h.lg;simp[Rp.eP];omega,by simp[Rp.eP,Rp.head,pm0],by simp[Rp.eP,Rp.head,pm0],fE.nil _,fE.nil _,⟨by simp[Rp.eP,Rp.head,pm0],by simp[Rp.eP,Rp.head,pm0]⟩⟩
theorem O6 (h:Ok R):Mk R { R.head 107 with place:=R.log.length } :=
 ⟨rfl,rfl,rfl,h.vi,by simp[Rp.head],by have:=h.lg;simp;omega,tu,by simp[Rp.head,pm0],by simp[Rp.head,pm0],by simp[Rp.head,pm0],fE.nil _,fE.nil _,⟨by simp[Rp.head,pm0],by simp[Rp.head,pm0]⟩⟩
theorem Jy (h:Ok R):Mk R { R.head 99 with commit:=R.decided } :=
 ⟨rfl,rfl,rfl,h.vi,by simp[Rp.head],by simp[Rp.head,pm0],tu,by have:=h.dc;have:=h.lg;simp;omega,by simp[Rp.head,pm0],by simp[Rp.head,pm0],fE.nil _,fE.nil _,⟨by simp[Rp.head,pm0],by simp[Rp.head,pm0]⟩⟩
theorem Jv (h:Ok R) {x:Int} (hx:0≤x∧x≤999):Mk R { R.bf with kind:=97,life:=x } :=
 ⟨rfl,rfl,rfl,h.vi,by simp,by simp[Rp.bf,Rp.head,pm0],tu,by have:=h.dc;have:=h.lg;simp[Rp.bf];omega,by simp[Rp.bf,Rp.head,pm0],hx,h.g,h.o,⟨h.lg,h.le⟩⟩
theorem ay.rdH (h:ay w b bl W F R V) (k:Int):mg w (R.head k) V.vl (Y O 0 0) (Y O 0 0) (Y O 0 0):=⟨h.lives.rd,gD _,gD _,qC _⟩
theorem ay.frH (h:ay w b bl W F R V):PmFr (b :: V.vt.ownBlock.toList) V.vl (Y O 0 0) (Y O 0 0) (Y O 0 0):=⟨h.frl,Fr.nil _ _ _,Fr.nil _ _ _,Fr.nil _ _ _⟩
theorem ay.rdS (h:ay w b bl W F R V):mg w R.bf V.vl V.vg V.vo V.vL:=⟨h.lives.rd,h.grp,h.old,h.ents⟩
theorem ay.frT (h:ay w b bl W F R V):PmFr (b :: V.vt.ownBlock.toList) V.vl V.vg V.vo V.vL:=⟨h.frl,h.frS h.sg.fr,h.frS h.so.fr,h.frL⟩
theorem Snt.pre {w0 w1:World} {R1:Rp} (hb:Below w0.heap.size w0 w) (h:Snt w w1 b bl W F V R1):Snt w0 w1 b bl W F V R1:=by
 obtain⟨W',F',vt,h⟩:=h;exact⟨W',F',vt,h.pre hb⟩
theorem Dp (h:ay w b bl W F R V) (hR:Ok R) (qt k:Int) (hk:0≤k∧k<128) (ho:R.out.length≤900000) :
  Calls Tryz.prog 91 #[Zp (some ⟨b,0,O⟩),I J qt,I .u8 k] w fun e w'=>e=Zr (.tuple #[])∧Snt w w' b bl W F V (R.bare qt k):=by
 obtain⟨cl,hvl⟩:=h.g2
 have HH:=ah (lC h k);rw[hvl] at HH;have HSe:Hid (∀ w',Below w.heap.size w w'→Calls Tryz.prog 88 #[Zp (some ⟨b,0,O⟩),I J qt,.agg #[I .u8 k,I J R.id,Y (some ⟨bl,0,O⟩) R.lives.length cl,I J R.epoch,I J R.view,I J 0,I J 0,I J 0,Z ⟨#[]⟩,I J 0,I J 0,I J 0,Y O 0 0,Y O 0 0,Y O 0 0]] w' fun e w''=>e=Zr (.tuple #[])∧Snt w w'' b bl W F V (R.bare qt k)):=fun w' hb=>by
  have hh:=(h.below hb).rdH k;rw[hvl] at hh;refine (mV (h.below hb) qt (R.head k) _ _ _ _ ((Db hR hk).pw hR) hh (by omega)).mono ?_
  rintro e w'' ⟨rfl,hs⟩;exact⟨rfl,hs.pre hb⟩
 go_enter Tryz.func91,Tryz.ntmps91;go_wp2_with fail;refine HH.out.mono ?_;rintro e w1 ⟨rfl,hb1⟩;simp only[pmC,Rp.head,pm0];go_wp2_with fail;refine (HSe.out _ (hb1.alloc hb1.size _)).mono ?_;rintro e w2 ⟨rfl,hs⟩;have HS:=ah hs;clear hs;go_wp2;exact bodyPost_end (results_none rfl _ _ _) rfl ⟨rfl,HS.out⟩
theorem NA (h:ay w b bl W F R V) (hR:Ok R) (qt:Int) (ho:R.out.length≤900000) :
  Calls Tryz.prog 132 #[Zp (some ⟨b,0,O⟩),I J qt] w fun e w'=>e=Zr (.tuple #[])∧Snt w w' b bl W F V (R.ack qt):=by
 obtain⟨cl,hvl⟩:=h.g2
 obtain⟨aL,cL,hvL⟩:=h.g9
 have HH:=ah (lC h 107);rw[hvl] at HH;have HSe:Hid (∀ w',Below w.heap.size w w'→Calls Tryz.prog 88 #[Zp (some ⟨b,0,O⟩),I J qt,.agg #[I .u8 107,I J R.id,Y (some ⟨bl,0,O⟩) R.lives.length cl,I J R.epoch,I J R.view,I J (R.log.length:Int),I J 0,I J 0,Z ⟨#[]⟩,I J 0,I J 0,I J 0,Y O 0 0,Y O 0 0,Y O 0 0]] w' fun e w''=>e=Zr (.tuple #[])∧Snt w w'' b bl W F V (R.ack qt)):=fun w' hb=>by
  have hh:mg w' { R.head 107 with place:=R.log.length } V.vl (Y O 0 0) (Y O 0 0) (Y O 0 0):=⟨(h.below hb).lives.rd,gD _,gD _,qC _⟩
  rw[hvl] at hh;refine (mV (h.below hb) qt { R.head 107 with place:=R.log.length } _ _ _ _ ((O6 hR).pw hR) hh (by omega)).mono ?_
  rintro e w'' ⟨rfl,hs⟩;exact⟨rfl,hs.pre hb⟩
 go_enter Tryz.func132,Tryz.ntmps132;go_wp2_with fail;refine HH.out.mono ?_;rintro e w1 ⟨rfl,hb1⟩;have c9:=(h.below hb1).c9;rw[hvL] at c9;have hlb:=(h.below hb1).lb;have m9:=fun o=>(((Below.refl w1.heap.size w1).alloc (Nat.le_refl _) o).cell (p:=⟨b,9,O⟩) hlb).trans c9
 simp only[pmC,Rp.head,pm0];go_wp2_with fail;refine (HSe.out _ (hb1.alloc hb1.size _)).mono ?_;rintro e w2 ⟨rfl,hs⟩;have HS:=ah hs;clear hs;go_wp2;exact bodyPost_end (results_none rfl _ _ _) rfl ⟨rfl,HS.out⟩
theorem rX (h:ay w b bl W F R V) :
  Calls Tryz.prog 87 #[Zp (some ⟨b,0,O⟩)] w fun e w'=>e=Zr (.agg (pmC R.bf V.vl V.vg V.vo V.vL))∧Below w.heap.size w w':=by
 obtain⟨cl,hvl⟩:=h.g2
 obtain⟨aL,cL,hvL⟩:=h.g9
 obtain⟨ag,cg,hvg⟩:=h.g7
 obtain⟨ao,co,hvo⟩:=h.g8
 have hb0:Below w.heap.size w (w.alloc (.cells #[I .u8 0,I J 0,Y O 0 0,I J 0,I J 0,I J 0,I J 0,I J 0,Z ⟨#[]⟩,I J 0,I J 0,I J 0,Y O 0 0,Y O 0 0,Y O 0 0] 68)):=(Below.refl _ w).alloc (Nat.le_refl _) _
 have hz0:dw (w.alloc (.cells #[I .u8 0,I J 0,Y O 0 0,I J 0,I J 0,I J 0,I J 0,I J 0,Z ⟨#[]⟩,I J 0,I J 0,I J 0,Y O 0 0,Y O 0 0,Y O 0 0] 68)) w.heap.size (iK 0):=⟨rfl,heap_alloc_new w _⟩
 have hA:=h.below hb0;have HH:=ah (lC hA 115);rw[hvl] at HH;go_enter Tryz.func87,Tryz.ntmps87;go_wp2_with fail;generalize w.alloc (.cells #[I .u8 0,I J 0,Y O 0 0,I J 0,I J 0,I J 0,I J 0,I J 0,Z ⟨#[]⟩,I J 0,I J 0,I J 0,Y O 0 0,Y O 0 0,Y O 0 0] 68)=wA at *;refine HH.out.mono ?_;rintro e w1 ⟨rfl,hb1⟩;have h1:=hA.below hb1;have hz1:=hz0.kp (S:=[]) (Kp.of_below hb1) (by simp)
 have c7:=h1.c7;have c8:=h1.c8;have c9:=h1.c9;have c10:=h1.c10;rw[hvg] at c7;rw[hvo] at c8;rw[hvL] at c9;have hlb:=h1.lb;have hal:=fun o=>(Below.refl w1.heap.size w1).alloc (Nat.le_refl _) o
 have m7:=fun o=>((hal o).cell (p:=⟨b,7,O⟩) hlb).trans c7
 have m8:=fun o=>((hal o).cell (p:=⟨b,8,O⟩) hlb).trans c8
 have m9:=fun o=>((hal o).cell (p:=⟨b,9,O⟩) hlb).trans c9
 have m10:=fun o=>((hal o).cell (p:=⟨b,10,O⟩) hlb).trans c10
 have hb01:Below w.heap.size w w1:=hb0.trans (hb1.mono hb0.size)
 simp only[pmC,Rp.head,pm0];have hbF:Below w1.heap.size w1 (w1.alloc (.cells #[I .u8 115,I J R.id,Y (some ⟨bl,0,O⟩) R.lives.length cl,I J R.epoch,I J R.view,I J 0,I J 0,I J 0,Z ⟨#[]⟩,I J (R.decided:Int),I J 0,I J 0,Y ag R.grp.length cg,Y ao R.old.length co,Y aL R.log.length cL] 68)):=hal _
 have hz2:=hz1.kp (S:=[]) (Kp.of_below hbF) (by simp)
 have hz3:dw (w1.alloc (.cells #[I .u8 115,I J R.id,Y (some ⟨bl,0,O⟩) R.lives.length cl,I J R.epoch,I J R.view,I J 0,I J 0,I J 0,Z ⟨#[]⟩,I J (R.decided:Int),I J 0,I J 0,Y ag R.grp.length cg,Y ao R.old.length co,Y aL R.log.length cL] 68)) w.heap.size #[I .u8 0,I J 0,Y O 0 0,I J 0,I J 0,I J 0,I J 0,I J 0,Z ⟨#[]⟩,I J 0,I J 0,I J 0,Y O 0 0,Y O 0 0,Y O 0 0]:=hz2
 have hpm:=Iq hz2 (I .u8 115) (I J R.id) (Y (some ⟨bl,0,O⟩) R.lives.length cl) (I J R.epoch) (I J R.view) (I J 0) (I J 0) (I J 0) (Z ⟨#[]⟩) (I J (R.decided:Int)) (I J 0) (I J 0) (Y ag R.grp.length cg) (Y ao R.old.length co) (Y aL R.log.length cL);have HL:=ah (qJ hpm);clear hpm;have HB:=ah (fH (Nat.le_refl w.heap.size) [I .u8 115,I J R.id,Y (some ⟨bl,0,O⟩) R.lives.length cl,I J R.epoch,I J R.view,I J 0,I J 0,I J 0,Z ⟨#[]⟩,I J (R.decided:Int),I J 0,I J 0,Y ag R.grp.length cg,Y ao R.old.length co,Y aL R.log.length cL] (w1.alloc (.cells #[I .u8 115,I J R.id,Y (some ⟨bl,0,O⟩) R.lives.length cl,I J R.epoch,I J R.view,I J 0,I J 0,I J 0,Z ⟨#[]⟩,I J (R.decided:Int),I J 0,I J 0,Y ag R.grp.length cg,Y ao R.old.length co,Y aL R.log.length cL] 68)) 0 (hb01.trans (hbF.mono hb01.size)));obtain⟨y0,y1,y2,y3,y4,y5,y6,y7,y8,y9,y10,y11,y12,y13,y14,yf⟩:=hz3.all
 have HR:Hid (Value.agg (pmC R.bf V.vl V.vg V.vo V.vL)=.agg #[I .u8 115,I J R.id,Y (some ⟨bl,0,O⟩) R.lives.length cl,I J R.epoch,I J R.view,I J 0,I J 0,I J 0,Z ⟨#[]⟩,I J (R.decided:Int),I J 0,I J 0,Y ag R.grp.length cg,Y ao R.old.length co,Y aL R.log.length cL]):=by unfold Hid;rw[hvl,hvg,hvo,hvL];rfl
 clear hz3 hz2 hbF hal hz1 hz0 h1 hA hb0 hb1 hb01;go_wp2;exact bodyPost_ret (bI rfl _ _ _ rfl HL.out) rfl ⟨by rw[HR.out],HB.out⟩
end
section
variable {w:World} {b bl:Nat} {W F:List Nat} {R:Rp} {V:Rv}
theorem Nk (h:ay w b bl W F R V):w.heap.size∉b :: V.vt.ownBlock.toList:=fun hc=>by
 rcases List.mem_cons.1 hc with hc|hc
 ·have:=h.lb;omega
 ·have:=(h.out.lt w.heap.size (by simpa using hc)).2;omega
theorem jk (h:ay w b bl W F R V) (vr:Value) (l:List Int) (P:Pm) (vl vg vo vL:Value) (hW:PmW P) (hR:mg w P vl vg vo vL) (hF:PmFr (b :: V.vt.ownBlock.toList) vl vg vo vL) (hr:Ints w vr l) (hrf:Fr (b :: V.vt.ownBlock.toList) vr) (hl:l.length≤1000) (ho:R.out.length≤900000) :
  Calls Tryz.prog 124 #[Zp (some ⟨b,0,O⟩),vr,.agg (pmC P vl vg vo vL)] w fun e w'=>e=Zr (.tuple #[])∧Snt w w' b bl W F V (R.fI l P):=by
 obtain⟨al,cl,rfl,_,_⟩:=hR.lives.shape
 obtain⟨ag,cg,rfl,_,_⟩:=hR.grp.shape
 obtain⟨ao,co,rfl,_,_⟩:=hR.old.shape
 obtain⟨aL,cL,rfl,_,_⟩:=hR.log.shape
 obtain⟨ar,cr,rfl,_,_⟩:=hr.shape
 have HSe:Hid (∀ (R:Rp) (V:Rv) (W F:List Nat) (qt:Int) (w:World),ay w b bl W F R V→mg w P (Y al P.lives.length cl) (Y ag P.grp.length cg) (Y ao P.old.length co) (Y aL P.log.length cL)→R.out.length≤1000000 →
  Calls Tryz.prog 88 #[Zp (some ⟨b,0,O⟩),I J qt,.agg (pqC P al cl ag cg ao co aL cL)] w fun e w'=>e=Zr (.tuple #[])∧Snt w w' b bl W F V (R.send qt P)) :=
  fun R V W F qt w h hR ho=>mV h qt P _ _ _ _ hW hR ho
 clear hW;have hbA:Below w.heap.size w (w.alloc (.cells (pqC P al cl ag cg ao co aL cL) 68)):=(Below.refl _ w).alloc (Nat.le_refl _) _
 have hnew:=heap_alloc_new w (.cells (pqC P al cl ag cg ao co aL cL) 68);have hA:=h.below hbA;have hRA:=hR.below hbA;have hrA:=hr.below hbA;have hnf:=Nk h;have HL:Hid (∀ k,(R.fI (l.take k) P).out.length≤1000000):=fun k=>by
  unfold Rp.fI;simp only[List.length_append,List.length_map];have:=List.length_filter_le (fun x=>x != R.id) (l.take k)
  rw[List.length_take] at this;omega
 have HS0:Hid (R.fI (l.take 0) P=R):=by unfold Hid Rp.fI;simp
 have HSl:Hid (R.fI (l.take l.length) P=R.fI l P):=by unfold Hid;rw[List.take_length]
 have HSk:Hid (∀ k (hk:k<l.length),(l[k]==R.id)=false→(R.fI (l.take k) P).send l[k] P=R.fI (l.take (k+1)) P):=fun k hk q=>by
  unfold Rp.fI Rp.send Rp.put;rw[List.take_succ_eq_append_getElem hk,List.filter_append,List.map_append];simp[bne,q]
 have HSn:Hid (∀ k (hk:k<l.length),(l[k]==R.id)=true→R.fI (l.take k) P=R.fI (l.take (k+1)) P):=fun k hk q=>by
  unfold Rp.fI;rw[List.take_succ_eq_append_getElem hk,List.filter_append,List.map_append];simp[bne,q]
 have HId:Hid (∀ k,(R.fI (l.take k) P).id=R.id):=fun k=>rfl
 clear hR hr h;simp only[pmC];go_enter Tryz.func124,Tryz.ntmps124;go_wp2_with fail;generalize w.alloc (.cells (pqC P al cl ag cg ao co aL cL) 68)=wA at *;go_loopw [6] (fun i wr=>∃ (k:Nat) (W' F':List Nat) (vt:Value),k≤l.length∧i=I J k∧qw wA wr b bl W F V (R.fI (l.take k) P) W' F' vt∧dw wr w.heap.size (pqC P al cl ag cg ao co aL cL)) (fun i _=>l.length-(intOf i).toNat)
 case atStart=>exact⟨0,W,F,V.vt,Nat.zero_le _,rfl,by rw[HS0.out];exact qw.refl hA,⟨rfl,hnew⟩⟩
 case round =>
  obtain⟨k,W',F',vt,hk,rfl,hSk,hMk⟩:=hrel
  have d0:=hSk.rp.c0;rw[HId.out k] at d0;by_cases hlt:k<l.length
  ·obtain⟨br,orr,hbr,_,cr⟩:=Ints.get (hrA.kp hSk.kp hrf) k hlt
   subst hbr;have j1:(0:Int)≤(k:Int):=by omega
   have j2:(k:Int)<(l.length:Int):=by omega
   obtain⟨x0,x1,x2,x3,x4,x5,x6,x7,x8,x9,x10,x11,x12,x13,x14,xf⟩:=hMk.all
   cases hid:(l[k]==R.id)
   ·have hne:(l[k] != R.id)=true:=by simp[bne,hid]
    have HW0:=ah (HSk.out k hlt hid);have HLk:=ah (HL.out k);generalize R.fI (l.take k) P=Rk at *;go_wp2_with fail;go_quiet (fail);have hq:Below wr.heap.size wr (wr.drewN nq).drew:=(below_drewN (Below.refl _ _) nq).drew
    have hSq:=hSk.below hq;have hMq:=hMk.kp (Kp.of_below (S:=[]) hq) (by simp)
    have hnf2:w.heap.size∉b :: vt.ownBlock.toList:=fun hc=>hnf (show w.heap.size∈b :: V.vt.ownBlock.toList from by
     rcases List.mem_cons.1 hc with hc|hc
     ·exact List.mem_cons.2 (.inl hc)
     ·rcases hSq.vb w.heap.size (by simpa using hc) with q|q
      ·exact List.mem_cons.2 (.inr (by simpa using q))
      ·have:=lt_of_block hnew;omega)
    have HW2:=ah (HSe.out Rk _ W' F' l[k] _ hSq.rp ((hRA.kp hSk.kp hF).below hq) HLk.out);go_wp2_with fail;go_region_with (go_at_call 88;refine HW2.out.mono ?_;rintro e w2 ⟨rfl,W2,F2,vt2,hS2⟩)
    all_goals
     have hS3:=hSq.trans hS2;have hM3:=hMq.kp hS2.kp hnf2;rw[HW0.out] at hS3;go_wp2;go_roundw
     case rel=>exact⟨k+1,W2,F2,vt2,by omega,by go_num,hS3,hM3⟩
     case measure=>simp[intOf];omega
   ·have hne:(l[k] != R.id)=false:=by simp[bne,hid]
    have HW0:=ah (HSn.out k hlt hid);go_wp2_with fail;go_quiet (fail);have hq:Below wr.heap.size wr (wr.drewN nq):=below_drewN (Below.refl _ _) nq
    have hSq:=hSk.below hq;have hMq:=hMk.kp (Kp.of_below (S:=[]) hq) (by simp)
    rw[HW0.out] at hSq;go_wp2;go_roundw
    case rel=>exact⟨k+1,W',F',vt,by omega,by go_num,hSq,hMq⟩
    case measure=>simp[intOf];omega
  ·obtain rfl:k=l.length:=by omega
   rw[HSl.out] at hSk;have HH:=ah (hSk.pre hbA);go_wp2;exact bodyPost_end (results_none rfl _ _ _) rfl ⟨rfl,W',F',vt,HH.out⟩
end
end Go.Proofs.YtbnihoahhomooaaGreatDoor
