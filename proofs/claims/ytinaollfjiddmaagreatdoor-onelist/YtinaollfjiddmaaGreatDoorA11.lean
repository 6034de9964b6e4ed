import Derived.Test.YtinaollfjiddmaaGreatDoorA09
set_option maxRecDepth 100000
set_option maxHeartbeats 8000000
set_option linter.all false
namespace Go.Proofs.YtinaollfjiddmaaGreatDoor
open Go.Value renaming int→I,slice→Y,string→Z,pointer→Zp
open Go.Ending renaming returned→Zr
open _root_.ByteArray renaming empty→Ze
open Go.IntKind renaming i64→J
open Option renaming none→O
open Go.RowKit
abbrev en0:En:=(0,0,⟨#[]⟩)
def qp (L:List En):List ByteArray:=(L.filter fA).map (fun e=>e.2.2.extract 1 e.2.2.size)
theorem Fq (L:List En):(qp L).length=regs L:=by unfold qp regs;rw[List.length_map,List.countP_eq_length_filter]
theorem OQ {L:List En} {d:Nat} (hd:d<L.length) (hr:fA L[d]=true):(qp L)[regs (L.take d)]? = some (L[d].2.2.extract 1 L[d].2.2.size):=by
 have e:L=L.take d++L[d] :: L.drop (d+1):=by rw[List.getElem_cons_drop,List.take_append_drop]
 have q:qp L=qp (L.take d)++(L[d].2.2.extract 1 L[d].2.2.size) :: qp (L.drop (d+1)):=by
  conv=>lhs;rw[e]
  unfold qp;rw[List.filter_append,List.filter_cons,if_pos hr,List.map_append,List.map_cons]
 rw[q,← Fq,List.getElem?_append_right (Nat.le_refl _),Nat.sub_self]
 rfl
structure GI (L:List En) (G:List ByteArray) (n:Int):Prop where
 ex:∃ g0,G=g0 :: qp L
 ok:∀ t∈G,bK t.data.toList n=true
theorem GI.len {L:List En} {G:List ByteArray} {n:Int} (h:GI L G n):G.length=regs L+1:=by
 obtain⟨g0,rfl⟩:=h.ex
 simp[Fq]
theorem GI.at {L:List En} {G:List ByteArray} {n:Int} (h:GI L G n) {d:Nat} (hd:d<L.length) (hr:fA L[d]=true):G.getD (regs (L.take d)+1) ⟨#[]⟩=L[d].2.2.extract 1 L[d].2.2.size:=by
 obtain⟨g0,rfl⟩:=h.ex
 rw[List.getD_eq_getElem?_getD,List.getElem?_cons_succ,OQ hd hr]
 rfl
theorem GI.grp {L:List En} {G:List ByteArray} {n:Int} (h:GI L G n) {e:Int} (h0:0≤e) (h1:e≤regs L):bK (G.getD e.toNat ⟨#[]⟩).data.toList n=true:=by
 have a:=h.len;have:e.toNat<G.length:=by omega
 rw[List.getD_eq_getElem?_getD,List.getElem?_eq_getElem this];exact h.ok _ (List.getElem_mem this)
theorem GI.ne {L:List En} {G:List ByteArray} {n:Int} (h:GI L G n) {e:Int} (h0:0≤e) (h1:e≤regs L):3≤(dN (G.getD e.toNat ⟨#[]⟩)).length:=by
 have:=jJ (h.grp h0 h1)
 rw[kF];have e:(G.getD e.toNat ⟨#[]⟩).data.toList.length=(G.getD e.toNat ⟨#[]⟩).size:=by rw[Array.length_toList];rfl
 omega
structure MI (L:List En) (T:Wt) (G:List ByteArray) (B:List Int) (P:Pm):Prop where
 q:P.kind=113→fA P.ent=false∧∃ y∈T,y.1=P.ent
 m:P.kind=109→fA P.ent=true∧(0≤P.epoch∧P.epoch≤10)∧(∃ y∈T,y.1=P.ent)∧∀ y∈T,y.1=P.ent→y.2=mTx P.ent P.epoch
 p:P.kind=112→0≤P.epoch∧P.epoch≤regs L∧(∃ y∈T,y.1=P.ent)∧(P.place≤(iG L P.epoch.toNat:Int)∨(fA P.ent=true→∀ y∈T,y.1=P.ent→y.2=mTx P.ent P.epoch))
 s:P.kind=115∨P.kind=97→Lg L T P.epoch P.log∧P.grp=dN (G.getD P.epoch.toNat ⟨#[]⟩)∧(regs (P.log.take P.commit.toNat):Int)≤P.epoch
 v:P.kind=118→Lg L T P.epoch P.log
 t:P.kind=116→P.epoch≤B.getD P.frm.toNat (-1)
def RK (k:Int):Prop:=k=112∨k=107∨k=99∨k=104∨k=103∨k=114∨k=116∨k=118∨k=115∨k=97
theorem MI.bare {L:List En} {T:Wt} {G:List ByteArray} {B:List Int} {P:Pm} (h:P.kind=104∨P.kind=103∨P.kind=114∨P.kind=107∨P.kind=99):MI L T G B P :=
 ⟨fun q=>by omega,fun q=>by omega,fun q=>by omega,fun q=>by omega,fun q=>by omega,fun q=>by omega⟩
def OI (L:List En) (T:Wt) (G:List ByteArray) (B:List Int) (n id:Int) (o:Int×ByteArray):Prop :=
 (0≤o.1∧o.1<n∧o.1≠id∧∃ P,o.2=fQ P∧dF n P∧RK P.kind∧P.frm=id∧MI L T G B P) ∨
 (∃ k,k<L.length∧o.1 = -(L.getD k en0).1∧o.2=YS++dg (L.getD k en0).1++SP++dg (L.getD k en0).2.1++SP++(doS (svF (L.take k)).vals (L.getD k en0).2.2).2) ∨
 (∃ e:En,o.1 = -e.1∧o.2=YS++dg e.1++SP++dg e.2.1++SP++⟨#[98,97,100]⟩∧fA e=true∧(∃ y∈T,y.1=e)∧(Rp.fu e n=true∨∀ y∈T,y.1=e→∃ E:Int,0≤E∧E≤10∧E<regs L∧y.2=mTx e E))
structure RI (L:List En) (T:Wt) (G:List ByteArray) (B:List Int) (R:Rp):Prop where
 jl:Jw T R.log∧∀ e∈R.log,∃ y∈T,y.1=e
 an:∀ a∈R.answers,MI L T G B a∧a.frm≠R.id
 vo:∀ v∈R.aI,v.epoch=R.epoch∧Lg L T v.epoch v.log
 me:R.status≠3→(R.mem R.id=true↔(R.status=1∨R.status=2))
 gp:R.status≠3→R.epoch≤regs L∧R.grp=dN (G.getD R.epoch.toNat ⟨#[]⟩)
 lg:R.status=1∨R.status=2∨R.status=5→Lg L T R.epoch R.log
 st:R.status=5→∀ k:Nat,R.started.getD k false=true→gW R.grp k=true∧R.epoch≤B.getD k (-1)
section
variable {w:World} {b bl:Nat} {W F:List Nat} {R:Rp} {V:Rv}
theorem dX.cells {P:Pm} {vl vg vo vL:Value} (h:dX w W F P vl vg vo vL):∃ al cl ag cg ao co aL cL,vl=Y al P.lives.length cl∧vg=Y ag P.grp.length cg∧vo=Y ao P.old.length co∧vL=Y aL P.log.length cL:=by
 obtain⟨al,cl,a,_⟩:=h.lives.shape
 obtain⟨ag,cg,b,_⟩:=h.grp.shape
 obtain⟨ao,co,c,_⟩:=h.old.shape
 obtain⟨aL,cL,d,_⟩:=h.log.shape
 exact⟨al,cl,ag,cg,ao,co,aL,cL,a,b,c,d⟩
theorem Km (h:au w b bl W F R V) (P:Pm) (vl vg vo vL:Value) (hP:dX w W F P vl vg vo vL) :
  Calls Tryz.prog 129 #[Zp (some ⟨b,0,O⟩),.agg (pmC P vl vg vo vL)] w fun e w'=>e=Zr (.tuple #[])∧au w' b bl W F (R.enter P) { V with vg:=vg,vo:=vo,vv:=Y O 0 0 }∧Kp [b] w w':=by
 obtain⟨l,m,ag,d,f,g,n,o,rfl,rfl,rfl,rfl⟩:=hP.cells
 have u:=h.lb;have v:Hid (∀ (w:World) (R:Rp) (V:Rv),au w b bl W F R V→Calls Tryz.prog 138 #[Zp (some ⟨b,0,O⟩),I J P.view] w fun e w'=>e=Zr (.tuple #[])∧au w' b bl W F (R.begin_ P.view) { V with vv:=Y O 0 0 }∧Kp [b] w w'):=fun w R V h=>xK h P.view
 have x:Hid (({ R with epoch:=P.epoch,grp:=P.grp,old:=P.old }:Rp).begin_ P.view=R.enter P):=rfl
 have c4:=h.c4;have c7:=h.c7;have c8:=h.c8;have z:=h.free 4;have A:=h.free 7;have B:=h.free 8;have p:=((h.AL P.epoch).MQ _ P.grp (hP.grp.kp (h.qI 4 (I J P.epoch)) hP.sg.fr) hP.sg);have a:=p.MR _ P.old ((hP.old.kp (h.qI 4 (I J P.epoch)) hP.so.fr).kp ((h.AL P.epoch).qI 7 _) hP.so.fr) hP.so
 have c:=(Below.refl _ (((w.setCell ⟨b,4,O⟩ (I J P.epoch)).setCell ⟨b,7,O⟩ (Y ag P.grp.length d)).setCell ⟨b,8,O⟩ (Y f P.old.length g))).alloc (Nat.le_refl _) (.cells (pqC P l m ag d f g n o) 68);have q:=a.below c;have r:Kp [b] w ((((w.setCell ⟨b,4,O⟩ (I J P.epoch)).setCell ⟨b,7,O⟩ (Y ag P.grp.length d)).setCell ⟨b,8,O⟩ (Y f P.old.length g)).alloc (.cells (pqC P l m ag d f g n o) 68)):=((((Kp.refl [b] w).set b 4 _ (.inl (by simp))).set b 7 _ (.inl (by simp))).set b 8 _ (.inl (by simp))).alloc _
 have i:=ah (v.out _ _ _ q);have j:=ah r;clear p q a r h hP c;simp only[pmC];go_enter Tryz.func129,Tryz.ntmps129;go_wp2_with fail;refine i.out.mono ?_;rintro e C ⟨rfl,s,t⟩;have y:=ah s;have k:=ah (j.out.trans' t);clear s t;go_wp2;exact bodyPost_end (results_none rfl _ _ _) rfl ⟨rfl,by rw[← x.out];exact y.out,k.out⟩
theorem jS (h:au w b bl W F R V) :
  Calls Tryz.prog 23 #[Zp (some ⟨b,0,O⟩)] w fun e w'=>e=Zr V.vt∧mU w' 0 V.vt R.out∧Kp [b] w w'∧∃ W' F',au w' b bl W' F' { R with out:=[] } { V with vt:=Y O 0 0 }∧(∀ x∈W',x∈W)∧(∀ x∈F',x∈F)∧Fr F' V.vt:=by
 have c71:=h.c71;obtain⟨a,m,j⟩:=h.g71
 have t:=h.free 71;have k1:Kp [b] w (w.setCell ⟨b,71,O⟩ (Y O 0 0)):=(Kp.refl _ _).set b 71 _ (.inl (by simp))
 have u:=ah (fF h.out k1 (Fr.iR h.out h.block (by decide)))
 have y:Hid (∃ W' F',au (w.setCell ⟨b,71,O⟩ (Y O 0 0)) b bl W' F' { R with out:=[] } { V with vt:=Y O 0 0 }∧(∀ x∈W',x∈W)∧(∀ x∈F',x∈F)∧Fr F' V.vt):=by
  obtain⟨c,z,q⟩:=lU h.lives
  refine⟨W.filter (fun x=>decide (some x≠V.vt.ownBlock)),F.filter (fun x=>decide (some x≠V.vt.ownBlock)),?_,fun x d=>(List.mem_filter.1 d).1,fun x d=>(List.mem_filter.1 d).1,fun k i f=>by simpa [i] using (List.mem_filter.1 f).2⟩
  have o:∀ x∈W.filter (fun x=>decide (some x≠V.vt.ownBlock)),x∈W:=fun x d=>(List.mem_filter.1 d).1
  have g:∀ {v:Value},Sl W F v→Sl (W.filter (fun x=>decide (some x≠V.vt.ownBlock))) (F.filter (fun x=>decide (some x≠V.vt.ownBlock))) v:=fun s=>⟨s.fr.sub o,fun k i=>List.mem_filter.2 ⟨s.inn k i,by simpa using fun f:some k=V.vt.ownBlock=>s.fr k i (h.wt k f.symm)⟩⟩
  have A:∀ {P:Pm} {n:List Value},ig w W F P n→ig w (W.filter (fun x=>decide (some x≠V.vt.ownBlock))) (F.filter (fun x=>decide (some x≠V.vt.ownBlock))) P n:=by
   rintro P n ⟨B,C,D,E,rfl,p⟩;exact⟨B,C,D,E,rfl,p.lives,p.grp,p.old,p.log,g p.sl,g p.sg,g p.so,g p.sL⟩
  have pms:∀ {v:Value} {l:List Pm},Pms w W F v l→Pms w (W.filter (fun x=>decide (some x≠V.vt.ownBlock))) (F.filter (fun x=>decide (some x≠V.vt.ownBlock))) v l:=by
   rintro v l ⟨s,G,r,c⟩;exact⟨g s,G,r,c.mono (fun _ _=>A)⟩
  have kW:Kp (W.filter (fun x=>decide (some x≠V.vt.ownBlock))) w (w.setCell ⟨b,71,O⟩ (Y O 0 0)):=k1.wid (fun x d=>by
   simp at d;subst d;exact List.mem_filter.2 ⟨h.wb,by simpa using nD h.out h.block (by decide)⟩)
  refine⟨by have q:=h.sv.sI 16 (Y O 0 0);rw[yu h.ak h.st] at q;exact q,h.ak,h.st,h.lives.kp k1 (by simp;exact fun f=>h.d1 f.symm),fF h.log k1 (Fr.iR h.log h.block (by decide)),mU.nil _ _,
   h.grp.kp kW (g h.sg).fr,h.old.kp kW (g h.so).fr,(pms h.aI).kp kW,(pms h.answers).kp kW,g h.sg,g h.so,List.mem_filter.2 ⟨h.wb,by simpa using nD h.out h.block (by decide)⟩,List.mem_filter.2 ⟨h.wl,by simpa using nD h.out q (by decide)⟩,?_,In.nil _ _ _,fun x d=>List.mem_filter.2 ⟨h.wf x (o x d),(List.mem_filter.1 d).2⟩,fun x d=>Nat.lt_of_lt_of_le (h.fl x (List.mem_filter.1 d).1) k1.size,h.tab.kp k1 (by simp;exact fun f=>h.t0 (h.wf 0 (f▸h.wb))),fun f=>h.t0 (List.mem_filter.1 f).1⟩
  intro k i;exact List.mem_filter.2 ⟨h.wL k i,by simpa using fun f:some k=V.vt.ownBlock=>Fr.vJ h.log h.out (by decide) k i (by rw[← f];simp)⟩
 have H:Hid (Zr V.vt=Zr (Y a R.out.length m)):=by unfold Hid;rw[j]
 rw[j] at c71;go_enter Tryz.func23,Tryz.ntmps23;go_wp2;go_ret;exact⟨H.out.symm,u.out,k1,y.out⟩
end
theorem Tryz.infoMsg:(Tryz.prog.info? 68).map (fun i=>(i.zero,i.size,i.bytes))=some (some (.agg #[I .u8 0,I J 0,Y O 0 0,I J 0,I J 0,I J 0,I J 0,I J 0,Z Ze,I J 0,I J 0,I J 0,Y O 0 0,Y O 0 0,Y O 0 0]),15,192):=by kernel_rfl
theorem Sl.fresh {w w':World} {v:Value} {n:Nat} {xs:List Value} {e:TypeId} {size:Nat} {b bl:Nat} {W F:List Nat} {R:Rp} {V:Rv} (h:au w b bl W F R V) (hb:Below w.heap.size w w') (ho:w'.ownsRow w.heap.size e size v n xs) :
  ∃ F',au w' b bl W F' R V∧Sl W F' v∧Mv w W F W F':=by
 rcases ho.2 with ⟨rfl,_⟩|⟨g,j,l,rfl,m,o,q⟩
 ·exact⟨F,h.below hb,Sl.nil _ _,Mv.refl _ _ _⟩
 ·have i:=h.below hb;have d:=lt_of_block o;have p:g≠0:=by have:=h.lb;omega
  refine⟨g :: F,i.more (fun x a=>List.mem_cons_of_mem _ a) (fun x a=>?_) ?_,⟨fun k c f=>?_,fun k c=>?_⟩,⟨fun x a=>.inl a,fun x a=>List.mem_cons_of_mem _ a,fun x a=>?_⟩⟩
  ·rcases List.mem_cons.1 a with rfl|a
   ·exact d
   ·exact i.fl x a
  ·simp;exact⟨fun f=>p f.symm,h.t0⟩
  ·simp[Value.ownBlock] at c;subst c;have:=h.wlt _ f;omega
  ·simp[Value.ownBlock] at c;subst c;simp
  ·rcases List.mem_cons.1 a with rfl|a
   ·exact .inr m
   ·exact .inl a
def uz (ms:List Pm) (P:Pm) (k:Nat):List Pm:=(ms.take k).map (fun x=>if x.frm==P.frm then P else x)
def uV (ms:List Pm) (P:Pm) (k:Nat):Bool:=(ms.take k).any (fun x=>x.frm==P.frm)
theorem Kh {ms:List Pm} {P:Pm} {k:Nat} (h:k<ms.length):uz ms P (k+1)=uz ms P k++[if (ms[k].frm==P.frm)=true then P else ms[k]]:=by
 unfold uz;rw[List.take_succ_eq_append_getElem h,List.map_append];rfl
theorem Jy {ms:List Pm} {P:Pm} {k:Nat} (h:k<ms.length):uV ms P (k+1)=(uV ms P k||(ms[k].frm==P.frm)):=by
 unfold uV;rw[List.take_succ_eq_append_getElem h,List.any_append];simp
theorem MC {ms:List Pm} {P:Pm} {k:Nat} (h:k≤ms.length):(uz ms P k).length=k:=by unfold uz;simp;omega
theorem JJ {ms:List Pm} {P:Pm} (h:uV ms P ms.length=false):aK ms P=uz ms P ms.length++[P]:=by
 unfold uV at h;rw[List.take_length] at h;unfold aK uz;rw[List.take_length,h];have:ms.map (fun x=>if x.frm==P.frm then P else x)=ms:=by
  conv=>rhs;rw[← List.map_id ms]
  apply List.map_congr_left
  intro x hx;rw[List.any_eq_false] at h;rw[if_neg (h x hx)];rfl
 rw[this];rfl
theorem JK {ms:List Pm} {P:Pm} (h:uV ms P ms.length=true):aK ms P=uz ms P ms.length:=by
 unfold uV at h;rw[List.take_length] at h;unfold aK uz;rw[List.take_length,h];rfl
theorem Pms.ys {w:World} {W F:List Nat} {a:Option Addr} {n cap:Nat} {l:List Pm} (h:Pms w W F (Y a n cap) l) (k:Nat) (hk:k<l.length) :
  ∃ b off al cl ag cg ao co aL cL,a=some ⟨b,off,O⟩∧dX w W F l[k] (Y al l[k].lives.length cl) (Y ag l[k].grp.length cg) (Y ao l[k].old.length co) (Y aL l[k].log.length cL) ∧
   ∀ j u,(#[I .u8 l[k].kind,I J l[k].frm,Y al l[k].lives.length cl,I J l[k].epoch,I J l[k].view,I J l[k].place,I J l[k].ent.1,I J l[k].ent.2.1,Z l[k].ent.2.2,I J l[k].commit,I J l[k].normal,I J l[k].life,Y ag l[k].grp.length cg,Y ao l[k].old.length co,Y aL l[k].log.length cL]:Array Value)[j]? = some u→w.cell? ⟨b,off+k*15+j,O⟩=some u:=by
 obtain⟨b,off,e,f,g,i,rfl,_,c,d⟩:=h.get k hk
 obtain⟨al,cl,ag,cg,ao,co,aL,cL,rfl,rfl,rfl,rfl⟩:=c.cells
 exact⟨b,off,al,cl,ag,cg,ao,co,aL,cL,rfl,c,d⟩
def mR (w w':World) (base:Nat) (W F:List Nat) (v:Value) (l:List Pm):Prop:=∃ xs,w'.ownsRow base 68 15 v l.length xs∧Rws (ig w W F) l xs
theorem mR.rep {w w':World} {base b bl:Nat} {W F:List Nat} {R:Rp} {V:Rv} {v:Value} {l:List Pm} (h:au w b bl W F R V) (hb:Below w.heap.size w w') (m:mR w w' base W F v l) (hbs:w.heap.size≤base) :
  ∃ F',au w' b bl W F' R V∧Pms w' W F' v l∧Mv w W F W F':=by
 obtain⟨d,a,e⟩:=m
 obtain⟨F',f,g,c⟩:=Sl.fresh h hb (fB a hbs)
 exact⟨F',f,⟨g,d,Rd.bX a,e.mono (fun P i q=>q.mv (Kp.of_below hb) c)⟩,c⟩
theorem uF (v:Value) (ms:List Pm) (P:Pm) (vl vg vo vL:Value) (W F:List Nat) (w:World) (hv:Pms w W F v ms) (hl:ms.length≤1000000) (hm:dX w W F P vl vg vo vL) :
  Calls Tryz.prog 78 #[v,.agg (pmC P vl vg vo vL)] w fun e w'=>∃ v',e=Zr v'∧mR w w' (w.heap.size+1) W F v' (aK ms P)∧Below w.heap.size w w':=by
 obtain⟨i0,hi,Q,R,T⟩:=info_parts Tryz.infoMsg
 obtain⟨a,a6,rfl,a7,a8⟩:=hv.shape
 obtain⟨U,V,ag,X,ao,co,aL,cL,rfl,rfl,rfl,rfl⟩:=hm.cells
 have HM:Hid (ig w W F P [I .u8 P.kind,I J P.frm,Y U P.lives.length V,I J P.epoch,I J P.view,I J P.place,I J P.ent.1,I J P.ent.2.1,Z P.ent.2.2,I J P.commit,I J P.normal,I J P.life,Y ag P.grp.length X,Y ao P.old.length co,Y aL P.log.length cL]):=⟨_,_,_,_,rfl,hm⟩
 have aq:Hid (∀ k (hk:k<ms.length),uz ms P (k+1)=uz ms P k++[if (ms[k].frm==P.frm)=true then P else ms[k]]):=fun k hk=>Kh hk
 have ar:Hid (∀ k (hk:k<ms.length),uV ms P (k+1)=(uV ms P k||(ms[k].frm==P.frm))):=fun k hk=>Jy hk
 have av:Hid (uV ms P ms.length=false→aK ms P=uz ms P ms.length++[P]):=JJ
 have aw:Hid (uV ms P ms.length=true→aK ms P=uz ms P ms.length):=JK
 have ac:Hid ((uz ms P ms.length).length=ms.length):=MC (Nat.le_refl _)
 clear hm;simp only[pmC];go_enter Tryz.func78,Tryz.ntmps78;go_wp2_with fail;go_loopw [5,6,7] (fun out fd i wr=>∃ (k:Nat) (xs:List Value),k≤ms.length∧i=I J k∧fd=.bool (!(uV ms P k))∧wr.ownsRow (w.heap.size+1) 68 15 out k xs∧Rws (ig w W F) (uz ms P k) xs ∧
   dD wr w.heap.size (pqC P U V ag X ao co aL cL)∧Below w.heap.size w wr) (fun _ _ i _=>ms.length-(intOf i).toNat)
 case atStart=>exact⟨0,[],Nat.zero_le _,rfl,rfl,World.ownsRow_nil _ _ _ _,rfl,⟨rfl,heap_alloc_new _ _⟩,(Below.refl _ _).alloc (Nat.le_refl _) _⟩
 case round =>
  obtain⟨k,xs,hk,rfl,rfl,h,ad,g,N⟩:=hrel
  have z:=ah ad;clear ad;by_cases aa:k<ms.length
  ·obtain⟨b,A,B,C,D,E,G,H,K,L,rfl,ae,af⟩:=hv.ys k aa
   have j1:(0:Int)≤(k:Int):=by omega
   have j2:(k:Int)<(ms.length:Int):=by omega
   have hS:ig w W F ms[k] [I .u8 ms[k].kind,I J ms[k].frm,Y B ms[k].lives.length C,I J ms[k].epoch,I J ms[k].view,I J ms[k].place,I J ms[k].ent.1,I J ms[k].ent.2.1,Z ms[k].ent.2.2,I J ms[k].commit,I J ms[k].normal,I J ms[k].life,Y D ms[k].grp.length E,Y G ms[k].old.length H,Y K ms[k].log.length L]:=⟨_,_,_,_,rfl,ae⟩
   have ax:=ah hS;have ai:=ah (aq.out k aa);have ak:=ah (ar.out k aa);have am:b<w.heap.size:=by
    obtain⟨a9,az,_⟩:=hv.rd
    exact az.lt b rfl
   clear hS ae;have M:∀ j u,(#[I .u8 ms[k].kind,I J ms[k].frm,Y B ms[k].lives.length C,I J ms[k].epoch,I J ms[k].view,I J ms[k].place,I J ms[k].ent.1,I J ms[k].ent.2.1,Z ms[k].ent.2.2,I J ms[k].commit,I J ms[k].normal,I J ms[k].life,Y D ms[k].grp.length E,Y G ms[k].old.length H,Y K ms[k].log.length L]:Array Value)[j]? = some u→wr.cell? ⟨b,A+k*15+j,O⟩=some u:=fun j u q=>(N.cell (p:=⟨b,A+k*15+j,O⟩) am).trans (af j u q)
   clear af;generalize uV ms P k=fk at *;generalize ms[k]=s at *;obtain⟨x0,x1,x2,x3,x4,x5,x6,x7,x8,x9,n,o,r,t,x,xf⟩:=g.all
   have y1:=M 1 _ rfl;cases hq:(s.frm==P.frm)
   focus
    go_wp2_with fail;go_quiet (fail);rename_i nq;clear x0 x1 x2 x3 x4 x5 x6 x7 x8 x9 n o r t x xf y1
   rotate_left
   focus
    go_wp2_with fail;go_quiet (fail);rename_i nq;clear x0 x1 x2 x3 x4 x5 x6 x7 x8 x9 n o r t x xf y1 M
   rotate_left
   all_goals
    have m:Below wr.heap.size wr (wr.drewN nq):=below_drewN (Below.refl _ wr) nq
    have d:dD (wr.drewN nq) w.heap.size (pqC P U V ag X ao co aL cL):=g.kp (S:=[]) (Kp.of_below m) (by simp)
    have f:=dh h m;have ab:=N.trans (m.mono N.size)
   focus
    have c:∀ j u,(#[I .u8 s.kind,I J s.frm,Y B s.lives.length C,I J s.epoch,I J s.view,I J s.place,I J s.ent.1,I J s.ent.2.1,Z s.ent.2.2,I J s.commit,I J s.normal,I J s.life,Y D s.grp.length E,Y G s.old.length H,Y K s.log.length L]:Array Value)[j]? = some u→(wr.drewN nq).cell? ⟨b,A+k*15+j,O⟩=some u:=fun j u q=>(m.cell (p:=⟨b,A+k*15+j,O⟩) (Nat.lt_of_lt_of_le am N.size)).trans (M j u q)
    clear M h N g m;generalize wr.drewN nq=wq at *;have an:=lt_of_block d.2;have ap:¬w.heap.size=wq.heap.size:=by omega
    have y0:=c 0 _ rfl;have y1:=c 1 _ rfl;have y2:=c 2 _ rfl;have y3:=c 3 _ rfl;have y4:=c 4 _ rfl;have y5:=c 5 _ rfl;have y6:=c 6 _ rfl;have y7:=c 7 _ rfl;have y8:=c 8 _ rfl;have y9:=c 9 _ rfl;have a0:=c 10 _ rfl;have a1:=c 11 _ rfl;have a2:=c 12 _ rfl;have a3:=c 13 _ rfl;have a4:=c 14 _ rfl;simp only[Nat.add_zero] at y0;clear c;go_wp2_with (at_builtin;go_loud (refine Ea rfl _ _ 60 rfl (w.heap.size+1) 68 i0 _ 15 192 Tryz.underlying60 hi Q R T rfl (by decide) wq wq.heap.size rfl _ _ _ (by rfl) f 1 [I .u8 s.kind,I J s.frm,Y B s.lives.length C,I J s.epoch,I J s.view,I J s.place,I J s.ent.1,I J s.ent.2.1,Z s.ent.2.2,I J s.commit,I J s.normal,I J s.life,Y D s.grp.length E,Y G s.old.length H,Y K s.log.length L] (by rfl) rfl ?c8 (by omega) (by decide) (by omega) ?_))
    case c8=>intro u hu;simp at hu;rcases hu with rfl|rfl|rfl|rfl|rfl|rfl|rfl|rfl|rfl|rfl|rfl|rfl|rfl|rfl|rfl <;> rfl
   rotate_left
   focus
    clear h N g m;generalize wr.drewN nq=wq at *;have an:=lt_of_block d.2;have ap:¬w.heap.size=wq.heap.size:=by omega
    obtain⟨x0,x1,x2,x3,x4,x5,x6,x7,x8,x9,n,o,r,t,x,xf⟩:=d.all
    go_wp2_with (at_builtin;go_loud (refine Ea rfl _ _ 60 rfl (w.heap.size+1) 68 i0 _ 15 192 Tryz.underlying60 hi Q R T rfl (by decide) wq wq.heap.size rfl _ _ _ (by rfl) f 1 [I .u8 P.kind,I J P.frm,Y U P.lives.length V,I J P.epoch,I J P.view,I J P.place,I J P.ent.1,I J P.ent.2.1,Z P.ent.2.2,I J P.commit,I J P.normal,I J P.life,Y ag P.grp.length X,Y ao P.old.length co,Y aL P.log.length cL] (by rfl) rfl ?c8 (by omega) (by decide) (by omega) ?_))
    case c8=>intro u hu;simp at hu;rcases hu with rfl|rfl|rfl|rfl|rfl|rfl|rfl|rfl|rfl|rfl|rfl|rfl|rfl|rfl|rfl <;> rfl
   rotate_left
   all_goals
    intro v3 w3 hown3 hg3 hb3 _;have l:Below w.heap.size w w3:=ab.trans (hb3.mono (by omega))
    have y:dD w3 w.heap.size (pqC P U V ag X ao co aL cL):=⟨rfl,(hg3.block w.heap.size (by omega) (fun hc=>by have:=(f.lt _ hc.symm).1;omega)).trans d.2⟩
   ·clear y0 y1 y2 y3 y4 y5 y6 y7 y8 y9 a0 a1 a2 a3 a4 f ab hb3 hg3 d;go_wp2;go_roundw
    case rel=>exact⟨k+1,_,by omega,by go_num,by rw[ak.out,hq];simp,hown3,by rw[ai.out,hq];exact z.out.app (Rws.one ax.out),y,l⟩
    case measure=>simp[intOf];omega
   ·clear x0 x1 x2 x3 x4 x5 x6 x7 x8 x9 n o r t x xf f ab hb3 hg3 d;go_wp2;go_roundw
    case rel=>exact⟨k+1,_,by omega,by go_num,by rw[ak.out,hq];simp,hown3,by rw[ai.out,hq];exact z.out.app (Rws.one HM.out),y,l⟩
    case measure=>simp[intOf];omega
  ·have a5:k=ms.length:=by omega
   subst a5;obtain⟨x0,x1,x2,x3,x4,x5,x6,x7,x8,x9,n,o,r,t,x,xf⟩:=g.all
   have an:=lt_of_block g.2;cases hf:uV ms P ms.length
   ·have HJ:=ah (av.out hf);go_wp2_with (at_builtin;go_loud (refine Ea rfl _ _ 60 rfl (w.heap.size+1) 68 i0 _ 15 192 Tryz.underlying60 hi Q R T rfl (by decide) wr wr.heap.size rfl _ _ _ (by rfl) h 1 [I .u8 P.kind,I J P.frm,Y U P.lives.length V,I J P.epoch,I J P.view,I J P.place,I J P.ent.1,I J P.ent.2.1,Z P.ent.2.2,I J P.commit,I J P.normal,I J P.life,Y ag P.grp.length X,Y ao P.old.length co,Y aL P.log.length cL] (by rfl) rfl ?c8 (by omega) (by decide) (by omega) ?_))
    case c8=>intro u hu;simp at hu;rcases hu with rfl|rfl|rfl|rfl|rfl|rfl|rfl|rfl|rfl|rfl|rfl|rfl|rfl|rfl|rfl <;> rfl
    intro v3 w3 hown3 hg3 hb3 _;have l:Below w.heap.size w w3:=N.trans (hb3.mono (by omega))
    go_wp2;go_ret;refine⟨v3,rfl,⟨xs++[I .u8 P.kind,I J P.frm,Y U P.lives.length V,I J P.epoch,I J P.view,I J P.place,I J P.ent.1,I J P.ent.2.1,Z P.ent.2.2,I J P.commit,I J P.normal,I J P.life,Y ag P.grp.length X,Y ao P.old.length co,Y aL P.log.length cL],?_,?_⟩,l⟩
    ·rw[HJ.out,List.length_append,ac.out];exact hown3
    ·rw[HJ.out];exact z.out.app (Rws.one HM.out)
   ·have HJ:=ah (aw.out hf);go_wp2;go_ret;refine⟨_,rfl,⟨xs,?_,?_⟩,N⟩
    ·rw[HJ.out,ac.out];exact h
    ·rw[HJ.out];exact z.out
def jg (key:Int) (v:Int) (op:ByteArray):Int :=
 if b1 op=key∧b0 op≠114 then (if b0 op=112 then bN op 2 else if b0 op=100 then 0 else if b0 op=99 then (if v=bN op 2 then bN op 3 else v) else v) else v
def jZ (l:List En) (key:Int):Int:=l.foldl (fun v e=>jg key v e.2.2) 0
structure KR (op:ByteArray):Prop where
 s2:2≤op.size
 s3:b0 op=112→3≤op.size
 s4:b0 op=99→4≤op.size
section
variable {N:Nat} {w w':World} {g:Nat} {K K':Kw} {V V':Kv}
theorem KAt.eL (h:KAt N w g K V):iw w V.vL K.list:=Rd.bX h.rL
theorem zU (h:KAt N w g K V) (n:Nat) (hn:n≤K.list.length) (key:Int) (hs:∀ e∈K.list,KR e.2.2) :
  Calls Tryz.prog 145 #[Zp (some ⟨g,0,O⟩),I J n,I .u8 key] w fun e w'=>e=Zr (I .u8 (jZ (K.list.take n) key))∧Below w.heap.size w w':=by
 have u:=h.eL;obtain⟨aP,cP,q,H,L⟩:=u.shape
 rw[q] at u;have HC:=ah (h.cv 10 rfl q);have P:Hid (∀ k,(l:k<K.list.length)→KR K.list[k].2.2):=fun k l=>hs _ (List.getElem_mem l)
 have Q:Hid (∀ k,(l:k<K.list.length)→jZ (K.list.take (k+1)) key=jg key (jZ (K.list.take k) key) K.list[k].2.2):=fun k l=>by
  rw[List.take_succ_eq_append_getElem l];unfold jZ;rw[List.foldl_append];rfl
 clear h hs;go_enter Tryz.func145,Tryz.ntmps145;go_wp2_with fail;go_loopw [7,8] (fun v i wr=>∃ k:Nat,k≤n∧i=I J k∧v=I .u8 (jZ (K.list.take k) key)∧Below w.heap.size w wr) (fun _ i _=>n-(intOf i).toNat)
 case atStart=>exact⟨0,Nat.zero_le _,rfl,rfl,Below.refl _ _⟩
 case round =>
  obtain⟨k,l,rfl,rfl,b⟩:=hrel
  have c7:=HC.out _ b;by_cases R:k<n
  ·obtain⟨S,o1,rfl,_,d1,d2,d3⟩:=(u.below b).get k (by omega)
   have j1:(0:Int)≤(k:Int):=by omega
   have j2:(k:Int)<(K.list.length:Int):=by omega
   have j3:(k:Int)<(n:Int):=by omega
   have r:=P.out k (by omega)
   have m:=ah (Q.out k (by omega))
   generalize K.list[k].2.2=a at *;generalize jZ (K.list.take k) key=v at *;have y2:=r.s2;have z0:(0:Int)<(a.size:Int):=by omega
   have z1:(1:Int)<(a.size:Int):=by omega
   have c:∀ (k:Nat) (l:k<a.size),bN a k=(a[k].toNat:Int):=fun k l=>by unfold bN;rw[atS l]
   have s:b0 a=(a[0].toNat:Int):=c 0 (by omega)
   have M:b1 a=(a[1].toNat:Int):=c 1 (by omega)
   have HX:Hid (jg key v a=if (a[1].toNat:Int)=key∧(a[0].toNat:Int)≠114 then (if (a[0].toNat:Int)=112 then bN a 2 else if (a[0].toNat:Int)=100 then 0 else if (a[0].toNat:Int)=99 then (if v=bN a 2 then bN a 3 else v) else v) else v):=by
    unfold jg;rw[s,M];trivial
   have T:Hid ((a[0].toNat:Int)=112→(2:Int)<(a.size:Int)∧∃ h:2<a.size,bN a 2=(a[2].toNat:Int)):=fun o=>by
    have:=r.s3 (s.trans o);exact⟨by omega,by omega,c 2 (by omega)⟩
   have U:Hid ((a[0].toNat:Int)=99→(2:Int)<(a.size:Int)∧(3:Int)<(a.size:Int)∧(∃ h:2<a.size,bN a 2=(a[2].toNat:Int))∧∃ h:3<a.size,bN a 3=(a[3].toNat:Int)):=fun o=>by
    have:=r.s4 (s.trans o);exact⟨by omega,by omega,⟨by omega,c 2 (by omega)⟩,by omega,c 3 (by omega)⟩
   clear s M c r;by_cases t:(a[1].toNat:Int)=key
   ·have x:((a[1].toNat:Int)==key)=true:=beq_iff_eq.2 t
    by_cases f:(a[0].toNat:Int)=114
    ·have y:((a[0].toNat:Int)==114)=true:=beq_iff_eq.2 f
     have d:Hid (jg key v a=v):=by rw[HX.out,if_neg (fun o=>o.2 f)];trivial
     clear f;go_wp2;go_roundw
     case rel=>exact⟨k+1,by omega,by go_num,by rw[m.out,d.out],b⟩
     case measure=>simp[intOf];omega
    ·have y:((a[0].toNat:Int)==114)=false:=beq_eq_false_iff_ne.2 f
     rw[if_pos ⟨t,f⟩] at HX;by_cases j:(a[0].toNat:Int)=112
     ·obtain⟨W,X,z⟩:=T.out j
      have A:((a[0].toNat:Int)==112)=true:=beq_iff_eq.2 j
      have d:Hid (jg key v a=(a[2].toNat:Int)):=by rw[HX.out,if_pos j];exact z
      clear f j z;go_wp2;go_roundw
      case rel=>exact⟨k+1,by omega,by go_num,by rw[m.out,d.out],b⟩
      case measure=>simp[intOf];omega
     ·have A:((a[0].toNat:Int)==112)=false:=beq_eq_false_iff_ne.2 j
      rw[if_neg j] at HX;by_cases g2:(a[0].toNat:Int)=100
      ·have B:((a[0].toNat:Int)==100)=true:=beq_iff_eq.2 g2
       have d:Hid (jg key v a=0):=by rw[HX.out,if_pos g2];trivial
       clear f j g2;go_wp2;go_roundw
       case rel=>exact⟨k+1,by omega,by go_num,by rw[m.out,d.out],b⟩
       case measure=>simp[intOf];omega
      ·have B:((a[0].toNat:Int)==100)=false:=beq_eq_false_iff_ne.2 g2
       rw[if_neg g2] at HX;by_cases g3:(a[0].toNat:Int)=99
       ·obtain⟨W,X,⟨z,C⟩,y7,D⟩:=U.out g3
        have E:((a[0].toNat:Int)==99)=true:=beq_iff_eq.2 g3
        rw[if_pos g3,C,D] at HX;by_cases p:v=(a[2].toNat:Int)
        ·have F:(v==(a[2].toNat:Int))=true:=beq_iff_eq.2 p
         have d:Hid (jg key v a=(a[3].toNat:Int)):=by rw[HX.out,if_pos p];trivial
         clear f j g2 g3 p C D;go_wp2;go_roundw
         case rel=>exact⟨k+1,by omega,by go_num,by rw[m.out,d.out],b⟩
         case measure=>simp[intOf];omega
        ·have F:(v==(a[2].toNat:Int))=false:=beq_eq_false_iff_ne.2 p
         have d:Hid (jg key v a=v):=by rw[HX.out,if_neg p];trivial
         clear f j g2 g3 p C D;go_wp2;go_roundw
         case rel=>exact⟨k+1,by omega,by go_num,by rw[m.out,d.out],b⟩
         case measure=>simp[intOf];omega
       ·have E:((a[0].toNat:Int)==99)=false:=beq_eq_false_iff_ne.2 g3
        have d:Hid (jg key v a=v):=by rw[HX.out,if_neg g3];trivial
        clear f j g2 g3;go_wp2;go_roundw
        case rel=>exact⟨k+1,by omega,by go_num,by rw[m.out,d.out],b⟩
        case measure=>simp[intOf];omega
   ·have x:((a[1].toNat:Int)==key)=false:=beq_eq_false_iff_ne.2 t
    have d:Hid (jg key v a=v):=by rw[HX.out,if_neg (fun o=>t o.1)];trivial
    go_wp2;go_roundw
    case rel=>exact⟨k+1,by omega,by go_num,by rw[m.out,d.out],b⟩
    case measure=>simp[intOf];omega
  ·have G:k=n:=by omega
   subst G;go_wp2;go_ret;exact⟨rfl,b⟩
end
section
variable {w:World} {b bl:Nat} {W F:List Nat} {R:Rp} {V:Rv}
theorem El (l:List En):∀ u∈aA l,u.oneCell'=true:=fun u hu=>by
 simp only[aA,List.mem_flatMap] at hu;obtain⟨e,_,hu⟩:=hu
 simp at hu;rcases hu with rfl|rfl|rfl <;> rfl
theorem Kj (h:au w b bl W F R V) (hl:R.lives.length≤1000) :
  Calls Tryz.prog 174 #[Zp (some ⟨b,0,O⟩)] w fun e w'=>∃ v,e=Zr v∧w'.ownsRow w.heap.size 3 1 v R.lives.length (R.lives.map (Value.int .i64))∧Below w.heap.size w w':=by
 obtain⟨i,j,d,f,g⟩:=info_parts Tryz.infoInt
 have k:Hid (∀ u∈R.lives.map (Value.int .i64),u.oneCell'=true):=fun u l=>by obtain⟨x,_,rfl⟩:=List.mem_map.1 l;rfl
 have m:=h.c2;obtain⟨o,n⟩:=h.g2
 have c:=h.lives.rd;rw[n] at m c;go_enter Tryz.func174,Tryz.ntmps174;go_wp2_with (at_builtin;refine La rfl _ _ 44 rfl w.heap.size 3 i (I J 0) 1 8 Tryz.underlying44 j d f g rfl (by decide) w _ _ _ (by rfl) (World.ownsRow_nil _ _ _ _) _ R.lives.length (R.lives.map (Value.int .i64)) (by rfl) c k.out (by omega) (by omega) (by decide) (Nat.le_refl _) ?_)
 intro v' w1 hown _ hb1;have a:w1.ownsRow w.heap.size 3 1 v' R.lives.length (R.lives.map (Value.int .i64)):=by simpa using hown
 obtain⟨p,q,rfl⟩:=aj a
 clear hown;go_wp2;go_ret;exact⟨_,rfl,a,hb1⟩
theorem Cu (h:au w b bl W F R V) (hl:R.grp.length≤1000) :
  Calls Tryz.prog 105 #[Zp (some ⟨b,0,O⟩)] w fun e w'=>∃ v,e=Zr v∧w'.ownsRow w.heap.size 3 1 v R.grp.length (R.grp.map (Value.int .i64))∧Below w.heap.size w w':=by
 obtain⟨i,j,d,f,g⟩:=info_parts Tryz.infoInt
 have k:Hid (∀ u∈R.grp.map (Value.int .i64),u.oneCell'=true):=fun u l=>by obtain⟨x,_,rfl⟩:=List.mem_map.1 l;rfl
 have m:=h.c7;obtain⟨ag,o,n⟩:=h.g7
 have c:=h.grp;rw[n] at m c;go_enter Tryz.func105,Tryz.ntmps105;go_wp2_with (at_builtin;refine La rfl _ _ 44 rfl w.heap.size 3 i (I J 0) 1 8 Tryz.underlying44 j d f g rfl (by decide) w _ _ _ (by rfl) (World.ownsRow_nil _ _ _ _) _ R.grp.length (R.grp.map (Value.int .i64)) (by rfl) c k.out (by omega) (by omega) (by decide) (Nat.le_refl _) ?_)
 intro v' w1 hown _ hb1;have a:w1.ownsRow w.heap.size 3 1 v' R.grp.length (R.grp.map (Value.int .i64)):=by simpa using hown
 obtain⟨p,q,rfl⟩:=aj a
 clear hown;go_wp2;go_ret;exact⟨_,rfl,a,hb1⟩
theorem OE (h:au w b bl W F R V) (hl:R.old.length≤1000) :
  Calls Tryz.prog 110 #[Zp (some ⟨b,0,O⟩)] w fun e w'=>∃ v,e=Zr v∧w'.ownsRow w.heap.size 3 1 v R.old.length (R.old.map (Value.int .i64))∧Below w.heap.size w w':=by
 obtain⟨i,j,d,f,g⟩:=info_parts Tryz.infoInt
 have k:Hid (∀ u∈R.old.map (Value.int .i64),u.oneCell'=true):=fun u l=>by obtain⟨x,_,rfl⟩:=List.mem_map.1 l;rfl
 have m:=h.c8;obtain⟨ag,o,n⟩:=h.g8
 have c:=h.old;rw[n] at m c;go_enter Tryz.func110,Tryz.ntmps110;go_wp2_with (at_builtin;refine La rfl _ _ 44 rfl w.heap.size 3 i (I J 0) 1 8 Tryz.underlying44 j d f g rfl (by decide) w _ _ _ (by rfl) (World.ownsRow_nil _ _ _ _) _ R.old.length (R.old.map (Value.int .i64)) (by rfl) c k.out (by omega) (by omega) (by decide) (Nat.le_refl _) ?_)
 intro v' w1 hown _ hb1;have a:w1.ownsRow w.heap.size 3 1 v' R.old.length (R.old.map (Value.int .i64)):=by simpa using hown
 obtain⟨p,q,rfl⟩:=aj a
 clear hown;go_wp2;go_ret;exact⟨_,rfl,a,hb1⟩
theorem vR (h:au w b bl W F R V) (hl:R.log.length≤1000) :
  Calls Tryz.prog 103 #[Zp (some ⟨b,0,O⟩)] w fun e w'=>∃ v,e=Zr v∧w'.ownsRow w.heap.size 66 3 v R.log.length (aA R.log)∧Below w.heap.size w w':=by
 obtain⟨i,j,d,f,g⟩:=info_parts Tryz.infoEnt
 have k:Hid (∀ u∈aA R.log,u.oneCell'=true):=El R.log
 have l:=h.c9;obtain⟨ag,n,m⟩:=h.g9
 have c:=h.ents;rw[m] at l c;go_enter Tryz.func103,Tryz.ntmps103;go_wp2_with (at_builtin;refine La rfl _ _ 47 rfl w.heap.size 66 i (.agg #[I J 0,I J 0,Z Ze]) 3 32 Tryz.underlying47 j d f g rfl (by decide) w _ _ _ (by rfl) (World.ownsRow_nil _ _ _ _) _ R.log.length (aA R.log) (by rfl) c k.out (by omega) (by omega) (by decide) (Nat.le_refl _) ?_)
 intro v' w1 hown _ hb1;have a:w1.ownsRow w.heap.size 66 3 v' R.log.length (aA R.log):=by simpa using hown
 obtain⟨o,p,rfl⟩:=aj a
 clear hown;go_wp2;go_ret;exact⟨_,rfl,a,hb1⟩
end
theorem vS (v:Value) (ms:List Pm) (W F:List Nat) (w:World) (hv:Pms w W F v ms) (hl:ms.length≤1000000) :
  Calls Tryz.prog 124 #[v] w fun e w'=>e=Zr (I J (cK (ms.map (·.epoch))))∧w'=w:=by
 obtain⟨a,l,rfl,_,_⟩:=hv.shape
 have m:Hid (∀ k (f:k<ms.length),cK ((ms.take (k+1)).map (·.epoch))=if cK ((ms.take k).map (·.epoch))<ms[k].epoch then ms[k].epoch else cK ((ms.take k).map (·.epoch))):=fun k f=>by
  rw[List.take_succ_eq_append_getElem f,List.map_append];exact qV _ _
 have n:Hid (cK ((ms.take ms.length).map (·.epoch))=cK (ms.map (·.epoch))):=by unfold Hid;rw[List.take_length]
 have o:Hid (cK ((ms.take 0).map (·.epoch))=0):=rfl
 go_enter Tryz.func124,Tryz.ntmps124;go_wp2_with fail;go_loop [3,4] (fun g i=>∃ k:Nat,k≤ms.length∧i=I J k∧g=I J (cK ((ms.take k).map (·.epoch)))) (fun _ i=>ms.length-(intOf i).toNat)
 case atStart=>exact⟨0,Nat.zero_le _,rfl,by rw[o.out]⟩
 case round =>
  obtain⟨k,f,rfl,rfl⟩:=hrel
  by_cases c:k<ms.length
  ·obtain⟨b,p,q,r,ag,s,t,u,x,z,rfl,_,h⟩:=hv.ys k c
   have y:=h 3 _ rfl;have A:(0:Int)≤(k:Int):=by omega
   have B:(k:Int)<(ms.length:Int):=by omega
   have d:=ah (m.out k c);clear h;generalize cK ((ms.take k).map (·.epoch))=g at *;by_cases j:g<ms[k].epoch
   ·go_wp2_with fail;go_round
    case rel=>exact⟨k+1,by omega,by go_num,by rw[d.out,if_pos j]⟩
    case measure=>simp[intOf];omega
   ·go_wp2_with fail;go_round
    case rel=>exact⟨k+1,by omega,by go_num,by rw[d.out,if_neg j]⟩
    case measure=>simp[intOf];omega
  ·obtain rfl:k=ms.length:=by omega
   rw[n.out];go_wp2;go_ret;exact⟨rfl,rfl⟩
theorem xL (v:Value) (ms:List Pm) (W F:List Nat) (w:World) (hv:Pms w W F v ms) (hl:ms.length≤1000000) :
  Calls Tryz.prog 127 #[v] w fun e w'=>e=Zr (I J (cK (ms.map (·.view))))∧w'=w:=by
 obtain⟨a,l,rfl,_,_⟩:=hv.shape
 have m:Hid (∀ k (f:k<ms.length),cK ((ms.take (k+1)).map (·.view))=if cK ((ms.take k).map (·.view))<ms[k].view then ms[k].view else cK ((ms.take k).map (·.view))):=fun k f=>by
  rw[List.take_succ_eq_append_getElem f,List.map_append];exact qV _ _
 have n:Hid (cK ((ms.take ms.length).map (·.view))=cK (ms.map (·.view))):=by unfold Hid;rw[List.take_length]
 have o:Hid (cK ((ms.take 0).map (·.view))=0):=rfl
 go_enter Tryz.func127,Tryz.ntmps127;go_wp2_with fail;go_loop [3,4] (fun g i=>∃ k:Nat,k≤ms.length∧i=I J k∧g=I J (cK ((ms.take k).map (·.view)))) (fun _ i=>ms.length-(intOf i).toNat)
 case atStart=>exact⟨0,Nat.zero_le _,rfl,by rw[o.out]⟩
 case round =>
  obtain⟨k,f,rfl,rfl⟩:=hrel
  by_cases c:k<ms.length
  ·obtain⟨b,p,q,r,ag,s,t,u,x,z,rfl,_,h⟩:=hv.ys k c
   have y:=h 4 _ rfl;have A:(0:Int)≤(k:Int):=by omega
   have B:(k:Int)<(ms.length:Int):=by omega
   have d:=ah (m.out k c);clear h;generalize cK ((ms.take k).map (·.view))=g at *;by_cases j:g<ms[k].view
   ·go_wp2_with fail;go_round
    case rel=>exact⟨k+1,by omega,by go_num,by rw[d.out,if_pos j]⟩
    case measure=>simp[intOf];omega
   ·go_wp2_with fail;go_round
    case rel=>exact⟨k+1,by omega,by go_num,by rw[d.out,if_neg j]⟩
    case measure=>simp[intOf];omega
  ·obtain rfl:k=ms.length:=by omega
   rw[n.out];go_wp2;go_ret;exact⟨rfl,rfl⟩
theorem uE (v:Value) (ms:List Pm) (W F:List Nat) (w:World) (hv:Pms w W F v ms) (hl:ms.length≤1000000) :
  Calls Tryz.prog 162 #[v] w fun e w'=>e=Zr (I J (cK (ms.map (·.commit))))∧w'=w:=by
 obtain⟨a,l,rfl,_,_⟩:=hv.shape
 have m:Hid (∀ k (f:k<ms.length),cK ((ms.take (k+1)).map (·.commit))=if cK ((ms.take k).map (·.commit))<ms[k].commit then ms[k].commit else cK ((ms.take k).map (·.commit))):=fun k f=>by
  rw[List.take_succ_eq_append_getElem f,List.map_append];exact qV _ _
 have n:Hid (cK ((ms.take ms.length).map (·.commit))=cK (ms.map (·.commit))):=by unfold Hid;rw[List.take_length]
 have o:Hid (cK ((ms.take 0).map (·.commit))=0):=rfl
 go_enter Tryz.func162,Tryz.ntmps162;go_wp2_with fail;go_loop [3,4] (fun g i=>∃ k:Nat,k≤ms.length∧i=I J k∧g=I J (cK ((ms.take k).map (·.commit)))) (fun _ i=>ms.length-(intOf i).toNat)
 case atStart=>exact⟨0,Nat.zero_le _,rfl,by rw[o.out]⟩
 case round =>
  obtain⟨k,f,rfl,rfl⟩:=hrel
  by_cases c:k<ms.length
  ·obtain⟨b,p,q,r,ag,s,t,u,x,z,rfl,_,h⟩:=hv.ys k c
   have y:=h 9 _ rfl;have A:(0:Int)≤(k:Int):=by omega
   have B:(k:Int)<(ms.length:Int):=by omega
   have d:=ah (m.out k c);clear h;generalize cK ((ms.take k).map (·.commit))=g at *;by_cases j:g<ms[k].commit
   ·go_wp2_with fail;go_round
    case rel=>exact⟨k+1,by omega,by go_num,by rw[d.out,if_pos j]⟩
    case measure=>simp[intOf];omega
   ·go_wp2_with fail;go_round
    case rel=>exact⟨k+1,by omega,by go_num,by rw[d.out,if_neg j]⟩
    case measure=>simp[intOf];omega
  ·obtain rfl:k=ms.length:=by omega
   rw[n.out];go_wp2;go_ret;exact⟨rfl,rfl⟩
def vC (ms:List Pm) (e:Int) (k:Nat):List Int:=iV (ms.take k) e
theorem Gn {ms:List Pm} {e:Int} {k:Nat} (h:k<ms.length):vC ms e (k+1)=if (ms[k].epoch==e)=true then ms[k].grp else vC ms e k:=by
 unfold vC iV;rw[List.take_succ_eq_append_getElem h,List.reverse_append];simp only[List.reverse_cons,List.reverse_nil,List.nil_append,List.singleton_append,List.find?_cons];cases q:(ms[k].epoch==e) <;> simp
theorem Fe (v:Value) (ms:List Pm) (ep:Int) (W F:List Nat) (w:World) (hv:Pms w W F v ms) (hl:ms.length≤1000000) :
  Calls Tryz.prog 125 #[v,I J ep] w fun e w'=>(∃ vg,e=Zr vg∧Ints w vg (iV ms ep)∧Sl W F vg)∧w'=w:=by
 obtain⟨a,q,rfl,_,_⟩:=hv.shape
 have r:Hid (∀ k (g:k<ms.length),vC ms ep (k+1)=if (ms[k].epoch==ep)=true then ms[k].grp else vC ms ep k):=fun k g=>Gn g
 have s:Hid (iV ms ep=vC ms ep ms.length):=by unfold Hid vC;rw[List.take_length]
 have t:Hid (vC ms ep 0=[]):=rfl
 go_enter Tryz.func125,Tryz.ntmps125;go_wp2_with fail;go_loop [5] (fun i=>∃ k:Nat,k≤ms.length∧i=I J ((k:Int)-1)∧iV ms ep=vC ms ep k) (fun i=>(intOf i+1).toNat)
 case atStart=>exact⟨ms.length,Nat.le_refl _,by go_num,s.out⟩
 case round =>
  obtain⟨k,g,rfl,c⟩:=hrel
  have h:=ah c;clear c;by_cases u:k=0
  ·subst u;have l:Hid (iV ms ep=[]):=by unfold Hid;rw[h.out,t.out]
   go_wp2;go_ret;exact⟨⟨_,rfl,by rw[l.out];exact gL _,Sl.nil _ _⟩,rfl⟩
  ·obtain⟨j,rfl⟩:∃ j,k=j+1:=⟨k-1,by omega⟩
   have d:j<ms.length:=by omega
   obtain⟨b,x,A,B,ag,o,C,D,E,G,rfl,m,n⟩:=hv.ys j d
   have H:=n 3 _ rfl;have y:=n 12 _ rfl;have K:(0:Int)≤(j:Int):=by omega
   have L:(j:Int)<(ms.length:Int):=by omega
   have z:(((j+1:Nat):Int)-1)=(j:Int):=by omega
   have f:=ah (r.out j d);have p:Hid (Ints w (Y ag ms[j].grp.length o) ms[j].grp∧Sl W F (Y ag ms[j].grp.length o)):=⟨m.grp,m.sg⟩
   clear n m;rw[z];cases hq:(ms[j].epoch==ep)
   ·go_wp2_with fail;go_round
    case rel=>exact⟨j,by omega,by go_num,by rw[h.out,f.out,hq];rfl⟩
    case measure=>simp[intOf]
   ·have l:Hid (iV ms ep=ms[j].grp):=by unfold Hid;rw[h.out,f.out,hq];rfl
    go_wp2;go_ret;exact⟨⟨_,rfl,by rw[l.out];exact p.out.1,p.out.2⟩,rfl⟩
theorem Fj (v vr:Value) (ms:List Pm) (ep:Int) (g:List Int) (W F:List Nat) (w:World) (hv:Pms w W F v ms) (hl:ms.length≤1000000) (hg:Ints w vr g) (hgl:g.length≤1000000) :
  Calls Tryz.prog 126 #[v,I J ep,vr] w fun e w'=>∃ v',e=Zr v'∧mR w w' w.heap.size W F v' (eH ms ep g)∧Below w.heap.size w w':=by
 obtain⟨i0,hi,Q,R,S⟩:=info_parts Tryz.infoMsg
 obtain⟨a,ai,rfl,ak,al⟩:=hv.shape
 obtain⟨ar,cr,rfl,_,_⟩:=hg.shape
 have HC:Hid (∀ x w',Below w.heap.size w w'→Calls Tryz.prog 38 #[Y ar g.length cr,I J x] w' fun e G=>e=Zr (.bool (gW g x))∧G=w'):=fun x w' l=>mH _ g x w' (hg.below l) hgl
 have HT:Hid (∀ k (T:k<ms.length),eH (ms.take (k+1)) ep g=eH (ms.take k) ep g++(if ((ms[k].epoch==ep)&&gW g ms[k].frm)=true then [ms[k]] else [])):=fun k T=>by
  unfold eH;rw[List.take_succ_eq_append_getElem T,List.filter_append];congr 1;simp only[List.filter_cons,List.filter_nil]
 have U:Hid (∀ k,(eH (ms.take k) ep g).length≤1000000):=fun k=>by
  have:=List.length_filter_le (fun m:Pm=>(m.epoch==ep)&&gW g m.frm) (ms.take k)
  unfold eH;rw[List.length_take] at this;omega
 have HF:Hid (eH (ms.take ms.length) ep g=eH ms ep g):=by unfold Hid;rw[List.take_length]
 go_enter Tryz.func126,Tryz.ntmps126;go_wp2_with fail;go_loopw [7,8] (fun out i wr=>∃ (k:Nat) (E:List Value),k≤ms.length∧i=I J k∧wr.ownsRow w.heap.size 68 15 out (eH (ms.take k) ep g).length E∧Rws (ig w W F) (eH (ms.take k) ep g) E∧Below w.heap.size w wr) (fun _ i _=>ms.length-(intOf i).toNat)
 case atStart=>exact⟨0,[],Nat.zero_le _,rfl,World.ownsRow_nil _ _ _ _,rfl,Below.refl _ _⟩
 case round =>
  obtain⟨k,E,T,rfl,f,H,l⟩:=hrel
  have h:=ah H;clear H;by_cases K:k<ms.length
  ·obtain⟨b,L,o,r,t,y,z,A,B,C,rfl,M,N⟩:=hv.ys k K
   have j1:(0:Int)≤(k:Int):=by omega
   have j2:(k:Int)<(ms.length:Int):=by omega
   have hS:ig w W F ms[k] [I .u8 ms[k].kind,I J ms[k].frm,Y o ms[k].lives.length r,I J ms[k].epoch,I J ms[k].view,I J ms[k].place,I J ms[k].ent.1,I J ms[k].ent.2.1,Z ms[k].ent.2.2,I J ms[k].commit,I J ms[k].normal,I J ms[k].life,Y t ms[k].grp.length y,Y z ms[k].old.length A,Y B ms[k].log.length C]:=⟨_,_,_,_,rfl,M⟩
   have V:=ah hS;have d:=ah (HT.out k K);have am:=U.out k;have X:b<w.heap.size:=by
    obtain⟨an,aa,_⟩:=hv.rd
    exact aa.lt b rfl
   clear hS M;have c:∀ j u,(#[I .u8 ms[k].kind,I J ms[k].frm,Y o ms[k].lives.length r,I J ms[k].epoch,I J ms[k].view,I J ms[k].place,I J ms[k].ent.1,I J ms[k].ent.2.1,Z ms[k].ent.2.2,I J ms[k].commit,I J ms[k].normal,I J ms[k].life,Y t ms[k].grp.length y,Y z ms[k].old.length A,Y B ms[k].log.length C]:Array Value)[j]? = some u→wr.cell? ⟨b,L+k*15+j,O⟩=some u:=fun j u q=>(l.cell (p:=⟨b,L+k*15+j,O⟩) X).trans (N j u q)
   clear N;generalize eH (ms.take k) ep g=lk at *;generalize ms[k]=s at *;have y0:=c 0 _ rfl;have y1:=c 1 _ rfl;have y2:=c 2 _ rfl;have y3:=c 3 _ rfl;have y4:=c 4 _ rfl;have y5:=c 5 _ rfl;have y6:=c 6 _ rfl;have y7:=c 7 _ rfl;have y8:=c 8 _ rfl;have y9:=c 9 _ rfl;have ab:=c 10 _ rfl;have ac:=c 11 _ rfl;have ad:=c 12 _ rfl;have ae:=c 13 _ rfl;have af:=c 14 _ rfl;simp only[Nat.add_zero] at y0;clear c;cases hq:(s.epoch==ep)
   ·rw[hq] at d;go_wp2;go_roundw
    case rel=>exact⟨k+1,E,by omega,by go_num,by rw[d.out];simpa using f,by rw[d.out];simpa using h.out,l⟩
    case measure=>simp[intOf];omega
   ·rw[hq] at d;have n:=ah (HC.out s.frm wr l);cases hm:gW g s.frm
    ·rw[hm] at d n;go_wp2_with fail;refine n.out.mono ?_;rintro e G ⟨rfl,D⟩;subst D;go_wp2;go_roundw
     case rel=>exact⟨k+1,E,by omega,by go_num,by rw[d.out];simpa using f,by rw[d.out];simpa using h.out,l⟩
     case measure=>simp[intOf];omega
    ·rw[hm] at d n;go_wp2_with fail;refine n.out.mono ?_;rintro e G ⟨rfl,D⟩;subst D;go_wp2_with (at_builtin;go_loud (refine Ea rfl _ _ 60 rfl w.heap.size 68 i0 _ 15 192 Tryz.underlying60 hi Q R S rfl (by decide) G G.heap.size rfl _ _ _ (by rfl) f 1 [I .u8 s.kind,I J s.frm,Y o s.lives.length r,I J s.epoch,I J s.view,I J s.place,I J s.ent.1,I J s.ent.2.1,Z s.ent.2.2,I J s.commit,I J s.normal,I J s.life,Y t s.grp.length y,Y z s.old.length A,Y B s.log.length C] (by rfl) rfl ?c8 (by omega) (by decide) l.size ?_))
     case c8=>intro u hu;simp at hu;rcases hu with rfl|rfl|rfl|rfl|rfl|rfl|rfl|rfl|rfl|rfl|rfl|rfl|rfl|rfl|rfl <;> rfl
     intro v3 w3 hown3 hg3 hb3 _;have P:Below w.heap.size w w3:=l.trans (hb3.mono (Nat.le_refl _))
     clear y0 y1 y2 y3 y4 y5 y6 y7 y8 y9 ab ac ad ae af f l hb3 hg3;go_wp2;go_roundw
     case rel=>exact⟨k+1,_,by omega,by go_num,by rw[d.out];simpa using hown3,by rw[d.out];exact h.out.app (Rws.one V.out),P⟩
     case measure=>simp[intOf];omega
  ·obtain rfl:k=ms.length:=by omega
   rw[HF.out] at f h;go_wp2;go_ret;exact⟨_,rfl,⟨E,f,h.out⟩,l⟩
theorem rH (v vr:Value) (ms:List Pm) (lv:List Int) (W F:List Nat) (w:World) (hv:Pms w W F v ms) (hl:ms.length≤1000000) (hg:Ints w vr lv) (hgl:lv.length≤1000000) (hfr:∀ m∈ms,0≤m.frm∧m.frm<lv.length∧m.lives.length=lv.length) :
  Calls Tryz.prog 21 #[v,vr] w fun e w'=>∃ v',e=Zr v'∧mR w w' w.heap.size W F v' (gT ms lv)∧Below w.heap.size w w':=by
 obtain⟨i0,hi,T,U,V⟩:=info_parts Tryz.infoMsg
 obtain⟨a,ap,rfl,aq,av⟩:=hv.shape
 obtain⟨ar,cr,rfl,_,_⟩:=hg.shape
 have HT:Hid (∀ k (X:k<ms.length),gT (ms.take (k+1)) lv=gT (ms.take k) lv++(if lv.getD ms[k].frm.toNat 0≤ms[k].lives.getD ms[k].frm.toNat 0 then [ms[k]] else [])):=fun k X=>by
  unfold gT;rw[List.take_succ_eq_append_getElem X,List.filter_append];congr 1;simp only[List.filter_cons,List.filter_nil,decide_eq_true_eq]
 have aa:Hid (∀ k,(gT (ms.take k) lv).length≤1000000):=fun k=>by
  have:=List.length_filter_le (fun m:Pm=>decide (lv.getD m.frm.toNat 0≤m.lives.getD m.frm.toNat 0)) (ms.take k)
  unfold gT;rw[List.length_take] at this;omega
 have HF:Hid (gT (ms.take ms.length) lv=gT ms lv):=by unfold Hid;rw[List.take_length]
 go_enter Tryz.func21,Tryz.ntmps21;go_wp2_with fail;go_loopw [5,6] (fun out i wr=>∃ (k:Nat) (M:List Value),k≤ms.length∧i=I J k∧wr.ownsRow w.heap.size 68 15 out (gT (ms.take k) lv).length M∧Rws (ig w W F) (gT (ms.take k) lv) M∧Below w.heap.size w wr) (fun _ i _=>ms.length-(intOf i).toNat)
 case atStart=>exact⟨0,[],Nat.zero_le _,rfl,World.ownsRow_nil _ _ _ _,rfl,Below.refl _ _⟩
 case round =>
  obtain⟨k,M,X,rfl,h,N,o⟩:=hrel
  have r:=ah N;clear N;by_cases P:k<ms.length
  ·obtain⟨b,n,ab,B,C,D,E,G,H,K,rfl,L,t⟩:=hv.ys k P
   have j1:(0:Int)≤(k:Int):=by omega
   have j2:(k:Int)<(ms.length:Int):=by omega
   have hS:ig w W F ms[k] [I .u8 ms[k].kind,I J ms[k].frm,Y ab ms[k].lives.length B,I J ms[k].epoch,I J ms[k].view,I J ms[k].place,I J ms[k].ent.1,I J ms[k].ent.2.1,Z ms[k].ent.2.2,I J ms[k].commit,I J ms[k].normal,I J ms[k].life,Y C ms[k].grp.length D,Y E ms[k].old.length G,Y H ms[k].log.length K]:=⟨_,_,_,_,rfl,L⟩
   have ac:=ah hS;have d:=ah (HT.out k P);have aw:=aa.out k;obtain⟨f0,f1,f2⟩:=hfr ms[k] (List.getElem_mem _)
   have x:b<w.heap.size:=by
    obtain⟨ax,ad,_⟩:=hv.rd
    exact ad.lt b rfl
   have ae:=L.lives;clear hS L;generalize gT (ms.take k) lv=lk at *;generalize ms[k]=s at *;obtain⟨l,y⟩:∃ f:Nat,s.frm=f:=⟨s.frm.toNat,by omega⟩
   have g1:l<lv.length:=by omega
   have g2:l<s.lives.length:=by omega
   obtain⟨b3,o3,rfl,Q,z3⟩:=ae.get l g2
   obtain⟨b4,o4,rfl,R,z4⟩:=hg.get l g1
   have e1:s.lives.getD s.frm.toNat 0=s.lives[l]:=by rw[y];simp[List.getD,g2]
   have e2:lv.getD s.frm.toNat 0=lv[l]:=by rw[y];simp[List.getD,g1]
   rw[e1,e2] at d;have af:=(o.cell (p:=⟨b3,o3+l,O⟩) Q).trans z3
   have ai:=(o.cell (p:=⟨b4,o4+l,O⟩) R).trans z4
   have y1:wr.cell? ⟨b,n+k*15+1,O⟩=some (I J (l:Int)):=by rw[← y];exact (o.cell (p:=⟨b,n+k*15+1,O⟩) x).trans (t 1 _ rfl)
   have y2:=(o.cell (p:=⟨b,n+k*15+2,O⟩) x).trans (t 2 _ rfl);have j3:(0:Int)≤(l:Int):=by omega
   have j4:(l:Int)<(lv.length:Int):=by omega
   have j5:(l:Int)<(s.lives.length:Int):=by omega
   clear y f2 e1 e2;by_cases hq:lv[l]≤s.lives[l]
   focus
    rw[if_pos hq] at d
   rotate_left
   focus
    rw[if_neg hq,List.append_nil] at d
   rotate_left
   all_goals
    go_wp2_with fail;go_quiet (fail);rename_i nq;have z:Below wr.heap.size wr (wr.drewN nq):=below_drewN (Below.refl _ wr) nq
    have g:=dh h z;have A:=o.trans (z.mono o.size)
   ·have c:∀ j u,(#[I .u8 s.kind,I J s.frm,Y (some ⟨b3,o3,O⟩) s.lives.length B,I J s.epoch,I J s.view,I J s.place,I J s.ent.1,I J s.ent.2.1,Z s.ent.2.2,I J s.commit,I J s.normal,I J s.life,Y C s.grp.length D,Y E s.old.length G,Y H s.log.length K]:Array Value)[j]? = some u→(wr.drewN nq).cell? ⟨b,n+k*15+j,O⟩=some u:=fun j u q=>(z.cell (p:=⟨b,n+k*15+j,O⟩) (Nat.lt_of_lt_of_le x o.size)).trans ((o.cell (p:=⟨b,n+k*15+j,O⟩) x).trans (t j u q))
    clear t h o z y1 y2 z3 z4 af ai;generalize wr.drewN nq=wq at *;have y0:=c 0 _ rfl;have y1:=c 1 _ rfl;have y2:=c 2 _ rfl;have y3:=c 3 _ rfl;have y4:=c 4 _ rfl;have y5:=c 5 _ rfl;have y6:=c 6 _ rfl;have y7:=c 7 _ rfl;have y8:=c 8 _ rfl;have y9:=c 9 _ rfl;have ak:=c 10 _ rfl;have al:=c 11 _ rfl;have am:=c 12 _ rfl;have an:=c 13 _ rfl;have ao:=c 14 _ rfl;simp only[Nat.add_zero] at y0;clear c;go_wp2_with (at_builtin;go_loud (refine Ea rfl _ _ 60 rfl w.heap.size 68 i0 _ 15 192 Tryz.underlying60 hi T U V rfl (by decide) wq wq.heap.size rfl _ _ _ (by rfl) g 1 [I .u8 s.kind,I J s.frm,Y (some ⟨b3,o3,O⟩) s.lives.length B,I J s.epoch,I J s.view,I J s.place,I J s.ent.1,I J s.ent.2.1,Z s.ent.2.2,I J s.commit,I J s.normal,I J s.life,Y C s.grp.length D,Y E s.old.length G,Y H s.log.length K] (by rfl) rfl ?c8 (by omega) (by decide) A.size ?_))
    case c8=>intro u hu;simp at hu;rcases hu with rfl|rfl|rfl|rfl|rfl|rfl|rfl|rfl|rfl|rfl|rfl|rfl|rfl|rfl|rfl <;> rfl
    intro v3 w3 hown3 hg3 hb3 _;have S:Below w.heap.size w w3:=A.trans (hb3.mono (Nat.le_refl _))
    clear y0 y1 y2 y3 y4 y5 y6 y7 y8 y9 ak al am an ao g A hb3 hg3;go_wp2;go_roundw
    case rel=>exact⟨k+1,_,by omega,by go_num,by rw[d.out];simpa using hown3,by rw[d.out];exact r.out.app (Rws.one ac.out),S⟩
    case measure=>simp[intOf];omega
   ·go_wp2;go_roundw
    case rel=>exact⟨k+1,M,by omega,by go_num,by rw[d.out];exact g,by rw[d.out];exact r.out,A⟩
    case measure=>simp[intOf];omega
  ·obtain rfl:k=ms.length:=by omega
   rw[HF.out] at h r;go_wp2;go_ret;exact⟨_,rfl,⟨M,h,r.out⟩,o⟩
end Go.Proofs.YtinaollfjiddmaaGreatDoor
