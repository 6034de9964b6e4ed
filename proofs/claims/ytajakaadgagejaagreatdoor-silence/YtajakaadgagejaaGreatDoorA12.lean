import Derived.Test.YtajakaadgagejaaGreatDoorA09
set_option maxRecDepth 100000
set_option maxHeartbeats 8000000
set_option linter.unusedVariables false
set_option linter.unusedSimpArgs false
set_option linter.unusedSectionVars false
namespace Go.Proofs.YtajakaadgagejaaGreatDoor
open Go.Value renaming int→I,slice→Y,string→Z,pointer→Zp
open Go.Ending renaming returned→Zr
open _root_.ByteArray renaming empty→Ze
open Go.IntKind renaming i64→J
open Option renaming none→O
open Go.RowKit
theorem Tryz.infoMsg:(Tryz.prog.info? 68).map (fun i=>(i.zero,i.size,i.bytes))=some (some (.agg #[I .u8 0,I J 0,Y O 0 0,I J 0,I J 0,I J 0,I J 0,I J 0,Z Ze,I J 0,I J 0,I J 0,Y O 0 0,Y O 0 0,Y O 0 0]),15,192):=by kernel_rfl
theorem Sl.fresh {w w':World} {v:Value} {n:Nat} {xs:List Value} {e:TypeId} {size:Nat} {b bl:Nat} {W F:List Nat} {R:Rp} {V:Rv} (h:ay w b bl W F R V) (hb:Below w.heap.size w w') (ho:w'.ownsRow w.heap.size e size v n xs) :
  ∃ F',ay w' b bl W F' R V∧Sl W F' v∧Mv w W F W F':=by
 rcases ho.2 with ⟨rfl,_⟩|⟨g,cap,cur,rfl,q1,q2,q3⟩
 ·exact⟨F,h.below hb,Sl.nil _ _,Mv.refl _ _ _⟩
 ·have h1:=h.below hb;have hlt:=lt_of_block q2;have h0:g≠0:=by have:=h.lb;omega
  refine⟨g :: F,h1.more (fun x hx=>List.mem_cons_of_mem _ hx) (fun x hx=>?_) ?_,⟨fun k hk hc=>?_,fun k hk=>?_⟩,⟨fun x hx=>.inl hx,fun x hx=>List.mem_cons_of_mem _ hx,fun x hx=>?_⟩⟩
  ·rcases List.mem_cons.1 hx with rfl|hx
   ·exact hlt
   ·exact h1.fl x hx
  ·simp;exact⟨fun hc=>h0 hc.symm,h.t0⟩
  ·simp[Value.ownBlock] at hk;subst hk;have:=h.wlt _ hc;omega
  ·simp[Value.ownBlock] at hk;subst hk;simp
  ·rcases List.mem_cons.1 hx with rfl|hx
   ·exact .inr q1
   ·exact .inl hx
def rQ (ms:List Pm) (P:Pm) (k:Nat):List Pm:=(ms.take k).map (fun x=>if x.frm==P.frm then P else x)
def sw (ms:List Pm) (P:Pm) (k:Nat):Bool:=(ms.take k).any (fun x=>x.frm==P.frm)
theorem GH {ms:List Pm} {P:Pm} {k:Nat} (h:k<ms.length):rQ ms P (k+1)=rQ ms P k++[if (ms[k].frm==P.frm)=true then P else ms[k]]:=by
 unfold rQ;rw[List.take_succ_eq_append_getElem h,List.map_append];rfl
theorem FD {ms:List Pm} {P:Pm} {k:Nat} (h:k<ms.length):sw ms P (k+1)=(sw ms P k||(ms[k].frm==P.frm)):=by
 unfold sw;rw[List.take_succ_eq_append_getElem h,List.any_append];simp
theorem IX {ms:List Pm} {P:Pm} {k:Nat} (h:k≤ms.length):(rQ ms P k).length=k:=by unfold rQ;simp;omega
theorem FW {ms:List Pm} {P:Pm} (h:sw ms P ms.length=false):bf ms P=rQ ms P ms.length++[P]:=by
 unfold sw at h;rw[List.take_length] at h;unfold bf rQ;rw[List.take_length,h];have:ms.map (fun x=>if x.frm==P.frm then P else x)=ms:=by
  conv=>rhs;rw[← List.map_id ms]
  apply List.map_congr_left
  intro x hx;rw[List.any_eq_false] at h;rw[if_neg (h x hx)];rfl
 rw[this];rfl
theorem F7 {ms:List Pm} {P:Pm} (h:sw ms P ms.length=true):bf ms P=rQ ms P ms.length:=by
 unfold sw at h;rw[List.take_length] at h;unfold bf rQ;rw[List.take_length,h];rfl
theorem Pms.ys {w:World} {W F:List Nat} {a:Option Addr} {n cap:Nat} {l:List Pm} (h:Pms w W F (Y a n cap) l) (k:Nat) (hk:k<l.length) :
  ∃ b off al cl ag cg ao co aL cL,a=some ⟨b,off,O⟩∧dF w W F l[k] (Y al l[k].lives.length cl) (Y ag l[k].grp.length cg) (Y ao l[k].old.length co) (Y aL l[k].log.length cL) ∧
   ∀ j u,(#[I .u8 l[k].kind,I J l[k].frm,Y al l[k].lives.length cl,I J l[k].epoch,I J l[k].view,I J l[k].place,I J l[k].ent.1,I J l[k].ent.2.1,Z l[k].ent.2.2,I J l[k].commit,I J l[k].normal,I J l[k].life,Y ag l[k].grp.length cg,Y ao l[k].old.length co,Y aL l[k].log.length cL]:Array Value)[j]? = some u→w.cell? ⟨b,off+k*15+j,O⟩=some u:=by
 obtain⟨b,off,vl,vg,vo,vL,rfl,_,hp,hc⟩:=h.get k hk
 obtain⟨al,cl,ag,cg,ao,co,aL,cL,rfl,rfl,rfl,rfl⟩:=hp.cells
 exact⟨b,off,al,cl,ag,cg,ao,co,aL,cL,rfl,hp,hc⟩
def kY (w w':World) (base:Nat) (W F:List Nat) (v:Value) (l:List Pm):Prop:=∃ xs,w'.ownsRow base 68 15 v l.length xs∧Rws (gF w W F) l xs
theorem kY.rep {w w':World} {base b bl:Nat} {W F:List Nat} {R:Rp} {V:Rv} {v:Value} {l:List Pm} (h:ay w b bl W F R V) (hb:Below w.heap.size w w') (m:kY w w' base W F v l) (hbs:w.heap.size≤base) :
  ∃ F',ay w' b bl W F' R V∧Pms w' W F' v l∧Mv w W F W F':=by
 obtain⟨xs,ho,hr⟩:=m
 obtain⟨F',h1,h2,h3⟩:=Sl.fresh h hb (dO ho hbs)
 exact⟨F',h1,⟨h2,xs,Rd.bK ho,hr.mono (fun P cs q=>q.mv (Kp.of_below hb) h3)⟩,h3⟩
theorem rU (v:Value) (ms:List Pm) (P:Pm) (vl vg vo vL:Value) (W F:List Nat) (w:World) (hv:Pms w W F v ms) (hl:ms.length≤1000000) (hm:dF w W F P vl vg vo vL) :
  Calls Tryz.prog 79 #[v,.agg (pmC P vl vg vo vL)] w fun e w'=>∃ v',e=Zr v'∧kY w w' (w.heap.size+1) W F v' (bf ms P)∧Below w.heap.size w w':=by
 obtain⟨i0,hi,hz0,hz1,hz2⟩:=info_parts Tryz.infoMsg
 obtain⟨a,cap,rfl,hn1,hmx⟩:=hv.shape
 obtain⟨al,cl,ag,cg,ao,co,aL,cL,rfl,rfl,rfl,rfl⟩:=hm.cells
 have HM:Hid (gF w W F P [I .u8 P.kind,I J P.frm,Y al P.lives.length cl,I J P.epoch,I J P.view,I J P.place,I J P.ent.1,I J P.ent.2.1,Z P.ent.2.2,I J P.commit,I J P.normal,I J P.life,Y ag P.grp.length cg,Y ao P.old.length co,Y aL P.log.length cL]):=⟨_,_,_,_,rfl,hm⟩
 have HPs:Hid (∀ k (hk:k<ms.length),rQ ms P (k+1)=rQ ms P k++[if (ms[k].frm==P.frm)=true then P else ms[k]]):=fun k hk=>GH hk
 have HFs:Hid (∀ k (hk:k<ms.length),sw ms P (k+1)=(sw ms P k||(ms[k].frm==P.frm))):=fun k hk=>FD hk
 have HJf:Hid (sw ms P ms.length=false→bf ms P=rQ ms P ms.length++[P]):=FW
 have HJt:Hid (sw ms P ms.length=true→bf ms P=rQ ms P ms.length):=F7
 have HLn:Hid ((rQ ms P ms.length).length=ms.length):=IX (Nat.le_refl _)
 clear hm;simp only[pmC];go_enter Tryz.func79,Tryz.ntmps79;go_wp2_with fail;go_loopw [5,6,7] (fun out fd i wr=>∃ (k:Nat) (xs:List Value),k≤ms.length∧i=I J k∧fd=.bool (!(sw ms P k))∧wr.ownsRow (w.heap.size+1) 68 15 out k xs∧Rws (gF w W F) (rQ ms P k) xs ∧
   bB wr w.heap.size (pqC P al cl ag cg ao co aL cL)∧Below w.heap.size w wr) (fun _ _ i _=>ms.length-(intOf i).toNat)
 case atStart=>exact⟨0,[],Nat.zero_le _,rfl,rfl,World.ownsRow_nil _ _ _ _,rfl,⟨rfl,heap_alloc_new _ _⟩,(Below.refl _ _).alloc (Nat.le_refl _) _⟩
 case round =>
  obtain⟨k,xs,hk,rfl,rfl,hown,hxs,hbox,hb⟩:=hrel
  have HXS:=ah hxs;clear hxs;by_cases hlt:k<ms.length
  ·obtain⟨b,off,al2,cl2,ag2,cg2,ao2,co2,aL2,cL2,rfl,hp2,hc2⟩:=hv.ys k hlt
   have j1:(0:Int)≤(k:Int):=by omega
   have j2:(k:Int)<(ms.length:Int):=by omega
   have hS:gF w W F ms[k] [I .u8 ms[k].kind,I J ms[k].frm,Y al2 ms[k].lives.length cl2,I J ms[k].epoch,I J ms[k].view,I J ms[k].place,I J ms[k].ent.1,I J ms[k].ent.2.1,Z ms[k].ent.2.2,I J ms[k].commit,I J ms[k].normal,I J ms[k].life,Y ag2 ms[k].grp.length cg2,Y ao2 ms[k].old.length co2,Y aL2 ms[k].log.length cL2]:=⟨_,_,_,_,rfl,hp2⟩
   have HSc:=ah hS;have HPk:=ah (HPs.out k hlt);have HFk:=ah (HFs.out k hlt);have hbb:b<w.heap.size:=by
    obtain⟨xs',hrd,_⟩:=hv.rd
    exact hrd.lt b rfl
   clear hS hp2;have hc3:∀ j u,(#[I .u8 ms[k].kind,I J ms[k].frm,Y al2 ms[k].lives.length cl2,I J ms[k].epoch,I J ms[k].view,I J ms[k].place,I J ms[k].ent.1,I J ms[k].ent.2.1,Z ms[k].ent.2.2,I J ms[k].commit,I J ms[k].normal,I J ms[k].life,Y ag2 ms[k].grp.length cg2,Y ao2 ms[k].old.length co2,Y aL2 ms[k].log.length cL2]:Array Value)[j]? = some u→wr.cell? ⟨b,off+k*15+j,O⟩=some u:=fun j u q=>(hb.cell (p:=⟨b,off+k*15+j,O⟩) hbb).trans (hc2 j u q)
   clear hc2;generalize sw ms P k=fk at *;generalize ms[k]=s at *;obtain⟨x0,x1,x2,x3,x4,x5,x6,x7,x8,x9,x10,x11,x12,x13,x14,xf⟩:=hbox.all
   have y1:=hc3 1 _ rfl;cases hq:(s.frm==P.frm)
   ·go_wp2_with fail;go_quiet (fail);rename_i nq;clear x0 x1 x2 x3 x4 x5 x6 x7 x8 x9 x10 x11 x12 x13 x14 xf y1;have hbq:Below wr.heap.size wr (wr.drewN nq):=below_drewN (Below.refl _ wr) nq
    have hbox2:bB (wr.drewN nq) w.heap.size (pqC P al cl ag cg ao co aL cL):=hbox.kp (S:=[]) (Kp.of_below hbq) (by simp)
    have hown2:=bH hown hbq;have hb2:=hb.trans (hbq.mono hb.size);have hc4:∀ j u,(#[I .u8 s.kind,I J s.frm,Y al2 s.lives.length cl2,I J s.epoch,I J s.view,I J s.place,I J s.ent.1,I J s.ent.2.1,Z s.ent.2.2,I J s.commit,I J s.normal,I J s.life,Y ag2 s.grp.length cg2,Y ao2 s.old.length co2,Y aL2 s.log.length cL2]:Array Value)[j]? = some u→(wr.drewN nq).cell? ⟨b,off+k*15+j,O⟩=some u:=fun j u q=>(hbq.cell (p:=⟨b,off+k*15+j,O⟩) (Nat.lt_of_lt_of_le hbb hb.size)).trans (hc3 j u q)
    clear hc3 hown hb hbox hbq;generalize wr.drewN nq=wq at *;have hbz:=lt_of_block hbox2.2;have hbne:¬w.heap.size=wq.heap.size:=by omega
    have y0:=hc4 0 _ rfl;have y1:=hc4 1 _ rfl;have y2:=hc4 2 _ rfl;have y3:=hc4 3 _ rfl;have y4:=hc4 4 _ rfl;have y5:=hc4 5 _ rfl;have y6:=hc4 6 _ rfl;have y7:=hc4 7 _ rfl;have y8:=hc4 8 _ rfl;have y9:=hc4 9 _ rfl;have y10:=hc4 10 _ rfl;have y11:=hc4 11 _ rfl;have y12:=hc4 12 _ rfl;have y13:=hc4 13 _ rfl;have y14:=hc4 14 _ rfl;simp only[Nat.add_zero] at y0;clear hc4;go_wp2_with (at_builtin;go_loud (refine BN rfl _ _ 60 rfl (w.heap.size+1) 68 i0 _ 15 192 Tryz.underlying60 hi hz0 hz1 hz2 rfl (by decide) wq wq.heap.size rfl _ _ _ (by rfl) hown2 1 [I .u8 s.kind,I J s.frm,Y al2 s.lives.length cl2,I J s.epoch,I J s.view,I J s.place,I J s.ent.1,I J s.ent.2.1,Z s.ent.2.2,I J s.commit,I J s.normal,I J s.life,Y ag2 s.grp.length cg2,Y ao2 s.old.length co2,Y aL2 s.log.length cL2] (by rfl) rfl ?c8 (by omega) (by decide) (by omega) ?_))
    case c8=>intro u hu;simp at hu;rcases hu with rfl|rfl|rfl|rfl|rfl|rfl|rfl|rfl|rfl|rfl|rfl|rfl|rfl|rfl|rfl <;> rfl
    intro v3 w3 hown3 hg3 hb3 _;have hb03:Below w.heap.size w w3:=hb2.trans (hb3.mono (by omega))
    have hbox3:bB w3 w.heap.size (pqC P al cl ag cg ao co aL cL):=⟨rfl,(hg3.block w.heap.size (by omega) (fun hc=>by have:=(hown2.lt _ hc.symm).1;omega)).trans hbox2.2⟩
    clear y0 y1 y2 y3 y4 y5 y6 y7 y8 y9 y10 y11 y12 y13 y14 hown2 hb2 hb3 hg3 hbox2;go_wp2_with fail;go_roundw
    case rel=>exact⟨k+1,_,by omega,by go_num,by rw[HFk.out,hq];simp,hown3,by rw[HPk.out,hq];exact HXS.out.app (Rws.one HSc.out),hbox3,hb03⟩
    case measure=>simp[intOf];omega
   ·go_wp2_with fail;go_quiet (fail);rename_i nq;clear x0 x1 x2 x3 x4 x5 x6 x7 x8 x9 x10 x11 x12 x13 x14 xf y1 hc3;have hbq:Below wr.heap.size wr (wr.drewN nq):=below_drewN (Below.refl _ wr) nq
    have hbox2:bB (wr.drewN nq) w.heap.size (pqC P al cl ag cg ao co aL cL):=hbox.kp (S:=[]) (Kp.of_below hbq) (by simp)
    have hown2:=bH hown hbq;have hb2:=hb.trans (hbq.mono hb.size);clear hown hb hbox hbq;generalize wr.drewN nq=wq at *;have hbz:=lt_of_block hbox2.2;have hbne:¬w.heap.size=wq.heap.size:=by omega
    obtain⟨x0,x1,x2,x3,x4,x5,x6,x7,x8,x9,x10,x11,x12,x13,x14,xf⟩:=hbox2.all
    go_wp2_with (at_builtin;go_loud (refine BN rfl _ _ 60 rfl (w.heap.size+1) 68 i0 _ 15 192 Tryz.underlying60 hi hz0 hz1 hz2 rfl (by decide) wq wq.heap.size rfl _ _ _ (by rfl) hown2 1 [I .u8 P.kind,I J P.frm,Y al P.lives.length cl,I J P.epoch,I J P.view,I J P.place,I J P.ent.1,I J P.ent.2.1,Z P.ent.2.2,I J P.commit,I J P.normal,I J P.life,Y ag P.grp.length cg,Y ao P.old.length co,Y aL P.log.length cL] (by rfl) rfl ?c8 (by omega) (by decide) (by omega) ?_))
    case c8=>intro u hu;simp at hu;rcases hu with rfl|rfl|rfl|rfl|rfl|rfl|rfl|rfl|rfl|rfl|rfl|rfl|rfl|rfl|rfl <;> rfl
    intro v3 w3 hown3 hg3 hb3 _;have hb03:Below w.heap.size w w3:=hb2.trans (hb3.mono (by omega))
    have hbox3:bB w3 w.heap.size (pqC P al cl ag cg ao co aL cL):=⟨rfl,(hg3.block w.heap.size (by omega) (fun hc=>by have:=(hown2.lt _ hc.symm).1;omega)).trans hbox2.2⟩
    clear x0 x1 x2 x3 x4 x5 x6 x7 x8 x9 x10 x11 x12 x13 x14 xf hown2 hb2 hb3 hg3 hbox2;go_wp2_with fail;go_roundw
    case rel=>exact⟨k+1,_,by omega,by go_num,by rw[HFk.out,hq];simp,hown3,by rw[HPk.out,hq];exact HXS.out.app (Rws.one HM.out),hbox3,hb03⟩
    case measure=>simp[intOf];omega
  ·have hke:k=ms.length:=by omega
   subst hke;obtain⟨x0,x1,x2,x3,x4,x5,x6,x7,x8,x9,x10,x11,x12,x13,x14,xf⟩:=hbox.all
   have hbz:=lt_of_block hbox.2;cases hf:sw ms P ms.length
   ·have HJ:=ah (HJf.out hf);go_wp2_with (at_builtin;go_loud (refine BN rfl _ _ 60 rfl (w.heap.size+1) 68 i0 _ 15 192 Tryz.underlying60 hi hz0 hz1 hz2 rfl (by decide) wr wr.heap.size rfl _ _ _ (by rfl) hown 1 [I .u8 P.kind,I J P.frm,Y al P.lives.length cl,I J P.epoch,I J P.view,I J P.place,I J P.ent.1,I J P.ent.2.1,Z P.ent.2.2,I J P.commit,I J P.normal,I J P.life,Y ag P.grp.length cg,Y ao P.old.length co,Y aL P.log.length cL] (by rfl) rfl ?c8 (by omega) (by decide) (by omega) ?_))
    case c8=>intro u hu;simp at hu;rcases hu with rfl|rfl|rfl|rfl|rfl|rfl|rfl|rfl|rfl|rfl|rfl|rfl|rfl|rfl|rfl <;> rfl
    intro v3 w3 hown3 hg3 hb3 _;have hb03:Below w.heap.size w w3:=hb.trans (hb3.mono (by omega))
    go_wp2_with fail;go_ret;refine⟨v3,rfl,⟨xs++[I .u8 P.kind,I J P.frm,Y al P.lives.length cl,I J P.epoch,I J P.view,I J P.place,I J P.ent.1,I J P.ent.2.1,Z P.ent.2.2,I J P.commit,I J P.normal,I J P.life,Y ag P.grp.length cg,Y ao P.old.length co,Y aL P.log.length cL],?_,?_⟩,hb03⟩
    ·rw[HJ.out,List.length_append,HLn.out];exact hown3
    ·rw[HJ.out];exact HXS.out.app (Rws.one HM.out)
   ·have HJ:=ah (HJt.out hf);go_wp2_with fail;go_ret;refine⟨_,rfl,⟨xs,?_,?_⟩,hb⟩
    ·rw[HJ.out,HLn.out];exact hown
    ·rw[HJ.out];exact HXS.out
end Go.Proofs.YtajakaadgagejaaGreatDoor
