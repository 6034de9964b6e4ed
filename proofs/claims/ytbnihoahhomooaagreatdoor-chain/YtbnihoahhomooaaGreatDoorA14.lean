import Derived.Test.YtbnihoahhomooaaGreatDoorA11
set_option maxRecDepth 100000
set_option maxHeartbeats 8000000
set_option linter.all false
namespace Go.Proofs.YtbnihoahhomooaaGreatDoor
open Go.Value renaming int→I,slice→Y,string→Z,pointer→Zp
open Go.Ending renaming returned→Zr
open _root_.ByteArray renaming empty→Ze
open Go.IntKind renaming i64→J
open Option renaming none→O
open Go.RowKit
theorem Dn (w0 w:World) (W F:List Nat) (P s:Pm) (vl vg vo vL vl2 vg2 vo2 vL2:Value) (h1:dM w0 W F P vl vg vo vL) (h2:dM w0 W F s vl2 vg2 vo2 vL2) :
  Calls Tryz.prog 173 #[.agg (pmC P vl vg vo vL),.agg (pmC s vl2 vg2 vo2 vL2)] w fun e w'=>e=Zr (.bool (kE P s))∧Below w.heap.size w w':=by
 obtain⟨al,cl,ag,cg,ao,co,aL,cL,rfl,rfl,rfl,rfl⟩:=h1.cells
 obtain⟨al2,cl2,ag2,cg2,ao2,co2,aL2,cL2,rfl,rfl,rfl,rfl⟩:=h2.cells
 have hb:∀ o o2,Below w.heap.size w ((w.alloc o).alloc o2):=fun o o2=>((Below.refl _ w).alloc (Nat.le_refl _) o).alloc (by simp) o2
 have HB:=ah hb;clear h1 h2 hb;simp only[pmC];cases hn:(P.normal==s.normal)
 ·have hne:(P.normal != s.normal)=true:=by simp[bne,hn]
  have HZ:Hid (kE P s=decide (s.normal<P.normal)):=by unfold Hid kE;rw[if_neg (by simpa using hn)]
  go_enter Tryz.func173,Tryz.ntmps173;go_wp2;go_ret;exact⟨aU (by rw[HZ.out];try exact decide_eq_decide.2 (by omega)),HB.out _ _⟩
 ·have hne:(P.normal != s.normal)=false:=by simp[bne,hn]
  have HZ:Hid (kE P s=decide ((s.log.length:Int)<(P.log.length:Int))):=by unfold Hid kE;rw[if_pos (by simpa using hn)];exact decide_eq_decide.2 (by omega)
  go_enter Tryz.func173,Tryz.ntmps173;go_wp2;go_ret;exact⟨aU (by rw[HZ.out];try exact decide_eq_decide.2 (by omega)),HB.out _ _⟩
theorem GK {w:World} {W F:List Nat} {P:Pm} {vl vg vo vL:Value} (h:dM w W F P vl vg vo vL):(pmC P vl vg vo vL).all (·.oneCell')=true:=by
 have q:=all_oneCell_toArray (JK h)
 rwa [Array.toArray_toList] at q
theorem dw.there {w:World} {g:Nat} {c:Array Value} (h:dw w g c):w.there g 0 15:=fun j hj=>by
 refine⟨?_,h.free _⟩
 obtain⟨v,hv⟩:=h.ex (0+j) (by omega)
 rw[hv];rfl
theorem dM.zero (w:World) (W F:List Nat):dM w W F pm0 (Y O 0 0) (Y O 0 0) (Y O 0 0) (Y O 0 0) :=
 ⟨gD _,gD _,gD _,qC _,Sl.nil _ _,Sl.nil _ _,Sl.nil _ _,Sl.nil _ _⟩
theorem Fu {ms:List Pm} {k:Nat} (hk:k<ms.length):je (ms.take (k+1))=yM (je (ms.take k)) ms[k]:=by
 unfold je;rw[List.take_succ_eq_append_getElem hk,List.foldl_append];rfl
def sU (w wr:World) (W F:List Nat) (g:Nat) (ms:List Pm) (k:Nat):Prop :=
 ∃ B vl vg vo vL,dw wr g (pmC B vl vg vo vL)∧dM w W F B vl vg vo vL∧je (ms.take k)=if k=0 then O else some B
theorem sU.below {w wr wr':World} {W F:List Nat} {g:Nat} {ms:List Pm} {k:Nat} (h:sU w wr W F g ms k) (hb:Below wr.heap.size wr wr'):sU w wr' W F g ms k:=by
 obtain⟨B,vl,vg,vo,vL,h1,h2,h3⟩:=h
 exact⟨B,vl,vg,vo,vL,h1.kp (S:=[]) (Kp.of_below hb) (by simp),h2,h3⟩
theorem Dm (v:Value) (ms:List Pm) (W F:List Nat) (w:World) (hv:Pms w W F v ms) (hl:ms.length≤1000000) (hne:ms≠[]) :
  Calls Tryz.prog 162 #[v] w fun e w'=>∃ vl vg vo vL,e=Zr (.agg (pmC ((je ms).getD pm0) vl vg vo vL))∧dM w W F ((je ms).getD pm0) vl vg vo vL∧Below w.heap.size w w':=by
 obtain⟨a,cap,rfl,hn1,hmx⟩:=hv.shape
 have HS:Hid (∀ k (hk:k<ms.length),je (ms.take (k+1))=yM (je (ms.take k)) ms[k]):=fun k hk=>Fu hk
 have HF:Hid (je (ms.take ms.length)=je ms):=by unfold Hid;rw[List.take_length]
 have hpos:0<ms.length:=List.length_pos_iff.2 hne
 have hA:∀ o o2,Below w.heap.size w ((w.alloc o).alloc o2):=fun o o2=>((Below.refl _ w).alloc (Nat.le_refl _) o).alloc (by simp) o2
 have hz0:dw ((w.alloc (.cells #[I .u8 0,I J 0,Y O 0 0,I J 0,I J 0,I J 0,I J 0,I J 0,Z ⟨#[]⟩,I J 0,I J 0,I J 0,Y O 0 0,Y O 0 0,Y O 0 0] 68)).alloc (.cells #[I .u8 0,I J 0,Y O 0 0,I J 0,I J 0,I J 0,I J 0,I J 0,Z ⟨#[]⟩,I J 0,I J 0,I J 0,Y O 0 0,Y O 0 0,Y O 0 0] 68)) w.heap.size #[I .u8 0,I J 0,Y O 0 0,I J 0,I J 0,I J 0,I J 0,I J 0,Z ⟨#[]⟩,I J 0,I J 0,I J 0,Y O 0 0,Y O 0 0,Y O 0 0]:=dw.kp (S:=[]) (show dw (w.alloc (.cells #[I .u8 0,I J 0,Y O 0 0,I J 0,I J 0,I J 0,I J 0,I J 0,Z ⟨#[]⟩,I J 0,I J 0,I J 0,Y O 0 0,Y O 0 0,Y O 0 0] 68)) w.heap.size #[I .u8 0,I J 0,Y O 0 0,I J 0,I J 0,I J 0,I J 0,I J 0,Z ⟨#[]⟩,I J 0,I J 0,I J 0,Y O 0 0,Y O 0 0,Y O 0 0] from ⟨rfl,heap_alloc_new w _⟩) (Kp.of_below ((Below.refl _ _).alloc (Nat.le_refl _) _)) (by simp)
 have hz1:dw ((w.alloc (.cells #[I .u8 0,I J 0,Y O 0 0,I J 0,I J 0,I J 0,I J 0,I J 0,Z ⟨#[]⟩,I J 0,I J 0,I J 0,Y O 0 0,Y O 0 0,Y O 0 0] 68)).alloc (.cells #[I .u8 0,I J 0,Y O 0 0,I J 0,I J 0,I J 0,I J 0,I J 0,Z ⟨#[]⟩,I J 0,I J 0,I J 0,Y O 0 0,Y O 0 0,Y O 0 0] 68)) (w.heap.size+1) #[I .u8 0,I J 0,Y O 0 0,I J 0,I J 0,I J 0,I J 0,I J 0,Z ⟨#[]⟩,I J 0,I J 0,I J 0,Y O 0 0,Y O 0 0,Y O 0 0]:=by
  have q:=heap_alloc_new (w.alloc (.cells #[I .u8 0,I J 0,Y O 0 0,I J 0,I J 0,I J 0,I J 0,I J 0,Z ⟨#[]⟩,I J 0,I J 0,I J 0,Y O 0 0,Y O 0 0,Y O 0 0] 68)) (.cells #[I .u8 0,I J 0,Y O 0 0,I J 0,I J 0,I J 0,I J 0,I J 0,Z ⟨#[]⟩,I J 0,I J 0,I J 0,Y O 0 0,Y O 0 0,Y O 0 0] 68);have e:(w.alloc (.cells #[I .u8 0,I J 0,Y O 0 0,I J 0,I J 0,I J 0,I J 0,I J 0,Z ⟨#[]⟩,I J 0,I J 0,I J 0,Y O 0 0,Y O 0 0,Y O 0 0] 68)).heap.size=w.heap.size+1:=by simp
  rw[e] at q;exact⟨rfl,q⟩
 have HA:=ah hA;have HZ0:=ah hz0;have HZ1:=ah hz1;clear hA hz0 hz1;go_enter Tryz.func162,Tryz.ntmps162;go_wp2_with fail;go_loopw [4] (fun i wr=>∃ k:Nat,k≤ms.length∧i=I J k∧sU w wr W F (w.heap.size+1) ms k∧dw wr w.heap.size #[I .u8 0,I J 0,Y O 0 0,I J 0,I J 0,I J 0,I J 0,I J 0,Z ⟨#[]⟩,I J 0,I J 0,I J 0,Y O 0 0,Y O 0 0,Y O 0 0]∧Below w.heap.size w wr) (fun i _=>ms.length-(intOf i).toNat)
 case atStart=>exact⟨0,Nat.zero_le _,rfl,⟨pm0,_,_,_,_,HZ1.out,dM.zero _ _ _,rfl⟩,HZ0.out,HA.out _ _⟩
 case round =>
  obtain⟨k,hk,rfl,hB,hz,hb⟩:=hrel
  by_cases hlt:k<ms.length
  ·obtain⟨b,off,al2,cl2,ag2,cg2,ao2,co2,aL2,cL2,rfl,hp2,hc2⟩:=hv.ys k hlt
   have j1:(0:Int)≤(k:Int):=by omega
   have j2:(k:Int)<(ms.length:Int):=by omega
   have HSk:=ah (HS.out k hlt);have hbb:b<w.heap.size:=by
    obtain⟨xs',hrd,_⟩:=hv.rd
    exact hrd.lt b rfl
   have hc3:∀ w',Below w.heap.size w w'→∀ j u,(#[I .u8 ms[k].kind,I J ms[k].frm,Y al2 ms[k].lives.length cl2,I J ms[k].epoch,I J ms[k].view,I J ms[k].place,I J ms[k].ent.1,I J ms[k].ent.2.1,Z ms[k].ent.2.2,I J ms[k].commit,I J ms[k].normal,I J ms[k].life,Y ag2 ms[k].grp.length cg2,Y ao2 ms[k].old.length co2,Y aL2 ms[k].log.length cL2]:Array Value)[j]? = some u→w'.cell? ⟨b,off+k*15+j,O⟩=some u:=fun w' hb j u q=>(hb.cell (p:=⟨b,off+k*15+j,O⟩) hbb).trans (hc2 j u q)
   have HP2:=ah hp2;have HOne:Hid ((#[I .u8 ms[k].kind,I J ms[k].frm,Y al2 ms[k].lives.length cl2,I J ms[k].epoch,I J ms[k].view,I J ms[k].place,I J ms[k].ent.1,I J ms[k].ent.2.1,Z ms[k].ent.2.2,I J ms[k].commit,I J ms[k].normal,I J ms[k].life,Y ag2 ms[k].grp.length cg2,Y ao2 ms[k].old.length co2,Y aL2 ms[k].log.length cL2]:Array Value).all (·.oneCell')=true):=GK hp2
   have HC3:=ah hc3;clear hc2 hc3;have hput:∀ w',sU w w' W F (w.heap.size+1) ms k→dw w' w.heap.size #[I .u8 0,I J 0,Y O 0 0,I J 0,I J 0,I J 0,I J 0,I J 0,Z ⟨#[]⟩,I J 0,I J 0,I J 0,Y O 0 0,Y O 0 0,Y O 0 0]→Below w.heap.size w w'→je (ms.take (k+1))=some ms[k]→(sU w (w'.setCells (w.heap.size+1) 0 (#[I .u8 ms[k].kind,I J ms[k].frm,Y al2 ms[k].lives.length cl2,I J ms[k].epoch,I J ms[k].view,I J ms[k].place,I J ms[k].ent.1,I J ms[k].ent.2.1,Z ms[k].ent.2.2,I J ms[k].commit,I J ms[k].normal,I J ms[k].life,Y ag2 ms[k].grp.length cg2,Y ao2 ms[k].old.length co2,Y aL2 ms[k].log.length cL2]:Array Value).toList) W F (w.heap.size+1) ms (k+1)∧dw (w'.setCells (w.heap.size+1) 0 (#[I .u8 ms[k].kind,I J ms[k].frm,Y al2 ms[k].lives.length cl2,I J ms[k].epoch,I J ms[k].view,I J ms[k].place,I J ms[k].ent.1,I J ms[k].ent.2.1,Z ms[k].ent.2.2,I J ms[k].commit,I J ms[k].normal,I J ms[k].life,Y ag2 ms[k].grp.length cg2,Y ao2 ms[k].old.length co2,Y aL2 ms[k].log.length cL2]:Array Value).toList) w.heap.size #[I .u8 0,I J 0,Y O 0 0,I J 0,I J 0,I J 0,I J 0,I J 0,Z ⟨#[]⟩,I J 0,I J 0,I J 0,Y O 0 0,Y O 0 0,Y O 0 0]∧Below w.heap.size w (w'.setCells (w.heap.size+1) 0 (#[I .u8 ms[k].kind,I J ms[k].frm,Y al2 ms[k].lives.length cl2,I J ms[k].epoch,I J ms[k].view,I J ms[k].place,I J ms[k].ent.1,I J ms[k].ent.2.1,Z ms[k].ent.2.2,I J ms[k].commit,I J ms[k].normal,I J ms[k].life,Y ag2 ms[k].grp.length cg2,Y ao2 ms[k].old.length co2,Y aL2 ms[k].log.length cL2]:Array Value).toList)):=fun w' h1 h2 h3 h4=>by
    rw[kH];obtain⟨B,vl,vg,vo,vL,g1,g2,g3⟩:=h1
    refine⟨⟨ms[k],_,_,_,_,?_,HP2.out,by rw[if_neg (by omega)];exact h4⟩,h2.kp (nP _ _ _) (by simp),fH (by omega) _ _ _ h3⟩
    have q:=oN [I .u8 ms[k].kind,I J ms[k].frm,Y al2 ms[k].lives.length cl2,I J ms[k].epoch,I J ms[k].view,I J ms[k].place,I J ms[k].ent.1,I J ms[k].ent.2.1,Z ms[k].ent.2.2,I J ms[k].commit,I J ms[k].normal,I J ms[k].life,Y ag2 ms[k].grp.length cg2,Y ao2 ms[k].old.length co2,Y aL2 ms[k].log.length cL2] w' _ 0 g1;have e:yj (pmC B vl vg vo vL) 0 [I .u8 ms[k].kind,I J ms[k].frm,Y al2 ms[k].lives.length cl2,I J ms[k].epoch,I J ms[k].view,I J ms[k].place,I J ms[k].ent.1,I J ms[k].ent.2.1,Z ms[k].ent.2.2,I J ms[k].commit,I J ms[k].normal,I J ms[k].life,Y ag2 ms[k].grp.length cg2,Y ao2 ms[k].old.length co2,Y aL2 ms[k].log.length cL2]=#[I .u8 ms[k].kind,I J ms[k].frm,Y al2 ms[k].lives.length cl2,I J ms[k].epoch,I J ms[k].view,I J ms[k].place,I J ms[k].ent.1,I J ms[k].ent.2.1,Z ms[k].ent.2.2,I J ms[k].commit,I J ms[k].normal,I J ms[k].life,Y ag2 ms[k].grp.length cg2,Y ao2 ms[k].old.length co2,Y aL2 ms[k].log.length cL2]:=by simp[yj,pmC]
    rw[e] at q;exact q
   have HPut:=ah hput;clear hput;by_cases hk0:k=0
   focus
    subst hk0;have HZ:Hid (je (ms.take (0+1))=some ms[0]):=by unfold Hid;rw[HSk.out];rfl
    have HBq:=ah (fun n=>hB.below (below_drewN (Below.refl _ wr) n))
    have HZq:=ah (fun n=>hz.kp (S:=[]) (Kp.of_below (below_drewN (Below.refl _ wr) n)) (by simp))
    have HBl:=ah (fun n=>hb.trans ((below_drewN (Below.refl _ wr) n).mono hb.size))
    go_wp2_with fail;go_quiet (fail);rename_i nq;have hB':=HBq.out nq
    have hz':=HZq.out nq
    have hb':=HBl.out nq
    have hc4:=HC3.out _ hb';generalize wr.drewN nq=wq at *
   rotate_left
   focus
    have HBA:=ah hB;obtain⟨B,vl3,vg3,vo3,vL3,g1,g2,g3⟩:=hB
    rw[if_neg hk0] at g3;obtain⟨al3,cl3,ag3,cg3,ao3,co3,aL3,cL3,rfl,rfl,rfl,rfl⟩:=g2.cells
    have hk0':¬(k:Int)=0:=by omega
    have hkb:((k:Int)==0)=false:=by simpa using hk0
    have HBk:Hid (∀ w',Calls Tryz.prog 173 #[.agg #[I .u8 ms[k].kind,I J ms[k].frm,Y al2 ms[k].lives.length cl2,I J ms[k].epoch,I J ms[k].view,I J ms[k].place,I J ms[k].ent.1,I J ms[k].ent.2.1,Z ms[k].ent.2.2,I J ms[k].commit,I J ms[k].normal,I J ms[k].life,Y ag2 ms[k].grp.length cg2,Y ao2 ms[k].old.length co2,Y aL2 ms[k].log.length cL2],.agg #[I .u8 B.kind,I J B.frm,Y al3 B.lives.length cl3,I J B.epoch,I J B.view,I J B.place,I J B.ent.1,I J B.ent.2.1,Z B.ent.2.2,I J B.commit,I J B.normal,I J B.life,Y ag3 B.grp.length cg3,Y ao3 B.old.length co3,Y aL3 B.log.length cL3]] w' fun e w''=>e=Zr (.bool (kE ms[k] B))∧Below w'.heap.size w' w''):=fun w'=>Dn w w' W F ms[k] B _ _ _ _ _ _ _ _ HP2.out g2
    have hc4:=HC3.out wr hb
   rotate_left
   all_goals
    have y0:=hc4 0 _ rfl;have y1:=hc4 1 _ rfl;have y2:=hc4 2 _ rfl;have y3:=hc4 3 _ rfl;have y4:=hc4 4 _ rfl;have y5:=hc4 5 _ rfl;have y6:=hc4 6 _ rfl;have y7:=hc4 7 _ rfl;have y8:=hc4 8 _ rfl;have y9:=hc4 9 _ rfl;have y10:=hc4 10 _ rfl;have y11:=hc4 11 _ rfl;have y12:=hc4 12 _ rfl;have y13:=hc4 13 _ rfl;have y14:=hc4 14 _ rfl;simp only[Nat.add_zero] at y0
   ·obtain⟨B,vl,vg,vo,vL,g1,g2,g3⟩:=hB'
    have HTh:=ah g1.there;have HR:=ah (HPut.out wq ⟨B,vl,vg,vo,vL,g1,g2,g3⟩ hz' hb' HZ.out);clear g1 g2 g3;go_upto_region 4 with (refine wpList_store_mid rfl 68 (.tmp 3) (.tmp 24) (by rfl) (w.heap.size+1) 0 #[I .u8 ms[0].kind,I J ms[0].frm,Y al2 ms[0].lives.length cl2,I J ms[0].epoch,I J ms[0].view,I J ms[0].place,I J ms[0].ent.1,I J ms[0].ent.2.1,Z ms[0].ent.2.2,I J ms[0].commit,I J ms[0].normal,I J ms[0].life,Y ag2 ms[0].grp.length cg2,Y ao2 ms[0].old.length co2,Y aL2 ms[0].log.length cL2] (by rfl) (by rfl) HTh.out Tryz.sizeMsg HOne.out ?_)
    go_wp2;go_roundw
    case rel=>exact⟨0+1,by omega,by go_num,HR.out.1,HR.out.2.1,HR.out.2.2⟩
    case measure=>simp[intOf];omega
   ·obtain⟨x0,x1,x2,x3,x4,x5,x6,x7,x8,x9,x10,x11,x12,x13,x14,xf⟩:=dw.all (show dw wr (w.heap.size+1) #[I .u8 B.kind,I J B.frm,Y al3 B.lives.length cl3,I J B.epoch,I J B.view,I J B.place,I J B.ent.1,I J B.ent.2.1,Z B.ent.2.2,I J B.commit,I J B.normal,I J B.life,Y ag3 B.grp.length cg3,Y ao3 B.old.length co3,Y aL3 B.log.length cL3] from g1)
    have HG3:=ah g3;clear g3 g2 hc4;cases hbt:kE ms[k] B
    focus
     rw[hbt] at HBk;have HZ:Hid (je (ms.take (k+1))=some B):=by unfold Hid;rw[HSk.out,HG3.out];show (if kE ms[k] B=true then some ms[k] else some B)=some B;rw[hbt];rfl
     have HN:Hid (∀ w',Below wr.heap.size wr w'→sU w w' W F (w.heap.size+1) ms (k+1)):=fun w' hb'=>by
      obtain⟨B',u1,u2,u3,u4,q1,q2,q3⟩:=HBA.out.below hb'
      rw[if_neg hk0,HG3.out] at q3;have:B=B':=by simpa using q3
      subst this;exact⟨B,u1,u2,u3,u4,q1,q2,by rw[if_neg (by omega)];exact HZ.out⟩
    rotate_left
    focus
     rw[hbt] at HBk;have HZ:Hid (je (ms.take (k+1))=some ms[k]):=by unfold Hid;rw[HSk.out,HG3.out];show (if kE ms[k] B=true then some ms[k] else some B)=some ms[k];rw[hbt];rfl
    rotate_left
    all_goals
     go_wp2_with fail;have ky0:=cell_regrown y0;have kx0:=cell_regrown x0;have ky1:=cell_regrown y1;have kx1:=cell_regrown x1;have ky2:=cell_regrown y2;have kx2:=cell_regrown x2;have ky3:=cell_regrown y3;have kx3:=cell_regrown x3;have ky4:=cell_regrown y4;have kx4:=cell_regrown x4;have ky5:=cell_regrown y5;have kx5:=cell_regrown x5;have ky6:=cell_regrown y6;have kx6:=cell_regrown x6;have ky7:=cell_regrown y7;have kx7:=cell_regrown x7;have ky8:=cell_regrown y8;have kx8:=cell_regrown x8;have ky9:=cell_regrown y9;have kx9:=cell_regrown x9;have ky10:=cell_regrown y10;have kx10:=cell_regrown x10;have ky11:=cell_regrown y11;have kx11:=cell_regrown x11;have ky12:=cell_regrown y12;have kx12:=cell_regrown x12;have ky13:=cell_regrown y13;have kx13:=cell_regrown x13;have ky14:=cell_regrown y14;have kx14:=cell_regrown x14;have cB:=fun d os=>Calls.regrown_of (w:=wr) (d:=d) (os:=os) (HBk.out _)
     refine wp_region_quiet_below (by kernel_rfl) (by kernel_rfl) ?_
     repeat (quiet_step (first|exact cB _ _))
     refine wpQuiet_nil ?_;intro w4 hw';have hb5:Below wr.heap.size wr w4:=by
      obtain⟨⟨dq,osq⟩,hw''⟩:=hw'
      rw[hw''];exact below_regrown wr dq osq
     clear hw' cB ky0 kx0 ky1 kx1 ky2 kx2 ky3 kx3 ky4 kx4 ky5 kx5 ky6 kx6 ky7 kx7 ky8 kx8 ky9 kx9 ky10 kx10 ky11 kx11 ky12 kx12 ky13 kx13 ky14 kx14
    ·have HR:=ah (HN.out w4 hb5);have hz5:=ah (hz.kp (S:=[]) (Kp.of_below hb5) (by simp))
     have hb6:=ah (hb.trans (hb5.mono hb.size));clear x0 x1 x2 x3 x4 x5 x6 x7 x8 x9 x10 x11 x12 x13 x14 xf y0 y1 y2 y3 y4 y5 y6 y7 y8 y9 y10 y11 y12 y13 y14;go_wp2;go_roundw
     case rel=>exact⟨k+1,by omega,by go_num,HR.out,hz5.out,hb6.out⟩
     case measure=>simp[intOf];omega
    ·have hz5:dw w4 w.heap.size #[I .u8 0,I J 0,Y O 0 0,I J 0,I J 0,I J 0,I J 0,I J 0,Z ⟨#[]⟩,I J 0,I J 0,I J 0,Y O 0 0,Y O 0 0,Y O 0 0]:=hz.kp (S:=[]) (Kp.of_below hb5) (by simp)
     have g5:dw w4 (w.heap.size+1) #[I .u8 B.kind,I J B.frm,Y al3 B.lives.length cl3,I J B.epoch,I J B.view,I J B.place,I J B.ent.1,I J B.ent.2.1,Z B.ent.2.2,I J B.commit,I J B.normal,I J B.life,Y ag3 B.grp.length cg3,Y ao3 B.old.length co3,Y aL3 B.log.length cL3]:=g1.kp (S:=[]) (Kp.of_below hb5) (by simp)
     have hb6:Below w.heap.size w w4:=hb.trans (hb5.mono hb.size)
     have HR:=ah (HPut.out w4 (HBA.out.below hb5) hz5 hb6 HZ.out);clear x0 x1 x2 x3 x4 x5 x6 x7 x8 x9 x10 x11 x12 x13 x14 xf y0 y1 y2 y3 y4 y5 y6 y7 y8 y9 y10 y11 y12 y13 y14;have hc5:=HC3.out w4 hb6;have y0:=hc5 0 _ rfl;have y1:=hc5 1 _ rfl;have y2:=hc5 2 _ rfl;have y3:=hc5 3 _ rfl;have y4:=hc5 4 _ rfl;have y5:=hc5 5 _ rfl;have y6:=hc5 6 _ rfl;have y7:=hc5 7 _ rfl;have y8:=hc5 8 _ rfl;have y9:=hc5 9 _ rfl;have y10:=hc5 10 _ rfl;have y11:=hc5 11 _ rfl;have y12:=hc5 12 _ rfl;have y13:=hc5 13 _ rfl;have y14:=hc5 14 _ rfl;simp only[Nat.add_zero] at y0;have HTh:=ah g5.there;clear hc5 g5;go_upto_region 4 with (refine wpList_store_mid rfl 68 (.tmp 3) (.tmp 24) (by rfl) (w.heap.size+1) 0 #[I .u8 ms[k].kind,I J ms[k].frm,Y al2 ms[k].lives.length cl2,I J ms[k].epoch,I J ms[k].view,I J ms[k].place,I J ms[k].ent.1,I J ms[k].ent.2.1,Z ms[k].ent.2.2,I J ms[k].commit,I J ms[k].normal,I J ms[k].life,Y ag2 ms[k].grp.length cg2,Y ao2 ms[k].old.length co2,Y aL2 ms[k].log.length cL2] (by rfl) (by rfl) HTh.out Tryz.sizeMsg HOne.out ?_)
     go_wp2;go_roundw
     case rel=>exact⟨k+1,by omega,by go_num,HR.out.1,HR.out.2.1,HR.out.2.2⟩
     case measure=>simp[intOf];omega
  ·obtain rfl:k=ms.length:=by omega
   obtain⟨B,vl3,vg3,vo3,vL3,g1,g2,g3⟩:=hB
   rw[if_neg (by omega),HF.out] at g3
   obtain⟨al3,cl3,ag3,cg3,ao3,co3,aL3,cL3,rfl,rfl,rfl,rfl⟩:=g2.cells
   have HL:=ah (jQ hz (I .u8 B.kind) (I J B.frm) (Y al3 B.lives.length cl3) (I J B.epoch) (I J B.view) (I J B.place) (I J B.ent.1) (I J B.ent.2.1) (Z B.ent.2.2) (I J B.commit) (I J B.normal) (I J B.life) (Y ag3 B.grp.length cg3) (Y ao3 B.old.length co3) (Y aL3 B.log.length cL3));have HB:=ah (fH (Nat.le_refl w.heap.size) [I .u8 B.kind,I J B.frm,Y al3 B.lives.length cl3,I J B.epoch,I J B.view,I J B.place,I J B.ent.1,I J B.ent.2.1,Z B.ent.2.2,I J B.commit,I J B.normal,I J B.life,Y ag3 B.grp.length cg3,Y ao3 B.old.length co3,Y aL3 B.log.length cL3] wr 0 hb);rw[← kH] at HL HB;have HTh:=ah hz.there;have HOne:Hid ((#[I .u8 B.kind,I J B.frm,Y al3 B.lives.length cl3,I J B.epoch,I J B.view,I J B.place,I J B.ent.1,I J B.ent.2.1,Z B.ent.2.2,I J B.commit,I J B.normal,I J B.life,Y ag3 B.grp.length cg3,Y ao3 B.old.length co3,Y aL3 B.log.length cL3]:Array Value).all (·.oneCell')=true):=GK g2
   have HG:Hid ((je ms).getD pm0=B):=by unfold Hid;rw[g3];rfl
   have HP:=ah g2;obtain⟨x0,x1,x2,x3,x4,x5,x6,x7,x8,x9,x10,x11,x12,x13,x14,xf⟩:=dw.all (show dw wr (w.heap.size+1) #[I .u8 B.kind,I J B.frm,Y al3 B.lives.length cl3,I J B.epoch,I J B.view,I J B.place,I J B.ent.1,I J B.ent.2.1,Z B.ent.2.2,I J B.commit,I J B.normal,I J B.life,Y ag3 B.grp.length cg3,Y ao3 B.old.length co3,Y aL3 B.log.length cL3] from g1)
   clear g2 g3;go_wp2_with (refine wpList_store_mid rfl 68 (.tmp 2) (.tmp 25) (by rfl) w.heap.size 0 #[I .u8 B.kind,I J B.frm,Y al3 B.lives.length cl3,I J B.epoch,I J B.view,I J B.place,I J B.ent.1,I J B.ent.2.1,Z B.ent.2.2,I J B.commit,I J B.normal,I J B.life,Y ag3 B.grp.length cg3,Y ao3 B.old.length co3,Y aL3 B.log.length cL3] (by rfl) (by rfl) HTh.out Tryz.sizeMsg HOne.out ?_)
   go_wp2_with fail;refine bodyPost_ret (bI rfl _ _ _ rfl HL.out) rfl ?_;rw[HG.out];exact⟨_,_,_,_,rfl,HP.out,HB.out⟩
end Go.Proofs.YtbnihoahhomooaaGreatDoor
