import Derived.Test.YtinaollfjiddmaaGreatDoorA11
set_option maxRecDepth 100000
set_option maxHeartbeats 8000000
set_option linter.all false
namespace Go.Proofs.YtinaollfjiddmaaGreatDoor
open Go.Value renaming int→I,slice→Y,string→Z,pointer→Zp
open Go.Ending renaming returned→Zr
open _root_.ByteArray renaming empty→Ze
open Go.IntKind renaming i64→J
open Option renaming none→O
open Go.RowKit
theorem DF (w0 w:World) (W F:List Nat) (P s:Pm) (vl vg vo vL vl2 vg2 vo2 vL2:Value) (h1:dX w0 W F P vl vg vo vL) (h2:dX w0 W F s vl2 vg2 vo2 vL2) :
  Calls Tryz.prog 172 #[.agg (pmC P vl vg vo vL),.agg (pmC s vl2 vg2 vo2 vL2)] w fun e w'=>e=Zr (.bool (jT P s))∧Below w.heap.size w w':=by
 obtain⟨p,q,ag,r,t,u,v,x,rfl,rfl,rfl,rfl⟩:=h1.cells
 obtain⟨g,h,i,j,k,l,m,n,rfl,rfl,rfl,rfl⟩:=h2.cells
 have d:∀ o a,Below w.heap.size w ((w.alloc o).alloc a):=fun o a=>((Below.refl _ w).alloc (Nat.le_refl _) o).alloc (by simp) a
 have f:=ah d;clear h1 h2 d;simp only[pmC];cases hn:(P.normal==s.normal)
 ·have b:(P.normal != s.normal)=true:=by simp[bne,hn]
  have c:Hid (jT P s=decide (s.normal<P.normal)):=by unfold Hid jT;rw[if_neg (by simpa using hn)]
  go_enter Tryz.func172,Tryz.ntmps172;go_wp2;go_ret;exact⟨bC (by rw[c.out];try exact decide_eq_decide.2 (by omega)),f.out _ _⟩
 ·have b:(P.normal != s.normal)=false:=by simp[bne,hn]
  have c:Hid (jT P s=decide ((s.log.length:Int)<(P.log.length:Int))):=by unfold Hid jT;rw[if_pos (by simpa using hn)];exact decide_eq_decide.2 (by omega)
  go_enter Tryz.func172,Tryz.ntmps172;go_wp2;go_ret;exact⟨bC (by rw[c.out];try exact decide_eq_decide.2 (by omega)),f.out _ _⟩
theorem Hz {w:World} {W F:List Nat} {P:Pm} {vl vg vo vL:Value} (h:dX w W F P vl vg vo vL):(pmC P vl vg vo vL).all (·.oneCell')=true:=by
 have q:=all_oneCell_toArray (Kg h)
 rwa [Array.toArray_toList] at q
theorem dD.there {w:World} {g:Nat} {c:Array Value} (h:dD w g c):w.there g 0 15:=fun j hj=>by
 refine⟨?_,h.free _⟩
 obtain⟨v,hv⟩:=h.ex (0+j) (by omega)
 rw[hv];rfl
theorem dX.zero (w:World) (W F:List Nat):dX w W F pm0 (Y O 0 0) (Y O 0 0) (Y O 0 0) (Y O 0 0) :=
 ⟨gL _,gL _,gL _,qP _,Sl.nil _ _,Sl.nil _ _,Sl.nil _ _,Sl.nil _ _⟩
theorem F9 {ms:List Pm} {k:Nat} (hk:k<ms.length):ji (ms.take (k+1))=qK (ji (ms.take k)) ms[k]:=by
 unfold ji;rw[List.take_succ_eq_append_getElem hk,List.foldl_append];rfl
def tO (w wr:World) (W F:List Nat) (g:Nat) (ms:List Pm) (k:Nat):Prop :=
 ∃ B vl vg vo vL,dD wr g (pmC B vl vg vo vL)∧dX w W F B vl vg vo vL∧ji (ms.take k)=if k=0 then O else some B
theorem tO.below {w wr wr':World} {W F:List Nat} {g:Nat} {ms:List Pm} {k:Nat} (h:tO w wr W F g ms k) (hb:Below wr.heap.size wr wr'):tO w wr' W F g ms k:=by
 obtain⟨B,vl,vg,vo,vL,h1,h2,h3⟩:=h
 exact⟨B,vl,vg,vo,vL,h1.kp (S:=[]) (Kp.of_below hb) (by simp),h2,h3⟩
theorem DC (v:Value) (ms:List Pm) (W F:List Nat) (w:World) (hv:Pms w W F v ms) (hl:ms.length≤1000000) (hne:ms≠[]) :
  Calls Tryz.prog 161 #[v] w fun e w'=>∃ vl vg vo vL,e=Zr (.agg (pmC ((ji ms).getD pm0) vl vg vo vL))∧dX w W F ((ji ms).getD pm0) vl vg vo vL∧Below w.heap.size w w':=by
 obtain⟨a,cl,rfl,cm,cn⟩:=hv.shape
 have HS:Hid (∀ k (hk:k<ms.length),ji (ms.take (k+1))=qK (ji (ms.take k)) ms[k]):=fun k hk=>F9 hk
 have HF:Hid (ji (ms.take ms.length)=ji ms):=by unfold Hid;rw[List.take_length]
 have ci:0<ms.length:=List.length_pos_iff.2 hne
 have hA:∀ o o2,Below w.heap.size w ((w.alloc o).alloc o2):=fun o o2=>((Below.refl _ w).alloc (Nat.le_refl _) o).alloc (by simp) o2
 have ar:dD ((w.alloc (.cells mz0 68)).alloc (.cells mz0 68)) w.heap.size mz0:=dD.kp (S:=[]) (show dD (w.alloc (.cells mz0 68)) w.heap.size mz0 from ⟨rfl,heap_alloc_new w _⟩) (Kp.of_below ((Below.refl _ _).alloc (Nat.le_refl _) _)) (by simp)
 have av:dD ((w.alloc (.cells mz0 68)).alloc (.cells mz0 68)) (w.heap.size+1) mz0:=by
  have q:=heap_alloc_new (w.alloc (.cells mz0 68)) (.cells mz0 68);have e:(w.alloc (.cells mz0 68)).heap.size=w.heap.size+1:=by simp
  rw[e] at q;exact⟨rfl,q⟩
 have HA:=ah hA;have bg:=ah ar;have bh:=ah av;clear hA ar av;go_enter Tryz.func161,Tryz.ntmps161;go_wp2_with fail;go_loopw [4] (fun i wr=>∃ k:Nat,k≤ms.length∧i=I J k∧tO w wr W F (w.heap.size+1) ms k∧dD wr w.heap.size mz0∧Below w.heap.size w wr) (fun i _=>ms.length-(intOf i).toNat)
 case atStart=>exact⟨0,Nat.zero_le _,rfl,⟨pm0,_,_,_,_,bh.out,dX.zero _ _ _,rfl⟩,bg.out,HA.out _ _⟩
 case round =>
  obtain⟨k,hk,rfl,hB,hz,N⟩:=hrel
  by_cases aw:k<ms.length
  ·obtain⟨b,ax,g,h,l,m,r,s,t,x,rfl,az,a0⟩:=hv.ys k aw
   have j1:(0:Int)≤(k:Int):=by omega
   have j2:(k:Int)<(ms.length:Int):=by omega
   have am:=ah (HS.out k aw);have bi:b<w.heap.size:=by
    obtain⟨co,bj,_⟩:=hv.rd
    exact bj.lt b rfl
   have a1:∀ w',Below w.heap.size w w'→∀ j u,(#[I .u8 ms[k].kind,I J ms[k].frm,Y g ms[k].lives.length h,I J ms[k].epoch,I J ms[k].view,I J ms[k].place,I J ms[k].ent.1,I J ms[k].ent.2.1,Z ms[k].ent.2.2,I J ms[k].commit,I J ms[k].normal,I J ms[k].life,Y l ms[k].grp.length m,Y r ms[k].old.length s,Y t ms[k].log.length x]:Array Value)[j]? = some u→w'.cell? ⟨b,ax+k*15+j,O⟩=some u:=fun w' N j u q=>(N.cell (p:=⟨b,ax+k*15+j,O⟩) bi).trans (a0 j u q)
   have a2:=ah az;have L:Hid ((#[I .u8 ms[k].kind,I J ms[k].frm,Y g ms[k].lives.length h,I J ms[k].epoch,I J ms[k].view,I J ms[k].place,I J ms[k].ent.1,I J ms[k].ent.2.1,Z ms[k].ent.2.2,I J ms[k].commit,I J ms[k].normal,I J ms[k].life,Y l ms[k].grp.length m,Y r ms[k].old.length s,Y t ms[k].log.length x]:Array Value).all (·.oneCell')=true):=Hz az
   have an:=ah a1;clear a0 a1;have ak:∀ w',tO w w' W F (w.heap.size+1) ms k→dD w' w.heap.size mz0→Below w.heap.size w w'→ji (ms.take (k+1))=some ms[k]→(tO w (w'.setCells (w.heap.size+1) 0 (#[I .u8 ms[k].kind,I J ms[k].frm,Y g ms[k].lives.length h,I J ms[k].epoch,I J ms[k].view,I J ms[k].place,I J ms[k].ent.1,I J ms[k].ent.2.1,Z ms[k].ent.2.2,I J ms[k].commit,I J ms[k].normal,I J ms[k].life,Y l ms[k].grp.length m,Y r ms[k].old.length s,Y t ms[k].log.length x]:Array Value).toList) W F (w.heap.size+1) ms (k+1)∧dD (w'.setCells (w.heap.size+1) 0 (#[I .u8 ms[k].kind,I J ms[k].frm,Y g ms[k].lives.length h,I J ms[k].epoch,I J ms[k].view,I J ms[k].place,I J ms[k].ent.1,I J ms[k].ent.2.1,Z ms[k].ent.2.2,I J ms[k].commit,I J ms[k].normal,I J ms[k].life,Y l ms[k].grp.length m,Y r ms[k].old.length s,Y t ms[k].log.length x]:Array Value).toList) w.heap.size mz0∧Below w.heap.size w (w'.setCells (w.heap.size+1) 0 (#[I .u8 ms[k].kind,I J ms[k].frm,Y g ms[k].lives.length h,I J ms[k].epoch,I J ms[k].view,I J ms[k].place,I J ms[k].ent.1,I J ms[k].ent.2.1,Z ms[k].ent.2.2,I J ms[k].commit,I J ms[k].normal,I J ms[k].life,Y l ms[k].grp.length m,Y r ms[k].old.length s,Y t ms[k].log.length x]:Array Value).toList)):=fun w' h1 h2 h3 h4=>by
    rw[lM];obtain⟨B,vl,vg,vo,vL,P,g2,g3⟩:=h1
    refine⟨⟨ms[k],_,_,_,_,?_,a2.out,by rw[if_neg (by omega)];exact h4⟩,h2.kp (oh _ _ _) (by simp),fP (by omega) _ _ _ h3⟩
    have q:=pG [I .u8 ms[k].kind,I J ms[k].frm,Y g ms[k].lives.length h,I J ms[k].epoch,I J ms[k].view,I J ms[k].place,I J ms[k].ent.1,I J ms[k].ent.2.1,Z ms[k].ent.2.2,I J ms[k].commit,I J ms[k].normal,I J ms[k].life,Y l ms[k].grp.length m,Y r ms[k].old.length s,Y t ms[k].log.length x] w' _ 0 P;have e:yM (pmC B vl vg vo vL) 0 [I .u8 ms[k].kind,I J ms[k].frm,Y g ms[k].lives.length h,I J ms[k].epoch,I J ms[k].view,I J ms[k].place,I J ms[k].ent.1,I J ms[k].ent.2.1,Z ms[k].ent.2.2,I J ms[k].commit,I J ms[k].normal,I J ms[k].life,Y l ms[k].grp.length m,Y r ms[k].old.length s,Y t ms[k].log.length x]=#[I .u8 ms[k].kind,I J ms[k].frm,Y g ms[k].lives.length h,I J ms[k].epoch,I J ms[k].view,I J ms[k].place,I J ms[k].ent.1,I J ms[k].ent.2.1,Z ms[k].ent.2.2,I J ms[k].commit,I J ms[k].normal,I J ms[k].life,Y l ms[k].grp.length m,Y r ms[k].old.length s,Y t ms[k].log.length x]:=by simp[yM,pmC]
    rw[e] at q;exact q
   have al:=ah ak;clear ak;by_cases Q:k=0
   focus
    subst Q;have HZ:Hid (ji (ms.take (0+1))=some ms[0]):=by unfold Hid;rw[am.out];rfl
    have bk:=ah (fun n=>hB.below (below_drewN (Below.refl _ wr) n))
    have bl:=ah (fun n=>hz.kp (S:=[]) (Kp.of_below (below_drewN (Below.refl _ wr) n)) (by simp))
    have bm:=ah (fun n=>N.trans ((below_drewN (Below.refl _ wr) n).mono N.size))
    go_wp2_with fail;go_quiet (fail);rename_i nq;have bn:=bk.out nq
    have bo:=bl.out nq
    have R:=bm.out nq
    have c:=an.out _ R;generalize wr.drewN nq=wq at *
   rotate_left
   focus
    have a3:=ah hB;obtain⟨B,bp,bq,br,bs,P,g2,g3⟩:=hB
    rw[if_neg Q] at g3;obtain⟨y,z,A,C,D,E,G,H,rfl,rfl,rfl,rfl⟩:=g2.cells
    have cj:¬(k:Int)=0:=by omega
    have cp:((k:Int)==0)=false:=by simpa using Q
    have ao:Hid (∀ w',Calls Tryz.prog 172 #[.agg #[I .u8 ms[k].kind,I J ms[k].frm,Y g ms[k].lives.length h,I J ms[k].epoch,I J ms[k].view,I J ms[k].place,I J ms[k].ent.1,I J ms[k].ent.2.1,Z ms[k].ent.2.2,I J ms[k].commit,I J ms[k].normal,I J ms[k].life,Y l ms[k].grp.length m,Y r ms[k].old.length s,Y t ms[k].log.length x],.agg #[I .u8 B.kind,I J B.frm,Y y B.lives.length z,I J B.epoch,I J B.view,I J B.place,I J B.ent.1,I J B.ent.2.1,Z B.ent.2.2,I J B.commit,I J B.normal,I J B.life,Y A B.grp.length C,Y D B.old.length E,Y G B.log.length H]] w' fun e bt=>e=Zr (.bool (jT ms[k] B))∧Below w'.heap.size w' bt):=fun w'=>DF w w' W F ms[k] B _ _ _ _ _ _ _ _ a2.out g2
    have c:=an.out wr N
   rotate_left
   all_goals
    have y0:=c 0 _ rfl;have y1:=c 1 _ rfl;have y2:=c 2 _ rfl;have y3:=c 3 _ rfl;have y4:=c 4 _ rfl;have y5:=c 5 _ rfl;have y6:=c 6 _ rfl;have y7:=c 7 _ rfl;have y8:=c 8 _ rfl;have y9:=c 9 _ rfl;have T:=c 10 _ rfl;have U:=c 11 _ rfl;have V:=c 12 _ rfl;have X:=c 13 _ rfl;have aa:=c 14 _ rfl;simp only[Nat.add_zero] at y0
   ·obtain⟨B,vl,vg,vo,vL,P,g2,g3⟩:=bn
    have M:=ah P.there;have HR:=ah (al.out wq ⟨B,vl,vg,vo,vL,P,g2,g3⟩ bo R HZ.out);clear P g2 g3;go_upto_region 4 with (refine wpList_store_mid rfl 68 (.tmp 3) (.tmp 24) (by rfl) (w.heap.size+1) 0 #[I .u8 ms[0].kind,I J ms[0].frm,Y g ms[0].lives.length h,I J ms[0].epoch,I J ms[0].view,I J ms[0].place,I J ms[0].ent.1,I J ms[0].ent.2.1,Z ms[0].ent.2.2,I J ms[0].commit,I J ms[0].normal,I J ms[0].life,Y l ms[0].grp.length m,Y r ms[0].old.length s,Y t ms[0].log.length x] (by rfl) (by rfl) M.out Tryz.sizeMsg L.out ?_)
    go_wp2;go_roundw
    case rel=>exact⟨0+1,by omega,by go_num,HR.out.1,HR.out.2.1,HR.out.2.2⟩
    case measure=>simp[intOf];omega
   ·obtain⟨x0,x1,x2,x3,x4,x5,x6,x7,x8,x9,ab,ac,ad,ae,af,xf⟩:=dD.all (show dD wr (w.heap.size+1) #[I .u8 B.kind,I J B.frm,Y y B.lives.length z,I J B.epoch,I J B.view,I J B.place,I J B.ent.1,I J B.ent.2.1,Z B.ent.2.2,I J B.commit,I J B.normal,I J B.life,Y A B.grp.length C,Y D B.old.length E,Y G B.log.length H] from P)
    have ap:=ah g3;clear g3 g2 c;cases hbt:jT ms[k] B
    focus
     rw[hbt] at ao;have HZ:Hid (ji (ms.take (k+1))=some B):=by unfold Hid;rw[am.out,ap.out];show (if jT ms[k] B=true then some ms[k] else some B)=some B;rw[hbt];rfl
     have HN:Hid (∀ w',Below wr.heap.size wr w'→tO w w' W F (w.heap.size+1) ms (k+1)):=fun w' R=>by
      obtain⟨B',u1,u2,u3,u4,q1,q2,q3⟩:=a3.out.below R
      rw[if_neg Q,ap.out] at q3;have:B=B':=by simpa using q3
      subst this;exact⟨B,u1,u2,u3,u4,q1,q2,by rw[if_neg (by omega)];exact HZ.out⟩
    rotate_left
    focus
     rw[hbt] at ao;have HZ:Hid (ji (ms.take (k+1))=some ms[k]):=by unfold Hid;rw[am.out,ap.out];show (if jT ms[k] B=true then some ms[k] else some B)=some ms[k];rw[hbt];rfl
    rotate_left
    all_goals
     go_wp2_with fail;have bu:=cell_regrown y0;have bv:=cell_regrown x0;have bw:=cell_regrown y1;have bx:=cell_regrown x1;have bz:=cell_regrown y2;have b2:=cell_regrown x2;have b3:=cell_regrown y3;have b4:=cell_regrown x3;have b5:=cell_regrown y4;have b6:=cell_regrown x4;have b7:=cell_regrown y5;have b8:=cell_regrown x5;have b9:=cell_regrown y6;have ca:=cell_regrown x6;have cb:=cell_regrown y7;have cc:=cell_regrown x7;have cd:=cell_regrown y8;have ce:=cell_regrown x8;have cf:=cell_regrown y9;have cg:=cell_regrown x9;have a4:=cell_regrown T;have a5:=cell_regrown ab;have a6:=cell_regrown U;have a7:=cell_regrown ac;have a8:=cell_regrown V;have a9:=cell_regrown ad;have ba:=cell_regrown X;have bb:=cell_regrown ae;have bc:=cell_regrown aa;have bd:=cell_regrown af;have cB:=fun d os=>Calls.regrown_of (w:=wr) (d:=d) (os:=os) (ao.out _)
     refine wp_region_quiet_below (by kernel_rfl) (by kernel_rfl) ?_
     repeat (quiet_step (first|exact cB _ _))
     refine wpQuiet_nil ?_;intro w4 hw';have K:Below wr.heap.size wr w4:=by
      obtain⟨⟨dq,ch⟩,be⟩:=hw'
      rw[be];exact below_regrown wr dq ch
     clear hw' cB bu bv bw bx bz b2 b3 b4 b5 b6 b7 b8 b9 ca cb cc cd ce cf cg a4 a5 a6 a7 a8 a9 ba bb bc bd
    ·have HR:=ah (HN.out w4 K);have aq:=ah (hz.kp (S:=[]) (Kp.of_below K) (by simp))
     have ai:=ah (N.trans (K.mono N.size));clear x0 x1 x2 x3 x4 x5 x6 x7 x8 x9 ab ac ad ae af xf y0 y1 y2 y3 y4 y5 y6 y7 y8 y9 T U V X aa;go_wp2;go_roundw
     case rel=>exact⟨k+1,by omega,by go_num,HR.out,aq.out,ai.out⟩
     case measure=>simp[intOf];omega
    ·have aq:dD w4 w.heap.size mz0:=hz.kp (S:=[]) (Kp.of_below K) (by simp)
     have g5:dD w4 (w.heap.size+1) #[I .u8 B.kind,I J B.frm,Y y B.lives.length z,I J B.epoch,I J B.view,I J B.place,I J B.ent.1,I J B.ent.2.1,Z B.ent.2.2,I J B.commit,I J B.normal,I J B.life,Y A B.grp.length C,Y D B.old.length E,Y G B.log.length H]:=P.kp (S:=[]) (Kp.of_below K) (by simp)
     have ai:Below w.heap.size w w4:=N.trans (K.mono N.size)
     have HR:=ah (al.out w4 (a3.out.below K) aq ai HZ.out);clear x0 x1 x2 x3 x4 x5 x6 x7 x8 x9 ab ac ad ae af xf y0 y1 y2 y3 y4 y5 y6 y7 y8 y9 T U V X aa;have f:=an.out w4 ai;have y0:=f 0 _ rfl;have y1:=f 1 _ rfl;have y2:=f 2 _ rfl;have y3:=f 3 _ rfl;have y4:=f 4 _ rfl;have y5:=f 5 _ rfl;have y6:=f 6 _ rfl;have y7:=f 7 _ rfl;have y8:=f 8 _ rfl;have y9:=f 9 _ rfl;have T:=f 10 _ rfl;have U:=f 11 _ rfl;have V:=f 12 _ rfl;have X:=f 13 _ rfl;have aa:=f 14 _ rfl;simp only[Nat.add_zero] at y0;have M:=ah g5.there;clear f g5;go_upto_region 4 with (refine wpList_store_mid rfl 68 (.tmp 3) (.tmp 24) (by rfl) (w.heap.size+1) 0 #[I .u8 ms[k].kind,I J ms[k].frm,Y g ms[k].lives.length h,I J ms[k].epoch,I J ms[k].view,I J ms[k].place,I J ms[k].ent.1,I J ms[k].ent.2.1,Z ms[k].ent.2.2,I J ms[k].commit,I J ms[k].normal,I J ms[k].life,Y l ms[k].grp.length m,Y r ms[k].old.length s,Y t ms[k].log.length x] (by rfl) (by rfl) M.out Tryz.sizeMsg L.out ?_)
     go_wp2;go_roundw
     case rel=>exact⟨k+1,by omega,by go_num,HR.out.1,HR.out.2.1,HR.out.2.2⟩
     case measure=>simp[intOf];omega
  ·obtain rfl:k=ms.length:=by omega
   obtain⟨B,bp,bq,br,bs,P,g2,g3⟩:=hB
   rw[if_neg (by omega),HF.out] at g3
   obtain⟨y,z,A,C,D,E,G,H,rfl,rfl,rfl,rfl⟩:=g2.cells
   have HL:=ah (kG hz (I .u8 B.kind) (I J B.frm) (Y y B.lives.length z) (I J B.epoch) (I J B.view) (I J B.place) (I J B.ent.1) (I J B.ent.2.1) (Z B.ent.2.2) (I J B.commit) (I J B.normal) (I J B.life) (Y A B.grp.length C) (Y D B.old.length E) (Y G B.log.length H));have HB:=ah (fP (Nat.le_refl w.heap.size) [I .u8 B.kind,I J B.frm,Y y B.lives.length z,I J B.epoch,I J B.view,I J B.place,I J B.ent.1,I J B.ent.2.1,Z B.ent.2.2,I J B.commit,I J B.normal,I J B.life,Y A B.grp.length C,Y D B.old.length E,Y G B.log.length H] wr 0 N);rw[← lM] at HL HB;have M:=ah hz.there;have L:Hid ((#[I .u8 B.kind,I J B.frm,Y y B.lives.length z,I J B.epoch,I J B.view,I J B.place,I J B.ent.1,I J B.ent.2.1,Z B.ent.2.2,I J B.commit,I J B.normal,I J B.life,Y A B.grp.length C,Y D B.old.length E,Y G B.log.length H]:Array Value).all (·.oneCell')=true):=Hz g2
   have HG:Hid ((ji ms).getD pm0=B):=by unfold Hid;rw[g3];rfl
   have HP:=ah g2;obtain⟨x0,x1,x2,x3,x4,x5,x6,x7,x8,x9,ab,ac,ad,ae,af,xf⟩:=dD.all (show dD wr (w.heap.size+1) #[I .u8 B.kind,I J B.frm,Y y B.lives.length z,I J B.epoch,I J B.view,I J B.place,I J B.ent.1,I J B.ent.2.1,Z B.ent.2.2,I J B.commit,I J B.normal,I J B.life,Y A B.grp.length C,Y D B.old.length E,Y G B.log.length H] from P)
   clear g2 g3;go_wp2_with (refine wpList_store_mid rfl 68 (.tmp 2) (.tmp 25) (by rfl) w.heap.size 0 #[I .u8 B.kind,I J B.frm,Y y B.lives.length z,I J B.epoch,I J B.view,I J B.place,I J B.ent.1,I J B.ent.2.1,Z B.ent.2.2,I J B.commit,I J B.normal,I J B.life,Y A B.grp.length C,Y D B.old.length E,Y G B.log.length H] (by rfl) (by rfl) M.out Tryz.sizeMsg L.out ?_)
   go_wp2_with fail;refine bodyPost_ret (dO rfl _ _ _ rfl HL.out) rfl ?_;rw[HG.out];exact⟨_,_,_,_,rfl,HP.out,HB.out⟩
end Go.Proofs.YtinaollfjiddmaaGreatDoor
