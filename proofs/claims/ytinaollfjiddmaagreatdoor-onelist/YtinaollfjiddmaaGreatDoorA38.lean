import Derived.Test.YtinaollfjiddmaaGreatDoorA36
set_option maxRecDepth 100000
set_option maxHeartbeats 8000000
set_option linter.all false
namespace Go.Proofs.YtinaollfjiddmaaGreatDoor
open Go.Value renaming int→I,slice→Y,string→Z,pointer→Zp
open Go.Ending renaming returned→Zr
open _root_.ByteArray renaming empty→Ze
open Go.IntKind renaming i64→J
open Option renaming none→O
open Go.RowKit
section
variable {N:Nat} {w w':World} {g:Nat} {K K':Kw} {V V':Kv}
theorem Tryz.infoWi:(Tryz.prog.info? 99).map (fun i=>(i.zero,i.size,i.bytes))=some (some (.agg #[I J 0,I J 0,Z Ze,Z Ze,I J 0,.bool false]),6,64):=by kernel_rfl
def kY (K:Kw) (c:Nat) (x:ku):Kw:={ K with wishes:=K.wishes++[x],opn:=K.opn.set c (K.wishes.length:Int) }
theorem KI.ask (h:KI K) (c:Nat) (x:ku) (hx:wT x):KI (kY K c x) :=
 ⟨⟨h.sz.n3,h.sz.n7,h.sz.nds,h.sz.down,h.sz.begun,by unfold kY;simpa using h.sz.opn⟩,h.part,h.nod,h.net,fun y a=>by
  rcases List.mem_append.1 a with q|q
  ·exact h.wish y q
  ·simp at q;subst q;exact hx,fun v b=>by
  unfold kY at *;simp only[List.length_append,List.length_cons,List.length_nil] at *;rcases List.mem_or_eq_of_mem_set b with q|rfl
  ·have:=h.opn v q;omega
  ·omega,h.list,h.grps,h.li,h.gl⟩
theorem EL (c:Nat) (x:ku):dS (kY K c x)=dS K+1:=by
 unfold dS kY;simp only[List.length_append,List.length_cons,List.length_nil];omega
theorem Qt (op:ByteArray):jk (⟨#[114]⟩++op)=true:=by unfold jk;simp[ByteArray.data_append]
theorem NQ (op:ByteArray):(⟨#[114]⟩++op:ByteArray).extract 1 (⟨#[114]⟩++op:ByteArray).size=op:=by
 apply bytes_inj
 rw[drop1];simp[ByteArray.data_append]
theorem tw_q {c y:Int} {op:ByteArray} (hc:1≤c∧c≤9) (hy:1≤y∧y≤999) (h:jk op=false∧(32:UInt8)∉op.data.toList):Tw ((c,y,op),⟨#[113,32]⟩++dg c++⟨#[32]⟩++dg y++⟨#[32]⟩++op) :=
 ⟨hc,hy,fun _=>⟨rfl,h.2⟩,fun q=>by rw[show fA (c,y,op)=jk op from rfl,h.1] at q;cases q⟩
theorem tw_m {c y:Int} {op tx:ByteArray} (hc:1≤c∧c≤9) (hy:1≤y∧y≤999) (h:(∃ E:Int,0≤E∧E≤10∧tx=dg E)∧(32:UInt8)∉op.data.toList):Tw ((c,y,⟨#[114]⟩++op),⟨#[109,32]⟩++dg c++⟨#[32]⟩++dg y++⟨#[32]⟩++tx++⟨#[32]⟩++op):=by
 obtain⟨⟨E,b,d,rfl⟩,e⟩:=h
 have f:=Qt op;have a:=NQ op;generalize (⟨#[114]⟩++op:ByteArray)=g at *;refine⟨hc,hy,fun q=>?_,fun _=>⟨⟨E,b,d,?_⟩,?_⟩⟩
 ·have q:jk g=false:=q
  rw[f] at q;cases q
 ·unfold mTx;simp only
  rw[a]
  rfl
 ·simp only
  rw[a];exact e
theorem Cb (h:KAt N w g K V) (hi:KI K) (gr:Gr K) (c q:Nat) (hc0:1≤c) (hc1:c≤9) (hq:(q:Int)<K.n) (op tx:ByteArray) (ho1:1≤op.size) (ho8:op.size≤8) (htx:tx.size≤100) (hq0:tx.toList.isEmpty=true→jk op=false∧(32:UInt8)∉op.data.toList) (hm0:¬tx.toList.isEmpty=true→(∃ E:Int,0≤E∧E≤10∧tx=dg E)∧(32:UInt8)∉op.data.toList) (hm:dS K+100≤900000000000) :
  Calls Tryz.prog 26 #[Zp (some ⟨g,0,O⟩),I J c,I J q,Z op,Z tx] w fun e w'=>e=Zr (.tuple #[])∧∃ K' V',Rn N w w' g K V 2 K' V':=by
 have a4:=hi.sz.opn;have aa:c<K.opn.length:=by omega
 obtain⟨aO,cO,ac⟩:=aj h.rO
 have bz:=ah (h.cv 9 rfl ac);have HO:=ah (fun (l:World) (M:Below w.heap.size w l)=>KAt.opn h ac M)
 obtain⟨aW,cW,C⟩:=aj h.rW
 have a5:=ah (h.cv 8 rfl C);have HW:Hid (∀ l,Below w.heap.size w l→kV l (Y aW K.wishes.length cW) K.wishes):=fun l M=>by rw[← C];exact (h.below M).eW
 have bm:Hid (∀ l,Below w.heap.size w l→l.cell? ⟨g,12,O⟩=some (I J K.floor)):=fun l M=>(h.below M).cell 12
 have HY:Hid (∀ l,Below w.heap.size w l→∃ K' V',Rn N w l g K V 2 K' V'):=fun l M=>⟨K,V,((Rn.refl h hi gr).below M).le (by omega)⟩
 have bn:=hi.opn _ (List.getElem_mem aa);obtain⟨bO,cc,eO,cd⟩:=qg h.rO (by omega)
 rw[ac] at eO;cases eO;obtain⟨b2,o2,e2,_,d2⟩:=HO.out w (Below.refl _ _) c aa
 cases e2;simp only[Nat.zero_add] at d2;have c9:=bz.out w (Below.refl _ _);have j1:(0:Int)≤(c:Int):=by omega
 have j2:(c:Int)<(K.opn.length:Int):=by omega
 have a6:Hid (∀ (wr P:World) (d o:Nat) (K':Kw) (V':Kv),Rn N w wr g K V d K' V'→Below wr.heap.size wr P→d≤1→(ho:o<K'.wishes.length)→Calls Tryz.prog 54 #[Zp (some ⟨g,0,O⟩),I J (-1),I J q,Z K'.wishes[o].text] P fun e w'=>e=Zr (.tuple #[])∧∃ K2 x,Rn N w w' g K V 2 K2 x):=fun wr P d o K' V' L0 hb hd ho=>by
  have L:=L0.below hb;have ht:=(L.ki.wish _ (List.getElem_mem ho)).t1;refine (sD L.kst.at_ (-1) q _ (by have:=jQ K';have:=L.ms;omega)).mono ?_
  rintro e l ⟨rfl,v,k⟩;exact⟨rfl,_,_,(L.post k (by omega) hq (by omega) ⟨_,List.getElem_mem ho,rfl⟩).le (by omega)⟩
 by_cases hv:K.opn[c]<0
 ·have bo:Hid (∀ l,Calls Tryz.prog 30 #[I J (c:Int)] l fun e w'=>e=Zr (Z (dg c))∧Below l.heap.size l w'):=fun l=>gQ c l (by omega) (by omega)
  have sc:=gu (c:Int) (by omega)
  have b4:Hid (∀ (k:Nat) (hk:k<K.wishes.length),1≤K.wishes[k].e.2.1∧K.wishes[k].e.2.1≤999):=fun k hk=>⟨(hi.wish _ (List.getElem_mem hk)).n1,(hi.wish _ (List.getElem_mem hk)).n9⟩
  have ce:K.wishes.length≤900000000000:=by have:=JX K;omega
  have HH:=ah h;have bp:=ah hi;have av:=ah gr;have b5:=ah (Rn.refl h hi gr);have HZ:=ah a4;have a7:Hid (∀ (i j:Nat) (hi:i<K.wishes.length) (hj:j<K.wishes.length),i<j→K.wishes[i].e.1=K.wishes[j].e.1→K.wishes[i].e.2.1<K.wishes[j].e.2.1):=List.pairwise_iff_getElem.1 (CI.un gr)
  have bq:=ah hq0;have br:=ah hm0;clear hq0 hm0;clear h hi gr a4 bn;generalize hovv:K.opn[c]=ov at *;go_enter Tryz.func26,Tryz.ntmps26;go_wp2_with fail;clear d2 c9;go_loopw [10,11] (fun m i wr=>∃ (k:Nat) (y:Int),k≤K.wishes.length∧1≤y∧y≤1000∧i=I J k∧m=I J y∧Below w.heap.size w wr∧Hid (∀ (j:Nat) (hj:j<K.wishes.length),j<k→K.wishes[j].e.1=(c:Int)→K.wishes[j].e.2.1<y)) (fun _ i _=>K.wishes.length-(intOf i).toNat)
  case atStart=>exact⟨0,1,Nat.zero_le _,by omega,by omega,rfl,rfl,Below.refl _ _,fun j hj h=>by omega⟩
  case round =>
   obtain⟨k,y,hk,ad,b6,rfl,rfl,Q,aw⟩:=hrel
   have c8:=a5.out _ Q;by_cases a8:k<K.wishes.length
   ·obtain⟨b3,o3,rfl,_,d3,d4,_⟩:=(HW.out _ Q).get k a8
    have j3:(0:Int)≤(k:Int):=by omega
    have j4:(k:Int)<(K.wishes.length:Int):=by omega
    obtain⟨q1,q9⟩:=b4.out k a8
    have a9:Hid (K.wishes[k].e.1=(c:Int)→∀ (j:Nat) (hj:j<K.wishes.length),j<k+1→K.wishes[j].e.1=(c:Int)→K.wishes[j].e.2.1<K.wishes[k].e.2.1+1):=fun h1 j hj b7 h2=>by
     by_cases e:j=k
     ·subst e;omega
     ·have:=a7.out j k hj a8 (by omega) (by rw[h1,h2]);omega
    have ba:Hid (K.wishes[k].e.1≠(c:Int)→∀ (j:Nat) (hj:j<K.wishes.length),j<k+1→K.wishes[j].e.1=(c:Int)→K.wishes[j].e.2.1<y):=fun h1 j hj b7 h2=>by
     by_cases e:j=k
     ·subst e;exact absurd h2 h1
     ·exact aw.out j hj (by omega) h2
    clear aw a7;generalize K.wishes[k].e.1=cl at *;generalize K.wishes[k].e.2.1=nu at *;by_cases hq':cl=(c:Int)
    ·have b8:(cl==(c:Int))=true:=beq_iff_eq.2 hq'
     have bb:=ah (a9.out hq');clear hq' a9 ba;go_wp2;go_roundw
     case rel=>exact⟨k+1,nu+1,by omega,by omega,by omega,by go_num,by go_num,Q,bb⟩
     case measure=>simp[intOf];omega
    ·have b8:(cl==(c:Int))=false:=beq_eq_false_iff_ne.2 hq'
     have bb:=ah (ba.out hq');clear hq' a9 ba;go_wp2;go_roundw
     case rel=>exact⟨k+1,y,by omega,ad,b6,by go_num,rfl,Q,bb⟩
     case measure=>simp[intOf];omega
   ·by_cases hy:999<y
    ·have HF:=ah (HY.out _ Q);go_wp2;exact bodyPost_ret (v:=.tuple #[]) (results_none rfl _ _ _) rfl ⟨rfl,HF.out⟩
    ·have bs:Hid (∀ l,Calls Tryz.prog 30 #[I J y] l fun e w'=>e=Zr (Z (dg y))∧Below l.heap.size l w'):=fun l=>gQ y l (by omega) (by omega)
     have sy:=gu y (by omega)
     have bt:Hid (∀ v∈K.wishes,v.e.1=(c:Int)→v.e.2.1<y):=fun v hv h1=>by
      obtain⟨j,hj,rfl⟩:=List.getElem_of_mem hv
      exact aw.out j hj (by omega) h1
     have bc:Hid (tx.toList.isEmpty=true→Tw (((c:Int),y,op),⟨#[113,32]⟩++dg (c:Int)++⟨#[32]⟩++dg y++⟨#[32]⟩++op)):=fun h0=>tw_q ⟨by omega,by omega⟩ ⟨ad,by omega⟩ (bq.out h0)
     have bd:Hid (¬tx.toList.isEmpty=true→Tw (((c:Int),y,⟨#[114]⟩++op),⟨#[109,32]⟩++dg (c:Int)++⟨#[32]⟩++dg y++⟨#[32]⟩++tx++⟨#[32]⟩++op)):=fun h0=>tw_m ⟨by omega,by omega⟩ ⟨ad,by omega⟩ (br.out h0)
     clear aw a7 bq br;generalize dg (c:Int)=dc at *;generalize dg y=dy at *;have z1:¬9223372036854775807<2+dc.size:=by omega
     have z2:¬9223372036854775807<2+dc.size+1:=by omega
     have z3:¬9223372036854775807<2+dc.size+1+dy.size:=by omega
     have z4:¬9223372036854775807<2+dc.size+1+dy.size+1:=by omega
     have z5:¬9223372036854775807<2+dc.size+1+dy.size+1+op.size:=by omega
     have z6:¬9223372036854775807<2+dc.size+1+dy.size+1+tx.size:=by omega
     have z7:¬9223372036854775807<2+dc.size+1+dy.size+1+tx.size+1:=by omega
     have z8:¬9223372036854775807<2+dc.size+1+dy.size+1+tx.size+1+op.size:=by omega
     have z9:¬9223372036854775807<1+op.size:=by omega
     go_wp2_with fail;refine (bo.out _).mono ?_;rintro e l ⟨rfl,bu⟩;have be:=Q.trans (bu.mono Q.size);clear c8;go_wp2_with fail;refine (bs.out _).mono ?_;rintro e U ⟨rfl,bg⟩;have ax:=be.trans (bg.mono be.size);clear bu bg be bo bs;by_cases az:tx.toList.isEmpty=true
     focus
      have bh:=ah (bc.out az);clear bc bd;go_upto_region 15 with fail
      have ae:Below w.heap.size w (U.alloc (.cells #[I J (c:Int),I J y,Z op] 66)):=ax.alloc ax.size _
      have ab:(U.alloc (.cells #[I J (c:Int),I J y,Z op] 66)).heap[U.heap.size]? = some (.cells #[I J (c:Int),I J y,Z op] 66):=heap_alloc_new U _
      have bi:1≤(⟨#[113,32]⟩++dc++⟨#[32]⟩++dy++⟨#[32]⟩++op:ByteArray).size:=by simp only[ByteArray.size_append];omega
      generalize U.alloc (.cells #[I J (c:Int),I J y,Z op] 66)=b at *;generalize (⟨#[113,32]⟩++dc++⟨#[32]⟩++dy++⟨#[32]⟩++op:ByteArray)=t at *;clear az;have af:1≤op.size:=by omega
      have ai:op.size≤9:=by omega
     rotate_left
     focus
      have bh:=ah (bd.out az);clear bc bd;go_upto_region 15 with fail
      have ae:Below w.heap.size w (U.alloc (.cells #[I J (c:Int),I J y,Z (⟨#[114]⟩++op)] 66)):=ax.alloc ax.size _
      have ab:(U.alloc (.cells #[I J (c:Int),I J y,Z (⟨#[114]⟩++op)] 66)).heap[U.heap.size]? = some (.cells #[I J (c:Int),I J y,Z (⟨#[114]⟩++op)] 66):=heap_alloc_new U _
      have bi:1≤(⟨#[109,32]⟩++dc++⟨#[32]⟩++dy++⟨#[32]⟩++tx++⟨#[32]⟩++op:ByteArray).size:=by simp only[ByteArray.size_append];omega
      have cf:(⟨#[114]⟩++op:ByteArray).size=1+op.size:=by simp only[ByteArray.size_append];rfl
      generalize U.alloc (.cells #[I J (c:Int),I J y,Z (⟨#[114]⟩++op)] 66)=b at *;generalize (⟨#[109,32]⟩++dc++⟨#[32]⟩++dy++⟨#[32]⟩++tx++⟨#[32]⟩++op:ByteArray)=t at *;generalize (⟨#[114]⟩++op:ByteArray)=W at *;clear az;have af:1≤W.size:=by omega
      have ai:W.size≤9:=by omega
     rotate_left
     all_goals
      have hA:=HH.out.below ae;have x0:b.cell? ⟨U.heap.size,0,O⟩=some (I J (c:Int)):=by simp[World.cell?,ab]
      have x1:b.cell? ⟨U.heap.size,1,O⟩=some (I J y):=by simp[World.cell?,ab]
     focus
      have x2:b.cell? ⟨U.heap.size,2,O⟩=some (Z op):=by simp[World.cell?,ab]
     rotate_left
     focus
      have x2:b.cell? ⟨U.heap.size,2,O⟩=some (Z W):=by simp[World.cell?,ab]
     rotate_left
     all_goals
      obtain⟨i0,a0,a1,a2,a3⟩:=info_parts Tryz.infoWi
      have z:=hA.rW;rw[C] at z;have c8:=a5.out _ ae;have bv:=bm.out _ ae;have f8:=hA.free 8;have B:some g≠(Y aW K.wishes.length cW).ownBlock:=by rw[← C];exact hA.gne (i:=4) rfl
      have D:g<b.heap.size:=hA.lb
      have bw:=ah hA;have bx:=ah (b5.out.below ae);clear hA ab
     ·obtain⟨X,hX⟩:∃ X:ku,X=⟨((c:Int),y,op),t,K.floor,false⟩:=⟨_,rfl⟩
      have HX:=ah hX;have ak:Hid (X.text=t):=by rw[hX];trivial
      have bj:Hid (wT X):=by rw[hX];exact⟨ad,by omega,af,ai,bi⟩
      clear hX;go_cut [] from 88 (fun wr=>∃ (x:Kv) (A a:Nat),x.vW=Y (some ⟨A,0,O⟩) (K.wishes.length+1) a∧x.vO=V.vO∧Kst N b wr g K V { K with wishes:=K.wishes++[X] } x)
      case first =>
       go_region_law (first|(refine step_append_lies (w:=(b.alloc (.cells #[I J (c:Int),I J y,Z op,Z t,I J K.floor,.bool false] 99)).drew) (by rfl) (.tmp 92) (.tmp 100) 46 (by rfl) 0 99 i0 (.agg #[I J 0,I J 0,Z Ze,Z Ze,I J 0,.bool false]) 6 64 Tryz.underlying46 a0 a1 a2 a3 rfl (by decide) (Y aW K.wishes.length cW) K.wishes.length (bT K.wishes) (by rfl) (dh (z.alloc _) (Below.refl _ _).drew) ⟨b.heap.size,0,O⟩ 1 1 [I J (c:Int),I J y,Z op,Z t,I J K.floor,.bool false] (by rfl) (by rfl) (World.news_of_block (show ((b.alloc (.cells #[I J (c:Int),I J y,Z op,Z t,I J K.floor,.bool false] 99)).drew).heap[b.heap.size]? = _ from heap_alloc_new b (.cells #[I J (c:Int),I J y,Z op,Z t,I J K.floor,.bool false] 99))) (by intro u F;simp at F;rcases F with rfl|rfl|rfl|rfl|rfl|rfl <;> rfl) (by decide) (by unfold maxLen;omega) (by omega) (Nat.zero_le _) (b.heap.size+1) (by simp) ?_;intro A a w4 hown4 hg4 hat4 hlt4;have s:Below b.heap.size b ((b.alloc (.cells #[I J (c:Int),I J y,Z op,Z t,I J K.floor,.bool false] 99)).drew):=(((Below.refl _ b).alloc (Nat.le_refl _) _).drew);have t4:w4.cell? ⟨g,8,O⟩=some (Y aW K.wishes.length cW):=(hg4.cell_far ⟨g,8,O⟩ (by simp;omega) B).trans ((s.cell (p:=⟨g,8,O⟩) D).trans c8);have f4:w4.frozen? ⟨g,8,O⟩=false:=(hg4.frozen_far ⟨g,8,O⟩ (by simp;omega) B).trans ((s.frozen (p:=⟨g,8,O⟩) D).trans f8))|(refine step_append_lies (w:=b.drew.alloc (.cells #[I J (c:Int),I J y,Z op,Z t,I J K.floor,.bool false] 99)) (by rfl) (.tmp 92) (.tmp 100) 46 (by rfl) 0 99 i0 (.agg #[I J 0,I J 0,Z Ze,Z Ze,I J 0,.bool false]) 6 64 Tryz.underlying46 a0 a1 a2 a3 rfl (by decide) (Y aW K.wishes.length cW) K.wishes.length (bT K.wishes) (by rfl) ((dh z (Below.refl _ _).drew).alloc _) ⟨b.heap.size,0,O⟩ 1 1 [I J (c:Int),I J y,Z op,Z t,I J K.floor,.bool false] (by rfl) (by rfl) (World.news_of_block (heap_alloc_new b.drew (.cells #[I J (c:Int),I J y,Z op,Z t,I J K.floor,.bool false] 99))) (by intro u F;simp at F;rcases F with rfl|rfl|rfl|rfl|rfl|rfl <;> rfl) (by decide) (by unfold maxLen;omega) (by omega) (Nat.zero_le _) (b.heap.size+1) (by simp) ?_;intro A a w4 hown4 hg4 hat4 hlt4;have s:Below b.heap.size b (b.drew.alloc (.cells #[I J (c:Int),I J y,Z op,Z t,I J K.floor,.bool false] 99)):=((Below.refl _ b).drew.alloc (Nat.le_refl _) _);have t4:w4.cell? ⟨g,8,O⟩=some (Y aW K.wishes.length cW):=(hg4.cell_far ⟨g,8,O⟩ (by simp;omega) B).trans ((s.cell (p:=⟨g,8,O⟩) D).trans c8);have f4:w4.frozen? ⟨g,8,O⟩=false:=(hg4.frozen_far ⟨g,8,O⟩ (by simp;omega) B).trans ((s.frozen (p:=⟨g,8,O⟩) D).trans f8)))
       all_goals
        have e4:bT (K.wishes++[X])=bT K.wishes++[I J (c:Int),I J y,Z op,Z t,I J K.floor,.bool false]:=by rw[oK,HX.out];rfl
        have al:w4.ownsRow 0 99 6 (Y (some ⟨A,0,O⟩) (K.wishes.length+1) a) (K.wishes++[X]).length (bT (K.wishes++[X])):=by
         rw[e4,show (K.wishes++[X]).length=K.wishes.length+1 by simp];exact hown4
        have G:=ah (bw.out.newRow (V':={ V with vW:=Y (some ⟨A,0,O⟩) (K.wishes.length+1) a }) (K':={ K with wishes:=K.wishes++[X] }) (i:=4) (w1:=w4) (r:=⟨99,6,V.vW,K.wishes.length,bT K.wishes⟩) (r':=⟨99,6,Y (some ⟨A,0,O⟩) (K.wishes.length+1) a,(K.wishes++[X]).length,bT (K.wishes++[X])⟩) rfl
         ((Kp.of_below s).trans' (by rw[C];exact Kp.row hg4)) al (fun u F=>by
          simp[Value.ownBlock] at F;subst F
          show V.vW.ownBlock=_∨_
          rw[C];exact hat4.imp (fun q=>q) (fun q=>by omega)) 8 rfl rfl rfl)
        clear hown4 hg4 hat4 hlt4 al e4;go_wp2_with fail;go_meet
        case rel=>exact⟨{ V with vW:=Y (some ⟨A,0,O⟩) (K.wishes.length+1) a },A,a,rfl,rfl,G.out⟩
      case rest =>
       obtain⟨x,A,a,R,am,kk⟩:=hcut
       have G:=ah kk;clear kk x0 x1 x2 c8 bv f8 z B;have f:x.vO=Y (some ⟨bO,0,O⟩) K.opn.length cO:=by rw[am];exact ac
       have c8:wc.cell? ⟨g,8,O⟩=some (Y (some ⟨A,0,O⟩) (K.wishes.length+1) a):=by rw[← R];exact G.out.at_.cell 8
       have c9:wc.cell? ⟨g,9,O⟩=some (Y (some ⟨bO,0,O⟩) K.opn.length cO):=by rw[← f];exact G.out.at_.cell 9
       obtain⟨b9,o9,e9,_,d9⟩:=G.out.at_.opn f (Below.refl _ _) c aa
       cases e9;simp only[Nat.zero_add] at d9;have f9:=G.out.at_.fz (i:=5) (r:=⟨3,1,x.vO,K.opn.length,K.opn.map (Value.int .i64)⟩) rfl f c;have nw:IntKind.i64.wrap (((K.wishes.length+1:Nat):Int)-1)=(K.wishes.length:Int):=by rw[gq (by omega) (by omega)];omega
       have bk:IntKind.i64.wrap ((K.wishes.length:Int)+1-1)=(K.wishes.length:Int):=by rw[gq (by omega) (by omega)];omega
       have an:Hid (Kst N wc (wc.setCell ⟨bO,c,O⟩ (I J (K.wishes.length:Int))) g { K with wishes:=K.wishes++[X] } x (kY K c X) x):=G.out.at_.setO f c (K.wishes.length:Int)
       have ao:Hid (Rn N w (wc.setCell ⟨bO,c,O⟩ (I J (K.wishes.length:Int))) g K V 1 (kY K c X) x):=⟨bx.out.kst.trans (G.out.trans an.out),bp.out.ask c X bj.out,by rw[EL];exact Nat.le_refl _,rfl,CI.ask av.out (w:=X) (by rw[HX.out];exact bh.out) (fun v hv h1=>by rw[HX.out] at h1 ⊢;exact bt.out v hv h1) (by rw[HX.out];exact (CI.fl av.out).1) (by rw[HX.out]) rfl rfl rfl rfl rfl rfl rfl rfl rfl⟩
       clear an am;go_wp2_with fail;go_region;have HL:=ah (ao.out.below (Below.refl _ _).drew);generalize (wc.setCell ⟨bO,c,O⟩ (I J (K.wishes.length:Int))).drew=P at *;clear c8 c9 d9 f9 nw bk ao;have H:K.wishes.length<(kY K c X).wishes.length:=by simp[kY]
       have S:(kY K c X).wishes[K.wishes.length]=X:=by simp[kY]
       have c8:P.cell? ⟨g,8,O⟩=some (Y (some ⟨A,0,O⟩) (K.wishes.length+1) a):=by rw[← R];exact HL.out.kst.at_.cell 8
       have c9:P.cell? ⟨g,9,O⟩=some (Y (some ⟨bO,0,O⟩) K.opn.length cO):=by rw[← f];exact HL.out.kst.at_.cell 9
       have ap:c<(kY K c X).opn.length:=by simpa [kY] using aa
       obtain⟨b9,o9,e9,_,d9⟩:=HL.out.kst.at_.opn (n:=K.opn.length) f (Below.refl _ _) c ap
       cases e9;have aq:(kY K c X).opn[c]=(K.wishes.length:Int):=by simp[kY]
       rw[aq] at d9;simp only[Nat.zero_add] at d9;have T:kV P x.vW (kY K c X).wishes:=HL.out.kst.at_.eW
       rw[R] at T;obtain⟨ca,cb,bl,_,_,_,_,ar,_⟩:=T.get K.wishes.length H
       cases bl;rw[S,ak.out] at ar;simp only[Nat.zero_add] at ar;have HQ:=ah (fun w7 hb=>a6.out P w7 1 K.wishes.length _ _ HL.out hb (by omega) H)
       rw[S,ak.out] at HQ;have k5:(K.wishes.length:Int)<((K.wishes.length+1:Nat):Int):=by omega
       have k6:(0:Int)≤(K.wishes.length:Int):=by omega
       clear T S aq;go_wp2_with fail;go_region_with (go_at_call 54;refine (HQ.out _ (Below.refl _ _).drew).mono ?_;rintro e w7 ⟨rfl,hR⟩)
       all_goals
        have HR:=ah hR;clear hR;go_wp2_with fail;refine bodyPost_end (results_none rfl _ _ _) rfl ?_;exact⟨rfl,HR.out⟩
     ·obtain⟨X,hX⟩:∃ X:ku,X=⟨((c:Int),y,W),t,K.floor,false⟩:=⟨_,rfl⟩
      have HX:=ah hX;have ak:Hid (X.text=t):=by rw[hX];trivial
      have bj:Hid (wT X):=by rw[hX];exact⟨ad,by omega,af,ai,bi⟩
      clear hX;go_cut [] from 88 (fun wr=>∃ (x:Kv) (A a:Nat),x.vW=Y (some ⟨A,0,O⟩) (K.wishes.length+1) a∧x.vO=V.vO∧Kst N b wr g K V { K with wishes:=K.wishes++[X] } x)
      case first =>
       go_region_law (first|(refine step_append_lies (w:=(b.alloc (.cells #[I J (c:Int),I J y,Z W,Z t,I J K.floor,.bool false] 99)).drew) (by rfl) (.tmp 92) (.tmp 100) 46 (by rfl) 0 99 i0 (.agg #[I J 0,I J 0,Z Ze,Z Ze,I J 0,.bool false]) 6 64 Tryz.underlying46 a0 a1 a2 a3 rfl (by decide) (Y aW K.wishes.length cW) K.wishes.length (bT K.wishes) (by rfl) (dh (z.alloc _) (Below.refl _ _).drew) ⟨b.heap.size,0,O⟩ 1 1 [I J (c:Int),I J y,Z W,Z t,I J K.floor,.bool false] (by rfl) (by rfl) (World.news_of_block (show ((b.alloc (.cells #[I J (c:Int),I J y,Z W,Z t,I J K.floor,.bool false] 99)).drew).heap[b.heap.size]? = _ from heap_alloc_new b (.cells #[I J (c:Int),I J y,Z W,Z t,I J K.floor,.bool false] 99))) (by intro u F;simp at F;rcases F with rfl|rfl|rfl|rfl|rfl|rfl <;> rfl) (by decide) (by unfold maxLen;omega) (by omega) (Nat.zero_le _) (b.heap.size+1) (by simp) ?_;intro A a w4 hown4 hg4 hat4 hlt4;have s:Below b.heap.size b ((b.alloc (.cells #[I J (c:Int),I J y,Z W,Z t,I J K.floor,.bool false] 99)).drew):=(((Below.refl _ b).alloc (Nat.le_refl _) _).drew);have t4:w4.cell? ⟨g,8,O⟩=some (Y aW K.wishes.length cW):=(hg4.cell_far ⟨g,8,O⟩ (by simp;omega) B).trans ((s.cell (p:=⟨g,8,O⟩) D).trans c8);have f4:w4.frozen? ⟨g,8,O⟩=false:=(hg4.frozen_far ⟨g,8,O⟩ (by simp;omega) B).trans ((s.frozen (p:=⟨g,8,O⟩) D).trans f8))|(refine step_append_lies (w:=b.drew.alloc (.cells #[I J (c:Int),I J y,Z W,Z t,I J K.floor,.bool false] 99)) (by rfl) (.tmp 92) (.tmp 100) 46 (by rfl) 0 99 i0 (.agg #[I J 0,I J 0,Z Ze,Z Ze,I J 0,.bool false]) 6 64 Tryz.underlying46 a0 a1 a2 a3 rfl (by decide) (Y aW K.wishes.length cW) K.wishes.length (bT K.wishes) (by rfl) ((dh z (Below.refl _ _).drew).alloc _) ⟨b.heap.size,0,O⟩ 1 1 [I J (c:Int),I J y,Z W,Z t,I J K.floor,.bool false] (by rfl) (by rfl) (World.news_of_block (heap_alloc_new b.drew (.cells #[I J (c:Int),I J y,Z W,Z t,I J K.floor,.bool false] 99))) (by intro u F;simp at F;rcases F with rfl|rfl|rfl|rfl|rfl|rfl <;> rfl) (by decide) (by unfold maxLen;omega) (by omega) (Nat.zero_le _) (b.heap.size+1) (by simp) ?_;intro A a w4 hown4 hg4 hat4 hlt4;have s:Below b.heap.size b (b.drew.alloc (.cells #[I J (c:Int),I J y,Z W,Z t,I J K.floor,.bool false] 99)):=((Below.refl _ b).drew.alloc (Nat.le_refl _) _);have t4:w4.cell? ⟨g,8,O⟩=some (Y aW K.wishes.length cW):=(hg4.cell_far ⟨g,8,O⟩ (by simp;omega) B).trans ((s.cell (p:=⟨g,8,O⟩) D).trans c8);have f4:w4.frozen? ⟨g,8,O⟩=false:=(hg4.frozen_far ⟨g,8,O⟩ (by simp;omega) B).trans ((s.frozen (p:=⟨g,8,O⟩) D).trans f8)))
       all_goals
        have e4:bT (K.wishes++[X])=bT K.wishes++[I J (c:Int),I J y,Z W,Z t,I J K.floor,.bool false]:=by rw[oK,HX.out];rfl
        have al:w4.ownsRow 0 99 6 (Y (some ⟨A,0,O⟩) (K.wishes.length+1) a) (K.wishes++[X]).length (bT (K.wishes++[X])):=by
         rw[e4,show (K.wishes++[X]).length=K.wishes.length+1 by simp];exact hown4
        have G:=ah (bw.out.newRow (V':={ V with vW:=Y (some ⟨A,0,O⟩) (K.wishes.length+1) a }) (K':={ K with wishes:=K.wishes++[X] }) (i:=4) (w1:=w4) (r:=⟨99,6,V.vW,K.wishes.length,bT K.wishes⟩) (r':=⟨99,6,Y (some ⟨A,0,O⟩) (K.wishes.length+1) a,(K.wishes++[X]).length,bT (K.wishes++[X])⟩) rfl
         ((Kp.of_below s).trans' (by rw[C];exact Kp.row hg4)) al (fun u F=>by
          simp[Value.ownBlock] at F;subst F
          show V.vW.ownBlock=_∨_
          rw[C];exact hat4.imp (fun q=>q) (fun q=>by omega)) 8 rfl rfl rfl)
        clear hown4 hg4 hat4 hlt4 al e4;go_wp2_with fail;go_meet
        case rel=>exact⟨{ V with vW:=Y (some ⟨A,0,O⟩) (K.wishes.length+1) a },A,a,rfl,rfl,G.out⟩
      case rest =>
       obtain⟨x,A,a,R,am,kk⟩:=hcut
       have G:=ah kk;clear kk x0 x1 x2 c8 bv f8 z B;have f:x.vO=Y (some ⟨bO,0,O⟩) K.opn.length cO:=by rw[am];exact ac
       have c8:wc.cell? ⟨g,8,O⟩=some (Y (some ⟨A,0,O⟩) (K.wishes.length+1) a):=by rw[← R];exact G.out.at_.cell 8
       have c9:wc.cell? ⟨g,9,O⟩=some (Y (some ⟨bO,0,O⟩) K.opn.length cO):=by rw[← f];exact G.out.at_.cell 9
       obtain⟨b9,o9,e9,_,d9⟩:=G.out.at_.opn f (Below.refl _ _) c aa
       cases e9;simp only[Nat.zero_add] at d9;have f9:=G.out.at_.fz (i:=5) (r:=⟨3,1,x.vO,K.opn.length,K.opn.map (Value.int .i64)⟩) rfl f c;have nw:IntKind.i64.wrap (((K.wishes.length+1:Nat):Int)-1)=(K.wishes.length:Int):=by rw[gq (by omega) (by omega)];omega
       have bk:IntKind.i64.wrap ((K.wishes.length:Int)+1-1)=(K.wishes.length:Int):=by rw[gq (by omega) (by omega)];omega
       have an:Hid (Kst N wc (wc.setCell ⟨bO,c,O⟩ (I J (K.wishes.length:Int))) g { K with wishes:=K.wishes++[X] } x (kY K c X) x):=G.out.at_.setO f c (K.wishes.length:Int)
       have ao:Hid (Rn N w (wc.setCell ⟨bO,c,O⟩ (I J (K.wishes.length:Int))) g K V 1 (kY K c X) x):=⟨bx.out.kst.trans (G.out.trans an.out),bp.out.ask c X bj.out,by rw[EL];exact Nat.le_refl _,rfl,CI.ask av.out (w:=X) (by rw[HX.out];exact bh.out) (fun v hv h1=>by rw[HX.out] at h1 ⊢;exact bt.out v hv h1) (by rw[HX.out];exact (CI.fl av.out).1) (by rw[HX.out]) rfl rfl rfl rfl rfl rfl rfl rfl rfl⟩
       clear an am;go_wp2_with fail;go_region;have HL:=ah (ao.out.below (Below.refl _ _).drew);generalize (wc.setCell ⟨bO,c,O⟩ (I J (K.wishes.length:Int))).drew=P at *;clear c8 c9 d9 f9 nw bk ao;have H:K.wishes.length<(kY K c X).wishes.length:=by simp[kY]
       have S:(kY K c X).wishes[K.wishes.length]=X:=by simp[kY]
       have c8:P.cell? ⟨g,8,O⟩=some (Y (some ⟨A,0,O⟩) (K.wishes.length+1) a):=by rw[← R];exact HL.out.kst.at_.cell 8
       have c9:P.cell? ⟨g,9,O⟩=some (Y (some ⟨bO,0,O⟩) K.opn.length cO):=by rw[← f];exact HL.out.kst.at_.cell 9
       have ap:c<(kY K c X).opn.length:=by simpa [kY] using aa
       obtain⟨b9,o9,e9,_,d9⟩:=HL.out.kst.at_.opn (n:=K.opn.length) f (Below.refl _ _) c ap
       cases e9;have aq:(kY K c X).opn[c]=(K.wishes.length:Int):=by simp[kY]
       rw[aq] at d9;simp only[Nat.zero_add] at d9;have T:kV P x.vW (kY K c X).wishes:=HL.out.kst.at_.eW
       rw[R] at T;obtain⟨ca,cb,bl,_,_,_,_,ar,_⟩:=T.get K.wishes.length H
       cases bl;rw[S,ak.out] at ar;simp only[Nat.zero_add] at ar;have HQ:=ah (fun w7 hb=>a6.out P w7 1 K.wishes.length _ _ HL.out hb (by omega) H)
       rw[S,ak.out] at HQ;have k5:(K.wishes.length:Int)<((K.wishes.length+1:Nat):Int):=by omega
       have k6:(0:Int)≤(K.wishes.length:Int):=by omega
       clear T S aq;go_wp2_with fail;go_region_with (go_at_call 54;refine (HQ.out _ (Below.refl _ _).drew).mono ?_;rintro e w7 ⟨rfl,hR⟩)
       all_goals
        have HR:=ah hR;clear hR;go_wp2_with fail;refine bodyPost_end (results_none rfl _ _ _) rfl ?_;exact⟨rfl,HR.out⟩
 ·obtain⟨o,ho⟩:=Int.eq_ofNat_of_zero_le (show 0≤K.opn[c] by omega)
  have H:o<K.wishes.length:=by omega
  obtain⟨b3,o3,rfl,bg,_,_,_,d3,_⟩:=(HW.out w (Below.refl _ _)).get o H
  have c8:=a5.out w (Below.refl _ _);rw[ho] at d2;have j0:¬(o:Int)<0:=by omega
  have j3:(0:Int)≤(o:Int):=by omega
  have j4:(o:Int)<(K.wishes.length:Int):=by omega
  have HQ:=ah (fun P hb=>a6.out w P 0 o K V (Rn.refl h hi gr) hb (by omega) H)
  clear h hi gr a4 bn hv ho;generalize K.wishes[o].text=tt at *;go_enter Tryz.func26,Tryz.ntmps26;go_wp2_with fail;go_region_with (go_at_call 54;refine (HQ.out _ (Below.refl _ _).drew).mono ?_;rintro e w7 ⟨rfl,hR⟩)
  all_goals
   have HR:=ah hR;clear hR;go_wp2_with fail;refine bodyPost_end (results_none rfl _ _ _) rfl ?_;exact⟨rfl,HR.out⟩
end
end Go.Proofs.YtinaollfjiddmaaGreatDoor
