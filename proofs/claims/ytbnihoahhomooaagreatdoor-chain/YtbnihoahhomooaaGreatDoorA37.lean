import Derived.Test.YtbnihoahhomooaaGreatDoorA35
set_option maxRecDepth 100000
set_option maxHeartbeats 8000000
set_option linter.all false
namespace Go.Proofs.YtbnihoahhomooaaGreatDoor
open Go.Value renaming int→I,slice→Y,string→Z,pointer→Zp
open Go.Ending renaming returned→Zr
open _root_.ByteArray renaming empty→Ze
open Go.IntKind renaming i64→J
open Option renaming none→O
open Go.RowKit
section
variable {N:Nat} {w w':World} {g:Nat} {K K':Kw} {V V':Kv}
theorem Tryz.infoWi:(Tryz.prog.info? 99).map (fun i=>(i.zero,i.size,i.bytes))=some (some (.agg #[I J 0,I J 0,Z Ze,Z Ze,I J 0,.bool false]),6,64):=by kernel_rfl
def jZ (K:Kw) (c:Nat) (x:jS):Kw:={ K with wishes:=K.wishes++[x],opn:=K.opn.set c (K.wishes.length:Int) }
theorem KI.ask (h:KI K) (c:Nat) (x:jS) (hx:vK x):KI (jZ K c x) :=
 ⟨⟨h.sz.n3,h.sz.n7,h.sz.nds,h.sz.down,h.sz.begun,by unfold jZ;simpa using h.sz.opn⟩,h.part,h.nod,h.net,fun y hy=>by
  rcases List.mem_append.1 hy with q|q
  ·exact h.wish y q
  ·simp at q;subst q;exact hx,fun v hv=>by
  unfold jZ at *;simp only[List.length_append,List.length_cons,List.length_nil] at *;rcases List.mem_or_eq_of_mem_set hv with q|rfl
  ·have:=h.opn v q;omega
  ·omega,h.list,h.grps,h.li,h.gl⟩
theorem Es (c:Nat) (x:jS):dI (jZ K c x)=dI K+1:=by
 unfold dI jZ;simp only[List.length_append,List.length_cons,List.length_nil];omega
theorem Pj (op:ByteArray):iU (⟨#[114]⟩++op)=true:=by unfold iU;simp[ByteArray.data_append]
theorem MQ (op:ByteArray):(⟨#[114]⟩++op:ByteArray).extract 1 (⟨#[114]⟩++op:ByteArray).size=op:=by
 apply bytes_inj
 rw[drop1];simp[ByteArray.data_append]
theorem tw_q {c y:Int} {op:ByteArray} (hc:1≤c∧c≤9) (hy:1≤y∧y≤999) (h:iU op=false∧(32:UInt8)∉op.data.toList):Tw ((c,y,op),⟨#[113,32]⟩++dg c++⟨#[32]⟩++dg y++⟨#[32]⟩++op) :=
 ⟨hc,hy,fun _=>⟨rfl,h.2⟩,fun q=>by rw[show eT (c,y,op)=iU op from rfl,h.1] at q;cases q⟩
theorem tw_m {c y:Int} {op tx:ByteArray} (hc:1≤c∧c≤9) (hy:1≤y∧y≤999) (h:(∃ E:Int,0≤E∧E≤10∧tx=dg E)∧(32:UInt8)∉op.data.toList):Tw ((c,y,⟨#[114]⟩++op),⟨#[109,32]⟩++dg c++⟨#[32]⟩++dg y++⟨#[32]⟩++tx++⟨#[32]⟩++op):=by
 obtain⟨⟨E,e0,e1,rfl⟩,h2⟩:=h
 have hr:=Pj op;have he:=MQ op;generalize (⟨#[114]⟩++op:ByteArray)=OP at *;refine⟨hc,hy,fun q=>?_,fun _=>⟨⟨E,e0,e1,?_⟩,?_⟩⟩
 ·have q:iU OP=false:=q
  rw[hr] at q;cases q
 ·unfold mTx;simp only
  rw[he]
  rfl
 ·simp only
  rw[he];exact h2
theorem BO (h:KAt N w g K V) (hi:KI K) (gr:Gr K) (c q:Nat) (hc0:1≤c) (hc1:c≤9) (hq:(q:Int)<K.n) (op tx:ByteArray) (ho1:1≤op.size) (ho8:op.size≤8) (htx:tx.size≤100) (hq0:tx.toList.isEmpty=true→iU op=false∧(32:UInt8)∉op.data.toList) (hm0:¬tx.toList.isEmpty=true→(∃ E:Int,0≤E∧E≤10∧tx=dg E)∧(32:UInt8)∉op.data.toList) (hm:dI K+100≤900000000000) :
  Calls Tryz.prog 27 #[Zp (some ⟨g,0,O⟩),I J c,I J q,Z op,Z tx] w fun e w'=>e=Zr (.tuple #[])∧∃ K' V',Rn N w w' g K V 2 K' V':=by
 have z10:=hi.sz.opn;have hop:c<K.opn.length:=by omega
 obtain⟨aO,cO,hvO⟩:=aj h.rO
 have HC9:Hid (∀ w2,Below w.heap.size w w2→w2.cell? ⟨g,9,O⟩=some (Y aO K.opn.length cO)):=fun w2 hw2=>by rw[← hvO];exact (h.below hw2).cell 9
 have HO:=ah (fun (w2:World) (hw2:Below w.heap.size w w2)=>KAt.opn h hvO hw2)
 obtain⟨aW,cW,hvW⟩:=aj h.rW
 have HC8:Hid (∀ w2,Below w.heap.size w w2→w2.cell? ⟨g,8,O⟩=some (Y aW K.wishes.length cW)):=fun w2 hw2=>by rw[← hvW];exact (h.below hw2).cell 8
 have HW:Hid (∀ w2,Below w.heap.size w w2→jY w2 (Y aW K.wishes.length cW) K.wishes):=fun w2 hw2=>by rw[← hvW];exact (h.below hw2).eW
 have HC12:Hid (∀ w2,Below w.heap.size w w2→w2.cell? ⟨g,12,O⟩=some (I J K.floor)):=fun w2 hw2=>(h.below hw2).cell 12
 have HY:Hid (∀ w2,Below w.heap.size w w2→∃ K' V',Rn N w w2 g K V 2 K' V'):=fun w2 hw2=>⟨K,V,((Rn.refl h hi gr).below hw2).le (by omega)⟩
 have hov:=hi.opn _ (List.getElem_mem hop);obtain⟨bO,capO,eO,hbO⟩:=pF h.rO (by omega)
 rw[hvO] at eO;cases eO;obtain⟨b2,o2,e2,_,d2⟩:=HO.out w (Below.refl _ _) c hop
 cases e2;simp only[Nat.zero_add] at d2;have c9:=HC9.out w (Below.refl _ _);have j1:(0:Int)≤(c:Int):=by omega
 have j2:(c:Int)<(K.opn.length:Int):=by omega
 have HPo:Hid (∀ (wr w6:World) (d o:Nat) (K':Kw) (V':Kv),Rn N w wr g K V d K' V'→Below wr.heap.size wr w6→d≤1→(ho:o<K'.wishes.length)→Calls Tryz.prog 55 #[Zp (some ⟨g,0,O⟩),I J (-1),I J q,Z K'.wishes[o].text] w6 fun e w'=>e=Zr (.tuple #[])∧∃ K2 V2,Rn N w w' g K V 2 K2 V2):=fun wr w6 d o K' V' L0 hb hd ho=>by
  have L:=L0.below hb;have ht:=(L.ki.wish _ (List.getElem_mem ho)).t1;refine (lY L.kst.at_ (-1) q _ (by have:=iV K';have:=L.ms;omega)).mono ?_
  rintro e w2 ⟨rfl,v,k⟩;exact⟨rfl,_,_,(L.post k (by omega) hq (by omega) ⟨_,List.getElem_mem ho,rfl⟩).le (by omega)⟩
 by_cases hv:K.opn[c]<0
 ·have HNc:Hid (∀ w2,Calls Tryz.prog 31 #[I J (c:Int)] w2 fun e w'=>e=Zr (Z (dg c))∧Below w2.heap.size w2 w'):=fun w2=>gI c w2 (by omega) (by omega)
  have sc:=fO (c:Int) (by omega)
  have HWn:Hid (∀ (k:Nat) (hk:k<K.wishes.length),1≤K.wishes[k].e.2.1∧K.wishes[k].e.2.1≤999):=fun k hk=>⟨(hi.wish _ (List.getElem_mem hk)).n1,(hi.wish _ (List.getElem_mem hk)).n9⟩
  have hwl:K.wishes.length≤900000000000:=by have:=Ju K;omega
  have HH:=ah h;have HKI:=ah hi;have HGr:=ah gr;have HR0:=ah (Rn.refl h hi gr);have HZ:=ah z10;have HUn:Hid (∀ (i j:Nat) (hi:i<K.wishes.length) (hj:j<K.wishes.length),i<j→K.wishes[i].e.1=K.wishes[j].e.1→K.wishes[i].e.2.1<K.wishes[j].e.2.1):=List.pairwise_iff_getElem.1 (CI.un gr)
  have HQ0:=ah hq0;have HM0:=ah hm0;clear hq0 hm0;clear h hi gr z10 hov;generalize hovv:K.opn[c]=ov at *;go_enter Tryz.func27,Tryz.ntmps27;go_wp2_with fail;clear d2 c9;go_loopw [10,11] (fun m i wr=>∃ (k:Nat) (y:Int),k≤K.wishes.length∧1≤y∧y≤1000∧i=I J k∧m=I J y∧Below w.heap.size w wr∧Hid (∀ (j:Nat) (hj:j<K.wishes.length),j<k→K.wishes[j].e.1=(c:Int)→K.wishes[j].e.2.1<y)) (fun _ i _=>K.wishes.length-(intOf i).toNat)
  case atStart=>exact⟨0,1,Nat.zero_le _,by omega,by omega,rfl,rfl,Below.refl _ _,fun j hj h=>by omega⟩
  case round =>
   obtain⟨k,y,hk,hy1,hy9,rfl,rfl,hbw,HFy⟩:=hrel
   have c8:=HC8.out _ hbw;by_cases hlt:k<K.wishes.length
   ·obtain⟨b3,o3,rfl,_,d3,d4,_⟩:=(HW.out _ hbw).get k hlt
    have j3:(0:Int)≤(k:Int):=by omega
    have j4:(k:Int)<(K.wishes.length:Int):=by omega
    obtain⟨q1,q9⟩:=HWn.out k hlt
    have HF1:Hid (K.wishes[k].e.1=(c:Int)→∀ (j:Nat) (hj:j<K.wishes.length),j<k+1→K.wishes[j].e.1=(c:Int)→K.wishes[j].e.2.1<K.wishes[k].e.2.1+1):=fun h1 j hj hjk h2=>by
     by_cases e:j=k
     ·subst e;omega
     ·have:=HUn.out j k hj hlt (by omega) (by rw[h1,h2]);omega
    have HF2:Hid (K.wishes[k].e.1≠(c:Int)→∀ (j:Nat) (hj:j<K.wishes.length),j<k+1→K.wishes[j].e.1=(c:Int)→K.wishes[j].e.2.1<y):=fun h1 j hj hjk h2=>by
     by_cases e:j=k
     ·subst e;exact absurd h2 h1
     ·exact HFy.out j hj (by omega) h2
    clear HFy HUn;generalize K.wishes[k].e.1=cl at *;generalize K.wishes[k].e.2.1=nu at *;by_cases hq':cl=(c:Int)
    ·have hq2:(cl==(c:Int))=true:=beq_iff_eq.2 hq'
     have HFn:=ah (HF1.out hq');clear hq' HF1 HF2;go_wp2;go_roundw
     case rel=>exact⟨k+1,nu+1,by omega,by omega,by omega,by go_num,by go_num,hbw,HFn⟩
     case measure=>simp[intOf];omega
    ·have hq2:(cl==(c:Int))=false:=beq_eq_false_iff_ne.2 hq'
     have HFn:=ah (HF2.out hq');clear hq' HF1 HF2;go_wp2;go_roundw
     case rel=>exact⟨k+1,y,by omega,hy1,hy9,by go_num,rfl,hbw,HFn⟩
     case measure=>simp[intOf];omega
   ·by_cases hy:999<y
    ·have HF:=ah (HY.out _ hbw);go_wp2;exact bodyPost_ret (v:=.tuple #[]) (results_none rfl _ _ _) rfl ⟨rfl,HF.out⟩
    ·have HNy:Hid (∀ w2,Calls Tryz.prog 31 #[I J y] w2 fun e w'=>e=Zr (Z (dg y))∧Below w2.heap.size w2 w'):=fun w2=>gI y w2 (by omega) (by omega)
     have sy:=fO y (by omega)
     have HFr:Hid (∀ v∈K.wishes,v.e.1=(c:Int)→v.e.2.1<y):=fun v hv h1=>by
      obtain⟨j,hj,rfl⟩:=List.getElem_of_mem hv
      exact HFy.out j hj (by omega) h1
     have HTq:Hid (tx.toList.isEmpty=true→Tw (((c:Int),y,op),⟨#[113,32]⟩++dg (c:Int)++⟨#[32]⟩++dg y++⟨#[32]⟩++op)):=fun h0=>tw_q ⟨by omega,by omega⟩ ⟨hy1,by omega⟩ (HQ0.out h0)
     have HTm:Hid (¬tx.toList.isEmpty=true→Tw (((c:Int),y,⟨#[114]⟩++op),⟨#[109,32]⟩++dg (c:Int)++⟨#[32]⟩++dg y++⟨#[32]⟩++tx++⟨#[32]⟩++op)):=fun h0=>tw_m ⟨by omega,by omega⟩ ⟨hy1,by omega⟩ (HM0.out h0)
     clear HFy HUn HQ0 HM0;generalize dg (c:Int)=dc at *;generalize dg y=dy at *;have z1:¬9223372036854775807<2+dc.size:=by omega
     have z2:¬9223372036854775807<2+dc.size+1:=by omega
     have z3:¬9223372036854775807<2+dc.size+1+dy.size:=by omega
     have z4:¬9223372036854775807<2+dc.size+1+dy.size+1:=by omega
     have z5:¬9223372036854775807<2+dc.size+1+dy.size+1+op.size:=by omega
     have z6:¬9223372036854775807<2+dc.size+1+dy.size+1+tx.size:=by omega
     have z7:¬9223372036854775807<2+dc.size+1+dy.size+1+tx.size+1:=by omega
     have z8:¬9223372036854775807<2+dc.size+1+dy.size+1+tx.size+1+op.size:=by omega
     have z9:¬9223372036854775807<1+op.size:=by omega
     go_wp2_with fail;refine (HNc.out _).mono ?_;rintro e w2 ⟨rfl,hb2⟩;have w2x:=hbw.trans (hb2.mono hbw.size);clear c8;go_wp2_with fail;refine (HNy.out _).mono ?_;rintro e w3 ⟨rfl,hb3⟩;have w3x:=w2x.trans (hb3.mono w2x.size);clear hb2 hb3 w2x HNc HNy;by_cases ht0:tx.toList.isEmpty=true
     focus
      have HTw:=ah (HTq.out ht0);clear HTq HTm;go_upto_region 15 with fail
      have wYx:Below w.heap.size w (w3.alloc (.cells #[I J (c:Int),I J y,Z op] 66)):=w3x.alloc w3x.size _
      have hbx:(w3.alloc (.cells #[I J (c:Int),I J y,Z op] 66)).heap[w3.heap.size]? = some (.cells #[I J (c:Int),I J y,Z op] 66):=heap_alloc_new w3 _
      have hTT:1≤(⟨#[113,32]⟩++dc++⟨#[32]⟩++dy++⟨#[32]⟩++op:ByteArray).size:=by simp only[ByteArray.size_append];omega
      generalize w3.alloc (.cells #[I J (c:Int),I J y,Z op] 66)=wY at *;generalize (⟨#[113,32]⟩++dc++⟨#[32]⟩++dy++⟨#[32]⟩++op:ByteArray)=TT at *;clear ht0;have hOP1:1≤op.size:=by omega
      have hOP9:op.size≤9:=by omega
     rotate_left
     focus
      have HTw:=ah (HTm.out ht0);clear HTq HTm;go_upto_region 15 with fail
      have wYx:Below w.heap.size w (w3.alloc (.cells #[I J (c:Int),I J y,Z (⟨#[114]⟩++op)] 66)):=w3x.alloc w3x.size _
      have hbx:(w3.alloc (.cells #[I J (c:Int),I J y,Z (⟨#[114]⟩++op)] 66)).heap[w3.heap.size]? = some (.cells #[I J (c:Int),I J y,Z (⟨#[114]⟩++op)] 66):=heap_alloc_new w3 _
      have hTT:1≤(⟨#[109,32]⟩++dc++⟨#[32]⟩++dy++⟨#[32]⟩++tx++⟨#[32]⟩++op:ByteArray).size:=by simp only[ByteArray.size_append];omega
      have hOP:(⟨#[114]⟩++op:ByteArray).size=1+op.size:=by simp only[ByteArray.size_append];rfl
      generalize w3.alloc (.cells #[I J (c:Int),I J y,Z (⟨#[114]⟩++op)] 66)=wY at *;generalize (⟨#[109,32]⟩++dc++⟨#[32]⟩++dy++⟨#[32]⟩++tx++⟨#[32]⟩++op:ByteArray)=TT at *;generalize (⟨#[114]⟩++op:ByteArray)=OP at *;clear ht0;have hOP1:1≤OP.size:=by omega
      have hOP9:OP.size≤9:=by omega
     rotate_left
     all_goals
      have hA:=HH.out.below wYx;have x0:wY.cell? ⟨w3.heap.size,0,O⟩=some (I J (c:Int)):=by simp[World.cell?,hbx]
      have x1:wY.cell? ⟨w3.heap.size,1,O⟩=some (I J y):=by simp[World.cell?,hbx]
     focus
      have x2:wY.cell? ⟨w3.heap.size,2,O⟩=some (Z op):=by simp[World.cell?,hbx]
     rotate_left
     focus
      have x2:wY.cell? ⟨w3.heap.size,2,O⟩=some (Z OP):=by simp[World.cell?,hbx]
     rotate_left
     all_goals
      obtain⟨i0,hi0,hz0,hz1,hz2⟩:=info_parts Tryz.infoWi
      have hrow:=hA.rW;rw[hvW] at hrow;have c8:=HC8.out _ wYx;have c12:=HC12.out _ wYx;have f8:=hA.free 8;have hne:some g≠(Y aW K.wishes.length cW).ownBlock:=by rw[← hvW];exact hA.gne (i:=4) rfl
      have hgY:g<wY.heap.size:=hA.lb
      have HAY:=ah hA;have HKY:=ah (HR0.out.below wYx);clear hA hbx
     ·obtain⟨X,hX⟩:∃ X:jS,X=⟨((c:Int),y,op),TT,K.floor,false⟩:=⟨_,rfl⟩
      have HX:=ah hX;have HXt:Hid (X.text=TT):=by rw[hX];trivial
      have HXo:Hid (vK X):=by rw[hX];exact⟨hy1,by omega,hOP1,hOP9,hTT⟩
      clear hX;go_cut [] from 88 (fun wr=>∃ (V2:Kv) (g4 cap4:Nat),V2.vW=Y (some ⟨g4,0,O⟩) (K.wishes.length+1) cap4∧V2.vO=V.vO∧Kst N wY wr g K V { K with wishes:=K.wishes++[X] } V2)
      case first =>
       go_region_law (first|(refine step_append_lies (w:=(wY.alloc (.cells #[I J (c:Int),I J y,Z op,Z TT,I J K.floor,.bool false] 99)).drew) (by rfl) (.tmp 92) (.tmp 100) 46 (by rfl) 0 99 i0 (.agg #[I J 0,I J 0,Z Ze,Z Ze,I J 0,.bool false]) 6 64 Tryz.underlying46 hi0 hz0 hz1 hz2 rfl (by decide) (Y aW K.wishes.length cW) K.wishes.length (bL K.wishes) (by rfl) (bU (hrow.alloc _) (Below.refl _ _).drew) ⟨wY.heap.size,0,O⟩ 1 1 [I J (c:Int),I J y,Z op,Z TT,I J K.floor,.bool false] (by rfl) (by rfl) (World.news_of_block (show ((wY.alloc (.cells #[I J (c:Int),I J y,Z op,Z TT,I J K.floor,.bool false] 99)).drew).heap[wY.heap.size]? = _ from heap_alloc_new wY (.cells #[I J (c:Int),I J y,Z op,Z TT,I J K.floor,.bool false] 99))) (by intro u hu;simp at hu;rcases hu with rfl|rfl|rfl|rfl|rfl|rfl <;> rfl) (by decide) (by unfold maxLen;omega) (by omega) (Nat.zero_le _) (wY.heap.size+1) (by simp) ?_;intro g4 cap4 w4 hown4 hg4 hat4 hlt4;have hbl:Below wY.heap.size wY ((wY.alloc (.cells #[I J (c:Int),I J y,Z op,Z TT,I J K.floor,.bool false] 99)).drew):=(((Below.refl _ wY).alloc (Nat.le_refl _) _).drew);have t4:w4.cell? ⟨g,8,O⟩=some (Y aW K.wishes.length cW):=(hg4.cell_far ⟨g,8,O⟩ (by simp;omega) hne).trans ((hbl.cell (p:=⟨g,8,O⟩) hgY).trans c8);have f4:w4.frozen? ⟨g,8,O⟩=false:=(hg4.frozen_far ⟨g,8,O⟩ (by simp;omega) hne).trans ((hbl.frozen (p:=⟨g,8,O⟩) hgY).trans f8))|(refine step_append_lies (w:=wY.drew.alloc (.cells #[I J (c:Int),I J y,Z op,Z TT,I J K.floor,.bool false] 99)) (by rfl) (.tmp 92) (.tmp 100) 46 (by rfl) 0 99 i0 (.agg #[I J 0,I J 0,Z Ze,Z Ze,I J 0,.bool false]) 6 64 Tryz.underlying46 hi0 hz0 hz1 hz2 rfl (by decide) (Y aW K.wishes.length cW) K.wishes.length (bL K.wishes) (by rfl) ((bU hrow (Below.refl _ _).drew).alloc _) ⟨wY.heap.size,0,O⟩ 1 1 [I J (c:Int),I J y,Z op,Z TT,I J K.floor,.bool false] (by rfl) (by rfl) (World.news_of_block (heap_alloc_new wY.drew (.cells #[I J (c:Int),I J y,Z op,Z TT,I J K.floor,.bool false] 99))) (by intro u hu;simp at hu;rcases hu with rfl|rfl|rfl|rfl|rfl|rfl <;> rfl) (by decide) (by unfold maxLen;omega) (by omega) (Nat.zero_le _) (wY.heap.size+1) (by simp) ?_;intro g4 cap4 w4 hown4 hg4 hat4 hlt4;have hbl:Below wY.heap.size wY (wY.drew.alloc (.cells #[I J (c:Int),I J y,Z op,Z TT,I J K.floor,.bool false] 99)):=((Below.refl _ wY).drew.alloc (Nat.le_refl _) _);have t4:w4.cell? ⟨g,8,O⟩=some (Y aW K.wishes.length cW):=(hg4.cell_far ⟨g,8,O⟩ (by simp;omega) hne).trans ((hbl.cell (p:=⟨g,8,O⟩) hgY).trans c8);have f4:w4.frozen? ⟨g,8,O⟩=false:=(hg4.frozen_far ⟨g,8,O⟩ (by simp;omega) hne).trans ((hbl.frozen (p:=⟨g,8,O⟩) hgY).trans f8)))
       all_goals
        have e4:bL (K.wishes++[X])=bL K.wishes++[I J (c:Int),I J y,Z op,Z TT,I J K.floor,.bool false]:=by rw[nY,HX.out];rfl
        have ho4:w4.ownsRow 0 99 6 (Y (some ⟨g4,0,O⟩) (K.wishes.length+1) cap4) (K.wishes++[X]).length (bL (K.wishes++[X])):=by
         rw[e4,show (K.wishes++[X]).length=K.wishes.length+1 by simp];exact hown4
        have HS:=ah (HAY.out.newRow (V':={ V with vW:=Y (some ⟨g4,0,O⟩) (K.wishes.length+1) cap4 }) (K':={ K with wishes:=K.wishes++[X] }) (i:=4) (w1:=w4) (r:=⟨99,6,V.vW,K.wishes.length,bL K.wishes⟩) (r':=⟨99,6,Y (some ⟨g4,0,O⟩) (K.wishes.length+1) cap4,(K.wishes++[X]).length,bL (K.wishes++[X])⟩) rfl
         ((Kp.of_below hbl).trans' (by rw[hvW];exact Kp.row hg4)) ho4 (fun u hu=>by
          simp[Value.ownBlock] at hu;subst hu
          show V.vW.ownBlock=_∨_
          rw[hvW];exact hat4.imp (fun q=>q) (fun q=>by omega)) 8 rfl rfl rfl)
        clear hown4 hg4 hat4 hlt4 ho4 e4;go_wp2_with fail;go_meet
        case rel=>exact⟨{ V with vW:=Y (some ⟨g4,0,O⟩) (K.wishes.length+1) cap4 },g4,cap4,rfl,rfl,HS.out⟩
      case rest =>
       obtain⟨V2,g4,cap4,hV2,hVO,kk⟩:=hcut
       have HS:=ah kk;clear kk x0 x1 x2 c8 c12 f8 hrow hne;have hvO2:V2.vO=Y (some ⟨bO,0,O⟩) K.opn.length cO:=by rw[hVO];exact hvO
       have c8:wc.cell? ⟨g,8,O⟩=some (Y (some ⟨g4,0,O⟩) (K.wishes.length+1) cap4):=by rw[← hV2];exact HS.out.at_.cell 8
       have c9:wc.cell? ⟨g,9,O⟩=some (Y (some ⟨bO,0,O⟩) K.opn.length cO):=by rw[← hvO2];exact HS.out.at_.cell 9
       obtain⟨b9,o9,e9,_,d9⟩:=HS.out.at_.opn hvO2 (Below.refl _ _) c hop
       cases e9;simp only[Nat.zero_add] at d9;have f9:=HS.out.at_.fz (i:=5) (r:=⟨3,1,V2.vO,K.opn.length,K.opn.map (Value.int .i64)⟩) rfl hvO2 c;have nw:IntKind.i64.wrap (((K.wishes.length+1:Nat):Int)-1)=(K.wishes.length:Int):=by rw[fC (by omega) (by omega)];omega
       have nw2:IntKind.i64.wrap ((K.wishes.length:Int)+1-1)=(K.wishes.length:Int):=by rw[fC (by omega) (by omega)];omega
       have HS2:Hid (Kst N wc (wc.setCell ⟨bO,c,O⟩ (I J (K.wishes.length:Int))) g { K with wishes:=K.wishes++[X] } V2 (jZ K c X) V2):=HS.out.at_.setO hvO2 c (K.wishes.length:Int)
       have HL0:Hid (Rn N w (wc.setCell ⟨bO,c,O⟩ (I J (K.wishes.length:Int))) g K V 1 (jZ K c X) V2):=⟨HKY.out.kst.trans (HS.out.trans HS2.out),HKI.out.ask c X HXo.out,by rw[Es];exact Nat.le_refl _,rfl,CI.ask HGr.out (w:=X) (by rw[HX.out];exact HTw.out) (fun v hv h1=>by rw[HX.out] at h1 ⊢;exact HFr.out v hv h1) (by rw[HX.out];exact (CI.fl HGr.out).1) (by rw[HX.out]) rfl rfl rfl rfl rfl rfl rfl rfl⟩
       clear HS2 hVO;go_wp2_with fail;go_region;have HL:=ah (HL0.out.below (Below.refl _ _).drew);generalize (wc.setCell ⟨bO,c,O⟩ (I J (K.wishes.length:Int))).drew=w6 at *;clear c8 c9 d9 f9 nw nw2 HL0;have hol:K.wishes.length<(jZ K c X).wishes.length:=by simp[jZ]
       have hgX:(jZ K c X).wishes[K.wishes.length]=X:=by simp[jZ]
       have c8:w6.cell? ⟨g,8,O⟩=some (Y (some ⟨g4,0,O⟩) (K.wishes.length+1) cap4):=by rw[← hV2];exact HL.out.kst.at_.cell 8
       have c9:w6.cell? ⟨g,9,O⟩=some (Y (some ⟨bO,0,O⟩) K.opn.length cO):=by rw[← hvO2];exact HL.out.kst.at_.cell 9
       have hop6:c<(jZ K c X).opn.length:=by simpa [jZ] using hop
       obtain⟨b9,o9,e9,_,d9⟩:=HL.out.kst.at_.opn (n:=K.opn.length) hvO2 (Below.refl _ _) c hop6
       cases e9;have hg9:(jZ K c X).opn[c]=(K.wishes.length:Int):=by simp[jZ]
       rw[hg9] at d9;simp only[Nat.zero_add] at d9;have hWs:jY w6 V2.vW (jZ K c X).wishes:=HL.out.kst.at_.eW
       rw[hV2] at hWs;obtain⟨b10,o10,e10,_,_,_,_,d10,_⟩:=hWs.get K.wishes.length hol
       cases e10;rw[hgX,HXt.out] at d10;simp only[Nat.zero_add] at d10;have HQ:=ah (fun w7 hb=>HPo.out w6 w7 1 K.wishes.length _ _ HL.out hb (by omega) hol)
       rw[hgX,HXt.out] at HQ;have k5:(K.wishes.length:Int)<((K.wishes.length+1:Nat):Int):=by omega
       have k6:(0:Int)≤(K.wishes.length:Int):=by omega
       clear hWs hgX hg9;go_wp2_with fail;go_region_with (go_at_call 55;refine (HQ.out _ (Below.refl _ _).drew).mono ?_;rintro e w7 ⟨rfl,hR⟩)
       all_goals
        have HR:=ah hR;clear hR;go_wp2_with fail;refine bodyPost_end (results_none rfl _ _ _) rfl ?_;exact⟨rfl,HR.out⟩
     ·obtain⟨X,hX⟩:∃ X:jS,X=⟨((c:Int),y,OP),TT,K.floor,false⟩:=⟨_,rfl⟩
      have HX:=ah hX;have HXt:Hid (X.text=TT):=by rw[hX];trivial
      have HXo:Hid (vK X):=by rw[hX];exact⟨hy1,by omega,hOP1,hOP9,hTT⟩
      clear hX;go_cut [] from 88 (fun wr=>∃ (V2:Kv) (g4 cap4:Nat),V2.vW=Y (some ⟨g4,0,O⟩) (K.wishes.length+1) cap4∧V2.vO=V.vO∧Kst N wY wr g K V { K with wishes:=K.wishes++[X] } V2)
      case first =>
       go_region_law (first|(refine step_append_lies (w:=(wY.alloc (.cells #[I J (c:Int),I J y,Z OP,Z TT,I J K.floor,.bool false] 99)).drew) (by rfl) (.tmp 92) (.tmp 100) 46 (by rfl) 0 99 i0 (.agg #[I J 0,I J 0,Z Ze,Z Ze,I J 0,.bool false]) 6 64 Tryz.underlying46 hi0 hz0 hz1 hz2 rfl (by decide) (Y aW K.wishes.length cW) K.wishes.length (bL K.wishes) (by rfl) (bU (hrow.alloc _) (Below.refl _ _).drew) ⟨wY.heap.size,0,O⟩ 1 1 [I J (c:Int),I J y,Z OP,Z TT,I J K.floor,.bool false] (by rfl) (by rfl) (World.news_of_block (show ((wY.alloc (.cells #[I J (c:Int),I J y,Z OP,Z TT,I J K.floor,.bool false] 99)).drew).heap[wY.heap.size]? = _ from heap_alloc_new wY (.cells #[I J (c:Int),I J y,Z OP,Z TT,I J K.floor,.bool false] 99))) (by intro u hu;simp at hu;rcases hu with rfl|rfl|rfl|rfl|rfl|rfl <;> rfl) (by decide) (by unfold maxLen;omega) (by omega) (Nat.zero_le _) (wY.heap.size+1) (by simp) ?_;intro g4 cap4 w4 hown4 hg4 hat4 hlt4;have hbl:Below wY.heap.size wY ((wY.alloc (.cells #[I J (c:Int),I J y,Z OP,Z TT,I J K.floor,.bool false] 99)).drew):=(((Below.refl _ wY).alloc (Nat.le_refl _) _).drew);have t4:w4.cell? ⟨g,8,O⟩=some (Y aW K.wishes.length cW):=(hg4.cell_far ⟨g,8,O⟩ (by simp;omega) hne).trans ((hbl.cell (p:=⟨g,8,O⟩) hgY).trans c8);have f4:w4.frozen? ⟨g,8,O⟩=false:=(hg4.frozen_far ⟨g,8,O⟩ (by simp;omega) hne).trans ((hbl.frozen (p:=⟨g,8,O⟩) hgY).trans f8))|(refine step_append_lies (w:=wY.drew.alloc (.cells #[I J (c:Int),I J y,Z OP,Z TT,I J K.floor,.bool false] 99)) (by rfl) (.tmp 92) (.tmp 100) 46 (by rfl) 0 99 i0 (.agg #[I J 0,I J 0,Z Ze,Z Ze,I J 0,.bool false]) 6 64 Tryz.underlying46 hi0 hz0 hz1 hz2 rfl (by decide) (Y aW K.wishes.length cW) K.wishes.length (bL K.wishes) (by rfl) ((bU hrow (Below.refl _ _).drew).alloc _) ⟨wY.heap.size,0,O⟩ 1 1 [I J (c:Int),I J y,Z OP,Z TT,I J K.floor,.bool false] (by rfl) (by rfl) (World.news_of_block (heap_alloc_new wY.drew (.cells #[I J (c:Int),I J y,Z OP,Z TT,I J K.floor,.bool false] 99))) (by intro u hu;simp at hu;rcases hu with rfl|rfl|rfl|rfl|rfl|rfl <;> rfl) (by decide) (by unfold maxLen;omega) (by omega) (Nat.zero_le _) (wY.heap.size+1) (by simp) ?_;intro g4 cap4 w4 hown4 hg4 hat4 hlt4;have hbl:Below wY.heap.size wY (wY.drew.alloc (.cells #[I J (c:Int),I J y,Z OP,Z TT,I J K.floor,.bool false] 99)):=((Below.refl _ wY).drew.alloc (Nat.le_refl _) _);have t4:w4.cell? ⟨g,8,O⟩=some (Y aW K.wishes.length cW):=(hg4.cell_far ⟨g,8,O⟩ (by simp;omega) hne).trans ((hbl.cell (p:=⟨g,8,O⟩) hgY).trans c8);have f4:w4.frozen? ⟨g,8,O⟩=false:=(hg4.frozen_far ⟨g,8,O⟩ (by simp;omega) hne).trans ((hbl.frozen (p:=⟨g,8,O⟩) hgY).trans f8)))
       all_goals
        have e4:bL (K.wishes++[X])=bL K.wishes++[I J (c:Int),I J y,Z OP,Z TT,I J K.floor,.bool false]:=by rw[nY,HX.out];rfl
        have ho4:w4.ownsRow 0 99 6 (Y (some ⟨g4,0,O⟩) (K.wishes.length+1) cap4) (K.wishes++[X]).length (bL (K.wishes++[X])):=by
         rw[e4,show (K.wishes++[X]).length=K.wishes.length+1 by simp];exact hown4
        have HS:=ah (HAY.out.newRow (V':={ V with vW:=Y (some ⟨g4,0,O⟩) (K.wishes.length+1) cap4 }) (K':={ K with wishes:=K.wishes++[X] }) (i:=4) (w1:=w4) (r:=⟨99,6,V.vW,K.wishes.length,bL K.wishes⟩) (r':=⟨99,6,Y (some ⟨g4,0,O⟩) (K.wishes.length+1) cap4,(K.wishes++[X]).length,bL (K.wishes++[X])⟩) rfl
         ((Kp.of_below hbl).trans' (by rw[hvW];exact Kp.row hg4)) ho4 (fun u hu=>by
          simp[Value.ownBlock] at hu;subst hu
          show V.vW.ownBlock=_∨_
          rw[hvW];exact hat4.imp (fun q=>q) (fun q=>by omega)) 8 rfl rfl rfl)
        clear hown4 hg4 hat4 hlt4 ho4 e4;go_wp2_with fail;go_meet
        case rel=>exact⟨{ V with vW:=Y (some ⟨g4,0,O⟩) (K.wishes.length+1) cap4 },g4,cap4,rfl,rfl,HS.out⟩
      case rest =>
       obtain⟨V2,g4,cap4,hV2,hVO,kk⟩:=hcut
       have HS:=ah kk;clear kk x0 x1 x2 c8 c12 f8 hrow hne;have hvO2:V2.vO=Y (some ⟨bO,0,O⟩) K.opn.length cO:=by rw[hVO];exact hvO
       have c8:wc.cell? ⟨g,8,O⟩=some (Y (some ⟨g4,0,O⟩) (K.wishes.length+1) cap4):=by rw[← hV2];exact HS.out.at_.cell 8
       have c9:wc.cell? ⟨g,9,O⟩=some (Y (some ⟨bO,0,O⟩) K.opn.length cO):=by rw[← hvO2];exact HS.out.at_.cell 9
       obtain⟨b9,o9,e9,_,d9⟩:=HS.out.at_.opn hvO2 (Below.refl _ _) c hop
       cases e9;simp only[Nat.zero_add] at d9;have f9:=HS.out.at_.fz (i:=5) (r:=⟨3,1,V2.vO,K.opn.length,K.opn.map (Value.int .i64)⟩) rfl hvO2 c;have nw:IntKind.i64.wrap (((K.wishes.length+1:Nat):Int)-1)=(K.wishes.length:Int):=by rw[fC (by omega) (by omega)];omega
       have nw2:IntKind.i64.wrap ((K.wishes.length:Int)+1-1)=(K.wishes.length:Int):=by rw[fC (by omega) (by omega)];omega
       have HS2:Hid (Kst N wc (wc.setCell ⟨bO,c,O⟩ (I J (K.wishes.length:Int))) g { K with wishes:=K.wishes++[X] } V2 (jZ K c X) V2):=HS.out.at_.setO hvO2 c (K.wishes.length:Int)
       have HL0:Hid (Rn N w (wc.setCell ⟨bO,c,O⟩ (I J (K.wishes.length:Int))) g K V 1 (jZ K c X) V2):=⟨HKY.out.kst.trans (HS.out.trans HS2.out),HKI.out.ask c X HXo.out,by rw[Es];exact Nat.le_refl _,rfl,CI.ask HGr.out (w:=X) (by rw[HX.out];exact HTw.out) (fun v hv h1=>by rw[HX.out] at h1 ⊢;exact HFr.out v hv h1) (by rw[HX.out];exact (CI.fl HGr.out).1) (by rw[HX.out]) rfl rfl rfl rfl rfl rfl rfl rfl⟩
       clear HS2 hVO;go_wp2_with fail;go_region;have HL:=ah (HL0.out.below (Below.refl _ _).drew);generalize (wc.setCell ⟨bO,c,O⟩ (I J (K.wishes.length:Int))).drew=w6 at *;clear c8 c9 d9 f9 nw nw2 HL0;have hol:K.wishes.length<(jZ K c X).wishes.length:=by simp[jZ]
       have hgX:(jZ K c X).wishes[K.wishes.length]=X:=by simp[jZ]
       have c8:w6.cell? ⟨g,8,O⟩=some (Y (some ⟨g4,0,O⟩) (K.wishes.length+1) cap4):=by rw[← hV2];exact HL.out.kst.at_.cell 8
       have c9:w6.cell? ⟨g,9,O⟩=some (Y (some ⟨bO,0,O⟩) K.opn.length cO):=by rw[← hvO2];exact HL.out.kst.at_.cell 9
       have hop6:c<(jZ K c X).opn.length:=by simpa [jZ] using hop
       obtain⟨b9,o9,e9,_,d9⟩:=HL.out.kst.at_.opn (n:=K.opn.length) hvO2 (Below.refl _ _) c hop6
       cases e9;have hg9:(jZ K c X).opn[c]=(K.wishes.length:Int):=by simp[jZ]
       rw[hg9] at d9;simp only[Nat.zero_add] at d9;have hWs:jY w6 V2.vW (jZ K c X).wishes:=HL.out.kst.at_.eW
       rw[hV2] at hWs;obtain⟨b10,o10,e10,_,_,_,_,d10,_⟩:=hWs.get K.wishes.length hol
       cases e10;rw[hgX,HXt.out] at d10;simp only[Nat.zero_add] at d10;have HQ:=ah (fun w7 hb=>HPo.out w6 w7 1 K.wishes.length _ _ HL.out hb (by omega) hol)
       rw[hgX,HXt.out] at HQ;have k5:(K.wishes.length:Int)<((K.wishes.length+1:Nat):Int):=by omega
       have k6:(0:Int)≤(K.wishes.length:Int):=by omega
       clear hWs hgX hg9;go_wp2_with fail;go_region_with (go_at_call 55;refine (HQ.out _ (Below.refl _ _).drew).mono ?_;rintro e w7 ⟨rfl,hR⟩)
       all_goals
        have HR:=ah hR;clear hR;go_wp2_with fail;refine bodyPost_end (results_none rfl _ _ _) rfl ?_;exact⟨rfl,HR.out⟩
 ·obtain⟨o,ho⟩:=Int.eq_ofNat_of_zero_le (show 0≤K.opn[c] by omega)
  have hol:o<K.wishes.length:=by omega
  obtain⟨b3,o3,rfl,hb3,_,_,_,d3,_⟩:=(HW.out w (Below.refl _ _)).get o hol
  have c8:=HC8.out w (Below.refl _ _);rw[ho] at d2;have j0:¬(o:Int)<0:=by omega
  have j3:(0:Int)≤(o:Int):=by omega
  have j4:(o:Int)<(K.wishes.length:Int):=by omega
  have HQ:=ah (fun w6 hb=>HPo.out w w6 0 o K V (Rn.refl h hi gr) hb (by omega) hol)
  clear h hi gr z10 hov hv ho;generalize K.wishes[o].text=tt at *;go_enter Tryz.func27,Tryz.ntmps27;go_wp2_with fail;go_region_with (go_at_call 55;refine (HQ.out _ (Below.refl _ _).drew).mono ?_;rintro e w7 ⟨rfl,hR⟩)
  all_goals
   have HR:=ah hR;clear hR;go_wp2_with fail;refine bodyPost_end (results_none rfl _ _ _) rfl ?_;exact⟨rfl,HR.out⟩
end
end Go.Proofs.YtbnihoahhomooaaGreatDoor
