import Derived.Test.YtajakaadgagejaaGreatDoorA19
import Derived.Laws.StructEq
set_option maxRecDepth 100000
set_option maxHeartbeats 8000000
set_option linter.unusedVariables false
set_option linter.unusedSimpArgs false
set_option linter.unusedSectionVars false
namespace Go.Proofs.YtajakaadgagejaaGreatDoor
open Go.Value renaming int→I,slice→Y,string→Z,pointer→Zp
open Go.Ending renaming returned→Zr
open _root_.ByteArray renaming empty→Ze
open Go.IntKind renaming i64→J
open Option renaming none→O
open Go.RowKit
def xq (a b:Int) (s:ByteArray) (c d:Int) (t:ByteArray):Bool:=a==c&&b==d&&s.toList==t.toList
theorem BX {a b:Int} {s:ByteArray} {c d:Int} {t:ByteArray}:xq a b s c d t=true↔a=c∧b=d∧s=t:=by
 unfold xq;simp only[Bool.and_eq_true,beq_iff_eq]
 constructor
 ·rintro⟨⟨h1,h2⟩,h3⟩
  refine⟨h1,h2,?_⟩
  rw[ByteArray.toList_eq,ByteArray.toList_eq] at h3;obtain⟨⟨x⟩⟩:=s
  obtain⟨⟨y⟩⟩:=t
  simp at h3;rw[h3]
 ·rintro⟨rfl,rfl,rfl⟩;exact⟨⟨rfl,rfl⟩,rfl⟩
theorem Ky (w:World) (a b:Int) (s:ByteArray) (c d:Int) (t:ByteArray):Sem.run Tryz.prog (binOp .eql 66 (.agg #[I J a,I J b,Z s]) (.agg #[I J c,I J d,Z t])) w=.ok (.bool (xq a b s c d t)) w:=by
 have hS:Tryz.prog.underlying 66=some (.struct (Tryz.prog.fieldsOf 66)):=by kernel_rfl
 have hp:Tryz.prog.stoodInHeld 66=false:=by kernel_rfl
 rw[run_eql_struct,show (10000:Nat)=9999+1 from rfl,run_equalIn_agg w 9999 66 _ _ hS hp]
 simp only[Program.fieldsOf,Tryz.underlying66];unfold xq;go_simp;by_cases h1:a=c <;> by_cases h2:b=d <;> by_cases h3:s.toList=t.toList <;> simp[h1,h2,h3]
theorem Lf (w:World) (a b:Int) (s:ByteArray) (c d:Int) (t:ByteArray):Sem.run Tryz.prog (binOp .neq 66 (.agg #[I J a,I J b,Z s]) (.agg #[I J c,I J d,Z t])) w=.ok (.bool (!xq a b s c d t)) w:=by
 have hS:Tryz.prog.underlying 66=some (.struct (Tryz.prog.fieldsOf 66)):=by kernel_rfl
 have hp:Tryz.prog.stoodInHeld 66=false:=by kernel_rfl
 rw[run_neq_struct,show (10000:Nat)=9999+1 from rfl,run_equalIn_agg w 9999 66 _ _ hS hp]
 simp only[Program.fieldsOf,Tryz.underlying66];unfold xq;go_simp;by_cases h1:a=c <;> by_cases h2:b=d <;> by_cases h3:s.toList=t.toList <;> simp[h1,h2,h3]
theorem eqGd (w:World) (op:BinOp) (x y:Operand) (xs ys:Array Value):(eqGuard op 66 x y (.agg xs) (.agg ys)).run Tryz.prog w=.ok () w:=run_eqGuard_agg w op 66 x y xs ys (by kernel_rfl)
section
variable {N:Nat} {w w':World} {g:Nat} {K K':Kw} {V V':Kv}
def uL (op:ByteArray) (G:List ByteArray):List ByteArray:=if b0 op=114 then G++[op.extract 1 op.size] else G
def iE (K:Kw) (E:En):Kw:={ K with list:=K.list++[E],groups:=uL E.2.2 K.groups }
def EF (N:Nat) (w w':World) (g:Nat) (K:Kw) (V:Kv) (E:En) (e:Ending):Prop:=∃ b K' V',e=Zr (.bool b)∧Kst N w w' g K V K' V'∧((b=true∧K'=iE K E)∨(b=false∧(K'={ K with part:=1 }∨K'={ K with part:=4 })))
theorem DW (h:KAt N w g K V) (E:En) (hE1:0<E.2.2.size) (hll:K.list.length≤1000) (hgl:K.groups.length≤1000) :
  Calls Tryz.prog 105 #[Zp (some ⟨g,0,O⟩),.agg #[I J E.1,I J E.2.1,Z E.2.2]] w fun e w'=>EF N w w' g K V E e:=by
 have hb0:Below w.heap.size w (w.alloc (.cells #[I J E.1,I J E.2.1,Z E.2.2] 66)):=(Below.refl _ w).alloc (Nat.le_refl _) _
 have hx:=heap_alloc_new w (.cells #[I J E.1,I J E.2.1,Z E.2.2] 66);have hA:=h.below hb0;have hxn:w.heap.size∉gV g K V:=fun hc=>by
  obtain⟨c,hc1,hc2⟩:=List.mem_flatten.1 hc
  have:=h.lt c hc1 _ hc2
  omega
 have HK0:=ah ((Kst.refl h).below hb0);clear h hb0;go_enter Tryz.func105,Tryz.ntmps105;go_wp2_with fail;generalize w.alloc (.cells #[I J E.1,I J E.2.1,Z E.2.2] 66)=wA at *;obtain⟨aL,cL,hvL⟩:=au hA.rL
 have HC10:Hid (∀ w2,Below wA.heap.size wA w2→w2.cell? ⟨g,10,O⟩=some (Y aL K.list.length cL)):=fun w2 hw2=>by rw[← hvL];exact (hA.below hw2).cell 10
 have HL:Hid (∀ w2,Below wA.heap.size wA w2→gu w2 (Y aL K.list.length cL) K.list):=fun w2 hw2=>by rw[← hvL];exact (hA.below hw2).eL
 obtain⟨aW,cW,hvW⟩:=au hA.rW
 have HC8:Hid (∀ w2,Below wA.heap.size wA w2→w2.cell? ⟨g,8,O⟩=some (Y aW K.wishes.length cW)):=fun w2 hw2=>by rw[← hvW];exact (hA.below hw2).cell 8
 have HW:Hid (∀ w2,Below wA.heap.size wA w2→jE w2 (Y aW K.wishes.length cW) K.wishes):=fun w2 hw2=>by rw[← hvW];exact (hA.below hw2).eW
 obtain⟨aG,cG,hvG⟩:=au hA.rG
 have HC11:Hid (∀ w2,Below wA.heap.size wA w2→w2.cell? ⟨g,11,O⟩=some (Y aG K.groups.length cG)):=fun w2 hw2=>by rw[← hvG];exact (hA.below hw2).cell 11
 have HG:=ah (fun (w2:World) (hw2:Below wA.heap.size wA w2)=>KAt.grp hA hvG hw2)
 have HF1:Hid (∀ w2,Below wA.heap.size wA w2→Calls Tryz.prog 66 #[Zp (some ⟨g,0,O⟩),I J 1] w2 fun e w'=>e=Zr (.bool false)∧Kst N wA w' g K V { K with part:=1 } V):=fun w2 hw2=>(bQ (hA.below hw2) 1).mono (by
  rintro e w3 ⟨rfl,k⟩;exact⟨rfl,((Kst.refl hA).below hw2).trans k⟩)
 have HF4:Hid (∀ w2,Below wA.heap.size wA w2→Calls Tryz.prog 66 #[Zp (some ⟨g,0,O⟩),I J 4] w2 fun e w'=>e=Zr (.bool false)∧Kst N wA w' g K V { K with part:=4 } V):=fun w2 hw2=>(bQ (hA.below hw2) 4).mono (by
  rintro e w3 ⟨rfl,k⟩;exact⟨rfl,((Kst.refl hA).below hw2).trans k⟩)
 have HX:Hid (∀ w2,Below wA.heap.size wA w2→w2.heap[w.heap.size]? = some (.cells #[I J E.1,I J E.2.1,Z E.2.2] 66)):=fun w2 hw2=>(hw2.block _ (lt_of_block hx)).trans hx
 have HNo1:Hid (∀ w2,Kst N wA w2 g K V { K with part:=1 } V→EF N w w2 g K V E (Zr (.bool false))):=fun w2 k=>⟨false,_,_,rfl,HK0.out.trans k,.inr ⟨rfl,.inl rfl⟩⟩
 have HNo4:Hid (∀ w2,Kst N wA w2 g K V { K with part:=4 } V→EF N w w2 g K V E (Zr (.bool false))):=fun w2 k=>⟨false,_,_,rfl,HK0.out.trans k,.inr ⟨rfl,.inr rfl⟩⟩
 have HYes:Hid (∀ w2 V2,Kst N wA w2 g K V (iE K E) V2→EF N w w2 g K V E (Zr (.bool true))):=fun w2 V2 k=>⟨true,_,_,rfl,HK0.out.trans k,.inl ⟨rfl,rfl⟩⟩
 have hwl:K.wishes.length≤9223372036854775807:=by
  obtain⟨_,_,_,q1,q2⟩:=hA.eW.shape
  omega
 have HH:=ah hA;have hgb:g<wA.heap.size:=hA.lb
 clear hx hA;obtain⟨E1,E2,E3⟩:=E
 have hEq:=Ky;have hGd:=eqGd;simp only at *
 go_loopw [5] (fun i wr=>∃ k:Nat,k≤K.list.length∧i=I J k∧Below wA.heap.size wA wr) (fun i _=>K.list.length-(intOf i).toNat)
 case atStart=>exact⟨0,Nat.zero_le _,rfl,Below.refl _ _⟩
 case round =>
  obtain⟨k,hk,rfl,hbw⟩:=hrel
  have c10:=HC10.out _ hbw;have hx:=HX.out _ hbw;have x0:wr.cell? ⟨w.heap.size,0,O⟩=some (I J E1):=by simp[World.cell?,hx]
  have x1:wr.cell? ⟨w.heap.size,1,O⟩=some (I J E2):=by simp[World.cell?,hx]
  clear hx;by_cases hlt:k<K.list.length
  ·obtain⟨b1',o1,rfl,_,d1,d2,d3⟩:=(HL.out _ hbw).get k hlt
   have j1:(0:Int)≤(k:Int):=by omega
   have j2:(k:Int)<(K.list.length:Int):=by omega
   generalize K.list[k].1=cl at *;generalize K.list[k].2.1=nu at *;generalize K.list[k].2.2=op at *;by_cases hq:cl=E1
   ·have hq':(cl==E1)=true:=beq_iff_eq.2 hq
    clear hq;by_cases hn:E2≤nu
    ·go_wp2_with fail;go_quiet (fail);have hbq:=below_drewN hbw nq;have HFq:=ah (HF1.out _ hbq);go_wp2_with fail;refine HFq.out.mono ?_;rintro e w2 ⟨rfl,k2⟩;go_wp2_with fail;go_ret;exact HNo1.out _ k2
    ·go_wp2_with fail;go_quiet (fail);have hbq:=below_drewN hbw nq;go_wp2_with fail;go_roundw
     case rel=>exact⟨k+1,by omega,by go_num,hbq⟩
     case measure=>simp[intOf];omega
   ·have hq':(cl==E1)=false:=beq_eq_false_iff_ne.2 hq
    clear hq;go_wp2_with fail;go_quiet (fail);have hbq:=below_drewN hbw nq;go_wp2_with fail;go_roundw
    case rel=>exact⟨k+1,by omega,by go_num,hbq⟩
    case measure=>simp[intOf];omega
  ·obtain⟨wL,HwL⟩:∃ x,x=wr:=⟨_,rfl⟩
   subst HwL;clear x0 x1;go_wp2_with fail;clear c10;go_loopw [6,7] (fun m i wr=>∃ (k:Nat) (x:Bool),k≤K.wishes.length∧i=I J k∧m=.bool x∧Below wA.heap.size wA wr) (fun _ i _=>K.wishes.length-(intOf i).toNat)
   case atStart=>exact⟨0,false,Nat.zero_le _,rfl,rfl,hbw⟩
   case round =>
    obtain⟨m,x,hm,rfl,rfl,hbv⟩:=hrel
    have c8:=HC8.out _ hbv;have c10:=HC10.out _ hbv;have hx:=HX.out _ hbv;have x0:wr.cell? ⟨w.heap.size,0,O⟩=some (I J E1):=by simp[World.cell?,hx]
    have x1:wr.cell? ⟨w.heap.size,1,O⟩=some (I J E2):=by simp[World.cell?,hx]
    have x2:wr.cell? ⟨w.heap.size,2,O⟩=some (Z E3):=by simp[World.cell?,hx]
    clear hx;by_cases hlm:m<K.wishes.length
    ·obtain⟨b2,o2,rfl,_,d1,d2,d3,d4,d5,d6⟩:=(HW.out _ hbv).get m hlm
     have j1:(0:Int)≤(m:Int):=by omega
     have j2:(m:Int)<(K.wishes.length:Int):=by omega
     generalize K.wishes[m].e.1=cl at *;generalize K.wishes[m].e.2.1=nu at *;generalize K.wishes[m].e.2.2=op at *;generalize h_fl:K.wishes[m].floor=fl at *;generalize h_bd:K.wishes[m].bad=bd at *;generalize K.wishes[m].text=tx at *;cases hen:xq cl nu op E1 E2 E3
     ·go_wp2_with fail;go_quiet (fail);have hbq:=below_drewN hbv nq;go_wp2_with fail;go_roundw
      case rel=>exact⟨m+1,x,by omega,by go_num,rfl,hbq⟩
      case measure=>simp[intOf];omega
     ·have HQ:Hid (∀ w2,Below wA.heap.size wA w2→w2.cell? ⟨g,8,O⟩=some (Y (some ⟨b2,o2,O⟩) K.wishes.length cW)∧w2.cell? ⟨g,10,O⟩=some (Y aL K.list.length cL)∧w2.cell? ⟨b2,o2+m*6+4,O⟩=some (I J fl)∧w2.cell? ⟨b2,o2+m*6+5,O⟩=some (.bool bd)):=fun w2 hw2=>by
       obtain⟨b3,o3,e3,_,_,_,_,_,f5,f6⟩:=(HW.out _ hw2).get m hlm
       cases e3;rw[h_fl] at f5;rw[h_bd] at f6;exact⟨HC8.out _ hw2,HC10.out _ hw2,f5,f6⟩
      go_wp2_with fail;go_quiet (fail);have hbq:=below_drewN hbv nq;generalize wr.drewN nq=wB at *;clear d1 d2 d3 d4 d5 d6 c8 c10 x0 x1 x2;obtain⟨c8,c10,d5,d6⟩:=HQ.out _ hbq
      clear hen;cases bd
      ·by_cases hfl:(K.list.length:Int)<fl
       ·go_wp2_with fail;go_quiet (fail);have hbr:=below_drewN hbq nq;have HFq:=ah (HF4.out _ hbr);go_wp2_with fail;refine HFq.out.mono ?_;rintro e w2 ⟨rfl,k2⟩;go_wp2_with fail;go_ret;exact HNo4.out _ k2
       ·go_wp2_with fail;go_quiet (fail);have hbr:=below_drewN hbq nq;go_wp2_with fail;go_roundw
        case rel=>exact⟨m+1,true,by omega,by go_num,rfl,hbr⟩
        case measure=>simp[intOf];omega
      ·go_wp2_with fail;go_quiet (fail);have hbr:=below_drewN hbq nq;have HFq:=ah (HF4.out _ hbr);go_wp2_with fail;refine HFq.out.mono ?_;rintro e w2 ⟨rfl,k2⟩;go_wp2_with fail;go_ret;exact HNo4.out _ k2
    ·cases x
     ·go_wp2_with fail;refine (HF1.out _ hbv).mono ?_;rintro e w2 ⟨rfl,k2⟩;go_wp2_with fail;go_ret;exact HNo1.out _ k2
     ·have hAv:=HH.out.below hbv;have HKv:=ah ((Kst.refl HH.out).below hbv);obtain⟨i0,hi,hz0,hz1,hz2⟩:=info_parts Tryz.infoEnt
      have hrow:=hAv.rL;rw[hvL] at hrow;have f10:=hAv.free 10;have hne:some g≠(Y aL K.list.length cL).ownBlock:=by rw[← hvL];exact hAv.gne (i:=6) rfl
      have hgB:g<wr.heap.size:=hAv.lb
      have HHv:=ah hAv;clear hAv;go_wp2_with fail;clear c8;go_region_law (first|(refine step_append_lies (w:=(wr.alloc (.cells #[I J E1,I J E2,Z E3] 66)).drew) (by rfl) (.tmp 96) (.tmp 98) 47 (by rfl) 0 66 i0 (.agg #[I J 0,I J 0,Z Ze]) 3 32 Tryz.underlying47 hi hz0 hz1 hz2 rfl (by decide) (Y aL K.list.length cL) K.list.length (aA K.list) (by rfl) (bH (hrow.alloc _) (Below.refl _ _).drew) ⟨wr.heap.size,0,O⟩ 1 1 [I J E1,I J E2,Z E3] (by rfl) (by rfl) (World.news_of_block (show ((wr.alloc (.cells #[I J E1,I J E2,Z E3] 66)).drew).heap[wr.heap.size]? = _ from heap_alloc_new wr (.cells #[I J E1,I J E2,Z E3] 66))) (by intro u hu;simp at hu;rcases hu with rfl|rfl|rfl <;> rfl) (by decide) (by unfold maxLen;omega) (by omega) (Nat.zero_le _) (wr.heap.size+1) (by simp) ?_;intro g3 cap3 w3 hown3 hg3 hat3 hlt3;have hbl3:Below wr.heap.size wr ((wr.alloc (.cells #[I J E1,I J E2,Z E3] 66)).drew):=(((Below.refl _ wr).alloc (Nat.le_refl _) _).drew);have t3:w3.cell? ⟨g,10,O⟩=some (Y aL K.list.length cL):=(hg3.cell_far ⟨g,10,O⟩ (by simp;omega) hne).trans ((hbl3.cell (p:=⟨g,10,O⟩) hgB).trans c10);have f3:w3.frozen? ⟨g,10,O⟩=false:=(hg3.frozen_far ⟨g,10,O⟩ (by simp;omega) hne).trans ((hbl3.frozen (p:=⟨g,10,O⟩) hgB).trans f10))|(refine step_append_lies (w:=wr.drew.alloc (.cells #[I J E1,I J E2,Z E3] 66)) (by rfl) (.tmp 96) (.tmp 98) 47 (by rfl) 0 66 i0 (.agg #[I J 0,I J 0,Z Ze]) 3 32 Tryz.underlying47 hi hz0 hz1 hz2 rfl (by decide) (Y aL K.list.length cL) K.list.length (aA K.list) (by rfl) ((bH hrow (Below.refl _ _).drew).alloc _) ⟨wr.heap.size,0,O⟩ 1 1 [I J E1,I J E2,Z E3] (by rfl) (by rfl) (World.news_of_block (heap_alloc_new wr.drew (.cells #[I J E1,I J E2,Z E3] 66))) (by intro u hu;simp at hu;rcases hu with rfl|rfl|rfl <;> rfl) (by decide) (by unfold maxLen;omega) (by omega) (Nat.zero_le _) (wr.heap.size+1) (by simp) ?_;intro g3 cap3 w3 hown3 hg3 hat3 hlt3;have hbl3:Below wr.heap.size wr (wr.drew.alloc (.cells #[I J E1,I J E2,Z E3] 66)):=((Below.refl _ wr).drew.alloc (Nat.le_refl _) _);have t3:w3.cell? ⟨g,10,O⟩=some (Y aL K.list.length cL):=(hg3.cell_far ⟨g,10,O⟩ (by simp;omega) hne).trans ((hbl3.cell (p:=⟨g,10,O⟩) hgB).trans c10);have f3:w3.frozen? ⟨g,10,O⟩=false:=(hg3.frozen_far ⟨g,10,O⟩ (by simp;omega) hne).trans ((hbl3.frozen (p:=⟨g,10,O⟩) hgB).trans f10)))
      all_goals
       have e4:aA (K.list++[(E1,E2,E3)])=aA K.list++[I J E1,I J E2,Z E3]:=by simp[aA]
       have ho4:w3.ownsRow 0 66 3 (Y (some ⟨g3,0,O⟩) (K.list.length+1) cap3) (K.list++[(E1,E2,E3)]).length (aA (K.list++[(E1,E2,E3)])):=by
        rw[e4,show (K.list++[(E1,E2,E3)]).length=K.list.length+1 by simp];exact hown3
       have HS:=ah (HHv.out.newRow (V':={ V with vL:=Y (some ⟨g3,0,O⟩) (K.list.length+1) cap3 }) (K':={ K with list:=K.list++[(E1,E2,E3)] }) (i:=6) (w1:=w3) (r:=⟨66,3,V.vL,K.list.length,aA K.list⟩) (r':=⟨66,3,Y (some ⟨g3,0,O⟩) (K.list.length+1) cap3,(K.list++[(E1,E2,E3)]).length,aA (K.list++[(E1,E2,E3)])⟩) rfl
        ((Kp.of_below hbl3).trans' (by rw[hvL];exact Kp.row hg3)) ho4 (fun y hy=>by
         simp[Value.ownBlock] at hy;subst hy
         show V.vL.ownBlock=_∨_
         rw[hvL];exact hat3.imp (fun q=>q) (fun q=>by omega)) 10 rfl rfl rfl)
       clear hown3 hg3 hat3 hlt3 ho4 e4;generalize w3.setCell ⟨g,10,O⟩ (Y (some ⟨g3,0,O⟩) (K.list.length+1) cap3)=w5 at *;have HT:=ah (HKv.out.trans HS.out);have hx:=(HS.out.kp.block w.heap.size (lt_of_block (HX.out _ hbv)) hxn).trans (HX.out _ hbv);have x2:w5.cell? ⟨w.heap.size,2,O⟩=some (Z E3):=by simp[World.cell?,hx]
       clear hx x0 x1 c10;have y1:(0:Int)<(E3.size:Int):=by omega
       have y2:(1:Int)≤(E3.size:Int):=by omega
       have e0:b0 E3=(E3[0].toNat:Int):=by unfold b0;rw[atS hE1]
       by_cases hr:(E3[0].toNat:Int)=114
       ·have hr':((E3[0].toNat:Int)==114)=true:=beq_iff_eq.2 hr
        have HGo:Hid (uL E3 K.groups=K.groups++[E3.extract 1 E3.size]):=by unfold Hid uL;rw[if_pos (e0.trans hr)]
        clear hr e0;obtain⟨i0,hi,hz0,hz1,hz2⟩:=info_parts Tryz.infoStr
        have h5:=HS.out.at_;have hrow:=h5.rG;have c11:w5.cell? ⟨g,11,O⟩=some V.vG:=h5.cell 11
        have f11:=h5.free 11;have hne:some g≠V.vG.ownBlock:=h5.gne (i:=7) rfl
        simp only at hrow
        rw[hvG] at hrow c11 hne;have hg5:g<w5.heap.size:=h5.lb
        clear h5;go_wp2_with fail;go_region_law (first|(refine step_append_lies (w:=(w5.alloc (.cells #[Z (E3.extract 1 E3.size)] 9)).drew) (by rfl) (.tmp 110) (.tmp 114) 48 (by rfl) 0 9 i0 (Z Ze) 1 16 Tryz.underlying48 hi hz0 hz1 hz2 rfl (by decide) (Y aG K.groups.length cG) K.groups.length (K.groups.map Value.string) (by rfl) (bH (hrow.alloc _) (Below.refl _ _).drew) ⟨w5.heap.size,0,O⟩ 1 1 [Z (E3.extract 1 E3.size)] (by rfl) (by rfl) (World.news_of_block (show ((w5.alloc (.cells #[Z (E3.extract 1 E3.size)] 9)).drew).heap[w5.heap.size]? = _ from heap_alloc_new w5 (.cells #[Z (E3.extract 1 E3.size)] 9))) (by intro u hu;simp at hu;subst hu;rfl) (by decide) (by unfold maxLen;omega) (by omega) (Nat.zero_le _) (w5.heap.size+1) (by simp) ?_;intro g4 cap4 w4 hown4 hg4 hat4 hlt4;have hbl:Below w5.heap.size w5 ((w5.alloc (.cells #[Z (E3.extract 1 E3.size)] 9)).drew):=(((Below.refl _ w5).alloc (Nat.le_refl _) _).drew);have t4:w4.cell? ⟨g,11,O⟩=some (Y aG K.groups.length cG):=(hg4.cell_far ⟨g,11,O⟩ (by simp;omega) hne).trans ((hbl.cell (p:=⟨g,11,O⟩) hg5).trans c11);have f4:w4.frozen? ⟨g,11,O⟩=false:=(hg4.frozen_far ⟨g,11,O⟩ (by simp;omega) hne).trans ((hbl.frozen (p:=⟨g,11,O⟩) hg5).trans f11))|(refine step_append_lies (w:=w5.drew.alloc (.cells #[Z (E3.extract 1 E3.size)] 9)) (by rfl) (.tmp 110) (.tmp 114) 48 (by rfl) 0 9 i0 (Z Ze) 1 16 Tryz.underlying48 hi hz0 hz1 hz2 rfl (by decide) (Y aG K.groups.length cG) K.groups.length (K.groups.map Value.string) (by rfl) ((bH hrow (Below.refl _ _).drew).alloc _) ⟨w5.heap.size,0,O⟩ 1 1 [Z (E3.extract 1 E3.size)] (by rfl) (by rfl) (World.news_of_block (heap_alloc_new w5.drew (.cells #[Z (E3.extract 1 E3.size)] 9))) (by intro u hu;simp at hu;subst hu;rfl) (by decide) (by unfold maxLen;omega) (by omega) (Nat.zero_le _) (w5.heap.size+1) (by simp) ?_;intro g4 cap4 w4 hown4 hg4 hat4 hlt4;have hbl:Below w5.heap.size w5 (w5.drew.alloc (.cells #[Z (E3.extract 1 E3.size)] 9)):=((Below.refl _ w5).drew.alloc (Nat.le_refl _) _);have t4:w4.cell? ⟨g,11,O⟩=some (Y aG K.groups.length cG):=(hg4.cell_far ⟨g,11,O⟩ (by simp;omega) hne).trans ((hbl.cell (p:=⟨g,11,O⟩) hg5).trans c11);have f4:w4.frozen? ⟨g,11,O⟩=false:=(hg4.frozen_far ⟨g,11,O⟩ (by simp;omega) hne).trans ((hbl.frozen (p:=⟨g,11,O⟩) hg5).trans f11)))
        all_goals
         have ho4:w4.ownsRow 0 9 1 (Y (some ⟨g4,0,O⟩) (K.groups.length+1) cap4) (K.groups++[E3.extract 1 E3.size]).length ((K.groups++[E3.extract 1 E3.size]).map Value.string):=by
          rw[show (K.groups++[E3.extract 1 E3.size]).length=K.groups.length+1 by simp,List.map_append];exact hown4
         have HS2:=ah (HS.out.at_.newRow (V':={ V with vL:=Y (some ⟨g3,0,O⟩) (K.list.length+1) cap3,vG:=Y (some ⟨g4,0,O⟩) (K.groups.length+1) cap4 }) (K':={ K with list:=K.list++[(E1,E2,E3)],groups:=K.groups++[E3.extract 1 E3.size] }) (i:=7) (w1:=w4) (r:=⟨9,1,V.vG,K.groups.length,K.groups.map Value.string⟩) (r':=⟨9,1,Y (some ⟨g4,0,O⟩) (K.groups.length+1) cap4,(K.groups++[E3.extract 1 E3.size]).length,(K.groups++[E3.extract 1 E3.size]).map Value.string⟩) rfl
          ((Kp.of_below hbl).trans' (by rw[hvG];exact Kp.row hg4)) ho4 (fun y hy=>by
           simp[Value.ownBlock] at hy;subst hy
           show V.vG.ownBlock=_∨_
           rw[hvG];exact hat4.imp (fun q=>q) (fun q=>by omega)) 11 rfl rfl rfl)
         clear hown4 hg4 hat4 hlt4 ho4;generalize w4.setCell ⟨g,11,O⟩ (Y (some ⟨g4,0,O⟩) (K.groups.length+1) cap4)=w6 at *;go_wp2_with fail;go_ret;have HU:Kst N wA w6 g K V (iE K (E1,E2,E3)) { V with vL:=Y (some ⟨g3,0,O⟩) (K.list.length+1) cap3,vG:=Y (some ⟨g4,0,O⟩) (K.groups.length+1) cap4 }:=by
          unfold iE;simp only
          rw[HGo.out];exact HT.out.trans HS2.out
         exact HYes.out _ _ HU
       ·have hr':((E3[0].toNat:Int)==114)=false:=beq_eq_false_iff_ne.2 hr
        have HGo:Hid (uL E3 K.groups=K.groups):=by unfold Hid uL;rw[if_neg (fun hc=>hr (e0.symm.trans hc))]
        clear hr e0;go_wp2_with fail;go_ret;have HU:Kst N wA w5 g K V (iE K (E1,E2,E3)) { V with vL:=Y (some ⟨g3,0,O⟩) (K.list.length+1) cap3 }:=by
         unfold iE;simp only
         rw[HGo.out];exact HT.out
        exact HYes.out _ _ HU
end
end Go.Proofs.YtajakaadgagejaaGreatDoor
