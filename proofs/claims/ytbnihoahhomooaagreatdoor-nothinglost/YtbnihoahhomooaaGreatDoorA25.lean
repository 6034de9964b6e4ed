import Derived.Test.YtbnihoahhomooaaGreatDoorA22
import Derived.Laws.StructEq
set_option maxRecDepth 100000
set_option maxHeartbeats 8000000
set_option linter.all false
namespace Go.Proofs.YtbnihoahhomooaaGreatDoor
open Go.Value renaming int→I,slice→Y,string→Z,pointer→Zp
open Go.Ending renaming returned→Zr
open _root_.ByteArray renaming empty→Ze
open Go.IntKind renaming i64→J
open Option renaming none→O
open Go.RowKit
section
variable {N:Nat} {w w':World} {g:Nat} {K K':Kw} {V V':Kv}
theorem Ei (h:KAt N w g K V) (z:KSz K) (he:∀ x∈K.nds,0≤x.R.epoch∧x.R.epoch≤1000) (hlog:∀ x∈K.nds,x.R.log.length≤1000) (hg:∀ t∈K.groups,t.size≤1000000) :
    Calls Tryz.prog 113 #[Zp (some ⟨g,0,O⟩)] w fun e w'=>sH w w' e:=by
  obtain ⟨n, hn⟩ : ∃ n : Nat, K.n = n := ⟨K.n.toNat, by have := z.n3; omega⟩
  have z1:=z.nds
  have z7:=z.n7
  rw[hn] at z1 z7
  obtain⟨aN,cN,hvN⟩:=aj h.rN
  obtain⟨aG,cG,hvG⟩:=aj h.rG
  obtain⟨aL,cL,hvL⟩:=aj h.rL
  have hgl:K.groups.length≤9223372036854775807:=by
    have:=Rd.form (Rd.bR h.rG)
    obtain⟨_,_,_,q1,q2,_⟩:=this
    unfold maxLen at q2;omega
  have HL:=ah (Ec h z he)
  have HN:=ah (fun (w2:World) (hw2:Below w.heap.size w w2)=>KAt.ptr h hvN hw2)
  have HG:=ah (fun (w2:World) (hw2:Below w.heap.size w w2)=>KAt.grp h hvG hw2)
  have HW:=ah (fun (w2:World) (hw2:Below w.heap.size w w2)=>KAt.whr h hw2)
  have HC1 : Hid (∀ w2, Below w.heap.size w w2 → w2.cell? ⟨g, 1, O⟩ = some (I J n)) := fun w2 hw2 => by rw [← hn]; exact (h.below hw2).cell 1
  have HC2 : Hid (∀ w2, Below w.heap.size w w2 → w2.cell? ⟨g, 2, O⟩ = some (Y aN K.nds.length cN)) := fun w2 hw2 => by rw [← hvN]; exact (h.below hw2).cell 2
  have HC10 : Hid (∀ w2, Below w.heap.size w w2 → w2.cell? ⟨g, 10, O⟩ = some (Y aL K.list.length cL)) := fun w2 hw2 => by rw [← hvL]; exact (h.below hw2).cell 10
  have HC11 : Hid (∀ w2, Below w.heap.size w w2 → w2.cell? ⟨g, 11, O⟩ = some (Y aG K.groups.length cG)) := fun w2 hw2 => by rw [← hvG]; exact (h.below hw2).cell 11
  have HLg:Hid (∀ w2,Below w.heap.size w w2→∀ k,(hk:k<K.nds.length)→Calls Tryz.prog 104 #[Zp (some ⟨K.nds[k].b,0,O⟩)] w2 fun e w'=>∃ (a:Option Addr) (m c:Nat),e=Zr (Y a m c)∧m≤1000∧Below w2.heap.size w2 w'):=fun w2 hw2 k hk=>by
    refine (uS (h.node k hk hw2) (hlog _ (List.getElem_mem hk))).mono ?_
    rintro e w3 ⟨v,rfl,ho,hb⟩
    obtain⟨a,c,rfl⟩:=aj ho
    exact⟨a,_,c,rfl,hlog _ (List.getElem_mem hk),hb⟩
  have HS:Hid (∀ k,(hk:k<K.groups.length)→(K.groups[k]).size≤1000000):=fun k hk=>hg _ (List.getElem_mem hk)
  clear h z he hlog hg
  go_enter Tryz.func113,Tryz.ntmps113
  go_wp2_with fail
  refine HL.out.mono ?_
  rintro e w1 ⟨a,v,rfl,ha0,ha1,hb1⟩
  have c11:=HC11.out _ hb1
  by_cases hne:a+1=(K.groups.length:Int)
  · obtain⟨ia,rfl⟩:=Int.eq_ofNat_of_zero_le ha0
    obtain ⟨b1, o1, rfl, _, d1⟩ := HG.out _ hb1 ia (by omega)
    have sg := HS.out ia (by omega)
    generalize K.groups[ia]=t at *
    have HA : Hid (∀ (k : Int) (w : World), Calls Tryz.prog 56 #[Z t, I J k] w fun e w' => ∃ b, e = Zr (.bool b) ∧ w' = w) := fun k w => zH t k w (by omega)
    have j2 : (ia : Int) < (K.groups.length : Int) := by omega
    have hne' : (((ia : Int) + 1) != (K.groups.length : Int)) = false := by rw [hne]; simp
    go_wp2_with fail
    go_loopw [6] (fun i wr=>∃ k:Nat,k≤n∧i=I J k∧Below w.heap.size w wr) (fun i _=>n-(intOf i).toNat)
    case atStart=>exact⟨0,Nat.zero_le _,rfl,hb1⟩
    case round =>
      obtain⟨k,hk,rfl,hbw⟩:=hrel
      have c1:=HC1.out _ hbw
      by_cases hlt:k<n
      · obtain ⟨b2, o2, rfl, hb2, d2⟩ := HN.out _ hbw k (by omega)
        have j1 : (0 : Int) ≤ (k : Int) := by omega
        have j3 : (k : Int) < (K.nds.length : Int) := by omega
        have j4 : (k : Int) < (n : Int) := by omega
        have c2:=HC2.out _ hbw
        have HQ := ah (HW.out wr hbw k (by omega))
        have HQ2 : Hid (∀ w2, Below w.heap.size w w2 → Calls Tryz.prog 104 #[Zp (some ⟨K.nds[k].b, 0, O⟩)] w2 fun e w' => ∃ (a : Option Addr) (m c : Nat), e = Zr (Y a m c) ∧ m ≤ 1000 ∧ Below w2.heap.size w2 w') := fun w2 hw2 => HLg.out w2 hw2 k (by omega)
        generalize K.nds[k].b=bb at *
        generalize K.nds[k].R.epoch=r1 at *
        generalize K.nds[k].R.view=r2 at *
        generalize K.nds[k].R.status=r3 at *
        generalize K.nds[k].R.decided=r4 at *
        go_wp2_with fail
        refine (HA.out _ _).mono ?_
        rintro e w4 ⟨bA,rfl,hw4⟩
        subst hw4
        cases bA
        · go_wp2
          go_roundw
          case rel => exact ⟨k + 1, by omega, by go_num, hbw⟩
          case measure=>simp[intOf];omega
        · go_wp2_with fail
          refine HQ.out.mono ?_
          rintro e w2 ⟨rfl,nn,hw2⟩
          have hb2' : Below w.heap.size w w2 := by rw [hw2]; exact below_drewN hbw nn
          have c2':=HC2.out _ hb2'
          have d2' : w2.cell? ⟨b2, o2 + k, O⟩ = some (Zp (some ⟨bb, 0, O⟩)) := by rw [hw2]; exact d2
          clear hw2
          go_wp2_with fail
          refine (HQ2.out _ hb2').mono ?_
          rintro e w3 ⟨al,ml,cl,rfl,hml,hb3⟩
          have hb3':Below w.heap.size w w3:=hb2'.trans (hb3.mono hb2'.size)
          have c10:=HC10.out _ hb3'
          go_wp2_with fail
          all_goals first
            | (go_ret;exact⟨_,rfl,hb3'⟩)
            | (go_roundw
               case rel => exact ⟨k + 1, by omega, by go_num, hb3'⟩
               case measure=>simp[intOf];omega)
      · go_wp2
        go_ret
        exact⟨_,rfl,hbw⟩
  · have hne':((a+1) != (K.groups.length:Int))=true:=bne_iff_ne.2 hne
    go_wp2
    go_ret
    exact⟨_,rfl,hb1⟩
end
def xS (a b:Int) (s:ByteArray) (c d:Int) (t:ByteArray):Bool:=a==c&&b==d&&s.toList==t.toList
theorem za {a b:Int} {s:ByteArray} {c d:Int} {t:ByteArray}:xS a b s c d t=true↔a=c∧b=d∧s=t:=by
 unfold xS;simp only[Bool.and_eq_true,beq_iff_eq]
 constructor
 ·rintro⟨⟨h1,h2⟩,h3⟩
  refine⟨h1,h2,?_⟩
  rw[ByteArray.toList_eq,ByteArray.toList_eq] at h3;obtain⟨⟨x⟩⟩:=s
  obtain⟨⟨y⟩⟩:=t
  simp at h3;rw[h3]
 ·rintro⟨rfl,rfl,rfl⟩;exact⟨⟨rfl,rfl⟩,rfl⟩
theorem Ol (w:World) (a b:Int) (s:ByteArray) (c d:Int) (t:ByteArray):Sem.run Tryz.prog (binOp .eql 66 (.agg #[I J a,I J b,Z s]) (.agg #[I J c,I J d,Z t])) w=.ok (.bool (xS a b s c d t)) w:=by
 have hS:Tryz.prog.underlying 66=some (.struct (Tryz.prog.fieldsOf 66)):=by kernel_rfl
 have hp:Tryz.prog.stoodInHeld 66=false:=by kernel_rfl
 rw[run_eql_struct,show (10000:Nat)=9999+1 from rfl,run_equalIn_agg w 9999 66 _ _ hS hp]
 simp only[Program.fieldsOf,Tryz.underlying66];unfold xS;go_simp;by_cases h1:a=c <;> by_cases h2:b=d <;> by_cases h3:s.toList=t.toList <;> simp[h1,h2,h3]
theorem Pb (w:World) (a b:Int) (s:ByteArray) (c d:Int) (t:ByteArray):Sem.run Tryz.prog (binOp .neq 66 (.agg #[I J a,I J b,Z s]) (.agg #[I J c,I J d,Z t])) w=.ok (.bool (!xS a b s c d t)) w:=by
 have hS:Tryz.prog.underlying 66=some (.struct (Tryz.prog.fieldsOf 66)):=by kernel_rfl
 have hp:Tryz.prog.stoodInHeld 66=false:=by kernel_rfl
 rw[run_neq_struct,show (10000:Nat)=9999+1 from rfl,run_equalIn_agg w 9999 66 _ _ hS hp]
 simp only[Program.fieldsOf,Tryz.underlying66];unfold xS;go_simp;by_cases h1:a=c <;> by_cases h2:b=d <;> by_cases h3:s.toList=t.toList <;> simp[h1,h2,h3]
theorem eqGd (w:World) (op:BinOp) (x y:Operand) (xs ys:Array Value):(eqGuard op 66 x y (.agg xs) (.agg ys)).run Tryz.prog w=.ok () w:=run_eqGuard_agg w op 66 x y xs ys (by kernel_rfl)
section
variable {N:Nat} {w w':World} {g:Nat} {K K':Kw} {V V':Kv}
def nI (op:ByteArray) (G:List ByteArray):List ByteArray:=if b0 op=114 then G++[op.extract 1 op.size] else G
def iI (K:Kw) (E:En):Kw:={ K with list:=K.list++[E],groups:=nI E.2.2 K.groups }
def BadJ (K:Kw) (E:En):Prop:=∃ v∈K.wishes,v.e=E∧(v.bad=true∨(K.list.length:Int)<v.floor)
def Hg (N:Nat) (w w':World) (g:Nat) (K:Kw) (V:Kv) (E:En) (e:Ending):Prop:=∃ b K' V',e=Zr (.bool b)∧Kst N w w' g K V K' V'∧((b=true∧K'=iI K E)∨(b=false∧(K'={ K with part:=1 }∨(K'={ K with part:=4 }∧BadJ K E))))
theorem Gb (h:KAt N w g K V) (E:En) (hE1:0<E.2.2.size) (hll:K.list.length≤1000) (hgl:K.groups.length≤1000) :
  Calls Tryz.prog 105 #[Zp (some ⟨g,0,O⟩),.agg #[I J E.1,I J E.2.1,Z E.2.2]] w fun e w'=>Hg N w w' g K V E e:=by
 have hb0:Below w.heap.size w (w.alloc (.cells #[I J E.1,I J E.2.1,Z E.2.2] 66)):=(Below.refl _ w).alloc (Nat.le_refl _) _
 have hx:=heap_alloc_new w (.cells #[I J E.1,I J E.2.1,Z E.2.2] 66);have hA:=h.below hb0;have hxn:w.heap.size∉iy g K V:=fun hc=>by
  obtain⟨c,hc1,hc2⟩:=List.mem_flatten.1 hc
  have:=h.lt c hc1 _ hc2
  omega
 have HK0:=ah ((Kst.refl h).below hb0);clear h hb0;go_enter Tryz.func105,Tryz.ntmps105;go_wp2_with fail;generalize w.alloc (.cells #[I J E.1,I J E.2.1,Z E.2.2] 66)=wA at *;obtain⟨aL,cL,hvL⟩:=aj hA.rL
 have HC10:Hid (∀ w2,Below wA.heap.size wA w2→w2.cell? ⟨g,10,O⟩=some (Y aL K.list.length cL)):=fun w2 hw2=>by rw[← hvL];exact (hA.below hw2).cell 10
 have HL:Hid (∀ w2,Below wA.heap.size wA w2→gW w2 (Y aL K.list.length cL) K.list):=fun w2 hw2=>by rw[← hvL];exact (hA.below hw2).eL
 obtain⟨aW,cW,hvW⟩:=aj hA.rW
 have HC8:Hid (∀ w2,Below wA.heap.size wA w2→w2.cell? ⟨g,8,O⟩=some (Y aW K.wishes.length cW)):=fun w2 hw2=>by rw[← hvW];exact (hA.below hw2).cell 8
 have HW:Hid (∀ w2,Below wA.heap.size wA w2→jY w2 (Y aW K.wishes.length cW) K.wishes):=fun w2 hw2=>by rw[← hvW];exact (hA.below hw2).eW
 obtain⟨aG,cG,hvG⟩:=aj hA.rG
 have HC11:Hid (∀ w2,Below wA.heap.size wA w2→w2.cell? ⟨g,11,O⟩=some (Y aG K.groups.length cG)):=fun w2 hw2=>by rw[← hvG];exact (hA.below hw2).cell 11
 have HG:=ah (fun (w2:World) (hw2:Below wA.heap.size wA w2)=>KAt.grp hA hvG hw2)
 have HF1:Hid (∀ w2,Below wA.heap.size wA w2→Calls Tryz.prog 66 #[Zp (some ⟨g,0,O⟩),I J 1] w2 fun e w'=>e=Zr (.bool false)∧Kst N wA w' g K V { K with part:=1 } V):=fun w2 hw2=>(mG (hA.below hw2) 1).mono (by
  rintro e w3 ⟨rfl,k⟩;exact⟨rfl,((Kst.refl hA).below hw2).trans k⟩)
 have HF4:Hid (∀ w2,Below wA.heap.size wA w2→Calls Tryz.prog 66 #[Zp (some ⟨g,0,O⟩),I J 4] w2 fun e w'=>e=Zr (.bool false)∧Kst N wA w' g K V { K with part:=4 } V):=fun w2 hw2=>(mG (hA.below hw2) 4).mono (by
  rintro e w3 ⟨rfl,k⟩;exact⟨rfl,((Kst.refl hA).below hw2).trans k⟩)
 have HX:Hid (∀ w2,Below wA.heap.size wA w2→w2.heap[w.heap.size]? = some (.cells #[I J E.1,I J E.2.1,Z E.2.2] 66)):=fun w2 hw2=>(hw2.block _ (lt_of_block hx)).trans hx
 have HNo1:Hid (∀ w2,Kst N wA w2 g K V { K with part:=1 } V→Hg N w w2 g K V E (Zr (.bool false))):=fun w2 k=>⟨false,_,_,rfl,HK0.out.trans k,.inr ⟨rfl,.inl rfl⟩⟩
 have HNo4:Hid (∀ w2,Kst N wA w2 g K V { K with part:=4 } V→BadJ K E→Hg N w w2 g K V E (Zr (.bool false))):=fun w2 k hb=>⟨false,_,_,rfl,HK0.out.trans k,.inr ⟨rfl,.inr ⟨rfl,hb⟩⟩⟩
 have HYes:Hid (∀ w2 V2,Kst N wA w2 g K V (iI K E) V2→Hg N w w2 g K V E (Zr (.bool true))):=fun w2 V2 k=>⟨true,_,_,rfl,HK0.out.trans k,.inl ⟨rfl,rfl⟩⟩
 have hwl:K.wishes.length≤9223372036854775807:=by
  obtain⟨_,_,_,q1,q2⟩:=hA.eW.shape
  omega
 have HH:=ah hA;have hgb:g<wA.heap.size:=hA.lb
 clear hx hA;obtain⟨E1,E2,E3⟩:=E
 have hEq:=Ol;have hGd:=eqGd;simp only at *
 go_loopw [5] (fun i wr=>∃ k:Nat,k≤K.list.length∧i=I J k∧Below wA.heap.size wA wr) (fun i _=>K.list.length-(intOf i).toNat)
 case atStart=>exact⟨0,Nat.zero_le _,rfl,Below.refl _ _⟩
 case round =>
  obtain⟨k,hk,rfl,hbw⟩:=hrel
  have c10:=HC10.out _ hbw;have hx:=HX.out _ hbw;have x0:wr.cell? ⟨w.heap.size,0,O⟩=some (I J E1):=by simp[World.cell?,hx]
  have x1:wr.cell? ⟨w.heap.size,1,O⟩=some (I J E2):=by simp[World.cell?,hx]
  clear hx;by_cases hlt:k<K.list.length
  ·obtain⟨b1',o1,rfl,_,d1,d2,d3⟩:=(HL.out _ hbw).get k hlt
   have j1:(0:Int)≤(k:Int):=by omega
   have j2:(k:Int)<(K.list.length:Int):=by omega
   generalize K.list[k].1=cl at *;generalize K.list[k].2.1=nu at *;generalize K.list[k].2.2=op at *;by_cases hq:cl=E1
   ·have hq':(cl==E1)=true:=beq_iff_eq.2 hq
    clear hq;by_cases hn:E2≤nu
    ·go_wp2_with fail;go_quiet (fail);have hbq:=below_drewN hbw nq;have HFq:=ah (HF1.out _ hbq);go_wp2_with fail;refine HFq.out.mono ?_;rintro e w2 ⟨rfl,k2⟩;go_wp2;go_ret;exact HNo1.out _ k2
    ·go_wp2_with fail;go_quiet (fail);have hbq:=below_drewN hbw nq;go_wp2;go_roundw
     case rel=>exact⟨k+1,by omega,by go_num,hbq⟩
     case measure=>simp[intOf];omega
   ·have hq':(cl==E1)=false:=beq_eq_false_iff_ne.2 hq
    clear hq;go_wp2_with fail;go_quiet (fail);have hbq:=below_drewN hbw nq;go_wp2;go_roundw
    case rel=>exact⟨k+1,by omega,by go_num,hbq⟩
    case measure=>simp[intOf];omega
  ·obtain⟨wL,HwL⟩:∃ x,x=wr:=⟨_,rfl⟩
   subst HwL;clear x0 x1;go_wp2_with fail;clear c10;go_loopw [6,7] (fun m i wr=>∃ (k:Nat) (x:Bool),k≤K.wishes.length∧i=I J k∧m=.bool x∧Below wA.heap.size wA wr) (fun _ i _=>K.wishes.length-(intOf i).toNat)
   case atStart=>exact⟨0,false,Nat.zero_le _,rfl,rfl,hbw⟩
   case round =>
    obtain⟨m,x,hm,rfl,rfl,hbv⟩:=hrel
    have c8:=HC8.out _ hbv;have c10:=HC10.out _ hbv;have hx:=HX.out _ hbv;have x0:wr.cell? ⟨w.heap.size,0,O⟩=some (I J E1):=by simp[World.cell?,hx]
    have x1:wr.cell? ⟨w.heap.size,1,O⟩=some (I J E2):=by simp[World.cell?,hx]
    have x2:wr.cell? ⟨w.heap.size,2,O⟩=some (Z E3):=by simp[World.cell?,hx]
    clear hx;by_cases hlm:m<K.wishes.length
    ·obtain⟨b2,o2,rfl,_,d1,d2,d3,d4,d5,d6⟩:=(HW.out _ hbv).get m hlm
     have j1:(0:Int)≤(m:Int):=by omega
     have j2:(m:Int)<(K.wishes.length:Int):=by omega
     have HBj:Hid (xS K.wishes[m].e.1 K.wishes[m].e.2.1 K.wishes[m].e.2.2 E1 E2 E3=true→K.wishes[m].bad=true∨(K.list.length:Int)<K.wishes[m].floor→BadJ K (E1,E2,E3)):=fun h1 h2=>by
      obtain⟨e1,e2,e3⟩:=za.1 h1
      exact⟨_,List.getElem_mem hlm,Prod.ext e1 (Prod.ext e2 e3),h2⟩
     generalize K.wishes[m].e.1=cl at *;generalize K.wishes[m].e.2.1=nu at *;generalize K.wishes[m].e.2.2=op at *;generalize h_fl:K.wishes[m].floor=fl at *;generalize h_bd:K.wishes[m].bad=bd at *;generalize K.wishes[m].text=tx at *;cases hen:xS cl nu op E1 E2 E3
     ·go_wp2_with fail;go_quiet (fail);have hbq:=below_drewN hbv nq;go_wp2;go_roundw
      case rel=>exact⟨m+1,x,by omega,by go_num,rfl,hbq⟩
      case measure=>simp[intOf];omega
     ·have HQ:Hid (∀ w2,Below wA.heap.size wA w2→w2.cell? ⟨g,8,O⟩=some (Y (some ⟨b2,o2,O⟩) K.wishes.length cW)∧w2.cell? ⟨g,10,O⟩=some (Y aL K.list.length cL)∧w2.cell? ⟨b2,o2+m*6+4,O⟩=some (I J fl)∧w2.cell? ⟨b2,o2+m*6+5,O⟩=some (.bool bd)):=fun w2 hw2=>by
       obtain⟨b3,o3,e3,_,_,_,_,_,f5,f6⟩:=(HW.out _ hw2).get m hlm
       cases e3;rw[h_fl] at f5;rw[h_bd] at f6;exact⟨HC8.out _ hw2,HC10.out _ hw2,f5,f6⟩
      go_wp2_with fail;go_quiet (fail);have hbq:=below_drewN hbv nq;generalize wr.drewN nq=wB at *;clear d1 d2 d3 d4 d5 d6 c8 c10 x0 x1 x2;obtain⟨c8,c10,d5,d6⟩:=HQ.out _ hbq
      have HBj:=ah (HBj.out hen);clear hen;cases bd
      ·by_cases hfl:(K.list.length:Int)<fl
       ·have HB4:=ah (HBj.out (.inr hfl));go_wp2_with fail;go_quiet (fail);have hbr:=below_drewN hbq nq;have HFq:=ah (HF4.out _ hbr);go_wp2_with fail;refine HFq.out.mono ?_;rintro e w2 ⟨rfl,k2⟩;go_wp2;go_ret;exact HNo4.out _ k2 HB4.out
       ·go_wp2_with fail;go_quiet (fail);have hbr:=below_drewN hbq nq;go_wp2;go_roundw
        case rel=>exact⟨m+1,true,by omega,by go_num,rfl,hbr⟩
        case measure=>simp[intOf];omega
      ·have HB4:=ah (HBj.out (.inl rfl));go_wp2_with fail;go_quiet (fail);have hbr:=below_drewN hbq nq;have HFq:=ah (HF4.out _ hbr);go_wp2_with fail;refine HFq.out.mono ?_;rintro e w2 ⟨rfl,k2⟩;go_wp2;go_ret;exact HNo4.out _ k2 HB4.out
    ·cases x
     ·go_wp2_with fail;refine (HF1.out _ hbv).mono ?_;rintro e w2 ⟨rfl,k2⟩;go_wp2;go_ret;exact HNo1.out _ k2
     ·have hAv:=HH.out.below hbv;have HKv:=ah ((Kst.refl HH.out).below hbv);obtain⟨i0,hi,hz0,hz1,hz2⟩:=info_parts Tryz.infoEnt
      have hrow:=hAv.rL;rw[hvL] at hrow;have f10:=hAv.free 10;have hne:some g≠(Y aL K.list.length cL).ownBlock:=by rw[← hvL];exact hAv.gne (i:=6) rfl
      have hgB:g<wr.heap.size:=hAv.lb
      have HHv:=ah hAv;clear hAv;go_wp2_with fail;clear c8;go_region_law (first|(refine step_append_lies (w:=(wr.alloc (.cells #[I J E1,I J E2,Z E3] 66)).drew) (by rfl) (.tmp 96) (.tmp 98) 47 (by rfl) 0 66 i0 (.agg #[I J 0,I J 0,Z Ze]) 3 32 Tryz.underlying47 hi hz0 hz1 hz2 rfl (by decide) (Y aL K.list.length cL) K.list.length (aA K.list) (by rfl) (bU (hrow.alloc _) (Below.refl _ _).drew) ⟨wr.heap.size,0,O⟩ 1 1 [I J E1,I J E2,Z E3] (by rfl) (by rfl) (World.news_of_block (show ((wr.alloc (.cells #[I J E1,I J E2,Z E3] 66)).drew).heap[wr.heap.size]? = _ from heap_alloc_new wr (.cells #[I J E1,I J E2,Z E3] 66))) (by intro u hu;simp at hu;rcases hu with rfl|rfl|rfl <;> rfl) (by decide) (by unfold maxLen;omega) (by omega) (Nat.zero_le _) (wr.heap.size+1) (by simp) ?_;intro g3 cap3 w3 hown3 hg3 hat3 hlt3;have hbl3:Below wr.heap.size wr ((wr.alloc (.cells #[I J E1,I J E2,Z E3] 66)).drew):=(((Below.refl _ wr).alloc (Nat.le_refl _) _).drew);have t3:w3.cell? ⟨g,10,O⟩=some (Y aL K.list.length cL):=(hg3.cell_far ⟨g,10,O⟩ (by simp;omega) hne).trans ((hbl3.cell (p:=⟨g,10,O⟩) hgB).trans c10);have f3:w3.frozen? ⟨g,10,O⟩=false:=(hg3.frozen_far ⟨g,10,O⟩ (by simp;omega) hne).trans ((hbl3.frozen (p:=⟨g,10,O⟩) hgB).trans f10))|(refine step_append_lies (w:=wr.drew.alloc (.cells #[I J E1,I J E2,Z E3] 66)) (by rfl) (.tmp 96) (.tmp 98) 47 (by rfl) 0 66 i0 (.agg #[I J 0,I J 0,Z Ze]) 3 32 Tryz.underlying47 hi hz0 hz1 hz2 rfl (by decide) (Y aL K.list.length cL) K.list.length (aA K.list) (by rfl) ((bU hrow (Below.refl _ _).drew).alloc _) ⟨wr.heap.size,0,O⟩ 1 1 [I J E1,I J E2,Z E3] (by rfl) (by rfl) (World.news_of_block (heap_alloc_new wr.drew (.cells #[I J E1,I J E2,Z E3] 66))) (by intro u hu;simp at hu;rcases hu with rfl|rfl|rfl <;> rfl) (by decide) (by unfold maxLen;omega) (by omega) (Nat.zero_le _) (wr.heap.size+1) (by simp) ?_;intro g3 cap3 w3 hown3 hg3 hat3 hlt3;have hbl3:Below wr.heap.size wr (wr.drew.alloc (.cells #[I J E1,I J E2,Z E3] 66)):=((Below.refl _ wr).drew.alloc (Nat.le_refl _) _);have t3:w3.cell? ⟨g,10,O⟩=some (Y aL K.list.length cL):=(hg3.cell_far ⟨g,10,O⟩ (by simp;omega) hne).trans ((hbl3.cell (p:=⟨g,10,O⟩) hgB).trans c10);have f3:w3.frozen? ⟨g,10,O⟩=false:=(hg3.frozen_far ⟨g,10,O⟩ (by simp;omega) hne).trans ((hbl3.frozen (p:=⟨g,10,O⟩) hgB).trans f10)))
      all_goals
       have e4:aA (K.list++[(E1,E2,E3)])=aA K.list++[I J E1,I J E2,Z E3]:=by simp[aA]
       have ho4:w3.ownsRow 0 66 3 (Y (some ⟨g3,0,O⟩) (K.list.length+1) cap3) (K.list++[(E1,E2,E3)]).length (aA (K.list++[(E1,E2,E3)])):=by
        rw[e4,show (K.list++[(E1,E2,E3)]).length=K.list.length+1 by simp];exact hown3
       have HS:=ah (HHv.out.newRow (V':={ V with vL:=Y (some ⟨g3,0,O⟩) (K.list.length+1) cap3 }) (K':={ K with list:=K.list++[(E1,E2,E3)] }) (i:=6) (w1:=w3) (r:=⟨66,3,V.vL,K.list.length,aA K.list⟩) (r':=⟨66,3,Y (some ⟨g3,0,O⟩) (K.list.length+1) cap3,(K.list++[(E1,E2,E3)]).length,aA (K.list++[(E1,E2,E3)])⟩) rfl
        ((Kp.of_below hbl3).trans' (by rw[hvL];exact Kp.row hg3)) ho4 (fun y hy=>by
         simp[Value.ownBlock] at hy;subst hy
         show V.vL.ownBlock=_∨_
         rw[hvL];exact hat3.imp (fun q=>q) (fun q=>by omega)) 10 rfl rfl rfl)
       clear hown3 hg3 hat3 hlt3 ho4 e4;generalize w3.setCell ⟨g,10,O⟩ (Y (some ⟨g3,0,O⟩) (K.list.length+1) cap3)=w5 at *;have HT:=ah (HKv.out.trans HS.out);have hx:=(HS.out.kp.block w.heap.size (lt_of_block (HX.out _ hbv)) hxn).trans (HX.out _ hbv);have x2:w5.cell? ⟨w.heap.size,2,O⟩=some (Z E3):=by simp[World.cell?,hx]
       clear hx x0 x1 c10;have y1:(0:Int)<(E3.size:Int):=by omega
       have y2:(1:Int)≤(E3.size:Int):=by omega
       have e0:b0 E3=(E3[0].toNat:Int):=by unfold b0;rw[atS hE1]
       by_cases hr:(E3[0].toNat:Int)=114
       ·have hr':((E3[0].toNat:Int)==114)=true:=beq_iff_eq.2 hr
        have HGo:Hid (nI E3 K.groups=K.groups++[E3.extract 1 E3.size]):=by unfold Hid nI;rw[if_pos (e0.trans hr)]
        clear hr e0;obtain⟨i0,hi,hz0,hz1,hz2⟩:=info_parts Tryz.infoStr
        have h5:=HS.out.at_;have hrow:=h5.rG;have c11:w5.cell? ⟨g,11,O⟩=some V.vG:=h5.cell 11
        have f11:=h5.free 11;have hne:some g≠V.vG.ownBlock:=h5.gne (i:=7) rfl
        simp only at hrow
        rw[hvG] at hrow c11 hne;have hg5:g<w5.heap.size:=h5.lb
        clear h5;go_wp2_with fail;go_region_law (first|(refine step_append_lies (w:=(w5.alloc (.cells #[Z (E3.extract 1 E3.size)] 9)).drew) (by rfl) (.tmp 110) (.tmp 114) 48 (by rfl) 0 9 i0 (Z Ze) 1 16 Tryz.underlying48 hi hz0 hz1 hz2 rfl (by decide) (Y aG K.groups.length cG) K.groups.length (K.groups.map Value.string) (by rfl) (bU (hrow.alloc _) (Below.refl _ _).drew) ⟨w5.heap.size,0,O⟩ 1 1 [Z (E3.extract 1 E3.size)] (by rfl) (by rfl) (World.news_of_block (show ((w5.alloc (.cells #[Z (E3.extract 1 E3.size)] 9)).drew).heap[w5.heap.size]? = _ from heap_alloc_new w5 (.cells #[Z (E3.extract 1 E3.size)] 9))) (by intro u hu;simp at hu;subst hu;rfl) (by decide) (by unfold maxLen;omega) (by omega) (Nat.zero_le _) (w5.heap.size+1) (by simp) ?_;intro g4 cap4 w4 hown4 hg4 hat4 hlt4;have hbl:Below w5.heap.size w5 ((w5.alloc (.cells #[Z (E3.extract 1 E3.size)] 9)).drew):=(((Below.refl _ w5).alloc (Nat.le_refl _) _).drew);have t4:w4.cell? ⟨g,11,O⟩=some (Y aG K.groups.length cG):=(hg4.cell_far ⟨g,11,O⟩ (by simp;omega) hne).trans ((hbl.cell (p:=⟨g,11,O⟩) hg5).trans c11);have f4:w4.frozen? ⟨g,11,O⟩=false:=(hg4.frozen_far ⟨g,11,O⟩ (by simp;omega) hne).trans ((hbl.frozen (p:=⟨g,11,O⟩) hg5).trans f11))|(refine step_append_lies (w:=w5.drew.alloc (.cells #[Z (E3.extract 1 E3.size)] 9)) (by rfl) (.tmp 110) (.tmp 114) 48 (by rfl) 0 9 i0 (Z Ze) 1 16 Tryz.underlying48 hi hz0 hz1 hz2 rfl (by decide) (Y aG K.groups.length cG) K.groups.length (K.groups.map Value.string) (by rfl) ((bU hrow (Below.refl _ _).drew).alloc _) ⟨w5.heap.size,0,O⟩ 1 1 [Z (E3.extract 1 E3.size)] (by rfl) (by rfl) (World.news_of_block (heap_alloc_new w5.drew (.cells #[Z (E3.extract 1 E3.size)] 9))) (by intro u hu;simp at hu;subst hu;rfl) (by decide) (by unfold maxLen;omega) (by omega) (Nat.zero_le _) (w5.heap.size+1) (by simp) ?_;intro g4 cap4 w4 hown4 hg4 hat4 hlt4;have hbl:Below w5.heap.size w5 (w5.drew.alloc (.cells #[Z (E3.extract 1 E3.size)] 9)):=((Below.refl _ w5).drew.alloc (Nat.le_refl _) _);have t4:w4.cell? ⟨g,11,O⟩=some (Y aG K.groups.length cG):=(hg4.cell_far ⟨g,11,O⟩ (by simp;omega) hne).trans ((hbl.cell (p:=⟨g,11,O⟩) hg5).trans c11);have f4:w4.frozen? ⟨g,11,O⟩=false:=(hg4.frozen_far ⟨g,11,O⟩ (by simp;omega) hne).trans ((hbl.frozen (p:=⟨g,11,O⟩) hg5).trans f11)))
        all_goals
         have ho4:w4.ownsRow 0 9 1 (Y (some ⟨g4,0,O⟩) (K.groups.length+1) cap4) (K.groups++[E3.extract 1 E3.size]).length ((K.groups++[E3.extract 1 E3.size]).map Value.string):=by
          rw[show (K.groups++[E3.extract 1 E3.size]).length=K.groups.length+1 by simp,List.map_append];exact hown4
         have HS2:=ah (HS.out.at_.newRow (V':={ V with vL:=Y (some ⟨g3,0,O⟩) (K.list.length+1) cap3,vG:=Y (some ⟨g4,0,O⟩) (K.groups.length+1) cap4 }) (K':={ K with list:=K.list++[(E1,E2,E3)],groups:=K.groups++[E3.extract 1 E3.size] }) (i:=7) (w1:=w4) (r:=⟨9,1,V.vG,K.groups.length,K.groups.map Value.string⟩) (r':=⟨9,1,Y (some ⟨g4,0,O⟩) (K.groups.length+1) cap4,(K.groups++[E3.extract 1 E3.size]).length,(K.groups++[E3.extract 1 E3.size]).map Value.string⟩) rfl
          ((Kp.of_below hbl).trans' (by rw[hvG];exact Kp.row hg4)) ho4 (fun y hy=>by
           simp[Value.ownBlock] at hy;subst hy
           show V.vG.ownBlock=_∨_
           rw[hvG];exact hat4.imp (fun q=>q) (fun q=>by omega)) 11 rfl rfl rfl)
         clear hown4 hg4 hat4 hlt4 ho4;generalize w4.setCell ⟨g,11,O⟩ (Y (some ⟨g4,0,O⟩) (K.groups.length+1) cap4)=w6 at *;go_wp2;go_ret;have HU:Kst N wA w6 g K V (iI K (E1,E2,E3)) { V with vL:=Y (some ⟨g3,0,O⟩) (K.list.length+1) cap3,vG:=Y (some ⟨g4,0,O⟩) (K.groups.length+1) cap4 }:=by
          unfold iI;simp only
          rw[HGo.out];exact HT.out.trans HS2.out
         exact HYes.out _ _ HU
       ·have hr':((E3[0].toNat:Int)==114)=false:=beq_eq_false_iff_ne.2 hr
        have HGo:Hid (nI E3 K.groups=K.groups):=by unfold Hid nI;rw[if_neg (fun hc=>hr (e0.symm.trans hc))]
        clear hr e0;go_wp2;go_ret;have HU:Kst N wA w5 g K V (iI K (E1,E2,E3)) { V with vL:=Y (some ⟨g3,0,O⟩) (K.list.length+1) cap3 }:=by
         unfold iI;simp only
         rw[HGo.out];exact HT.out
        exact HYes.out _ _ HU
end
section
variable {N:Nat} {w w':World} {g:Nat} {K K':Kw} {V V':Kv}
theorem KAt.setO (h:KAt N w g K V) {b cap:Nat} (hv:V.vO=Y (some ⟨b,0,O⟩) K.opn.length cap) (k:Nat) (x:Int):Kst N w (w.setCell ⟨b,k,O⟩ (I J x)) g K V { K with opn:=K.opn.set k x } V :=
 h.setRow (i:=5) (r:=⟨3,1,V.vO,K.opn.length,K.opn.map (Value.int .i64)⟩) rfl hv k (I J x) rfl (by unfold eY;simp only[List.length_set,List.map_set];rfl) rfl
theorem KAt.setB (h:KAt N w g K V) {b cap:Nat} (hv:V.vB=Y (some ⟨b,0,O⟩) K.begun.length cap) (k:Nat) (x:Int):Kst N w (w.setCell ⟨b,k,O⟩ (I J x)) g K V { K with begun:=K.begun.set k x } V :=
 h.setRow (i:=2) (r:=⟨3,1,V.vB,K.begun.length,K.begun.map (Value.int .i64)⟩) rfl hv k (I J x) rfl (by unfold eY;simp only[List.length_set,List.map_set];rfl) rfl
theorem KAt.setD (h:KAt N w g K V) {b cap:Nat} (hv:V.vD=Y (some ⟨b,0,O⟩) K.down.length cap) (k:Nat) (x:Bool):Kst N w (w.setCell ⟨b,k,O⟩ (.bool x)) g K V { K with down:=K.down.set k x } V :=
 h.setRow (i:=1) (r:=⟨4,1,V.vD,K.down.length,K.down.map Value.bool⟩) rfl hv k (.bool x) rfl (by unfold eY;simp only[List.length_set,List.map_set];rfl) rfl
theorem KI.down (h:KI K) (k:Nat) (x:Bool):KI { K with down:=K.down.set k x }:=⟨⟨h.sz.n3,h.sz.n7,h.sz.nds,by simpa using h.sz.down,h.sz.begun,h.sz.opn⟩,h.part,h.nod,h.net,h.wish,h.opn,h.list,h.grps,h.li,h.gl⟩
theorem KI.begun (h:KI K) (k:Nat) (x:Int):KI { K with begun:=K.begun.set k x }:=⟨⟨h.sz.n3,h.sz.n7,h.sz.nds,h.sz.down,by simpa using h.sz.begun,h.sz.opn⟩,h.part,h.nod,h.net,h.wish,h.opn,h.list,h.grps,h.li,h.gl⟩
theorem KI.opnf (h:KI K) (k:Nat) (f:Int):KI { K with opn:=K.opn.set k (-1),floor:=f }:=⟨⟨h.sz.n3,h.sz.n7,h.sz.nds,h.sz.down,h.sz.begun,by simpa using h.sz.opn⟩,h.part,h.nod,h.net,h.wish,fun v hv=>by
 rcases List.mem_or_eq_of_mem_set hv with q|rfl
 ·exact h.opn v q
 ·exact⟨by omega,by omega⟩,h.list,h.grps,h.li,h.gl⟩
def Fh (N:Nat) (w w':World) (g:Nat) (K:Kw) (V:Kv) (c:Nat) (e:Ending):Prop:=e=Zr (.tuple #[])∧∃ K',Kst N w w' g K V K' V∧(K'=K∨∃ f,K'={ K with opn:=K.opn.set c (-1),floor:=f }∧(f=K.floor∨f≤(K.list.length:Int)))
theorem F9 (h:KAt N w g K V) (hi:KI K) (c:Nat) (hc0:1≤c) (hc1:c≤9) (t:ByteArray) :
  Calls Tryz.prog 97 #[Zp (some ⟨g,0,O⟩),I J (c:Int),Z t] w fun e w'=>Fh N w w' g K V c e:=by
 have z10:=hi.sz.opn;have hop:c<K.opn.length:=by omega
 obtain⟨aO,cO,hvO⟩:=aj h.rO
 have HC9:Hid (∀ w2,Below w.heap.size w w2→w2.cell? ⟨g,9,O⟩=some (Y aO K.opn.length cO)):=fun w2 hw2=>by rw[← hvO];exact (h.below hw2).cell 9
 have HO:=ah (fun (w2:World) (hw2:Below w.heap.size w w2)=>KAt.opn h hvO hw2)
 obtain⟨aW,cW,hvW⟩:=aj h.rW
 have HC8:Hid (∀ w2,Below w.heap.size w w2→w2.cell? ⟨g,8,O⟩=some (Y aW K.wishes.length cW)):=fun w2 hw2=>by rw[← hvW];exact (h.below hw2).cell 8
 have HW:Hid (∀ w2,Below w.heap.size w w2→jY w2 (Y aW K.wishes.length cW) K.wishes):=fun w2 hw2=>by rw[← hvW];exact (h.below hw2).eW
 obtain⟨aL,cL,hvL⟩:=aj h.rL
 have HC10:Hid (∀ w2,Below w.heap.size w w2→w2.cell? ⟨g,10,O⟩=some (Y aL K.list.length cL)):=fun w2 hw2=>by rw[← hvL];exact (h.below hw2).cell 10
 have HL:Hid (∀ w2,Below w.heap.size w w2→gW w2 (Y aL K.list.length cL) K.list):=fun w2 hw2=>by rw[← hvL];exact (h.below hw2).eL
 have HY:Hid (∀ w2,Below w.heap.size w w2→Fh N w w2 g K V c (Zr (.tuple #[]))):=fun w2 hw2=>⟨rfl,K,(Kst.refl h).below hw2,.inl rfl⟩
 have hov:=hi.opn _ (List.getElem_mem hop);obtain⟨bO,capO,eO,hbO⟩:=pF h.rO (by omega)
 rw[hvO] at eO;cases eO;obtain⟨b2,o2,e2,_,d2⟩:=HO.out w (Below.refl _ _) c hop
 cases e2;simp only[Nat.zero_add] at d2;have c9:=HC9.out w (Below.refl _ _);have c8:=HC8.out w (Below.refl _ _);have j1:(0:Int)≤(c:Int):=by omega
 have j2:(c:Int)<(K.opn.length:Int):=by omega
 have hgl:g<w.heap.size:=h.lb
 by_cases hv:K.opn[c]<0
 ·clear h hi z10;generalize K.opn[c]=ov at *;go_enter Tryz.func97,Tryz.ntmps97;go_wp2_with fail;have HYw:=HY.out _ (Below.refl _ _);exact bodyPost_ret (v:=.tuple #[]) (results_none rfl _ _ _) rfl HYw
 ·obtain⟨o,ho⟩:=Int.eq_ofNat_of_zero_le (show 0≤K.opn[c] by omega)
  have hol:o<K.wishes.length:=by omega
  have q:=hi.wish _ (List.getElem_mem hol);obtain⟨b3,o3,rfl,hb3,d3,d4,d5,_⟩:=(HW.out w (Below.refl _ _)).get o hol
  rw[ho] at d2;have j3:(0:Int)≤(o:Int):=by omega
  have j4:(o:Int)<(K.wishes.length:Int):=by omega
  have HNc:Hid (∀ w2,Calls Tryz.prog 31 #[I J (c:Int)] w2 fun e w'=>e=Zr (Z (dg c))∧Below w2.heap.size w2 w'):=fun w2=>gI c w2 (by omega) (by omega)
  have sc:=fO (c:Int) (by omega)
  have HNk:Hid (∀ w2,Calls Tryz.prog 31 #[I J K.wishes[o].e.2.1] w2 fun e w'=>e=Zr (Z (dg K.wishes[o].e.2.1))∧Below w2.heap.size w2 w'):=fun w2=>gI _ w2 (by have:=q.n1;omega) (by have:=q.n9;omega)
  have sn:=fO K.wishes[o].e.2.1 (by have:=q.n9;omega)
  have HKO:Hid (∀ w2,Below w.heap.size w w2→KAt N w2 g K V):=fun w2 hw2=>h.below hw2
  have HF0:Hid (∀ b,w.heap.size≤b→b∉iy g K V):=fun b hb hc=>by
   obtain⟨c,hc1,hc2⟩:=List.mem_flatten.1 hc
   have:=h.lt c hc1 _ hc2
   omega
  have HKr:=ah (Kst.refl h);have hll:=hi.list.1;have q9:∀ o,(w.alloc o).cell? ⟨g,9,O⟩=some (Y (some ⟨bO,0,O⟩) K.opn.length cO):=fun o=>(((Below.refl _ w).alloc (Nat.le_refl _) o).cell (p:=⟨g,9,O⟩) hgl).trans c9
  have q8:∀ o,(w.alloc o).cell? ⟨g,8,O⟩=some (Y (some ⟨b3,o3,O⟩) K.wishes.length cW):=fun o=>(((Below.refl _ w).alloc (Nat.le_refl _) o).cell (p:=⟨g,8,O⟩) hgl).trans c8
  have q2:∀ x,(w.alloc x).cell? ⟨bO,c,O⟩=some (I J (o:Int)):=fun x=>(((Below.refl _ w).alloc (Nat.le_refl _) x).cell (p:=⟨bO,c,O⟩) hbO).trans d2
  have q3:∀ x,(w.alloc x).cell? ⟨b3,o3+o*6,O⟩=some (I J K.wishes[o].e.1):=fun x=>(((Below.refl _ w).alloc (Nat.le_refl _) x).cell (p:=⟨b3,o3+o*6,O⟩) hb3).trans d3
  have q4:∀ x,(w.alloc x).cell? ⟨b3,o3+o*6+1,O⟩=some (I J K.wishes[o].e.2.1):=fun x=>(((Below.refl _ w).alloc (Nat.le_refl _) x).cell (p:=⟨b3,o3+o*6+1,O⟩) hb3).trans d4
  have q5:∀ x,(w.alloc x).cell? ⟨b3,o3+o*6+2,O⟩=some (Z K.wishes[o].e.2.2):=fun x=>(((Below.refl _ w).alloc (Nat.le_refl _) x).cell (p:=⟨b3,o3+o*6+2,O⟩) hb3).trans d5
  clear h hi q hv hov ho z10;generalize K.wishes[o].e.1=cl at *;generalize K.wishes[o].e.2.1=nu at *;generalize K.wishes[o].e.2.2=op at *;generalize dg (c:Int)=dc at *;generalize dg nu=dn at *;have j0:¬(o:Int)<0:=by omega
  have z1:¬9223372036854775807<2+dc.size:=by omega
  have z2:¬9223372036854775807<2+dc.size+1:=by omega
  have z3:¬9223372036854775807<2+dc.size+1+dn.size:=by omega
  have z4:¬9223372036854775807<2+dc.size+1+dn.size+1:=by omega
  go_enter Tryz.func97,Tryz.ntmps97;go_wp2_with fail;go_region;have hbX:Below w.heap.size w (w.alloc (.cells #[I J cl,I J nu,Z op] 66)).drew:=((Below.refl _ w).alloc (Nat.le_refl _) _).drew
  have hxX:((w.alloc (.cells #[I J cl,I J nu,Z op] 66)).drew).heap[w.heap.size]? = some (.cells #[I J cl,I J nu,Z op] 66):=heap_alloc_new w _
  generalize (w.alloc (.cells #[I J cl,I J nu,Z op] 66)).drew=wX at *;clear q9 q8 q2 q3 q4 q5 d2 d3 d4 d5 c8 c9;go_wp2_with fail;refine (HNc.out _).mono ?_;rintro e w1 ⟨rfl,hb1⟩;have hb1':=hbX.trans (hb1.mono hbX.size)
  have hx1:=(hb1.block _ (lt_of_block hxX)).trans hxX;have x1:w1.cell? ⟨w.heap.size,1,O⟩=some (I J nu):=by simp[World.cell?,hx1]
  clear hbX hxX;go_wp2_with fail;refine (HNk.out _).mono ?_;rintro e w2 ⟨rfl,hb2⟩;have hb2':=hb1'.trans (hb2.mono hb1'.size)
  have hx2:=(hb2.block _ (lt_of_block hx1)).trans hx1;clear x1 hx1 hb1 hb2 hb1';have HYw:=ah (HY.out _ hb2');by_cases hlt:(t.size:Int)<2+(dc.size:Int)+1+(dn.size:Int)+1
  ·go_wp2;exact bodyPost_ret (v:=.tuple #[]) (results_none rfl _ _ _) rfl HYw.out
  ·have hle:2+(dc.size:Int)+1+(dn.size:Int)+1≤(t.size:Int):=by omega
   have c9:=HC9.out _ hb2';obtain⟨b4,o4,e4,_,d2⟩:=HO.out _ hb2' c hop
   cases e4;simp only[Nat.zero_add] at d2;have fz:=(HKO.out _ hb2').fz (i:=5) (r:=⟨3,1,V.vO,K.opn.length,K.opn.map (Value.int .i64)⟩) rfl hvO c;generalize K.opn[c]=ov at *;have HS4:=ah ((HKO.out _ hb2').setO hvO c (-1));have HT4:=ah ((HKr.out.below hb2').trans HS4.out);have hx4:=(HS4.out.kp.block _ (lt_of_block hx2) (HF0.out _ (Nat.le_refl _))).trans hx2;go_upto_region 6 with fail
   ·exact bodyPost_ret (v:=.tuple #[]) (results_none rfl _ _ _) rfl HYw.out
   ·go_cut [] from 10 (fun wr=>wr=w2.setCell ⟨bO,c,O⟩ (I J (-1)))
    case first =>
     go_wp2_with fail;go_meet
     case rel=>rfl
    case rest =>
    rename_i wC _;subst hcut;go_wp2_with fail;generalize w2.setCell ⟨bO,c,O⟩ (I J (-1))=w4 at *;have hEq:=Ol;have hGd:=eqGd;clear hle hlt HO HW HC8 HC9 HC10 HNc HNk HYw hx2 d2 fz c9;go_loopw [10] (fun i wr=>∃ (k:Nat) (f:Int),k≤K.list.length∧i=I J k∧(f=K.floor∨f≤(K.list.length:Int))∧Kst N w4 wr g { K with opn:=K.opn.set c (-1) } V { K with opn:=K.opn.set c (-1),floor:=f } V) (fun i _=>K.list.length-(intOf i).toNat)
    case atStart=>exact⟨0,K.floor,Nat.zero_le _,rfl,.inl rfl,Kst.refl HS4.out.at_⟩
    case round =>
     obtain⟨k,f,hk,rfl,hff,kk⟩:=hrel
     have HFf:=ah hff;clear hff;have HKK:=ah kk;have c10:wr.cell? ⟨g,10,O⟩=some V.vL:=kk.at_.cell 10
     have c12:wr.cell? ⟨g,12,O⟩=some (I J f):=kk.at_.cell 12
     have f12:=kk.at_.free 12;have hx:=(kk.kp.block _ (lt_of_block hx4) (HF0.out _ (Nat.le_refl _))).trans hx4;have x0:wr.cell? ⟨w.heap.size,0,O⟩=some (I J cl):=by simp[World.cell?,hx]
     have x1:wr.cell? ⟨w.heap.size,1,O⟩=some (I J nu):=by simp[World.cell?,hx]
     have x2:wr.cell? ⟨w.heap.size,2,O⟩=some (Z op):=by simp[World.cell?,hx]
     have hL:gW wr (Y aL K.list.length cL) K.list:=by rw[← hvL];exact kk.at_.eL
     rw[hvL] at c10;clear hx kk;by_cases hlt:k<K.list.length
     ·obtain⟨b5,o5,rfl,_,d1,d2,d3⟩:=hL.get k hlt
      have j5:(0:Int)≤(k:Int):=by omega
      have j6:(k:Int)<(K.list.length:Int):=by omega
      have nw:IntKind.i64.wrap ((k:Int)+1)=(k:Int)+1:=fC (by omega) (by omega)
      clear hL;generalize K.list[k].1=cl2 at *;generalize K.list[k].2.1=nu2 at *;generalize K.list[k].2.2=op2 at *;cases hen:xS cl2 nu2 op2 cl nu op
      ·go_wp2_with fail;go_quiet (fail);have hbq:=HKK.out.below (below_drewN (Below.refl _ _) nq);go_wp2;go_roundw
       case rel=>exact⟨k+1,f,by omega,by go_num,HFf.out,hbq⟩
       case measure=>simp[intOf];omega
      ·by_cases hf:f<(k:Int)+1
       ·go_wp2_with fail;go_quiet (fail);have hbq:=HKK.out.below (below_drewN (Below.refl _ _) nq);have HSf:=ah (hbq.at_.scalar (K':={ K with opn:=K.opn.set c (-1),floor:=(k:Int)+1 }) 12 (I J ((k:Int)+1)) rfl rfl rfl)
        have HT:=ah (hbq.trans HSf.out);clear hbq;go_wp2;go_roundw
        case rel=>exact⟨k+1,(k:Int)+1,by omega,by go_num,.inr (by omega),HT.out⟩
        case measure=>simp[intOf];omega
       ·have hf':decide (f<(k:Int)+1)=false:=decide_eq_false hf
        have hf2:(k:Int)+1≤f:=by omega
        go_wp2_with fail;go_quiet (fail);have hbq:=HKK.out.below (below_drewN (Below.refl _ _) nq);go_wp2;go_roundw
        case rel=>exact⟨k+1,f,by omega,by go_num,HFf.out,hbq⟩
        case measure=>simp[intOf];omega
     ·have HE:Hid (Fh N w wr g K V c (Zr (.tuple #[]))):=⟨rfl,_,HT4.out.trans HKK.out,.inr ⟨f,rfl,HFf.out⟩⟩
      go_wp2_with fail;refine bodyPost_end (results_none rfl _ _ _) rfl ?_;exact HE.out
end
section
variable {w w0:World} {b bl:Nat} {W F:List Nat} {R:Rp} {V:Rv} {P:Pm} {vl vg vo vL:Value}
def jg (R:Rp) (l:List Int) (k:Nat):Rp:=(List.range k).foldl (Rp.iJ l) R
theorem BU (R:Rp) (l:List Int) (k:Nat):jg R l (k+1)=Rp.iJ l (jg R l k) k:=by unfold jg;rw[List.range_succ,List.foldl_append];rfl
theorem O4 (l:List Int) (R:Rp) (k:Nat):(Rp.iJ l R k).id=R.id∧(Rp.iJ l R k).n=R.n∧(Rp.iJ l R k).lives.length=R.lives.length∧(Rp.iJ l R k).acks.length=R.acks.length:=by
 unfold Rp.iJ;split
 ·exact⟨rfl,rfl,by simp,by simp⟩
 ·exact⟨rfl,rfl,rfl,rfl⟩
theorem Lb (R:Rp) (l:List Int):∀ k,(jg R l k).id=R.id∧(jg R l k).n=R.n∧(jg R l k).lives.length=R.lives.length∧(jg R l k).acks.length=R.acks.length
 | 0=>⟨rfl,rfl,rfl,rfl⟩
 | k+1=>by
  rw[BU];obtain⟨a1,a2,a3,a4⟩:=O4 l (jg R l k) k
  obtain⟨b1,b2,b3,b4⟩:=Lb R l k
  exact⟨a1.trans b1,a2.trans b2,a3.trans b3,a4.trans b4⟩
theorem Bl (h:Rst w0 w b bl W F R) (hR:Ok R) (hP:dM w0 W F P vl vg vo vL) (hll:(P.lives.length:Int)=R.n) :
  Calls Tryz.prog 21 #[Zp (some ⟨b,0,O⟩),vl] w fun e w'=>e=Zr (.tuple #[])∧Rst w0 w' b bl W F (R.learn P.lives):=by
 obtain⟨nn,hnn⟩:∃ m:Nat,R.n=m:=⟨R.n.toNat,by have:=hR.n3;omega⟩
 have n7:nn≤7:=by have:=hR.n7;omega
 have hpl:P.lives.length=nn:=by omega
 have hrl:R.lives.length=nn:=by have:=hR.ll;omega
 have HL:Hid (R.learn P.lives=jg R P.lives nn):=by unfold Hid Rp.learn jg;rw[hnn];rfl
 have HS:Hid (∀ k,jg R P.lives (k+1)=Rp.iJ P.lives (jg R P.lives k) k):=BU R P.lives
 have HFl:Hid (∀ k,(jg R P.lives k).id=R.id∧(jg R P.lives k).n=(nn:Int)∧(jg R P.lives k).lives.length=nn):=fun k=>by
  obtain⟨a1,a2,a3,_⟩:=Lb R P.lives k
  exact⟨a1,a2.trans hnn,a3.trans hrl⟩
 have HPl:=ah hpl;obtain⟨al,cl,ag,cg,ao,co,aL,cL,rfl,rfl,rfl,rfl⟩:=hP.cells
 have H0:Hid (jg R P.lives 0=R):=rfl
 clear hnn hll hpl hrl;go_enter Tryz.func21,Tryz.ntmps21;go_wp2_with fail;go_loopw [4] (fun i wr=>∃ k:Nat,k≤nn∧i=I J k∧Rst w0 wr b bl W F (jg R P.lives k)) (fun i _=>nn-(intOf i).toNat)
 case atStart=>exact⟨0,Nat.zero_le _,rfl,h⟩
 case round =>
  obtain⟨k,hk,rfl,hr⟩:=hrel
  have HR:=ah hr;obtain⟨f1,f2,f3⟩:=HFl.out k
  have HSk:=ah (HS.out k);obtain⟨WQ,FQ,VQ,hQ,kQ,mQ,pQ⟩:=hr.pm hP
  have c0:=hQ.c0;have c1:=hQ.c1;have c2:=hQ.c2;rw[f1] at c0;rw[f2] at c1;obtain⟨clr,hvl⟩:=hQ.g2
  rw[hvl,f3] at c2;clear hr f1 f2;by_cases hlt:k<nn
  ·have g2:k<P.lives.length:=by rw[HPl.out];exact hlt
   have g3:k<(jg R P.lives k).lives.length:=by rw[f3];exact hlt
   have e1:P.lives.getD k 0=P.lives[k]:=by simp[List.getD,g2]
   have e2:(jg R P.lives k).lives.getD k 0=(jg R P.lives k).lives[k]:=by simp[List.getD,g3]
   have HL1:Hid (Rp.iJ P.lives (jg R P.lives k) k=if ((k:Int) != (jg R P.lives k).id)&&decide ((jg R P.lives k).lives[k]<P.lives[k]) then { jg R P.lives k with lives:=(jg R P.lives k).lives.set k P.lives[k],acks:=(jg R P.lives k).acks.set k 0 } else jg R P.lives k):=by
    unfold Hid Rp.iJ;rw[e1,e2]
   rw[(HFl.out k).1] at HL1;obtain⟨b3,o3,hb3e,hb3,z3⟩:=pQ.lives.get k g2
   have hrl:=hQ.lives.rd;rw[hvl] at hrl;obtain⟨b4,o4,hb4e,hb4,z4⟩:=Ints.get hrl k g3
   simp only[Option.some.injEq,Addr.mk.injEq] at hb4e;obtain⟨rfl,rfl,_⟩:=hb4e
   simp only[Nat.zero_add] at z4;subst hb3e;have zf:wr.frozen? ⟨bl,k,O⟩=false:=hQ.lives.frozen k
   have HQ:=ah hQ;have HKQ:=ah kQ;have HMQ:=ah mQ;have hd:=hQ.d1;have hd':¬b=bl:=hd
   have hd2:¬bl=b:=fun hc=>hd hc.symm
   have HPQ:=ah pQ;have j1:(0:Int)≤(k:Int):=by omega
   have j2:(k:Int)<(nn:Int):=by omega
   have j3:(k:Int)<(P.lives.length:Int):=by rw[HPl.out];omega
   have j4:(k:Int)<7:=by omega
   generalize hLk:(jg R P.lives k).lives[k]=lk at *;clear hLk hrl e1 e2 g3 hQ kQ mQ pQ hd f3;cases hq:((k:Int)==R.id)
   ·have hne:((k:Int) != R.id)=true:=by simp[bne,hq]
    by_cases hp:lk<P.lives[k]
    ·rw[hne,decide_eq_true hp,Bool.and_self,if_pos rfl] at HL1;go_wp2_with fail;go_quiet (fail);rename_i nq;have hq1:=HQ.out.drewN nq;have kq1:=HKQ.out.aS (below_drewN (Below.refl _ wr) nq);have c2':(wr.drewN nq).cell? ⟨b,2,O⟩=some (Y (some ⟨bl,0,O⟩) nn clr):=c2
     have z3':(wr.drewN nq).cell? ⟨b3,o3+k,O⟩=some (I J P.lives[k]):=z3
     have z4':(wr.drewN nq).cell? ⟨bl,k,O⟩=some (I J lk):=z4
     have zf':(wr.drewN nq).frozen? ⟨bl,k,O⟩=false:=zf
     clear c0 c1 c2 z3 z4 zf hb3 hb4 HQ HKQ HPQ;generalize wr.drewN nq=wq at *;have HS9:Hid (Rst w0 (wq.setCell ⟨bl,k,O⟩ (I J P.lives[k])) b bl W F { jg R P.lives k with lives:=(jg R P.lives k).lives.set k P.lives[k] }):=Rst.step kq1 HMQ.out (Rst.of (hq1.IC k P.lives[k]) ((Kp.refl _ _).set bl k _ (.inl hq1.wl)))
     clear hq1 kq1;go_upto_region 4 with fail
     go_cut [] from 5 to 47 (fun wx=>Rst w0 wx b bl W F { jg R P.lives k with lives:=(jg R P.lives k).lives.set k P.lives[k] })
     case first =>
      go_region
      all_goals go_wp2_with fail
      all_goals go_meet
      all_goals exact HS9.out.drew
     case rest =>
      obtain⟨WT,FT,VT,hT,kT,mT⟩:=hcut
      have ca:∃ v,wc.cell? ⟨b,55+k,O⟩=some v:=⟨_,hT.su k (by omega)⟩
      obtain⟨va,ca⟩:=ca
      have cf:=hT.free (55+k);have HS10:Hid (Rst w0 (wc.setCell ⟨b,55+k,O⟩ (I J 0)) b bl W F { jg R P.lives k with lives:=(jg R P.lives k).lives.set k P.lives[k],acks:=(jg R P.lives k).acks.set k 0 }):=Rst.step kT mT (Rst.of (hT.eX k (by omega) 0) (hT.qo _ _))
      clear hT kT mT c2' z3' z4' zf';go_wp2;go_roundw
      case rel=>exact⟨k+1,by omega,by go_num,by rw[HSk.out,HL1.out];exact HS10.out⟩
      case measure=>simp[intOf];omega
    ·rw[hne,decide_eq_false (by omega),Bool.and_false,if_neg (by decide)] at HL1
     go_wp2_with fail;go_quiet (fail);rename_i nq;have HS2:=ah (HR.out.drewN nq);go_wp2;go_roundw
     case rel=>exact⟨k+1,by omega,by go_num,by rw[HSk.out,HL1.out];exact HS2.out⟩
     case measure=>simp[intOf];omega
   ·have hne:((k:Int) != R.id)=false:=by simp[bne,hq]
    rw[hne,Bool.false_and,if_neg (by decide)] at HL1
    go_wp2_with fail;go_quiet (fail);rename_i nq;have HS2:=ah (HR.out.drewN nq);go_wp2;go_roundw
    case rel=>exact⟨k+1,by omega,by go_num,by rw[HSk.out,HL1.out];exact HS2.out⟩
    case measure=>simp[intOf];omega
  ·obtain rfl:k=nn:=by omega
   rw[← HL.out] at HR;go_wp2;exact bodyPost_end (results_none rfl _ _ _) rfl ⟨rfl,HR.out⟩
end
section
variable {N:Nat} {w w':World} {g:Nat} {K K':Kw} {V V':Kv}
theorem Jl (h:KAt N w g K V) (z:KSz K) (hlog:∀ x∈K.nds,x.R.log.length≤1000) :
    Calls Tryz.prog 67 #[Zp (some ⟨g,0,O⟩)] w fun e w'=>sH w w' e:=by
  obtain ⟨n, hn⟩ : ∃ n : Nat, K.n = n := ⟨K.n.toNat, by have := z.n3; omega⟩
  have z1:=z.nds
  have z7:=z.n7
  have z10:=z.opn
  rw[hn] at z1 z7
  obtain⟨aN,cN,hvN⟩:=aj h.rN
  obtain⟨aO,cO,hvO⟩:=aj h.rO
  have HO:=ah (fun (w2:World) (hw2:Below w.heap.size w w2)=>KAt.opn h hvO hw2)
  have HN:=ah (fun (w2:World) (hw2:Below w.heap.size w w2)=>KAt.ptr h hvN hw2)
  have HC1 : Hid (∀ w2, Below w.heap.size w w2 → w2.cell? ⟨g, 1, O⟩ = some (I J n)) := fun w2 hw2 => by rw [← hn]; exact (h.below hw2).cell 1
  have HC2 : Hid (∀ w2, Below w.heap.size w w2 → w2.cell? ⟨g, 2, O⟩ = some (Y aN K.nds.length cN)) := fun w2 hw2 => by rw [← hvN]; exact (h.below hw2).cell 2
  have HC5:Hid (∀ w2,Below w.heap.size w w2→w2.cell? ⟨g,5,O⟩=some (I J K.lives)):=fun w2 hw2=>(h.below hw2).cell 5
  have HC6:Hid (∀ w2,Below w.heap.size w w2→w2.cell? ⟨g,6,O⟩=some (I J K.top)):=fun w2 hw2=>(h.below hw2).cell 6
  have HC9 : Hid (∀ w2, Below w.heap.size w w2 → w2.cell? ⟨g, 9, O⟩ = some (Y aO K.opn.length cO)) := fun w2 hw2 => by rw [← hvO]; exact (h.below hw2).cell 9
  have HLg:Hid (∀ w2,Below w.heap.size w w2→∀ k,(hk:k<K.nds.length)→Calls Tryz.prog 104 #[Zp (some ⟨K.nds[k].b,0,O⟩)] w2 fun e w'=>∃ (a:Option Addr) (m c:Nat),e=Zr (Y a m c)∧m≤1000∧Below w2.heap.size w2 w'):=fun w2 hw2 k hk=>by
    refine (uS (h.node k hk hw2) (hlog _ (List.getElem_mem hk))).mono ?_
    rintro e w3 ⟨v,rfl,ho,hb⟩
    obtain⟨a,c,rfl⟩:=aj ho
    exact⟨a,_,c,rfl,hlog _ (List.getElem_mem hk),hb⟩
  clear h z hlog
  go_enter Tryz.func67,Tryz.ntmps67
  go_wp2_with fail
  go_loopw [3,4] (fun m i wr=>∃ k c:Nat,c≤k∧1≤k∧k≤10∧i=I J k∧m=I J c∧Below w.heap.size w wr) (fun _ i _=>10-(intOf i).toNat)
  case atStart => exact ⟨1, 0, by omega, by omega, by omega, rfl, rfl, Below.refl _ _⟩
  case round =>
    obtain⟨k,c,hck,hk1,hk,rfl,rfl,hbw⟩:=hrel
    by_cases hlt:k<10
    · obtain ⟨b2, o2, rfl, hb2, d2⟩ := HO.out _ hbw k (by omega)
      have c9:=HC9.out _ hbw
      have j1 : (0 : Int) ≤ (k : Int) := by omega
      have j3 : (k : Int) < (K.opn.length : Int) := by omega
      have j4 : (k : Int) ≤ 9 := by omega
      generalize K.opn[k]=ov at *
      by_cases hv:(0:Int)≤ov
      · go_wp2
        go_roundw
        case rel => exact ⟨k + 1, c + 1, by omega, by omega, by omega, by go_num, by go_num, hbw⟩
        case measure=>simp[intOf];omega
      · go_wp2
        go_roundw
        case rel => exact ⟨k + 1, c, by omega, by omega, by omega, by go_num, rfl, hbw⟩
        case measure=>simp[intOf];omega
    · have j4 : ¬ (k : Int) ≤ 9 := by omega
      obtain⟨wL,HwL⟩:∃ x,x=wr:=⟨_,rfl⟩
      subst HwL
      go_wp2_with fail
      go_loopw [5] (fun i wr=>∃ k:Nat,k≤n∧i=I J k∧Below w.heap.size w wr) (fun i _=>n-(intOf i).toNat)
      case atStart=>exact⟨0,Nat.zero_le _,rfl,hbw⟩
      case round =>
        obtain⟨q,hq,rfl,hbv⟩:=hrel
        have c1:=HC1.out _ hbv
        by_cases hlq:q<n
        · obtain ⟨b2, o2, rfl, hb2, d2⟩ := HN.out _ hbv q (by omega)
          have c2:=HC2.out _ hbv
          have j1 : (0 : Int) ≤ (q : Int) := by omega
          have j3 : (q : Int) < (K.nds.length : Int) := by omega
          have j5 : (q : Int) < (n : Int) := by omega
          have HQ := ah (HLg.out _ hbv q (by omega))
          generalize K.nds[q].b=bb at *
          go_wp2_with fail
          refine HQ.out.mono ?_
          rintro e w3 ⟨al,ml,cl,rfl,hml,hb3⟩
          have hb3':Below w.heap.size w w3:=hbv.trans (hb3.mono hbv.size)
          go_wp2_with fail
          all_goals first
            | (go_ret;exact⟨_,rfl,hb3'⟩)
            | (go_roundw
               case rel => exact ⟨q + 1, by omega, by go_num, hb3'⟩
               case measure=>simp[intOf];omega)
        · have c5:=HC5.out _ hbv
          have c6:=HC6.out _ hbv
          have j5 : ¬ (q : Int) < (n : Int) := by omega
          by_cases ht:K.top≤903
          · have ht':decide (K.top≤903)=true:=decide_eq_true ht
            have nw : IntKind.i64.wrap (999 - (n : Int)) = 999 - (n : Int) := fC (by omega) (by omega)
            by_cases hl:K.lives<999-(n:Int)
            · have hl':decide (K.lives<999-(n:Int))=true:=decide_eq_true hl
              go_wp2_with fail
              go_quiet (fail)
              have hbq:=below_drewN hbv nq
              go_wp2
              go_ret
              exact⟨_,rfl,hbq⟩
            · have hl':decide (K.lives<999-(n:Int))=false:=decide_eq_false hl
              go_wp2_with fail
              go_quiet (fail)
              have hbq:=below_drewN hbv nq
              go_wp2
              go_ret
              exact⟨_,rfl,hbq⟩
          · have ht':decide (K.top≤903)=false:=decide_eq_false ht
            go_wp2_with fail
            go_quiet (fail)
            have hbq:=below_drewN hbv nq
            go_wp2
            go_ret
            exact⟨_,rfl,hbq⟩
end
end Go.Proofs.YtbnihoahhomooaaGreatDoor
