import Derived.Test.YtinaollfjiddmaaGreatDoorA18
set_option maxRecDepth 100000
set_option maxHeartbeats 8000000
set_option linter.all false
namespace Go.Proofs.YtinaollfjiddmaaGreatDoor
open Go.Value renaming int→I,slice→Y,string→Z,pointer→Zp
open Go.Ending renaming returned→Zr
open _root_.ByteArray renaming empty→Ze
open Go.IntKind renaming i64→J
open Option renaming none→O
open Go.RowKit
def wW (a b:Int) (s:ByteArray) (c d:Int) (t:ByteArray):Bool:=a==c&&b==d&&s.toList==t.toList
theorem qO {a b:Int} {s:ByteArray} {c d:Int} {t:ByteArray}:wW a b s c d t=true↔a=c∧b=d∧s=t:=by
 unfold wW;simp only[Bool.and_eq_true,beq_iff_eq]
 constructor
 ·rintro⟨⟨h1,h2⟩,h3⟩
  refine⟨h1,h2,?_⟩
  rw[ByteArray.toList_eq,ByteArray.toList_eq] at h3;obtain⟨⟨x⟩⟩:=s
  obtain⟨⟨y⟩⟩:=t
  simp at h3;rw[h3]
 ·rintro⟨rfl,rfl,rfl⟩;exact⟨⟨rfl,rfl⟩,rfl⟩
theorem Pq (w:World) (a b:Int) (s:ByteArray) (c d:Int) (t:ByteArray):Sem.run Tryz.prog (binOp .eql 66 (.agg #[I J a,I J b,Z s]) (.agg #[I J c,I J d,Z t])) w=.ok (.bool (wW a b s c d t)) w:=by
 have e:Tryz.prog.underlying 66=some (.struct (Tryz.prog.fieldsOf 66)):=by kernel_rfl
 have f:Tryz.prog.stoodInHeld 66=false:=by kernel_rfl
 rw[run_eql_struct,show (10000:Nat)=9999+1 from rfl,run_equalIn_agg w 9999 66 _ _ e f]
 simp only[Program.fieldsOf,Tryz.underlying66];unfold wW;go_simp;by_cases g:a=c <;> by_cases h:b=d <;> by_cases i:s.toList=t.toList <;> simp[g,h,i]
theorem Qk (w:World) (a b:Int) (s:ByteArray) (c d:Int) (t:ByteArray):Sem.run Tryz.prog (binOp .neq 66 (.agg #[I J a,I J b,Z s]) (.agg #[I J c,I J d,Z t])) w=.ok (.bool (!wW a b s c d t)) w:=by
 have e:Tryz.prog.underlying 66=some (.struct (Tryz.prog.fieldsOf 66)):=by kernel_rfl
 have f:Tryz.prog.stoodInHeld 66=false:=by kernel_rfl
 rw[run_neq_struct,show (10000:Nat)=9999+1 from rfl,run_equalIn_agg w 9999 66 _ _ e f]
 simp only[Program.fieldsOf,Tryz.underlying66];unfold wW;go_simp;by_cases g:a=c <;> by_cases h:b=d <;> by_cases i:s.toList=t.toList <;> simp[g,h,i]
theorem eqGd (w:World) (op:BinOp) (x y:Operand) (xs ys:Array Value):(eqGuard op 66 x y (.agg xs) (.agg ys)).run Tryz.prog w=.ok () w:=run_eqGuard_agg w op 66 x y xs ys (by kernel_rfl)
section
variable {N:Nat} {w w':World} {g:Nat} {K K':Kw} {V V':Kv}
def nT (op:ByteArray) (G:List ByteArray):List ByteArray:=if b0 op=114 then G++[op.extract 1 op.size] else G
def iO (K:Kw) (E:En):Kw:={ K with list:=K.list++[E],groups:=nT E.2.2 K.groups }
def BadJ (K:Kw) (E:En):Prop:=∃ v∈K.wishes,v.e=E∧(v.bad=true∨(K.list.length:Int)<v.floor)
def Pb (N:Nat) (w w':World) (g:Nat) (K:Kw) (V:Kv) (E:En) (e:Ending):Prop:=∃ b K' V',e=Zr (.bool b)∧Kst N w w' g K V K' V'∧b=true∧K'=iO K E
theorem GH (h:KAt N w g K V) (E:En) (hE1:0<E.2.2.size) (hll:K.list.length≤1000) (hgl:K.groups.length≤1000) (hD:∀ a∈K.list,a.1=E.1→a.2.1<E.2.1) (hMd:∃ v∈K.wishes,v.e=E) (hNb:¬BadJ K E) :
  Calls Tryz.prog 104 #[Zp (some ⟨g,0,O⟩),.agg #[I J E.1,I J E.2.1,Z E.2.2]] w fun e w'=>Pb N w w' g K V E e:=by
 have ac:Below w.heap.size w (w.alloc (.cells #[I J E.1,I J E.2.1,Z E.2.2] 66)):=(Below.refl _ w).alloc (Nat.le_refl _) _
 have F:=heap_alloc_new w (.cells #[I J E.1,I J E.2.1,Z E.2.2] 66);have G:=h.below ac;have ar:w.heap.size∉je g K V:=fun hc=>by
  obtain⟨c,av,aw⟩:=List.mem_flatten.1 hc
  have:=h.lt c av _ aw
  omega
 have ax:=ah ((Kst.refl h).below ac);clear h ac;go_enter Tryz.func104,Tryz.ntmps104;go_wp2_with fail;generalize w.alloc (.cells #[I J E.1,I J E.2.1,Z E.2.2] 66)=C at *;obtain⟨aL,cL,H⟩:=aj G.rL
 have Q:=ah (G.cv 10 rfl H);have HL:Hid (∀ n,Below C.heap.size C n→iw n (Y aL K.list.length cL) K.list):=fun n o=>by rw[← H];exact (G.below o).eL
 obtain⟨aW,cW,ak⟩:=aj G.rW
 have al:=ah (G.cv 8 rfl ak);have HW:Hid (∀ n,Below C.heap.size C n→kV n (Y aW K.wishes.length cW) K.wishes):=fun n o=>by rw[← ak];exact (G.below o).eW
 obtain⟨aG,cG,R⟩:=aj G.rG
 have a8:=ah (G.cv 11 rfl R);have HG:=ah (fun (n:World) (o:Below C.heap.size C n)=>KAt.grp G R o)
 have HX:Hid (∀ n,Below C.heap.size C n→n.heap[w.heap.size]? = some (.cells #[I J E.1,I J E.2.1,Z E.2.2] 66)):=fun n o=>(o.block _ (lt_of_block F)).trans F
 have ab:Hid (∀ n V2,Kst N C n g K V (iO K E) V2→Pb N w n g K V E (Zr (.bool true))):=fun n V2 k=>⟨true,_,_,rfl,ax.out.trans k,rfl,rfl⟩
 have a9:K.wishes.length≤9223372036854775807:=by
  obtain⟨_,_,_,q1,q2⟩:=G.eW.shape
  omega
 have HH:=ah G;have ba:g<C.heap.size:=G.lb
 clear F G;obtain⟨d,f,b⟩:=E
 have bb:=Pq;have bc:=eqGd;simp only at *
 go_loopw [5] (fun i wr=>∃ k:Nat,k≤K.list.length∧i=I J k∧Below C.heap.size C wr) (fun i _=>K.list.length-(intOf i).toNat)
 case atStart=>exact⟨0,Nat.zero_le _,rfl,Below.refl _ _⟩
 case round =>
  obtain⟨k,hk,rfl,L⟩:=hrel
  have c10:=Q.out _ L;have F:=HX.out _ L;have x0:wr.cell? ⟨w.heap.size,0,O⟩=some (I J d):=by simp[World.cell?,F]
  have x1:wr.cell? ⟨w.heap.size,1,O⟩=some (I J f):=by simp[World.cell?,F]
  clear F;by_cases am:k<K.list.length
  ·obtain⟨be,o1,rfl,_,d1,d2,d3⟩:=(HL.out _ L).get k am
   have j1:(0:Int)≤(k:Int):=by omega
   have j2:(k:Int)<(K.list.length:Int):=by omega
   have az:=hD _ (List.getElem_mem am);generalize K.list[k].1=cl at *;generalize K.list[k].2.1=nu at *;generalize K.list[k].2.2=op at *;by_cases hq:cl=d
   ·have a0:(cl==d)=true:=beq_iff_eq.2 hq
    have hn:¬f≤nu:=by have:=az hq;omega
    clear hq;go_wp2_with fail;go_quiet (fail);have D:=below_drewN L nq;go_wp2;go_roundw
    case rel=>exact⟨k+1,by omega,by go_num,D⟩
    case measure=>simp[intOf];omega
   ·have a0:(cl==d)=false:=beq_eq_false_iff_ne.2 hq
    clear hq;go_wp2_with fail;go_quiet (fail);have D:=below_drewN L nq;go_wp2;go_roundw
    case rel=>exact⟨k+1,by omega,by go_num,D⟩
    case measure=>simp[intOf];omega
  ·obtain⟨wL,a1⟩:∃ x,x=wr:=⟨_,rfl⟩
   subst a1;clear x0 x1;go_wp2_with fail;clear c10;go_loopw [6,7] (fun m i wr=>∃ (k:Nat) (x:Bool),k≤K.wishes.length∧i=I J k∧m=.bool x∧Below C.heap.size C wr∧∀ (j:Nat) (hj:j<K.wishes.length),j<k→K.wishes[j].e=(d,f,b)→x=true) (fun _ i _=>K.wishes.length-(intOf i).toNat)
   case atStart=>exact⟨0,false,Nat.zero_le _,rfl,rfl,L,fun j _ hj=>by omega⟩
   case round =>
    obtain⟨m,x,hm,rfl,rfl,t,ad⟩:=hrel
    have c8:=al.out _ t;have c10:=Q.out _ t;have F:=HX.out _ t;have x0:wr.cell? ⟨w.heap.size,0,O⟩=some (I J d):=by simp[World.cell?,F]
    have x1:wr.cell? ⟨w.heap.size,1,O⟩=some (I J f):=by simp[World.cell?,F]
    have x2:wr.cell? ⟨w.heap.size,2,O⟩=some (Z b):=by simp[World.cell?,F]
    clear F;by_cases ae:m<K.wishes.length
    ·obtain⟨b2,o2,rfl,_,d1,d2,d3,d4,d5,d6⟩:=(HW.out _ t).get m ae
     have j1:(0:Int)≤(m:Int):=by omega
     have j2:(m:Int)<(K.wishes.length:Int):=by omega
     have an:Hid (wW K.wishes[m].e.1 K.wishes[m].e.2.1 K.wishes[m].e.2.2 d f b=true→K.wishes[m].bad=false∧¬(K.list.length:Int)<K.wishes[m].floor):=fun h1=>by
      obtain⟨e1,e2,e3⟩:=qO.1 h1
      have nb:=fun h2=>hNb ⟨_,List.getElem_mem ae,Prod.ext e1 (Prod.ext e2 e3),h2⟩
      refine⟨?_,fun z=>nb (.inr z)⟩
      cases hb:K.wishes[m].bad
      ·rfl
      ·exact (nb (.inl hb)).elim
     have ao:Hid (wW K.wishes[m].e.1 K.wishes[m].e.2.1 K.wishes[m].e.2.2 d f b=false→∀ (j:Nat) (hj:j<K.wishes.length),j<m+1→K.wishes[j].e=(d,f,b)→x=true):=fun h1 j hj h2 h3=>by
      rcases Nat.eq_or_lt_of_le (show j≤m by omega) with z|z
      ·subst z;have:=qO.2 (show K.wishes[j].e.1=d∧K.wishes[j].e.2.1=f∧K.wishes[j].e.2.2=b from ⟨by rw[h3],by rw[h3],by rw[h3]⟩)
       rw[h1] at this;cases this
      ·exact ad j hj z h3
     clear ad;generalize K.wishes[m].e.1=cl at *;generalize K.wishes[m].e.2.1=nu at *;generalize K.wishes[m].e.2.2=op at *;generalize h_fl:K.wishes[m].floor=fl at *;generalize h_bd:K.wishes[m].bad=bd at *;generalize K.wishes[m].text=tx at *;cases hen:wW cl nu op d f b
     ·go_wp2_with fail;go_quiet (fail);have D:=below_drewN t nq;go_wp2;go_roundw
      case rel=>exact⟨m+1,x,by omega,by go_num,rfl,D,ao.out hen⟩
      case measure=>simp[intOf];omega
     ·have HQ:Hid (∀ n,Below C.heap.size C n→n.cell? ⟨g,8,O⟩=some (Y (some ⟨b2,o2,O⟩) K.wishes.length cW)∧n.cell? ⟨g,10,O⟩=some (Y aL K.list.length cL)∧n.cell? ⟨b2,o2+m*6+4,O⟩=some (I J fl)∧n.cell? ⟨b2,o2+m*6+5,O⟩=some (.bool bd)):=fun n o=>by
       obtain⟨b3,o3,e3,_,_,_,_,_,f5,f6⟩:=(HW.out _ o).get m ae
       cases e3;rw[h_fl] at f5;rw[h_bd] at f6;exact⟨al.out _ o,Q.out _ o,f5,f6⟩
      go_wp2_with fail;go_quiet (fail);have D:=below_drewN t nq;generalize wr.drewN nq=wB at *;clear d1 d2 d3 d4 d5 d6 c8 c10 x0 x1 x2;obtain⟨c8,c10,d5,d6⟩:=HQ.out _ D
      obtain⟨a2,bg⟩:=an.out hen
      subst a2;clear hen an ao;go_wp2_with fail;go_quiet (fail);have a3:=below_drewN D nq;go_wp2;go_roundw
      case rel=>exact⟨m+1,true,by omega,by go_num,rfl,a3,fun _ _ _ _=>rfl⟩
      case measure=>simp[intOf];omega
    ·cases x
     ·exfalso
      obtain⟨v,hv,e⟩:=hMd
      obtain⟨j,hj,rfl⟩:=List.getElem_of_mem hv
      have:=ad j hj (by omega) e
      cases this
     ·have M:=HH.out.below t;have a4:=ah ((Kst.refl HH.out).below t);obtain⟨i0,hi,S,T,U⟩:=info_parts Tryz.infoEnt
      have l:=M.rL;rw[H] at l;have ap:=M.free 10;have A:some g≠(Y aL K.list.length cL).ownBlock:=by rw[← H];exact M.gne (i:=6) rfl
      have X:g<wr.heap.size:=M.lb
      have a5:=ah M;clear M;go_wp2_with fail;clear c8;go_region_law (first|(refine step_append_lies (w:=(wr.alloc (.cells #[I J d,I J f,Z b] 66)).drew) (by rfl) (.tmp 96) (.tmp 98) 47 (by rfl) 0 66 i0 (.agg #[I J 0,I J 0,Z Ze]) 3 32 Tryz.underlying47 hi S T U rfl (by decide) (Y aL K.list.length cL) K.list.length (aA K.list) (by rfl) (dh (l.alloc _) (Below.refl _ _).drew) ⟨wr.heap.size,0,O⟩ 1 1 [I J d,I J f,Z b] (by rfl) (by rfl) (World.news_of_block (show ((wr.alloc (.cells #[I J d,I J f,Z b] 66)).drew).heap[wr.heap.size]? = _ from heap_alloc_new wr (.cells #[I J d,I J f,Z b] 66))) (by intro u hu;simp at hu;rcases hu with rfl|rfl|rfl <;> rfl) (by decide) (by unfold maxLen;omega) (by omega) (Nat.zero_le _) (wr.heap.size+1) (by simp) ?_;intro g3 cap3 w3 hown3 hg3 hat3 hlt3;have B:Below wr.heap.size wr ((wr.alloc (.cells #[I J d,I J f,Z b] 66)).drew):=(((Below.refl _ wr).alloc (Nat.le_refl _) _).drew);have t3:w3.cell? ⟨g,10,O⟩=some (Y aL K.list.length cL):=(hg3.cell_far ⟨g,10,O⟩ (by simp;omega) A).trans ((B.cell (p:=⟨g,10,O⟩) X).trans c10);have f3:w3.frozen? ⟨g,10,O⟩=false:=(hg3.frozen_far ⟨g,10,O⟩ (by simp;omega) A).trans ((B.frozen (p:=⟨g,10,O⟩) X).trans ap))|(refine step_append_lies (w:=wr.drew.alloc (.cells #[I J d,I J f,Z b] 66)) (by rfl) (.tmp 96) (.tmp 98) 47 (by rfl) 0 66 i0 (.agg #[I J 0,I J 0,Z Ze]) 3 32 Tryz.underlying47 hi S T U rfl (by decide) (Y aL K.list.length cL) K.list.length (aA K.list) (by rfl) ((dh l (Below.refl _ _).drew).alloc _) ⟨wr.heap.size,0,O⟩ 1 1 [I J d,I J f,Z b] (by rfl) (by rfl) (World.news_of_block (heap_alloc_new wr.drew (.cells #[I J d,I J f,Z b] 66))) (by intro u hu;simp at hu;rcases hu with rfl|rfl|rfl <;> rfl) (by decide) (by unfold maxLen;omega) (by omega) (Nat.zero_le _) (wr.heap.size+1) (by simp) ?_;intro g3 cap3 w3 hown3 hg3 hat3 hlt3;have B:Below wr.heap.size wr (wr.drew.alloc (.cells #[I J d,I J f,Z b] 66)):=((Below.refl _ wr).drew.alloc (Nat.le_refl _) _);have t3:w3.cell? ⟨g,10,O⟩=some (Y aL K.list.length cL):=(hg3.cell_far ⟨g,10,O⟩ (by simp;omega) A).trans ((B.cell (p:=⟨g,10,O⟩) X).trans c10);have f3:w3.frozen? ⟨g,10,O⟩=false:=(hg3.frozen_far ⟨g,10,O⟩ (by simp;omega) A).trans ((B.frozen (p:=⟨g,10,O⟩) X).trans ap)))
      all_goals
       have e4:aA (K.list++[(d,f,b)])=aA K.list++[I J d,I J f,Z b]:=by simp[aA]
       have W:w3.ownsRow 0 66 3 (Y (some ⟨g3,0,O⟩) (K.list.length+1) cap3) (K.list++[(d,f,b)]).length (aA (K.list++[(d,f,b)])):=by
        rw[e4,show (K.list++[(d,f,b)]).length=K.list.length+1 by simp];exact hown3
       have HS:=ah (a5.out.newRow (V':={ V with vL:=Y (some ⟨g3,0,O⟩) (K.list.length+1) cap3 }) (K':={ K with list:=K.list++[(d,f,b)] }) (i:=6) (w1:=w3) (r:=⟨66,3,V.vL,K.list.length,aA K.list⟩) (r':=⟨66,3,Y (some ⟨g3,0,O⟩) (K.list.length+1) cap3,(K.list++[(d,f,b)]).length,aA (K.list++[(d,f,b)])⟩) rfl
        ((Kp.of_below B).trans' (by rw[H];exact Kp.row hg3)) W (fun y hy=>by
         simp[Value.ownBlock] at hy;subst hy
         show V.vL.ownBlock=_∨_
         rw[H];exact hat3.imp (fun q=>q) (fun q=>by omega)) 10 rfl rfl rfl)
       clear hown3 hg3 hat3 hlt3 W e4;generalize w3.setCell ⟨g,10,O⟩ (Y (some ⟨g3,0,O⟩) (K.list.length+1) cap3)=s at *;have HT:=ah (a4.out.trans HS.out);have F:=(HS.out.kp.block w.heap.size (lt_of_block (HX.out _ t)) ar).trans (HX.out _ t);have x2:s.cell? ⟨w.heap.size,2,O⟩=some (Z b):=by simp[World.cell?,F]
       clear F x0 x1 c10;have y1:(0:Int)<(b.size:Int):=by omega
       have y2:(1:Int)≤(b.size:Int):=by omega
       have e0:b0 b=(b[0].toNat:Int):=by unfold b0;rw[atS hE1]
       by_cases hr:(b[0].toNat:Int)=114
       ·have a6:((b[0].toNat:Int)==114)=true:=beq_iff_eq.2 hr
        have af:Hid (nT b K.groups=K.groups++[b.extract 1 b.size]):=by unfold Hid nT;rw[if_pos (e0.trans hr)]
        clear hr e0;obtain⟨i0,hi,S,T,U⟩:=info_parts Tryz.infoStr
        have h5:=HS.out.at_;have l:=h5.rG;have ai:s.cell? ⟨g,11,O⟩=some V.vG:=h5.cell 11
        have aq:=h5.free 11;have A:some g≠V.vG.ownBlock:=h5.gne (i:=7) rfl
        simp only at l
        rw[R] at l ai A;have aa:g<s.heap.size:=h5.lb
        clear h5;go_wp2_with fail;go_region_law (first|(refine step_append_lies (w:=(s.alloc (.cells #[Z (b.extract 1 b.size)] 9)).drew) (by rfl) (.tmp 110) (.tmp 114) 48 (by rfl) 0 9 i0 (Z Ze) 1 16 Tryz.underlying48 hi S T U rfl (by decide) (Y aG K.groups.length cG) K.groups.length (K.groups.map Value.string) (by rfl) (dh (l.alloc _) (Below.refl _ _).drew) ⟨s.heap.size,0,O⟩ 1 1 [Z (b.extract 1 b.size)] (by rfl) (by rfl) (World.news_of_block (show ((s.alloc (.cells #[Z (b.extract 1 b.size)] 9)).drew).heap[s.heap.size]? = _ from heap_alloc_new s (.cells #[Z (b.extract 1 b.size)] 9))) (by intro u hu;simp at hu;subst hu;rfl) (by decide) (by unfold maxLen;omega) (by omega) (Nat.zero_le _) (s.heap.size+1) (by simp) ?_;intro g4 cap4 w4 hown4 hg4 hat4 hlt4;have P:Below s.heap.size s ((s.alloc (.cells #[Z (b.extract 1 b.size)] 9)).drew):=(((Below.refl _ s).alloc (Nat.le_refl _) _).drew);have t4:w4.cell? ⟨g,11,O⟩=some (Y aG K.groups.length cG):=(hg4.cell_far ⟨g,11,O⟩ (by simp;omega) A).trans ((P.cell (p:=⟨g,11,O⟩) aa).trans ai);have f4:w4.frozen? ⟨g,11,O⟩=false:=(hg4.frozen_far ⟨g,11,O⟩ (by simp;omega) A).trans ((P.frozen (p:=⟨g,11,O⟩) aa).trans aq))|(refine step_append_lies (w:=s.drew.alloc (.cells #[Z (b.extract 1 b.size)] 9)) (by rfl) (.tmp 110) (.tmp 114) 48 (by rfl) 0 9 i0 (Z Ze) 1 16 Tryz.underlying48 hi S T U rfl (by decide) (Y aG K.groups.length cG) K.groups.length (K.groups.map Value.string) (by rfl) ((dh l (Below.refl _ _).drew).alloc _) ⟨s.heap.size,0,O⟩ 1 1 [Z (b.extract 1 b.size)] (by rfl) (by rfl) (World.news_of_block (heap_alloc_new s.drew (.cells #[Z (b.extract 1 b.size)] 9))) (by intro u hu;simp at hu;subst hu;rfl) (by decide) (by unfold maxLen;omega) (by omega) (Nat.zero_le _) (s.heap.size+1) (by simp) ?_;intro g4 cap4 w4 hown4 hg4 hat4 hlt4;have P:Below s.heap.size s (s.drew.alloc (.cells #[Z (b.extract 1 b.size)] 9)):=((Below.refl _ s).drew.alloc (Nat.le_refl _) _);have t4:w4.cell? ⟨g,11,O⟩=some (Y aG K.groups.length cG):=(hg4.cell_far ⟨g,11,O⟩ (by simp;omega) A).trans ((P.cell (p:=⟨g,11,O⟩) aa).trans ai);have f4:w4.frozen? ⟨g,11,O⟩=false:=(hg4.frozen_far ⟨g,11,O⟩ (by simp;omega) A).trans ((P.frozen (p:=⟨g,11,O⟩) aa).trans aq)))
        all_goals
         have W:w4.ownsRow 0 9 1 (Y (some ⟨g4,0,O⟩) (K.groups.length+1) cap4) (K.groups++[b.extract 1 b.size]).length ((K.groups++[b.extract 1 b.size]).map Value.string):=by
          rw[show (K.groups++[b.extract 1 b.size]).length=K.groups.length+1 by simp,List.map_append];exact hown4
         have a7:=ah (HS.out.at_.newRow (V':={ V with vL:=Y (some ⟨g3,0,O⟩) (K.list.length+1) cap3,vG:=Y (some ⟨g4,0,O⟩) (K.groups.length+1) cap4 }) (K':={ K with list:=K.list++[(d,f,b)],groups:=K.groups++[b.extract 1 b.size] }) (i:=7) (w1:=w4) (r:=⟨9,1,V.vG,K.groups.length,K.groups.map Value.string⟩) (r':=⟨9,1,Y (some ⟨g4,0,O⟩) (K.groups.length+1) cap4,(K.groups++[b.extract 1 b.size]).length,(K.groups++[b.extract 1 b.size]).map Value.string⟩) rfl
          ((Kp.of_below P).trans' (by rw[R];exact Kp.row hg4)) W (fun y hy=>by
           simp[Value.ownBlock] at hy;subst hy
           show V.vG.ownBlock=_∨_
           rw[R];exact hat4.imp (fun q=>q) (fun q=>by omega)) 11 rfl rfl rfl)
         clear hown4 hg4 hat4 hlt4 W;generalize w4.setCell ⟨g,11,O⟩ (Y (some ⟨g4,0,O⟩) (K.groups.length+1) cap4)=w6 at *;go_wp2;go_ret;have HU:Kst N C w6 g K V (iO K (d,f,b)) { V with vL:=Y (some ⟨g3,0,O⟩) (K.list.length+1) cap3,vG:=Y (some ⟨g4,0,O⟩) (K.groups.length+1) cap4 }:=by
          unfold iO;simp only
          rw[af.out];exact HT.out.trans a7.out
         exact ab.out _ _ HU
       ·have a6:((b[0].toNat:Int)==114)=false:=beq_eq_false_iff_ne.2 hr
        have af:Hid (nT b K.groups=K.groups):=by unfold Hid nT;rw[if_neg (fun hc=>hr (e0.symm.trans hc))]
        clear hr e0;go_wp2;go_ret;have HU:Kst N C s g K V (iO K (d,f,b)) { V with vL:=Y (some ⟨g3,0,O⟩) (K.list.length+1) cap3 }:=by
         unfold iO;simp only
         rw[af.out];exact HT.out
        exact ab.out _ _ HU
end
end Go.Proofs.YtinaollfjiddmaaGreatDoor
