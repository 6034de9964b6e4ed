import Derived.Test.YtbnihoahhomooaaGreatDoorA16
import Derived.Test.YtbnihoahhomooaaGreatDoorA19
import Derived.Test.YtbnihoahhomooaaGreatDoorA20
set_option maxRecDepth 100000
set_option maxHeartbeats 8000000
set_option linter.all false
namespace Go.Proofs.YtbnihoahhomooaaGreatDoor
open Go.Value renaming int→I,slice→Y,string→Z,pointer→Zp
open Go.Ending renaming returned→Zr
open _root_.ByteArray renaming empty→Ze
open Go.IntKind renaming i64→J
open Option renaming none→O
open Go.RowKit
def pq (l:List En) (op:ByteArray):ByteArray :=
 if b0 op=114 then OKb else if b0 op=103 then (if (0:Int)<jK l (b1 op) then jG (jK l (b1 op)) else ql)
 else if b0 op=100 then (if jK l (b1 op)=0 then ql else OKb) else if b0 op=99 then (if jK l (b1 op)=bN op 2 then OKb else NOb) else OKb
section
variable {N:Nat} {w w':World} {g:Nat} {K K':Kw} {V V':Kv}
theorem xI (h:KAt N w g K V) (k:Nat) (hk:k<K.list.length) (hs:∀ e∈K.list,Kc e.2.2) :
  Calls Tryz.prog 148 #[Zp (some ⟨g,0,O⟩),I J k] w fun e w'=>e=Zr (Z (pq (K.list.take k) K.list[k].2.2))∧Below w.heap.size w w':=by
 have hP:=h.eL;obtain⟨aP,cP,hvP,hcap,hmax⟩:=hP.shape
 rw[hvP] at hP;have c10:w.cell? ⟨g,10,O⟩=some (Y aP K.list.length cP):=by rw[← hvP];exact h.cell 10
 have sz:=hs _ (List.getElem_mem hk);have HV:Hid (∀ key,Calls Tryz.prog 146 #[Zp (some ⟨g,0,O⟩),I J k,I .u8 key] w fun e w'=>e=Zr (I .u8 (jK (K.list.take k) key))∧Below w.heap.size w w'):=fun key=>zM h k (by omega) key hs
 obtain⟨b1',o1,rfl,_,d1,d2,d3⟩:=hP.get k hk
 clear h hs hvP hP;have j1:(0:Int)≤(k:Int):=by omega
 have j2:(k:Int)<(K.list.length:Int):=by omega
 generalize K.list[k].2.2=op at *;have y2:=sz.s2;have z0:(0:Int)<(op.size:Int):=by omega
 have z1:(1:Int)<(op.size:Int):=by omega
 have hbn:∀ (k:Nat) (hk:k<op.size),bN op k=(op[k].toNat:Int):=fun k hk=>by unfold bN;rw[atS hk]
 have e0:b0 op=(op[0].toNat:Int):=hbn 0 (by omega)
 have e1:b1 op=(op[1].toNat:Int):=hbn 1 (by omega)
 have S4:Hid ((op[0].toNat:Int)=99→(2:Int)<(op.size:Int)∧∃ h:2<op.size,bN op 2=(op[2].toNat:Int)):=fun hc=>by
  have:=sz.s4 (e0.trans hc);exact⟨by omega,by omega,hbn 2 (by omega)⟩
 have HX:Hid (pq (K.list.take k) op=if (op[0].toNat:Int)=114 then OKb else if (op[0].toNat:Int)=103 then (if (0:Int)<jK (K.list.take k) (op[1].toNat:Int) then jG (jK (K.list.take k) (op[1].toNat:Int)) else ql)
   else if (op[0].toNat:Int)=100 then (if jK (K.list.take k) (op[1].toNat:Int)=(0:Int) then ql else OKb) else if (op[0].toNat:Int)=99 then (if jK (K.list.take k) (op[1].toNat:Int)=bN op 2 then OKb else NOb) else OKb):=by
  unfold pq;rw[e0,e1];trivial
 have HV1:=ah (HV.out (op[1].toNat:Int));clear HV e0 e1 hbn sz;have hcv:=Kr;generalize pq (K.list.take k) op=res at *;by_cases h0:(op[0].toNat:Int)=114
 ·have h0':((op[0].toNat:Int)==114)=true:=beq_iff_eq.2 h0
  rw[if_pos h0] at HX;clear h0;go_enter Tryz.func148,Tryz.ntmps148;go_wp2;go_ret;exact⟨by rw[HX.out];rfl,Below.refl _ _⟩
 have h0':((op[0].toNat:Int)==114)=false:=beq_eq_false_iff_ne.2 h0
 rw[if_neg h0] at HX;clear h0;generalize jK (K.list.take k) (op[1].toNat:Int)=v at *;by_cases g1:(op[0].toNat:Int)=103
 ·have g1':((op[0].toNat:Int)==103)=true:=beq_iff_eq.2 g1
  rw[if_pos g1] at HX;clear g1;by_cases hv:(0:Int)<v
  ·rw[if_pos hv] at HX;go_enter Tryz.func148,Tryz.ntmps148;go_wp2_with fail;refine HV1.out.mono ?_;rintro e w1 ⟨rfl,hb⟩;go_wp2;go_ret;exact⟨by rw[HX.out];rfl,hb.trans (((Below.refl _ w1).alloc (Nat.le_refl _) _).mono hb.size)⟩
  ·rw[if_neg hv] at HX;go_enter Tryz.func148,Tryz.ntmps148;go_wp2_with fail;refine HV1.out.mono ?_;rintro e w1 ⟨rfl,hb⟩;go_wp2;go_ret;exact⟨by rw[HX.out];rfl,hb⟩
 have g1':((op[0].toNat:Int)==103)=false:=beq_eq_false_iff_ne.2 g1
 rw[if_neg g1] at HX;clear g1;by_cases g2:(op[0].toNat:Int)=100
 ·have g2':((op[0].toNat:Int)==100)=true:=beq_iff_eq.2 g2
  rw[if_pos g2] at HX;clear g2;by_cases hv:v=0
  ·have hv':(v==0)=true:=beq_iff_eq.2 hv
   rw[if_pos hv] at HX;clear hv;go_enter Tryz.func148,Tryz.ntmps148;go_wp2_with fail;refine HV1.out.mono ?_;rintro e w1 ⟨rfl,hb⟩;go_wp2;go_ret;exact⟨by rw[HX.out];rfl,hb⟩
  ·have hv':(v==0)=false:=beq_eq_false_iff_ne.2 hv
   rw[if_neg hv] at HX;clear hv;go_enter Tryz.func148,Tryz.ntmps148;go_wp2_with fail;refine HV1.out.mono ?_;rintro e w1 ⟨rfl,hb⟩;go_wp2;go_ret;exact⟨by rw[HX.out];rfl,hb⟩
 have g2':((op[0].toNat:Int)==100)=false:=beq_eq_false_iff_ne.2 g2
 rw[if_neg g2] at HX;clear g2;by_cases g3:(op[0].toNat:Int)=99
 ·obtain⟨y3,y5,y6⟩:=S4.out g3
  have g3':((op[0].toNat:Int)==99)=true:=beq_iff_eq.2 g3
  rw[if_pos g3,y6] at HX;clear g3 y6;by_cases hv:v=(op[2].toNat:Int)
  ·rw[if_pos hv] at HX;go_enter Tryz.func148,Tryz.ntmps148;go_wp2_with fail;refine HV1.out.mono ?_;rintro e w1 ⟨rfl,hb⟩;go_wp2;go_ret;exact⟨by rw[HX.out];rfl,hb⟩
  ·rw[if_neg hv] at HX;go_enter Tryz.func148,Tryz.ntmps148;go_wp2_with fail;refine HV1.out.mono ?_;rintro e w1 ⟨rfl,hb⟩;go_wp2;go_ret;exact⟨by rw[HX.out];rfl,hb⟩
 have g3':((op[0].toNat:Int)==99)=false:=beq_eq_false_iff_ne.2 g3
 rw[if_neg g3] at HX;clear g3;go_enter Tryz.func148,Tryz.ntmps148;go_wp2_with fail;refine HV1.out.mono ?_;rintro e w1 ⟨rfl,hb⟩;go_wp2;go_ret;exact⟨by rw[HX.out];rfl,hb⟩
end
structure OpF (op:ByteArray):Prop where
 sz:Kc op
 r:b0 op=114→mH (b1 op)=false
 k:b0 op≠114→mH (b1 op)=true
theorem zq (v:List Int) (i j:Nat) (x:Int) (hi:i<v.length):(v.set i x).getD j 0=if i=j then x else v.getD j 0:=by
 simp only[List.getD_eq_getElem?_getD,List.getElem?_set];by_cases h:i=j
 ·subst h;simp[hi]
 ·simp[h]
theorem Hu {v:List Int} {op:ByteArray} (h:OpF op) (hv:v.length=26) (j:Nat) (hj:j<26):(doS v op).1.length=26∧(doS v op).1.getD j 0=iO (97+(j:Int)) (v.getD j 0) op:=by
 have h2:=h.sz.s2;by_cases hr:b0 op=114
 ·have hk:=h.r hr;have e:doS v op=(v,OKb):=by unfold doS;rw[if_pos (by rw[hk];simp)]
  rw[e];refine⟨hv,?_⟩
  unfold iO;rw[if_neg (fun hc=>hc.2 hr)]
 have hk:=h.k hr;have hkk:97≤b1 op∧b1 op≤122:=by unfold mH at hk;simpa using hk
 obtain⟨i,hi⟩:∃ i:Nat,b1 op=97+(i:Int):=⟨(b1 op-97).toNat,by omega⟩
 have hi':(b1 op-97).toNat=i:=by omega
 have hil:i<v.length:=by omega
 have hst:∀ x,b1 op=97+(x:Nat)↔i=x:=fun x=>by omega
 unfold doS;rw[if_neg (by rw[hk];simp;omega),hi']
 have hkv:∀ x,iO (97+(j:Int)) x op=if i=j then (if b0 op=112 then bN op 2 else if b0 op=100 then 0 else if b0 op=99 then (if x=bN op 2 then bN op 3 else x) else x) else x:=fun x=>by
  unfold iO;by_cases q:i=j
  ·rw[if_pos ⟨(hst j).2 q,hr⟩,if_pos q]
  ·rw[if_neg (fun hc=>q ((hst j).1 hc.1)),if_neg q]
 rw[hkv];by_cases g:b0 op=103
 ·rw[if_pos (beq_iff_eq.2 g)];refine⟨hv,?_⟩
  have:¬b0 op=112:=by omega
  have:¬b0 op=100:=by omega
  have:¬b0 op=99:=by omega
  simp[*]
 rw[if_neg (by simpa using g)]
 by_cases d:b0 op=100
 ·have np:¬b0 op=112:=by omega
  rw[if_pos (beq_iff_eq.2 d),if_neg np,if_pos d];by_cases z:(v.getD i 0==0)=true
  ·rw[if_pos z];refine⟨hv,?_⟩
   by_cases q:i=j
   ·subst q;rw[if_pos rfl];simpa using z
   ·rw[if_neg q]
  ·rw[if_neg z];exact⟨by simpa using hv,zq v i j 0 hil⟩
 rw[if_neg (by simpa using d)]
 by_cases p:b0 op=112
 ·have p3:2<op.size:=by have:=h.sz.s3 p;omega
  rw[if_pos (beq_iff_eq.2 p),if_pos p3,if_pos p];exact⟨by simpa using hv,zq v i j _ hil⟩
 rw[if_neg (by simpa using p),if_neg p,if_neg d]
 by_cases c:b0 op=99
 ·have:=h.sz.s4 c
  rw[if_pos (beq_iff_eq.2 c),if_pos c];by_cases z:v.getD i 0=bN op 2
  ·rw[if_neg (by simp only[Bool.or_eq_true,decide_eq_true_eq,Bool.not_eq_true',beq_eq_false_iff_ne];intro q;rcases q with q|q;(· omega);(· exact q z))]
   refine⟨by simpa using hv,?_⟩
   rw[zq v i j _ hil];by_cases q:i=j
   ·subst q;rw[if_pos rfl,if_pos rfl,if_pos z]
   ·rw[if_neg q,if_neg q]
  ·rw[if_pos (by simp only[Bool.or_eq_true,decide_eq_true_eq,Bool.not_eq_true',beq_eq_false_iff_ne];exact .inr z)]
   refine⟨hv,?_⟩
   by_cases q:i=j
   ·subst q;rw[if_pos rfl,if_neg z]
   ·rw[if_neg q]
 ·rw[if_neg (by simpa using c),if_neg c]
  refine⟨hv,?_⟩
  split <;> rfl
theorem E9 (l:List En) (e:En):svF (l++[e])=lG (svF l) e:=by unfold svF;rw[List.foldl_append];rfl
theorem Jp (l:List En) (e:En) (k:Int):jK (l++[e]) k=iO k (jK l k) e.2.2:=by unfold jK;rw[List.foldl_append];rfl
theorem Da:∀ (n:Nat) (l:List En),l.length=n→(∀ e∈l,OpF e.2.2)→(svF l).vals.length=26∧∀ j,j<26→(svF l).vals.getD j 0=jK l (97+(j:Int))
 | 0,l,hl,_=>by
  have:l=[]:=List.eq_nil_of_length_eq_zero hl
  subst this;refine⟨rfl,fun j hj=>?_⟩
  show (List.replicate 26 (0:Int)).getD j 0=0
  rw[List.getD_eq_getElem?_getD,List.getElem?_replicate,if_pos hj]
  rfl
 | n+1,l,hl,hf=>by
  have hne:l≠[]:=by intro hc;rw[hc] at hl;simp at hl
  have hsp:=List.dropLast_concat_getLast hne;obtain⟨l',e,rfl⟩:∃ l' e,l=l'++[e]:=⟨_,_,hsp.symm⟩
  have ih:=Da n l' (by simpa using hl) (fun x hx=>hf x (by simp[hx]))
  have ho:=hf e (by simp)
  rw[E9];refine⟨(Hu ho ih.1 0 (by omega)).1,fun j hj=>?_⟩
  rw[Jp,← ih.2 j hj];exact (Hu ho ih.1 j hj).2
theorem Og (op:ByteArray) (k:Nat):0≤bN op k:=by unfold bN;omega
theorem Jo {key v:Int} {op:ByteArray} (h:0≤v):0≤iO key v op:=by
 have h2:=Og op 2;have h3:=Og op 3;unfold iO
 repeat' split
 all_goals omega
theorem D8 (key:Int):∀ (l:List En) (v:Int),0≤v→0≤l.foldl (fun v e=>iO key v e.2.2) v
 | [],_,h=>h
 | _ :: l,_,h=>D8 key l _ (Jo h)
theorem Ih (l:List En) (key:Int):0≤jK l key:=D8 key l 0 (Int.le_refl _)
theorem C9 {l:List En} {op:ByteArray} (h:OpF op) (hl:∀ e∈l,OpF e.2.2):(doS (svF l).vals op).2=pq l op:=by
 have h2:=h.sz.s2;have hv:=Da _ l rfl hl;by_cases hr:b0 op=114
 ·have hk:=h.r hr;unfold doS pq;rw[if_pos (by rw[hk];simp),if_pos hr]
 have hk:=h.k hr;have hkk:97≤b1 op∧b1 op≤122:=by unfold mH at hk;simpa using hk
 obtain⟨i,hi⟩:∃ i:Nat,b1 op=97+(i:Int):=⟨(b1 op-97).toNat,by omega⟩
 have hi':(b1 op-97).toNat=i:=by omega
 have hkv:=hv.2 i (by omega)
 rw[← hi] at hkv;have hnn:=Ih l (b1 op);unfold doS pq;rw[if_neg (by rw[hk];simp;omega),hi',hkv,if_neg hr]
 generalize jK l (b1 op)=x at *;by_cases g:b0 op=103
 ·rw[if_pos (beq_iff_eq.2 g),if_pos g];by_cases z:x=0
  ·have nz:¬0<x:=by omega
   rw[if_pos (beq_iff_eq.2 z),if_neg nz]
  ·have nz:0<x:=by omega
   rw[if_neg (by simpa using z),if_pos nz]
 rw[if_neg (by simpa using g),if_neg g]
 by_cases d:b0 op=100
 ·rw[if_pos (beq_iff_eq.2 d),if_pos d];by_cases z:x=0
  ·rw[if_pos (beq_iff_eq.2 z),if_pos z]
  ·rw[if_neg (by simpa using z),if_neg z]
 rw[if_neg (by simpa using d),if_neg d]
 by_cases p:b0 op=112
 ·have np:¬b0 op=99:=by omega
  have p3:2<op.size:=by have:=h.sz.s3 p;omega
  rw[if_pos (beq_iff_eq.2 p),if_pos p3,if_neg np]
 rw[if_neg (by simpa using p)]
 by_cases c:b0 op=99
 ·have:=h.sz.s4 c
  rw[if_pos (beq_iff_eq.2 c),if_pos c];by_cases z:x=bN op 2
  ·rw[if_neg (by simp only[Bool.or_eq_true,decide_eq_true_eq,Bool.not_eq_true',beq_eq_false_iff_ne];intro q;rcases q with q|q;(· omega);(· exact q z)),if_pos z]
  ·rw[if_pos (by simp only[Bool.or_eq_true,decide_eq_true_eq,Bool.not_eq_true',beq_eq_false_iff_ne];exact .inr z),if_neg z]
 ·rw[if_neg (by simpa using c),if_neg c]
def kV (l:List En) (a:Int):Nat→Int×ByteArray
 | 0=>(0,⟨#[]⟩)
 | k+1=>match l[k]? with
  | some e=>if e.1=a then (e.2.1,pq (l.take k) e.2.2) else kV l a k
  | none=>kV l a k
theorem BS (l m:List En) (a:Int):∀ k,k≤l.length→kV (l++m) a k=kV l a k
 | 0,_=>rfl
 | k+1,hk=>by
  unfold kV;rw[List.getElem?_append_left (by omega),List.take_append_of_le_length (by omega),BS l m a k (by omega)]
theorem Ig:∀ (n:Nat) (l:List En),l.length=n→(∀ e∈l,OpF e.2.2)→(∀ e∈l,1≤e.1∧e.1≤9)→(svF l).ses.length=9∧∀ a:Int,1≤a→a≤9→(svF l).ses.getD (a-1).toNat (0,⟨#[]⟩)=kV l a n
 | 0,l,hl,_,_=>by
  have:l=[]:=List.eq_nil_of_length_eq_zero hl
  subst this;refine⟨rfl,fun a h1 h9=>?_⟩
  show (List.replicate 9 ((0:Int),(⟨#[]⟩:ByteArray))).getD (a-1).toNat (0,⟨#[]⟩)=(0,⟨#[]⟩)
  rw[List.getD_eq_getElem?_getD,List.getElem?_replicate,if_pos (by omega)]
  rfl
 | n+1,l,hl,hf,hc=>by
  have hne:l≠[]:=by intro hc;rw[hc] at hl;simp at hl
  obtain⟨l',e,rfl⟩:∃ l' e,l=l'++[e]:=⟨_,_,(List.dropLast_concat_getLast hne).symm⟩
  have hl':l'.length=n:=by simpa using hl
  have ih:=Ig n l' hl' (fun x hx=>hf x (by simp[hx])) (fun x hx=>hc x (by simp[hx]))
  have ho:=hf e (by simp)
  have hce:=hc e (by simp)
  have hd:=C9 ho (fun x hx=>hf x (by simp[hx]):∀ x∈l',OpF x.2.2)
  rw[E9];refine⟨by show ((svF l').ses.set _ _).length=9;simpa using ih.1,fun a h1 h9=>?_⟩
  have hle:(l'++[e])[n]? = some e:=by rw[← hl'];simp
  have htk:(l'++[e]).take n=l':=by rw[← hl'];simp
  unfold kV;rw[hle,htk,BS l' [e] a n (by omega),← ih.2 a h1 h9]
  show ((svF l').ses.set (e.1-1).toNat (e.2.1,(doS (svF l').vals e.2.2).2)).getD (a-1).toNat (0,⟨#[]⟩)=_
  rw[hd,List.getD_eq_getElem?_getD,List.getElem?_set];by_cases q:e.1=a
  ·rw[if_pos (by omega),if_pos (by rw[ih.1];omega)]
   simp[q]
  ·rw[if_neg (by omega)]
   simp[q,List.getD_eq_getElem?_getD]
theorem nW {op:ByteArray} {n:Int} (h:jH op.data.toList n=true):OpF op:=by
  have hbn : ∀ (k : Nat) (hk : k < op.size), ((op.data.toList.getD k 0).toNat : Int) = (op[k].toNat : Int) := fun k hk => by rw [atS hk]
  by_cases h0:0<op.size
  · by_cases hr:((op[0].toNat:Int)==114)=true
    · rw[Oc h0 hr] at h
      have hl:=jq h
      have hs:(op.extract 1 op.size).data.toList.length=op.size-1:=by
        rw[Array.length_toList]
        show (op.extract 1 op.size).size=_
        rw[ByteArray.size_extract];omega
      have h2 : 2 ≤ op.size := by omega
      have e0 : b0 op = (op[0].toNat : Int) := hbn 0 (by omega)
      have e1 : b1 op = (op[1].toNat : Int) := hbn 1 (by omega)
      have hr':=beq_iff_eq.1 hr
      have hk:mH (b1 op)=false:=by
        cases hc:mH (b1 op)
        · rfl
        · exfalso
          have hkk : 97 ≤ b1 op ∧ b1 op ≤ 122 := by unfold mH at hc; simpa using hc
          refine Eb h (c := op[1]) (.inr (by omega)) ?_
          have : (op.extract 1 op.size).data.toList = op.data.toList.drop 1 := by simp [ByteArray.data_extract, Array.toList_extract, List.extract_eq_take_drop]; rw [List.take_of_length_le (by simp)]
          rw[this]
          have hm : op.data.toList[1]'(by simp; omega) = op[1] := rfl
          rw[← hm]
          exact List.mem_drop_iff_getElem.2 ⟨0, by simp; omega, rfl⟩
      exact ⟨⟨h2, fun q => by omega, fun q => by omega⟩, fun _ => hk, fun q => absurd (e0.trans hr') q⟩
    · have hr : ((op[0].toNat : Int) == 114) = false := by simpa using hr
      rw[ask_o h0 hr] at h
      by_cases h2:2≤op.size
      · rw[zA op h2] at h
        have e0 : b0 op = (op[0].toNat : Int) := hbn 0 (by omega)
        have e1 : b1 op = (op[1].toNat : Int) := hbn 1 (by omega)
        simp only[Bool.and_eq_true,beq_iff_eq] at h
        obtain⟨h3,⟨h4,h5⟩,h6⟩:=h
        have hw : ∀ x : UInt8, b0 op = (x.toNat : Int) → op[0] = x := fun x hx => UInt8.toNat_inj.1 (by omega)
        refine⟨⟨h2,fun q=>?_,fun q=>?_⟩,fun q=>?_,fun _=>?_⟩
        · have := hw 112 q; rw [this] at h6; have : fQ 112 = 3 := by decide
          omega
        · have := hw 99 q; rw [this] at h6; have : fQ 99 = 4 := by decide
          omega
        · have:=beq_eq_false_iff_ne.1 hr;omega
        · rw[e1];exact h4
      · rw [FP (by omega)] at h; simp at h
  · have : op.data.toList = [] := List.eq_nil_of_length_eq_zero (by have : op.data.toList.length = op.size := by rw [Array.length_toList]; rfl
                                                                    omega)
    rw[this] at h
    simp[jH,dU] at h
def Ke (n:Nat) (w w':World) (e:Ending):Prop:=∃ r:Int,e=Zr (I J r)∧-1≤r∧r<n∧Below w.heap.size w w'
section
variable {N:Nat} {w w':World} {g:Nat} {K K':Kw} {V V':Kv}
theorem KAt.ePk (h:KAt N w g K V):gW w V.vP K.net:=Rd.bR h.rP
theorem F7 (h:KAt N w g K V) (s:ByteArray) (q:Int) (ht:∀ x∈K.net,0<x.2.2.size) :
  Calls Tryz.prog 33 #[Zp (some ⟨g,0,O⟩),Z s,I J q] w fun e w'=>Ke K.net.length w w' e:=by
 have hP:=h.ePk;obtain⟨aP,cP,hvP,hcap,hmax⟩:=hP.shape
 rw[hvP] at hP;have HC:Hid (∀ w2,Below w.heap.size w w2→w2.cell? ⟨g,7,O⟩=some (Y aP K.net.length cP)):=fun w2 hw2=>by rw[← hvP];exact (h.below hw2).cell 7
 have HT:Hid (∀ k,(hk:k<K.net.length)→0<(K.net[k].2.2).size):=fun k hk=>ht _ (List.getElem_mem hk)
 clear h ht;go_enter Tryz.func33,Tryz.ntmps33;go_wp2_with fail;go_loopw [7] (fun i wr=>∃ k:Nat,k≤K.net.length∧i=I J k∧Below w.heap.size w wr) (fun i _=>K.net.length-(intOf i).toNat)
 case atStart=>exact⟨0,Nat.zero_le _,rfl,Below.refl _ _⟩
 case round =>
  obtain⟨k,hk,rfl,hbw⟩:=hrel
  have c7:=HC.out _ hbw;by_cases hlt:k<K.net.length
  ·obtain⟨b1,o1,rfl,_,d1,d2,d3⟩:=(hP.below hbw).get k hlt
   have j1:(0:Int)≤(k:Int):=by omega
   have j2:(k:Int)<(K.net.length:Int):=by omega
   have s1:=HT.out k hlt;have s2:(1:Int)≤(K.net[k].2.2.size:Int):=by omega
   generalize K.net[k].2.2=tx at *;generalize K.net[k].2.1=tq at *;by_cases hq:tq=q
   ·have hq':(tq==q)=true:=beq_iff_eq.2 hq
    go_wp2_with fail
    ·go_ret;exact⟨k,rfl,by omega,by omega,hbw⟩
    ·go_roundw
     case rel=>exact⟨k+1,by omega,by go_num,hbw⟩
     case measure=>simp[intOf];omega
   ·have hq':(tq==q)=false:=beq_eq_false_iff_ne.2 hq
    go_wp2;go_roundw
    case rel=>exact⟨k+1,by omega,by go_num,hbw⟩
    case measure=>simp[intOf];omega
  ·go_wp2;go_ret;exact⟨-1,rfl,by omega,by omega,hbw⟩
theorem Rd.CW {a:Option Addr} {n cap:Nat} {xs:List Value} (h:Rd w 1 (Y a n cap) n xs) {k:Nat} {u:Value} (hk:xs[k]? = some u) :
  ∃ b off,a=some ⟨b,off,O⟩∧b<w.heap.size∧w.cell? ⟨b,off+k,O⟩=some u:=by
 have hl:=(List.getElem?_eq_some_iff.1 hk).1;rcases h.2 with ⟨h1,h2⟩|⟨b,off,cap',h1,_,_,hb,hc⟩
 ·have:=h.1;omega
 ·simp only[Value.slice.injEq] at h1;obtain⟨rfl,_,rfl⟩:=h1
  exact⟨b,off,rfl,hb,hc k u hk⟩
structure KSz (K:Kw):Prop where
 n3:3≤K.n
 n7:K.n≤7
 nds:(K.nds.length:Int)=K.n
 down:(K.down.length:Int)=K.n
 begun:(K.begun.length:Int)=K.n
 opn:K.opn.length=10
theorem KAt.node (h:KAt N w g K V) (j:Nat) (hj:j<K.nds.length) {w2:World} (hw:Below w.heap.size w w2):ay w2 K.nds[j].b K.nds[j].bl K.nds[j].W K.nds[j].F K.nds[j].R K.nds[j].V:=(h.nodes _ (List.getElem_mem hj)).below hw
def sH (w w':World) (e:Ending):Prop:=∃ r:Bool,e=Zr (.bool r)∧Below w.heap.size w w'
theorem zI (h:KAt N w g K V) (z:KSz K) (s:ByteArray) (q:Int) (hs:s.size≤1000000) :
  Calls Tryz.prog 29 #[Zp (some ⟨g,0,O⟩),Z s,I J q] w fun e w'=>sH w w' e:=by
 obtain⟨n,hn⟩:∃ n:Nat,K.n=n:=⟨K.n.toNat,by have:=z.n3;omega⟩
 have z1:=z.nds;have z2:=z.down;have z7:=z.n7;rw[hn] at z1 z2 z7;obtain⟨aN,cN,hvN⟩:=aj h.rN
 obtain⟨aD,cD,hvD⟩:=aj h.rD
 have HN:Hid (∀ w2,Below w.heap.size w w2→∀ k,(hk:k<K.nds.length)→∃ b off,aN=some ⟨b,off,O⟩∧b<w2.heap.size∧w2.cell? ⟨b,off+k,O⟩=some (Zp (some ⟨K.nds[k].b,0,O⟩))):=fun w2 hw2 k hk =>
  Rd.CW (by have:=Rd.bR (h.below hw2).rN;rw[hvN] at this;exact this) (by rw[List.getElem?_map,List.getElem?_eq_getElem hk];rfl)
 have HDn:Hid (∀ w2,Below w.heap.size w w2→∀ k,(hk:k<K.down.length)→∃ b off,aD=some ⟨b,off,O⟩∧b<w2.heap.size∧w2.cell? ⟨b,off+k,O⟩=some (.bool K.down[k])):=fun w2 hw2 k hk =>
  Rd.CW (by have:=Rd.bR (h.below hw2).rD;rw[hvD] at this;exact this) (by rw[List.getElem?_map,List.getElem?_eq_getElem hk];rfl)
 have HC1:Hid (∀ w2,Below w.heap.size w w2→w2.cell? ⟨g,1,O⟩=some (I J n)):=fun w2 hw2=>by rw[← hn];exact (h.below hw2).cell 1
 have HC2:Hid (∀ w2,Below w.heap.size w w2→w2.cell? ⟨g,2,O⟩=some (Y aN K.nds.length cN)):=fun w2 hw2=>by rw[← hvN];exact (h.below hw2).cell 2
 have HC3:Hid (∀ w2,Below w.heap.size w w2→w2.cell? ⟨g,3,O⟩=some (Y aD K.down.length cD)):=fun w2 hw2=>by rw[← hvD];exact (h.below hw2).cell 3
 have HA:Hid (∀ (k:Int) (w:World),Calls Tryz.prog 56 #[Z s,I J k] w fun e w'=>∃ b,e=Zr (.bool b)∧w'=w):=fun k w=>zH s k w (by omega)
 have HW:Hid (∀ w2,Below w.heap.size w w2→∀ k,(hk:k<K.nds.length)→Calls Tryz.prog 30 #[Zp (some ⟨K.nds[k].b,0,O⟩)] w2 fun e w'=>e=Zr (.tuple #[I J K.nds[k].R.epoch,I J K.nds[k].R.view,I J K.nds[k].R.status,I J (K.nds[k].R.decided:Int)])∧∃ n,w'=w2.drewN n):=fun w2 hw2 k hk=>l6 (h.node k hk hw2)
 clear h z;go_enter Tryz.func29,Tryz.ntmps29;go_wp2_with fail;go_loopw [7,8] (fun m i wr=>∃ k c:Nat,c≤k∧k≤n∧i=I J k∧m=I J c∧Below w.heap.size w wr) (fun _ i _=>n-(intOf i).toNat)
 case atStart=>exact⟨0,0,Nat.le_refl _,Nat.zero_le _,rfl,rfl,Below.refl _ _⟩
 case round =>
  obtain⟨k,c,hck,hk,rfl,rfl,hbw⟩:=hrel
  have c1:=HC1.out _ hbw;by_cases hlt:k<n
  ·obtain⟨b1,o1,rfl,hb1,d1⟩:=HN.out _ hbw k (by omega)
   obtain⟨b2,o2,rfl,hb2,d2⟩:=HDn.out _ hbw k (by omega)
   have j1:(0:Int)≤(k:Int):=by omega
   have j2:(k:Int)<(K.nds.length:Int):=by omega
   have j3:(k:Int)<(K.down.length:Int):=by omega
   have j4:(k:Int)<(n:Int):=by omega
   have c2:=HC2.out _ hbw;have HQ:=ah (HW.out wr hbw k (by omega))
   generalize K.nds[k].b=bb at *;generalize K.nds[k].R.epoch=r1 at *;generalize K.nds[k].R.view=r2 at *;generalize K.nds[k].R.status=r3 at *;generalize K.nds[k].R.decided=r4 at *;generalize K.down[k]=dn at *;go_wp2_with fail;refine (HA.out _ _).mono ?_;rintro e w1 ⟨bA,rfl,hw1⟩;subst hw1;go_wp2_with fail;refine HQ.out.mono ?_;rintro e w2 ⟨rfl,nn,hw2⟩;have hb2':Below w.heap.size w w2:=by rw[hw2];exact below_drewN hbw nn
   have c3:=HC3.out _ hb2';have d3:w2.cell? ⟨b2,o2+k,O⟩=some (.bool dn):=by rw[hw2];exact d2
   clear hw2;cases bA
   ·go_wp2;go_roundw
    case rel=>exact⟨k+1,c,by omega,by omega,by go_num,rfl,hb2'⟩
    case measure=>simp[intOf];omega
   ·cases dn
    ·by_cases h3:r3=3
     ·have h3':(r3==3)=true:=beq_iff_eq.2 h3
      go_wp2;go_roundw
      case rel=>exact⟨k+1,c+1,by omega,by omega,by go_num,by go_num,hb2'⟩
      case measure=>simp[intOf];omega
     ·have h3':(r3==3)=false:=beq_eq_false_iff_ne.2 h3
      by_cases h4:(k:Int)=q
      ·have h4':((k:Int)==q)=true:=beq_iff_eq.2 h4
       clear h4;go_wp2;go_roundw
       case rel=>exact⟨k+1,c+1,by omega,by omega,by go_num,by go_num,hb2'⟩
       case measure=>simp[intOf];omega
      ·have h4':((k:Int)==q)=false:=beq_eq_false_iff_ne.2 h4
       go_wp2;go_roundw
       case rel=>exact⟨k+1,c,by omega,by omega,by go_num,rfl,hb2'⟩
       case measure=>simp[intOf];omega
    ·go_wp2;go_roundw
     case rel=>exact⟨k+1,c+1,by omega,by omega,by go_num,by go_num,hb2'⟩
     case measure=>simp[intOf];omega
  ·go_wp2;go_ret;exact⟨_,rfl,hbw⟩
end
theorem vJ:∀ (l:List jS) (k:Nat) (h:k<l.length),(bL l)[6*k]? = some (I J l[k].e.1)∧(bL l)[6*k+1]? = some (I J l[k].e.2.1)∧(bL l)[6*k+2]? = some (Z l[k].e.2.2)∧(bL l)[6*k+3]? = some (Z l[k].text)∧(bL l)[6*k+4]? = some (I J l[k].floor)∧(bL l)[6*k+5]? = some (.bool l[k].bad)
 | a :: l,0,_=>⟨rfl,rfl,rfl,rfl,rfl,rfl⟩
 | a :: l,k+1,h=>by
  have:=vJ l k (by simpa using h)
  simp only[List.getElem_cons_succ];exact this
theorem nY:∀ a b:List jS,bL (a++b)=bL a++bL b
 | [],_=>rfl
 | a :: l,b=>by have:=nY l b;simp[bL] at *;exact this
def jY (w:World) (v:Value) (l:List jS):Prop:=Rd w 6 v l.length (bL l)
theorem jY.get {w:World} {a:Option Addr} {n cap:Nat} {l:List jS} (h:jY w (Y a n cap) l) (k:Nat) (hk:k<l.length) :
  ∃ b off,a=some ⟨b,off,O⟩∧b<w.heap.size∧w.cell? ⟨b,off+k*6,O⟩=some (I J l[k].e.1)∧w.cell? ⟨b,off+k*6+1,O⟩=some (I J l[k].e.2.1)∧w.cell? ⟨b,off+k*6+2,O⟩=some (Z l[k].e.2.2)∧w.cell? ⟨b,off+k*6+3,O⟩=some (Z l[k].text)∧w.cell? ⟨b,off+k*6+4,O⟩=some (I J l[k].floor)∧w.cell? ⟨b,off+k*6+5,O⟩=some (.bool l[k].bad):=by
 obtain⟨q0,q1,q2,q3,q4,q5⟩:=vJ l k hk
 rcases h.2 with ⟨h1,h2⟩|⟨b,off,cap',h1,_,_,hb,hc⟩
 ·omega
 ·simp only[Value.slice.injEq] at h1;obtain⟨rfl,rfl,rfl⟩:=h1
  refine⟨b,off,rfl,hb,?_,?_,?_,?_,?_,?_⟩
  ·have:=hc _ _ q0;rwa [show off+6*k=off+k*6 by omega] at this
  ·have:=hc _ _ q1;rwa [show off+(6*k+1)=off+k*6+1 by omega] at this
  ·have:=hc _ _ q2;rwa [show off+(6*k+2)=off+k*6+2 by omega] at this
  ·have:=hc _ _ q3;rwa [show off+(6*k+3)=off+k*6+3 by omega] at this
  ·have:=hc _ _ q4;rwa [show off+(6*k+4)=off+k*6+4 by omega] at this
  ·have:=hc _ _ q5;rwa [show off+(6*k+5)=off+k*6+5 by omega] at this
theorem jY.shape {w:World} {v:Value} {l:List jS} (h:jY w v l):∃ a cap,v=Y a l.length cap∧l.length≤cap∧cap≤9223372036854775807:=by
 obtain⟨a,cap,rfl,hn,hm,_⟩:=Rd.form h
 exact⟨a,cap,rfl,hn,by unfold maxLen at hm;omega⟩
theorem KAt.eW {N:Nat} {w:World} {g:Nat} {K:Kw} {V:Kv} (h:KAt N w g K V):jY w V.vW K.wishes:=Rd.bR h.rW
def EVP (w w':World) (e:Ending):Prop:=∃ a v:Int,e=Zr (.tuple #[I J a,I J v])∧0≤a∧a≤1000∧Below w.heap.size w w'
section
variable {N:Nat} {w w':World} {g:Nat} {K K':Kw} {V V':Kv}
theorem Ec (h:KAt N w g K V) (z:KSz K) (he:∀ x∈K.nds,0≤x.R.epoch∧x.R.epoch≤1000) :
  Calls Tryz.prog 149 #[Zp (some ⟨g,0,O⟩)] w fun e w'=>EVP w w' e:=by
 obtain⟨n,hn⟩:∃ n:Nat,K.n=n:=⟨K.n.toNat,by have:=z.n3;omega⟩
 have z1:=z.nds;have z7:=z.n7;rw[hn] at z1 z7;obtain⟨aN,cN,hvN⟩:=aj h.rN
 have HN:Hid (∀ w2,Below w.heap.size w w2→∀ k,(hk:k<K.nds.length)→∃ b off,aN=some ⟨b,off,O⟩∧b<w2.heap.size∧w2.cell? ⟨b,off+k,O⟩=some (Zp (some ⟨K.nds[k].b,0,O⟩))):=fun w2 hw2 k hk =>
  Rd.CW (by have:=Rd.bR (h.below hw2).rN;rw[hvN] at this;exact this) (by rw[List.getElem?_map,List.getElem?_eq_getElem hk];rfl)
 have HC1:Hid (∀ w2,Below w.heap.size w w2→w2.cell? ⟨g,1,O⟩=some (I J n)):=fun w2 hw2=>by rw[← hn];exact (h.below hw2).cell 1
 have HC2:Hid (∀ w2,Below w.heap.size w w2→w2.cell? ⟨g,2,O⟩=some (Y aN K.nds.length cN)):=fun w2 hw2=>by rw[← hvN];exact (h.below hw2).cell 2
 have HW:Hid (∀ w2,Below w.heap.size w w2→∀ k,(hk:k<K.nds.length)→Calls Tryz.prog 30 #[Zp (some ⟨K.nds[k].b,0,O⟩)] w2 fun e w'=>e=Zr (.tuple #[I J K.nds[k].R.epoch,I J K.nds[k].R.view,I J K.nds[k].R.status,I J (K.nds[k].R.decided:Int)])∧∃ n,w'=w2.drewN n):=fun w2 hw2 k hk=>l6 (h.node k hk hw2)
 have HEp:Hid (∀ k,(hk:k<K.nds.length)→0≤K.nds[k].R.epoch∧K.nds[k].R.epoch≤1000):=fun k hk=>he _ (List.getElem_mem hk)
 clear h z he;go_enter Tryz.func149,Tryz.ntmps149;go_wp2_with fail;go_loopw [4,5,6] (fun ve vv i wr=>∃ (k:Nat) (a v:Int),0≤a∧a≤1000∧k≤n∧i=I J k∧ve=I J a∧vv=I J v∧Below w.heap.size w wr) (fun _ _ i _=>n-(intOf i).toNat)
 case atStart=>exact⟨0,0,0,by omega,by omega,Nat.zero_le _,rfl,rfl,rfl,Below.refl _ _⟩
 case round =>
  obtain⟨k,a,v,ha0,ha1,hk,rfl,rfl,rfl,hbw⟩:=hrel
  have c1:=HC1.out _ hbw;by_cases hlt:k<n
  ·obtain⟨b1,o1,rfl,hb1,d1⟩:=HN.out _ hbw k (by omega)
   have j1:(0:Int)≤(k:Int):=by omega
   have j2:(k:Int)<(K.nds.length:Int):=by omega
   have j4:(k:Int)<(n:Int):=by omega
   have c2:=HC2.out _ hbw;have HQ:=ah (HW.out wr hbw k (by omega))
   have hep:=HEp.out k (by omega)
   generalize K.nds[k].b=bb at *;generalize K.nds[k].R.epoch=r1 at *;generalize K.nds[k].R.view=r2 at *;generalize K.nds[k].R.status=r3 at *;generalize K.nds[k].R.decided=r4 at *;go_wp2_with fail;refine HQ.out.mono ?_;rintro e w2 ⟨rfl,nn,hw2⟩;have hb2':Below w.heap.size w w2:=by rw[hw2];exact below_drewN hbw nn
   clear hw2;by_cases s1:r3=1∨r3=2
   ·by_cases q1:a<r1
    ·rcases s1 with s1|s1
     all_goals
      subst s1;go_wp2;go_roundw
      case rel=>exact⟨k+1,r1,r2,hep.1,hep.2,by omega,by go_num,rfl,rfl,hb2'⟩
      case measure=>simp[intOf];omega
    ·by_cases q2:r1=a
     ·by_cases q3:v<r2
      ·rcases s1 with s1|s1
       all_goals
        subst s1;subst q2;go_wp2;go_roundw
        case rel=>exact⟨k+1,r1,r2,hep.1,hep.2,by omega,by go_num,rfl,rfl,hb2'⟩
        case measure=>simp[intOf];omega
      ·rcases s1 with s1|s1
       all_goals
        subst s1;subst q2;go_wp2;go_roundw
        case rel=>exact⟨k+1,r1,v,hep.1,hep.2,by omega,by go_num,rfl,rfl,hb2'⟩
        case measure=>simp[intOf];omega
     ·have q2':(r1==a)=false:=beq_eq_false_iff_ne.2 q2
      rcases s1 with s1|s1
      all_goals
       subst s1;go_wp2;go_roundw
       case rel=>exact⟨k+1,a,v,ha0,ha1,by omega,by go_num,rfl,rfl,hb2'⟩
       case measure=>simp[intOf];omega
   ·have s2:(r3 != 1)=true:=bne_iff_ne.2 (fun hc=>s1 (.inl hc))
    have s3:(r3 != 2)=true:=bne_iff_ne.2 (fun hc=>s1 (.inr hc))
    clear s1;go_wp2;go_roundw
    case rel=>exact⟨k+1,a,v,ha0,ha1,by omega,by go_num,rfl,rfl,hb2'⟩
    case measure=>simp[intOf];omega
  ·go_wp2;go_ret2;exact⟨a,v,rfl,ha0,ha1,hbw⟩
end
section
variable {w w0:World} {b bl:Nat} {W F:List Nat} {R:Rp} {V:Rv} {P:Pm} {vl vg vo vL:Value}
theorem LG (h:ay w b bl W F R V) (hR:Ok R) (ho:R.out=[]) :
  Calls Tryz.prog 59 #[Zp (some ⟨b,0,O⟩)] w fun e w'=>TkP w w' b bl W F R.lF e:=by
 have HS0:=ah (Rst.refl h);have HKA:Hid (∀ wX WX FX,Kp W w wX→Mv w W F WX FX→Kp W w wX∧(∀ x∈WX,x∈W∨w.heap.size≤x)∧(∀ x∈FX,x∈F∨w.heap.size≤x)):=fun _ _ _ k m=>⟨k,m.m,m.g⟩
 have hol:R.out.length≤100000:=by rw[ho];simp
 have HE0:Hid (R.lF=if R.leads then R.iZ else if R.status=2 then R.call.dP else if R.status=3 then R.ask else if R.status=5 then R.bS else R):=rfl
 have HL:=ah (EX HS0.out hR);have HGc:=ah (Rp.yw hR);clear h ho;cases hl:R.leads
 ·rw[hl] at HL;cases s2:(R.status==2)
  ·cases s3:(R.status==3)
   ·cases s5:(R.status==5)
    focus
     have HE:Hid (R.lF=R):=by unfold Hid;rw[HE0.out,hl,if_neg (by decide),if_neg (by simpa using s2),if_neg (by simpa using s3),if_neg (by simpa using s5)]
    rotate_left
    focus
     have HE:Hid (R.lF=R.bS):=by unfold Hid;rw[HE0.out,hl,if_neg (by decide),if_neg (by simpa using s2),if_neg (by simpa using s3),if_pos (by simpa using s5)]
    rotate_left
    all_goals
     clear HE0;go_enter Tryz.func59,Tryz.ntmps59;go_wp2_with fail;refine HL.out.mono ?_;rintro e w1 ⟨rfl,hs1⟩;have HS1:=ah hs1;obtain⟨_,_,V1',q1',_,_⟩:=hs1
     have c3:=q1'.c3;clear q1'
    focus
     obtain⟨WX,FX,VX,hX,kX,mX⟩:=HS1.out
    rotate_left
    focus
     go_wp2_with fail;refine (nX HS1.out hR (by omega)).mono ?_
     rintro e w2 ⟨rfl,hs2⟩;have HS2:=ah hs2;clear hs2;obtain⟨WX,FX,VX,hX,kX,mX⟩:=HS2.out
    rotate_left
    all_goals
     have HSt:=ah (jD hX);have HKX:=ah (HKA.out _ _ _ kX mX);have HwX:=ah hX.wt;have HfX:=ah hX.wf;obtain⟨aX,cX,hvX⟩:=hX.g71
     have HvX:=ah hvX;rw[hvX] at HSt;clear hX kX mX hvX;go_wp2_with fail;refine HSt.out.mono ?_;rintro e wS ⟨rfl,hoS,kS,WS,FSs,hRS,hWS,hFS,hfS⟩;have HFin:=ah (jX.mk' HKX.out HwX.out HfX.out HvX.out hoS kS hRS hWS hFS hfS);clear hoS kS hRS hWS hFS hfS;go_wp2;go_ret;exact (by rw[HE.out];exact HFin.out)
   ·have HE:Hid (R.lF=R.ask):=by unfold Hid;rw[HE0.out,hl,if_neg (by decide),if_neg (by simpa using s2),if_pos (by simpa using s3)]
    clear HE0;go_enter Tryz.func59,Tryz.ntmps59;go_wp2_with fail;refine HL.out.mono ?_;rintro e w1 ⟨rfl,hs1⟩;have HS1:=ah hs1;obtain⟨_,_,V1',q1',_,_⟩:=hs1
    have c3:=q1'.c3;clear q1';go_wp2_with fail;refine (Pk HS1.out hR (by omega)).mono ?_
    rintro e w2 ⟨rfl,hs2⟩;have HS2:=ah hs2;clear hs2;obtain⟨WX,FX,VX,hX,kX,mX⟩:=HS2.out
    have HSt:=ah (jD hX);have HKX:=ah (HKA.out _ _ _ kX mX);have HwX:=ah hX.wt;have HfX:=ah hX.wf;obtain⟨aX,cX,hvX⟩:=hX.g71
    have HvX:=ah hvX;rw[hvX] at HSt;clear hX kX mX hvX;go_wp2_with fail;refine HSt.out.mono ?_;rintro e wS ⟨rfl,hoS,kS,WS,FSs,hRS,hWS,hFS,hfS⟩;have HFin:=ah (jX.mk' HKX.out HwX.out HfX.out HvX.out hoS kS hRS hWS hFS hfS);clear hoS kS hRS hWS hFS hfS;go_wp2;go_ret;exact (by rw[HE.out];exact HFin.out)
  ·have HE:Hid (R.lF=R.call.dP):=by unfold Hid;rw[HE0.out,hl,if_neg (by decide),if_pos (by simpa using s2)]
   clear HE0;go_enter Tryz.func59,Tryz.ntmps59;go_wp2_with fail;refine HL.out.mono ?_;rintro e w1 ⟨rfl,hs1⟩;have HS1:=ah hs1;obtain⟨_,_,V1',q1',_,_⟩:=hs1
   have c3:=q1'.c3;clear q1';go_wp2_with fail;refine (Iw HS1.out hR (by omega)).mono ?_
   rintro e w2 ⟨rfl,hs2⟩;have HS2:=ah hs2;clear hs2;go_wp2_with fail;refine (uZ HS2.out HGc.out.ok (Nat.le_trans HGc.out.out (by omega))).mono ?_
   rintro e w3 ⟨rfl,hs3⟩;have HS3:=ah hs3;clear hs3;obtain⟨WX,FX,VX,hX,kX,mX⟩:=HS3.out
   have HSt:=ah (jD hX);have HKX:=ah (HKA.out _ _ _ kX mX);have HwX:=ah hX.wt;have HfX:=ah hX.wf;obtain⟨aX,cX,hvX⟩:=hX.g71
   have HvX:=ah hvX;rw[hvX] at HSt;clear hX kX mX hvX;go_wp2_with fail;refine HSt.out.mono ?_;rintro e wS ⟨rfl,hoS,kS,WS,FSs,hRS,hWS,hFS,hfS⟩;have HFin:=ah (jX.mk' HKX.out HwX.out HfX.out HvX.out hoS kS hRS hWS hFS hfS);clear hoS kS hRS hWS hFS hfS;go_wp2;go_ret;exact (by rw[HE.out];exact HFin.out)
 ·rw[hl] at HL;have HE:Hid (R.lF=R.iZ):=by unfold Hid;rw[HE0.out,hl,if_pos rfl]
  clear HE0;go_enter Tryz.func59,Tryz.ntmps59;go_wp2_with fail;refine HL.out.mono ?_;rintro e w1 ⟨rfl,hs1⟩;have HS1:=ah hs1;obtain⟨_,_,V1',q1',_,_⟩:=hs1
  have c3:=q1'.c3;clear q1';go_wp2_with fail;refine (JV HS1.out hR (by omega)).mono ?_
  rintro e w2 ⟨rfl,hs2⟩;have HS2:=ah hs2;clear hs2;obtain⟨WX,FX,VX,hX,kX,mX⟩:=HS2.out
  have HSt:=ah (jD hX);have HKX:=ah (HKA.out _ _ _ kX mX);have HwX:=ah hX.wt;have HfX:=ah hX.wf;obtain⟨aX,cX,hvX⟩:=hX.g71
  have HvX:=ah hvX;rw[hvX] at HSt;clear hX kX mX hvX;go_wp2_with fail;refine HSt.out.mono ?_;rintro e wS ⟨rfl,hoS,kS,WS,FSs,hRS,hWS,hFS,hfS⟩;have HFin:=ah (jX.mk' HKX.out HwX.out HfX.out HvX.out hoS kS hRS hWS hFS hfS);clear hoS kS hRS hWS hFS hfS;go_wp2;go_ret;exact (by rw[HE.out];exact HFin.out)
theorem EJ (h:ay w b bl W F R V) (hR:Ok R) (ho:R.out=[]) :
  Calls Tryz.prog 60 #[Zp (some ⟨b,0,O⟩)] w fun e w'=>TkP w w' b bl W F R.suspect e:=by
 have HS0:=ah (Rst.refl h);have HKA:Hid (∀ wX WX FX,Kp W w wX→Mv w W F WX FX→Kp W w wX∧(∀ x∈WX,x∈W∨w.heap.size≤x)∧(∀ x∈FX,x∈F∨w.heap.size≤x)):=fun _ _ _ k m=>⟨k,m.m,m.g⟩
 have hol:R.out.length≤100000:=by rw[ho];simp
 have HE0:Hid (R.suspect=if R.carries=true∧R.view<999 then R.want (R.view+1) else R):=rfl
 have HL:=ah (tT HS0.out);have hv0:=hR.vi;have hw5:IntKind.i64.wrap (R.view+1)=R.view+1:=fC (by omega) (by omega)
 clear h ho;cases hl:R.carries
 ·rw[hl] at HL;have HE:Hid (R.suspect=R):=by unfold Hid;rw[HE0.out,hl,if_neg (fun q=>absurd q.1 (by decide))]
  clear HE0;go_enter Tryz.func60,Tryz.ntmps60;go_wp2_with fail;refine HL.out.mono ?_;rintro e w1 ⟨rfl,hs1⟩;have HS1:=ah hs1;obtain⟨_,_,V1',q1',_,_⟩:=hs1
  have c5:=q1'.c5;clear q1';obtain⟨WX,FX,VX,hX,kX,mX⟩:=HS1.out
  have HSt:=ah (jD hX);have HKX:=ah (HKA.out _ _ _ kX mX);have HwX:=ah hX.wt;have HfX:=ah hX.wf;obtain⟨aX,cX,hvX⟩:=hX.g71
  have HvX:=ah hvX;rw[hvX] at HSt;clear hX kX mX hvX;go_wp2_with fail;refine HSt.out.mono ?_;rintro e wS ⟨rfl,hoS,kS,WS,FSs,hRS,hWS,hFS,hfS⟩;have HFin:=ah (jX.mk' HKX.out HwX.out HfX.out HvX.out hoS kS hRS hWS hFS hfS);clear hoS kS hRS hWS hFS hfS;go_wp2;go_ret;exact (by rw[HE.out];exact HFin.out)
 ·rw[hl] at HL;by_cases hv:R.view<999
  focus
   have HE:Hid (R.suspect=R.want (R.view+1)):=by unfold Hid;rw[HE0.out,if_pos ⟨hl,hv⟩]
  rotate_left
  focus
   have HE:Hid (R.suspect=R):=by unfold Hid;rw[HE0.out,if_neg (fun q=>hv q.2)]
  rotate_left
  all_goals
   clear HE0;go_enter Tryz.func60,Tryz.ntmps60;go_wp2_with fail;refine HL.out.mono ?_;rintro e w1 ⟨rfl,hs1⟩;have HS1:=ah hs1;obtain⟨_,_,V1',q1',_,_⟩:=hs1
   have c5:=q1'.c5;clear q1'
  focus
   go_wp2_with fail;refine (Dy HS1.out hR (R.view+1) (by omega) (by omega)).mono ?_
   rintro e w2 ⟨rfl,hs2⟩;have HS2:=ah hs2;clear hs2;obtain⟨WX,FX,VX,hX,kX,mX⟩:=HS2.out
  rotate_left
  focus
   obtain⟨WX,FX,VX,hX,kX,mX⟩:=HS1.out
  rotate_left
  all_goals
   have HSt:=ah (jD hX);have HKX:=ah (HKA.out _ _ _ kX mX);have HwX:=ah hX.wt;have HfX:=ah hX.wf;obtain⟨aX,cX,hvX⟩:=hX.g71
   have HvX:=ah hvX;rw[hvX] at HSt;clear hX kX mX hvX;go_wp2_with fail;refine HSt.out.mono ?_;rintro e wS ⟨rfl,hoS,kS,WS,FSs,hRS,hWS,hFS,hfS⟩;have HFin:=ah (jX.mk' HKX.out HwX.out HfX.out HvX.out hoS kS hRS hWS hFS hfS);clear hoS kS hRS hWS hFS hfS;go_wp2;go_ret;exact (by rw[HE.out];exact HFin.out)
end
end Go.Proofs.YtbnihoahhomooaaGreatDoor
