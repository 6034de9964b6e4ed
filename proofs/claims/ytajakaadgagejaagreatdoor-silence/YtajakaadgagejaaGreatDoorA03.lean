import Derived.Test.YtajakaadgagejaaGreatDoorA01
import Derived.Shelf.Lay
import Derived.Lib.QuietBelow
set_option maxRecDepth 100000
set_option maxHeartbeats 8000000
set_option linter.unusedVariables false
set_option linter.unusedSimpArgs false
set_option linter.unusedSectionVars false
namespace Go.Proofs.YtajakaadgagejaaGreatDoor
open Go.Value renaming int→I,slice→Y,string→Z,pointer→Zp
open Go.Ending renaming returned→Zr
open _root_.ByteArray renaming empty→Ze
open Go.IntKind renaming i64→J
open Option renaming none→O
open Go.RowKit
def Kl (N:Nd) (c:Int):Nat→Nat
 | 0=>0
 | j+1=>Kl N c j+if ((CO N.group j != N.id)&&decide (c≤N.acks.getD (CO N.group j).toNat 0))=true then 1 else 0
def Kk (N:Nd):Nat→Int
 | 0=>N.commit
 | f+1=>if N.group.size≤2*Kl N (N.commit+(f+1:Nat)) N.group.size+1 then N.commit+(f+1:Nat) else Kk N f
def Hq (N:Nd) (q:Nat) (k:Int):Nd:=if N.acks.getD q 0<k then { N with acks:=N.acks.set q k } else N
def lC (N:Nd) (m:Sd):Nd×List (Int×ByteArray) :=
 if (N.log.length:Int)<nmB m then (N,[])
 else Ia (Hq N m.frm.toNat (nmB m)) (Kk (Hq N m.frm.toNat (nmB m)) (N.log.length-N.commit).toNat)
def RB:ByteArray:=⟨#[114]⟩
theorem uR:∀ (n:Nat) (l:List Int),l.Nodup→(∀ x∈l,0≤x∧x<n)→l.length≤n
 | 0,l,_,h=>by
  cases l with
  | nil=>simp
  | cons a l=>have:=h a (by simp);omega
 | n+1,l,hd,h=>by
  have h1:=uR n (l.filter (fun x=>decide (x<(n:Int)))) (hd.sublist List.filter_sublist) (fun x hx=>by
   rw[List.mem_filter] at hx;have:=h x hx.1
   have h2:x<(n:Int):=by simpa using hx.2
   omega)
  have h2:l.length≤(l.filter (fun x=>decide (x<(n:Int)))).length+1:=by
   have e:=List.length_eq_countP_add_countP (fun x=>decide (x<(n:Int))) (l:=l)
   rw[List.countP_eq_length_filter] at e;have e2:l.countP (fun a=>decide (¬(decide (a<(n:Int)))=true))≤1:=by
    have e3:l.countP (fun a=>decide (¬(decide (a<(n:Int)))=true))=l.count (n:Int):=by
     rw[List.count];apply List.countP_congr
     intro x hx;have:=h x hx
     simp
     omega
    rw[e3];exact List.nodup_iff_count.1 hd _
   omega
  omega
theorem ah {p:Prop} (h:p):Hid p:=h
structure Sv where
 vals:List Int
 ses:List (Int×ByteArray)
def vQ (l:List (Int×ByteArray)):List Value:=l.flatMap fun p=>[I J p.1,Z p.2]
def svC (S:Sv):List Value:=S.vals.map (Value.int .u8)++vQ S.ses
theorem Jb (l:List (Int×ByteArray)):(vQ l).length=2*l.length:=by
 unfold vQ;induction l with
 | nil=>rfl
 | cons a l ih=>simp only[List.flatMap_cons,List.length_append,ih,List.length_cons];simp;omega
theorem E9:∀ (l:List (Int×ByteArray)) (c:Nat) (h:c<l.length),(vQ l)[2*c]? = some (I J l[c].1)∧(vQ l)[2*c+1]? = some (Z l[c].2)
 | a :: l,0,_=>⟨rfl,rfl⟩
 | a :: l,c+1,h=>by
  have:=E9 l c (by simpa using h)
  simp only[List.getElem_cons_succ];exact this
theorem Dj:∀ (l:List (Int×ByteArray)) (c:Nat) (x:Int) (y:ByteArray),c<l.length→((vQ l).set (2*c) (I J x)).set (2*c+1) (Z y)=vQ (l.set c (x,y))
 | a :: l,0,x,y,_=>rfl
 | a :: l,c+1,x,y,h=>by
  have:=Dj l c x y (by simpa using h)
  have e:vQ (a :: l)=I J a.1 :: Z a.2 :: vQ l:=rfl
  have e2:vQ ((a :: l).set (c+1) (x,y))=I J a.1 :: Z a.2 :: vQ (l.set c (x,y)):=rfl
  rw[e,e2,← this,show 2*(c+1)=2*c+1+1 by omega,show 2*c+1+1+1=(2*c+1)+1+1 by omega]
  simp only[List.set_cons_succ]
structure gH (w:World) (b:Nat) (pre post:List Value) (t:TypeId) (S:Sv):Prop where
 block:w.heap[b]? = some (.cells (pre++(svC S++post)).toArray t (0,0))
 v26:S.vals.length=26
 s9:S.ses.length=9
 small:∀ x∈S.vals,0≤x∧x<128
section
variable {w:World} {b:Nat} {pre post:List Value} {t:TypeId} {S:Sv}
theorem gH.cell (h:gH w b pre post t S) (j:Nat) (v:Value) (hj:(svC S)[j]? = some v):w.cell? ⟨b,pre.length+j,O⟩=some v:=by
 have hl:=(List.getElem?_eq_some_iff.1 hj).1;simp only[World.cell?,h.block];simp only[List.getElem?_toArray];rw[List.getElem?_append_right (by omega),Nat.add_sub_cancel_left,List.getElem?_append_left hl]
 exact hj
theorem gH.val (h:gH w b pre post t S) (j:Nat) (hj:j<26):w.cell? ⟨b,pre.length+j,O⟩=some (I .u8 (S.vals[j]'(by rw[h.v26];exact hj))):=by
 have hv:=h.v26;refine h.cell j _ ?_;unfold svC;rw[List.getElem?_append_left (by simp;omega),List.getElem?_map,List.getElem?_eq_getElem (by omega)]
 rfl
theorem gH.ses (h:gH w b pre post t S) (c:Nat) (hc:c<9):w.cell? ⟨b,pre.length+(26+2*c),O⟩=some (I J (S.ses[c]'(by rw[h.s9];exact hc)).1)∧w.cell? ⟨b,pre.length+(26+2*c+1),O⟩=some (Z (S.ses[c]'(by rw[h.s9];exact hc)).2):=by
 have hv:=h.v26;have hs:=h.s9;have q:=E9 S.ses c (by omega)
 constructor
 ·refine h.cell _ _ ?_;unfold svC;rw[List.getElem?_append_right (by simp;omega),← q.1]
  congr 1;simp;omega
 ·refine h.cell _ _ ?_;unfold svC;rw[List.getElem?_append_right (by simp;omega),← q.2]
  congr 1;simp;omega
theorem gH.free (h:gH w b pre post t S) (j:Nat):w.frozen? ⟨b,j,O⟩=false:=by simp[World.frozen?,h.block]
theorem gH.set (h:gH w b pre post t S) (j:Nat) (v:Value) (hj:j<(svC S).length):(w.setCell ⟨b,pre.length+j,O⟩ v).heap[b]? = some (.cells (pre++((svC S).set j v++post)).toArray t (0,0)):=by
 rw[heap_setCell_same w b _ _ _ v h.block]
 congr 2
 rw[List.setIfInBounds_toArray,List.set_append,if_neg (by omega),Nat.add_sub_cancel_left,List.set_append,if_pos hj]
theorem oz (S:Sv):(svC S).length=S.vals.length+2*S.ses.length:=by unfold svC;rw[List.length_append,List.length_map,Jb]
theorem gH.Lr (h:gH w b pre post t S) (j:Nat) (hj:j<26) (x:Int) (hx:0≤x∧x<128):gH (w.setCell ⟨b,pre.length+j,O⟩ (I .u8 x)) b pre post t ⟨S.vals.set j x,S.ses⟩:=by
 have hv:=h.v26;refine⟨?_,by simpa using hv,h.s9,fun y hy=>?_⟩
 ·rw[h.set j _ (by rw[oz];omega)]
  unfold svC;rw[List.set_append,if_pos (by simp;omega),List.map_set]
 ·rcases List.mem_or_eq_of_mem_set hy with hy|rfl
  ·exact h.small y hy
  ·exact hx
end
def lJ (c:Int):Bool:=decide (97≤c)&&decide (c≤122)
theorem Af (c:Int) (w:World):Calls Tryz.prog 54 #[I .u8 c] w fun e w'=>e=Zr (.bool (lJ c))∧w'=w:=by
 have HD:Hid (lJ c=(decide (97≤c)&&decide (c≤122))):=rfl
 by_cases h1:97≤c
 ·by_cases h2:c≤122
  ·go_enter Tryz.func54,Tryz.ntmps54;go_wp2_with fail;go_ret;exact⟨aS (by rw[HD.out,decide_eq_true h1,decide_eq_true h2];rfl),rfl⟩
  ·go_enter Tryz.func54,Tryz.ntmps54;go_wp2_with fail;go_ret;exact⟨aS (by rw[HD.out,decide_eq_true h1,decide_eq_false (by omega)];rfl),rfl⟩
 ·go_enter Tryz.func54,Tryz.ntmps54;go_wp2_with fail;go_ret;exact⟨aS (by rw[HD.out,decide_eq_false (by omega)];rfl),rfl⟩
theorem enc1 {x:Int} (h0:0≤x) (h1:x<128):Utf8.encode x=⟨#[UInt8.ofNat x.toNat]⟩:=by
 have hv:Utf8.valid x=true:=by simp[Utf8.valid];omega
 simp only[Utf8.encode,hv];rw[if_pos (by simp;omega)]
 rfl
def yu (x:Int):ByteArray:=⟨#[UInt8.ofNat x.toNat]⟩
def jZ (S:Sv) (c:Int):Int×ByteArray:=if c<1∨9<c then (0,⟨#[]⟩) else S.ses.getD (c-1).toNat (0,⟨#[]⟩)
def bN (op:ByteArray) (k:Nat):Int:=(op.data.toList.getD k 0).toNat
def tH (S:Sv) (k:Int):ByteArray:=if lJ k=true then (if (S.vals.getD (k-97).toNat 0==0)=true then ⟨#[]⟩ else yu (S.vals.getD (k-97).toNat 0)) else ⟨#[]⟩
section
variable {w:World} {b:Nat} {pre post:List Value} {t:TypeId} {S:Sv} (h:gH w b pre post t S)
theorem GZ {w:World} {b:Nat} {pre:List Value} {post:List Value} {t:TypeId} {S:Sv} (h:gH w b pre post t S) (k:Int) (hk0:0≤k) (hk1:k≤255):Calls Tryz.prog 25 #[Zp (some ⟨b,pre.length,O⟩),I .u8 k] w fun e w'=>e=Zr (Z (tH S k))∧w'=w:=by
 have HK:Hid (∀ w,Calls Tryz.prog 54 #[I .u8 k] w fun e w'=>e=Zr (.bool (lJ k))∧w'=w):=fun w=>Af k w
 cases hk:lJ k
 ·have HV:Hid (tH S k=⟨#[]⟩):=by unfold Hid tH;rw[hk];rfl
  rw[hk] at HK;generalize tH S k=r at *;go_enter Tryz.func25,Tryz.ntmps25;go_wp2_with (first|(go_at_call 54;refine (HK.out _).mono ?_;rintro e w' ⟨rfl,rfl⟩)|fail)
  go_ret;exact⟨by rw[HV.out];rfl,rfl⟩
 ·have hk2:=hk;simp[lJ] at hk2;have hv:=h.val (k-97).toNat (by omega)
  have hv26:=h.v26;have hsm:=h.small (S.vals[(k-97).toNat]'(by omega)) (List.getElem_mem _)
  have HV:Hid (tH S k=if ((S.vals[(k-97).toNat]'(by omega))==0)=true then ⟨#[]⟩ else yu (S.vals[(k-97).toNat]'(by omega))):=by
   unfold Hid tH;rw[hk];have e:S.vals.getD (k-97).toNat 0=S.vals[(k-97).toNat]'(by omega):=by simp[List.getD,show (k-97).toNat<S.vals.length by omega]
   rw[e];rfl
  generalize S.vals[(k-97).toNat]'(by omega)=x at *
  rw[hk] at HK;generalize tH S k=r at *;cases hx:(x==0)
  ·go_enter Tryz.func25,Tryz.ntmps25;go_wp2_with (first|(go_at_call 54;refine (HK.out _).mono ?_;rintro e w' ⟨rfl,rfl⟩)|fail)
   go_ret;exact⟨by rw[HV.out,hx,enc1 hsm.1 hsm.2];rfl,rfl⟩
  ·go_enter Tryz.func25,Tryz.ntmps25;go_wp2_with (first|(go_at_call 54;refine (HK.out _).mono ?_;rintro e w' ⟨rfl,rfl⟩)|fail)
   go_ret;exact⟨by rw[HV.out,hx];rfl,rfl⟩
theorem uU {w:World} {b:Nat} {pre:List Value} {post:List Value} {t:TypeId} {S:Sv} (h:gH w b pre post t S) (c:Int):Calls Tryz.prog 74 #[Zp (some ⟨b,pre.length,O⟩),I J c] w fun e w'=>e=Zr (.tuple #[I J (jZ S c).1,Z (jZ S c).2])∧Below w.heap.size w w':=by
 by_cases hc:c<1∨9<c
 ·have HV:Hid (jZ S c=(0,⟨#[]⟩)):=by unfold Hid jZ;rw[if_pos hc]
  generalize jZ S c=r at *;rcases hc with hc|hc
  ·go_enter Tryz.func74,Tryz.ntmps74;go_wp2_with fail;go_ret2;exact⟨by rw[HV.out];rfl,Below.refl _ _⟩
  ·have hc1:¬c<1:=by omega
   go_enter Tryz.func74,Tryz.ntmps74;go_wp2_with fail;go_ret2;exact⟨by rw[HV.out];rfl,Below.refl _ _⟩
 ·have h9:=h.s9;obtain⟨hv1,hv2⟩:=h.ses (c-1).toNat (by omega)
  have e1:pre.length+(26+2*(c-1).toNat)=pre.length+26+(c.toNat-1)*2:=by omega
  have e2:pre.length+(26+2*(c-1).toNat+1)=pre.length+26+(c.toNat-1)*2+1:=by omega
  rw[e1] at hv1;rw[e2] at hv2;clear e1 e2;have HV:Hid (jZ S c=S.ses[(c-1).toNat]'(by omega)):=by
   unfold Hid jZ;rw[if_neg hc];rw[List.getD,List.getElem?_eq_getElem (by omega)];rfl
  generalize S.ses[(c-1).toNat]'(by omega)=x at *
  generalize jZ S c=r at *;go_enter Tryz.func74,Tryz.ntmps74;go_wp2_with fail;go_quiet (fail);go_wp2_with fail;go_ret2;exact⟨by rw[HV.out];rfl,below_drewN ((Below.refl _ w).alloc (Nat.le_refl _) _) _⟩
end
def doS (v:List Int) (op:ByteArray):List Int×ByteArray :=
 if (decide (op.size<2)||!lJ (b1 op))=true then (v,OKb)
 else if (b0 op==103)=true then (v,if (v.getD (b1 op-97).toNat 0==0)=true then oI else yu (v.getD (b1 op-97).toNat 0))
 else if (b0 op==100)=true then (if (v.getD (b1 op-97).toNat 0==0)=true then (v,oI) else (v.set (b1 op-97).toNat 0,OKb))
 else if (b0 op==112)=true then (if 2<op.size then (v.set (b1 op-97).toNat (bN op 2),OKb) else (v,OKb))
 else if (b0 op==99)=true then (if (decide (op.size<4)||!(v.getD (b1 op-97).toNat 0==bN op 2))=true then (v,NOb) else (v.set (b1 op-97).toNat (bN op 3),OKb))
 else (v,OKb)
theorem KX (v:List Int) (op:ByteArray):Hid (doS v op =
 if (decide (op.size<2)||!lJ (b1 op))=true then (v,OKb)
   else if (b0 op==103)=true then (v,if (v.getD (b1 op-97).toNat 0==0)=true then oI else yu (v.getD (b1 op-97).toNat 0))
   else if (b0 op==100)=true then (if (v.getD (b1 op-97).toNat 0==0)=true then (v,oI) else (v.set (b1 op-97).toNat 0,OKb))
   else if (b0 op==112)=true then (if 2<op.size then (v.set (b1 op-97).toNat (bN op 2),OKb) else (v,OKb))
   else if (b0 op==99)=true then (if (decide (op.size<4)||!(v.getD (b1 op-97).toNat 0==bN op 2))=true then (v,NOb) else (v.set (b1 op-97).toNat (bN op 3),OKb))
   else (v,OKb)):=rfl
theorem srvKp {w w1:World} {b j:Nat} {v:Value} (h:w1=w.setCell ⟨b,j,O⟩ v):Kp [b] w w1:=by subst h;exact (Kp.refl [b] w).set b j v (.inl (by simp))
theorem Jj (w:World) (b j:Nat) (v:Value):Kp [b] w (w.setCell ⟨b,j,O⟩ v).drew:=((Kp.refl [b] w).set b j v (.inl (by simp))).aF (Below.refl _ _).drew
theorem gH.drew {w:World} {b:Nat} {pre post:List Value} {t:TypeId} {S:Sv} (h:gH w b pre post t S):gH w.drew b pre post t S:=⟨h.block,h.v26,h.s9,h.small⟩
section
variable {w:World} {b:Nat} {pre post:List Value} {t:TypeId} {S:Sv} (h:gH w b pre post t S)
theorem Ls {w:World} {b:Nat} {pre:List Value} {post:List Value} {t:TypeId} {S:Sv} (h:gH w b pre post t S) (op:ByteArray) (hs:op.size≤maxLen) (h7:∀ k,2≤k→bN op k<128):Calls Tryz.prog 169 #[Zp (some ⟨b,pre.length,O⟩),Z op] w fun e w'=>e=Zr (Z (doS S.vals op).2)∧gH w' b pre post t ⟨(doS S.vals op).1,S.ses⟩∧Kp [b] w w':=by
 have HK:Hid (∀ k w,Calls Tryz.prog 54 #[I .u8 k] w fun e w'=>e=Zr (.bool (lJ k))∧w'=w):=fun k w=>Af k w
 have HD:=KX S.vals op;have H0:Hid (gH w b pre post t ⟨S.vals,S.ses⟩):=h
 by_cases h2:op.size<2
 ·rw[decide_eq_true h2] at HD;simp only[Bool.true_or,if_true] at HD;generalize doS S.vals op=r at *;go_enter Tryz.func169,Tryz.ntmps169;go_wp2_with fail;go_ret;exact⟨by rw[HD.out];rfl,by rw[HD.out];exact H0.out,Kp.refl _ _⟩
 ·have g0:=Kn (o:=op) (by omega)
  have g1:=Ko (o:=op) (by omega)
  cases hk:lJ (b1 op)
  ·have HK1:Hid (∀ w,Calls Tryz.prog 54 #[I .u8 (op[1].toNat:Int)] w fun e w'=>e=Zr (.bool false)∧w'=w):=fun w=>by
    have:=HK.out (b1 op) w;rw[hk,g1] at this;exact this
   rw[hk] at HD;simp only[Bool.not_false,Bool.or_true,if_true] at HD;generalize doS S.vals op=r at *;go_enter Tryz.func169,Tryz.ntmps169;go_wp2_with (first|(go_at_call 54;refine (HK1.out _).mono ?_;rintro e w' ⟨rfl,rfl⟩)|fail)
   go_ret;exact⟨by rw[HD.out];rfl,by rw[HD.out];exact H0.out,Kp.refl _ _⟩
  ·have HK1:Hid (∀ w,Calls Tryz.prog 54 #[I .u8 (op[1].toNat:Int)] w fun e w'=>e=Zr (.bool true)∧w'=w):=fun w=>by
    have:=HK.out (b1 op) w;rw[hk,g1] at this;exact this
   rw[hk,decide_eq_false h2] at HD;simp only[Bool.not_true,Bool.or_false,Bool.false_eq_true,if_false] at HD;have hk2:=hk;simp[lJ] at hk2;rw[g1] at hk2;have hb:=op[1].toNat_lt;have hv:=h.val (b1 op-97).toNat (by rw[g1];omega)
   have hsm:=h.small (S.vals[(b1 op-97).toNat]'(by rw[h.v26,g1];omega)) (List.getElem_mem _)
   have hgd:S.vals.getD (b1 op-97).toNat 0=S.vals[(b1 op-97).toNat]'(by rw[h.v26,g1];omega):=by rw[List.getD,List.getElem?_eq_getElem (by rw[h.v26,g1];omega)];rfl
   have hset:=fun x hx=>h.Lr (b1 op-97).toNat (by rw[g1];omega) x hx
   rw[hgd] at HD;generalize S.vals[(b1 op-97).toNat]'(by rw[h.v26,g1];omega)=x at *
   clear hgd;rw[g1] at hv hset HD;rw[g0] at HD;have ep:((op[1].toNat:Int)-97).toNat=op[1].toNat-97:=by omega
   rw[ep] at hv hset HD;clear ep;have hbn2:∀ (k:Nat) (hk:k<op.size),bN op k=(op[k].toNat:Int):=fun k hk=>by unfold bN;rw[atS hk]
   cases q3:((op[0].toNat:Int)==103)
   ·rw[q3] at HD;simp only[Bool.false_eq_true,if_false] at HD;cases q0:((op[0].toNat:Int)==100)
    ·rw[q0] at HD;simp only[Bool.false_eq_true,if_false] at HD;cases q2:((op[0].toNat:Int)==112)
     ·rw[q2] at HD;simp only[Bool.false_eq_true,if_false] at HD;cases q9:((op[0].toNat:Int)==99)
      ·rw[q9] at HD;simp only[Bool.false_eq_true,if_false] at HD;generalize doS S.vals op=r at *;go_enter Tryz.func169,Tryz.ntmps169;go_wp2_with (first|(go_at_call 54;refine (HK1.out _).mono ?_;rintro e w' ⟨rfl,rfl⟩)|fail)
       go_ret;exact⟨by rw[HD.out];rfl,by rw[HD.out];exact H0.out,Kp.refl _ _⟩
      ·rw[q9] at HD;simp only[if_true] at HD;by_cases h4:op.size<4
       ·rw[decide_eq_true h4] at HD;simp only[Bool.true_or,if_true] at HD;generalize doS S.vals op=r at *;go_enter Tryz.func169,Tryz.ntmps169;go_wp2_with (first|(go_at_call 54;refine (HK1.out _).mono ?_;rintro e w' ⟨rfl,rfl⟩)|fail)
        go_ret;exact⟨by rw[HD.out];rfl,by rw[HD.out];exact H0.out,Kp.refl _ _⟩
       ·rw[decide_eq_false h4,hbn2 2 (by omega),hbn2 3 (by omega)] at HD
        simp only[Bool.false_or,Bool.not_eq_true'] at HD;have hs3:=hset (op[3].toNat:Int) ⟨by omega,by have:=h7 3 (by omega);rw[hbn2 3 (by omega)] at this;exact this⟩
        clear hset;have HS3:=ah hs3;clear hs3;cases hx:(x==(op[2].toNat:Int))
        ·rw[hx] at HD;have hx2:(x != (op[2].toNat:Int))=true:=by simp[bne,hx]
         simp only[if_true] at HD;generalize doS S.vals op=r at *;go_enter Tryz.func169,Tryz.ntmps169;go_wp2_with (first|(go_at_call 54;refine (HK1.out _).mono ?_;rintro e w' ⟨rfl,rfl⟩)|fail)
         go_ret;exact⟨by rw[HD.out];rfl,by rw[HD.out];exact H0.out,Kp.refl _ _⟩
        ·rw[hx] at HD;have hx2:(x != (op[2].toNat:Int))=false:=by simp[bne,hx]
         simp only[Bool.true_eq_false,if_false] at HD;have hfz:=h.free (pre.length+(op[1].toNat-97));generalize doS S.vals op=r at *;go_enter Tryz.func169,Tryz.ntmps169;go_wp2_with (first|(go_at_call 54;refine (HK1.out _).mono ?_;rintro e w' ⟨rfl,rfl⟩)|fail)
         go_region_with fail;go_wp2_with fail;go_ret;exact⟨by rw[HD.out];rfl,by rw[HD.out];exact HS3.out.drew,Jj _ _ _ _⟩
     ·rw[q2] at HD;simp only[if_true] at HD;by_cases h3:2<op.size
      ·rw[if_pos h3,hbn2 2 (by omega)] at HD
       have hs3:=hset (op[2].toNat:Int) ⟨by omega,by have:=h7 2 (by omega);rw[hbn2 2 (by omega)] at this;exact this⟩
       clear hset;have HS3:=ah hs3;clear hs3;have hfz:=h.free (pre.length+(op[1].toNat-97));generalize doS S.vals op=r at *;go_enter Tryz.func169,Tryz.ntmps169;go_wp2_with (first|(go_at_call 54;refine (HK1.out _).mono ?_;rintro e w' ⟨rfl,rfl⟩)|fail)
       go_region_with fail;go_wp2_with fail;go_ret;exact⟨by rw[HD.out];rfl,by rw[HD.out];exact HS3.out.drew,Jj _ _ _ _⟩
      ·rw[if_neg h3] at HD;generalize doS S.vals op=r at *;go_enter Tryz.func169,Tryz.ntmps169;go_wp2_with (first|(go_at_call 54;refine (HK1.out _).mono ?_;rintro e w' ⟨rfl,rfl⟩)|fail)
       go_ret;exact⟨by rw[HD.out];rfl,by rw[HD.out];exact H0.out,Kp.refl _ _⟩
    ·rw[q0] at HD;simp only[if_true] at HD;cases hx:(x==0)
     ·rw[hx] at HD;simp only[Bool.false_eq_true,if_false] at HD;have HS3:=ah (hset 0 ⟨by omega,by omega⟩)
      clear hset;have hfz:=h.free (pre.length+(op[1].toNat-97));generalize doS S.vals op=r at *;go_enter Tryz.func169,Tryz.ntmps169;go_wp2_with (first|(go_at_call 54;refine (HK1.out _).mono ?_;rintro e w' ⟨rfl,rfl⟩)|fail)
      go_ret;exact⟨by rw[HD.out];rfl,by rw[HD.out];exact HS3.out,srvKp rfl⟩
     ·rw[hx] at HD;simp only[if_true] at HD;generalize doS S.vals op=r at *;go_enter Tryz.func169,Tryz.ntmps169;go_wp2_with (first|(go_at_call 54;refine (HK1.out _).mono ?_;rintro e w' ⟨rfl,rfl⟩)|fail)
      go_ret;exact⟨by rw[HD.out];rfl,by rw[HD.out];exact H0.out,Kp.refl _ _⟩
   ·rw[q3] at HD;simp only[if_true] at HD;cases hx:(x==0)
    ·rw[hx] at HD;generalize doS S.vals op=r at *;go_enter Tryz.func169,Tryz.ntmps169;go_wp2_with (first|(go_at_call 54;refine (HK1.out _).mono ?_;rintro e w' ⟨rfl,rfl⟩)|fail)
     go_ret;exact⟨by rw[HD.out,enc1 hsm.1 hsm.2];rfl,by rw[HD.out];exact H0.out,Kp.refl _ _⟩
    ·rw[hx] at HD;generalize doS S.vals op=r at *;go_enter Tryz.func169,Tryz.ntmps169;go_wp2_with (first|(go_at_call 54;refine (HK1.out _).mono ?_;rintro e w' ⟨rfl,rfl⟩)|fail)
     go_ret;exact⟨by rw[HD.out];rfl,by rw[HD.out];exact H0.out,Kp.refl _ _⟩
end
def kg (e:Int×Int×ByteArray):ByteArray:=dg e.1++DOT++dg e.2.1++DOT++e.2.2
theorem Dy (n:Nat) (h:n≤999999999):(jR n).length≤10:=by
 have g:∀ k n,n<10 ^ (k+1)→(jR n).length≤k+1:=by
  intro k
  induction k with
  | zero=>intro n hn;unfold jR;rw[if_pos (by simpa using hn)];simp
  | succ k ih =>
   intro n hn;unfold jR
   split
   ·simp
   ·have:=ih (n / 10) (by rw[Nat.div_lt_iff_lt_mul (by omega)];rw[Nat.pow_succ] at hn;exact hn)
    simp;omega
 exact g 9 n (by omega)
theorem eZ (n:Int) (h:n≤999999999):(dg n).size≤10:=by
 have:=Dy n.toNat (by omega)
 unfold dg;simpa [ByteArray.size] using this
theorem qQ (c n:Int) (op:ByteArray) (w:World) (hT:Tab w) (hc0:0≤c) (hc1:c≤999999999) (hn0:0≤n) (hn1:n≤999999999) (hs:op.size≤1000000000) :
  Calls Tryz.prog 170 #[oK c n op] w fun e w'=>e=Zr (Z (kg (c,n,op)))∧Below w.heap.size w w':=by
 have b1:=eZ c hc1;have b2:=eZ n hn1;have HE:Hid (kg (c,n,op)=dg c++⟨#[46]⟩++dg n++⟨#[46]⟩++op):=rfl
 have HIc:Hid (∀ w,Tab w→Calls Tryz.prog 122 #[I J c] w fun e w'=>e=Zr (Z (dg c))∧Below w.heap.size w w'):=fun w h=>gT c w h hc0 (by omega)
 have HIn:Hid (∀ w,Tab w→Calls Tryz.prog 122 #[I J n] w fun e w'=>e=Zr (Z (dg n))∧Below w.heap.size w w'):=fun w h=>gT n w h hn0 (by omega)
 generalize kg (c,n,op)=r at *;generalize dg c=dc at *;generalize dg n=dn at *;have hbA:Below w.heap.size w (w.alloc (.cells #[I J c,I J n,Z op] 66)):=(Below.refl _ w).alloc (Nat.le_refl _) _
 have hnew:=heap_alloc_new w (.cells #[I J c,I J n,Z op] 66);have hTA:=hT.below hbA;unfold oK;go_enter Tryz.func170,Tryz.ntmps170;go_wp2_with fail;generalize w.alloc (.cells #[I J c,I J n,Z op] 66)=wA at *;have k0:=cell_regrown (show wA.cell? ⟨w.heap.size,0,O⟩=some (I J c) by simp[World.cell?,hnew])
 have k1:=cell_regrown (show wA.cell? ⟨w.heap.size,1,O⟩=some (I J n) by simp[World.cell?,hnew])
 have k2:=cell_regrown (show wA.cell? ⟨w.heap.size,2,O⟩=some (Z op) by simp[World.cell?,hnew])
 have cC:=fun d os=>Calls.regrown_of (HIc.out _ (hTA.below (below_regrown wA d os)))
 have cN:=fun d os=>Calls.regrown_of (HIn.out _ (hTA.below (below_regrown wA d os)))
 have n1:¬9223372036854775807<dc.size+1:=by omega
 have n2:¬9223372036854775807<dc.size+1+dn.size:=by omega
 have n3:¬9223372036854775807<dc.size+1+dn.size+1:=by omega
 have n4:¬9223372036854775807<dc.size+1+dn.size+1+op.size:=by omega
 refine wp_region_quiet_below (by kernel_rfl) (by kernel_rfl) ?_
 repeat (quiet_step (first|exact cC _ _|exact cN _ _))
 refine wpQuiet_nil ?_;intro _ hw';obtain⟨⟨dq,osq⟩,hw''⟩:=hw'
 subst hw'';have hq:=below_regrown wA dq osq;go_wp2_with fail;go_ret;exact⟨by rw[HE.out];rfl,hbA.trans (hq.mono hbA.size)⟩
theorem yZ (v:Value) (l:List Int) (w:World) (hT:Tab w) (hv:Ints w v l) (hl:l.length≤1000) (hb:∀ x∈l,0≤x∧x≤999999999) :
  Calls Tryz.prog 160 #[v] w fun e w'=>e=Zr (Z (kr l))∧Below w.heap.size w w':=by
 obtain⟨a,cap,rfl,hcap,hm⟩:=hv.shape
 have HI:Hid (∀ x∈l,∀ w,Tab w→Calls Tryz.prog 122 #[I J x] w fun e w'=>e=Zr (Z (dg x))∧Below w.heap.size w w'):=fun x hx w h=>gT x w h (hb x hx).1 (by have:=(hb x hx).2;omega)
 have hsz:=mh (l.map dg) DOT 10 (by intro t ht;rw[List.mem_map] at ht;obtain⟨x,hx,rfl⟩:=ht;exact eZ x (hb x hx).2)
 have hdz:DOT.size=1:=rfl
 have HL:Hid (kr l=iw (l.map dg) DOT l.length):=by unfold kr xG Hid;rw[List.length_map]
 go_enter Tryz.func160,Tryz.ntmps160;go_wp2_with fail;go_loopw [3,4] (fun t i wr=>∃ k:Nat,k≤l.length∧i=I J k∧t=Z (iw (l.map dg) DOT k)∧Below w.heap.size w wr) (fun _ i _=>l.length-(intOf i).toNat)
 case atStart=>exact⟨0,Nat.zero_le _,rfl,rfl,Below.refl _ _⟩
 case round =>
  obtain⟨k,hk,rfl,rfl,hbw⟩:=hrel
  by_cases hlt:k<l.length
  ·obtain⟨b,off,rfl,hbs,hc⟩:=(hv.below hbw).get k hlt
   have hs:=hsz k;rw[hdz] at hs;have hd:=eZ l[k] (hb _ (List.getElem_mem _)).2;have hTr:=hT.below hbw;have HIk:Hid (∀ w,Tab w→Calls Tryz.prog 122 #[I J l[k]] w fun e w'=>e=Zr (Z (dg l[k]))∧Below w.heap.size w w'):=HI.out _ (List.getElem_mem _)
   have HH:Hid (iw (l.map dg) DOT (k+1)=(if 0<k then iw (l.map dg) DOT k++⟨#[46]⟩ else iw (l.map dg) DOT k)++dg l[k]):=by
    show _=_
    have e:(l.map dg).getD k Ze=dg l[k]:=by rw[List.getD,List.getElem?_map,List.getElem?_eq_getElem hlt];rfl
    rw[iw,e];rfl
   have hkm:k*11≤11000:=by omega
   clear hsz HI hdz;generalize dg l[k]=d at *;generalize hg:iw (l.map dg) DOT k=g at *;clear hg;by_cases h0:0<k
   ·have n1:¬9223372036854775807<g.size+1:=by omega
    have n2:¬9223372036854775807<g.size+1+d.size:=by omega
    go_wp2_with (first|(go_at_call 122;refine (HIk.out _ hTr).mono ?_;rintro e w1 ⟨rfl,hb1⟩)|fail)
    go_roundw
    case rel=>exact⟨k+1,by omega,by go_num,by rw[HH.out,if_pos h0],hbw.trans (hb1.mono hbw.size)⟩
    case measure=>simp[intOf];omega
   ·have n2:¬9223372036854775807<g.size+d.size:=by omega
    go_wp2_with (first|(go_at_call 122;refine (HIk.out _ hTr).mono ?_;rintro e w1 ⟨rfl,hb1⟩)|fail)
    go_roundw
    case rel=>exact⟨k+1,by omega,by go_num,by rw[HH.out,if_neg h0],hbw.trans (hb1.mono hbw.size)⟩
    case measure=>simp[intOf];omega
  ·have hke:k=l.length:=by omega
   subst hke;go_wp2_with fail;go_ret;exact⟨je (by rw[HL.out]),hbw⟩
def oU (l:List Int):Nat→ByteArray
 | 0=>⟨#[]⟩
 | k+1=>oU l k++dg (l.getD k 0)
def uY (l:List Int):ByteArray:=oU l l.length
theorem wU (l:List Int) (hL:∀ t∈l,t≤999999999):∀ k,(oU l k).size≤k*10
 | 0=>by simp[oU,ByteArray.size]
 | k+1=>by
  have ih:=wU l hL k;have hk:(dg (l.getD k 0)).size≤10:=by
   by_cases h:k<l.length
   ·have e:l.getD k 0=l[k]:=by simp[List.getD,h]
    rw[e];exact eZ _ (hL _ (List.getElem_mem _))
   ·rw[List.getD,List.getElem?_eq_none (by omega)];exact eZ 0 (by omega)
  unfold oU;rw[Nat.succ_mul];simp only[ByteArray.size_append];omega
theorem qR (v:Value) (l:List Int) (w:World) (hT:Tab w) (hv:Ints w v l) (hl:l.length≤1000) (hb:∀ x∈l,0≤x∧x≤999999999) :
  Calls Tryz.prog 181 #[v] w fun e w'=>e=Zr (Z (uY l))∧Below w.heap.size w w':=by
 obtain⟨a,cap,rfl,hcap,hm⟩:=hv.shape
 have HI:Hid (∀ x∈l,∀ w,Tab w→Calls Tryz.prog 122 #[I J x] w fun e w'=>e=Zr (Z (dg x))∧Below w.heap.size w w'):=fun x hx w h=>gT x w h (hb x hx).1 (by have:=(hb x hx).2;omega)
 have hsz:=wU l (fun x hx=>(hb x hx).2)
 have HL:Hid (uY l=oU l l.length):=rfl
 go_enter Tryz.func181,Tryz.ntmps181;go_wp2_with fail;go_loopw [3,4] (fun t i wr=>∃ k:Nat,k≤l.length∧i=I J k∧t=Z (oU l k)∧Below w.heap.size w wr) (fun _ i _=>l.length-(intOf i).toNat)
 case atStart=>exact⟨0,Nat.zero_le _,rfl,rfl,Below.refl _ _⟩
 case round =>
  obtain⟨k,hk,rfl,rfl,hbw⟩:=hrel
  by_cases hlt:k<l.length
  ·obtain⟨b,off,rfl,hbs,hc⟩:=(hv.below hbw).get k hlt
   have hs:=hsz k;have hd:=eZ l[k] (hb _ (List.getElem_mem _)).2;have hTr:=hT.below hbw;have HIk:Hid (∀ w,Tab w→Calls Tryz.prog 122 #[I J l[k]] w fun e w'=>e=Zr (Z (dg l[k]))∧Below w.heap.size w w'):=HI.out _ (List.getElem_mem _)
   have HH:Hid (oU l (k+1)=oU l k++dg l[k]):=by
    have e:l.getD k 0=l[k]:=by simp[List.getD,hlt]
    unfold Hid;rw[oU,e]
   clear hsz HI;generalize dg l[k]=d at *;generalize hg:oU l k=g at *;clear hg;have n2:¬9223372036854775807<g.size+d.size:=by omega
   go_wp2_with (first|(go_at_call 122;refine (HIk.out _ hTr).mono ?_;rintro e w1 ⟨rfl,hb1⟩)|fail)
   go_roundw
   case rel=>exact⟨k+1,by omega,by go_num,by rw[HH.out],hbw.trans (hb1.mono hbw.size)⟩
   case measure=>simp[intOf];omega
  ·have hke:k=l.length:=by omega
   subst hke;go_wp2_with fail;go_ret;exact⟨je (by rw[HL.out]),hbw⟩
theorem IU {op:ByteArray} (h:dh op.data.toList=true):2≤op.size∧lJ (b1 op)=true∧(∀ k,2≤k→k<op.size→48≤bN op k∧bN op k<128)∧((b0 op=103∧op.size=2)∨(b0 op=100∧op.size=2)∨(b0 op=112∧op.size=3)∨(b0 op=99∧op.size=4)):=by
 have h2:2≤op.size:=by
  unfold dh at h;simp only[Bool.and_eq_true,decide_eq_true_eq] at h;have:=h.1.1;simpa using this
 rw[xL op h2] at h;simp only[Bool.and_eq_true,List.all_eq_true,beq_iff_eq,Bool.not_eq_true',beq_eq_false_iff_ne] at h;obtain⟨hw,⟨hl,hv⟩,hs⟩:=h
 refine⟨h2,?_,fun k hk hk2=>?_,?_⟩
 ·rw[Ko (by omega)];exact hl
 ·have hm:op[k]∈op.data.toList.drop 2:=by
   rw[List.mem_iff_getElem?];refine⟨k-2,?_⟩
   rw[List.getElem?_drop,show 2+(k-2)=k by omega,List.getElem?_eq_getElem (by simpa using hk2)]
   rfl
  have q:=hv _ hm;rw[xM] at q;unfold bN;rw[atS hk2];simp[l8,ig] at q;omega
 ·have q:=Fp op[0];rw[Kn (by omega)]
  unfold fM at hs hw;have hb:∀ c:UInt8,op[0]=c→(op[0].toNat:Int)=(c.toNat:Int):=fun c hc=>by rw[hc]
  split at hs
  ·rename_i hc;exact .inl ⟨by rw[hb _ hc];rfl,hs⟩
  ·split at hs
   ·rename_i hc;exact .inr (.inl ⟨by rw[hb _ hc];rfl,hs⟩)
   ·split at hs
    ·rename_i hc;exact .inr (.inr (.inl ⟨by rw[hb _ hc];rfl,hs⟩))
    ·split at hs
     ·rename_i hc;exact .inr (.inr (.inr ⟨by rw[hb _ hc];rfl,hs⟩))
     ·omega
theorem JV {op:ByteArray} {n:Int} (h:lD op.data.toList n=true) (hr:dh op.data.toList=false):b0 op=114∧2≤op.size∧lJ (b1 op)=false∧∀ k,2≤k→bN op k<128:=by
 unfold lD at h
 split at h
 ·rename_i hh;have hl:=jH h;rw[List.length_drop] at hl;have hsz:op.data.toList.length=op.size:=by simp
  have hd:∀ k,1≤k→k<op.size→48≤bN op k∧bN op k≤57:=fun k hk hk2=>by
   have q:=(pz h (k-1) (by rw[List.length_drop];omega)).1
   rw[xZ] at q;have e:(op.data.toList.drop 1).getD (k-1) 0=op.data.toList.getD k 0:=by
    simp only[List.getD,List.getElem?_drop];rw[show 1+(k-1)=k by omega]
   rw[e] at q;unfold bN
   split at q
   ·rename_i hg;simp only[ig,Bool.and_eq_true,decide_eq_true_eq] at hg;omega
   ·omega
  have h0:b0 op=114:=by
   unfold b0;rw[List.getD,← List.head?_eq_getElem?,hh];rfl
  refine⟨h0,by omega,?_,fun k hk=>?_⟩
  ·have:=hd 1 (by omega) (by omega)
   unfold bN at this;simp[lJ];unfold b1;omega
  ·by_cases hk2:k<op.size
   ·have:=hd k (by omega) hk2;omega
   ·unfold bN;rw[List.getD,List.getElem?_eq_none (by omega)];decide
 ·rw[h] at hr;simp at hr
theorem IV {op:ByteArray} {n:Int} (h:lD op.data.toList n=true) (k:Nat) (hk:2≤k):bN op k<128:=by
 cases ho:dh op.data.toList
 ·exact (JV h ho).2.2.2 k hk
 ·by_cases hk2:k<op.size
  ·exact ((IU ho).2.2.1 k hk hk2).2
  ·unfold bN;rw[List.getD,List.getElem?_eq_none (by simp;omega)];decide
end Go.Proofs.YtajakaadgagejaaGreatDoor
