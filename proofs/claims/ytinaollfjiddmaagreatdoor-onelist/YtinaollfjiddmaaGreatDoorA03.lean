import Derived.Test.YtinaollfjiddmaaGreatDoorA01
import Derived.Shelf.Lay
import Derived.Lib.QuietBelow
set_option maxRecDepth 100000
set_option maxHeartbeats 8000000
set_option linter.all false
namespace Go.Proofs.YtinaollfjiddmaaGreatDoor
open Go.Value renaming int→I,slice→Y,string→Z,pointer→Zp
open Go.Ending renaming returned→Zr
open _root_.ByteArray renaming empty→Ze
open Go.IntKind renaming i64→J
open Option renaming none→O
open Go.RowKit
theorem ah {p:Prop} (h:p):Hid p:=h
structure Sv where
 vals:List Int
 ses:List (Int×ByteArray)
def yL (l:List (Int×ByteArray)):List Value:=l.flatMap fun p=>[I J p.1,Z p.2]
def svC (S:Sv):List Value:=S.vals.map (Value.int .u8)++yL S.ses
theorem MP (l:List (Int×ByteArray)):(yL l).length=2*l.length:=by
 unfold yL;induction l with
 | nil=>rfl
 | cons a l ih=>simp only[List.flatMap_cons,List.length_append,ih,List.length_cons];simp;omega
theorem Je:∀ (l:List (Int×ByteArray)) (c:Nat) (h:c<l.length),(yL l)[2*c]? = some (I J l[c].1)∧(yL l)[2*c+1]? = some (Z l[c].2)
 | a :: l,0,_=>⟨rfl,rfl⟩
 | a :: l,c+1,h=>by
  have:=Je l c (by simpa using h)
  simp only[List.getElem_cons_succ];exact this
theorem FI:∀ (l:List (Int×ByteArray)) (c:Nat) (x:Int) (y:ByteArray),c<l.length→((yL l).set (2*c) (I J x)).set (2*c+1) (Z y)=yL (l.set c (x,y))
 | a :: l,0,x,y,_=>rfl
 | a :: l,c+1,x,y,h=>by
  have:=FI l c x y (by simpa using h)
  have e:yL (a :: l)=I J a.1 :: Z a.2 :: yL l:=rfl
  have b:yL ((a :: l).set (c+1) (x,y))=I J a.1 :: Z a.2 :: yL (l.set c (x,y)):=rfl
  rw[e,b,← this,show 2*(c+1)=2*c+1+1 by omega,show 2*c+1+1+1=(2*c+1)+1+1 by omega]
  simp only[List.set_cons_succ]
structure iy (w:World) (b:Nat) (pre post:List Value) (t:TypeId) (S:Sv):Prop where
 block:w.heap[b]? = some (.cells (pre++(svC S++post)).toArray t (0,0))
 v26:S.vals.length=26
 s9:S.ses.length=9
 small:∀ x∈S.vals,0≤x∧x<128
section
variable {w:World} {b:Nat} {pre post:List Value} {t:TypeId} {S:Sv}
theorem iy.cell (h:iy w b pre post t S) (j:Nat) (v:Value) (hj:(svC S)[j]? = some v):w.cell? ⟨b,pre.length+j,O⟩=some v:=by
 have a:=(List.getElem?_eq_some_iff.1 hj).1;simp only[World.cell?,h.block];simp only[List.getElem?_toArray];rw[List.getElem?_append_right (by omega),Nat.add_sub_cancel_left,List.getElem?_append_left a]
 exact hj
theorem iy.val (h:iy w b pre post t S) (j:Nat) (hj:j<26):w.cell? ⟨b,pre.length+j,O⟩=some (I .u8 (S.vals[j]'(by rw[h.v26];exact hj))):=by
 have a:=h.v26;refine h.cell j _ ?_;unfold svC;rw[List.getElem?_append_left (by simp;omega),List.getElem?_map,List.getElem?_eq_getElem (by omega)]
 rfl
theorem iy.ses (h:iy w b pre post t S) (c:Nat) (hc:c<9):w.cell? ⟨b,pre.length+(26+2*c),O⟩=some (I J (S.ses[c]'(by rw[h.s9];exact hc)).1)∧w.cell? ⟨b,pre.length+(26+2*c+1),O⟩=some (Z (S.ses[c]'(by rw[h.s9];exact hc)).2):=by
 have a:=h.v26;have d:=h.s9;have q:=Je S.ses c (by omega)
 constructor
 ·refine h.cell _ _ ?_;unfold svC;rw[List.getElem?_append_right (by simp;omega),← q.1]
  congr 1;simp;omega
 ·refine h.cell _ _ ?_;unfold svC;rw[List.getElem?_append_right (by simp;omega),← q.2]
  congr 1;simp;omega
theorem iy.free (h:iy w b pre post t S) (j:Nat):w.frozen? ⟨b,j,O⟩=false:=by simp[World.frozen?,h.block]
theorem iy.set (h:iy w b pre post t S) (j:Nat) (v:Value) (hj:j<(svC S).length):(w.setCell ⟨b,pre.length+j,O⟩ v).heap[b]? = some (.cells (pre++((svC S).set j v++post)).toArray t (0,0)):=by
 rw[heap_setCell_same w b _ _ _ v h.block]
 congr 2
 rw[List.setIfInBounds_toArray,List.set_append,if_neg (by omega),Nat.add_sub_cancel_left,List.set_append,if_pos hj]
theorem qB (S:Sv):(svC S).length=S.vals.length+2*S.ses.length:=by unfold svC;rw[List.length_append,List.length_map,MP]
theorem iy.Qz (h:iy w b pre post t S) (j:Nat) (hj:j<26) (x:Int) (hx:0≤x∧x<128):iy (w.setCell ⟨b,pre.length+j,O⟩ (I .u8 x)) b pre post t ⟨S.vals.set j x,S.ses⟩:=by
 have c:=h.v26;refine⟨?_,by simpa using c,h.s9,fun y a=>?_⟩
 ·rw[h.set j _ (by rw[qB];omega)]
  unfold svC;rw[List.set_append,if_pos (by simp;omega),List.map_set]
 ·rcases List.mem_or_eq_of_mem_set a with a|rfl
  ·exact h.small y a
  ·exact hx
end
def ny (c:Int):Bool:=decide (97≤c)&&decide (c≤122)
theorem CB (c:Int) (w:World):Calls Tryz.prog 53 #[I .u8 c] w fun e w'=>e=Zr (.bool (ny c))∧w'=w:=by
 have a:Hid (ny c=(decide (97≤c)&&decide (c≤122))):=rfl
 by_cases b:97≤c
 ·by_cases d:c≤122
  ·go_enter Tryz.func53,Tryz.ntmps53;go_wp2;go_ret;exact⟨bC (by rw[a.out,decide_eq_true b,decide_eq_true d];rfl),rfl⟩
  ·go_enter Tryz.func53,Tryz.ntmps53;go_wp2;go_ret;exact⟨bC (by rw[a.out,decide_eq_true b,decide_eq_false (by omega)];rfl),rfl⟩
 ·go_enter Tryz.func53,Tryz.ntmps53;go_wp2;go_ret;exact⟨bC (by rw[a.out,decide_eq_false (by omega)];rfl),rfl⟩
theorem enc1 {x:Int} (h0:0≤x) (h1:x<128):Utf8.encode x=⟨#[UInt8.ofNat x.toNat]⟩:=by
 have hv:Utf8.valid x=true:=by simp[Utf8.valid];omega
 simp only[Utf8.encode,hv];rw[if_pos (by simp;omega)]
 rfl
def mJ (x:Int):ByteArray:=⟨#[UInt8.ofNat x.toNat]⟩
def kr (S:Sv) (c:Int):Int×ByteArray:=if c<1∨9<c then (0,⟨#[]⟩) else S.ses.getD (c-1).toNat (0,⟨#[]⟩)
def bN (op:ByteArray) (k:Nat):Int:=(op.data.toList.getD k 0).toNat
def wN (S:Sv) (k:Int):ByteArray:=if ny k=true then (if (S.vals.getD (k-97).toNat 0==0)=true then ⟨#[]⟩ else mJ (S.vals.getD (k-97).toNat 0)) else ⟨#[]⟩
section
variable {w:World} {b:Nat} {pre post:List Value} {t:TypeId} {S:Sv} (h:iy w b pre post t S)
theorem Ky {w:World} {b:Nat} {pre:List Value} {post:List Value} {t:TypeId} {S:Sv} (h:iy w b pre post t S) (k:Int) (hk0:0≤k) (hk1:k≤255):Calls Tryz.prog 24 #[Zp (some ⟨b,pre.length,O⟩),I .u8 k] w fun e w'=>e=Zr (Z (wN S k))∧w'=w:=by
 have a:Hid (∀ w,Calls Tryz.prog 53 #[I .u8 k] w fun e w'=>e=Zr (.bool (ny k))∧w'=w):=fun w=>CB k w
 cases hk:ny k
 ·have d:Hid (wN S k=⟨#[]⟩):=by unfold Hid wN;rw[hk];rfl
  rw[hk] at a;generalize wN S k=r at *;go_enter Tryz.func24,Tryz.ntmps24;go_wp2_with (first|(go_at_call 53;refine (a.out _).mono ?_;rintro e w' ⟨rfl,rfl⟩)|fail)
  go_ret;exact⟨by rw[d.out];rfl,rfl⟩
 ·have f:=hk;simp[ny] at f;have i:=h.val (k-97).toNat (by omega)
  have g:=h.v26;have c:=h.small (S.vals[(k-97).toNat]'(by omega)) (List.getElem_mem _)
  have d:Hid (wN S k=if ((S.vals[(k-97).toNat]'(by omega))==0)=true then ⟨#[]⟩ else mJ (S.vals[(k-97).toNat]'(by omega))):=by
   unfold Hid wN;rw[hk];have e:S.vals.getD (k-97).toNat 0=S.vals[(k-97).toNat]'(by omega):=by simp[List.getD,show (k-97).toNat<S.vals.length by omega]
   rw[e];rfl
  generalize S.vals[(k-97).toNat]'(by omega)=x at *
  rw[hk] at a;generalize wN S k=r at *;cases hx:(x==0)
  ·go_enter Tryz.func24,Tryz.ntmps24;go_wp2_with (first|(go_at_call 53;refine (a.out _).mono ?_;rintro e w' ⟨rfl,rfl⟩)|fail)
   go_ret;exact⟨by rw[d.out,hx,enc1 c.1 c.2];rfl,rfl⟩
  ·go_enter Tryz.func24,Tryz.ntmps24;go_wp2_with (first|(go_at_call 53;refine (a.out _).mono ?_;rintro e w' ⟨rfl,rfl⟩)|fail)
   go_ret;exact⟨by rw[d.out,hx];rfl,rfl⟩
theorem yx {w:World} {b:Nat} {pre:List Value} {post:List Value} {t:TypeId} {S:Sv} (h:iy w b pre post t S) (c:Int):Calls Tryz.prog 73 #[Zp (some ⟨b,pre.length,O⟩),I J c] w fun e w'=>e=Zr (.tuple #[I J (kr S c).1,Z (kr S c).2])∧Below w.heap.size w w':=by
 by_cases a:c<1∨9<c
 ·have d:Hid (kr S c=(0,⟨#[]⟩)):=by unfold Hid kr;rw[if_pos a]
  generalize kr S c=r at *;rcases a with a|a
  ·go_enter Tryz.func73,Tryz.ntmps73;go_wp2;go_ret2;exact⟨by rw[d.out];rfl,Below.refl _ _⟩
  ·have k:¬c<1:=by omega
   go_enter Tryz.func73,Tryz.ntmps73;go_wp2;go_ret2;exact⟨by rw[d.out];rfl,Below.refl _ _⟩
 ·have l:=h.s9;obtain⟨f,g⟩:=h.ses (c-1).toNat (by omega)
  have i:pre.length+(26+2*(c-1).toNat)=pre.length+26+(c.toNat-1)*2:=by omega
  have j:pre.length+(26+2*(c-1).toNat+1)=pre.length+26+(c.toNat-1)*2+1:=by omega
  rw[i] at f;rw[j] at g;clear i j;have d:Hid (kr S c=S.ses[(c-1).toNat]'(by omega)):=by
   unfold Hid kr;rw[if_neg a];rw[List.getD,List.getElem?_eq_getElem (by omega)];rfl
  generalize S.ses[(c-1).toNat]'(by omega)=x at *
  generalize kr S c=r at *;go_enter Tryz.func73,Tryz.ntmps73;go_wp2_with fail;go_quiet (fail);go_wp2;go_ret2;exact⟨by rw[d.out];rfl,below_drewN ((Below.refl _ w).alloc (Nat.le_refl _) _) _⟩
end
def doS (v:List Int) (op:ByteArray):List Int×ByteArray :=
 if (decide (op.size<2)||!ny (b1 op))=true then (v,OKb)
 else if (b0 op==103)=true then (v,if (v.getD (b1 op-97).toNat 0==0)=true then qG else mJ (v.getD (b1 op-97).toNat 0))
 else if (b0 op==100)=true then (if (v.getD (b1 op-97).toNat 0==0)=true then (v,qG) else (v.set (b1 op-97).toNat 0,OKb))
 else if (b0 op==112)=true then (if 2<op.size then (v.set (b1 op-97).toNat (bN op 2),OKb) else (v,OKb))
 else if (b0 op==99)=true then (if (decide (op.size<4)||!(v.getD (b1 op-97).toNat 0==bN op 2))=true then (v,NOb) else (v.set (b1 op-97).toNat (bN op 3),OKb))
 else (v,OKb)
theorem P7 (v:List Int) (op:ByteArray):Hid (doS v op =
 if (decide (op.size<2)||!ny (b1 op))=true then (v,OKb)
   else if (b0 op==103)=true then (v,if (v.getD (b1 op-97).toNat 0==0)=true then qG else mJ (v.getD (b1 op-97).toNat 0))
   else if (b0 op==100)=true then (if (v.getD (b1 op-97).toNat 0==0)=true then (v,qG) else (v.set (b1 op-97).toNat 0,OKb))
   else if (b0 op==112)=true then (if 2<op.size then (v.set (b1 op-97).toNat (bN op 2),OKb) else (v,OKb))
   else if (b0 op==99)=true then (if (decide (op.size<4)||!(v.getD (b1 op-97).toNat 0==bN op 2))=true then (v,NOb) else (v.set (b1 op-97).toNat (bN op 3),OKb))
   else (v,OKb)):=rfl
theorem srvKp {w w1:World} {b j:Nat} {v:Value} (h:w1=w.setCell ⟨b,j,O⟩ v):Kp [b] w w1:=by subst h;exact (Kp.refl [b] w).set b j v (.inl (by simp))
theorem Nc (w:World) (b j:Nat) (v:Value):Kp [b] w (w.setCell ⟨b,j,O⟩ v).drew:=((Kp.refl [b] w).set b j v (.inl (by simp))).aS (Below.refl _ _).drew
theorem iy.drew {w:World} {b:Nat} {pre post:List Value} {t:TypeId} {S:Sv} (h:iy w b pre post t S):iy w.drew b pre post t S:=⟨h.block,h.v26,h.s9,h.small⟩
section
variable {w:World} {b:Nat} {pre post:List Value} {t:TypeId} {S:Sv} (h:iy w b pre post t S)
theorem QB {w:World} {b:Nat} {pre:List Value} {post:List Value} {t:TypeId} {S:Sv} (h:iy w b pre post t S) (op:ByteArray) (hs:op.size≤maxLen) (h7:∀ k,2≤k→bN op k<128):Calls Tryz.prog 168 #[Zp (some ⟨b,pre.length,O⟩),Z op] w fun e w'=>e=Zr (Z (doS S.vals op).2)∧iy w' b pre post t ⟨(doS S.vals op).1,S.ses⟩∧Kp [b] w w':=by
 have y:Hid (∀ k w,Calls Tryz.prog 53 #[I .u8 k] w fun e w'=>e=Zr (.bool (ny k))∧w'=w):=fun k w=>CB k w
 have a:=P7 S.vals op;have m:Hid (iy w b pre post t ⟨S.vals,S.ses⟩):=h
 by_cases z:op.size<2
 ·rw[decide_eq_true z] at a;simp only[Bool.true_or,if_true] at a;generalize doS S.vals op=r at *;go_enter Tryz.func168,Tryz.ntmps168;go_wp2;go_ret;exact⟨by rw[a.out];rfl,by rw[a.out];exact m.out,Kp.refl _ _⟩
 ·have D:=Ph (o:=op) (by omega)
  have l:=Pj (o:=op) (by omega)
  cases n:ny (b1 op)
  ·have d:Hid (∀ w,Calls Tryz.prog 53 #[I .u8 (op[1].toNat:Int)] w fun e w'=>e=Zr (.bool false)∧w'=w):=fun w=>by
    have:=y.out (b1 op) w;rw[n,l] at this;exact this
   rw[n] at a;simp only[Bool.not_false,Bool.or_true,if_true] at a;generalize doS S.vals op=r at *;go_enter Tryz.func168,Tryz.ntmps168;go_wp2_with (first|(go_at_call 53;refine (d.out _).mono ?_;rintro e w' ⟨rfl,rfl⟩)|fail)
   go_ret;exact⟨by rw[a.out];rfl,by rw[a.out];exact m.out,Kp.refl _ _⟩
  ·have d:Hid (∀ w,Calls Tryz.prog 53 #[I .u8 (op[1].toNat:Int)] w fun e w'=>e=Zr (.bool true)∧w'=w):=fun w=>by
    have:=y.out (b1 op) w;rw[n,l] at this;exact this
   rw[n,decide_eq_false z] at a;simp only[Bool.not_true,Bool.or_false,Bool.false_eq_true,if_false] at a;have p:=n;simp[ny] at p;rw[l] at p;have E:=op[1].toNat_lt;have A:=h.val (b1 op-97).toNat (by rw[l];omega)
   have q:=h.small (S.vals[(b1 op-97).toNat]'(by rw[h.v26,l];omega)) (List.getElem_mem _)
   have s:S.vals.getD (b1 op-97).toNat 0=S.vals[(b1 op-97).toNat]'(by rw[h.v26,l];omega):=by rw[List.getD,List.getElem?_eq_getElem (by rw[h.v26,l];omega)];rfl
   have c:=fun x g=>h.Qz (b1 op-97).toNat (by rw[l];omega) x g
   rw[s] at a;generalize S.vals[(b1 op-97).toNat]'(by rw[h.v26,l];omega)=x at *
   clear s;rw[l] at A c a;rw[D] at a;have ep:((op[1].toNat:Int)-97).toNat=op[1].toNat-97:=by omega
   rw[ep] at A c a;clear ep;have f:∀ (k:Nat) (n:k<op.size),bN op k=(op[k].toNat:Int):=fun k n=>by unfold bN;rw[atS n]
   cases q3:((op[0].toNat:Int)==103)
   ·rw[q3] at a;simp only[Bool.false_eq_true,if_false] at a;cases q0:((op[0].toNat:Int)==100)
    ·rw[q0] at a;simp only[Bool.false_eq_true,if_false] at a;cases q2:((op[0].toNat:Int)==112)
     ·rw[q2] at a;simp only[Bool.false_eq_true,if_false] at a;cases q9:((op[0].toNat:Int)==99)
      ·rw[q9] at a;simp only[Bool.false_eq_true,if_false] at a;generalize doS S.vals op=r at *;go_enter Tryz.func168,Tryz.ntmps168;go_wp2_with (first|(go_at_call 53;refine (d.out _).mono ?_;rintro e w' ⟨rfl,rfl⟩)|fail)
       go_ret;exact⟨by rw[a.out];rfl,by rw[a.out];exact m.out,Kp.refl _ _⟩
      ·rw[q9] at a;simp only[if_true] at a;by_cases B:op.size<4
       ·rw[decide_eq_true B] at a;simp only[Bool.true_or,if_true] at a;generalize doS S.vals op=r at *;go_enter Tryz.func168,Tryz.ntmps168;go_wp2_with (first|(go_at_call 53;refine (d.out _).mono ?_;rintro e w' ⟨rfl,rfl⟩)|fail)
        go_ret;exact⟨by rw[a.out];rfl,by rw[a.out];exact m.out,Kp.refl _ _⟩
       ·rw[decide_eq_false B,f 2 (by omega),f 3 (by omega)] at a
        simp only[Bool.false_or,Bool.not_eq_true'] at a;have i:=c (op[3].toNat:Int) ⟨by omega,by have:=h7 3 (by omega);rw[f 3 (by omega)] at this;exact this⟩
        clear c;have j:=ah i;clear i;cases g:(x==(op[2].toNat:Int))
        ·rw[g] at a;have v:(x != (op[2].toNat:Int))=true:=by simp[bne,g]
         simp only[if_true] at a;generalize doS S.vals op=r at *;go_enter Tryz.func168,Tryz.ntmps168;go_wp2_with (first|(go_at_call 53;refine (d.out _).mono ?_;rintro e w' ⟨rfl,rfl⟩)|fail)
         go_ret;exact⟨by rw[a.out];rfl,by rw[a.out];exact m.out,Kp.refl _ _⟩
        ·rw[g] at a;have v:(x != (op[2].toNat:Int))=false:=by simp[bne,g]
         simp only[Bool.true_eq_false,if_false] at a;have u:=h.free (pre.length+(op[1].toNat-97));generalize doS S.vals op=r at *;go_enter Tryz.func168,Tryz.ntmps168;go_wp2_with (first|(go_at_call 53;refine (d.out _).mono ?_;rintro e w' ⟨rfl,rfl⟩)|fail)
         go_region_with fail;go_wp2;go_ret;exact⟨by rw[a.out];rfl,by rw[a.out];exact j.out.drew,Nc _ _ _ _⟩
     ·rw[q2] at a;simp only[if_true] at a;by_cases C:2<op.size
      ·rw[if_pos C,f 2 (by omega)] at a
       have i:=c (op[2].toNat:Int) ⟨by omega,by have:=h7 2 (by omega);rw[f 2 (by omega)] at this;exact this⟩
       clear c;have j:=ah i;clear i;have u:=h.free (pre.length+(op[1].toNat-97));generalize doS S.vals op=r at *;go_enter Tryz.func168,Tryz.ntmps168;go_wp2_with (first|(go_at_call 53;refine (d.out _).mono ?_;rintro e w' ⟨rfl,rfl⟩)|fail)
       go_region_with fail;go_wp2;go_ret;exact⟨by rw[a.out];rfl,by rw[a.out];exact j.out.drew,Nc _ _ _ _⟩
      ·rw[if_neg C] at a;generalize doS S.vals op=r at *;go_enter Tryz.func168,Tryz.ntmps168;go_wp2_with (first|(go_at_call 53;refine (d.out _).mono ?_;rintro e w' ⟨rfl,rfl⟩)|fail)
       go_ret;exact⟨by rw[a.out];rfl,by rw[a.out];exact m.out,Kp.refl _ _⟩
    ·rw[q0] at a;simp only[if_true] at a;cases g:(x==0)
     ·rw[g] at a;simp only[Bool.false_eq_true,if_false] at a;have j:=ah (c 0 ⟨by omega,by omega⟩)
      clear c;have u:=h.free (pre.length+(op[1].toNat-97));generalize doS S.vals op=r at *;go_enter Tryz.func168,Tryz.ntmps168;go_wp2_with (first|(go_at_call 53;refine (d.out _).mono ?_;rintro e w' ⟨rfl,rfl⟩)|fail)
      go_ret;exact⟨by rw[a.out];rfl,by rw[a.out];exact j.out,srvKp rfl⟩
     ·rw[g] at a;simp only[if_true] at a;generalize doS S.vals op=r at *;go_enter Tryz.func168,Tryz.ntmps168;go_wp2_with (first|(go_at_call 53;refine (d.out _).mono ?_;rintro e w' ⟨rfl,rfl⟩)|fail)
      go_ret;exact⟨by rw[a.out];rfl,by rw[a.out];exact m.out,Kp.refl _ _⟩
   ·rw[q3] at a;simp only[if_true] at a;cases g:(x==0)
    all_goals
     rw[g] at a;generalize doS S.vals op=r at *;go_enter Tryz.func168,Tryz.ntmps168;go_wp2_with (first|(go_at_call 53;refine (d.out _).mono ?_;rintro e w' ⟨rfl,rfl⟩)|fail)
     go_ret
    ·exact⟨by rw[a.out,enc1 q.1 q.2];rfl,by rw[a.out];exact m.out,Kp.refl _ _⟩
    ·exact⟨by rw[a.out];rfl,by rw[a.out];exact m.out,Kp.refl _ _⟩
end
def zh (S:Sv) (c n:Int) (op:ByteArray):Sv:=⟨(doS S.vals op).1,S.ses.set (c-1).toNat (n,(doS S.vals op).2)⟩
theorem iy.Qw {w:World} {b:Nat} {pre post:List Value} {t:TypeId} {S:Sv} (h:iy w b pre post t S) (c:Nat) (hc:c<9) (x:Int) (y:ByteArray) :
  iy ((w.setCell ⟨b,pre.length+26+c*2,O⟩ (I J x)).setCell ⟨b,pre.length+26+c*2+1,O⟩ (Z y)) b pre post t ⟨S.vals,S.ses.set c (x,y)⟩:=by
 have a:=h.v26;have e:=h.s9;refine⟨?_,a,by simpa using e,h.small⟩
 have d:=h.set (26+2*c) (I J x) (by rw[qB];omega)
 rw[show pre.length+(26+2*c)=pre.length+26+c*2 by omega] at d
 rw[heap_setCell_same _ b _ _ _ _ d,List.setIfInBounds_toArray,List.set_append,if_neg (by omega),List.set_append,if_pos (by rw[List.length_set,qB];omega)]
 congr 3
 rw[show pre.length+26+c*2+1-pre.length=26+(2*c+1) by omega]
 unfold svC;rw[List.set_append,if_neg (by simp;omega),List.set_append,if_neg (by simp;omega)]
 rw[List.append_assoc,← FI S.ses c x y (by omega)]
 rw[List.length_map,a,show 26+2*c-26=2*c by omega,show 26+(2*c+1)-26=2*c+1 by omega,← List.append_assoc (List.map _ S.vals)]
theorem iy.kp {w w':World} {b:Nat} {pre post:List Value} {t:TypeId} {S:Sv} {X:List Nat} (h:iy w b pre post t S) (k:Kp X w w') (hX:b∉X):iy w' b pre post t S:=⟨(k.block b (lt_of_block h.block) hX).trans h.block,h.v26,h.s9,h.small⟩
theorem wm {w:World} {b:Nat} {pre post:List Value} {t:TypeId} {S:Sv} (h:iy w b pre post t S) (c n:Int) (op:ByteArray) (hs:op.size≤maxLen) (h7:∀ k,2≤k→bN op k<128) (hc1:1≤c) (hc9:c≤9) :
  Calls Tryz.prog 156 #[Zp (some ⟨b,pre.length,O⟩),qH c n op] w fun e w'=>e=Zr (Z (doS S.vals op).2)∧iy w' b pre post t (zh S c n op)∧Kp [b] w w':=by
 obtain⟨j,rfl⟩:∃ j:Nat,c=(j:Int)+1:=⟨(c-1).toNat,by omega⟩
 have v:((j:Int)+1-1).toNat=j:=by omega
 have m:Hid (∀ w,iy w b pre post t S→Calls Tryz.prog 168 #[Zp (some ⟨b,pre.length,O⟩),Z op] w fun e w'=>e=Zr (Z (doS S.vals op).2)∧iy w' b pre post t ⟨(doS S.vals op).1,S.ses⟩∧Kp [b] w w'):=fun w h=>QB h op hs h7
 unfold zh;rw[v];generalize doS S.vals op=r at *;have x:=lt_of_block h.block;have o:Kp [b] w (w.alloc (.cells #[I J ((j:Int)+1),I J n,Z op] 66)):=Kp.of_below ((Below.refl _ w).alloc (Nat.le_refl _) _)
 have p:=h.kp (X:=[]) (Kp.of_below ((Below.refl _ w).alloc (Nat.le_refl _) (.cells #[I J ((j:Int)+1),I J n,Z op] 66))) (by simp)
 have a:=heap_alloc_new w (.cells #[I J ((j:Int)+1),I J n,Z op] 66);have y:(w.alloc (.cells #[I J ((j:Int)+1),I J n,Z op] 66)).heap.size=w.heap.size+1:=by simp
 unfold qH;go_enter Tryz.func156,Tryz.ntmps156;go_wp2_with fail;generalize w.alloc (.cells #[I J ((j:Int)+1),I J n,Z op] 66)=G at *;refine (m.out _ p).mono ?_;rintro e q ⟨rfl,f,k1⟩;have g:w.heap.size∉[b]:=by simp;omega
 have d:=(k1.block w.heap.size (by omega) g).trans a
 have c0:q.cell? ⟨w.heap.size,0,O⟩=some (I J ((j:Int)+1)):=by simp[World.cell?,d]
 have c1:q.cell? ⟨w.heap.size,1,O⟩=some (I J n):=by simp[World.cell?,d]
 obtain⟨i,l⟩:=f.ses j (by omega)
 have s:pre.length+(26+2*j)=pre.length+26+j*2:=by omega
 have u:pre.length+(26+2*j+1)=pre.length+26+j*2+1:=by omega
 rw[s] at i;rw[u] at l;have H:=f.free (pre.length+26+j*2);have K:=f.free (pre.length+26+j*2+1);have z:=ah (f.Qw j (by omega) n r.2)
 have A:=ah (o.trans' k1);generalize ({ vals:=r.fst,ses:=S.ses }:Sv).ses[j]'(by have:=f.s9;omega)=old at *
 clear s u d p a f k1 m o;have B:(j:Int)<9:=by omega
 have C:j<9:=by omega
 have D:j≤8:=by omega
 have E:(j:Int)≤8:=by omega
 have F:0≤(j:Int)∧(j:Int)<9:=⟨by omega,by omega⟩
 go_wp2_with fail;go_region;go_wp2;go_ret;exact⟨rfl,z.out.drew,((A.out.set b _ _ (.inl (by simp))).set b _ _ (.inl (by simp))).aS (Below.refl _ _).drew⟩
def iM (e:Int×Int×ByteArray):ByteArray:=dg e.1++DOT++dg e.2.1++DOT++e.2.2
theorem Gc (n:Nat) (h:n≤999999999):(jI n).length≤10:=by
 have g:∀ k n,n<10 ^ (k+1)→(jI n).length≤k+1:=by
  intro k
  induction k with
  | zero=>intro n hn;unfold jI;rw[if_pos (by simpa using hn)];simp
  | succ k ih =>
   intro n hn;unfold jI
   split
   ·simp
   ·have:=ih (n / 10) (by rw[Nat.div_lt_iff_lt_mul (by omega)];rw[Nat.pow_succ] at hn;exact hn)
    simp;omega
 exact g 9 n (by omega)
theorem gu (n:Int) (h:n≤999999999):(dg n).size≤10:=by
 have:=Gc n.toNat (by omega)
 unfold dg;simpa [ByteArray.size] using this
theorem tJ (c n:Int) (op:ByteArray) (w:World) (hT:Tab w) (hc0:0≤c) (hc1:c≤999999999) (hn0:0≤n) (hn1:n≤999999999) (hs:op.size≤1000000000) :
  Calls Tryz.prog 169 #[qH c n op] w fun e w'=>e=Zr (Z (iM (c,n,op)))∧Below w.heap.size w w':=by
 have b1:=gu c hc1;have v:=gu n hn1;have p:Hid (iM (c,n,op)=dg c++⟨#[46]⟩++dg n++⟨#[46]⟩++op):=rfl
 have j:Hid (∀ w,Tab w→Calls Tryz.prog 121 #[I J c] w fun e w'=>e=Zr (Z (dg c))∧Below w.heap.size w w'):=fun w h=>iK c w h hc0 (by omega)
 have k:Hid (∀ w,Tab w→Calls Tryz.prog 121 #[I J n] w fun e w'=>e=Zr (Z (dg n))∧Below w.heap.size w w'):=fun w h=>iK n w h hn0 (by omega)
 generalize iM (c,n,op)=r at *;generalize dg c=dc at *;generalize dg n=l at *;have b:Below w.heap.size w (w.alloc (.cells #[I J c,I J n,Z op] 66)):=(Below.refl _ w).alloc (Nat.le_refl _) _
 have a:=heap_alloc_new w (.cells #[I J c,I J n,Z op] 66);have g:=hT.below b;unfold qH;go_enter Tryz.func169,Tryz.ntmps169;go_wp2_with fail;generalize w.alloc (.cells #[I J c,I J n,Z op] 66)=f at *;have x:=cell_regrown (show f.cell? ⟨w.heap.size,0,O⟩=some (I J c) by simp[World.cell?,a])
 have k1:=cell_regrown (show f.cell? ⟨w.heap.size,1,O⟩=some (I J n) by simp[World.cell?,a])
 have y:=cell_regrown (show f.cell? ⟨w.heap.size,2,O⟩=some (Z op) by simp[World.cell?,a])
 have q:=fun d m=>Calls.regrown_of (j.out _ (g.below (below_regrown f d m)))
 have s:=fun d m=>Calls.regrown_of (k.out _ (g.below (below_regrown f d m)))
 have z:¬9223372036854775807<dc.size+1:=by omega
 have A:¬9223372036854775807<dc.size+1+l.size:=by omega
 have B:¬9223372036854775807<dc.size+1+l.size+1:=by omega
 have C:¬9223372036854775807<dc.size+1+l.size+1+op.size:=by omega
 refine wp_region_quiet_below (by kernel_rfl) (by kernel_rfl) ?_
 repeat (quiet_step (first|exact q _ _|exact s _ _))
 refine wpQuiet_nil ?_;intro _ hw';obtain⟨⟨t,o⟩,i⟩:=hw'
 subst i;have u:=below_regrown f t o;go_wp2;go_ret;exact⟨by rw[p.out];rfl,b.trans (u.mono b.size)⟩
theorem Bj (v:Value) (l:List Int) (w:World) (hT:Tab w) (hv:Ints w v l) (hl:l.length≤1000) (hb:∀ x∈l,0≤x∧x≤999999999) :
  Calls Tryz.prog 159 #[v] w fun e w'=>e=Zr (Z (iC l))∧Below w.heap.size w w':=by
 obtain⟨a,A,rfl,s,K⟩:=hv.shape
 have u:Hid (∀ x∈l,∀ w,Tab w→Calls Tryz.prog 121 #[I J x] w fun e w'=>e=Zr (Z (dg x))∧Below w.heap.size w w'):=fun x q w h=>iK x w h (hb x q).1 (by have:=(hb x q).2;omega)
 have j:=nS (l.map dg) DOT 10 (by intro t ht;rw[List.mem_map] at ht;obtain⟨x,q,rfl⟩:=ht;exact gu x (hb x q).2)
 have m:DOT.size=1:=rfl
 have B:Hid (iC l=fO (l.map dg) DOT l.length):=by unfold iC qC Hid;rw[List.length_map]
 go_enter Tryz.func159,Tryz.ntmps159;go_wp2_with fail;go_loopw [3,4] (fun t i wr=>∃ k:Nat,k≤l.length∧i=I J k∧t=Z (fO (l.map dg) DOT k)∧Below w.heap.size w wr) (fun _ i _=>l.length-(intOf i).toNat)
 case atStart=>exact⟨0,Nat.zero_le _,rfl,rfl,Below.refl _ _⟩
 case round =>
  obtain⟨k,L,rfl,rfl,c⟩:=hrel
  by_cases n:k<l.length
  ·obtain⟨b,C,rfl,D,M⟩:=(hv.below c).get k n
   have E:=j k;rw[m] at E;have N:=gu l[k] (hb _ (List.getElem_mem _)).2;have o:=hT.below c;have p:Hid (∀ w,Tab w→Calls Tryz.prog 121 #[I J l[k]] w fun e w'=>e=Zr (Z (dg l[k]))∧Below w.heap.size w w'):=u.out _ (List.getElem_mem _)
   have y:Hid (fO (l.map dg) DOT (k+1)=(if 0<k then fO (l.map dg) DOT k++⟨#[46]⟩ else fO (l.map dg) DOT k)++dg l[k]):=by
    show _=_
    have e:(l.map dg).getD k Ze=dg l[k]:=by rw[List.getD,List.getElem?_map,List.getElem?_eq_getElem n];rfl
    rw[fO,e];rfl
   have F:k*11≤11000:=by omega
   clear j u m;generalize dg l[k]=d at *;generalize hg:fO (l.map dg) DOT k=g at *;clear hg;by_cases z:0<k
   ·have P:¬9223372036854775807<g.size+1:=by omega
    have G:¬9223372036854775807<g.size+1+d.size:=by omega
    go_wp2_with (first|(go_at_call 121;refine (p.out _ o).mono ?_;rintro e H ⟨rfl,f⟩)|fail)
    go_roundw
    case rel=>exact⟨k+1,by omega,by go_num,by rw[y.out,if_pos z],c.trans (f.mono c.size)⟩
    case measure=>simp[intOf];omega
   ·have G:¬9223372036854775807<g.size+d.size:=by omega
    go_wp2_with (first|(go_at_call 121;refine (p.out _ o).mono ?_;rintro e H ⟨rfl,f⟩)|fail)
    go_roundw
    case rel=>exact⟨k+1,by omega,by go_num,by rw[y.out,if_neg z],c.trans (f.mono c.size)⟩
    case measure=>simp[intOf];omega
  ·have r:k=l.length:=by omega
   subst r;go_wp2;go_ret;exact⟨jV (by rw[B.out]),c⟩
def kP (l:List Int):Nat→ByteArray
 | 0=>⟨#[]⟩
 | k+1=>kP l k++dg (l.getD k 0)
def lC (l:List Int):ByteArray:=kP l l.length
theorem zm (l:List Int) (hL:∀ t∈l,t≤999999999):∀ k,(kP l k).size≤k*10
 | 0=>by simp[kP,ByteArray.size]
 | k+1=>by
  have ih:=zm l hL k;have a:(dg (l.getD k 0)).size≤10:=by
   by_cases h:k<l.length
   ·have e:l.getD k 0=l[k]:=by simp[List.getD,h]
    rw[e];exact gu _ (hL _ (List.getElem_mem _))
   ·rw[List.getD,List.getElem?_eq_none (by omega)];exact gu 0 (by omega)
  unfold kP;rw[Nat.succ_mul];simp only[ByteArray.size_append];omega
theorem tK (v:Value) (l:List Int) (w:World) (hT:Tab w) (hv:Ints w v l) (hl:l.length≤1000) (hb:∀ x∈l,0≤x∧x≤999999999) :
  Calls Tryz.prog 180 #[v] w fun e w'=>e=Zr (Z (lC l))∧Below w.heap.size w w':=by
 obtain⟨a,u,rfl,r,C⟩:=hv.shape
 have s:Hid (∀ x∈l,∀ w,Tab w→Calls Tryz.prog 121 #[I J x] w fun e w'=>e=Zr (Z (dg x))∧Below w.heap.size w w'):=fun x m w h=>iK x w h (hb x m).1 (by have:=(hb x m).2;omega)
 have f:=zm l (fun x m=>(hb x m).2)
 have y:Hid (lC l=kP l l.length):=rfl
 go_enter Tryz.func180,Tryz.ntmps180;go_wp2_with fail;go_loopw [3,4] (fun t i wr=>∃ k:Nat,k≤l.length∧i=I J k∧t=Z (kP l k)∧Below w.heap.size w wr) (fun _ i _=>l.length-(intOf i).toNat)
 case atStart=>exact⟨0,Nat.zero_le _,rfl,rfl,Below.refl _ _⟩
 case round =>
  obtain⟨k,D,rfl,rfl,c⟩:=hrel
  by_cases j:k<l.length
  ·obtain⟨b,z,rfl,A,E⟩:=(hv.below c).get k j
   have F:=f k;have G:=gu l[k] (hb _ (List.getElem_mem _)).2;have n:=hT.below c;have o:Hid (∀ w,Tab w→Calls Tryz.prog 121 #[I J l[k]] w fun e w'=>e=Zr (Z (dg l[k]))∧Below w.heap.size w w'):=s.out _ (List.getElem_mem _)
   have B:Hid (kP l (k+1)=kP l k++dg l[k]):=by
    have e:l.getD k 0=l[k]:=by simp[List.getD,j]
    unfold Hid;rw[kP,e]
   clear f s;generalize dg l[k]=d at *;generalize hg:kP l k=g at *;clear hg;have H:¬9223372036854775807<g.size+d.size:=by omega
   go_wp2_with (first|(go_at_call 121;refine (o.out _ n).mono ?_;rintro e K ⟨rfl,p⟩)|fail)
   go_roundw
   case rel=>exact⟨k+1,by omega,by go_num,by rw[B.out],c.trans (p.mono c.size)⟩
   case measure=>simp[intOf];omega
  ·have q:k=l.length:=by omega
   subst q;go_wp2;go_ret;exact⟨jV (by rw[y.out]),c⟩
end Go.Proofs.YtinaollfjiddmaaGreatDoor
