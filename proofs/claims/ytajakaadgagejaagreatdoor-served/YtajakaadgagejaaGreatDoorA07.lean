import Derived.Test.YtajakaadgagejaaGreatDoorA06
import Derived.Deep.MidRow
set_option maxRecDepth 100000
set_option maxHeartbeats 8000000
set_option linter.unusedVariables false
set_option linter.unusedSimpArgs false
set_option linter.unusedSectionVars false
namespace Go.Proofs.YtajakaadgagejaaGreatDoor
open Go.Value renaming int→I,slice→Y,string→Z,pointer→Zp
open Go.Ending renaming returned→Zr
open _root_.ByteArray renaming empty→Ze
open Go.IntKind renaming i64→J
open Option renaming none→O
open Go.RowKit
def lK (c n:Int):Int:=(if c<0 then -(c+1) else c).tmod n
theorem zQ (c:Int) (n:Nat) (hn:0<n):0≤lK c n∧lK c n<n:=by
 unfold lK
 split
 ·exact⟨Int.tmod_nonneg _ (by omega),Int.tmod_lt_of_pos _ (by omega)⟩
 ·exact⟨Int.tmod_nonneg _ (by omega),Int.tmod_lt_of_pos _ (by omega)⟩
theorem dz (c:Int) (n:Nat) (w:World) (hc0 : -9223372036854775808≤c) (hc1:c≤9223372036854775807) (hn:0<n) (hn1:n≤9223372036854775807):Calls Tryz.prog 13 #[I J c,I J n] w fun e w'=>e=Zr (I J (lK c n))∧w'=w:=by
 have hb:=zQ c n hn;have HP:Hid (lK c n=(if c<0 then -(c+1) else c).tmod n):=rfl
 have hz:((n:Int)==0)=false:=by simp;omega
 by_cases h:c<0
 ·have HP1:Hid (lK c n=(-(c+1)).tmod n):=by rw[HP.out,if_pos h];trivial
  have b1:0≤(-(c+1)).tmod n∧(-(c+1)).tmod n<n:=by rw[← HP1.out];exact hb
  generalize lK c n=r at *;go_enter Tryz.func13,Tryz.ntmps13;go_wp2_with fail;go_ret;exact⟨by rw[HP1.out,Int.neg_tmod];rfl,rfl⟩
 ·have HP1:Hid (lK c n=c.tmod n):=by rw[HP.out,if_neg h];trivial
  have b1:0≤c.tmod n∧c.tmod n<n:=by rw[← HP1.out];exact hb
  generalize lK c n=r at *;go_enter Tryz.func13,Tryz.ntmps13;go_wp2_with fail;go_ret;exact⟨by rw[HP1.out,Int.tmod_eq_emod_of_nonneg (by omega)];rfl,rfl⟩
theorem Ci (n:Nat):∀ (w:World),n≤1000000 →
  Calls Tryz.prog 31 #[I J n] w fun e w'=>e=Zr (Z ⟨(jR n).toArray⟩)∧Below w.heap.size w w':=by
 induction n using Nat.strongRecOn with
 | ind n ih =>
 intro w hn;have hcv:=H8;by_cases h:n<10
 ·clear ih;go_enter Tryz.func31,Tryz.ntmps31;go_wp2_with fail;go_ret;exact⟨je (by rw[sj h]),(Below.refl _ _).alloc (Nat.le_refl _) _⟩
 ·have IH:Hid (∀ (w:World),(n / 10)≤1000000 →
   Calls Tryz.prog 31 #[I J (n / 10:Nat)] w fun e w'=>e=Zr (Z ⟨(jR (n / 10)).toArray⟩)∧Below w.heap.size w w'):=(ih (n / 10) (by omega))
  clear ih;go_enter Tryz.func31,Tryz.ntmps31;go_wp2_with fail;refine (IH.out _ (by omega)).mono ?_
  rintro e w1 ⟨rfl,hb⟩;have hl:=Ih (n / 10);generalize hx:jR (n / 10)=x at *;have Hx:Hid (jR (n / 10)=x):=hx
  clear hx;go_wp2_with fail;go_ret;refine⟨je ?_,hb.trans (((Below.refl _ w1).alloc (Nat.le_refl _) _).mono hb.size)⟩
  rw[EH h,Hx.out,Fq,UInt8.ofNat_add];rfl
theorem fJ (c:Int) (w:World) (h0:0≤c) (h1:c≤1000000):Calls Tryz.prog 31 #[I J c] w fun e w'=>e=Zr (Z (dg c))∧Below w.heap.size w w':=by
 obtain⟨k,rfl⟩:=Int.eq_ofNat_of_zero_le h0
 exact Ci k w (by omega)
theorem nK (s:ByteArray) (q:Int) (w:World) (hs:s.size≤1000000000) :
  Calls Tryz.prog 56 #[Z s,I J q] w fun e w'=>∃ b,e=Zr (.bool b)∧w'=w:=by
 go_enter Tryz.func56,Tryz.ntmps56;go_wp2_with fail;go_loopw [5] (fun i wr=>∃ k:Nat,k≤s.size∧i=I J k∧wr=w) (fun i _=>s.size-(intOf i).toNat)
 case atStart=>exact⟨0,Nat.zero_le _,rfl,rfl⟩
 case round =>
  obtain⟨k,hk,rfl,hbw⟩:=hrel
  subst hbw;by_cases hlt:k<s.size
  ·have j1:(0:Int)≤(k:Int):=by omega
   have j2:(k:Int)<(s.size:Int):=by omega
   go_wp2_with fail
   ·go_ret;exact⟨_,rfl,rfl⟩
   ·go_roundw
    case rel=>exact⟨k+1,by omega,by go_num,trivial⟩
    case measure=>simp[intOf];omega
  ·go_wp2_with fail;go_ret;exact⟨_,rfl,rfl⟩
def txt (l:List Int):ByteArray:=l.foldl (fun t x=>t++dg x) Ze
theorem Ij (l:List Int) (h:∀ x∈l,x≤999999999):∀ t:ByteArray,(l.foldl (fun t x=>t++dg x) t).size≤t.size+10*l.length:=by
 induction l with
 | nil=>intro t;simp
 | cons a l ih =>
  intro t;have:=ih (fun x hx=>h x (by simp[hx])) (t++dg a)
  have b:=eZ a (h a (by simp))
  simp only[List.foldl_cons,List.length_cons,ByteArray.size_append] at *;omega
theorem EC (l:List Int) (h:∀ x∈l,x≤999999999):(txt l).size≤10*l.length:=by
 have:=Ij l h Ze
 simpa [txt] using this
theorem tZ (v:Value) (l:List Int) (w:World) (hv:Ints w v l) (hl:l.length≤1000) (hb:∀ x∈l,0≤x∧x≤1000000) :
  Calls Tryz.prog 107 #[v] w fun e w'=>e=Zr (Z (txt l))∧Below w.heap.size w w':=by
 obtain⟨a,cap,rfl,hcap,hm⟩:=hv.shape
 have HS:Hid (∀ k,(txt (l.take k)).size≤10000):=fun k=>by
  have:=EC (l.take k) (fun x hx=>by have:=(hb x (List.mem_of_mem_take hx)).2;omega)
  have:=List.length_take_le k l
  have:=List.length_take_le' k l
  omega
 have HN:Hid (∀ k,(h:k<l.length)→∀ w,Calls Tryz.prog 31 #[I J l[k]] w fun e w'=>e=Zr (Z (dg l[k]))∧Below w.heap.size w w'):=fun k h w=>fJ _ w (hb _ (List.getElem_mem h)).1 (hb _ (List.getElem_mem h)).2
 have HD:Hid (∀ k,(h:k<l.length)→(dg l[k]).size≤10):=fun k h=>eZ _ (by have:=(hb _ (List.getElem_mem h)).2;omega)
 have HT:Hid (∀ k,(h:k<l.length)→txt (l.take (k+1))=txt (l.take k)++dg l[k]):=fun k h=>by
  rw[List.take_succ_eq_append_getElem h];unfold txt;rw[List.foldl_append]
  rfl
 have HZ:Hid (txt (l.take 0)=⟨#[]⟩):=rfl
 go_enter Tryz.func107,Tryz.ntmps107;go_wp2_with fail;go_loopw [3,4] (fun t i wr=>∃ k:Nat,k≤l.length∧i=I J k∧t=Z (txt (l.take k))∧Below w.heap.size w wr) (fun _ i _=>l.length-(intOf i).toNat)
 case atStart=>exact⟨0,Nat.zero_le _,rfl,rfl,Below.refl _ _⟩
 case round =>
  obtain⟨k,hk,rfl,rfl,hbw⟩:=hrel
  by_cases hlt:k<l.length
  ·obtain⟨b1,o1,rfl,_,c1⟩:=(hv.below hbw).get k hlt
   have j1:(0:Int)≤(k:Int):=by omega
   have j2:(k:Int)<(l.length:Int):=by omega
   have s1:=HS.out k;have s2:=HD.out k hlt;have HQ:=ah (HN.out k hlt);have HE:=ah (HT.out k hlt);generalize l[k]=x at *;generalize dg x=d at *;generalize txt (l.take k)=t at *;have n1:¬9223372036854775807<t.size+d.size:=by omega
   go_wp2_with fail;refine (HQ.out _).mono ?_;rintro e w1 ⟨rfl,hb1⟩;go_wp2_with fail;go_roundw
   case rel=>exact⟨k+1,by omega,by go_num,by rw[HE.out],hbw.trans (hb1.mono hbw.size)⟩
   case measure=>simp[intOf];omega
  ·have hkl:k=l.length:=by omega
   have HF:Hid (txt (l.take k)=txt l):=by rw[hkl,List.take_length];trivial
   go_wp2_with fail;go_ret;exact⟨by rw[HF.out];rfl,hbw⟩
theorem DY (v:Value) (l:List (Int×Int×ByteArray)) (w:World) (hv:gu w v l) (hb:∀ x∈l,0<x.2.2.size) :
  Calls Tryz.prog 108 #[v] w fun e w'=>∃ m:Nat,e=Zr (I J m)∧m≤l.length∧Below w.heap.size w w':=by
 obtain⟨a,cap,rfl,hcap,hm⟩:=hv.shape
 have HB:Hid (∀ k,(h:k<l.length)→0<(l[k].2.2).size):=fun k h=>hb _ (List.getElem_mem h)
 go_enter Tryz.func108,Tryz.ntmps108;go_wp2_with fail;go_loopw [3,4] (fun t i wr=>∃ k m:Nat,m≤k∧k≤l.length∧i=I J k∧t=I J m∧Below w.heap.size w wr) (fun _ i _=>l.length-(intOf i).toNat)
 case atStart=>exact⟨0,0,Nat.le_refl _,Nat.zero_le _,rfl,rfl,Below.refl _ _⟩
 case round =>
  obtain⟨k,m,hmk,hk,rfl,rfl,hbw⟩:=hrel
  by_cases hlt:k<l.length
  ·obtain⟨b1,o1,rfl,_,c1,c2,c3⟩:=(hv.below hbw).get k hlt
   have j1:(0:Int)≤(k:Int):=by omega
   have j2:(k:Int)<(l.length:Int):=by omega
   have s1:=HB.out k hlt;clear HB;generalize l[k].2.2=op at *;go_wp2_with fail
   ·go_roundw
    case rel=>exact⟨k+1,m+1,by omega,by omega,by go_num,by go_num,hbw⟩
    case measure=>simp[intOf];omega
   ·go_roundw
    case rel=>exact⟨k+1,m,by omega,by omega,by go_num,rfl,hbw⟩
    case measure=>simp[intOf];omega
  ·go_wp2_with fail;go_ret;exact⟨m,rfl,by omega,hbw⟩
def jh (s:ByteArray) (lo hi:Nat) (w w':World) (e:Ending):Prop:=∃ b,e=Zr (.bool b)∧(b=true→lo≤s.size∧s.size≤hi)∧w'=w
theorem jh.no {s:ByteArray} {lo hi:Nat} (w:World):jh s lo hi w w (Zr (.bool false)):=⟨false,rfl,fun h=>by simp at h,rfl⟩
theorem jh.any {s:ByteArray} {lo hi:Nat} (b:Bool) (w:World) (h:b=true→lo≤s.size∧s.size≤hi):jh s lo hi w w (Zr (.bool b)):=⟨b,rfl,h,rfl⟩
theorem yX (s:ByteArray) (w:World) (hs:s.size≤1000000000) :
  Calls Tryz.prog 28 #[Z s] w fun e w'=>jh s 1 8 w w' e:=by
 go_enter Tryz.func28,Tryz.ntmps28;go_wp2_with fail;go_loopw [3] (fun i wr=>∃ k:Nat,k≤s.size∧i=I J k∧wr=w) (fun i _=>s.size-(intOf i).toNat)
 case atStart=>exact⟨0,Nat.zero_le _,rfl,rfl⟩
 case round =>
  obtain⟨k,hk,rfl,hbw⟩:=hrel
  subst hbw;by_cases hlt:k<s.size
  ·have j1:(0:Int)≤(k:Int):=by omega
   have j2:(k:Int)<(s.size:Int):=by omega
   by_cases h1:(s[k].toNat:Int)<48
   ·go_wp2_with fail;go_ret;exact jh.no _
   ·by_cases h2:(57:Int)<(s[k].toNat:Int)
    ·go_wp2_with fail;go_ret;exact jh.no _
    ·go_wp2_with fail;go_roundw
     case rel=>exact⟨k+1,by omega,by go_num,trivial⟩
     case measure=>simp[intOf];omega
  ·by_cases h0:(0:Int)<(s.size:Int)
   ·by_cases h8:(s.size:Int)≤8
    ·go_wp2_with fail;go_ret;exact jh.any true _ (fun _=>⟨by omega,by omega⟩)
    ·go_wp2_with fail;go_ret;exact jh.no _
   ·go_wp2_with fail;go_ret;exact jh.no _
theorem Gb (s:ByteArray) (w:World) (hs:s.size≤1000000000) :
  Calls Tryz.prog 26 #[Z s] w fun e w'=>jh s 2 4 w w' e:=by
 by_cases h2:(s.size:Int)<2
 ·go_enter Tryz.func26,Tryz.ntmps26;go_wp2_with fail;go_ret;exact jh.no _
 have z1:(1:Int)<(s.size:Int):=by omega
 have z0:(0:Int)<(s.size:Int):=by omega
 by_cases ha:(s[1].toNat:Int)<97
 ·go_enter Tryz.func26,Tryz.ntmps26;go_wp2_with fail;go_ret;exact jh.no _
 by_cases hz:(122:Int)<(s[1].toNat:Int)
 ·go_enter Tryz.func26,Tryz.ntmps26;go_wp2_with fail;go_ret;exact jh.no _
 go_enter Tryz.func26,Tryz.ntmps26;go_wp2_with fail;go_loopw [3] (fun i wr=>∃ k:Nat,k≤s.size∧i=I J k∧wr=w) (fun i _=>s.size-(intOf i).toNat)
 case atStart=>exact⟨2,by omega,rfl,rfl⟩
 case round =>
  obtain⟨k,hk,rfl,hbw⟩:=hrel
  subst hbw;by_cases hlt:k<s.size
  ·have j1:(0:Int)≤(k:Int):=by omega
   have j2:(k:Int)<(s.size:Int):=by omega
   by_cases g1:(48:Int)≤(s[k].toNat:Int)
   ·by_cases g2:(s[k].toNat:Int)≤57
    ·go_wp2_with fail;go_roundw
     case rel=>exact⟨k+1,by omega,by go_num,trivial⟩
     case measure=>simp[intOf];omega
    ·by_cases g3:(97:Int)≤(s[k].toNat:Int)
     ·by_cases g4:(s[k].toNat:Int)≤122
      ·go_wp2_with fail;go_roundw
       case rel=>exact⟨k+1,by omega,by go_num,trivial⟩
       case measure=>simp[intOf];omega
      ·go_wp2_with fail;go_ret;exact jh.no _
     ·go_wp2_with fail;go_ret;exact jh.no _
   ·have g3:¬(97:Int)≤(s[k].toNat:Int):=by omega
    go_wp2_with fail;go_ret;exact jh.no _
  ·have e1:Hid (∀ m:Nat,2≤m→m≤4→jh s 2 4 wr wr (Zr (.bool ((s.size:Int)==m)))):=fun m hm hm4=>jh.any _ _ (fun h=>by have:=beq_iff_eq.1 h;omega)
   by_cases h1:(s[0].toNat:Int)=103
   ·have h1:((s[0].toNat:Int)==103)=true:=beq_iff_eq.2 h1
    go_wp2_with fail;go_ret;exact e1.out 2 (by omega) (by omega)
   have h1:((s[0].toNat:Int)==103)=false:=beq_eq_false_iff_ne.2 h1
   by_cases h3:(s[0].toNat:Int)=100
   ·have h3:((s[0].toNat:Int)==100)=true:=beq_iff_eq.2 h3
    go_wp2_with fail;go_ret;exact e1.out 2 (by omega) (by omega)
   have h3:((s[0].toNat:Int)==100)=false:=beq_eq_false_iff_ne.2 h3
   by_cases h4:(s[0].toNat:Int)=112
   ·have h4:((s[0].toNat:Int)==112)=true:=beq_iff_eq.2 h4
    go_wp2_with fail;go_ret;exact e1.out 3 (by omega) (by omega)
   have h4:((s[0].toNat:Int)==112)=false:=beq_eq_false_iff_ne.2 h4
   by_cases h5:(s[0].toNat:Int)=99
   ·have h5:((s[0].toNat:Int)==99)=true:=beq_iff_eq.2 h5
    go_wp2_with fail;go_ret;exact e1.out 4 (by omega) (by omega)
   have h5:((s[0].toNat:Int)==99)=false:=beq_eq_false_iff_ne.2 h5
   go_wp2_with fail;go_ret;exact jh.no _
theorem qU (v:Value) (l:List Int) (vi:Int) (w:World) (hv:Ints w v l) (hl:l.length≤1000) (h9:vi≤999999) :
  Calls Tryz.prog 129 #[v,I J vi] w fun e w'=>e=Zr (I J (oG l vi))∧w'=w:=by
 obtain⟨a,cap,rfl,_,_⟩:=hv.shape
 by_cases h0:l.length=0
 ·have HZ:Hid (oG l vi = -1):=by unfold Hid oG;rw[if_pos (.inl h0)]
  have h0':l=[]:=List.eq_nil_of_length_eq_zero h0
  subst h0';go_enter Tryz.func129,Tryz.ntmps129;go_wp2_with fail;go_ret;exact⟨mH HZ.out.symm,rfl⟩
 ·have h0':¬(l.length:Int)=0:=by omega
  have h0'':¬l=[]:=fun hc=>h0 (by rw[hc];rfl)
  by_cases h1:vi<0
  ·have HZ:Hid (oG l vi = -1):=by unfold Hid oG;rw[if_pos (.inr h1)]
   go_enter Tryz.func129,Tryz.ntmps129;go_wp2_with fail;go_ret;exact⟨mH HZ.out.symm,rfl⟩
  ·obtain⟨k,rfl⟩:∃ k:Nat,vi=k:=⟨vi.toNat,by omega⟩
   have hmod:k % l.length<l.length:=Nat.mod_lt _ (by omega)
   have e0:(k:Int).tmod (l.length:Int)=((k % l.length:Nat):Int):=by
    rw[Int.tmod_eq_emod_of_nonneg (by omega)]
    exact (Int.natCast_emod k l.length).symm
   have e1:IntKind.i64.wrap ((k:Int).tmod (l.length:Int))=((k % l.length:Nat):Int):=by rw[e0];exact eB (by omega) (by omega)
   have HZ:Hid (oG l k=l[k % l.length]):=by
    unfold Hid oG;rw[if_neg (by omega),show ((k:Int) % (l.length:Int))=((k % l.length:Nat):Int) from (Int.natCast_emod k l.length).symm,Int.toNat_natCast,List.getD_eq_getElem?_getD,List.getElem?_eq_getElem hmod]
    rfl
   obtain⟨b,o,rfl,_,c⟩:=hv.get _ hmod
   generalize k % l.length=m at *;have e4:(0:Int)≤(m:Int):=by omega
   have e5:(m:Int)<(l.length:Int):=by omega
   go_enter Tryz.func129,Tryz.ntmps129;go_wp2_with fail;go_ret;exact⟨mH HZ.out.symm,rfl⟩
theorem nW (v:Value) (l:List Int) (w:World) (hv:Ints w v l) (hl:l.length≤1000) :
  Calls Tryz.prog 90 #[v] w fun e w'=>e=Zr (I J (gG l))∧w'=w:=by
 obtain⟨a,cap,rfl,_,_⟩:=hv.shape
 have e1:IntKind.i64.wrap ((l.length:Int)-1)=(l.length:Int)-1:=eB (by omega) (by omega)
 have hb : -1≤((l.length:Int)-1).tdiv 2∧((l.length:Int)-1).tdiv 2≤1000:=by
  by_cases h:l.length=0
  ·rw[h];decide
  ·rw[Int.tdiv_eq_ediv_of_nonneg (by omega)];omega
 have e2:IntKind.i64.wrap (((l.length:Int)-1).tdiv 2)=((l.length:Int)-1).tdiv 2:=eB (by omega) (by omega)
 unfold gG;go_enter Tryz.func90,Tryz.ntmps90;go_wp2_with fail;go_ret;exact⟨rfl,rfl⟩
theorem zZ (l:List En) (k:Nat) (hk:k<l.length):regs (l.take (k+1))=regs (l.take k)+(if jI l[k] then 1 else 0):=by
 unfold regs;rw[List.take_succ_eq_append_getElem hk,List.countP_append,List.countP_singleton]
theorem nX (v:Value) (l:List En) (w:World) (hv:gu w v l) (hl:l.length≤1000) (hs:∀ e∈l,e.2.2.size≤1000) :
  Calls Tryz.prog 81 #[v] w fun e w'=>e=Zr (I J (regs l:Int))∧Below w.heap.size w w':=by
 obtain⟨a,cap,rfl,_,_⟩:=hv.shape
 have HI:Hid (∀ k (hk:k<l.length) w,Calls Tryz.prog 75 #[.agg #[I J l[k].1,I J l[k].2.1,Z l[k].2.2]] w fun e w'=>e=Zr (.bool (jI l[k]))∧Below w.heap.size w w'):=fun k hk w=>jN l[k].1 l[k].2.1 l[k].2.2 w (by have:=hs l[k] (List.getElem_mem _);unfold maxLen;omega)
 have HS:Hid (∀ k (hk:k<l.length),regs (l.take (k+1))=regs (l.take k)+(if jI l[k] then 1 else 0)):=zZ l
 have HL:Hid (∀ k,regs (l.take k)≤l.length):=fun k=>Nat.le_trans (Bl _) (by simp;omega)
 have HF:Hid (regs (l.take l.length)=regs l):=by unfold Hid;rw[List.take_length]
 go_enter Tryz.func81,Tryz.ntmps81;go_wp2_with fail;go_loopw [3,4] (fun c i wr=>∃ k:Nat,k≤l.length∧i=I J k∧c=I J (regs (l.take k):Int)∧Below w.heap.size w wr) (fun _ i _=>l.length-(intOf i).toNat)
 case atStart=>exact⟨0,Nat.zero_le _,rfl,by simp[regs],Below.refl _ _⟩
 case round =>
  obtain⟨k,hk,rfl,rfl,hb⟩:=hrel
  by_cases hlt:k<l.length
  ·have hvr:=hv.below hb;obtain⟨b,o,rfl,_,c0,c1,c2⟩:=hvr.get k hlt
   have j1:(0:Int)≤(k:Int):=by omega
   have j2:(k:Int)<(l.length:Int):=by omega
   have hLk:=HL.out k;go_wp2_with fail;refine (HI.out k hlt _).mono ?_;rintro e w2 ⟨rfl,hb2⟩;have hb02:=hb.trans (hb2.mono hb.size);have hSk:=HS.out k hlt;cases hq:jI l[k]
   ·go_wp2_with fail;go_round
    case rel=>exact⟨k+1,by omega,by go_num,by rw[HS.out k hlt,hq];rfl,hb02⟩
    case measure=>simp[intOf];omega
   ·go_wp2_with fail;go_round
    case rel=>exact⟨k+1,by omega,by go_num,by rw[HS.out k hlt,hq];go_num,hb02⟩
    case measure=>simp[intOf];omega
  ·obtain rfl:k=l.length:=by omega
   go_wp2_with fail;go_ret;exact⟨mH (by rw[HF.out]),hb⟩
theorem iR (P:Pm) (vl vg vo vL:Value) (w:World):Calls Tryz.prog 95 #[.agg (pmC P vl vg vo vL)] w fun e w'=>e=Zr (.bool (Rp.qG P))∧Below w.heap.size w w':=by
 have hb:∀ o,Below w.heap.size w (w.alloc o):=fun o=>(Below.refl _ w).alloc (Nat.le_refl _) o
 have HZ:Hid (Rp.qG P=((P.kind==104)||(P.kind==118))):=rfl
 unfold pmC;cases h1:(P.kind==104)
 ·cases h2:(P.kind==118)
  ·go_enter Tryz.func95,Tryz.ntmps95;go_wp2_with fail;go_ret;exact⟨aS (by rw[HZ.out,h1,h2];rfl),hb _⟩
  ·go_enter Tryz.func95,Tryz.ntmps95;go_wp2_with fail;go_ret;exact⟨aS (by rw[HZ.out,h1,h2];rfl),hb _⟩
 ·go_enter Tryz.func95,Tryz.ntmps95;go_wp2_with fail;go_ret;exact⟨aS (by rw[HZ.out,h1];rfl),hb _⟩
section
variable {w:World} {b bl:Nat} {W F:List Nat} {R:Rp} {V:Rv}
theorem kM (h:ay w b bl W F R V) (hR:Ok R) (x:Int):Calls Tryz.prog 17 #[Zp (some ⟨b,0,O⟩),I J x] w fun e w'=>e=Zr (.bool (R.mem x))∧w'=w:=by
 have hg1:=hR.g.1;have c7:=h.c7;obtain⟨a,cap,hv⟩:=h.g7
 have hg:=h.grp;rw[hv] at c7 hg;have HC:Hid (Calls Tryz.prog 39 #[Y a R.grp.length cap,I J x] w fun e w'=>e=Zr (.bool (R.mem x))∧w'=w):=kH _ R.grp x w hg (by omega)
 go_enter Tryz.func17,Tryz.ntmps17;go_wp2_with fail;refine HC.out.mono ?_;rintro e w' ⟨rfl,rfl⟩;go_wp2_with fail;go_ret;exact⟨rfl,rfl⟩
theorem fU (h:ay w b bl W F R V) (hR:Ok R):Calls Tryz.prog 121 #[Zp (some ⟨b,0,O⟩)] w fun e w'=>e=Zr (I J R.jJ)∧∃ n,w'=w.drewN n:=by
 have hg1:=hR.g.1;have hv1:=hR.vi.2;have c7:=h.c7;have c5:=h.c5;obtain⟨a,cap,hv⟩:=h.g7
 have hg:=h.grp;rw[hv] at c7 hg;have HC:Hid (∀ w,Ints w (Y a R.grp.length cap) R.grp→Calls Tryz.prog 129 #[Y a R.grp.length cap,I J R.view] w fun e w'=>e=Zr (I J R.jJ)∧w'=w):=fun w hg=>qU _ R.grp R.view w hg (by omega) (by omega)
 go_enter Tryz.func121,Tryz.ntmps121;go_wp2_with fail;go_quiet ((go_at_call 129;exact Calls.quiet_of_same (HC.out _ (hg.below (below_drewN (Below.refl _ _) _)))))
 go_wp2_with fail;go_ret;exact⟨rfl,_,rfl⟩
theorem ay.drewN (h:ay w b bl W F R V) (n:Nat):ay (w.drewN n) b bl W F R V:=h.below (below_drewN (Below.refl _ _) _)
theorem gU (h:ay w b bl W F R V) (hR:Ok R):Calls Tryz.prog 73 #[Zp (some ⟨b,0,O⟩)] w fun e w'=>e=Zr (.bool R.dS)∧∃ n,w'=w.drewN n:=by
 have c0:=h.c0;have HC:Hid (∀ n,Calls Tryz.prog 121 #[Zp (some ⟨b,0,O⟩)] (w.drewN n) fun e w'=>e=Zr (I J R.jJ)∧∃ m,w'=(w.drewN n).drewN m):=fun n=>fU (h.drewN n) hR
 have HZ:Hid (R.dS=(R.jJ==R.id)):=rfl
 go_enter Tryz.func73,Tryz.ntmps73;go_wp2_with fail;go_quiet ((go_at_call 121;exact Calls.quiet_of (HC.out _)))
 go_wp2_with fail;go_ret;exact⟨aS (by rw[HZ.out]),_,rfl⟩
theorem uz (h:ay w b bl W F R V) (hR:Ok R):Calls Tryz.prog 42 #[Zp (some ⟨b,0,O⟩)] w fun e w'=>e=Zr (.bool R.leads)∧∃ n,w'=w.drewN n:=by
 have c3:=h.c3;have HC:Hid (Calls Tryz.prog 73 #[Zp (some ⟨b,0,O⟩)] w fun e w'=>e=Zr (.bool R.dS)∧∃ n,w'=w.drewN n):=gU h hR
 have HZ:Hid (R.leads=((R.status==1)&&R.dS)):=rfl
 cases h1:(R.status==1)
 ·go_enter Tryz.func42,Tryz.ntmps42;go_wp2_with fail;go_ret;exact⟨aS (by rw[HZ.out,h1];rfl),0,rfl⟩
 ·go_enter Tryz.func42,Tryz.ntmps42;go_wp2_with fail;refine HC.out.mono ?_;rintro e w' ⟨rfl,n,rfl⟩;go_wp2_with fail;go_ret;exact⟨aS (by rw[HZ.out,h1];simp),n,rfl⟩
theorem uS (h:ay w b bl W F R V):Calls Tryz.prog 84 #[Zp (some ⟨b,0,O⟩)] w fun e w'=>e=Zr (.bool R.carries)∧w'=w:=by
 have c3:=h.c3;have HZ:Hid (R.carries=((R.status==1)||(R.status==2))):=rfl
 cases h1:(R.status==1)
 ·go_enter Tryz.func84,Tryz.ntmps84;go_wp2_with fail;go_ret;exact⟨aS (by rw[HZ.out,h1];simp),rfl⟩
 ·go_enter Tryz.func84,Tryz.ntmps84;go_wp2_with fail;go_ret;exact⟨aS (by rw[HZ.out,h1];simp),rfl⟩
theorem zo (h:ay w b bl W F R V) (hR:Ok R):Calls Tryz.prog 77 #[Zp (some ⟨b,0,O⟩)] w fun e w'=>e=Zr (.bool R.closing)∧Below w.heap.size w w':=by
 have c4:=h.c4;have c9:=h.c9;have hl:=hR.lg;have hs:∀ e∈R.log,e.2.2.size≤1000:=fun e he=>by have:=(hR.le e he).2.2.2.2.2;omega
 obtain⟨a,cap,hv⟩:=h.g9
 have hg:=h.ents;rw[hv] at c9 hg;have k4:=cell_regrown c4;have k9:=cell_regrown c9;have cC:=fun d os=>Calls.regrown_of (nX _ R.log _ (hg.below (below_regrown w d os)) (by omega) hs)
 have HZ:Hid (R.closing=decide (R.epoch<(regs R.log:Int))):=rfl
 clear hs hg;go_enter Tryz.func77,Tryz.ntmps77;go_wp2_with fail;refine wp_region_quiet_below (by kernel_rfl) (by kernel_rfl) ?_
 repeat (quiet_step (first|exact cC _ _))
 refine wpQuiet_nil ?_;intro _ hw';obtain⟨⟨dq,osq⟩,hw''⟩:=hw'
 subst hw'';have hq:=below_regrown w dq osq;go_wp2_with fail;go_ret;exact⟨aS (by rw[HZ.out]),hq⟩
theorem zu (l:List En) (e:Int) (k:Nat) (hk:k<l.length) (h0:((List.range k).find? (fun i=>jI (l.getD i (0,0,⟨#[]⟩))&&((regs (l.take (i+1)):Int)==e)))=O) :
  (jI l[k]=true→(regs (l.take (k+1)):Int)=e→iU l e=l.take (k+1))∧(¬(jI l[k]=true∧(regs (l.take (k+1)):Int)=e)→((List.range (k+1)).find? (fun i=>jI (l.getD i (0,0,⟨#[]⟩))&&((regs (l.take (i+1)):Int)==e)))=O):=by
 have hg:l.getD k (0,0,⟨#[]⟩)=l[k]:=by simp[List.getD,hk]
 constructor
 ·intro h1 h2;unfold iU Jq;have:(List.range l.length).find? (fun i=>jI (l.getD i (0,0,⟨#[]⟩))&&((regs (l.take (i+1)):Int)==e))=some k:=by
   obtain⟨d,hd⟩:∃ d,l.length=k+(1+d):=⟨l.length-k-1,by omega⟩
   rw[hd,List.range_add,List.find?_append,h0];rw[show 1+d=d+1 by omega,List.range_succ_eq_map]
   simp[h1,h2,hk]
  rw[this]
 ·intro h1;rw[List.range_succ,List.find?_append,h0];simp[hk];intro q r;exact h1 ⟨q,r⟩
theorem E8 {w:World} {a:Option Addr} {n cap:Nat} {l:List En} (h:gu w (Y a n cap) l) (k:Nat) (hk:k≤l.length) (h0:0<k):gu w (Y a k cap) (l.take k):=by
 have hl:(l.take k).length=k:=by simp;omega
 unfold gu Rd;rw[hl];have hc:aA (l.take k)=(aA l).take (k*3):=by
  clear h hl h0
  induction l generalizing k with
  | nil=>simp[aA]
  | cons x l ih =>
   cases k with
   | zero=>simp[aA]
   | succ k =>
    have:=ih k (by simpa using hk)
    simp only[aA,List.take_succ_cons,List.flatMap_cons] at *;rw[this,show (k+1)*3=k*3+3 by omega]
    rfl
 have hlen:(aA l).length=l.length*3:=h.1
 rcases h.2 with ⟨e,e2⟩|⟨b,off,cap',e,h1,h2,hb,hcell⟩
 ·omega
 ·simp only[Value.slice.injEq] at e;obtain⟨rfl,rfl,rfl⟩:=e
  refine⟨by rw[hc,List.length_take];omega,.inr ⟨b,off,cap,rfl,by omega,h2,hb,fun j u hj=>hcell j u ?_⟩⟩
  rw[hc] at hj;rw[List.getElem?_take] at hj
  split at hj
  ·exact hj
  ·cases hj
theorem oH (a:Option Addr) (cap:Nat) (l:List En) (ep:Int) (w:World) (hv:gu w (Y a l.length cap) l) (hl:l.length≤1000) (hs:∀ e∈l,e.2.2.size≤1000) :
  Calls Tryz.prog 159 #[Y a l.length cap,I J ep] w fun e w'=>∃ n c,e=Zr (Y a n c)∧gu w' (Y a n c) (iU l ep)∧Below w.heap.size w w':=by
 obtain⟨_,cap',e',hc1,hc2⟩:=hv.shape
 simp only[Value.slice.injEq,true_and] at e';obtain⟨-,rfl⟩:=e'
 have HI:Hid (∀ k (hk:k<l.length) w,Calls Tryz.prog 75 #[.agg #[I J l[k].1,I J l[k].2.1,Z l[k].2.2]] w fun e w'=>e=Zr (.bool (jI l[k]))∧Below w.heap.size w w'):=fun k hk w=>jN l[k].1 l[k].2.1 l[k].2.2 w (by have:=hs l[k] (List.getElem_mem _);unfold maxLen;omega)
 have HS:Hid (∀ k (hk:k<l.length),regs (l.take (k+1))=regs (l.take k)+(if jI l[k] then 1 else 0)):=zZ l
 have HL:Hid (∀ k,regs (l.take k)≤l.length):=fun k=>Nat.le_trans (Bl _) (by simp;omega)
 have HP:Hid (∀ k (hk:k<l.length),((List.range k).find? (fun i=>jI (l.getD i (0,0,⟨#[]⟩))&&((regs (l.take (i+1)):Int)==ep)))=O→(jI l[k]=true→(regs (l.take (k+1)):Int)=ep→iU l ep=l.take (k+1))∧(¬(jI l[k]=true∧(regs (l.take (k+1)):Int)=ep)→((List.range (k+1)).find? (fun i=>jI (l.getD i (0,0,⟨#[]⟩))&&((regs (l.take (i+1)):Int)==ep)))=O)):=fun k hk h0=>zu l ep k hk h0
 have HF:Hid (((List.range l.length).find? (fun i=>jI (l.getD i (0,0,⟨#[]⟩))&&((regs (l.take (i+1)):Int)==ep)))=O→iU l ep=l):=fun q=>by unfold iU Jq;rw[q];simp
 have HT:Hid (∀ w' k,gu w' (Y a l.length cap) l→k≤l.length→0<k→gu w' (Y a k cap) (l.take k)):=fun w' k h1 h2 h3=>E8 h1 k h2 h3
 go_enter Tryz.func159,Tryz.ntmps159;go_wp2_with fail;go_loopw [5,6] (fun c i wr=>∃ k:Nat,k≤l.length∧i=I J k∧c=I J (regs (l.take k):Int)∧Below w.heap.size w wr∧((List.range k).find? (fun i=>jI (l.getD i (0,0,⟨#[]⟩))&&((regs (l.take (i+1)):Int)==ep)))=O) (fun _ i _=>l.length-(intOf i).toNat)
 case atStart=>exact⟨0,Nat.zero_le _,rfl,by simp[regs],Below.refl _ _,by simp⟩
 case round =>
  obtain⟨k,hk,rfl,rfl,hb,h0⟩:=hrel
  have H0:=ah h0;clear h0;by_cases hlt:k<l.length
  ·have hvr:=hv.below hb;obtain⟨b,o,rfl,_,c0,c1,c2⟩:=hvr.get k hlt
   have j1:(0:Int)≤(k:Int):=by omega
   have j2:(k:Int)<(l.length:Int):=by omega
   have hLk:=HL.out k;go_wp2_with fail;refine (HI.out k hlt _).mono ?_;rintro e w2 ⟨rfl,hb2⟩;have hb02:=hb.trans (hb2.mono hb.size);have hP:=HP.out k hlt H0.out;cases hq:jI l[k]
   ·go_wp2_with fail;go_round
    case rel=>exact⟨k+1,by omega,by go_num,by rw[HS.out k hlt,hq];rfl,hb02,hP.2 (by rw[hq];simp)⟩
    case measure=>simp[intOf];omega
   ·have hS1:regs (l.take (k+1))=regs (l.take k)+1:=by rw[HS.out k hlt,hq];rfl
    have HS1:=ah hS1;have HP2:=ah hP;clear hS1 hP;by_cases hr:((regs (l.take k):Int)+1)=ep
    ·have HU:Hid (iU l ep=l.take (k+1)):=HP2.out.1 hq (by rw[HS1.out];omega)
     have hE2:=ah (HT.out w2 (k+1) (hv.below hb02) (by omega) (by omega))
     have j3:(k:Int)+1≤(cap:Int):=by omega
     have j4:(0:Int)≤(k:Int)+1:=by omega
     have j5:((k:Int)+1).toNat=k+1:=by omega
     go_wp2_with fail;go_ret;exact⟨_,_,rfl,by rw[HU.out];exact hE2.out,hb02⟩
    ·have j3:((regs (l.take k):Int)+1==ep)=false:=by simpa using hr
     go_wp2_with fail;go_round
     case rel=>exact⟨k+1,by omega,by go_num,by rw[HS1.out];go_num,hb02,HP2.out.2 (by rw[HS1.out];intro q;exact hr (by have:=q.2;omega))⟩
     case measure=>simp[intOf];omega
  ·obtain rfl:k=l.length:=by omega
   go_wp2_with fail;go_ret;exact⟨_,_,rfl,by rw[HF.out H0.out];exact hv.below hb,hb⟩
end
structure Gd (r r':Rp) (c:Nat):Prop where
 ok:Ok r'
 n:r'.n=r.n
 id:r'.id=r.id
 out:r'.out.length≤r.out.length+c
theorem Gd.refl {r:Rp} (h:Ok r):Gd r r 0:=⟨h,rfl,rfl,Nat.le_refl _⟩
theorem Gd.refl' {r:Rp} (h:Ok r) (c:Nat):Gd r r c:=⟨h,rfl,rfl,by omega⟩
theorem Gd.trans {r r1 r2:Rp} {c d:Nat} (h:Gd r r1 c) (k:Gd r1 r2 d):Gd r r2 (c+d):=⟨k.ok,k.n.trans h.n,k.id.trans h.id,by have:=h.out;have:=k.out;omega⟩
theorem Gd.le {r r1:Rp} {c d:Nat} (h:Gd r r1 c) (k:c≤d):Gd r r1 d:=⟨h.ok,h.n,h.id,by have:=h.out;omega⟩
def qX (n:Int) (l:List En):Prop:=l.length≤10∧∀ e∈l,kV n e
theorem qX.upto {n:Int} {l:List En} (h:qX n l) (e:Int):qX n (iU l e):=⟨Nat.le_trans (Aj l e) h.1,fun x hx=>h.2 x (G6 hx)⟩
namespace Rp
variable {r:Rp}
theorem Im (h:Ok r) (qt:Int) (t:ByteArray):Gd r (r.put qt t) 1:=⟨h,rfl,rfl,by simp[put]⟩
theorem qg (h:Ok r) (qt:Int) (P:Pm):Gd r (r.send qt P) 1:=Im h _ _
theorem xB (h:Ok r) (c m:Int) (t:ByteArray):Gd r (r.reply c m t) 1:=Im h _ _
theorem oW (h:Ok r) (g:List Int) (hg:g.length≤5) (P:Pm):Gd r (r.gP g P) 5:=⟨h,rfl,rfl,by
 have:=List.length_filter_le (fun x=>x != r.id) g
 simp[gP];omega⟩
theorem kC (h:Ok r) (qt k:Int):Gd r (r.bare qt k) 1:=qg h _ _
theorem jG (h:Ok r) (qt:Int):Gd r (r.ack qt) 1:=qg h _ _
theorem sF (h:Ok r) (qt:Int):Gd r (r.tell qt) 1:=qg h _ _
theorem DJ (h:Ok r) (qt:Int):Gd r (r.oC qt) 1:=qg h _ _
theorem fT (h:Ok r):Gd r r.dY 5:=oW h _ h.g.1 _
theorem kF (h:Ok r):Gd r r.iX 5:=oW h _ h.o.1 _
theorem vU (h:Ok r):Gd r r.call 5:=oW h _ h.g.1 _
theorem kE (h:Ok r) (p:Int):Gd r (r.bL p) 5:=by
 unfold bL
 split
 ·exact Gd.refl' h 5
 ·exact oW h _ h.g.1 _
theorem lG (h:Ok r) {v:Int} (hv:0≤v∧v≤999):Gd r (r.begin_ v) 0 :=
 ⟨⟨h.n3,h.n7,h.i0,h.i1,h.ll,h.lb,by simp[begin_],h.ep,hv,hv,h.g,h.o,h.lg,h.le,h.dc,by simp[begin_],by simp[begin_],h.an,h.nn⟩,rfl,rfl,Nat.le_refl _⟩
theorem fC (h:Ok r) {l:List En} (hl:qX r.n l):Gd r (r.over l) 0 :=
 ⟨⟨h.n3,h.n7,h.i0,h.i1,h.ll,h.lb,h.st,h.ep,h.vi,h.no,h.g,h.o,hl.1,hl.2,by simp[over];omega,h.vo,h.vn,h.an,h.nn⟩,rfl,rfl,Nat.le_refl _⟩
theorem ji (h:Ok r) {s:Int} (hs:1≤s∧s≤5):Gd r { r with status:=s } 0 :=
 ⟨⟨h.n3,h.n7,h.i0,h.i1,h.ll,h.lb,hs,h.ep,h.vi,h.no,h.g,h.o,h.lg,h.le,h.dc,h.vo,h.vn,h.an,h.nn⟩,rfl,rfl,Nat.le_refl _⟩
theorem Cy (h:Ok r) (he:r.epoch+1≤10) {g:List Int} (hg:fQ r.n g):Ok { ({ r with old:=r.grp,grp:=g,epoch:=r.epoch+1 }:Rp).begin_ 0 with started:=st0 } :=
 ⟨h.n3,h.n7,h.i0,h.i1,h.ll,h.lb,by simp[begin_],⟨by have:=h.ep.1;simp[begin_];omega,by simp[begin_];omega⟩,by simp[begin_],by simp[begin_],hg,h.g,h.lg,h.le,h.dc,by simp[begin_],by simp[begin_],h.an,h.nn⟩
theorem JF (h:Ok r) (he:r.epoch+1≤10) {g:List Int} (hg:fQ r.n g):Gd r (r.turn g) 10:=by
 have h3:=Cy h he hg;unfold turn;dsimp only
 split
 ·have k1:=fT h3;have k2:=kF k1.ok;exact⟨k2.ok,rfl,rfl,by have:=k1.out;have:=k2.out;simp only[begin_] at *;omega⟩
 ·have k0:=ji h3 (s:=5) (by decide)
  have k1:=fT k0.ok;exact⟨k1.ok,rfl,rfl,by have:=k1.out;have:=k0.out;simp only[begin_] at *;omega⟩
theorem zK (h:Ok r) (hd:r.decided<r.log.length) (e:En):Gd r (r.lF e) 0 :=
 ⟨⟨h.n3,h.n7,h.i0,h.i1,h.ll,h.lb,h.st,h.ep,h.vi,h.no,h.g,h.o,h.lg,h.le,hd,h.vo,h.vn,h.an,h.nn⟩,rfl,rfl,Nat.le_refl _⟩
theorem rz (h:Ok r) (hd:r.decided<r.log.length) (e:En):Gd r (r.carried e) 1:=by
 have k:=zK h hd e;unfold carried
 split
 ·exact (k.trans (xB k.ok _ _ _)).le (by omega)
 ·exact k.le (by omega)
theorem oP (e:En):(r.carried e).log=r.log:=by unfold carried;split <;> rfl
theorem jd (e:En):(r.carried e).decided=r.decided+1:=by unfold carried;split <;> rfl
theorem jc (e:En):(r.carried e).epoch=r.epoch:=by unfold carried;split <;> rfl
theorem Dn (h:Ok r) {e:En} (ht:r.turns e=true):r.epoch+1≤10:=by
 unfold turns at ht;simp at ht;have h1:=Bl (r.log.take r.decided);have h2:=h.lg;have h3:(r.log.take r.decided).length≤r.log.length:=by simp;omega
 omega
theorem rC:∀ (f:Nat) (r:Rp) (p:Int),Ok r→Gd r (iV f r p) (f+10)
 | 0,r,_,h=>Gd.refl' h _
 | f+1,r,p,h=>by
  unfold iV
  split
  ·rename_i q;dsimp only;have k:=rz h q.2 (r.log.getD r.decided (0,0,⟨#[]⟩))
   split
   ·rename_i ht;exact (k.trans (JF k.ok (Dn k.ok ht) (by rw[k.n];exact vX _ _))).le (by omega)
   ·exact (k.trans (rC f _ p k.ok)).le (by omega)
  ·exact Gd.refl' h _
theorem iq (h:Ok r) (p:Int):Gd r (r.bF p) 20:=(rC _ _ p h).le (by have:=h.lg;omega)
theorem IW (h:Ok r):eF r.n r.dR :=
  ⟨by simp [dR, head], by simp [dR, head], h.i0, h.i1, h.ll, h.lb, h.ep.1, h.ep.2, h.vi.1, h.vi.2, by simp [dR, head], by simp [dR, head], by simp [dR, head], fun _ => h.no, by simp [dR, head],
   fun _ => ⟨by simp [dR], by have := h.dc; simp [dR]; omega⟩, fun _ => ⟨h.lg, h.le⟩, by simp [dR, head]⟩
theorem Cz (h:Ok r) {l:List Pm} (h1:∀ m∈l,m.kind=118∧eF r.n m) (h2:(l.map (·.frm)).Nodup):Ok { r with votes:=l } :=
 ⟨h.n3,h.n7,h.i0,h.i1,h.ll,h.lb,h.st,h.ep,h.vi,h.no,h.g,h.o,h.lg,h.le,h.dc,h1,h2,h.an,h.nn⟩
theorem nP (h:Ok r) {l:List Pm} (h1:∀ m∈l,m.kind=97∧eF r.n m) (h2:(l.map (·.frm)).Nodup):Ok { r with answers:=l } :=
 ⟨h.n3,h.n7,h.i0,h.i1,h.ll,h.lb,h.st,h.ep,h.vi,h.no,h.g,h.o,h.lg,h.le,h.dc,h.vo,h.vn,h1,h2⟩
theorem sP (h:Ok r) {m:Pm} (hk:m.kind=118) (hm:eF r.n m):Ok { r with votes:=bf r.votes m } :=
 Cz h (fun x hx=>by rcases uM hx with rfl|hx;exact⟨hk,hm⟩;exact h.vo x hx) (qN m h.vn)
theorem yt (h:Ok r) {m:Pm} (hk:m.kind=97) (hm:eF r.n m):Ok { r with answers:=bf r.answers m } :=
 nP h (fun x hx=>by rcases uM hx with rfl|hx;exact⟨hk,hm⟩;exact h.an x hx) (qN m h.nn)
theorem EM (h:Ok r):Gd r r.tJ 1:=by
 unfold tJ
 split
 ·exact⟨sP h rfl (IW h),rfl,rfl,by simp⟩
 ·exact qg h _ _
theorem sG (h:Ok r):Gd r r.eU 1:=by
 unfold eU
 split
 ·exact Gd.refl' h 1
 ·exact EM h
theorem CB (h:Ok r) {v:Int} (hv:0≤v∧v≤999):Ok (r.mI v) :=
 ⟨h.n3,h.n7,h.i0,h.i1,h.ll,h.lb,by simp[mI],h.ep,hv,by have:=h.no;have:=h.vi;simp only[mI];split <;> assumption,h.g,h.o,h.lg,h.le,h.dc,by simp[mI],by simp[mI],h.an,h.nn⟩
theorem sH (h:Ok r) {v:Int} (hv:0≤v∧v≤999):Gd r (r.want v) 6:=by
 have k0:Gd r (r.mI v) 0:=⟨CB h hv,rfl,rfl,Nat.le_refl _⟩
 have k1:=vU k0.ok;exact ((k0.trans k1).trans (EM k1.ok)).le (by omega)
theorem Dz (h:Ok r) {best:Pm} (hb:qX r.n best.log) (c:Int):Gd r (r.counted best c) 25:=by
 have k1:=fC h hb;have k2:=lG k1.ok (v:=r.view) h.vi;have k3:=fT k2.ok;exact (((k1.trans k2).trans k3).trans (iq k3.ok c)).le (by omega)
theorem wQ (h:Ok r):qX r.n ((iN r.votes).getD pm0).log:=by
 by_cases hv:r.votes=[]
 ·rw[hv];exact⟨by simp[iN,pm0],by simp[iN,pm0]⟩
 ·obtain⟨m,hm,e⟩:=Fv r.votes hv
  rw[e];exact (h.vo m hm).2.lg (.inl (h.vo m hm).1)
theorem Cb (h:Ok r) {m:Pm} (hk:m.kind=118) (hm:eF r.n m):Gd r (r.count m) 25:=by
 have h1:=sP h hk hm;unfold count;dsimp only
 split
 ·exact⟨h1,rfl,rfl,by simp⟩
 ·have k:=Dz h1 (wQ h1) (bV ((bf r.votes m).map (·.commit)))
  exact⟨k.ok,k.n,k.id,k.out⟩
theorem tT (h:Ok r) {m:Pm} (hm:eF r.n m):Gd r (r.dJ m) 31:=by
 have k:=sH h ⟨hm.v0,hm.v1⟩;unfold dJ
 split
 ·split
  ·rename_i q;simp at q;exact (k.trans (Cb k.ok q.1 (by rw[k.n];exact hm))).le (by omega)
  ·exact k.le (by omega)
 ·exact Gd.refl' h _
theorem vC (h:Ok r) {m:Pm} (hm:eF r.n m):Gd r (r.bM m) 25:=by
 unfold bM
 split
 ·split
  ·exact (kC h _ _).le (by omega)
  ·split
   ·exact (sG h).le (by omega)
   ·split
    ·rename_i q;exact Cb h q.1 hm
    ·exact Gd.refl' h _
 ·exact Gd.refl' h _
theorem rA (h:Ok r) (c:Int):Gd r (r.iC c) 21:=by
 unfold iC
 split
 ·exact (iq h c).le (by omega)
 ·have k:=jG h r.jJ;exact (k.trans (iq k.ok c)).le (by omega)
theorem nC (h:Ok r) {m:Pm} (hk:m.kind=115∨m.kind=97) (hm:eF r.n m):Ok (r.enter m) :=
 ⟨h.n3,h.n7,h.i0,h.i1,h.ll,h.lb,by simp[enter,begin_],⟨hm.e0,hm.e1⟩,⟨hm.v0,hm.v1⟩,⟨hm.v0,hm.v1⟩,(hm.g hk).1,(hm.g hk).2,h.lg,h.le,h.dc,by simp[enter,begin_],by simp[enter,begin_],h.an,h.nn⟩
theorem oZ (h:Ok r) (m:Pm):Gd r (r.dD m) 1:=by
 unfold dD
 split
 ·exact sF h _
 ·split
  ·exact DJ h _
  ·split
   ·exact kC h _ _
   ·exact Gd.refl' h _
theorem nR {n:Int} {m:Pm} (hm:eF n m) (hk:m.kind=118∨m.kind=115∨m.kind=97):qX n m.log:=hm.lg hk
theorem qF (h:Ok r) {m:Pm} (hk:m.kind=115) (hm:eF r.n m):Gd r (r.aT m) 21:=by
 have hl:=nR hm (.inr (.inl hk));unfold aT
 split
 ·have k1:=lG h ⟨hm.v0,hm.v1⟩;have k2:=fC k1.ok (l:=m.log) hl;exact ((k1.trans k2).trans (rA k2.ok _)).le (by omega)
 ·split
  ·split
   ·exact (sF h _).le (by omega)
   ·exact Gd.refl' h _
  ·split
   ·have k2:=fC h (l:=m.log) hl;exact (k2.trans (rA k2.ok _)).le (by omega)
   ·split
    ·exact Gd.refl' h _
    ·exact (kC h _ _).le (by omega)
theorem Cc (h:Ok r) {m:Pm} (hl:qX r.n m.log):Gd r (r.leave m) 25:=by
 have k0:Gd r r.leave0 0:=⟨⟨h.n3,h.n7,h.i0,h.i1,h.ll,h.lb,by simp[leave0],h.ep,by simp[leave0],by simp[leave0],h.g,h.o,h.lg,h.le,h.dc,h.vo,h.vn,h.an,h.nn⟩,rfl,rfl,Nat.le_refl _⟩
 have k1:=fC k0.ok (l:=iU m.log r.epoch) (hl.upto _);have k2:=iq k1.ok m.commit;exact (((k0.trans k1).trans k2).trans (fT k2.ok)).le (by omega)
theorem sD (h:Ok r) {m:Pm} (hk:m.kind=115) (hm:eF r.n m):Gd r (r.dx m) 26:=by
 have hl:=nR hm (.inr (.inl hk));have k0:Gd r (r.enter m) 0:=⟨nC h (.inl hk) hm,rfl,rfl,Nat.le_refl _⟩
 unfold dx
 split
 ·have k1:=fC k0.ok (l:=m.log) hl;have k2:=kF k1.ok;exact (((k0.trans k1).trans k2).trans (rA k2.ok _)).le (by omega)
 ·split
  ·exact (k0.trans (Cc k0.ok hl)).le (by omega)
  ·exact (k0.trans (ji k0.ok (s:=4) (by decide))).le (by omega)
theorem AB (h:Ok r) {m:Pm} (hk:m.kind=115) (hm:eF r.n m):Gd r (r.gq m) 26:=by
 unfold gq
 split
 ·exact sD h hk hm
 ·split
  ·split
   ·exact (oZ h m).le (by omega)
   ·exact (qF h hk hm).le (by omega)
  ·exact Gd.refl' h _
theorem AA (h:Ok r) (m:Pm):Gd r (r.fZ m) 0:=by
 unfold fZ
 split
 ·dsimp only
  split
  ·have k:=ji h (s:=4) (by decide)
   exact⟨k.ok,rfl,rfl,Nat.le_refl _⟩
  ·exact⟨h,rfl,rfl,Nat.le_refl _⟩
 ·exact Gd.refl h
theorem FK (h:Ok r) (m:Pm):Gd r (r.answer m) 1:=by
 unfold answer
 split
 ·exact qg h _ _
 ·exact Gd.refl' h _
theorem xC (h:Ok r) (m:Pm):Gd r (r.dI m) 1:=by
 unfold dI
 split
 ·exact kC h _ _
 ·split
  ·exact sF h _
  ·exact Gd.refl' h _
theorem FP (h:Ok r) {m:Pm} (hk:m.kind=97) (hm:eF r.n m):Gd r (r.resume m) 21:=by
 have hl:=nR hm (.inr (.inr hk));have e:=nC h (.inr hk) hm;have k0:Gd r { r.enter m with answers:=[] } 0:=⟨nP e (by simp) (by simp),rfl,rfl,Nat.le_refl _⟩
 unfold resume;dsimp only
 split
 ·have k1:=fC k0.ok (l:=m.log) hl
  split
  ·exact ((k0.trans k1).trans (iq k1.ok _)).le (by omega)
  ·have k2:=jG k1.ok m.frm;exact (((k0.trans k1).trans k2).trans (iq k2.ok _)).le (by omega)
 ·exact (k0.trans (ji k0.ok (s:=4) (by decide))).le (by omega)
theorem pG {l:List Pm} {a:Pm} (h:gK l=some a):a∈l:=by
 unfold gK Ir at h
 split at h
 ·cases h
 ·have:=List.mem_of_find?_eq_some h
  unfold gB at this;exact (List.mem_filter.1 this).1
theorem yR (h:Ok r) {m:Pm} (hk:m.kind=97) (hm:eF r.n m):Gd r (r.eT m) 21:=by
 unfold eT
 split
 ·dsimp only;have h1:=yt h hk hm
  split
  ·rename_i a ha;have hma:=pG ha
   split
   ·have q:=h1.an a hma;have k:=FP h1 q.1 q.2;exact⟨k.ok,k.n,k.id,k.out⟩
   ·exact⟨h1,rfl,rfl,by simp⟩
  ·exact⟨h1,rfl,rfl,by simp⟩
 ·exact Gd.refl' h _
theorem um (h:Ok r) {e:En} (he:kV r.n e) (hl:r.log.length<10):Ok { r with log:=r.log++[e] } :=
 ⟨h.n3,h.n7,h.i0,h.i1,h.ll,h.lb,h.st,h.ep,h.vi,h.no,h.g,h.o,by simp;omega,fun x hx=>by simp at hx;rcases hx with hx|rfl;exact h.le x hx;exact he,by have:=h.dc;simp;omega,h.vo,h.vn,h.an,h.nn⟩
theorem Az (h:Ok r) {m:Pm} (hk:m.kind=112) (hm:eF r.n m):Gd r (r.dZ m) 21:=by
 unfold dZ
 split
 ·split
  ·exact (kC h _ _).le (by omega)
  ·split
   ·split
    ·exact Gd.refl' h _
    ·rename_i q _;have hp:=hm.pl (.inl hk);have h1:=um h (hm.en hk) (by omega)
     have k1:=jG h1 m.frm;have k2:=iq k1.ok m.commit;exact⟨k2.ok,k2.n.trans k1.n,k2.id.trans k1.id,by have:=k1.out;have:=k2.out;simp only at *;omega⟩
   ·have k1:=jG h m.frm;exact (k1.trans (iq k1.ok _)).le (by omega)
 ·exact Gd.refl' h _
theorem yS (h:Ok r) (m:Pm):Gd r (r.fG m) 20:=by
 unfold fG
 split
 ·split
  ·exact (kC h _ _).le (by omega)
  ·exact iq h _
 ·exact Gd.refl' h _
theorem tQ (h:Ok r) (q:Nat) (p:Int):Gd r (r.fA q p) 0:=by
 unfold fA
 split
 ·exact⟨h,rfl,rfl,Nat.le_refl _⟩
 ·exact Gd.refl h
theorem DI (h:Ok r) (m:Pm):Gd r (r.jf m) 20:=by
 unfold jf
 split
 ·have k:=tQ h m.frm.toNat m.place;exact (k.trans (iq k.ok _)).le (by omega)
 ·exact Gd.refl' h _
theorem yU (h:Ok r) {m:Pm} (hm:eF r.n m):Gd r (r.cK m) 21:=by
 unfold cK
 split
 ·exact (sF h _).le (by omega)
 ·split
  ·split
   ·rename_i q;exact Az h q hm
   ·split
    ·exact (yS h m).le (by omega)
    ·split
     ·exact (DI h m).le (by omega)
     ·split
      ·exact (sF h _).le (by omega)
      ·exact Gd.refl' h _
  ·exact Gd.refl' h _
theorem yT (h:Ok r) {m:Pm} (hm:eF r.n m):Gd r (r.bR m) 31:=by
 unfold bR
 split
 ·split
  ·exact (vC h hm).le (by omega)
  ·exact (yU h hm).le (by omega)
 ·split
  ·split
   ·exact tT h hm
   ·exact (kC h _ _).le (by omega)
  ·split
   ·exact (kC h _ _).le (by omega)
   ·exact (oZ h m).le (by omega)
theorem tV (h:Ok r) {m:Pm} (hm:eF r.n m):Gd r (r.bP m) 31:=by
 unfold bP
 split
 ·split
  ·rename_i q;exact (yR h q hm).le (by omega)
  ·exact Gd.refl' h _
 ·split
  ·rename_i q;exact (AB h q hm).le (by omega)
  ·split
   ·exact (FK h m).le (by omega)
   ·split
    ·exact (AA h m).le (by omega)
    ·split
     ·exact Gd.refl' h _
     ·split
      ·exact (xC h m).le (by omega)
      ·exact yT h hm
theorem FM {l:List Int} (hb:∀ x∈l,0≤x∧x≤999) (h:Ok r) (i:Nat):Gd r (iK l r i) 0:=by
 unfold iK
 split
 ·refine⟨⟨h.n3,h.n7,h.i0,h.i1,by simpa using h.ll,fun x hx=>?_,h.st,h.ep,h.vi,h.no,h.g,h.o,h.lg,h.le,h.dc,h.vo,h.vn,h.an,h.nn⟩,rfl,rfl,Nat.le_refl _⟩
  rcases List.mem_or_eq_of_mem_set hx with hx|rfl
  ·exact h.lb x hx
  ·by_cases hi:i<l.length
   ·exact hb _ (Kz hi)
   ·simp[List.getD,hi]
 ·exact Gd.refl h
theorem zL {l:List Int} (hb:∀ x∈l,0≤x∧x≤999):∀ (is:List Nat) (r:Rp),Ok r→Gd r (is.foldl (iK l) r) 0
 | [],_,h=>Gd.refl h
 | i :: is,r,h=>by
  have k:=FM hb h i;exact k.trans (zL hb is _ k.ok)
theorem xw (h:Ok r) {l:List Int} (hb:∀ x∈l,0≤x∧x≤999):Gd r (r.learn l) 0:=zL hb _ _ h
theorem tO (h:Ok r):Gd r r.pruned 0 :=
 ⟨⟨h.n3,h.n7,h.i0,h.i1,h.ll,h.lb,h.st,h.ep,h.vi,h.no,h.g,h.o,h.lg,h.le,h.dc,fun x hx=>h.vo x (rM hx),nO h.vn,fun x hx=>h.an x (rM hx),nO h.nn⟩,rfl,rfl,Nat.le_refl _⟩
theorem yQ (h:Ok r) (e:En):Gd r (r.gD e) 1:=by
 unfold gD
 split
 ·exact xB h _ _ _
 ·exact Gd.refl' h _
theorem DC (h:Ok r) {e:En} (he:kV r.n e):Gd r (r.propose e) 5:=by
 unfold propose
 split
 ·exact Gd.refl' h _
 ·rename_i q;have h1:=um h he (by omega)
  have k:=kE h1 ((r.log.length:Int)+1);exact⟨k.ok,k.n,k.id,k.out⟩
structure CmOk (m:Pm):Prop where
 c:1≤m.ent.1∧m.ent.1≤9
 n:1≤m.ent.2.1∧m.ent.2.1≤999
 s:m.ent.2.2.size≤10
 q:m.kind=113→dh m.ent.2.2.data.toList=true
theorem Dt {m:Pm} {n:Int} (hm:CmOk m) (hk:m.kind=113∨m.kind=109) (h:¬(m.kind=109∧gY m.ent n=true)):kV n m.ent:=by
 refine⟨hm.c.1,hm.c.2,hm.n.1,hm.n.2,?_,hm.s⟩
 rw[vT];rcases hk with hk|hk
 ·rw[hm.q hk];rfl
 ·have:gY m.ent n=false:=by
   cases q:gY m.ent n
   ·rfl
   ·exact absurd ⟨hk,q⟩ h
  unfold gY jI at this;simp at this;simp[this]
theorem xD (h:Ok r) {m:Pm} (hm:CmOk m) (hk:m.kind=113∨m.kind=109):Gd r (r.cu m) 5:=by
 unfold cu
 split
 ·split
  ·exact Gd.refl' h _
  ·split
   ·exact (yQ h _).le (by omega)
   ·split
    ·exact Gd.refl' h _
    ·split
     ·exact (xB h _ _ _).le (by omega)
     ·rename_i q;exact DC h (Dt hm hk (fun c=>q ⟨c.1,.inr c.2⟩))
 ·exact Gd.refl' h _
def MOk (n:Int) (m:Pm):Prop:=((m.kind=113∨m.kind=109)→CmOk m)∧(¬(m.kind=113∨m.kind=109)→eF n m)
theorem JE (h:Ok r) {m:Pm} (hm:MOk r.n m):Gd r (r.take m) 31:=by
 unfold take
 split
 ·rename_i q;exact (xD h (hm.1 q) q).le (by omega)
 ·rename_i q;have hp:=hm.2 q
  split
  ·have k1:=xw h hp.lb;have k2:=tO k1.ok;have k3:=k1.trans k2;exact (k3.trans (tV k2.ok (by rw[k3.n];exact hp))).le (by omega)
  ·exact Gd.refl' h _
theorem xA:∀ (k:Nat) (r:Rp) (p:Int),Ok r→Gd r (mG k r p) (5*k)
 | 0,r,_,h=>Gd.refl h
 | k+1,r,p,h=>by
  have q:=kE h p;exact (q.trans (xA k _ (p+1) q.ok)).le (by omega)
theorem FN (h:Ok r):Gd r r.jw 50:=by
 unfold jw
 split
 ·exact (oW h _ h.g.1 _).le (by omega)
 ·exact (xA _ _ _ h).le (by have:=h.lg;omega)
theorem Ay:∀ (is:List Nat) (r:Rp),Ok r→Gd r (is.foldl oO r) is.length
 | [],_,h=>Gd.refl h
 | i :: is,r,h=>by
  have k:Gd r (oO r i) 1:=by
   unfold oO
   split
   ·exact kC h _ _
   ·exact Gd.refl' h _
  exact (k.trans (Ay is _ k.ok)).le (by simp;omega)
theorem KZ (h:Ok r):Gd r r.ask 7:=(Ay _ _ h).le (by have:=h.n7;simp;omega)
theorem JD (h:Ok r):Gd r r.qY 50:=by
 unfold qY
 split
 ·exact FN h
 ·split
  ·have k:=vU h;exact (k.trans (sG k.ok)).le (by omega)
  ·split
   ·exact (KZ h).le (by omega)
   ·split
    ·exact (fT h).le (by omega)
    ·exact Gd.refl' h _
theorem DF (h:Ok r):Gd r r.suspect 6:=by
 unfold suspect
 split
 ·have:=h.vi;exact sH h (by omega)
 ·exact Gd.refl' h _
end Rp
end Go.Proofs.YtajakaadgagejaaGreatDoor
