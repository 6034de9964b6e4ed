import Derived.Test.YtbnihoahhomooaaGreatDoorA05
import Derived.Deep.MidRow
set_option maxRecDepth 100000
set_option maxHeartbeats 8000000
set_option linter.all false
namespace Go.Proofs.YtbnihoahhomooaaGreatDoor
open Go.Value renaming int→I,slice→Y,string→Z,pointer→Zp
open Go.Ending renaming returned→Zr
open _root_.ByteArray renaming empty→Ze
open Go.IntKind renaming i64→J
open Option renaming none→O
open Go.RowKit
theorem sQ (v:Value) (l:List Int) (vi:Int) (w:World) (hv:Ints w v l) (hl:l.length≤1000) (h9:vi≤999999) :
  Calls Tryz.prog 129 #[v,I J vi] w fun e w'=>e=Zr (I J (oL l vi))∧w'=w:=by
 obtain⟨a,cap,rfl,_,_⟩:=hv.shape
 by_cases h0:l.length=0
 ·have HZ:Hid (oL l vi = -1):=by unfold Hid oL;rw[if_pos (.inl h0)]
  have h0':l=[]:=List.eq_nil_of_length_eq_zero h0
  subst h0';go_enter Tryz.func129,Tryz.ntmps129;go_wp2;go_ret;exact⟨nS HZ.out.symm,rfl⟩
 ·have h0':¬(l.length:Int)=0:=by omega
  have h0'':¬l=[]:=fun hc=>h0 (by rw[hc];rfl)
  by_cases h1:vi<0
  ·have HZ:Hid (oL l vi = -1):=by unfold Hid oL;rw[if_pos (.inr h1)]
   go_enter Tryz.func129,Tryz.ntmps129;go_wp2;go_ret;exact⟨nS HZ.out.symm,rfl⟩
  ·obtain⟨k,rfl⟩:∃ k:Nat,vi=k:=⟨vi.toNat,by omega⟩
   have hmod:k % l.length<l.length:=Nat.mod_lt _ (by omega)
   have e0:(k:Int).tmod (l.length:Int)=((k % l.length:Nat):Int):=by
    rw[Int.tmod_eq_emod_of_nonneg (by omega)]
    exact (Int.natCast_emod k l.length).symm
   have e1:IntKind.i64.wrap ((k:Int).tmod (l.length:Int))=((k % l.length:Nat):Int):=by rw[e0];exact fC (by omega) (by omega)
   have HZ:Hid (oL l k=l[k % l.length]):=by
    unfold Hid oL;rw[if_neg (by omega),show ((k:Int) % (l.length:Int))=((k % l.length:Nat):Int) from (Int.natCast_emod k l.length).symm,Int.toNat_natCast,List.getD_eq_getElem?_getD,List.getElem?_eq_getElem hmod]
    rfl
   obtain⟨b,o,rfl,_,c⟩:=hv.get _ hmod
   generalize k % l.length=m at *;have e4:(0:Int)≤(m:Int):=by omega
   have e5:(m:Int)<(l.length:Int):=by omega
   go_enter Tryz.func129,Tryz.ntmps129;go_wp2;go_ret;exact⟨nS HZ.out.symm,rfl⟩
theorem pO (v:Value) (l:List Int) (w:World) (hv:Ints w v l) (hl:l.length≤1000) :
  Calls Tryz.prog 90 #[v] w fun e w'=>e=Zr (I J (eZ l))∧w'=w:=by
 obtain⟨a,cap,rfl,_,_⟩:=hv.shape
 have e1:IntKind.i64.wrap ((l.length:Int)-1)=(l.length:Int)-1:=fC (by omega) (by omega)
 have hb : -1≤((l.length:Int)-1).tdiv 2∧((l.length:Int)-1).tdiv 2≤1000:=by
  by_cases h:l.length=0
  ·rw[h];decide
  ·rw[Int.tdiv_eq_ediv_of_nonneg (by omega)];omega
 have e2:IntKind.i64.wrap (((l.length:Int)-1).tdiv 2)=((l.length:Int)-1).tdiv 2:=fC (by omega) (by omega)
 unfold eZ;go_enter Tryz.func90,Tryz.ntmps90;go_wp2;go_ret;exact⟨rfl,rfl⟩
theorem Cg (l:List En) (k:Nat) (hk:k<l.length):regs (l.take (k+1))=regs (l.take k)+(if eT l[k] then 1 else 0):=by
 unfold regs;rw[List.take_succ_eq_append_getElem hk,List.countP_append,List.countP_singleton]
theorem pR (v:Value) (l:List En) (w:World) (hv:gW w v l) (hl:l.length≤1000) (hs:∀ e∈l,e.2.2.size≤1000) :
  Calls Tryz.prog 81 #[v] w fun e w'=>e=Zr (I J (regs l:Int))∧Below w.heap.size w w':=by
 obtain⟨a,cap,rfl,_,_⟩:=hv.shape
 have HI:Hid (∀ k (hk:k<l.length) w,Calls Tryz.prog 75 #[.agg #[I J l[k].1,I J l[k].2.1,Z l[k].2.2]] w fun e w'=>e=Zr (.bool (eT l[k]))∧Below w.heap.size w w'):=fun k hk w=>kG l[k].1 l[k].2.1 l[k].2.2 w (by have:=hs l[k] (List.getElem_mem _);unfold maxLen;omega)
 have HS:Hid (∀ k (hk:k<l.length),regs (l.take (k+1))=regs (l.take k)+(if eT l[k] then 1 else 0)):=Cg l
 have HL:Hid (∀ k,regs (l.take k)≤l.length):=fun k=>Nat.le_trans (uR _) (by simp;omega)
 have HF:Hid (regs (l.take l.length)=regs l):=by unfold Hid;rw[List.take_length]
 go_enter Tryz.func81,Tryz.ntmps81;go_wp2_with fail;go_loopw [3,4] (fun c i wr=>∃ k:Nat,k≤l.length∧i=I J k∧c=I J (regs (l.take k):Int)∧Below w.heap.size w wr) (fun _ i _=>l.length-(intOf i).toNat)
 case atStart=>exact⟨0,Nat.zero_le _,rfl,by simp[regs],Below.refl _ _⟩
 case round =>
  obtain⟨k,hk,rfl,rfl,hb⟩:=hrel
  by_cases hlt:k<l.length
  ·have hvr:=hv.below hb;obtain⟨b,o,rfl,_,c0,c1,c2⟩:=hvr.get k hlt
   have j1:(0:Int)≤(k:Int):=by omega
   have j2:(k:Int)<(l.length:Int):=by omega
   have hLk:=HL.out k;go_wp2_with fail;refine (HI.out k hlt _).mono ?_;rintro e w2 ⟨rfl,hb2⟩;have hb02:=hb.trans (hb2.mono hb.size);have hSk:=HS.out k hlt;cases hq:eT l[k]
   ·go_wp2_with fail;go_round
    case rel=>exact⟨k+1,by omega,by go_num,by rw[HS.out k hlt,hq];rfl,hb02⟩
    case measure=>simp[intOf];omega
   ·go_wp2_with fail;go_round
    case rel=>exact⟨k+1,by omega,by go_num,by rw[HS.out k hlt,hq];go_num,hb02⟩
    case measure=>simp[intOf];omega
  ·obtain rfl:k=l.length:=by omega
   go_wp2;go_ret;exact⟨nS (by rw[HF.out]),hb⟩
theorem ji (P:Pm) (vl vg vo vL:Value) (w:World):Calls Tryz.prog 95 #[.agg (pmC P vl vg vo vL)] w fun e w'=>e=Zr (.bool (Rp.qG P))∧Below w.heap.size w w':=by
 have hb:∀ o,Below w.heap.size w (w.alloc o):=fun o=>(Below.refl _ w).alloc (Nat.le_refl _) o
 have HZ:Hid (Rp.qG P=((P.kind==104)||(P.kind==118))):=rfl
 unfold pmC;cases h1:(P.kind==104)
 ·cases h2:(P.kind==118)
  ·go_enter Tryz.func95,Tryz.ntmps95;go_wp2;go_ret;exact⟨aU (by rw[HZ.out,h1,h2];rfl),hb _⟩
  ·go_enter Tryz.func95,Tryz.ntmps95;go_wp2;go_ret;exact⟨aU (by rw[HZ.out,h1,h2];rfl),hb _⟩
 ·go_enter Tryz.func95,Tryz.ntmps95;go_wp2;go_ret;exact⟨aU (by rw[HZ.out,h1];rfl),hb _⟩
section
variable {w:World} {b bl:Nat} {W F:List Nat} {R:Rp} {V:Rv}
theorem lV (h:ay w b bl W F R V) (hR:Ok R) (x:Int):Calls Tryz.prog 17 #[Zp (some ⟨b,0,O⟩),I J x] w fun e w'=>e=Zr (.bool (R.mem x))∧w'=w:=by
 have hg1:=hR.g.1;have c7:=h.c7;obtain⟨a,cap,hv⟩:=h.g7
 have hg:=h.grp;rw[hv] at c7 hg;have HC:Hid (Calls Tryz.prog 39 #[Y a R.grp.length cap,I J x] w fun e w'=>e=Zr (.bool (R.mem x))∧w'=w):=lT _ R.grp x w hg (by omega)
 go_enter Tryz.func17,Tryz.ntmps17;go_wp2_with fail;refine HC.out.mono ?_;rintro e w' ⟨rfl,rfl⟩;go_wp2;go_ret;exact⟨rfl,rfl⟩
theorem iN (h:ay w b bl W F R V) (hR:Ok R):Calls Tryz.prog 121 #[Zp (some ⟨b,0,O⟩)] w fun e w'=>e=Zr (I J R.iB)∧∃ n,w'=w.drewN n:=by
 have hg1:=hR.g.1;have hv1:=hR.vi.2;have c7:=h.c7;have c5:=h.c5;obtain⟨a,cap,hv⟩:=h.g7
 have hg:=h.grp;rw[hv] at c7 hg;have HC:Hid (∀ w,Ints w (Y a R.grp.length cap) R.grp→Calls Tryz.prog 129 #[Y a R.grp.length cap,I J R.view] w fun e w'=>e=Zr (I J R.iB)∧w'=w):=fun w hg=>sQ _ R.grp R.view w hg (by omega) (by omega)
 go_enter Tryz.func121,Tryz.ntmps121;go_wp2_with fail;go_quiet ((go_at_call 129;exact Calls.quiet_of_same (HC.out _ (hg.below (below_drewN (Below.refl _ _) _)))))
 go_wp2;go_ret;exact⟨rfl,_,rfl⟩
theorem ay.drewN (h:ay w b bl W F R V) (n:Nat):ay (w.drewN n) b bl W F R V:=h.below (below_drewN (Below.refl _ _) _)
theorem jC (h:ay w b bl W F R V) (hR:Ok R):Calls Tryz.prog 73 #[Zp (some ⟨b,0,O⟩)] w fun e w'=>e=Zr (.bool R.dG)∧∃ n,w'=w.drewN n:=by
 have c0:=h.c0;have HC:Hid (∀ n,Calls Tryz.prog 121 #[Zp (some ⟨b,0,O⟩)] (w.drewN n) fun e w'=>e=Zr (I J R.iB)∧∃ m,w'=(w.drewN n).drewN m):=fun n=>iN (h.drewN n) hR
 have HZ:Hid (R.dG=(R.iB==R.id)):=rfl
 go_enter Tryz.func73,Tryz.ntmps73;go_wp2_with fail;go_quiet ((go_at_call 121;exact Calls.quiet_of (HC.out _)))
 go_wp2;go_ret;exact⟨aU (by rw[HZ.out]),_,rfl⟩
theorem wT (h:ay w b bl W F R V) (hR:Ok R):Calls Tryz.prog 42 #[Zp (some ⟨b,0,O⟩)] w fun e w'=>e=Zr (.bool R.leads)∧∃ n,w'=w.drewN n:=by
 have c3:=h.c3;have HC:Hid (Calls Tryz.prog 73 #[Zp (some ⟨b,0,O⟩)] w fun e w'=>e=Zr (.bool R.dG)∧∃ n,w'=w.drewN n):=jC h hR
 have HZ:Hid (R.leads=((R.status==1)&&R.dG)):=rfl
 cases h1:(R.status==1)
 ·go_enter Tryz.func42,Tryz.ntmps42;go_wp2;go_ret;exact⟨aU (by rw[HZ.out,h1];rfl),0,rfl⟩
 ·go_enter Tryz.func42,Tryz.ntmps42;go_wp2_with fail;refine HC.out.mono ?_;rintro e w' ⟨rfl,n,rfl⟩;go_wp2;go_ret;exact⟨aU (by rw[HZ.out,h1];simp),n,rfl⟩
theorem xL (h:ay w b bl W F R V):Calls Tryz.prog 84 #[Zp (some ⟨b,0,O⟩)] w fun e w'=>e=Zr (.bool R.carries)∧w'=w:=by
 have c3:=h.c3;have HZ:Hid (R.carries=((R.status==1)||(R.status==2))):=rfl
 cases h1:(R.status==1)
 ·go_enter Tryz.func84,Tryz.ntmps84;go_wp2;go_ret;exact⟨aU (by rw[HZ.out,h1];simp),rfl⟩
 ·go_enter Tryz.func84,Tryz.ntmps84;go_wp2;go_ret;exact⟨aU (by rw[HZ.out,h1];simp),rfl⟩
theorem Bg (h:ay w b bl W F R V) (hR:Ok R):Calls Tryz.prog 77 #[Zp (some ⟨b,0,O⟩)] w fun e w'=>e=Zr (.bool R.closing)∧Below w.heap.size w w':=by
 have c4:=h.c4;have c9:=h.c9;have hl:=hR.lg;have hs:∀ e∈R.log,e.2.2.size≤1000:=fun e he=>by have:=(hR.le e he).2.2.2.2.2;omega
 obtain⟨a,cap,hv⟩:=h.g9
 have hg:=h.ents;rw[hv] at c9 hg;have k4:=cell_regrown c4;have k9:=cell_regrown c9;have cC:=fun d os=>Calls.regrown_of (pR _ R.log _ (hg.below (below_regrown w d os)) (by omega) hs)
 have HZ:Hid (R.closing=decide (R.epoch<(regs R.log:Int))):=rfl
 clear hs hg;go_enter Tryz.func77,Tryz.ntmps77;go_wp2_with fail;refine wp_region_quiet_below (by kernel_rfl) (by kernel_rfl) ?_
 repeat (quiet_step (first|exact cC _ _))
 refine wpQuiet_nil ?_;intro _ hw';obtain⟨⟨dq,osq⟩,hw''⟩:=hw'
 subst hw'';have hq:=below_regrown w dq osq;go_wp2;go_ret;exact⟨aU (by rw[HZ.out]),hq⟩
theorem Bj (l:List En) (e:Int) (k:Nat) (hk:k<l.length) (h0:((List.range k).find? (fun i=>eT (l.getD i (0,0,⟨#[]⟩))&&((regs (l.take (i+1)):Int)==e)))=O) :
  (eT l[k]=true→(regs (l.take (k+1)):Int)=e→dW l e=l.take (k+1))∧(¬(eT l[k]=true∧(regs (l.take (k+1)):Int)=e)→((List.range (k+1)).find? (fun i=>eT (l.getD i (0,0,⟨#[]⟩))&&((regs (l.take (i+1)):Int)==e)))=O):=by
 have hg:l.getD k (0,0,⟨#[]⟩)=l[k]:=by simp[List.getD,hk]
 constructor
 ·intro h1 h2;unfold dW Ct;have:(List.range l.length).find? (fun i=>eT (l.getD i (0,0,⟨#[]⟩))&&((regs (l.take (i+1)):Int)==e))=some k:=by
   obtain⟨d,hd⟩:∃ d,l.length=k+(1+d):=⟨l.length-k-1,by omega⟩
   rw[hd,List.range_add,List.find?_append,h0];rw[show 1+d=d+1 by omega,List.range_succ_eq_map]
   simp[h1,h2,hk]
  rw[this]
 ·intro h1;rw[List.range_succ,List.find?_append,h0];simp[hk];intro q r;exact h1 ⟨q,r⟩
theorem Ir {w:World} {a:Option Addr} {n cap:Nat} {l:List En} (h:gW w (Y a n cap) l) (k:Nat) (hk:k≤l.length) (h0:0<k):gW w (Y a k cap) (l.take k):=by
 have hl:(l.take k).length=k:=by simp;omega
 unfold gW Rd;rw[hl];have hc:aA (l.take k)=(aA l).take (k*3):=by
  clear h hl h0
  induction l generalizing k with
  | nil=>simp[aA]
  | cons x l ih =>
   cases k with
   | zero=>simp[aA]
   | succ k =>
    have:=ih k (by simpa using hk)
    simp only[aA,List.take_succ_cons,List.flatMap_cons] at *;rw[this,show (k+1)*3=k*3+3 by omega]
    rfl
 have hlen:(aA l).length=l.length*3:=h.1
 rcases h.2 with ⟨e,e2⟩|⟨b,off,cap',e,h1,h2,hb,hcell⟩
 ·omega
 ·simp only[Value.slice.injEq] at e;obtain⟨rfl,rfl,rfl⟩:=e
  refine⟨by rw[hc,List.length_take];omega,.inr ⟨b,off,cap,rfl,by omega,h2,hb,fun j u hj=>hcell j u ?_⟩⟩
  rw[hc] at hj;rw[List.getElem?_take] at hj
  split at hj
  ·exact hj
  ·cases hj
theorem qj (a:Option Addr) (cap:Nat) (l:List En) (ep:Int) (w:World) (hv:gW w (Y a l.length cap) l) (hl:l.length≤1000) (hs:∀ e∈l,e.2.2.size≤1000) :
  Calls Tryz.prog 159 #[Y a l.length cap,I J ep] w fun e w'=>∃ n c,e=Zr (Y a n c)∧gW w' (Y a n c) (dW l ep)∧Below w.heap.size w w':=by
 obtain⟨_,cap',e',hc1,hc2⟩:=hv.shape
 simp only[Value.slice.injEq,true_and] at e';obtain⟨-,rfl⟩:=e'
 have HI:Hid (∀ k (hk:k<l.length) w,Calls Tryz.prog 75 #[.agg #[I J l[k].1,I J l[k].2.1,Z l[k].2.2]] w fun e w'=>e=Zr (.bool (eT l[k]))∧Below w.heap.size w w'):=fun k hk w=>kG l[k].1 l[k].2.1 l[k].2.2 w (by have:=hs l[k] (List.getElem_mem _);unfold maxLen;omega)
 have HS:Hid (∀ k (hk:k<l.length),regs (l.take (k+1))=regs (l.take k)+(if eT l[k] then 1 else 0)):=Cg l
 have HL:Hid (∀ k,regs (l.take k)≤l.length):=fun k=>Nat.le_trans (uR _) (by simp;omega)
 have HP:Hid (∀ k (hk:k<l.length),((List.range k).find? (fun i=>eT (l.getD i (0,0,⟨#[]⟩))&&((regs (l.take (i+1)):Int)==ep)))=O→(eT l[k]=true→(regs (l.take (k+1)):Int)=ep→dW l ep=l.take (k+1))∧(¬(eT l[k]=true∧(regs (l.take (k+1)):Int)=ep)→((List.range (k+1)).find? (fun i=>eT (l.getD i (0,0,⟨#[]⟩))&&((regs (l.take (i+1)):Int)==ep)))=O)):=fun k hk h0=>Bj l ep k hk h0
 have HF:Hid (((List.range l.length).find? (fun i=>eT (l.getD i (0,0,⟨#[]⟩))&&((regs (l.take (i+1)):Int)==ep)))=O→dW l ep=l):=fun q=>by unfold dW Ct;rw[q];simp
 have HT:Hid (∀ w' k,gW w' (Y a l.length cap) l→k≤l.length→0<k→gW w' (Y a k cap) (l.take k)):=fun w' k h1 h2 h3=>Ir h1 k h2 h3
 go_enter Tryz.func159,Tryz.ntmps159;go_wp2_with fail;go_loopw [5,6] (fun c i wr=>∃ k:Nat,k≤l.length∧i=I J k∧c=I J (regs (l.take k):Int)∧Below w.heap.size w wr∧((List.range k).find? (fun i=>eT (l.getD i (0,0,⟨#[]⟩))&&((regs (l.take (i+1)):Int)==ep)))=O) (fun _ i _=>l.length-(intOf i).toNat)
 case atStart=>exact⟨0,Nat.zero_le _,rfl,by simp[regs],Below.refl _ _,by simp⟩
 case round =>
  obtain⟨k,hk,rfl,rfl,hb,h0⟩:=hrel
  have H0:=ah h0;clear h0;by_cases hlt:k<l.length
  ·have hvr:=hv.below hb;obtain⟨b,o,rfl,_,c0,c1,c2⟩:=hvr.get k hlt
   have j1:(0:Int)≤(k:Int):=by omega
   have j2:(k:Int)<(l.length:Int):=by omega
   have hLk:=HL.out k;go_wp2_with fail;refine (HI.out k hlt _).mono ?_;rintro e w2 ⟨rfl,hb2⟩;have hb02:=hb.trans (hb2.mono hb.size);have hP:=HP.out k hlt H0.out;cases hq:eT l[k]
   ·go_wp2_with fail;go_round
    case rel=>exact⟨k+1,by omega,by go_num,by rw[HS.out k hlt,hq];rfl,hb02,hP.2 (by rw[hq];simp)⟩
    case measure=>simp[intOf];omega
   ·have hS1:regs (l.take (k+1))=regs (l.take k)+1:=by rw[HS.out k hlt,hq];rfl
    have HS1:=ah hS1;have HP2:=ah hP;clear hS1 hP;by_cases hr:((regs (l.take k):Int)+1)=ep
    ·have HU:Hid (dW l ep=l.take (k+1)):=HP2.out.1 hq (by rw[HS1.out];omega)
     have hE2:=ah (HT.out w2 (k+1) (hv.below hb02) (by omega) (by omega))
     have j3:(k:Int)+1≤(cap:Int):=by omega
     have j4:(0:Int)≤(k:Int)+1:=by omega
     have j5:((k:Int)+1).toNat=k+1:=by omega
     go_wp2;go_ret;exact⟨_,_,rfl,by rw[HU.out];exact hE2.out,hb02⟩
    ·have j3:((regs (l.take k):Int)+1==ep)=false:=by simpa using hr
     go_wp2_with fail;go_round
     case rel=>exact⟨k+1,by omega,by go_num,by rw[HS1.out];go_num,hb02,HP2.out.2 (by rw[HS1.out];intro q;exact hr (by have:=q.2;omega))⟩
     case measure=>simp[intOf];omega
  ·obtain rfl:k=l.length:=by omega
   go_wp2;go_ret;exact⟨_,_,rfl,by rw[HF.out H0.out];exact hv.below hb,hb⟩
end
def mI (c n:Int):Int:=(if c<0 then -(c+1) else c).tmod n
theorem BR (c:Int) (n:Nat) (hn:0<n):0≤mI c n∧mI c n<n:=by
 unfold mI
 split
 ·exact⟨Int.tmod_nonneg _ (by omega),Int.tmod_lt_of_pos _ (by omega)⟩
 ·exact⟨Int.tmod_nonneg _ (by omega),Int.tmod_lt_of_pos _ (by omega)⟩
theorem dH (c:Int) (n:Nat) (w:World) (hc0 : -9223372036854775808≤c) (hc1:c≤9223372036854775807) (hn:0<n) (hn1:n≤9223372036854775807):Calls Tryz.prog 13 #[I J c,I J n] w fun e w'=>e=Zr (I J (mI c n))∧w'=w:=by
 have hb:=BR c n hn;have HP:Hid (mI c n=(if c<0 then -(c+1) else c).tmod n):=rfl
 have hz:((n:Int)==0)=false:=by simp;omega
 by_cases h:c<0
 ·have HP1:Hid (mI c n=(-(c+1)).tmod n):=by rw[HP.out,if_pos h];trivial
  have b1:0≤(-(c+1)).tmod n∧(-(c+1)).tmod n<n:=by rw[← HP1.out];exact hb
  generalize mI c n=r at *;go_enter Tryz.func13,Tryz.ntmps13;go_wp2;go_ret;exact⟨by rw[HP1.out,Int.neg_tmod];rfl,rfl⟩
 ·have HP1:Hid (mI c n=c.tmod n):=by rw[HP.out,if_neg h];trivial
  have b1:0≤c.tmod n∧c.tmod n<n:=by rw[← HP1.out];exact hb
  generalize mI c n=r at *;go_enter Tryz.func13,Tryz.ntmps13;go_wp2;go_ret;exact⟨by rw[HP1.out,Int.tmod_eq_emod_of_nonneg (by omega)];rfl,rfl⟩
theorem Ef (n:Nat):∀ (w:World),n≤1000000 →
  Calls Tryz.prog 31 #[I J n] w fun e w'=>e=Zr (Z ⟨(jo n).toArray⟩)∧Below w.heap.size w w':=by
 induction n using Nat.strongRecOn with
 | ind n ih =>
 intro w hn;have hcv:=Kr;by_cases h:n<10
 ·clear ih;go_enter Tryz.func31,Tryz.ntmps31;go_wp2;go_ret;exact⟨jF (by rw[uw h]),(Below.refl _ _).alloc (Nat.le_refl _) _⟩
 ·have IH:Hid (∀ (w:World),(n / 10)≤1000000 →
   Calls Tryz.prog 31 #[I J (n / 10:Nat)] w fun e w'=>e=Zr (Z ⟨(jo (n / 10)).toArray⟩)∧Below w.heap.size w w'):=(ih (n / 10) (by omega))
  clear ih;go_enter Tryz.func31,Tryz.ntmps31;go_wp2_with fail;refine (IH.out _ (by omega)).mono ?_
  rintro e w1 ⟨rfl,hb⟩;have hl:=Kz (n / 10);generalize hx:jo (n / 10)=x at *;have Hx:Hid (jo (n / 10)=x):=hx
  clear hx;go_wp2;go_ret;refine⟨jF ?_,hb.trans (((Below.refl _ w1).alloc (Nat.le_refl _) _).mono hb.size)⟩
  rw[Ht h,Hx.out,IV,UInt8.ofNat_add];rfl
theorem gI (c:Int) (w:World) (h0:0≤c) (h1:c≤1000000):Calls Tryz.prog 31 #[I J c] w fun e w'=>e=Zr (Z (dg c))∧Below w.heap.size w w':=by
 obtain⟨k,rfl⟩:=Int.eq_ofNat_of_zero_le h0
 exact Ef k w (by omega)
theorem zH (s:ByteArray) (q:Int) (w:World) (hs:s.size≤1000000000) :
  Calls Tryz.prog 56 #[Z s,I J q] w fun e w'=>∃ b,e=Zr (.bool b)∧w'=w:=by
 go_enter Tryz.func56,Tryz.ntmps56;go_wp2_with fail;go_loopw [5] (fun i wr=>∃ k:Nat,k≤s.size∧i=I J k∧wr=w) (fun i _=>s.size-(intOf i).toNat)
 case atStart=>exact⟨0,Nat.zero_le _,rfl,rfl⟩
 case round =>
  obtain⟨k,hk,rfl,hbw⟩:=hrel
  subst hbw;by_cases hlt:k<s.size
  ·have j1:(0:Int)≤(k:Int):=by omega
   have j2:(k:Int)<(s.size:Int):=by omega
   go_wp2_with fail
   ·go_ret;exact⟨_,rfl,rfl⟩
   ·go_roundw
    case rel=>exact⟨k+1,by omega,by go_num,trivial⟩
    case measure=>simp[intOf];omega
  ·go_wp2;go_ret;exact⟨_,rfl,rfl⟩
def txt (l:List Int):ByteArray:=l.foldl (fun t x=>t++dg x) Ze
theorem KN (l:List Int) (h:∀ x∈l,x≤999999999):∀ t:ByteArray,(l.foldl (fun t x=>t++dg x) t).size≤t.size+10*l.length:=by
 induction l with
 | nil=>intro t;simp
 | cons a l ih =>
  intro t;have:=ih (fun x hx=>h x (by simp[hx])) (t++dg a)
  have b:=fO a (h a (by simp))
  simp only[List.foldl_cons,List.length_cons,ByteArray.size_append] at *;omega
theorem G8 (l:List Int) (h:∀ x∈l,x≤999999999):(txt l).size≤10*l.length:=by
 have:=KN l h Ze
 simpa [txt] using this
theorem vV (v:Value) (l:List Int) (w:World) (hv:Ints w v l) (hl:l.length≤1000) (hb:∀ x∈l,0≤x∧x≤1000000) :
  Calls Tryz.prog 107 #[v] w fun e w'=>e=Zr (Z (txt l))∧Below w.heap.size w w':=by
 obtain⟨a,cap,rfl,hcap,hm⟩:=hv.shape
 have HS:Hid (∀ k,(txt (l.take k)).size≤10000):=fun k=>by
  have:=G8 (l.take k) (fun x hx=>by have:=(hb x (List.mem_of_mem_take hx)).2;omega)
  have:=List.length_take_le k l
  have:=List.length_take_le' k l
  omega
 have HN:Hid (∀ k,(h:k<l.length)→∀ w,Calls Tryz.prog 31 #[I J l[k]] w fun e w'=>e=Zr (Z (dg l[k]))∧Below w.heap.size w w'):=fun k h w=>gI _ w (hb _ (List.getElem_mem h)).1 (hb _ (List.getElem_mem h)).2
 have HD:Hid (∀ k,(h:k<l.length)→(dg l[k]).size≤10):=fun k h=>fO _ (by have:=(hb _ (List.getElem_mem h)).2;omega)
 have HT:Hid (∀ k,(h:k<l.length)→txt (l.take (k+1))=txt (l.take k)++dg l[k]):=fun k h=>by
  rw[List.take_succ_eq_append_getElem h];unfold txt;rw[List.foldl_append]
  rfl
 have HZ:Hid (txt (l.take 0)=⟨#[]⟩):=rfl
 go_enter Tryz.func107,Tryz.ntmps107;go_wp2_with fail;go_loopw [3,4] (fun t i wr=>∃ k:Nat,k≤l.length∧i=I J k∧t=Z (txt (l.take k))∧Below w.heap.size w wr) (fun _ i _=>l.length-(intOf i).toNat)
 case atStart=>exact⟨0,Nat.zero_le _,rfl,rfl,Below.refl _ _⟩
 case round =>
  obtain⟨k,hk,rfl,rfl,hbw⟩:=hrel
  by_cases hlt:k<l.length
  ·obtain⟨b1,o1,rfl,_,c1⟩:=(hv.below hbw).get k hlt
   have j1:(0:Int)≤(k:Int):=by omega
   have j2:(k:Int)<(l.length:Int):=by omega
   have s1:=HS.out k;have s2:=HD.out k hlt;have HQ:=ah (HN.out k hlt);have HE:=ah (HT.out k hlt);generalize l[k]=x at *;generalize dg x=d at *;generalize txt (l.take k)=t at *;have n1:¬9223372036854775807<t.size+d.size:=by omega
   go_wp2_with fail;refine (HQ.out _).mono ?_;rintro e w1 ⟨rfl,hb1⟩;go_wp2;go_roundw
   case rel=>exact⟨k+1,by omega,by go_num,by rw[HE.out],hbw.trans (hb1.mono hbw.size)⟩
   case measure=>simp[intOf];omega
  ·have hkl:k=l.length:=by omega
   have HF:Hid (txt (l.take k)=txt l):=by rw[hkl,List.take_length];trivial
   go_wp2;go_ret;exact⟨by rw[HF.out];rfl,hbw⟩
section
variable (br:Nat) (vw:Value) (ws:List ByteArray) (nx:Nat) (n:Int) (wr:Bool) (w:World) (h:aJ w br vw ws nx n wr) (hl:ws.length≤100000) (hz:∀ x∈ws,x.size≤1000)
theorem Ae (br:Nat) (vw:Value) (ws:List ByteArray) (nx:Nat) (n:Int) (wr:Bool) (w:World) (h:aJ w br vw ws nx n wr) (hl:ws.length≤100000) (hz:∀ x∈ws,x.size≤1000) :
  Calls Tryz.prog 71 #[Zp (some ⟨br,0,O⟩),I .u8 109] w fun e w'=>e=Zr (.agg #[I .u8 109,I J 0,Y O 0 0,I J (aC (wrd ws (nxt ws (nxt ws nx))) 0 999),I J 0,I J 0,I J (aC (wrd ws nx) 1 9),I J (aC (wrd ws (nxt ws nx)) 1 999),Z (⟨#[114]⟩++sZ (wrd ws (nxt ws (nxt ws (nxt ws nx))))),I J 0,I J 0,I J 0,Y O 0 0,Y O 0 0,Y O 0 0]) ∧
   aK w w' br vw ws (nxt ws (nxt ws (nxt ws (nxt ws nx)))) n ((((wr||!au (wrd ws nx).data.toList 1 9)||!au (wrd ws (nxt ws nx)).data.toList 1 999)||!au (wrd ws (nxt ws (nxt ws nx))).data.toList 0 999)||!iX (wrd ws (nxt ws (nxt ws (nxt ws nx)))).data.toList):=by
 have hlb:=lt_of_block h.block;have HN1:Hid (∀ w',aJ w' br vw ws nx n wr→Calls Tryz.prog 114 #[Zp (some ⟨br,0,O⟩),I J 1,I J 9] w' fun e w''=>e=Zr (I J (aC (wrd ws nx) 1 9))∧aK w' w'' br vw ws (nxt ws nx) n (wr||!au (wrd ws nx).data.toList 1 9)):=fun w' q=>dx br vw ws nx n wr w' q hl hz 1 9 (by omega) (by omega)
 generalize aC (wrd ws nx) 1 9=v1 at *;generalize (wr||!au (wrd ws nx).data.toList 1 9)=wr1 at *
 generalize nxt ws nx=nx1 at *;have HN2:Hid (∀ w',aJ w' br vw ws nx1 n wr1→Calls Tryz.prog 114 #[Zp (some ⟨br,0,O⟩),I J 1,I J 999] w' fun e w''=>e=Zr (I J (aC (wrd ws nx1) 1 999))∧aK w' w'' br vw ws (nxt ws nx1) n (wr1||!au (wrd ws nx1).data.toList 1 999)):=fun w' q=>dx br vw ws nx1 n wr1 w' q hl hz 1 999 (by omega) (by omega)
 generalize aC (wrd ws nx1) 1 999=v2 at *;generalize (wr1||!au (wrd ws nx1).data.toList 1 999)=wr2 at *
 generalize nxt ws nx1=nx2 at *;have HN3:Hid (∀ w',aJ w' br vw ws nx2 n wr2→Calls Tryz.prog 114 #[Zp (some ⟨br,0,O⟩),I J 0,I J 999] w' fun e w''=>e=Zr (I J (aC (wrd ws nx2) 0 999))∧aK w' w'' br vw ws (nxt ws nx2) n (wr2||!au (wrd ws nx2).data.toList 0 999)):=fun w' q=>dx br vw ws nx2 n wr2 w' q hl hz 0 999 (by omega) (by omega)
 generalize aC (wrd ws nx2) 0 999=v3 at *;generalize (wr2||!au (wrd ws nx2).data.toList 0 999)=wr3 at *
 generalize nxt ws nx2=nx3 at *;have hzw:=jR (nx:=nx3) hz;have HD4:Hid (∀ w',aJ w' br vw ws nx3 n wr3→Calls Tryz.prog 116 #[Zp (some ⟨br,0,O⟩)] w' fun e w''=>e=Zr (Z (sZ (wrd ws nx3)))∧aK w' w'' br vw ws (nxt ws nx3) n (wr3||!iX (wrd ws nx3).data.toList)):=fun w' q=>GL br vw ws nx3 n wr3 w' q hl hz
 have hsz:(sZ (wrd ws nx3)).size≤1000:=by unfold sZ;split <;> first|exact hzw|exact Nat.zero_le _
 generalize sZ (wrd ws nx3)=v4 at *;generalize (wr3||!iX (wrd ws nx3).data.toList)=wr4 at *
 generalize nxt ws nx3=nx4 at *;have M0:=MS.start h 109;go_enter Tryz.func71,Tryz.ntmps71;go_wp2_with fail;simp only[iK] at M0;generalize ((w.alloc _).alloc _)=wA at M0 ⊢;refine (HN1.out _ M0.rdr).mono ?_;rintro e u1a ⟨rfl,hP⟩;have A1:=M0.call hP;obtain⟨x0,x1,x2,x3,x4,x5,x6,x7,x8,x9,x10,x11,x12,x13,x14,xf⟩:=A1.msg.all
 have B1:MS w (u1a.setCell ⟨w.heap.size+1,6,O⟩ (I J v1)) br vw ws nx1 n wr1 #[I .u8 109,I J 0,Y O 0 0,I J 0,I J 0,I J 0,I J v1,I J 0,Z ⟨#[]⟩,I J 0,I J 0,I J 0,Y O 0 0,Y O 0 0,Y O 0 0]:=A1.put 6 _
 clear A1 M0 hP;go_wp2_with fail;generalize u1a.setCell ⟨w.heap.size+1,6,O⟩ (I J v1)=u1b at *;clear x0 x1 x2 x3 x4 x5 x6 x7 x8 x9 x10 x11 x12 x13 x14 xf;refine (HN2.out _ B1.rdr).mono ?_;rintro e u2a ⟨rfl,hP⟩;have A2:=B1.call hP;obtain⟨x0,x1,x2,x3,x4,x5,x6,x7,x8,x9,x10,x11,x12,x13,x14,xf⟩:=A2.msg.all
 have B2:MS w (u2a.setCell ⟨w.heap.size+1,7,O⟩ (I J v2)) br vw ws nx2 n wr2 #[I .u8 109,I J 0,Y O 0 0,I J 0,I J 0,I J 0,I J v1,I J v2,Z ⟨#[]⟩,I J 0,I J 0,I J 0,Y O 0 0,Y O 0 0,Y O 0 0]:=A2.put 7 _
 clear A2 B1 hP;go_wp2_with fail;generalize u2a.setCell ⟨w.heap.size+1,7,O⟩ (I J v2)=u2b at *;clear x0 x1 x2 x3 x4 x5 x6 x7 x8 x9 x10 x11 x12 x13 x14 xf;refine (HN3.out _ B2.rdr).mono ?_;rintro e u3a ⟨rfl,hP⟩;have A3:=B2.call hP;obtain⟨x0,x1,x2,x3,x4,x5,x6,x7,x8,x9,x10,x11,x12,x13,x14,xf⟩:=A3.msg.all
 have B3:MS w (u3a.setCell ⟨w.heap.size+1,3,O⟩ (I J v3)) br vw ws nx3 n wr3 #[I .u8 109,I J 0,Y O 0 0,I J v3,I J 0,I J 0,I J v1,I J v2,Z ⟨#[]⟩,I J 0,I J 0,I J 0,Y O 0 0,Y O 0 0,Y O 0 0]:=A3.put 3 _
 clear A3 B2 hP;go_wp2_with fail;generalize u3a.setCell ⟨w.heap.size+1,3,O⟩ (I J v3)=u3b at *;clear x0 x1 x2 x3 x4 x5 x6 x7 x8 x9 x10 x11 x12 x13 x14 xf;refine (HD4.out _ B3.rdr).mono ?_;rintro e u4a ⟨rfl,hP⟩;have A4:=B3.call hP;obtain⟨x0,x1,x2,x3,x4,x5,x6,x7,x8,x9,x10,x11,x12,x13,x14,xf⟩:=A4.msg.all
 have B4:MS w (u4a.setCell ⟨w.heap.size+1,8,O⟩ (Z (⟨#[114]⟩++v4))) br vw ws nx4 n wr4 #[I .u8 109,I J 0,Y O 0 0,I J v3,I J 0,I J 0,I J v1,I J v2,Z (⟨#[114]⟩++v4),I J 0,I J 0,I J 0,Y O 0 0,Y O 0 0,Y O 0 0]:=A4.put 8 _
 clear A4 B3 hP;go_upto_region 10 with fail
 generalize u4a.setCell ⟨w.heap.size+1,8,O⟩ (Z (⟨#[114]⟩++v4))=u4b at *;clear x0 x1 x2 x3 x4 x5 x6 x7 x8 x9 x10 x11 x12 x13 x14 xf;obtain⟨x0,x1,x2,x3,x4,x5,x6,x7,x8,x9,x10,x11,x12,x13,x14,xf⟩:=B4.msg.all
 obtain⟨y0,y1,y2,y3,y4,y5,y6,y7,y8,y9,y10,y11,y12,y13,y14,yf⟩:=B4.zero.all
 have HG:Hid (aK w (dF u4b w.heap.size 0 [I .u8 109,I J 0,Y O 0 0,I J v3,I J 0,I J 0,I J v1,I J v2,Z (⟨#[114]⟩++v4),I J 0,I J 0,I J 0,Y O 0 0,Y O 0 0,Y O 0 0]) br vw ws nx4 n wr4∧(loadVar 68 ⟨w.heap.size,0,O⟩).run Tryz.prog (dF u4b w.heap.size 0 [I .u8 109,I J 0,Y O 0 0,I J v3,I J 0,I J 0,I J v1,I J v2,Z (⟨#[114]⟩++v4),I J 0,I J 0,I J 0,Y O 0 0,Y O 0 0,Y O 0 0])=.ok (.agg #[I .u8 109,I J 0,Y O 0 0,I J v3,I J 0,I J 0,I J v1,I J v2,Z (⟨#[114]⟩++v4),I J 0,I J 0,I J 0,Y O 0 0,Y O 0 0,Y O 0 0]) (dF u4b w.heap.size 0 [I .u8 109,I J 0,Y O 0 0,I J v3,I J 0,I J 0,I J v1,I J v2,Z (⟨#[114]⟩++v4),I J 0,I J 0,I J 0,Y O 0 0,Y O 0 0,Y O 0 0])):=B4.fin
 clear B4;go_wp2;exact bodyPost_ret (bI rfl _ _ _ rfl HG.out.2) rfl ⟨rfl,HG.out.1⟩
end
end Go.Proofs.YtbnihoahhomooaaGreatDoor
