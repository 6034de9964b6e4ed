import Derived.Test.YtinaollfjiddmaaGreatDoorA06
import Derived.Deep.MidRow
set_option maxRecDepth 100000
set_option maxHeartbeats 8000000
set_option linter.all false
namespace Go.Proofs.YtinaollfjiddmaaGreatDoor
open Go.Value renaming int→I,slice→Y,string→Z,pointer→Zp
open Go.Ending renaming returned→Zr
open _root_.ByteArray renaming empty→Ze
open Go.IntKind renaming i64→J
open Option renaming none→O
open Go.RowKit
theorem tL (v:Value) (l:List Int) (vi:Int) (w:World) (hv:Ints w v l) (hl:l.length≤1000) (h9:vi≤999999) :
  Calls Tryz.prog 128 #[v,I J vi] w fun e w'=>e=Zr (I J (fJ l vi))∧w'=w:=by
 obtain⟨a,j,rfl,_,_⟩:=hv.shape
 by_cases h:l.length=0
 ·have f:Hid (fJ l vi = -1):=by unfold Hid fJ;rw[if_pos (.inl h)]
  have g:l=[]:=List.eq_nil_of_length_eq_zero h
  subst g;go_enter Tryz.func128,Tryz.ntmps128;go_wp2;go_ret;exact⟨oz f.out.symm,rfl⟩
 ·have g:¬(l.length:Int)=0:=by omega
  have i:¬l=[]:=fun n=>h (by rw[n];rfl)
  by_cases p:vi<0
  ·have f:Hid (fJ l vi = -1):=by unfold Hid fJ;rw[if_pos (.inr p)]
   go_enter Tryz.func128,Tryz.ntmps128;go_wp2;go_ret;exact⟨oz f.out.symm,rfl⟩
  ·obtain⟨k,rfl⟩:∃ k:Nat,vi=k:=⟨vi.toNat,by omega⟩
   have d:k % l.length<l.length:=Nat.mod_lt _ (by omega)
   have q:(k:Int).tmod (l.length:Int)=((k % l.length:Nat):Int):=by
    rw[Int.tmod_eq_emod_of_nonneg (by omega)]
    exact (Int.natCast_emod k l.length).symm
   have r:IntKind.i64.wrap ((k:Int).tmod (l.length:Int))=((k % l.length:Nat):Int):=by rw[q];exact gq (by omega) (by omega)
   have f:Hid (fJ l k=l[k % l.length]):=by
    unfold Hid fJ;rw[if_neg (by omega),show ((k:Int) % (l.length:Int))=((k % l.length:Nat):Int) from (Int.natCast_emod k l.length).symm,Int.toNat_natCast,List.getD_eq_getElem?_getD,List.getElem?_eq_getElem d]
    rfl
   obtain⟨b,o,rfl,_,c⟩:=hv.get _ d
   generalize k % l.length=m at *;have s:(0:Int)≤(m:Int):=by omega
   have t:(m:Int)<(l.length:Int):=by omega
   go_enter Tryz.func128,Tryz.ntmps128;go_wp2;go_ret;exact⟨oz f.out.symm,rfl⟩
theorem ql (v:Value) (l:List Int) (w:World) (hv:Ints w v l) (hl:l.length≤1000) :
  Calls Tryz.prog 89 #[v] w fun e w'=>e=Zr (I J (eP l))∧w'=w:=by
 obtain⟨a,b,rfl,_,_⟩:=hv.shape
 have c:IntKind.i64.wrap ((l.length:Int)-1)=(l.length:Int)-1:=gq (by omega) (by omega)
 have d : -1≤((l.length:Int)-1).tdiv 2∧((l.length:Int)-1).tdiv 2≤1000:=by
  by_cases h:l.length=0
  ·rw[h];decide
  ·rw[Int.tdiv_eq_ediv_of_nonneg (by omega)];omega
 have f:IntKind.i64.wrap (((l.length:Int)-1).tdiv 2)=((l.length:Int)-1).tdiv 2:=gq (by omega) (by omega)
 unfold eP;go_enter Tryz.func89,Tryz.ntmps89;go_wp2;go_ret;exact⟨rfl,rfl⟩
theorem Cr (l:List En) (k:Nat) (hk:k<l.length):regs (l.take (k+1))=regs (l.take k)+(if fA l[k] then 1 else 0):=by
 unfold regs;rw[List.take_succ_eq_append_getElem hk,List.countP_append,List.countP_singleton]
theorem qm (v:Value) (l:List En) (w:World) (hv:iw w v l) (hl:l.length≤1000) (hs:∀ e∈l,e.2.2.size≤1000) :
  Calls Tryz.prog 80 #[v] w fun e w'=>e=Zr (I J (regs l:Int))∧Below w.heap.size w w':=by
 obtain⟨a,p,rfl,_,_⟩:=hv.shape
 have q:Hid (∀ k (h:k<l.length) w,Calls Tryz.prog 74 #[.agg #[I J l[k].1,I J l[k].2.1,Z l[k].2.2]] w fun e w'=>e=Zr (.bool (fA l[k]))∧Below w.heap.size w w'):=fun k h w=>lK l[k].1 l[k].2.1 l[k].2.2 w (by have:=hs l[k] (List.getElem_mem _);unfold maxLen;omega)
 have j:Hid (∀ k (h:k<l.length),regs (l.take (k+1))=regs (l.take k)+(if fA l[k] then 1 else 0)):=Cr l
 have r:Hid (∀ k,regs (l.take k)≤l.length):=fun k=>Nat.le_trans (vQ _) (by simp;omega)
 have s:Hid (regs (l.take l.length)=regs l):=by unfold Hid;rw[List.take_length]
 go_enter Tryz.func80,Tryz.ntmps80;go_wp2_with fail;go_loopw [3,4] (fun c i wr=>∃ k:Nat,k≤l.length∧i=I J k∧c=I J (regs (l.take k):Int)∧Below w.heap.size w wr) (fun _ i _=>l.length-(intOf i).toNat)
 case atStart=>exact⟨0,Nat.zero_le _,rfl,by simp[regs],Below.refl _ _⟩
 case round =>
  obtain⟨k,h,rfl,rfl,g⟩:=hrel
  by_cases d:k<l.length
  ·have m:=hv.below g;obtain⟨b,o,rfl,_,c0,c1,c2⟩:=m.get k d
   have x:(0:Int)≤(k:Int):=by omega
   have y:(k:Int)<(l.length:Int):=by omega
   have t:=r.out k;go_wp2_with fail;refine (q.out k d _).mono ?_;rintro e z ⟨rfl,n⟩;have f:=g.trans (n.mono g.size);have u:=j.out k d;cases hq:fA l[k]
   ·go_wp2_with fail;go_round
    case rel=>exact⟨k+1,by omega,by go_num,by rw[j.out k d,hq];rfl,f⟩
    case measure=>simp[intOf];omega
   ·go_wp2_with fail;go_round
    case rel=>exact⟨k+1,by omega,by go_num,by rw[j.out k d,hq];go_num,f⟩
    case measure=>simp[intOf];omega
  ·obtain rfl:k=l.length:=by omega
   go_wp2;go_ret;exact⟨oz (by rw[s.out]),g⟩
theorem jE (P:Pm) (vl vg vo vL:Value) (w:World):Calls Tryz.prog 94 #[.agg (pmC P vl vg vo vL)] w fun e w'=>e=Zr (.bool (Rp.qW P))∧Below w.heap.size w w':=by
 have a:∀ o,Below w.heap.size w (w.alloc o):=fun o=>(Below.refl _ w).alloc (Nat.le_refl _) o
 have b:Hid (Rp.qW P=((P.kind==104)||(P.kind==118))):=rfl
 unfold pmC;cases h1:(P.kind==104)
 ·cases h2:(P.kind==118)
  ·go_enter Tryz.func94,Tryz.ntmps94;go_wp2;go_ret;exact⟨bC (by rw[b.out,h1,h2];rfl),a _⟩
  ·go_enter Tryz.func94,Tryz.ntmps94;go_wp2;go_ret;exact⟨bC (by rw[b.out,h1,h2];rfl),a _⟩
 ·go_enter Tryz.func94,Tryz.ntmps94;go_wp2;go_ret;exact⟨bC (by rw[b.out,h1];rfl),a _⟩
section
variable {w:World} {b bl:Nat} {W F:List Nat} {R:Rp} {V:Rv}
theorem mK (h:au w b bl W F R V) (hR:Ok R) (x:Int):Calls Tryz.prog 16 #[Zp (some ⟨b,0,O⟩),I J x] w fun e w'=>e=Zr (.bool (R.mem x))∧w'=w:=by
 have f:=hR.g.1;have c7:=h.c7;obtain⟨a,c,i⟩:=h.g7
 have d:=h.grp;rw[i] at c7 d;have HC:Hid (Calls Tryz.prog 38 #[Y a R.grp.length c,I J x] w fun e w'=>e=Zr (.bool (R.mem x))∧w'=w):=mH _ R.grp x w d (by omega)
 go_enter Tryz.func16,Tryz.ntmps16;go_wp2_with fail;refine HC.out.mono ?_;rintro e w' ⟨rfl,rfl⟩;go_wp2;go_ret;exact⟨rfl,rfl⟩
theorem jf (h:au w b bl W F R V) (hR:Ok R):Calls Tryz.prog 120 #[Zp (some ⟨b,0,O⟩)] w fun e w'=>e=Zr (I J R.gZ)∧∃ n,w'=w.drewN n:=by
 have f:=hR.g.1;have i:=hR.vi.2;have c7:=h.c7;have c5:=h.c5;obtain⟨a,c,j⟩:=h.g7
 have d:=h.grp;rw[j] at c7 d;have HC:Hid (∀ w,Ints w (Y a R.grp.length c) R.grp→Calls Tryz.prog 128 #[Y a R.grp.length c,I J R.view] w fun e w'=>e=Zr (I J R.gZ)∧w'=w):=fun w d=>tL _ R.grp R.view w d (by omega) (by omega)
 go_enter Tryz.func120,Tryz.ntmps120;go_wp2_with fail;go_quiet ((go_at_call 128;exact Calls.quiet_of_same (HC.out _ (d.below (below_drewN (Below.refl _ _) _)))))
 go_wp2;go_ret;exact⟨rfl,_,rfl⟩
theorem au.drewN (h:au w b bl W F R V) (n:Nat):au (w.drewN n) b bl W F R V:=h.below (below_drewN (Below.refl _ _) _)
theorem jR (h:au w b bl W F R V) (hR:Ok R):Calls Tryz.prog 72 #[Zp (some ⟨b,0,O⟩)] w fun e w'=>e=Zr (.bool R.dG)∧∃ n,w'=w.drewN n:=by
 have c0:=h.c0;have HC:Hid (∀ n,Calls Tryz.prog 120 #[Zp (some ⟨b,0,O⟩)] (w.drewN n) fun e w'=>e=Zr (I J R.gZ)∧∃ m,w'=(w.drewN n).drewN m):=fun n=>jf (h.drewN n) hR
 have a:Hid (R.dG=(R.gZ==R.id)):=rfl
 go_enter Tryz.func72,Tryz.ntmps72;go_wp2_with fail;go_quiet ((go_at_call 120;exact Calls.quiet_of (HC.out _)))
 go_wp2;go_ret;exact⟨bC (by rw[a.out]),_,rfl⟩
theorem xM (h:au w b bl W F R V) (hR:Ok R):Calls Tryz.prog 41 #[Zp (some ⟨b,0,O⟩)] w fun e w'=>e=Zr (.bool R.leads)∧∃ n,w'=w.drewN n:=by
 have c3:=h.c3;have HC:Hid (Calls Tryz.prog 72 #[Zp (some ⟨b,0,O⟩)] w fun e w'=>e=Zr (.bool R.dG)∧∃ n,w'=w.drewN n):=jR h hR
 have a:Hid (R.leads=((R.status==1)&&R.dG)):=rfl
 cases h1:(R.status==1)
 ·go_enter Tryz.func41,Tryz.ntmps41;go_wp2;go_ret;exact⟨bC (by rw[a.out,h1];rfl),0,rfl⟩
 ·go_enter Tryz.func41,Tryz.ntmps41;go_wp2_with fail;refine HC.out.mono ?_;rintro e w' ⟨rfl,n,rfl⟩;go_wp2;go_ret;exact⟨bC (by rw[a.out,h1];simp),n,rfl⟩
theorem yt (h:au w b bl W F R V):Calls Tryz.prog 83 #[Zp (some ⟨b,0,O⟩)] w fun e w'=>e=Zr (.bool R.carries)∧w'=w:=by
 have c3:=h.c3;have a:Hid (R.carries=((R.status==1)||(R.status==2))):=rfl
 cases h1:(R.status==1)
 ·go_enter Tryz.func83,Tryz.ntmps83;go_wp2;go_ret;exact⟨bC (by rw[a.out,h1];simp),rfl⟩
 ·go_enter Tryz.func83,Tryz.ntmps83;go_wp2;go_ret;exact⟨bC (by rw[a.out,h1];simp),rfl⟩
theorem Bt (h:au w b bl W F R V) (hR:Ok R):Calls Tryz.prog 76 #[Zp (some ⟨b,0,O⟩)] w fun e w'=>e=Zr (.bool R.closing)∧Below w.heap.size w w':=by
 have c4:=h.c4;have c9:=h.c9;have r:=hR.lg;have i:∀ e∈R.log,e.2.2.size≤1000:=fun e j=>by have:=(hR.le e j).2.2.2.2.2;omega
 obtain⟨a,k,l⟩:=h.g9
 have f:=h.ents;rw[l] at c9 f;have s:=cell_regrown c4;have t:=cell_regrown c9;have m:=fun d n=>Calls.regrown_of (qm _ R.log _ (f.below (below_regrown w d n)) (by omega) i)
 have o:Hid (R.closing=decide (R.epoch<(regs R.log:Int))):=rfl
 clear i f;go_enter Tryz.func76,Tryz.ntmps76;go_wp2_with fail;refine wp_region_quiet_below (by kernel_rfl) (by kernel_rfl) ?_
 repeat (quiet_step (first|exact m _ _))
 refine wpQuiet_nil ?_;intro _ hw';obtain⟨⟨p,g⟩,c⟩:=hw'
 subst c;have q:=below_regrown w p g;go_wp2;go_ret;exact⟨bC (by rw[o.out]),q⟩
theorem Bv (l:List En) (e:Int) (k:Nat) (hk:k<l.length) (h0:((List.range k).find? (fun i=>fA (l.getD i (0,0,⟨#[]⟩))&&((regs (l.take (i+1)):Int)==e)))=O) :
  (fA l[k]=true→(regs (l.take (k+1)):Int)=e→dP l e=l.take (k+1))∧(¬(fA l[k]=true∧(regs (l.take (k+1)):Int)=e)→((List.range (k+1)).find? (fun i=>fA (l.getD i (0,0,⟨#[]⟩))&&((regs (l.take (i+1)):Int)==e)))=O):=by
 have b:l.getD k (0,0,⟨#[]⟩)=l[k]:=by simp[List.getD,hk]
 constructor
 ·intro h1 h2;unfold dP CK;have:(List.range l.length).find? (fun i=>fA (l.getD i (0,0,⟨#[]⟩))&&((regs (l.take (i+1)):Int)==e))=some k:=by
   obtain⟨d,a⟩:∃ d,l.length=k+(1+d):=⟨l.length-k-1,by omega⟩
   rw[a,List.range_add,List.find?_append,h0];rw[show 1+d=d+1 by omega,List.range_succ_eq_map]
   simp[h1,h2,hk]
  rw[this]
 ·intro h1;rw[List.range_succ,List.find?_append,h0];simp[hk];intro q r;exact h1 ⟨q,r⟩
theorem I9 {w:World} {a:Option Addr} {n cap:Nat} {l:List En} (h:iw w (Y a n cap) l) (k:Nat) (hk:k≤l.length) (h0:0<k):iw w (Y a k cap) (l.take k):=by
 have g:(l.take k).length=k:=by simp;omega
 unfold iw Rd;rw[g];have i:aA (l.take k)=(aA l).take (k*3):=by
  clear h g h0
  induction l generalizing k with
  | nil=>simp[aA]
  | cons x l ih =>
   cases k with
   | zero=>simp[aA]
   | succ k =>
    have:=ih k (by simpa using hk)
    simp only[aA,List.take_succ_cons,List.flatMap_cons] at *;rw[this,show (k+1)*3=k*3+3 by omega]
    rfl
 have m:(aA l).length=l.length*3:=h.1
 rcases h.2 with ⟨e,r⟩|⟨b,f,o,e,s,p,q,c⟩
 ·omega
 ·simp only[Value.slice.injEq] at e;obtain⟨rfl,rfl,rfl⟩:=e
  refine⟨by rw[i,List.length_take];omega,.inr ⟨b,f,cap,rfl,by omega,p,q,fun j u d=>c j u ?_⟩⟩
  rw[i] at d;rw[List.getElem?_take] at d
  split at d
  ·exact d
  ·cases d
theorem qF (a:Option Addr) (cap:Nat) (l:List En) (ep:Int) (w:World) (hv:iw w (Y a l.length cap) l) (hl:l.length≤1000) (hs:∀ e∈l,e.2.2.size≤1000) :
  Calls Tryz.prog 158 #[Y a l.length cap,I J ep] w fun e w'=>∃ n c,e=Zr (Y a n c)∧iw w' (Y a n c) (dP l ep)∧Below w.heap.size w w':=by
 obtain⟨_,x,y,C,D⟩:=hv.shape
 simp only[Value.slice.injEq,true_and] at y;obtain⟨-,rfl⟩:=y
 have E:Hid (∀ k (h:k<l.length) w,Calls Tryz.prog 74 #[.agg #[I J l[k].1,I J l[k].2.1,Z l[k].2.2]] w fun e w'=>e=Zr (.bool (fA l[k]))∧Below w.heap.size w w'):=fun k h w=>lK l[k].1 l[k].2.1 l[k].2.2 w (by have:=hs l[k] (List.getElem_mem _);unfold maxLen;omega)
 have z:Hid (∀ k (h:k<l.length),regs (l.take (k+1))=regs (l.take k)+(if fA l[k] then 1 else 0)):=Cr l
 have F:Hid (∀ k,regs (l.take k)≤l.length):=fun k=>Nat.le_trans (vQ _) (by simp;omega)
 have G:Hid (∀ k (h:k<l.length),((List.range k).find? (fun i=>fA (l.getD i (0,0,⟨#[]⟩))&&((regs (l.take (i+1)):Int)==ep)))=O→(fA l[k]=true→(regs (l.take (k+1)):Int)=ep→dP l ep=l.take (k+1))∧(¬(fA l[k]=true∧(regs (l.take (k+1)):Int)=ep)→((List.range (k+1)).find? (fun i=>fA (l.getD i (0,0,⟨#[]⟩))&&((regs (l.take (i+1)):Int)==ep)))=O)):=fun k h r=>Bv l ep k h r
 have H:Hid (((List.range l.length).find? (fun i=>fA (l.getD i (0,0,⟨#[]⟩))&&((regs (l.take (i+1)):Int)==ep)))=O→dP l ep=l):=fun q=>by unfold dP CK;rw[q];simp
 have K:Hid (∀ w' k,iw w' (Y a l.length cap) l→k≤l.length→0<k→iw w' (Y a k cap) (l.take k)):=fun w' k L M N=>I9 L k M N
 go_enter Tryz.func158,Tryz.ntmps158;go_wp2_with fail;go_loopw [5,6] (fun c i wr=>∃ k:Nat,k≤l.length∧i=I J k∧c=I J (regs (l.take k):Int)∧Below w.heap.size w wr∧((List.range k).find? (fun i=>fA (l.getD i (0,0,⟨#[]⟩))&&((regs (l.take (i+1)):Int)==ep)))=O) (fun _ i _=>l.length-(intOf i).toNat)
 case atStart=>exact⟨0,Nat.zero_le _,rfl,by simp[regs],Below.refl _ _,by simp⟩
 case round =>
  obtain⟨k,h,rfl,rfl,j,r⟩:=hrel
  have A:=ah r;clear r;by_cases f:k<l.length
  ·have s:=hv.below j;obtain⟨b,o,rfl,_,c0,c1,c2⟩:=s.get k f
   have T:(0:Int)≤(k:Int):=by omega
   have U:(k:Int)<(l.length:Int):=by omega
   have P:=F.out k;go_wp2_with fail;refine (E.out k f _).mono ?_;rintro e Q ⟨rfl,t⟩;have d:=j.trans (t.mono j.size);have u:=G.out k f A.out;cases hq:fA l[k]
   ·go_wp2_with fail;go_round
    case rel=>exact⟨k+1,by omega,by go_num,by rw[z.out k f,hq];rfl,d,u.2 (by rw[hq];simp)⟩
    case measure=>simp[intOf];omega
   ·have m:regs (l.take (k+1))=regs (l.take k)+1:=by rw[z.out k f,hq];rfl
    have g:=ah m;have p:=ah u;clear m u;by_cases B:((regs (l.take k):Int)+1)=ep
    ·have R:Hid (dP l ep=l.take (k+1)):=p.out.1 hq (by rw[g.out];omega)
     have v:=ah (K.out Q (k+1) (hv.below d) (by omega) (by omega))
     have S:(k:Int)+1≤(cap:Int):=by omega
     have V:(0:Int)≤(k:Int)+1:=by omega
     have W:((k:Int)+1).toNat=k+1:=by omega
     go_wp2;go_ret;exact⟨_,_,rfl,by rw[R.out];exact v.out,d⟩
    ·have S:((regs (l.take k):Int)+1==ep)=false:=by simpa using B
     go_wp2_with fail;go_round
     case rel=>exact⟨k+1,by omega,by go_num,by rw[g.out];go_num,d,p.out.2 (by rw[g.out];intro q;exact B (by have:=q.2;omega))⟩
     case measure=>simp[intOf];omega
  ·obtain rfl:k=l.length:=by omega
   go_wp2;go_ret;exact⟨_,_,rfl,by rw[H.out A.out];exact hv.below j,j⟩
end
def nA (c n:Int):Int:=(if c<0 then -(c+1) else c).tmod n
theorem Cg (c:Int) (n:Nat) (hn:0<n):0≤nA c n∧nA c n<n:=by
 unfold nA
 split
 ·exact⟨Int.tmod_nonneg _ (by omega),Int.tmod_lt_of_pos _ (by omega)⟩
 ·exact⟨Int.tmod_nonneg _ (by omega),Int.tmod_lt_of_pos _ (by omega)⟩
theorem dR (c:Int) (n:Nat) (w:World) (hc0 : -9223372036854775808≤c) (hc1:c≤9223372036854775807) (hn:0<n) (hn1:n≤9223372036854775807):Calls Tryz.prog 12 #[I J c,I J n] w fun e w'=>e=Zr (I J (nA c n))∧w'=w:=by
 have b:=Cg c n hn;have d:Hid (nA c n=(if c<0 then -(c+1) else c).tmod n):=rfl
 have f:((n:Int)==0)=false:=by simp;omega
 by_cases h:c<0
 ·have a:Hid (nA c n=(-(c+1)).tmod n):=by rw[d.out,if_pos h];trivial
  have b1:0≤(-(c+1)).tmod n∧(-(c+1)).tmod n<n:=by rw[← a.out];exact b
  generalize nA c n=r at *;go_enter Tryz.func12,Tryz.ntmps12;go_wp2;go_ret;exact⟨by rw[a.out,Int.neg_tmod];rfl,rfl⟩
 ·have a:Hid (nA c n=c.tmod n):=by rw[d.out,if_neg h];trivial
  have b1:0≤c.tmod n∧c.tmod n<n:=by rw[← a.out];exact b
  generalize nA c n=r at *;go_enter Tryz.func12,Tryz.ntmps12;go_wp2;go_ret;exact⟨by rw[a.out,Int.tmod_eq_emod_of_nonneg (by omega)];rfl,rfl⟩
theorem EB (n:Nat):∀ (w:World),n≤1000000 →
  Calls Tryz.prog 30 #[I J n] w fun e w'=>e=Zr (Z ⟨(jI n).toArray⟩)∧Below w.heap.size w w':=by
 induction n using Nat.strongRecOn with
 | ind n ih =>
 intro w hn;have b:=Lh;by_cases h:n<10
 ·clear ih;go_enter Tryz.func30,Tryz.ntmps30;go_wp2;go_ret;exact⟨jV (by rw[uT h]),(Below.refl _ _).alloc (Nat.le_refl _) _⟩
 ·have c:Hid (∀ (w:World),(n / 10)≤1000000 →
   Calls Tryz.prog 30 #[I J (n / 10:Nat)] w fun e w'=>e=Zr (Z ⟨(jI (n / 10)).toArray⟩)∧Below w.heap.size w w'):=(ih (n / 10) (by omega))
  clear ih;go_enter Tryz.func30,Tryz.ntmps30;go_wp2_with fail;refine (c.out _ (by omega)).mono ?_
  rintro e d ⟨rfl,a⟩;have g:=Lp (n / 10);generalize hx:jI (n / 10)=x at *;have f:Hid (jI (n / 10)=x):=hx
  clear hx;go_wp2;go_ret;refine⟨jV ?_,a.trans (((Below.refl _ d).alloc (Nat.le_refl _) _).mono a.size)⟩
  rw[Ir h,f.out,Jp,UInt8.ofNat_add];rfl
theorem gQ (c:Int) (w:World) (h0:0≤c) (h1:c≤1000000):Calls Tryz.prog 30 #[I J c] w fun e w'=>e=Zr (Z (dg c))∧Below w.heap.size w w':=by
 obtain⟨k,rfl⟩:=Int.eq_ofNat_of_zero_le h0
 exact EB k w (by omega)
theorem uw (s:ByteArray) (q:Int) (w:World) (hs:s.size≤1000000000) :
  Calls Tryz.prog 55 #[Z s,I J q] w fun e w'=>∃ b,e=Zr (.bool b)∧w'=w:=by
 go_enter Tryz.func55,Tryz.ntmps55;go_wp2_with fail;go_loopw [5] (fun i wr=>∃ k:Nat,k≤s.size∧i=I J k∧wr=w) (fun i _=>s.size-(intOf i).toNat)
 case atStart=>exact⟨0,Nat.zero_le _,rfl,rfl⟩
 case round =>
  obtain⟨k,d,rfl,a⟩:=hrel
  subst a;by_cases c:k<s.size
  ·have f:(0:Int)≤(k:Int):=by omega
   have g:(k:Int)<(s.size:Int):=by omega
   go_wp2_with fail
   ·go_ret;exact⟨_,rfl,rfl⟩
   ·go_roundw
    case rel=>exact⟨k+1,by omega,by go_num,trivial⟩
    case measure=>simp[intOf];omega
  ·go_wp2;go_ret;exact⟨_,rfl,rfl⟩
def txt (l:List Int):ByteArray:=l.foldl (fun t x=>t++dg x) Ze
theorem LB (l:List Int) (h:∀ x∈l,x≤999999999):∀ t:ByteArray,(l.foldl (fun t x=>t++dg x) t).size≤t.size+10*l.length:=by
 induction l with
 | nil=>intro t;simp
 | cons a l ih =>
  intro t;have:=ih (fun x c=>h x (by simp[c])) (t++dg a)
  have b:=gu a (h a (by simp))
  simp only[List.foldl_cons,List.length_cons,ByteArray.size_append] at *;omega
theorem Ij (l:List Int) (h:∀ x∈l,x≤999999999):(txt l).size≤10*l.length:=by
 have:=LB l h Ze
 simpa [txt] using this
theorem xC (v:Value) (l:List Int) (w:World) (hv:Ints w v l) (hl:l.length≤1000) (hb:∀ x∈l,0≤x∧x≤1000000) :
  Calls Tryz.prog 106 #[v] w fun e w'=>e=Zr (Z (txt l))∧Below w.heap.size w w':=by
 obtain⟨a,m,rfl,j,z⟩:=hv.shape
 have n:Hid (∀ k,(txt (l.take k)).size≤10000):=fun k=>by
  have:=Ij (l.take k) (fun x o=>by have:=(hb x (List.mem_of_mem_take o)).2;omega)
  have:=List.length_take_le k l
  have:=List.length_take_le' k l
  omega
 have p:Hid (∀ k,(h:k<l.length)→∀ w,Calls Tryz.prog 30 #[I J l[k]] w fun e w'=>e=Zr (Z (dg l[k]))∧Below w.heap.size w w'):=fun k h w=>gQ _ w (hb _ (List.getElem_mem h)).1 (hb _ (List.getElem_mem h)).2
 have q:Hid (∀ k,(h:k<l.length)→(dg l[k]).size≤10):=fun k h=>gu _ (by have:=(hb _ (List.getElem_mem h)).2;omega)
 have r:Hid (∀ k,(h:k<l.length)→txt (l.take (k+1))=txt (l.take k)++dg l[k]):=fun k h=>by
  rw[List.take_succ_eq_append_getElem h];unfold txt;rw[List.foldl_append]
  rfl
 have A:Hid (txt (l.take 0)=⟨#[]⟩):=rfl
 go_enter Tryz.func106,Tryz.ntmps106;go_wp2_with fail;go_loopw [3,4] (fun t i wr=>∃ k:Nat,k≤l.length∧i=I J k∧t=Z (txt (l.take k))∧Below w.heap.size w wr) (fun _ i _=>l.length-(intOf i).toNat)
 case atStart=>exact⟨0,Nat.zero_le _,rfl,rfl,Below.refl _ _⟩
 case round =>
  obtain⟨k,B,rfl,rfl,b⟩:=hrel
  by_cases c:k<l.length
  ·obtain⟨b1,C,rfl,_,c1⟩:=(hv.below b).get k c
   have D:(0:Int)≤(k:Int):=by omega
   have E:(k:Int)<(l.length:Int):=by omega
   have F:=n.out k;have G:=q.out k c;have s:=ah (p.out k c);have u:=ah (r.out k c);generalize l[k]=x at *;generalize dg x=d at *;generalize txt (l.take k)=t at *;have H:¬9223372036854775807<t.size+d.size:=by omega
   go_wp2_with fail;refine (s.out _).mono ?_;rintro e K ⟨rfl,f⟩;go_wp2;go_roundw
   case rel=>exact⟨k+1,by omega,by go_num,by rw[u.out],b.trans (f.mono b.size)⟩
   case measure=>simp[intOf];omega
  ·have g:k=l.length:=by omega
   have y:Hid (txt (l.take k)=txt l):=by rw[g,List.take_length];trivial
   go_wp2;go_ret;exact⟨by rw[y.out];rfl,b⟩
end Go.Proofs.YtinaollfjiddmaaGreatDoor
