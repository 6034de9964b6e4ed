import Derived.Test.YtinaollfjiddmaaGreatDoorA35
set_option maxRecDepth 100000
set_option maxHeartbeats 8000000
set_option linter.all false
namespace Go.Proofs.YtinaollfjiddmaaGreatDoor
open Go.Value renaming int→I,slice→Y,string→Z,pointer→Zp
open Go.Ending renaming returned→Zr
open _root_.ByteArray renaming empty→Ze
open Go.IntKind renaming i64→J
open Option renaming none→O
open Go.RowKit
section
variable {N:Nat} {w w':World} {g:Nat} {K K':Kw} {V V':Kv}
theorem Nf (h:KAt N w g K V) (hi:KI K) (gr:Gr K) (hb:Below w.heap.size w w') (c:Nat):StE N w w' g K V c (Zr (.bool true)):=⟨true,K,V,rfl,(Kst.refl h).below hb,hi,by omega,Nat.le_refl _,rfl,fun _=>gr⟩
theorem Gw (h:KAt N w g K V) (hi:KI K) (gr:Gr K) (k:Nat) (hk:k<K.net.length) (hm:dS K+1≤900000000000) :
  Calls Tryz.prog 56 #[Zp (some ⟨g,0,O⟩),I J k] w fun e w'=>StE N w w' g K V 1 e:=by
 have z:=hi.sz;obtain⟨n,L,z3,z1,z7,zd,zb,R⟩:=z.all
 have S:=ah (h.cv 1 rfl (congrArg (Value.int .i64) L));obtain⟨T,U,m⟩:=aj h.rP
 have o:=ah (h.cv 7 rfl m);have M:Hid (∀ b,Below w.heap.size w b→iw b (Y T K.net.length U) K.net):=fun b a=>by rw[← m];exact (h.below a).ePk
 obtain⟨aD,cD,p⟩:=aj h.rD
 have v:=ah (h.cv 3 rfl p);have W:=ah (fun (b:World) (a:Below w.heap.size w b)=>KAt.dwn h p a)
 obtain⟨b1,o1,rfl,_,d1,d2,d3⟩:=(M.out w (Below.refl _ _)).get k hk
 have c7:=o.out w (Below.refl _ _);have j1:(0:Int)≤(k:Int):=by omega
 have j2:(k:Int)<(K.net.length:Int):=by omega
 obtain⟨p1,X,_⟩:=hi.net _ (List.getElem_mem hk)
 rw[L] at X;have x:Hid (∀ b,Below w.heap.size w b→StE N w b g K V 1 (Zr (.bool true))):=fun b a=>Nf h hi gr a 1
 have y:Hid (∀ q:Nat,K.net[k].2.1=q→Mt K q K.net[k].2.2):=fun q e=>⟨K.net,K.net[k].1,gr,fun _ h=>h,by rw[← e];exact List.getElem_mem hk⟩
 have A:Hid (∀ b (q:Nat) (s:ByteArray),Below w.heap.size w b→q<n→Mt K q s→Calls Tryz.prog 33 #[Zp (some ⟨g,0,O⟩),I J q,I J 0,Z s] b fun e w'=>StE N w w' g K V 1 e):=fun b q s a hq B=>by
  refine (Gu (h.below a) hi gr q (by omega) s B hm).mono ?_
  intro e w3 t;exact t.pre ((Kst.refl h).below a) (Nat.le_refl _) (Nat.le_refl _) rfl
 have C:Hid (∀ b (c:Nat) (s:ByteArray),Below w.heap.size w b→1≤c→c≤9→Calls Tryz.prog 96 #[Zp (some ⟨g,0,O⟩),I J (c:Int),Z s] b fun e w'=>e=Zr (.tuple #[])∧StE N w w' g K V 1 (Zr (.bool true))):=fun b c s a h1 h9=>by
  refine (GA (h.below a) hi c h1 h9 s).mono ?_;rintro e w3 ⟨rfl,K',P,rfl|⟨f,rfl,D⟩⟩
  ·exact⟨rfl,true,_,_,rfl,((Kst.refl h).below a).trans P,hi,by omega,Nat.le_refl _,rfl,fun _=>gr⟩
  ·exact⟨rfl,true,_,_,rfl,((Kst.refl h).below a).trans P,hi.opnf c f,by unfold dS;simp only;omega,Nat.le_refl _,rfl,fun _=>CI.opnf gr c D⟩
 clear h hi gr z M o;generalize K.net[k].1=fr at *;generalize K.net[k].2.1=l at *;generalize K.net[k].2.2=i at *;have d:Below w.heap.size w (w.alloc (.cells #[I J fr,I J l,Z i] 102)):=(Below.refl _ w).alloc (Nat.le_refl _) _
 have j:(w.alloc (.cells #[I J fr,I J l,Z i] 102)).heap[w.heap.size]? = some (.cells #[I J fr,I J l,Z i] 102):=heap_alloc_new w _
 by_cases h0:l<0
 ·obtain⟨c,Q⟩:=Int.eq_ofNat_of_zero_le (show 0≤-l by omega)
  have u:=ah (C.out _ c i d (by omega) (by omega))
  rw[← Q] at u;clear Q;go_enter Tryz.func56,Tryz.ntmps56;go_wp2_with fail;refine u.out.mono ?_;rintro e b ⟨rfl,t⟩;have HS:=ah t;clear t;go_wp2;go_ret;exact HS.out
 ·obtain⟨q,rfl⟩:=Int.eq_ofNat_of_zero_le (show 0≤l by omega)
  have E:q<K.down.length:=by omega
  have u:=ah (fun b a=>A.out b q i a (by omega) (y.out q rfl))
  have j3:(0:Int)≤(q:Int):=by omega
  have j4:(q:Int)<(K.down.length:Int):=by omega
  obtain⟨b2,o2,rfl,aa,d4⟩:=W.out _ d q E
  have c3:=v.out _ d;have e0:(w.alloc (.cells #[I J fr,I J (q:Int),Z i] 102)).cell? ⟨w.heap.size,1,O⟩=some (I J (q:Int)):=(cell_of_row _ _ _ _ _ _ j).trans rfl
  have e1:(w.alloc (.cells #[I J fr,I J (q:Int),Z i] 102)).cell? ⟨w.heap.size,2,O⟩=some (Z i):=(cell_of_row _ _ _ _ _ _ j).trans rfl
  generalize K.down[q]=dq at *;clear j;go_enter Tryz.func56,Tryz.ntmps56;go_wp2_with fail;go_quiet (fail);have r:=below_drewN d nq;have F:=ah (u.out _ r);have G:=ah (x.out _ r);cases dq
  ·go_wp2_with fail;refine F.out.mono ?_;rintro e b ⟨b9,K9,V9,rfl,H⟩;go_wp2;go_ret;exact⟨b9,K9,V9,rfl,H⟩
  ·go_wp2;go_ret;exact G.out
def StQ (N:Nat) (w w':World) (g:Nat) (K:Kw) (V:Kv) (c d:Nat) (e:Ending):Prop:=∃ b K' V',e=Zr (.bool b)∧Kst N w w' g K V K' V'∧KI K'∧dS K'+d≤dS K+c∧K.net.length≤K'.net.length+d∧K'.n=K.n∧(b=true→Gr K')
theorem StE.stq {c:Nat} {e:Ending} (h:StE N w w' g K V c e):StQ N w w' g K V c 0 e:=by
 obtain⟨b,K',V',rfl,s⟩:=h
 exact⟨b,K',V',rfl,s.kst,s.ki,s.ms,s.net,s.n,s.gr⟩
theorem lS (h:KAt N w g K V) (hi:KI K) (gr:Gr K) (k:Nat) (hk:k<K.net.length) (come stay:Bool) (hm:dS K+1≤900000000000) :
  Calls Tryz.prog 31 #[Zp (some ⟨g,0,O⟩),I J k,.bool come,.bool stay] w fun e w'=>StQ N w w' g K V (if come then 1 else 0) (if stay then 0 else 1) e:=by
 have HC:=ah (Gw h hi gr k hk hm);have l:Hid (StP N w w g K V 0 true K V):=⟨Kst.refl h,hi,by omega,Nat.le_refl _,rfl,fun _=>gr⟩
 clear h hi gr;cases come
 ·obtain⟨c,j,b1,a,f⟩:∃ c j b1,Hid (StP N w w g K V 0 b1 c j)∧b1=true:=⟨K,V,true,l,rfl⟩
  cases stay
  ·have m:Hid (Calls Tryz.prog 57 #[Zp (some ⟨g,0,O⟩),I J k] w fun e w'=>e=Zr (.tuple #[])∧StQ N w w' g K V 0 1 (Zr (.bool true))):=by
    refine (Ce a.out.kst.at_ k (by have:=a.out.net;omega) (by have:=jQ c;have:=a.out.ms;omega)).mono ?_
    rintro e o ⟨rfl,s,p⟩;exact⟨rfl,true,_,_,rfl,a.out.kst.trans p,a.out.ki.gone k,by have:=a.out.ms;have:=Ck (K:=c) (k:=k) (by have:=a.out.net;omega);omega,by have:=a.out.net;simp;omega,a.out.n,fun r=>CI.gone (a.out.gr f) k⟩
   go_enter Tryz.func31,Tryz.ntmps31;go_wp2_with fail;refine m.out.mono ?_;rintro e o ⟨rfl,i⟩;have d:=ah i;clear i;go_wp2;go_ret;exact d.out
  ·have d:Hid (StQ N w w g K V 0 0 (Zr (.bool true))):=⟨true,_,_,rfl,a.out.kst,a.out.ki,by have:=a.out.ms;omega,by have:=a.out.net;omega,a.out.n,fun _=>a.out.gr f⟩
   go_enter Tryz.func31,Tryz.ntmps31;go_wp2;go_ret;exact d.out
 ·cases stay
  ·go_enter Tryz.func31,Tryz.ntmps31;go_wp2_with fail;refine HC.out.mono ?_;rintro e q ⟨b1,c,j,rfl,b⟩;have a:=ah b;clear b;have m:Hid (Calls Tryz.prog 57 #[Zp (some ⟨g,0,O⟩),I J k] q fun e w'=>e=Zr (.tuple #[])∧StQ N w w' g K V 1 1 (Zr (.bool b1))):=by
    refine (Ce a.out.kst.at_ k (by have:=a.out.net;omega) (by have:=jQ c;have:=a.out.ms;omega)).mono ?_
    rintro e o ⟨rfl,s,p⟩;exact⟨rfl,b1,_,_,rfl,a.out.kst.trans p,a.out.ki.gone k,by have:=a.out.ms;have:=Ck (K:=c) (k:=k) (by have:=a.out.net;omega);omega,by have:=a.out.net;simp;omega,a.out.n,fun r=>CI.gone (a.out.gr r) k⟩
   go_wp2_with fail;refine m.out.mono ?_;rintro e o ⟨rfl,i⟩;have d:=ah i;clear i;go_wp2;go_ret;exact d.out
  ·go_enter Tryz.func31,Tryz.ntmps31;go_wp2_with fail;refine HC.out.mono ?_;rintro e q ⟨b1,c,j,rfl,b⟩;have d:Hid (StQ N w q g K V 1 0 (Zr (.bool b1))):=⟨b1,_,_,rfl,b.kst,b.ki,by have:=b.ms;omega,by have:=b.net;omega,b.n,b.gr⟩
   clear b;go_wp2;go_ret;exact d.out
end
section
variable {N:Nat} {w w':World} {g:Nat} {K K':Kw} {V V':Kv}
structure Rn (N:Nat) (w wr:World) (g:Nat) (K:Kw) (V:Kv) (c:Nat) (K':Kw) (V':Kv):Prop where
 kst:Kst N w wr g K V K' V'
 ki:KI K'
 ms:dS K'≤dS K+c
 n:K'.n=K.n
 gr:Gr K'
def RnE (N:Nat) (w w':World) (g:Nat) (K:Kw) (V:Kv) (c:Nat) (e:Ending):Prop:=∃ b K' V',e=Zr (.bool b)∧Kst N w w' g K V K' V'∧KI K'∧dS K'≤dS K+c∧K'.n=K.n∧(b=true→Gr K')
theorem Rn.refl (h:KAt N w g K V) (hi:KI K) (gr:Gr K):Rn N w w g K V 0 K V:=⟨Kst.refl h,hi,Nat.le_refl _,rfl,gr⟩
section
variable {wr w2:World} {c d:Nat} {e:Ending}
theorem Rn.below (L:Rn N w wr g K V c K' V') (hb:Below wr.heap.size wr w2):Rn N w w2 g K V c K' V':=⟨L.kst.below hb,L.ki,L.ms,L.n,L.gr⟩
theorem Rn.le (L:Rn N w wr g K V c K' V') (h:c≤d):Rn N w wr g K V d K' V':=⟨L.kst,L.ki,by have:=L.ms;omega,L.n,L.gr⟩
theorem Rn.c1 (L:Rn N w wr g K V c K' V') {n:Nat} (hn:K.n=n):wr.cell? ⟨g,1,O⟩=some (I J n):=by
 have:=L.kst.at_.cell 1
 rw[← hn,← L.n];exact this
theorem Rn.rne (L:Rn N w wr g K V c K' V') (b:Bool) (h:c≤d):RnE N w wr g K V d (Zr (.bool b)):=⟨b,K',V',rfl,L.kst,L.ki,by have:=L.ms;omega,L.n,fun _=>L.gr⟩
theorem Rn.ste (L:Rn N w wr g K V c K' V') (h:StE N wr w2 g K' V' d e):RnE N w w2 g K V (c+d) e:=by
 obtain⟨b,a,f,rfl,s⟩:=h
 exact⟨b,a,f,rfl,L.kst.trans s.kst,s.ki,by have:=s.ms;have:=L.ms;omega,s.n.trans L.n,s.gr⟩
theorem Rn.rn (L:Rn N w wr g K V c K' V') (h:RnE N wr w2 g K' V' d e):RnE N w w2 g K V (c+d) e:=by
 obtain⟨b,K2,V2,rfl,k,ki,ms,n,gr⟩:=h
 exact⟨b,K2,V2,rfl,L.kst.trans k,ki,by have:=L.ms;omega,n.trans L.n,gr⟩
theorem RnE.le (h:RnE N w wr g K V c e) (hd:c≤d):RnE N w wr g K V d e:=by
 obtain⟨b,K2,V2,rfl,k,ki,ms,n,gr⟩:=h
 exact⟨b,K2,V2,rfl,k,ki,by omega,n,gr⟩
theorem RnE.get (h:RnE N w wr g K V c (Zr (.bool true))):∃ K' V',Rn N w wr g K V c K' V':=by
 obtain⟨b,K2,V2,e,k,ki,ms,n,gr⟩:=h
 cases e;exact⟨K2,V2,k,ki,ms,n,gr rfl⟩
theorem RnE.bool (h:RnE N w wr g K V c e):∃ b,e=Zr (.bool b):=by
 obtain⟨b,K2,V2,rfl,_⟩:=h
 exact⟨b,rfl⟩
end
theorem GN (h:KAt N w g K V) (hi:KI K) (gr:Gr K) (r:Nat) (hr:r≤1000) (hm:dS K+1000≤900000000000) :
  Calls Tryz.prog 67 #[Zp (some ⟨g,0,O⟩),I J r] w fun e w'=>RnE N w w' g K V 700 e:=by
 have z:=hi.sz;obtain⟨n,B,z3,z1,z7,zd,zb,ao⟩:=z.all
 have ap:=ah (h.cv 1 rfl (congrArg (Value.int .i64) B));obtain⟨aP,cP,C⟩:=aj h.rP
 have D:=ah (h.cv 7 rfl C);have HP:Hid (∀ u,Below w.heap.size w u→iw u (Y aP K.net.length cP) K.net):=fun u P=>by rw[← C];exact (h.below P).ePk
 have c7:=D.out w (Below.refl _ _);have aq:K.net.length≤900000000000:=by have:=jQ K;omega
 have Q:=ah (Rn.refl h hi gr);have R:Hid (∀ (wr:World) (k:Nat) (a:Kw) (f:Kv),Rn N w wr g K V 0 a f→k<K.net.length→K.net.length≤a.net.length+k→Calls Tryz.prog 31 #[Zp (some ⟨g,0,O⟩),I J 0,.bool true,.bool false] wr fun e w'=>∃ b l t,e=Zr (.bool b)∧(b=false→RnE N w w' g K V 700 (Zr (.bool false)))∧(b=true→Rn N w w' g K V 0 l t∧K.net.length≤l.net.length+(k+1))):=fun wr k a f L hk hl=>by
  refine (lS L.kst.at_ L.ki L.gr 0 (by omega) true false (by have:=L.ms;omega)).mono ?_
  rintro e u ⟨b,l,t,rfl,k2,E,S,T,n2,U⟩;simp only[if_true,Bool.false_eq_true,if_false] at S T;have:=L.ms
  exact⟨b,l,t,rfl,fun hb=>⟨false,l,t,rfl,L.kst.trans k2,E,by omega,n2.trans L.n,fun h=>by simp at h⟩,fun hb=>⟨⟨L.kst.trans k2,E,by omega,n2.trans L.n,U hb⟩,by omega⟩⟩
 have W:Hid (∀ (wr:World) (q c:Nat) (a:Kw) (f:Kv),Rn N w wr g K V c a f→q<n→c≤600→Calls Tryz.prog 33 #[Zp (some ⟨g,0,O⟩),I J q,I J 1,Z ⟨#[]⟩] wr fun e w'=>RnE N w w' g K V (c+50) e):=fun wr q c a f L X hc=>by
  refine (uq L.kst.at_ L.ki L.gr q (by have:=L.ki.sz.nds;rw[L.n,B] at this;omega) ⟨#[]⟩ (by have:=L.ms;omega)).mono ?_
  intro e u hs;exact L.ste hs
 have aa:Hid (∀ (wr:World) (q c:Nat) (a:Kw) (f:Kv),Rn N w wr g K V c a f→q<n→c≤650→Calls Tryz.prog 33 #[Zp (some ⟨g,0,O⟩),I J q,I J 2,Z ⟨#[]⟩] wr fun e w'=>RnE N w w' g K V (c+50) e):=fun wr q c a f L X hc=>by
  refine (zR L.kst.at_ L.ki L.gr q (by have:=L.ki.sz.nds;rw[L.n,B] at this;omega) ⟨#[]⟩ (by have:=L.ms;omega)).mono ?_
  intro e u hs;exact L.ste hs
 have ab:Hid (∀ (wr:World) (q c:Nat) (a:Kw) (f:Kv),Rn N w wr g K V c a f→q<n→Calls Tryz.prog 111 #[Zp (some ⟨g,0,O⟩),I J q] wr fun e w'=>sZ wr w' e):=fun wr q c a f L X=>Ez L.kst.at_ L.ki L.gr q (by have:=L.ki.sz.nds;rw[L.n,B] at this;omega)
 have ar:n≤7:=by omega
 have M:((r:Int)).tmod 4=((r % 4:Nat):Int):=by
  rw[Int.tmod_eq_emod_of_nonneg (by omega)]
  exact (Int.natCast_emod r 4).symm
 clear h hi gr z hm D;go_enter Tryz.func67,Tryz.ntmps67;go_wp2_with fail;go_loopw [6] (fun i wr=>∃ (k:Nat) (a:Kw) (f:Kv),k≤K.net.length∧i=I J k∧Rn N w wr g K V 0 a f∧K.net.length≤a.net.length+k) (fun i _=>K.net.length-(intOf i).toNat)
 case atStart=>exact⟨0,K,V,Nat.zero_le _,rfl,Q.out,Nat.le_refl _⟩
 case round =>
  obtain⟨k,K1,V1,hk,rfl,L,hl⟩:=hrel
  have HL:=ah L;clear L;by_cases ac:k<K.net.length
  ·have j1:(k:Int)<(K.net.length:Int):=by omega
   have F:=ah (R.out _ k _ _ HL.out ac hl);go_wp2_with fail;refine F.out.mono ?_;rintro e u ⟨b,l,t,rfl,v,j⟩;cases b
   ·have m:=ah (v rfl);clear v j;go_wp2;go_ret;exact m.out
   ·have HY:=ah (j rfl);clear v j;go_wp2;go_roundw
    case rel=>exact⟨k+1,l,t,by omega,by go_num,HY.out.1,HY.out.2⟩
    case measure=>simp[intOf];omega
  ·have j1:¬(k:Int)<(K.net.length:Int):=by omega
   obtain⟨wL,ad⟩:∃ x,x=wr:=⟨_,rfl⟩
   subst ad;go_wp2_with fail;go_loopw [8] (fun i wr=>∃ (q:Nat) (a:Kw) (f:Kv),q≤n∧i=I J q∧Rn N w wr g K V (50*q) a f) (fun i _=>n-(intOf i).toNat)
   case atStart=>exact⟨0,K1,V1,Nat.zero_le _,rfl,HL.out⟩
   case round =>
    obtain⟨q,l,t,X,rfl,L2⟩:=hrel
    have c1:=L2.c1 B;have o:=ah L2;clear L2;by_cases ae:q<n
    ·have j2:(q:Int)<(n:Int):=by omega
     have F:=ah (W.out _ q _ _ _ o.out ae (by omega))
     go_wp2_with fail;refine F.out.mono ?_;intro e w3 hs;obtain⟨b,rfl⟩:=hs.bool
     cases b
     ·have m:=ah (hs.le (d:=700) (by omega))
      clear hs;go_wp2;go_ret;exact m.out
     ·obtain⟨K3,V3,L3⟩:=hs.get
      have af:=ah (L3.le (d:=50*(q+1)) (by omega))
      clear hs L3;go_wp2;go_roundw
      case rel=>exact⟨q+1,K3,V3,by omega,by go_num,af.out⟩
      case measure=>simp[intOf];omega
    ·have j2:¬(q:Int)<(n:Int):=by omega
     have o:=ah (o.out.le (d:=350) (by omega))
     obtain⟨wM,ai⟩:∃ x,x=wr:=⟨_,rfl⟩
     subst ai;go_wp2_with fail;clear c1;go_loopw [10] (fun i wr=>∃ (q:Nat) (a:Kw) (f:Kv),q≤n∧i=I J q∧Rn N w wr g K V (350+50*q) a f) (fun i _=>n-(intOf i).toNat)
     case atStart=>exact⟨0,l,t,Nat.zero_le _,rfl,o.out⟩
     case round =>
      obtain⟨p,K4,V4,hp,rfl,L4⟩:=hrel
      have c1:=L4.c1 B;have s:=ah L4;clear L4;by_cases G:p<n
      ·have j3:(p:Int)<(n:Int):=by omega
       by_cases ak:r % 4=3
       ·have y:(r:Int).tmod 4=3:=by rw[M,ak];rfl
        have al:IntKind.i64.wrap ((r:Int).tmod 4)=3:=by rw[y];rfl
        have F:=ah (ab.out _ p _ _ _ s.out G);clear M;go_wp2_with fail;refine F.out.mono ?_;rintro e w5 ⟨b5,rfl,am⟩;have H:=ah (s.out.below am);cases b5
        ·have an:=ah (aa.out _ p _ _ _ H.out G (by omega))
         go_wp2_with fail;refine an.out.mono ?_;intro e w6 hs;obtain⟨b,rfl⟩:=hs.bool
         cases b
         ·have m:=ah (hs.le (d:=700) (by omega))
          clear hs;go_wp2;go_ret;exact m.out
         ·obtain⟨K6,V6,L6⟩:=hs.get
          have A:=ah (L6.le (d:=350+50*(p+1)) (by omega))
          clear hs L6;go_wp2;go_roundw
          case rel=>exact⟨p+1,K6,V6,by omega,by go_num,A.out⟩
          case measure=>simp[intOf];omega
        ·have A:=ah (H.out.le (d:=350+50*(p+1)) (by omega))
         go_wp2;go_roundw
         case rel=>exact⟨p+1,K4,V4,by omega,by go_num,A.out⟩
         case measure=>simp[intOf];omega
       ·have y:¬(r:Int).tmod 4=3:=by rw[M];omega
        have al:((r:Int).tmod 4==3)=false:=beq_eq_false_iff_ne.2 y
        have m:=ah (s.out.rne (d:=700) true (by omega))
        clear M;go_wp2;go_ret;exact m.out
      ·have j3:¬(p:Int)<(n:Int):=by omega
       have m:=ah (s.out.rne (d:=700) true (by omega))
       go_wp2;go_ret;exact m.out
end
section
variable {N:Nat} {w w':World} {g:Nat} {K K':Kw} {V V':Kv}
theorem Hu {id n life:Int} (hn:3≤n∧n≤7∧0≤id∧id<n) (hl:1≤life∧life≤999):Ok (Rp.restart id n life):=by
 refine⟨hn.1,hn.2.1,hn.2.2.1,hn.2.2.2,?_,fun x a=>?_,by simp[Rp.restart,Rp.mk0],by simp[Rp.restart,Rp.mk0],by simp[Rp.restart,Rp.mk0],by simp[Rp.restart,Rp.mk0],fG.nil _,fG.nil _,by simp[Rp.restart,Rp.mk0],by simp[Rp.restart,Rp.mk0],by simp[Rp.restart,Rp.mk0],by simp[Rp.restart,Rp.mk0],by simp[Rp.restart,Rp.mk0],by simp[Rp.restart,Rp.mk0],by simp[Rp.restart,Rp.mk0]⟩
 ·show ((((cZ n.toNat).set id.toNat life).length:Nat):Int)=n
  rw[List.length_set,AZ];omega
 ·have a:x∈(cZ n.toNat).set id.toNat life:=a
  rcases List.mem_or_eq_of_mem_set a with q|rfl
  ·unfold cZ at q;have:=List.eq_of_mem_replicate q
   omega
  ·omega
theorem KI.lives (h:KI K) (x:Int) (hx:0≤x∧x≤999):KI { K with lives:=x }:=⟨⟨h.sz.n3,h.sz.n7,h.sz.nds,h.sz.down,h.sz.begun,h.sz.opn⟩,h.part,h.nod,h.net,h.wish,h.opn,h.list,h.grps,hx,h.gl⟩
theorem JW {q:Nat} {x x':Nod} (hx:K.nds[q]? = some x) (hl:0≤K.lives) (hl9:K.lives+1≤999) (d:List Bool):dS { iE { K with lives:=K.lives+1 } q x' with down:=d }≤dS K:=by
 have e:=Ab K.nds q x x' hx;unfold dS iE;simp only
 omega
theorem N7 {q:Nat} {x x':Nod} (gr:Gr K) (hx:K.nds[q]? = some x) (h3:Bare x'.R) (e0:x'.R=Rp.mk0 q K.n ((cZ K.n.toNat).set q (K.lives+1)) 3 []) (hn:(q:Int)<K.n) (l0:0≤K.lives) (d:List Bool):Gr { iE { K with lives:=K.lives+1 } q x' with down:=d } :=
 CI.back gr hx h3 e0 hn l0 rfl rfl rfl rfl rfl rfl rfl rfl rfl
theorem J4 {b cap q:Nat} {x':Nod} (h:w.ownsRow 0 29 1 (Y (some ⟨b,0,O⟩) K.nds.length cap) K.nds.length (K.nds.map nR)):(w.setCell ⟨b,q,O⟩ (nR x')).ownsRow 0 29 1 (Y (some ⟨b,0,O⟩) K.nds.length cap) (K.nds.set q x').length ((K.nds.set q x').map nR):=by
 have:=(h.stored q (nR x')).1
 rw[List.length_set,List.map_set];exact this
theorem Cc (h:KAt N w g K V) (hi:KI K) (gr:Gr K) (q:Nat) (hq:q<K.nds.length) (hm:dS K+100≤900000000000) :
  Calls Tryz.prog 35 #[Zp (some ⟨g,0,O⟩),I J q] w fun e w'=>RnE N w w' g K V 50 e:=by
 have z:=hi.sz;obtain⟨n,T,z3,z1,z7,zd,zb,ao⟩:=z.all
 have ap:=ah (h.cv 1 rfl (congrArg (Value.int .i64) T));obtain⟨aD,cD,E⟩:=aj h.rD
 have aa:=ah (h.cv 3 rfl E);have HD:=ah (fun (l:World) (j:Below w.heap.size w l)=>KAt.dwn h E j)
 have ab:Hid (∀ l,Below w.heap.size w l→l.cell? ⟨g,5,O⟩=some (I J K.lives)):=fun l j=>(h.below j).cell 5
 have u:Hid (RnE N w w g K V 50 (Zr (.bool true))):=(Rn.refl h hi gr).rne true (by omega)
 have F:q<K.down.length:=by omega
 obtain⟨b2,o2,rfl,_,d2⟩:=HD.out w (Below.refl _ _) q F
 have c3:=aa.out w (Below.refl _ _);have c5:=ab.out w (Below.refl _ _);have f5:=h.free 5;have j1:(0:Int)≤(q:Int):=by omega
 have j3:(q:Int)<(K.down.length:Int):=by omega
 have li:=hi.li;generalize hdq:K.down[q]=dq at *;cases dq
 ·clear h hi gr z;go_enter Tryz.func35,Tryz.ntmps35;go_wp2;go_ret;exact u.out
 ·by_cases U:K.lives=999
  ·have ac:(K.lives==999)=true:=beq_iff_eq.2 U
   clear h hi gr z U;go_enter Tryz.func35,Tryz.ntmps35;go_wp2;go_ret;exact u.out
  ·have ac:(K.lives==999)=false:=beq_eq_false_iff_ne.2 U
   have c:=ah (h.scalar (K':={ K with lives:=K.lives+1 }) 5 (I J (K.lives+1)) rfl rfl rfl)
   have ad:=ah (hi.lives (K.lives+1) (by omega))
   have ae:=ah gr;have aq:=ah hi;have af:K.lives+1≤999:=by omega
   have G:0≤K.lives:=li.1
   have ar:=ah (Kst.refl h);clear h hi gr z U u;go_enter Tryz.func35,Tryz.ntmps35;go_wp2_with fail;generalize w.setCell ⟨g,5,O⟩ (I J (K.lives+1))=p at *;clear c3 c5 d2 f5;have c1:p.cell? ⟨g,1,O⟩=some (I J n):=by rw[← T];exact c.out.at_.cell 1
   have c5:p.cell? ⟨g,5,O⟩=some (I J (K.lives+1)):=c.out.at_.cell 5
   have ai:Hid (∀ l,Below p.heap.size p l→Calls Tryz.prog 64 #[I J q,I J n,I J (K.lives+1)] l fun e w'=>CQ l w' e (Rp.restart q n (K.lives+1))):=fun l j=>E8 q n (K.lives+1) l (c.out.at_.tab.below j) ⟨by omega,by omega,by omega,by omega⟩ ⟨by omega,by omega⟩ (by have:=c.out.at_.Nlt;have:=j.size;omega)
   go_region_with (go_at_call 64;refine (ai.out _ (Below.refl _ _).drew).mono ?_;rintro e W ⟨o,f,v,s,A,rfl,H,L,M,P⟩)
   all_goals
    have m:Below p.heap.size p W:=jv P
    have t:∀ y∈s,p.heap.size≤y:=fun y hy=>M y hy
    have C:=c.out.at_.below m;obtain⟨bN,cN,b,av⟩:=qg C.rN (by show 0<K.nds.length;omega)
    have b:V.vN=Y (some ⟨bN,0,O⟩) K.nds.length cN:=b
    have c2:W.cell? ⟨g,2,O⟩=some (Y (some ⟨bN,0,O⟩) K.nds.length cN):=by rw[← b];exact C.cell 2
    obtain⟨b4,o4,e4,_,d4⟩:=C.ptr b (Below.refl _ _) q hq
    cases e4;simp only[Nat.zero_add] at d4;have fN:=C.fz (i:=0) (r:=⟨29,1,V.vN,K.nds.length,K.nds.map nR⟩) rfl b q;have B:=C.rN;rw[b] at B;have aw:(q:Int)<(K.nds.length:Int):=by omega
    have k:Hid (Kst N p (W.setCell ⟨bN,q,O⟩ (Zp (some ⟨o,0,O⟩))) g { K with lives:=K.lives+1 } V (iE { K with lives:=K.lives+1 } q ⟨o,f,v,s,Rp.restart q n (K.lives+1),A⟩) V) :=
     c.out.at_.Ql (x':=⟨o,f,v,s,Rp.restart q n (K.lives+1),A⟩) m hq H t (by rw[b];exact (Kp.refl _ _).set bN q _ (.inl (by simp[Value.ownBlock]))) (by rw[b];exact J4 (K:=K) (x':=⟨o,f,v,s,Rp.restart q n (K.lives+1),A⟩) B)
    have Q:NI K.n q ⟨o,f,v,s,Rp.restart q n (K.lives+1),A⟩:=⟨Hu ⟨by omega,by omega,by omega,by omega⟩ ⟨by omega,by omega⟩,rfl,fun _=>⟨rfl,rfl,rfl,rfl⟩,rfl,L,rfl,T.symm⟩
    have ak:=ah (ad.out.iE (x:=K.nds[q]) (List.getElem?_eq_getElem hq) Q);have al:=ah (fun d=>JW (K:=K) (x':=⟨o,f,v,s,Rp.restart q n (K.lives+1),A⟩) (List.getElem?_eq_getElem hq) G af d)
    have am:=ah (fun d=>N7 (K:=K) (q:=q) (x':=⟨o,f,v,s,Rp.restart q n (K.lives+1),A⟩) ae.out (List.getElem?_eq_getElem hq) ⟨rfl,rfl,rfl,rfl,rfl⟩ (by rw[T];rfl) (by omega) G d)
    clear H L M P m t C B Q c1 c5;go_upto_region 8 with fail
    clear c2 d4 fN;generalize W.setCell ⟨bN,q,O⟩ (Zp (some ⟨o,0,O⟩))=w4 at *;generalize (⟨o,f,v,s,Rp.restart q n (K.lives+1),A⟩:Nod)=x4 at *;obtain⟨X,R,a,ax⟩:=qg k.out.at_.rD (by show 0<K.down.length;omega)
    have a:V.vD=Y (some ⟨X,0,O⟩) K.down.length R:=a
    have c3:w4.cell? ⟨g,3,O⟩=some (Y (some ⟨X,0,O⟩) K.down.length R):=by rw[← a];exact k.out.at_.cell 3
    obtain⟨b5,o5,e5,_,d5⟩:=k.out.at_.dwn a (Below.refl _ _) q F
    cases e5;simp only[Nat.zero_add] at d5;have fD:=k.out.at_.fz (i:=1) (r:=⟨4,1,V.vD,K.down.length,K.down.map Value.bool⟩) rfl a q;have S:=ah (k.out.at_.setD a q false);have D:Hid (Rn N w (w4.setCell ⟨X,q,O⟩ (.bool false)) g K V 0 { iE { K with lives:=K.lives+1 } q x4 with down:=K.down.set q false } V):=⟨c.out.trans (k.out.trans S.out),ak.out.down q false,al.out _,rfl,am.out _⟩
    have HA:Hid (Calls Tryz.prog 33 #[Zp (some ⟨g,0,O⟩),I J q,I J 1,Z ⟨#[]⟩] (w4.setCell ⟨X,q,O⟩ (.bool false)) fun e w'=>RnE N w w' g K V 50 e):=by
     refine (uq D.out.kst.at_ D.out.ki D.out.gr q (by simpa [iE] using hq) ⟨#[]⟩ (by have:=D.out.ms;omega)).mono ?_
     intro e w6 hs;exact (D.out.ste hs).le (by omega)
    clear D S;go_wp2_with fail;refine HA.out.mono ?_;rintro e w6 ⟨b6,K6,V6,rfl,an⟩;go_wp2;go_ret;exact⟨b6,K6,V6,rfl,an⟩
end
section
variable {N:Nat} {w w':World} {g:Nat} {K K':Kw} {V V':Kv}
theorem Rn.post {wr w2:World} {c:Nat} {f t:Int} {s:ByteArray} {V2:Kv} (L:Rn N w wr g K V c K' V') (k:Kst N wr w2 g K' V' { K' with net:=K'.net++[(f,t,s)] } V2) (h1 : -9≤t) (h2:t<K.n) (h3:0<s.size) (h4:∃ v∈K'.wishes,v.text=s):Rn N w w2 g K V (c+1) { K' with net:=K'.net++[(f,t,s)] } V2 :=
 ⟨L.kst.trans k,L.ki.post f t s ⟨h1,by rw[L.n];exact h2⟩ h3,by rw[Cm];have:=L.ms;omega,L.n,by
  obtain⟨v,a,rfl⟩:=h4
  exact CI.post L.gr f t a⟩
theorem Rn.quiet {wr:World} {c:Nat} (L:Rn N w wr g K V c K' V'):Calls Tryz.prog 68 #[Zp (some ⟨g,0,O⟩)] wr fun e w'=>sZ wr w' e :=
 GL L.kst.at_ L.ki.sz L.ki.ep L.ki.log (fun t ht=>by have:=L.ki.gsz t ht;omega)
theorem JM (h:KAt N w g K V) (hi:KI K) (gr:Gr K) (hm:dS K+200000≤900000000000) :
  Calls Tryz.prog 36 #[Zp (some ⟨g,0,O⟩)] w fun e w'=>RnE N w w' g K V 150000 e:=by
 have z:=hi.sz;obtain⟨n,hn,z3,z1,z7,zd,zb,T⟩:=z.all
 have a1:=ah (h.cv 1 rfl (congrArg (Value.int .i64) hn));have a2:n≤7:=by omega
 have ad:=ah (JN h z hi.log);have ae:=ah (Rn.refl h hi gr);have af:Hid (∀ (wr:World) (q c:Nat) (a:Kw) (l:Kv),Rn N w wr g K V c a l→q<n→c≤190000→Calls Tryz.prog 35 #[Zp (some ⟨g,0,O⟩),I J q] wr fun e w'=>RnE N w w' g K V (c+50) e):=fun wr q c a l L hq hc=>by
  refine (Cc L.kst.at_ L.ki L.gr q (by have:=L.ki.sz.nds;rw[L.n,hn] at this;omega) (by have:=L.ms;omega)).mono ?_
  intro e w2 j;exact L.rn j
 have U:Hid (∀ (wr:World) (r c:Nat) (a:Kw) (l:Kv),Rn N w wr g K V c a l→r≤1000→c≤190000→Calls Tryz.prog 67 #[Zp (some ⟨g,0,O⟩),I J r] wr fun e w'=>RnE N w w' g K V (c+700) e):=fun wr r c a l L hr hc=>by
  refine (GN L.kst.at_ L.ki L.gr r hr (by have:=L.ms;omega)).mono ?_
  intro e w2 j;exact L.rn j
 have ai:Hid (∀ (wr:World) (q c:Nat) (s:ByteArray) (a:Kw) (l:Kv),Rn N w wr g K V c a l→q<n→0<s.size→(∃ v∈a.wishes,v.text=s)→c≤190000→Calls Tryz.prog 54 #[Zp (some ⟨g,0,O⟩),I J (-1),I J q,Z s] wr fun e w'=>e=Zr (.tuple #[])∧∃ E R,Rn N w w' g K V (c+1) E R∧E.opn=a.opn∧E.wishes=a.wishes):=fun wr q c s a l L hq j hv hc=>by
  refine (sD L.kst.at_ (-1) q s (by have:=jQ a;have:=L.ms;omega)).mono ?_
  rintro e w2 ⟨rfl,v,k⟩;exact⟨rfl,_,_,L.post k (by omega) (by omega) j hv,rfl,rfl⟩
 have ak:Hid (∀ (wr:World) (c:Nat) (a:Kw) (l:Kv),Rn N w wr g K V c a l→c≤150000→Calls Tryz.prog 65 #[Zp (some ⟨g,0,O⟩),I J 32] wr fun e w'=>e=Zr (.bool false)∧RnE N w w' g K V 150000 (Zr (.bool false))):=fun wr c a l L hc=>by
  refine (uy L.kst.at_ 32).mono ?_;rintro e w2 ⟨rfl,k⟩;have:=L.ms
  exact⟨rfl,false,_,_,rfl,L.kst.trans k,L.ki.fails (by unfold tQ;omega),by unfold dS at *;simp only at *;omega,L.n,fun h=>by simp at h⟩
 clear h hi gr z hm;go_enter Tryz.func36,Tryz.ntmps36;go_wp2_with fail;refine ad.out.mono ?_;rintro e w1 ⟨b1,rfl,al⟩;have W:=ah (ae.out.below al);cases b1
 ·have B:=ah (W.out.rne (d:=150000) true (by omega))
  go_wp2;go_ret;exact B.out
 ·go_wp2_with fail;go_loopw [4,5] (fun qu i wr=>∃ (r:Nat) (b:Bool) (a:Kw) (l:Kv),r≤96∧i=I J r∧qu=.bool b∧Rn N w wr g K V (1200*r) a l) (fun _ i _=>96-(intOf i).toNat)
  case atStart=>exact⟨0,false,K,V,Nat.zero_le _,rfl,rfl,W.out⟩
  case round =>
   obtain⟨r,bq,E,R,hr,rfl,rfl,L2⟩:=hrel
   have X:=ah L2;clear L2;obtain⟨wO,am⟩:∃ x,x=wr:=⟨_,rfl⟩
   subst am;have az:Hid True:=trivial
   by_cases y:r<96∧bq=false
   ·obtain⟨a0,rfl⟩:=y
    have j0:(r:Int)<96:=by omega
    go_wp2_with fail;go_loopw [6] (fun i wr=>∃ (q:Nat) (a:Kw) (l:Kv),q≤n∧i=I J q∧Rn N w wr g K V (1200*r+50*q) a l) (fun i _=>n-(intOf i).toNat)
    case atStart=>exact⟨0,E,R,Nat.zero_le _,rfl,X.out⟩
    case round =>
     obtain⟨q,K3,V3,hq,rfl,S⟩:=hrel
     have c1:=S.c1 hn;have m:=ah S;clear S;by_cases an:q<n
     ·have j2:(q:Int)<(n:Int):=by omega
      have C:=ah (af.out _ q _ _ _ m.out an (by omega))
      go_wp2_with fail;refine C.out.mono ?_;intro e w4 j;obtain⟨b,rfl⟩:=j.bool
      cases b
      ·have B:=ah (j.le (d:=150000) (by omega))
       clear j;go_wp2;go_ret;exact B.out
      ·obtain⟨K4,V4,L4⟩:=j.get
       have D:=ah (L4.le (d:=1200*r+50*(q+1)) (by omega))
       clear j L4;go_wp2;go_roundw
       case rel=>exact⟨q+1,K4,V4,by omega,by go_num,D.out⟩
       case measure=>simp[intOf];omega
     ·have j2:¬(q:Int)<(n:Int):=by omega
      have m:=ah (m.out.le (d:=1200*r+350) (by omega))
      obtain⟨wP,ao⟩:∃ x,x=wr:=⟨_,rfl⟩
      subst ao;go_wp2_with fail;clear c1;go_loopw [8] (fun i wr=>∃ (c:Nat) (a:Kw) (l:Kv),1≤c∧c≤10∧i=I J c∧Rn N w wr g K V (1200*r+350+7*(c-1)) a l) (fun i _=>10-(intOf i).toNat)
      case atStart=>exact⟨1,K3,V3,by omega,by omega,rfl,m.out⟩
      case round =>
       obtain⟨c,K4,V4,a3,hc,rfl,L4⟩:=hrel
       have D:=ah L4;clear L4;obtain⟨wR,ap⟩:∃ x,x=wr:=⟨_,rfl⟩
       subst ap;by_cases a4:c<10
       ·have j3:(c:Int)≤9:=by omega
        go_wp2_with fail;go_loopw [9] (fun i wr=>∃ (q:Nat) (a:Kw) (l:Kv),q≤n∧i=I J q∧Rn N w wr g K V (1200*r+350+7*(c-1)+q) a l) (fun i _=>n-(intOf i).toNat)
        case atStart=>exact⟨0,K4,V4,Nat.zero_le _,rfl,D.out⟩
        case round =>
         obtain⟨p,t,F,hp,rfl,A⟩:=hrel
         have c1:=A.c1 hn;have T:=A.ki.sz.opn;have aa:c<t.opn.length:=by omega
         obtain⟨aO,cO,ab⟩:=aj A.kst.at_.rO
         obtain⟨b6,o6,rfl,_,d6⟩:=A.kst.at_.opn ab (Below.refl _ _) c aa
         have c9:wr.cell? ⟨g,9,O⟩=some (Y (some ⟨b6,o6,O⟩) t.opn.length cO):=by rw[← ab];exact A.kst.at_.cell 9
         have G:=A.ki.opn _ (List.getElem_mem aa);have k1:(0:Int)≤(c:Int):=by omega
         have k2:(c:Int)<(t.opn.length:Int):=by omega
         have f:=ah A;clear A T;generalize y:t.opn[c]=ov at *;by_cases aq:p<n
         ·have j4:(p:Int)<(n:Int):=by omega
          by_cases hv:0≤ov
          ·obtain⟨o,rfl⟩:=Int.eq_ofNat_of_zero_le hv
           have H:o<t.wishes.length:=by omega
           have M:kV wr F.vW t.wishes:=f.out.kst.at_.eW
           obtain⟨aW,cW,ac⟩:=aj f.out.kst.at_.rW
           have c8:wr.cell? ⟨g,8,O⟩=some (Y aW t.wishes.length cW):=by rw[← ac];exact f.out.kst.at_.cell 8
           rw[ac] at M;obtain⟨b7,o7,rfl,_,_,_,_,d7,_⟩:=M.get o H
           have k3:(0:Int)≤(o:Int):=by omega
           have k4:(o:Int)<(t.wishes.length:Int):=by omega
           have a5:=(f.out.ki.wish _ (List.getElem_mem H)).t1;have ar:Hid (∃ v∈t.wishes,v.text=t.wishes[o].text):=⟨_,List.getElem_mem H,rfl⟩
           generalize t.wishes[o].text=tx at *;clear M G y;have C:Hid (∀ w6,Below wr.heap.size wr w6→Calls Tryz.prog 54 #[Zp (some ⟨g,0,O⟩),I J (-1),I J p,Z tx] w6 fun e w'=>e=Zr (.tuple #[])∧∃ E R,Rn N w w' g K V (1200*r+350+7*(c-1)+p+1) E R):=fun w6 av=>by
            refine (ai.out _ p _ tx _ _ (f.out.below av) aq (by omega) ar.out (by omega)).mono ?_
            rintro e w7 ⟨rfl,K7,V7,L7,_⟩;exact⟨rfl,K7,V7,L7⟩
           go_wp2_with fail;go_region_with (go_at_call 54;refine (C.out _ (Below.refl _ _).drew).mono ?_;rintro e w7 ⟨rfl,K7,V7,L7⟩)
           all_goals
            have aw:=ah L7;clear L7;go_wp2;go_roundw
            case rel=>exact⟨p+1,K7,V7,by omega,by go_num,aw.out⟩
            case measure=>simp[intOf];omega
          ·have a6:ov<0:=by omega
           have u:=ah (f.out.le (d:=1200*r+350+7*(c+1-1)) (by omega))
           clear G y hv;go_wp2;go_roundw
           case rel=>exact⟨c+1,t,F,by omega,by omega,by go_num,u.out⟩
           case measure=>simp[intOf];omega
         ·have j4:¬(p:Int)<(n:Int):=by omega
          have u:=ah (f.out.le (d:=1200*r+350+7*(c+1-1)) (by omega))
          clear G y;go_wp2;go_roundw
          case rel=>exact⟨c+1,t,F,by omega,by omega,by go_num,u.out⟩
          case measure=>simp[intOf];omega
       ·have j3:¬(c:Int)≤9:=by omega
        have C:=ah (U.out _ r _ _ _ D.out (by omega) (by omega))
        go_wp2_with fail;refine C.out.mono ?_;intro e w5 j;obtain⟨b,rfl⟩:=j.bool
        cases b
        ·have B:=ah (j.le (d:=150000) (by omega))
         clear j;go_wp2;go_ret;exact B.out
        ·obtain⟨t,F,A⟩:=j.get
         have f:=ah (A.le (d:=1200*(r+1)) (by omega))
         clear j A;have P:=ah f.out.quiet;go_wp2_with fail;refine P.out.mono ?_;rintro e w6 ⟨b6,rfl,Q⟩;have u:=ah (f.out.below Q);go_wp2;go_roundw
         case rel=>exact⟨r+1,b6,t,F,by omega,by go_num,rfl,u.out⟩
         case measure=>simp[intOf];omega
   ·by_cases ax:r<96
    focus
     have hb:bq=true:=by
      cases bq
      ·exact absurd ⟨ax,rfl⟩ y
      ·rfl
     subst hb;have j0:(r:Int)<96:=by omega
    rotate_left
    focus
     have j0:¬(r:Int)<96:=by omega
    rotate_left
    all_goals
     clear y;go_wp2_with fail;go_loopw [11] (fun i wr=>∃ (k:Nat) (a:Kw) (l:Kv),k≤4∧i=I J k∧Rn N w wr g K V (115200+700*k) a l) (fun i _=>4-(intOf i).toNat)
     case atStart=>exact⟨0,E,R,Nat.zero_le _,rfl,X.out.le (by omega)⟩
     case round =>
      obtain⟨k,K3,V3,hk,rfl,S⟩:=hrel
      have m:=ah S;clear S;by_cases a7:k<4
      ·have j5:(k:Int)<4:=by omega
       have C:=ah (U.out _ k _ _ _ m.out (by omega) (by omega))
       go_wp2_with fail;refine C.out.mono ?_;intro e w5 j;obtain⟨b,rfl⟩:=j.bool
       cases b
       ·have B:=ah (j.le (d:=150000) (by omega))
        clear j;go_wp2;go_ret;exact B.out
       ·obtain⟨t,F,A⟩:=j.get
        have f:=ah (A.le (d:=115200+700*(k+1)) (by omega))
        clear j A;go_wp2;go_roundw
        case rel=>exact⟨k+1,t,F,by omega,by go_num,f.out⟩
        case measure=>simp[intOf];omega
      ·have j5:¬(k:Int)<4:=by omega
       have P:=ah m.out.quiet;go_wp2_with fail;refine P.out.mono ?_;rintro e w6 ⟨b6,rfl,Q⟩;have u:=ah (m.out.below Q);cases b6
       ·have C:=ah (ak.out _ _ _ _ u.out (by omega))
        go_wp2_with fail;refine C.out.mono ?_;rintro e w7 ⟨rfl,hF⟩;have B:=ah hF;clear hF;go_wp2;go_ret;exact B.out
       ·have B:=ah (u.out.rne (d:=150000) true (by omega))
        go_wp2;go_ret;exact B.out
end
end Go.Proofs.YtinaollfjiddmaaGreatDoor
