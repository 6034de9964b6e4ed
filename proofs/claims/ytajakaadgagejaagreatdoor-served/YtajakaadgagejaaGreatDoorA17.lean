import Derived.Test.YtajakaadgagejaaGreatDoorA14
import Derived.Test.YtajakaadgagejaaGreatDoorA16
set_option maxRecDepth 100000
set_option maxHeartbeats 8000000
set_option linter.unusedVariables false
set_option linter.unusedSimpArgs false
set_option linter.unusedSectionVars false
namespace Go.Proofs.YtajakaadgagejaaGreatDoor
open Go.Value renaming int→I,slice→Y,string→Z,pointer→Zp
open Go.Ending renaming returned→Zr
open _root_.ByteArray renaming empty→Ze
open Go.IntKind renaming i64→J
open Option renaming none→O
open Go.RowKit
def Hl (n:Nat) (w w':World) (e:Ending):Prop:=∃ r:Int,e=Zr (I J r)∧-1≤r∧r<n∧Below w.heap.size w w'
section
variable {N:Nat} {w w':World} {g:Nat} {K K':Kw} {V V':Kv}
theorem KAt.ePk (h:KAt N w g K V):gu w V.vP K.net:=Rd.bK h.rP
theorem DU (h:KAt N w g K V) (s:ByteArray) (q:Int) (ht:∀ x∈K.net,0<x.2.2.size) :
  Calls Tryz.prog 33 #[Zp (some ⟨g,0,O⟩),Z s,I J q] w fun e w'=>Hl K.net.length w w' e:=by
 have hP:=h.ePk;obtain⟨aP,cP,hvP,hcap,hmax⟩:=hP.shape
 rw[hvP] at hP;have HC:Hid (∀ w2,Below w.heap.size w w2→w2.cell? ⟨g,7,O⟩=some (Y aP K.net.length cP)):=fun w2 hw2=>by rw[← hvP];exact (h.below hw2).cell 7
 have HT:Hid (∀ k,(hk:k<K.net.length)→0<(K.net[k].2.2).size):=fun k hk=>ht _ (List.getElem_mem hk)
 clear h ht;go_enter Tryz.func33,Tryz.ntmps33;go_wp2_with fail;go_loopw [7] (fun i wr=>∃ k:Nat,k≤K.net.length∧i=I J k∧Below w.heap.size w wr) (fun i _=>K.net.length-(intOf i).toNat)
 case atStart=>exact⟨0,Nat.zero_le _,rfl,Below.refl _ _⟩
 case round =>
  obtain⟨k,hk,rfl,hbw⟩:=hrel
  have c7:=HC.out _ hbw;by_cases hlt:k<K.net.length
  ·obtain⟨b1,o1,rfl,_,d1,d2,d3⟩:=(hP.below hbw).get k hlt
   have j1:(0:Int)≤(k:Int):=by omega
   have j2:(k:Int)<(K.net.length:Int):=by omega
   have s1:=HT.out k hlt;have s2:(1:Int)≤(K.net[k].2.2.size:Int):=by omega
   generalize K.net[k].2.2=tx at *;generalize K.net[k].2.1=tq at *;by_cases hq:tq=q
   ·have hq':(tq==q)=true:=beq_iff_eq.2 hq
    go_wp2_with fail
    ·go_ret;exact⟨k,rfl,by omega,by omega,hbw⟩
    ·go_roundw
     case rel=>exact⟨k+1,by omega,by go_num,hbw⟩
     case measure=>simp[intOf];omega
   ·have hq':(tq==q)=false:=beq_eq_false_iff_ne.2 hq
    go_wp2_with fail;go_roundw
    case rel=>exact⟨k+1,by omega,by go_num,hbw⟩
    case measure=>simp[intOf];omega
  ·go_wp2_with fail;go_ret;exact⟨-1,rfl,by omega,by omega,hbw⟩
theorem Rd.AJ {a:Option Addr} {n cap:Nat} {xs:List Value} (h:Rd w 1 (Y a n cap) n xs) {k:Nat} {u:Value} (hk:xs[k]? = some u) :
  ∃ b off,a=some ⟨b,off,O⟩∧b<w.heap.size∧w.cell? ⟨b,off+k,O⟩=some u:=by
 have hl:=(List.getElem?_eq_some_iff.1 hk).1;rcases h.2 with ⟨h1,h2⟩|⟨b,off,cap',h1,_,_,hb,hc⟩
 ·have:=h.1;omega
 ·simp only[Value.slice.injEq] at h1;obtain⟨rfl,_,rfl⟩:=h1
  exact⟨b,off,rfl,hb,hc k u hk⟩
structure KSz (K:Kw):Prop where
 n3:3≤K.n
 n7:K.n≤7
 nds:(K.nds.length:Int)=K.n
 down:(K.down.length:Int)=K.n
 begun:(K.begun.length:Int)=K.n
 opn:K.opn.length=10
theorem KAt.node (h:KAt N w g K V) (j:Nat) (hj:j<K.nds.length) {w2:World} (hw:Below w.heap.size w w2):ay w2 K.nds[j].b K.nds[j].bl K.nds[j].W K.nds[j].F K.nds[j].R K.nds[j].V:=(h.nodes _ (List.getElem_mem hj)).below hw
def qK (w w':World) (e:Ending):Prop:=∃ r:Bool,e=Zr (.bool r)∧Below w.heap.size w w'
theorem xS (h:KAt N w g K V) (z:KSz K) (s:ByteArray) (q:Int) (hs:s.size≤1000000) :
  Calls Tryz.prog 29 #[Zp (some ⟨g,0,O⟩),Z s,I J q] w fun e w'=>qK w w' e:=by
 obtain⟨n,hn⟩:∃ n:Nat,K.n=n:=⟨K.n.toNat,by have:=z.n3;omega⟩
 have z1:=z.nds;have z2:=z.down;have z7:=z.n7;rw[hn] at z1 z2 z7;obtain⟨aN,cN,hvN⟩:=au h.rN
 obtain⟨aD,cD,hvD⟩:=au h.rD
 have HN:Hid (∀ w2,Below w.heap.size w w2→∀ k,(hk:k<K.nds.length)→∃ b off,aN=some ⟨b,off,O⟩∧b<w2.heap.size∧w2.cell? ⟨b,off+k,O⟩=some (Zp (some ⟨K.nds[k].b,0,O⟩))):=fun w2 hw2 k hk =>
  Rd.AJ (by have:=Rd.bK (h.below hw2).rN;rw[hvN] at this;exact this) (by rw[List.getElem?_map,List.getElem?_eq_getElem hk];rfl)
 have HDn:Hid (∀ w2,Below w.heap.size w w2→∀ k,(hk:k<K.down.length)→∃ b off,aD=some ⟨b,off,O⟩∧b<w2.heap.size∧w2.cell? ⟨b,off+k,O⟩=some (.bool K.down[k])):=fun w2 hw2 k hk =>
  Rd.AJ (by have:=Rd.bK (h.below hw2).rD;rw[hvD] at this;exact this) (by rw[List.getElem?_map,List.getElem?_eq_getElem hk];rfl)
 have HC1:Hid (∀ w2,Below w.heap.size w w2→w2.cell? ⟨g,1,O⟩=some (I J n)):=fun w2 hw2=>by rw[← hn];exact (h.below hw2).cell 1
 have HC2:Hid (∀ w2,Below w.heap.size w w2→w2.cell? ⟨g,2,O⟩=some (Y aN K.nds.length cN)):=fun w2 hw2=>by rw[← hvN];exact (h.below hw2).cell 2
 have HC3:Hid (∀ w2,Below w.heap.size w w2→w2.cell? ⟨g,3,O⟩=some (Y aD K.down.length cD)):=fun w2 hw2=>by rw[← hvD];exact (h.below hw2).cell 3
 have HA:Hid (∀ (k:Int) (w:World),Calls Tryz.prog 56 #[Z s,I J k] w fun e w'=>∃ b,e=Zr (.bool b)∧w'=w):=fun k w=>nK s k w (by omega)
 have HW:Hid (∀ w2,Below w.heap.size w w2→∀ k,(hk:k<K.nds.length)→Calls Tryz.prog 30 #[Zp (some ⟨K.nds[k].b,0,O⟩)] w2 fun e w'=>e=Zr (.tuple #[I J K.nds[k].R.epoch,I J K.nds[k].R.view,I J K.nds[k].R.status,I J (K.nds[k].R.decided:Int)])∧∃ n,w'=w2.drewN n):=fun w2 hw2 k hk=>kU (h.node k hk hw2)
 clear h z;go_enter Tryz.func29,Tryz.ntmps29;go_wp2_with fail;go_loopw [7,8] (fun m i wr=>∃ k c:Nat,c≤k∧k≤n∧i=I J k∧m=I J c∧Below w.heap.size w wr) (fun _ i _=>n-(intOf i).toNat)
 case atStart=>exact⟨0,0,Nat.le_refl _,Nat.zero_le _,rfl,rfl,Below.refl _ _⟩
 case round =>
  obtain⟨k,c,hck,hk,rfl,rfl,hbw⟩:=hrel
  have c1:=HC1.out _ hbw;by_cases hlt:k<n
  ·obtain⟨b1,o1,rfl,hb1,d1⟩:=HN.out _ hbw k (by omega)
   obtain⟨b2,o2,rfl,hb2,d2⟩:=HDn.out _ hbw k (by omega)
   have j1:(0:Int)≤(k:Int):=by omega
   have j2:(k:Int)<(K.nds.length:Int):=by omega
   have j3:(k:Int)<(K.down.length:Int):=by omega
   have j4:(k:Int)<(n:Int):=by omega
   have c2:=HC2.out _ hbw;have HQ:=ah (HW.out wr hbw k (by omega))
   generalize K.nds[k].b=bb at *;generalize K.nds[k].R.epoch=r1 at *;generalize K.nds[k].R.view=r2 at *;generalize K.nds[k].R.status=r3 at *;generalize K.nds[k].R.decided=r4 at *;generalize K.down[k]=dn at *;go_wp2_with fail;refine (HA.out _ _).mono ?_;rintro e w1 ⟨bA,rfl,hw1⟩;subst hw1;go_wp2_with fail;refine HQ.out.mono ?_;rintro e w2 ⟨rfl,nn,hw2⟩;have hb2':Below w.heap.size w w2:=by rw[hw2];exact below_drewN hbw nn
   have c3:=HC3.out _ hb2';have d3:w2.cell? ⟨b2,o2+k,O⟩=some (.bool dn):=by rw[hw2];exact d2
   clear hw2;cases bA
   ·go_wp2_with fail;go_roundw
    case rel=>exact⟨k+1,c,by omega,by omega,by go_num,rfl,hb2'⟩
    case measure=>simp[intOf];omega
   ·cases dn
    ·by_cases h3:r3=3
     ·have h3':(r3==3)=true:=beq_iff_eq.2 h3
      go_wp2_with fail;go_roundw
      case rel=>exact⟨k+1,c+1,by omega,by omega,by go_num,by go_num,hb2'⟩
      case measure=>simp[intOf];omega
     ·have h3':(r3==3)=false:=beq_eq_false_iff_ne.2 h3
      by_cases h4:(k:Int)=q
      ·have h4':((k:Int)==q)=true:=beq_iff_eq.2 h4
       clear h4;go_wp2_with fail;go_roundw
       case rel=>exact⟨k+1,c+1,by omega,by omega,by go_num,by go_num,hb2'⟩
       case measure=>simp[intOf];omega
      ·have h4':((k:Int)==q)=false:=beq_eq_false_iff_ne.2 h4
       go_wp2_with fail;go_roundw
       case rel=>exact⟨k+1,c,by omega,by omega,by go_num,rfl,hb2'⟩
       case measure=>simp[intOf];omega
    ·go_wp2_with fail;go_roundw
     case rel=>exact⟨k+1,c+1,by omega,by omega,by go_num,by go_num,hb2'⟩
     case measure=>simp[intOf];omega
  ·go_wp2_with fail;go_ret;exact⟨_,rfl,hbw⟩
end
structure OpF (op:ByteArray):Prop where
 sz:Hg op
 r:b0 op=114→lJ (b1 op)=false
 k:b0 op≠114→lJ (b1 op)=true
theorem xE (v:List Int) (i j:Nat) (x:Int) (hi:i<v.length):(v.set i x).getD j 0=if i=j then x else v.getD j 0:=by
 simp only[List.getD_eq_getElem?_getD,List.getElem?_set];by_cases h:i=j
 ·subst h;simp[hi]
 ·simp[h]
theorem EI {v:List Int} {op:ByteArray} (h:OpF op) (hv:v.length=26) (j:Nat) (hj:j<26):(doS v op).1.length=26∧(doS v op).1.getD j 0=iD (97+(j:Int)) (v.getD j 0) op:=by
 have h2:=h.sz.s2;by_cases hr:b0 op=114
 ·have hk:=h.r hr;have e:doS v op=(v,OKb):=by unfold doS;rw[if_pos (by rw[hk];simp)]
  rw[e];refine⟨hv,?_⟩
  unfold iD;rw[if_neg (fun hc=>hc.2 hr)]
 have hk:=h.k hr;have hkk:97≤b1 op∧b1 op≤122:=by unfold lJ at hk;simpa using hk
 obtain⟨i,hi⟩:∃ i:Nat,b1 op=97+(i:Int):=⟨(b1 op-97).toNat,by omega⟩
 have hi':(b1 op-97).toNat=i:=by omega
 have hil:i<v.length:=by omega
 have hst:∀ x,b1 op=97+(x:Nat)↔i=x:=fun x=>by omega
 unfold doS;rw[if_neg (by rw[hk];simp;omega),hi']
 have hkv:∀ x,iD (97+(j:Int)) x op=if i=j then (if b0 op=112 then bN op 2 else if b0 op=100 then 0 else if b0 op=99 then (if x=bN op 2 then bN op 3 else x) else x) else x:=fun x=>by
  unfold iD;by_cases q:i=j
  ·rw[if_pos ⟨(hst j).2 q,hr⟩,if_pos q]
  ·rw[if_neg (fun hc=>q ((hst j).1 hc.1)),if_neg q]
 rw[hkv];by_cases g:b0 op=103
 ·rw[if_pos (beq_iff_eq.2 g)];refine⟨hv,?_⟩
  have:¬b0 op=112:=by omega
  have:¬b0 op=100:=by omega
  have:¬b0 op=99:=by omega
  simp[*]
 rw[if_neg (by simpa using g)]
 by_cases d:b0 op=100
 ·have np:¬b0 op=112:=by omega
  rw[if_pos (beq_iff_eq.2 d),if_neg np,if_pos d];by_cases z:(v.getD i 0==0)=true
  ·rw[if_pos z];refine⟨hv,?_⟩
   by_cases q:i=j
   ·subst q;rw[if_pos rfl];simpa using z
   ·rw[if_neg q]
  ·rw[if_neg z];exact⟨by simpa using hv,xE v i j 0 hil⟩
 rw[if_neg (by simpa using d)]
 by_cases p:b0 op=112
 ·have p3:2<op.size:=by have:=h.sz.s3 p;omega
  rw[if_pos (beq_iff_eq.2 p),if_pos p3,if_pos p];exact⟨by simpa using hv,xE v i j _ hil⟩
 rw[if_neg (by simpa using p),if_neg p,if_neg d]
 by_cases c:b0 op=99
 ·have:=h.sz.s4 c
  rw[if_pos (beq_iff_eq.2 c),if_pos c];by_cases z:v.getD i 0=bN op 2
  ·rw[if_neg (by simp only[Bool.or_eq_true,decide_eq_true_eq,Bool.not_eq_true',beq_eq_false_iff_ne];intro q;rcases q with q|q;(· omega);(· exact q z))]
   refine⟨by simpa using hv,?_⟩
   rw[xE v i j _ hil];by_cases q:i=j
   ·subst q;rw[if_pos rfl,if_pos rfl,if_pos z]
   ·rw[if_neg q,if_neg q]
  ·rw[if_pos (by simp only[Bool.or_eq_true,decide_eq_true_eq,Bool.not_eq_true',beq_eq_false_iff_ne];exact .inr z)]
   refine⟨hv,?_⟩
   by_cases q:i=j
   ·subst q;rw[if_pos rfl,if_neg z]
   ·rw[if_neg q]
 ·rw[if_neg (by simpa using c),if_neg c]
  refine⟨hv,?_⟩
  split <;> rfl
theorem Dk (l:List En) (e:En):svF (l++[e])=nJ (svF l) e:=by unfold svF;rw[List.foldl_append];rfl
theorem Gh (l:List En) (e:En) (k:Int):jl (l++[e]) k=iD k (jl l k) e.2.2:=by unfold jl;rw[List.foldl_append];rfl
theorem AV:∀ (n:Nat) (l:List En),l.length=n→(∀ e∈l,OpF e.2.2)→(svF l).vals.length=26∧∀ j,j<26→(svF l).vals.getD j 0=jl l (97+(j:Int))
 | 0,l,hl,_=>by
  have:l=[]:=List.eq_nil_of_length_eq_zero hl
  subst this;refine⟨rfl,fun j hj=>?_⟩
  show (List.replicate 26 (0:Int)).getD j 0=0
  rw[List.getD_eq_getElem?_getD,List.getElem?_replicate,if_pos hj]
  rfl
 | n+1,l,hl,hf=>by
  have hne:l≠[]:=by intro hc;rw[hc] at hl;simp at hl
  have hsp:=List.dropLast_concat_getLast hne;obtain⟨l',e,rfl⟩:∃ l' e,l=l'++[e]:=⟨_,_,hsp.symm⟩
  have ih:=AV n l' (by simpa using hl) (fun x hx=>hf x (by simp[hx]))
  have ho:=hf e (by simp)
  rw[Dk];refine⟨(EI ho ih.1 0 (by omega)).1,fun j hj=>?_⟩
  rw[Gh,← ih.2 j hj];exact (EI ho ih.1 j hj).2
theorem Kq (op:ByteArray) (k:Nat):0≤bN op k:=by unfold bN;omega
theorem Gg {key v:Int} {op:ByteArray} (h:0≤v):0≤iD key v op:=by
 have h2:=Kq op 2;have h3:=Kq op 3;unfold iD
 repeat' split
 all_goals omega
theorem Ca (key:Int):∀ (l:List En) (v:Int),0≤v→0≤l.foldl (fun v e=>iD key v e.2.2) v
 | [],_,h=>h
 | _ :: l,_,h=>Ca key l _ (Gg h)
theorem ER (l:List En) (key:Int):0≤jl l key:=Ca key l 0 (Int.le_refl _)
theorem JJ {l:List En} {op:ByteArray} (h:OpF op) (hl:∀ e∈l,OpF e.2.2):(doS (svF l).vals op).2=pF l op:=by
 have h2:=h.sz.s2;have hv:=AV _ l rfl hl;by_cases hr:b0 op=114
 ·have hk:=h.r hr;unfold doS pF;rw[if_pos (by rw[hk];simp),if_pos hr]
 have hk:=h.k hr;have hkk:97≤b1 op∧b1 op≤122:=by unfold lJ at hk;simpa using hk
 obtain⟨i,hi⟩:∃ i:Nat,b1 op=97+(i:Int):=⟨(b1 op-97).toNat,by omega⟩
 have hi':(b1 op-97).toNat=i:=by omega
 have hkv:=hv.2 i (by omega)
 rw[← hi] at hkv;have hnn:=ER l (b1 op);unfold doS pF;rw[if_neg (by rw[hk];simp;omega),hi',hkv,if_neg hr]
 generalize jl l (b1 op)=x at *;by_cases g:b0 op=103
 ·rw[if_pos (beq_iff_eq.2 g),if_pos g];by_cases z:x=0
  ·have nz:¬0<x:=by omega
   rw[if_pos (beq_iff_eq.2 z),if_neg nz]
  ·have nz:0<x:=by omega
   rw[if_neg (by simpa using z),if_pos nz]
 rw[if_neg (by simpa using g),if_neg g]
 by_cases d:b0 op=100
 ·rw[if_pos (beq_iff_eq.2 d),if_pos d];by_cases z:x=0
  ·rw[if_pos (beq_iff_eq.2 z),if_pos z]
  ·rw[if_neg (by simpa using z),if_neg z]
 rw[if_neg (by simpa using d),if_neg d]
 by_cases p:b0 op=112
 ·have np:¬b0 op=99:=by omega
  have p3:2<op.size:=by have:=h.sz.s3 p;omega
  rw[if_pos (beq_iff_eq.2 p),if_pos p3,if_neg np]
 rw[if_neg (by simpa using p)]
 by_cases c:b0 op=99
 ·have:=h.sz.s4 c
  rw[if_pos (beq_iff_eq.2 c),if_pos c];by_cases z:x=bN op 2
  ·rw[if_neg (by simp only[Bool.or_eq_true,decide_eq_true_eq,Bool.not_eq_true',beq_eq_false_iff_ne];intro q;rcases q with q|q;(· omega);(· exact q z)),if_pos z]
  ·rw[if_pos (by simp only[Bool.or_eq_true,decide_eq_true_eq,Bool.not_eq_true',beq_eq_false_iff_ne];exact .inr z),if_neg z]
 ·rw[if_neg (by simpa using c),if_neg c]
def jU (l:List En) (a:Int):Nat→Int×ByteArray
 | 0=>(0,⟨#[]⟩)
 | k+1=>match l[k]? with
  | some e=>if e.1=a then (e.2.1,pF (l.take k) e.2.2) else jU l a k
  | none=>jU l a k
theorem zR (l m:List En) (a:Int):∀ k,k≤l.length→jU (l++m) a k=jU l a k
 | 0,_=>rfl
 | k+1,hk=>by
  unfold jU;rw[List.getElem?_append_left (by omega),List.take_append_of_le_length (by omega),zR l m a k (by omega)]
theorem EP:∀ (n:Nat) (l:List En),l.length=n→(∀ e∈l,OpF e.2.2)→(∀ e∈l,1≤e.1∧e.1≤9)→(svF l).ses.length=9∧∀ a:Int,1≤a→a≤9→(svF l).ses.getD (a-1).toNat (0,⟨#[]⟩)=jU l a n
 | 0,l,hl,_,_=>by
  have:l=[]:=List.eq_nil_of_length_eq_zero hl
  subst this;refine⟨rfl,fun a h1 h9=>?_⟩
  show (List.replicate 9 ((0:Int),(⟨#[]⟩:ByteArray))).getD (a-1).toNat (0,⟨#[]⟩)=(0,⟨#[]⟩)
  rw[List.getD_eq_getElem?_getD,List.getElem?_replicate,if_pos (by omega)]
  rfl
 | n+1,l,hl,hf,hc=>by
  have hne:l≠[]:=by intro hc;rw[hc] at hl;simp at hl
  obtain⟨l',e,rfl⟩:∃ l' e,l=l'++[e]:=⟨_,_,(List.dropLast_concat_getLast hne).symm⟩
  have hl':l'.length=n:=by simpa using hl
  have ih:=EP n l' hl' (fun x hx=>hf x (by simp[hx])) (fun x hx=>hc x (by simp[hx]))
  have ho:=hf e (by simp)
  have hce:=hc e (by simp)
  have hd:=JJ ho (fun x hx=>hf x (by simp[hx]):∀ x∈l',OpF x.2.2)
  rw[Dk];refine⟨by show ((svF l').ses.set _ _).length=9;simpa using ih.1,fun a h1 h9=>?_⟩
  have hle:(l'++[e])[n]? = some e:=by rw[← hl'];simp
  have htk:(l'++[e]).take n=l':=by rw[← hl'];simp
  unfold jU;rw[hle,htk,zR l' [e] a n (by omega),← ih.2 a h1 h9]
  show ((svF l').ses.set (e.1-1).toNat (e.2.1,(doS (svF l').vals e.2.2).2)).getD (a-1).toNat (0,⟨#[]⟩)=_
  rw[hd,List.getD_eq_getElem?_getD,List.getElem?_set];by_cases q:e.1=a
  ·rw[if_pos (by omega),if_pos (by rw[ih.1];omega)]
   simp[q]
  ·rw[if_neg (by omega)]
   simp[q,List.getD_eq_getElem?_getD]
theorem uq {op:ByteArray} {n:Int} (h:lD op.data.toList n=true):OpF op:=by
  have hbn : ∀ (k : Nat) (hk : k < op.size), ((op.data.toList.getD k 0).toNat : Int) = (op[k].toNat : Int) := fun k hk => by rw [atS hk]
  by_cases h0:0<op.size
  · by_cases hr:((op[0].toNat:Int)==114)=true
    · rw[Km h0 hr] at h
      have hl:=jH h
      have hs:(op.extract 1 op.size).data.toList.length=op.size-1:=by
        rw[Array.length_toList]
        show (op.extract 1 op.size).size=_
        rw[ByteArray.size_extract];omega
      have h2 : 2 ≤ op.size := by omega
      have e0 : b0 op = (op[0].toNat : Int) := hbn 0 (by omega)
      have e1 : b1 op = (op[1].toNat : Int) := hbn 1 (by omega)
      have hr':=beq_iff_eq.1 hr
      have hk:lJ (b1 op)=false:=by
        cases hc:lJ (b1 op)
        · rfl
        · exfalso
          have hkk : 97 ≤ b1 op ∧ b1 op ≤ 122 := by unfold lJ at hc; simpa using hc
          refine Ip h (c := op[1]) (.inr (by omega)) ?_
          have : (op.extract 1 op.size).data.toList = op.data.toList.drop 1 := by simp [ByteArray.data_extract, Array.toList_extract, List.extract_eq_take_drop]; rw [List.take_of_length_le (by simp)]
          rw[this]
          have hm : op.data.toList[1]'(by simp; omega) = op[1] := rfl
          rw[← hm]
          exact List.mem_drop_iff_getElem.2 ⟨0, by simp; omega, rfl⟩
      exact ⟨⟨h2, fun q => by omega, fun q => by omega⟩, fun _ => hk, fun q => absurd (e0.trans hr') q⟩
    · have hr : ((op[0].toNat : Int) == 114) = false := by simpa using hr
      rw[ask_o h0 hr] at h
      by_cases h2:2≤op.size
      · rw[xL op h2] at h
        have e0 : b0 op = (op[0].toNat : Int) := hbn 0 (by omega)
        have e1 : b1 op = (op[1].toNat : Int) := hbn 1 (by omega)
        simp only[Bool.and_eq_true,beq_iff_eq] at h
        obtain⟨h3,⟨h4,h5⟩,h6⟩:=h
        have hw : ∀ x : UInt8, b0 op = (x.toNat : Int) → op[0] = x := fun x hx => UInt8.toNat_inj.1 (by omega)
        refine⟨⟨h2,fun q=>?_,fun q=>?_⟩,fun q=>?_,fun _=>?_⟩
        · have := hw 112 q; rw [this] at h6; have : fM 112 = 3 := by decide
          omega
        · have := hw 99 q; rw [this] at h6; have : fM 99 = 4 := by decide
          omega
        · have:=beq_eq_false_iff_ne.1 hr;omega
        · rw[e1];exact h4
      · rw [DL (by omega)] at h; simp at h
  · have : op.data.toList = [] := List.eq_nil_of_length_eq_zero (by have : op.data.toList.length = op.size := by rw [Array.length_toList]; rfl
                                                                    omega)
    rw[this] at h
    simp[lD,dh] at h
theorem tK:∀ (l:List oJ) (k:Nat) (h:k<l.length),(bC l)[6*k]? = some (I J l[k].e.1)∧(bC l)[6*k+1]? = some (I J l[k].e.2.1)∧(bC l)[6*k+2]? = some (Z l[k].e.2.2)∧(bC l)[6*k+3]? = some (Z l[k].text)∧(bC l)[6*k+4]? = some (I J l[k].floor)∧(bC l)[6*k+5]? = some (.bool l[k].bad)
 | a :: l,0,_=>⟨rfl,rfl,rfl,rfl,rfl,rfl⟩
 | a :: l,k+1,h=>by
  have:=tK l k (by simpa using h)
  simp only[List.getElem_cons_succ];exact this
theorem mR:∀ a b:List oJ,bC (a++b)=bC a++bC b
 | [],_=>rfl
 | a :: l,b=>by have:=mR l b;simp[bC] at *;exact this
def jE (w:World) (v:Value) (l:List oJ):Prop:=Rd w 6 v l.length (bC l)
theorem jE.get {w:World} {a:Option Addr} {n cap:Nat} {l:List oJ} (h:jE w (Y a n cap) l) (k:Nat) (hk:k<l.length) :
  ∃ b off,a=some ⟨b,off,O⟩∧b<w.heap.size∧w.cell? ⟨b,off+k*6,O⟩=some (I J l[k].e.1)∧w.cell? ⟨b,off+k*6+1,O⟩=some (I J l[k].e.2.1)∧w.cell? ⟨b,off+k*6+2,O⟩=some (Z l[k].e.2.2)∧w.cell? ⟨b,off+k*6+3,O⟩=some (Z l[k].text)∧w.cell? ⟨b,off+k*6+4,O⟩=some (I J l[k].floor)∧w.cell? ⟨b,off+k*6+5,O⟩=some (.bool l[k].bad):=by
 obtain⟨q0,q1,q2,q3,q4,q5⟩:=tK l k hk
 rcases h.2 with ⟨h1,h2⟩|⟨b,off,cap',h1,_,_,hb,hc⟩
 ·omega
 ·simp only[Value.slice.injEq] at h1;obtain⟨rfl,rfl,rfl⟩:=h1
  refine⟨b,off,rfl,hb,?_,?_,?_,?_,?_,?_⟩
  ·have:=hc _ _ q0;rwa [show off+6*k=off+k*6 by omega] at this
  ·have:=hc _ _ q1;rwa [show off+(6*k+1)=off+k*6+1 by omega] at this
  ·have:=hc _ _ q2;rwa [show off+(6*k+2)=off+k*6+2 by omega] at this
  ·have:=hc _ _ q3;rwa [show off+(6*k+3)=off+k*6+3 by omega] at this
  ·have:=hc _ _ q4;rwa [show off+(6*k+4)=off+k*6+4 by omega] at this
  ·have:=hc _ _ q5;rwa [show off+(6*k+5)=off+k*6+5 by omega] at this
theorem jE.shape {w:World} {v:Value} {l:List oJ} (h:jE w v l):∃ a cap,v=Y a l.length cap∧l.length≤cap∧cap≤9223372036854775807:=by
 obtain⟨a,cap,rfl,hn,hm,_⟩:=Rd.form h
 exact⟨a,cap,rfl,hn,by unfold maxLen at hm;omega⟩
theorem KAt.eW {N:Nat} {w:World} {g:Nat} {K:Kw} {V:Kv} (h:KAt N w g K V):jE w V.vW K.wishes:=Rd.bK h.rW
section
variable {w w0:World} {b bl:Nat} {W F:List Nat} {R:Rp} {V:Rv} {P:Pm} {vl vg vo vL:Value}
theorem GK (E:En) (n:Int) (w:World) (hs:E.2.2.size≤maxLen):Calls Tryz.prog 45 #[.agg #[I J E.1,I J E.2.1,Z E.2.2],I J n] w fun e w'=>∃ a k c,e=Zr (Y a k c)∧a.isNone=Rp.gY E n∧Below w.heap.size w w' :=
 (mO E.1 E.2.1 E.2.2 n w hs).mono fun e w' q=>by
  obtain⟨v,rfl,q1,q2,q3⟩:=q
  unfold Rp.gY jI;cases hr:(nk E.2.2&&aQ (E.2.2.extract 1 E.2.2.size).data.toList n)
  ·have:=q2.2 hr
   subst this;exact⟨O,0,0,rfl,rfl,q3⟩
  ·have hro:nk E.2.2=true:=by rw[Bool.and_eq_true] at hr;exact hr.1
   rcases (q1 hro).2 with ⟨h,_⟩|⟨g,cap,cur,h,_⟩
   ·rw[q2.1 h] at hr;cases hr
   ·subst h;exact⟨_,_,_,rfl,rfl,q3⟩
theorem CY (h:ay w b bl W F R V) (hR:Ok R) (cl:Int):Calls Tryz.prog 43 #[Zp (some ⟨b,0,O⟩),I J cl] w fun e w'=>e=Zr (I J (R.iW cl))∧w'=w:=by
 have hl10:=hR.lg;have c9:=h.c9;obtain⟨aL,cL,hv⟩:=h.g9
 have hE:=h.ents;rw[hv] at c9 hE;have HS:Hid (∀ k,Rp.qO R.log cl (k+1)=if (R.log.getD k (0,0,⟨#[]⟩)).1=cl then (R.log.getD k (0,0,⟨#[]⟩)).2.1 else Rp.qO R.log cl k):=fun k=>rfl
 have HZ:Hid (Rp.qO R.log cl 0=0):=rfl
 have HD:Hid (R.iW cl=Rp.qO R.log cl R.log.length):=rfl
 clear h;go_enter Tryz.func43,Tryz.ntmps43;go_wp2_with fail;go_loop [5] (fun i=>∃ k:Nat,k≤R.log.length∧i=I J ((k:Int)-1)∧R.iW cl=Rp.qO R.log cl k) (fun i=>(intOf i+1).toNat)
 case atStart=>exact⟨R.log.length,Nat.le_refl _,by go_num,HD.out⟩
 case round =>
  obtain⟨k,hk,rfl,hk2⟩:=hrel
  have HK:=ah hk2;clear hk2;by_cases hz:k=0
  ·subst hz;have HE:Hid (R.iW cl=0):=by unfold Hid;rw[HK.out,HZ.out]
   go_wp2_with fail;go_ret;exact⟨mH HE.out.symm,rfl⟩
  ·obtain⟨j,rfl⟩:∃ j,k=j+1:=⟨k-1,by omega⟩
   have hlt:j<R.log.length:=by omega
   have eD:R.log.getD j (0,0,⟨#[]⟩)=R.log[j]:=by simp[List.getD,hlt]
   have HSj:Hid (Rp.qO R.log cl (j+1)=if R.log[j].1=cl then R.log[j].2.1 else Rp.qO R.log cl j):=by unfold Hid;rw[HS.out,eD]
   obtain⟨be,oe,rfl,hbe,e0,e1,e2⟩:=hE.get j hlt
   have j1:(0:Int)≤(j:Int):=by omega
   have j2:(j:Int)<(R.log.length:Int):=by omega
   have j3:(((j+1:Nat):Int)-1)=(j:Int):=by omega
   clear eD;rw[j3];generalize R.log[j]=s at *;cases hq:(s.1==cl)
   ·have HE:Hid (R.iW cl=Rp.qO R.log cl j):=by unfold Hid;rw[HK.out,HSj.out,if_neg (by simpa using hq)]
    go_wp2_with fail;go_round
    case rel=>exact⟨j,by omega,by go_num,HE.out⟩
    case measure=>simp[intOf]
   ·have HE:Hid (R.iW cl=s.2.1):=by unfold Hid;rw[HK.out,HSj.out,if_pos (by simpa using hq)]
    go_wp2_with fail;go_ret;exact⟨mH HE.out.symm,rfl⟩
theorem zx (h:Rst w0 w b bl W F R) (E:En) (hc:1≤E.1∧E.1≤9) (hn:0≤E.2.1∧E.2.1≤999) (hz:(jZ R.sv E.1).2.size≤1000) (ho:R.out.length≤900000) :
  Calls Tryz.prog 44 #[Zp (some ⟨b,0,O⟩),.agg #[I J E.1,I J E.2.1,Z E.2.2]] w fun e w'=>e=Zr (.tuple #[])∧Rst w0 w' b bl W F (R.gD E):=by
 obtain⟨W1,F1,V1,h1,k1,m1⟩:=h
 have hbA:Below w.heap.size w (w.alloc (.cells #[I J E.1,I J E.2.1,Z E.2.2] 66)):=(Below.refl _ w).alloc (Nat.le_refl _) _
 have hnew:(w.alloc (.cells #[I J E.1,I J E.2.1,Z E.2.2] 66)).heap[w.heap.size]? = _:=heap_alloc_new w (.cells #[I J E.1,I J E.2.1,Z E.2.2] 66)
 have h2:=h1.below hbA;have HSA:Hid (Rst w0 (w.alloc (.cells #[I J E.1,I J E.2.1,Z E.2.2] 66)) b bl W F R):=Rst.step k1 m1 (Rst.of h2 (Kp.of_below hbA))
 have HE0:Hid (R.gD E=if (jZ R.sv E.1).1=E.2.1 then R.reply E.1 E.2.1 (jZ R.sv E.1).2 else R):=rfl
 have hcS:∀ (d:Nat) (os:Array Obj),Calls Tryz.prog 74 #[Zp (some ⟨b,11,O⟩),I J E.1] (Go.Sort.grow (redrawn (w.alloc (.cells #[I J E.1,I J E.2.1,Z E.2.2] 66)) d) os) fun e w'=>e=Zr (.tuple #[I J (jZ R.sv E.1).1,Z (jZ R.sv E.1).2])∧Below (Go.Sort.grow (redrawn (w.alloc (.cells #[I J E.1,I J E.2.1,Z E.2.2] 66)) d) os).heap.size (Go.Sort.grow (redrawn (w.alloc (.cells #[I J E.1,I J E.2.1,Z E.2.2] 66)) d) os) w':=fun d os=>uU (h2.below (below_regrown _ d os)).sv E.1
 clear h1 k1 m1 hbA;go_enter Tryz.func44,Tryz.ntmps44;go_upto_region 1 with fail
 generalize w.alloc (.cells #[I J E.1,I J E.2.1,Z E.2.2] 66)=wA at *;have e0:wA.cell? ⟨w.heap.size,0,O⟩=some (I J E.1):=by simp[World.cell?,hnew]
 have e1:wA.cell? ⟨w.heap.size,1,O⟩=some (I J E.2.1):=by simp[World.cell?,hnew]
 have ke0:=cell_regrown e0;have cS:=fun d os=>Calls.regrown_of (w:=wA) (d:=d) (os:=os) (hcS d os)
 generalize jZ R.sv E.1=ss at *;go_wp2_with fail;refine wp_region_quiet_below (by kernel_rfl) (by kernel_rfl) ?_
 repeat (go_big_quiet_step (first|exact cS _ _))
 refine wpQuiet_nil ?_;intro w2 hw';have hb2:Below wA.heap.size wA w2:=by
  obtain⟨⟨dq,osq⟩,hw''⟩:=hw'
  rw[hw''];exact below_regrown wA dq osq
 have f0:=(hb2.cell (p:=⟨w.heap.size,0,O⟩) (lt_of_block hnew)).trans e0;have f1:=(hb2.cell (p:=⟨w.heap.size,1,O⟩) (lt_of_block hnew)).trans e1;have HS2:=ah (HSA.out.below hb2);clear hw' cS hcS ke0 e0 e1 h2 hb2;cases hq:(ss.1==E.2.1)
 ·have HE:Hid (R.gD E=R):=by unfold Hid;rw[HE0.out,if_neg (by simpa using hq)]
  go_wp2_with fail;exact bodyPost_end (results_none rfl _ _ _) rfl ⟨rfl,by rw[HE.out];exact HS2.out⟩
 ·have HE:Hid (R.gD E=R.reply E.1 E.2.1 ss.2):=by unfold Hid;rw[HE0.out,if_pos (by simpa using hq)]
  go_wp2_with fail;refine (yH HS2.out E.1 E.2.1 ss.2 hc hn hz (by omega)).mono ?_
  rintro e w3 ⟨rfl,hs3⟩;have HS3:=ah hs3;clear hs3;go_wp2_with fail;exact bodyPost_end (results_none rfl _ _ _) rfl ⟨rfl,by rw[HE.out];exact HS3.out⟩
end
end Go.Proofs.YtajakaadgagejaaGreatDoor
