import Derived.Test.YtajakaadgagejaaGreatDoorA17
set_option maxRecDepth 100000
set_option maxHeartbeats 8000000
set_option linter.unusedVariables false
set_option linter.unusedSimpArgs false
set_option linter.unusedSectionVars false
namespace Go.Proofs.YtajakaadgagejaaGreatDoor
open Go.Value renaming int→I,slice→Y,string→Z,pointer→Zp
open Go.Ending renaming returned→Zr
open _root_.ByteArray renaming empty→Ze
open Go.IntKind renaming i64→J
open Option renaming none→O
open Go.RowKit
section
variable {N:Nat} {w w':World} {g:Nat} {K K':Kw} {V V':Kv} {b bl:Nat} {W F:List Nat} {R:Rp} {U:Rv}
theorem Cj (h:KAt N w g K V) (hx:ay w b bl W F R U) (c:Nat) (hc:c≤K.list.length) (hc1:c≤1000) (hsv:R.sv=svF (K.list.take c)) (hf:∀ e∈K.list,OpF e.2.2) (hcl:∀ e∈K.list,1≤e.1∧e.1≤9) :
  Calls Tryz.prog 109 #[Zp (some ⟨g,0,O⟩),Zp (some ⟨b,0,O⟩),I J c] w fun e w'=>e=Zr (.bool true)∧Below w.heap.size w w':=by
 have hfc:∀ e∈K.list.take c,OpF e.2.2:=fun e he=>hf e (List.mem_of_mem_take he)
 have hlc:(K.list.take c).length=c:=by rw[List.length_take];omega
 have hv:=AV _ (K.list.take c) rfl hfc;have hse:=EP c (K.list.take c) hlc hfc (fun e he=>hcl e (List.mem_of_mem_take he))
 have HVal:Hid (∀ (k:Nat),97≤k→k≤122→∀ w2,Below w.heap.size w w2→Calls Tryz.prog 11 #[Zp (some ⟨b,0,O⟩),I .u8 (k:Int)] w2 fun e w'=>e=Zr (Z (if jl (K.list.take c) k=0 then ⟨#[]⟩ else yu (jl (K.list.take c) k)))∧w'=w2):=fun k h1 h2 w2 hw2=>by
  have:=Ab (hx.below hw2) (k:Int) (by omega) (by omega)
  have e:tH R.sv (k:Int)=if jl (K.list.take c) k=0 then ⟨#[]⟩ else yu (jl (K.list.take c) k):=by
   unfold tH;have hk:lJ (k:Int)=true:=by unfold lJ;simp;omega
   rw[if_pos hk,hsv];have hj:=hv.2 (k-97) (by omega)
   rw[show ((k:Int)-97).toNat=k-97 by omega,hj,show (97:Int)+((k-97:Nat):Int)=k by omega]
   by_cases z:jl (K.list.take c) k=0
   ·rw[if_pos z,if_pos (beq_iff_eq.2 z)]
   ·rw[if_neg z,if_neg (by simpa using z)]
  rw[e] at this;exact this
 have HKv:Hid (∀ (k:Nat) w2,Below w.heap.size w w2→Calls Tryz.prog 146 #[Zp (some ⟨g,0,O⟩),I J c,I .u8 (k:Int)] w2 fun e w'=>e=Zr (I .u8 (jl (K.list.take c) k))∧Below w2.heap.size w2 w'):=fun k w2 hw2=>xV (h.below hw2) c hc k (fun e he=>(hf e he).sz)
 have HNn:Hid (∀ k:Nat,0≤jl (K.list.take c) (k:Int)):=fun k=>ER _ _
 have HSes:Hid (∀ (a:Int),1≤a→a≤9→∀ w2,Below w.heap.size w w2→Calls Tryz.prog 147 #[Zp (some ⟨b,0,O⟩),I J a] w2 fun e w'=>e=Zr (.tuple #[I J (jU (K.list.take c) a c).1,Z (jU (K.list.take c) a c).2])∧Below w2.heap.size w2 w'):=fun a h1 h9 w2 hw2=>by
  have:=CU (hx.below hw2) a
  have e:jZ R.sv a=jU (K.list.take c) a c:=by
   unfold jZ;rw[if_neg (by omega),hsv]
   exact hse.2 a h1 h9
  rw[e] at this;exact this
 have HRes:Hid (∀ (k:Nat) (hk:k<K.list.length) w2,Below w.heap.size w w2→Calls Tryz.prog 148 #[Zp (some ⟨g,0,O⟩),I J k] w2 fun e w'=>e=Zr (Z (pF (K.list.take k) K.list[k].2.2))∧Below w2.heap.size w2 w'):=fun k hk w2 hw2=>uO (h.below hw2) k hk (fun e he=>(hf e he).sz)
 have hP:=h.eL;obtain⟨aP,cP,hvP,hcap,hmax⟩:=hP.shape
 rw[hvP] at hP;have HC:Hid (∀ w2,Below w.heap.size w w2→w2.cell? ⟨g,10,O⟩=some (Y aP K.list.length cP)):=fun w2 hw2=>by rw[← hvP];exact (h.below hw2).cell 10
 have HStep:Hid (∀ (a:Int) (k:Nat),(hk:k<K.list.length)→k<c→jU (K.list.take c) a (k+1)=if K.list[k].1=a then (K.list[k].2.1,pF (K.list.take k) K.list[k].2.2) else jU (K.list.take c) a k):=fun a k hk hkc=>by
  have e1:(K.list.take c)[k]? = some K.list[k]:=by rw[List.getElem?_take,if_pos hkc,List.getElem?_eq_getElem hk]
  have e2:(K.list.take c).take k=K.list.take k:=by rw[List.take_take,Nat.min_eq_left (by omega)]
  conv=>lhs;unfold jU
  rw[e1,e2]
 clear hv hse hsv hx hfc hf hcl h;have hcv:=H8;go_enter Tryz.func109,Tryz.ntmps109;go_wp2_with fail;go_loopw [7] (fun i wr=>∃ k:Nat,97≤k∧k≤123∧i=I .u8 k∧Below w.heap.size w wr) (fun i _=>123-(intOf i).toNat)
 case atStart=>exact⟨97,by omega,by omega,rfl,Below.refl _ _⟩
 case round =>
  obtain⟨k,hk0,hk,rfl,hbw⟩:=hrel
  by_cases hlt:k<123
  ·have j3:(k:Int)≤122:=by omega
   have HQ:=ah (HVal.out k hk0 (by omega) wr hbw)
   have HQ2:=ah (HKv.out k);have nn:=HNn.out k;generalize jl (K.list.take c) (k:Int)=v at *;by_cases z:v=0
   ·subst z;rw[if_pos rfl] at HQ;go_wp2_with fail;refine HQ.out.mono ?_;rintro e w1 ⟨rfl,hw1⟩;subst hw1;go_wp2_with fail;refine (HQ2.out _ hbw).mono ?_;rintro e w2 ⟨rfl,hb2⟩;have hb3:Below w.heap.size w w2:=hbw.trans (hb2.mono hbw.size)
    go_wp2_with fail;go_roundw
    case rel=>exact⟨k+1,by omega,by omega,by go_num,hb3⟩
    case measure=>simp[intOf];omega
   ·have z1:(v==0)=false:=beq_eq_false_iff_ne.2 z
    have z2:0<v:=by omega
    rw[if_neg z] at HQ;unfold yu at HQ;go_wp2_with fail;refine HQ.out.mono ?_;rintro e w1 ⟨rfl,hw1⟩;subst hw1;go_wp2_with fail;refine (HQ2.out _ hbw).mono ?_;rintro e w2 ⟨rfl,hb2⟩;have hb3:Below w.heap.size w w2:=hbw.trans (hb2.mono hbw.size)
    go_wp2_with fail;go_roundw
    case rel=>exact⟨k+1,by omega,by omega,by go_num,hb3.alloc hb3.size _⟩
    case measure=>simp[intOf];omega
  ·have j4:¬(k:Int)≤122:=by omega
   clear HVal HKv HNn hcv;obtain⟨wL,HwL⟩:∃ x,x=wr:=⟨_,rfl⟩
   subst HwL;go_wp2_with fail;go_loopw [10] (fun i wr=>∃ a:Nat,1≤a∧a≤10∧i=I J a∧Below w.heap.size w wr) (fun i _=>10-(intOf i).toNat)
   case atStart=>exact⟨1,by omega,by omega,rfl,hbw⟩
   case round =>
    obtain⟨a,ha0,ha,rfl,hbv⟩:=hrel
    by_cases hla:a<10
    ·have q1:(a:Int)≤9:=by omega
     have HQ:=ah (HSes.out a (by omega) (by omega) _ hbv)
     go_wp2_with fail;refine HQ.out.mono ?_;rintro e w1 ⟨rfl,hb1⟩;have hb3:Below w.heap.size w w1:=hbv.trans (hb1.mono hbv.size)
     have HF:Hid (jU (K.list.take c) a 0=(0,⟨#[]⟩)):=rfl
     go_wp2_with fail;go_loopw [13,14,15] (fun m q i wr=>∃ k:Nat,k≤c∧i=I J k∧m=I J (jU (K.list.take c) a k).1∧q=Z (jU (K.list.take c) a k).2∧Below w.heap.size w wr) (fun _ _ i _=>c-(intOf i).toNat)
     case atStart=>exact⟨0,Nat.zero_le _,rfl,by rw[HF.out],by rw[HF.out],hb3⟩
     case round =>
      obtain⟨k,hk,rfl,rfl,rfl,hbu⟩:=hrel
      by_cases hlk:k<c
      ·have c10:=HC.out _ hbu;obtain⟨b1',o1,rfl,_,d1,d2,d3⟩:=(hP.below hbu).get k (by omega)
       have j1:(0:Int)≤(k:Int):=by omega
       have j2:(k:Int)<(K.list.length:Int):=by omega
       have j3:(k:Int)<(c:Int):=by omega
       have HE:=ah (HStep.out a k (by omega) hlk)
       have HR:=ah (HRes.out k (by omega) _ hbu)
       generalize K.list[k].1=cl at *;generalize K.list[k].2.1=nu at *;generalize pF (K.list.take k) K.list[k].2.2=rs at *;by_cases hq:cl=(a:Int)
       ·have hq':(cl==(a:Int))=true:=beq_iff_eq.2 hq
        rw[if_pos hq] at HE;clear hq;go_wp2_with fail;refine HR.out.mono ?_;rintro e w2 ⟨rfl,hb4⟩;have hb5:Below w.heap.size w w2:=hbu.trans (hb4.mono hbu.size)
        go_wp2_with fail;go_roundw
        case rel=>exact⟨k+1,by omega,by go_num,by rw[HE.out],by rw[HE.out],hb5⟩
        case measure=>simp[intOf];omega
       ·have hq':(cl==(a:Int))=false:=beq_eq_false_iff_ne.2 hq
        rw[if_neg hq] at HE;clear hq;go_wp2_with fail;go_roundw
        case rel=>exact⟨k+1,by omega,by go_num,by rw[HE.out],by rw[HE.out],hbu⟩
        case measure=>simp[intOf];omega
      ·have hkc:k=c:=by omega
       subst hkc;have j3:¬(k:Int)<(k:Int):=by omega
       generalize jU (K.list.take k) a k=ss at *;go_wp2_with fail;go_roundw
       case rel=>exact⟨a+1,by omega,by omega,by go_num,hbu⟩
       case measure=>simp[intOf];omega
    ·have q1:¬(a:Int)≤9:=by omega
     go_wp2_with fail;go_ret;exact⟨rfl,hbv⟩
end
def EVP (w w':World) (e:Ending):Prop:=∃ a v:Int,e=Zr (.tuple #[I J a,I J v])∧0≤a∧a≤1000∧Below w.heap.size w w'
section
variable {N:Nat} {w w':World} {g:Nat} {K K':Kw} {V V':Kv}
theorem Cg (h:KAt N w g K V) (z:KSz K) (he:∀ x∈K.nds,0≤x.R.epoch∧x.R.epoch≤1000) :
  Calls Tryz.prog 149 #[Zp (some ⟨g,0,O⟩)] w fun e w'=>EVP w w' e:=by
 obtain⟨n,hn⟩:∃ n:Nat,K.n=n:=⟨K.n.toNat,by have:=z.n3;omega⟩
 have z1:=z.nds;have z7:=z.n7;rw[hn] at z1 z7;obtain⟨aN,cN,hvN⟩:=au h.rN
 have HN:Hid (∀ w2,Below w.heap.size w w2→∀ k,(hk:k<K.nds.length)→∃ b off,aN=some ⟨b,off,O⟩∧b<w2.heap.size∧w2.cell? ⟨b,off+k,O⟩=some (Zp (some ⟨K.nds[k].b,0,O⟩))):=fun w2 hw2 k hk =>
  Rd.AJ (by have:=Rd.bK (h.below hw2).rN;rw[hvN] at this;exact this) (by rw[List.getElem?_map,List.getElem?_eq_getElem hk];rfl)
 have HC1:Hid (∀ w2,Below w.heap.size w w2→w2.cell? ⟨g,1,O⟩=some (I J n)):=fun w2 hw2=>by rw[← hn];exact (h.below hw2).cell 1
 have HC2:Hid (∀ w2,Below w.heap.size w w2→w2.cell? ⟨g,2,O⟩=some (Y aN K.nds.length cN)):=fun w2 hw2=>by rw[← hvN];exact (h.below hw2).cell 2
 have HW:Hid (∀ w2,Below w.heap.size w w2→∀ k,(hk:k<K.nds.length)→Calls Tryz.prog 30 #[Zp (some ⟨K.nds[k].b,0,O⟩)] w2 fun e w'=>e=Zr (.tuple #[I J K.nds[k].R.epoch,I J K.nds[k].R.view,I J K.nds[k].R.status,I J (K.nds[k].R.decided:Int)])∧∃ n,w'=w2.drewN n):=fun w2 hw2 k hk=>kU (h.node k hk hw2)
 have HEp:Hid (∀ k,(hk:k<K.nds.length)→0≤K.nds[k].R.epoch∧K.nds[k].R.epoch≤1000):=fun k hk=>he _ (List.getElem_mem hk)
 clear h z he;go_enter Tryz.func149,Tryz.ntmps149;go_wp2_with fail;go_loopw [4,5,6] (fun ve vv i wr=>∃ (k:Nat) (a v:Int),0≤a∧a≤1000∧k≤n∧i=I J k∧ve=I J a∧vv=I J v∧Below w.heap.size w wr) (fun _ _ i _=>n-(intOf i).toNat)
 case atStart=>exact⟨0,0,0,by omega,by omega,Nat.zero_le _,rfl,rfl,rfl,Below.refl _ _⟩
 case round =>
  obtain⟨k,a,v,ha0,ha1,hk,rfl,rfl,rfl,hbw⟩:=hrel
  have c1:=HC1.out _ hbw;by_cases hlt:k<n
  ·obtain⟨b1,o1,rfl,hb1,d1⟩:=HN.out _ hbw k (by omega)
   have j1:(0:Int)≤(k:Int):=by omega
   have j2:(k:Int)<(K.nds.length:Int):=by omega
   have j4:(k:Int)<(n:Int):=by omega
   have c2:=HC2.out _ hbw;have HQ:=ah (HW.out wr hbw k (by omega))
   have hep:=HEp.out k (by omega)
   generalize K.nds[k].b=bb at *;generalize K.nds[k].R.epoch=r1 at *;generalize K.nds[k].R.view=r2 at *;generalize K.nds[k].R.status=r3 at *;generalize K.nds[k].R.decided=r4 at *;go_wp2_with fail;refine HQ.out.mono ?_;rintro e w2 ⟨rfl,nn,hw2⟩;have hb2':Below w.heap.size w w2:=by rw[hw2];exact below_drewN hbw nn
   clear hw2;by_cases s1:r3=1∨r3=2
   ·by_cases q1:a<r1
    ·rcases s1 with s1|s1
     all_goals
      subst s1;go_wp2_with fail;go_roundw
      case rel=>exact⟨k+1,r1,r2,hep.1,hep.2,by omega,by go_num,rfl,rfl,hb2'⟩
      case measure=>simp[intOf];omega
    ·by_cases q2:r1=a
     ·by_cases q3:v<r2
      ·rcases s1 with s1|s1
       all_goals
        subst s1;subst q2;go_wp2_with fail;go_roundw
        case rel=>exact⟨k+1,r1,r2,hep.1,hep.2,by omega,by go_num,rfl,rfl,hb2'⟩
        case measure=>simp[intOf];omega
      ·rcases s1 with s1|s1
       all_goals
        subst s1;subst q2;go_wp2_with fail;go_roundw
        case rel=>exact⟨k+1,r1,v,hep.1,hep.2,by omega,by go_num,rfl,rfl,hb2'⟩
        case measure=>simp[intOf];omega
     ·have q2':(r1==a)=false:=beq_eq_false_iff_ne.2 q2
      rcases s1 with s1|s1
      all_goals
       subst s1;go_wp2_with fail;go_roundw
       case rel=>exact⟨k+1,a,v,ha0,ha1,by omega,by go_num,rfl,rfl,hb2'⟩
       case measure=>simp[intOf];omega
   ·have s2:(r3 != 1)=true:=bne_iff_ne.2 (fun hc=>s1 (.inl hc))
    have s3:(r3 != 2)=true:=bne_iff_ne.2 (fun hc=>s1 (.inr hc))
    clear s1;go_wp2_with fail;go_roundw
    case rel=>exact⟨k+1,a,v,ha0,ha1,by omega,by go_num,rfl,rfl,hb2'⟩
    case measure=>simp[intOf];omega
  ·go_wp2_with fail;go_ret2;exact⟨a,v,rfl,ha0,ha1,hbw⟩
end
section
variable {w w0:World} {b bl:Nat} {W F:List Nat} {R:Rp} {V:Rv} {P:Pm} {vl vg vo vL:Value}
theorem zF (l:List Bool) (k:Nat) (hk:k<l.length):Rp.starters (l.take (k+1))=Rp.starters (l.take k)+(if l[k]=true then 1 else 0):=by
 unfold Rp.starters;rw[List.take_succ_eq_append_getElem hk,List.countP_append,List.countP_singleton]
theorem Bq (h:ay w b bl W F R V):Calls Tryz.prog 89 #[Zp (some ⟨b,0,O⟩)] w fun e w'=>e=Zr (I J (Rp.starters R.started:Int))∧w'=w:=by
 have hl:=h.st;have HS:Hid (∀ k (hk:k<R.started.length),Rp.starters (R.started.take (k+1))=Rp.starters (R.started.take k)+(if R.started[k]=true then 1 else 0)):=zF R.started
 have HF:Hid (Rp.starters (R.started.take 7)=Rp.starters R.started):=by unfold Hid;rw[← hl,List.take_length]
 have HL:Hid (∀ k,Rp.starters (R.started.take k)≤7):=fun k=>by
  have:=List.countP_le_length (p:=fun x=>x) (l:=R.started.take k)
  unfold Rp.starters;rw[List.length_take] at this;omega
 have HC:Hid (∀ k (hk:k<7),w.cell? ⟨b,64+k,O⟩=some (.bool (R.started[k]'(by rw[hl];exact hk)))):=fun k hk=>h.cst k hk
 go_enter Tryz.func89,Tryz.ntmps89;go_wp2_with fail;go_loop [3,4] (fun c i=>∃ k:Nat,k≤7∧i=I J k∧c=I J (Rp.starters (R.started.take k):Int)) (fun _ i=>7-(intOf i).toNat)
 case atStart=>exact⟨0,Nat.zero_le _,rfl,by simp[Rp.starters]⟩
 case round =>
  obtain⟨k,hk,rfl,rfl⟩:=hrel
  by_cases hlt:k<7
  ·have ck:=HC.out k hlt;have j1:(0:Int)≤(k:Int):=by omega
   have j2:(k:Int)<7:=by omega
   have hLk:=HL.out k;have HSk:=ah (HS.out k (by omega))
   generalize Rp.starters (R.started.take k)=sk at *;cases hq:R.started[k]'(by omega)
   ·rw[hq] at ck HSk;go_wp2_with fail;go_round
    case rel=>exact⟨k+1,by omega,by go_num,by rw[HSk.out];simp⟩
    case measure=>simp[intOf];omega
   ·rw[hq] at ck HSk;go_wp2_with fail;go_round
    case rel=>exact⟨k+1,by omega,by go_num,by rw[HSk.out];go_num⟩
    case measure=>simp[intOf];omega
  ·obtain rfl:k=7:=by omega
   rw[HF.out];go_wp2_with fail;go_ret;exact⟨rfl,rfl⟩
theorem drewN_drewN (w:World) (a c:Nat):(w.drewN a).drewN c=w.drewN (a+c):=by unfold World.drewN;simp[Nat.add_assoc]
theorem vS (h:ay w b bl W F R V) {q:Int} (h0:0≤q) (h7:q<7):w.cell? ⟨b,55+q.toNat,O⟩=some (I J (R.acks.getD q.toNat 0)):=by
 have:=h.ak
 rw[h.qE q.toNat (by omega)]
 simp[List.getD,List.getElem?_eq_getElem (show q.toNat<R.acks.length by omega)]
theorem Ao (g:List Int) (id place:Int) (acks:List Int) (k:Nat) (hk:k<g.length):(g.take (k+1)).countP (fun x=>(x != id)&&decide (place≤acks.getD x.toNat 0))=(g.take k).countP (fun x=>(x != id)&&decide (place≤acks.getD x.toNat 0))+(if ((g[k] != id)&&decide (place≤acks.getD g[k].toNat 0))=true then 1 else 0):=by
 rw[List.take_succ_eq_append_getElem hk,List.countP_append,List.countP_singleton]
theorem CW (h:ay w b bl W F R V) (hR:Ok R) (place:Int):Calls Tryz.prog 174 #[Zp (some ⟨b,0,O⟩),I J place] w fun e w'=>e=Zr (I J (R.l9 place:Int))∧∃ n,w'=w.drewN n:=by
 have hg5:=hR.g.1;have hgb:=hR.g.2;have hn7:=hR.n7;obtain⟨a7,cp7,hv7⟩:=h.g7
 have hgI:=h.grp;rw[hv7] at hgI;have HS:Hid (∀ k (hk:k<R.grp.length),(R.grp.take (k+1)).countP (fun x=>(x != R.id)&&decide (place≤R.acks.getD x.toNat 0))=(R.grp.take k).countP (fun x=>(x != R.id)&&decide (place≤R.acks.getD x.toNat 0))+(if ((R.grp[k] != R.id)&&decide (place≤R.acks.getD R.grp[k].toNat 0))=true then 1 else 0)):=Ao R.grp R.id place R.acks
 have HF:Hid ((R.grp.take R.grp.length).countP (fun x=>(x != R.id)&&decide (place≤R.acks.getD x.toNat 0))=R.l9 place):=by unfold Hid Rp.l9;rw[List.take_length]
 have HL:Hid (∀ k,(R.grp.take k).countP (fun x=>(x != R.id)&&decide (place≤R.acks.getD x.toNat 0))≤5):=fun k=>by
  have:=List.countP_le_length (p:=fun x=>(x != R.id)&&decide (place≤R.acks.getD x.toNat 0)) (l:=R.grp.take k)
  rw[List.length_take] at this;omega
 have H0:=ah h;clear h;go_enter Tryz.func174,Tryz.ntmps174;go_wp2_with fail;go_loopw [5,6] (fun c i wr=>∃ (k:Nat) (n:Nat),k≤R.grp.length∧i=I J k∧c=I J (((R.grp.take k).countP (fun x=>(x != R.id)&&decide (place≤R.acks.getD x.toNat 0)):Nat):Int)∧wr=w.drewN n) (fun _ i _=>R.grp.length-(intOf i).toNat)
 case atStart=>exact⟨0,0,Nat.zero_le _,rfl,rfl,rfl⟩
 case round =>
  obtain⟨k,n,hk,rfl,rfl,hwr⟩:=hrel
  have hr:ay wr b bl W F R V:=by rw[hwr];exact H0.out.drewN n
  have HW:=ah hwr;have HR:=ah hr;clear hwr;have c0:=hr.c0;have c7:=hr.c7;rw[hv7] at c7;by_cases hlt:k<R.grp.length
  ·have hgr:=hr.grp;rw[hv7] at hgr;obtain⟨b3,o3,rfl,hb3',z3⟩:=hgr.get k hlt
   have gk:=hgb R.grp[k] (List.getElem_mem _);have ca:=vS hr (q:=R.grp[k]) gk.1 (by omega)
   have j1:(0:Int)≤(k:Int):=by omega
   have j2:(k:Int)<(R.grp.length:Int):=by omega
   have j3:(0:Int)≤R.grp[k]:=gk.1
   have j4:R.grp[k]<7:=by omega
   have hLk:=HL.out k;have HSk:=ah (HS.out k hlt);generalize (R.grp.take k).countP (fun x=>(x != R.id)&&decide (place≤R.acks.getD x.toNat 0))=sk at *
   clear hr hgr gk;generalize R.acks.getD R.grp[k].toNat 0=ak at *;have hq2:Hid (∀ n2,∃ m,(wr.drewN n2)=w.drewN m):=fun n2=>⟨n+n2,by rw[HW.out];exact drewN_drewN w n n2⟩
   cases hq:(R.grp[k]==R.id)
   ·have hne:(R.grp[k] != R.id)=true:=by simp[bne,hq]
    by_cases hp:place≤ak
    ·go_wp2_with fail;go_quiet (fail);rename_i nq;obtain⟨m,hm⟩:=hq2.out nq
     have HM:=ah hm;clear hm;go_wp2_with fail;go_roundw
     case rel=>exact⟨k+1,m,by omega,by go_num,by rw[HSk.out,hne,decide_eq_true hp];go_num,HM.out⟩
     case measure=>simp[intOf];omega
    ·go_wp2_with fail;go_quiet (fail);rename_i nq;obtain⟨m,hm⟩:=hq2.out nq
     have HM:=ah hm;clear hm;go_wp2_with fail;go_roundw
     case rel=>exact⟨k+1,m,by omega,by go_num,by rw[HSk.out,hne,decide_eq_false (by omega)];simp,HM.out⟩
     case measure=>simp[intOf];omega
   ·have hne:(R.grp[k] != R.id)=false:=by simp[bne,hq]
    go_wp2_with fail;go_quiet (fail);rename_i nq;obtain⟨m,hm⟩:=hq2.out nq
    have HM:=ah hm;clear hm;go_wp2_with fail;go_roundw
    case rel=>exact⟨k+1,m,by omega,by go_num,by rw[HSk.out,hne];simp,HM.out⟩
    case measure=>simp[intOf];omega
  ·obtain rfl:k=R.grp.length:=by omega
   rw[HF.out];go_wp2_with fail;go_ret;exact⟨rfl,n,HW.out⟩
end
section
variable {w w0:World} {b bl:Nat} {W F:List Nat} {R:Rp} {V:Rv} {P:Pm} {vl vg vo vL:Value}
theorem BL (r:Rp) (k:Nat):r.lC (k+1)=if gG r.grp≤(r.l9 ((k:Int)+1):Int) then (k:Int)+1 else r.lC k:=rfl
theorem GL (h:ay w b bl W F R V) (hR:Ok R):Calls Tryz.prog 164 #[Zp (some ⟨b,0,O⟩)] w fun e w'=>e=Zr (I J R.qL)∧∃ n,w'=w.drewN n:=by
 have hg5:=hR.g.1;have hl10:=hR.lg;have c7:=h.c7;have c9:=h.c9;obtain⟨a7,cp7,hv7⟩:=h.g7
 obtain⟨aL9,cL9,hv9⟩:=h.g9
 have hgI:=h.grp;rw[hv7] at hgI c7;rw[hv9] at c9;have HFa:=ah (nW _ R.grp w hgI (by omega))
 have HA:Hid (∀ (k n:Nat),Calls Tryz.prog 174 #[Zp (some ⟨b,0,O⟩),I J (k:Int)] (w.drewN n) fun e w'=>e=Zr (I J (R.l9 (k:Int):Int))∧∃ m,w'=w.drewN m):=fun k n=>(CW (h.drewN n) hR k).mono (fun e w' q=>⟨q.1,by obtain⟨m,hm⟩:=q.2;exact⟨n+m,by rw[hm];exact drewN_drewN w n m⟩⟩)
 have HS:Hid (∀ k:Nat,R.lC (k+1)=if gG R.grp≤(R.l9 (((k+1:Nat)):Int):Int) then ((k+1:Nat):Int) else R.lC k):=fun k=>by
  rw[BL,show (((k+1:Nat)):Int)=(k:Int)+1 by omega]
 have HZ:Hid (R.lC 0=0):=rfl
 have HD:Hid (R.qL=R.lC R.log.length):=rfl
 clear hgI h;go_enter Tryz.func164,Tryz.ntmps164;go_wp2_with fail;refine HFa.out.mono ?_;rintro e w1 ⟨rfl,hw1⟩;subst hw1;go_wp2_with fail;go_loopw [4] (fun i wr=>∃ (k:Nat) (n:Nat),k≤R.log.length∧i=I J k∧R.qL=R.lC k∧wr=w1.drewN n) (fun i _=>(intOf i).toNat)
 case atStart=>exact⟨R.log.length,0,Nat.le_refl _,rfl,HD.out,rfl⟩
 case round =>
  obtain⟨k,n,hk,rfl,hak,hwr⟩:=hrel
  have HK:=ah hak;clear hak;by_cases hz:k=0
  ·subst hz;have HE:Hid (R.qL=0):=by unfold Hid;rw[HK.out,HZ.out]
   have HW:=ah hwr;clear hwr;go_wp2_with fail;go_ret;exact⟨mH HE.out.symm,n,HW.out⟩
  ·obtain⟨j,rfl⟩:∃ j,k=j+1:=⟨k-1,by omega⟩
   subst hwr;have j1:(0:Int)<((j+1:Nat):Int):=by omega
   have HAj:=ah (HA.out (j+1) n);have HSj:=ah (HS.out j);go_wp2_with fail;refine HAj.out.mono ?_;rintro e w2 ⟨rfl,m,hm⟩;have HM:=ah hm;clear hm;generalize R.l9 (((j+1:Nat)):Int)=ac at *;by_cases hq:gG R.grp≤(ac:Int)
   ·have HE:Hid (R.qL=((j+1:Nat):Int)):=by unfold Hid;rw[HK.out,HSj.out,if_pos hq]
    go_wp2_with fail;go_ret;exact⟨mH HE.out.symm,m,HM.out⟩
   ·have HE:Hid (R.qL=R.lC j):=by unfold Hid;rw[HK.out,HSj.out,if_neg hq]
    go_wp2_with fail;go_roundw
    case rel=>exact⟨j,m,by omega,by go_num,HE.out,HM.out⟩
    case measure=>simp[intOf]
theorem Db (h:Rst w0 w b bl W F R) (hR:Ok R):Calls Tryz.prog 164 #[Zp (some ⟨b,0,O⟩)] w fun e w'=>e=Zr (I J R.qL)∧Rst w0 w' b bl W F R :=
 h.get fun _ _ _ h1=>(GL h1 hR).mono (fun _ _ q=>⟨q.1,by obtain⟨n,hn⟩:=q.2;rw[hn];exact below_drewN (Below.refl _ _) n⟩)
theorem EA (h:Rst w0 w b bl W F R) (hR:Ok R) (hP:dF w0 W F P vl vg vo vL) (hm:eF R.n P) (ho:R.out.length≤500000)  :
  Calls Tryz.prog 144 #[Zp (some ⟨b,0,O⟩),.agg (pmC P vl vg vo vL)] w fun e w'=>e=Zr (.tuple #[])∧Rst w0 w' b bl W F (R.jf P):=by
 obtain⟨W1,F1,V1,h1,k1,m1,p1⟩:=h.pm hP
 obtain⟨al,cl,ag,cg,ao,co,aL,cL,rfl,rfl,rfl,rfl⟩:=p1.cells
 have hbA:Below w.heap.size w (w.alloc (.cells (pqC P al cl ag cg ao co aL cL) 68)):=(Below.refl _ w).alloc (Nat.le_refl _) _
 have hMA:bB (w.alloc (.cells (pqC P al cl ag cg ao co aL cL) 68)) w.heap.size (pqC P al cl ag cg ao co aL cL):=⟨rfl,heap_alloc_new w _⟩
 have hPA:=p1.below hbA;have hgW:w.heap.size∉W1:=fun hc=>by have:=h1.wlt _ hc;omega
 have h2:=h1.below hbA;have HSA:=ah (Rst.refl h2);have HK0:Hid (∀ w' R',Rst (w.alloc (.cells (pqC P al cl ag cg ao co aL cL) 68)) w' b bl W1 F1 R'→Rst w0 w' b bl W F R'):=fun w' R' q=>Rst.step (k1.aF hbA) m1 q
 clear h p1 hP h1 hbA;simp only[pmC];have HE0:Hid (R.jf P=if R.leads=true∧P.place≤(R.log.length:Int) then (R.fA P.frm.toNat P.place).bF (R.fA P.frm.toNat P.place).qL else R):=rfl
 have f0:=hm.f0;have f7:P.frm<7:=by have:=hm.f1;have:=hR.n7;omega
 have HGs:=ah (Rp.tQ hR P.frm.toNat P.place);have HSt:Hid (R.fA P.frm.toNat P.place=if R.acks.getD P.frm.toNat 0<P.place then { R with acks:=R.acks.set P.frm.toNat P.place } else R):=rfl
 have HLq:=ah (fun n=>uz (h2.drewN n) hR)
 clear hm;cases hl:R.leads
 ·have HE:Hid (R.jf P=R):=by unfold Hid;rw[HE0.out,hl,if_neg (fun q=>absurd q.1 (by decide))]
  rw[hl] at HLq;clear HE0;go_enter Tryz.func144,Tryz.ntmps144;go_upto_region 1 with fail
  generalize w.alloc (.cells (pqC P al cl ag cg ao co aL cL) 68)=wA at *;obtain⟨x0,x1,x2,x3,x4,x5,x6,x7,x8,x9,x10,x11,x12,x13,x14,xf⟩:=hMA.all
  have c9:=h2.c9;obtain⟨aL9,cL9,hv9⟩:=h2.g9
  rw[hv9] at c9;go_wp2_with fail;go_quiet ((go_at_call 42;exact Calls.quiet_of (HLq.out _)))
  rename_i nq;have HSq:=ah (HSA.out.drewN nq);have hMHSq:=hMA.kp HSq.out.kp hgW;clear x0 x1 x2 x3 x4 x5 x6 x7 x8 x9 x10 x11 x12 x13 x14 xf c9;generalize wA.drewN nq=wq at *;obtain⟨x0,x1,x2,x3,x4,x5,x6,x7,x8,x9,x10,x11,x12,x13,x14,xf⟩:=hMHSq.all
  go_wp2_with fail;exact bodyPost_ret (results_none rfl _ _ _) rfl ⟨rfl,by rw[HE.out];exact HK0.out _ _ HSq.out⟩
 ·rw[hl] at HLq;by_cases hp:P.place≤(R.log.length:Int)
  ·have HE:Hid (R.jf P=(R.fA P.frm.toNat P.place).bF (R.fA P.frm.toNat P.place).qL):=by unfold Hid;rw[HE0.out,if_pos ⟨hl,hp⟩]
   clear HE0;by_cases ha:R.acks.getD P.frm.toNat 0<P.place
   ·rw[if_pos ha] at HSt;go_enter Tryz.func144,Tryz.ntmps144;go_upto_region 1 with fail
    generalize w.alloc (.cells (pqC P al cl ag cg ao co aL cL) 68)=wA at *;obtain⟨x0,x1,x2,x3,x4,x5,x6,x7,x8,x9,x10,x11,x12,x13,x14,xf⟩:=hMA.all
    have c9:=h2.c9;obtain⟨aL9,cL9,hv9⟩:=h2.g9
    rw[hv9] at c9;go_wp2_with fail;go_quiet ((go_at_call 42;exact Calls.quiet_of (HLq.out _)))
    rename_i nq;have HSq:=ah (HSA.out.drewN nq);have hMHSq:=hMA.kp HSq.out.kp hgW;clear x0 x1 x2 x3 x4 x5 x6 x7 x8 x9 x10 x11 x12 x13 x14 xf c9;generalize wA.drewN nq=wq at *;obtain⟨x0,x1,x2,x3,x4,x5,x6,x7,x8,x9,x10,x11,x12,x13,x14,xf⟩:=hMHSq.all
    obtain⟨WQ,FQ,VQ,hQ,kQ,mQ⟩:=HSq.out
    have ca:=vS hQ (q:=P.frm) f0 f7;have cf:=hQ.free (55+P.frm.toNat);have HQ:=ah hQ;have HKQ:=ah kQ;have HMQ:=ah mQ;clear hQ kQ mQ;generalize hak:R.acks.getD P.frm.toNat 0=ak at *;clear hak;go_wp2_with fail;go_quiet (fail);rename_i nq;have HSr:=ah (HSq.out.drewN nq);have hMr:=hMA.kp HSr.out.kp hgW;have hr:=HQ.out.drewN nq;have hkr:=HKQ.out.aF (below_drewN (Below.refl _ wq) nq);clear x0 x1 x2 x3 x4 x5 x6 x7 x8 x9 x10 x11 x12 x13 x14 xf ca cf;generalize wq.drewN nq=wr at *;obtain⟨x0,x1,x2,x3,x4,x5,x6,x7,x8,x9,x10,x11,x12,x13,x14,xf⟩:=hMr.all
    have ca:∃ v,wr.cell? ⟨b,55+P.frm.toNat,O⟩=some v:=⟨_,vS hr (q:=P.frm) f0 f7⟩
    obtain⟨va,ca⟩:=ca
    have cf:=hr.free (55+P.frm.toNat);have h9:=hr.fA P.frm.toNat (by omega) P.place
    have HS9:Hid (Rst wA (wr.setCell ⟨b,55+P.frm.toNat,O⟩ (I J P.place)) b bl W1 F1 (R.fA P.frm.toNat P.place)):=by rw[HSt.out];exact Rst.step hkr HMQ.out (Rst.of h9 (hr.nM _ _))
    clear h9 hr hkr;go_upto_region 3 with fail
    go_cut [] from 5 (fun wx=>Rst wA wx b bl W1 F1 (R.fA P.frm.toNat P.place))
    case first =>
     go_region
     all_goals go_wp2_with fail
     all_goals go_meet
     all_goals exact HS9.out.drew
    case rest =>
     have HSs:=ah hcut;clear hcut x0 x1 x2 x3 x4 x5 x6 x7 x8 x9 x10 x11 x12 x13 x14 xf ca cf;go_wp2_with fail;refine (Db HSs.out HGs.out.ok).mono ?_;rintro e w10 ⟨rfl,hs10⟩;have HS10:=ah hs10;clear hs10;go_wp2_with fail;refine (iA HS10.out HGs.out.ok _ (Nat.le_trans HGs.out.out (by omega))).mono ?_
     rintro e w11 ⟨rfl,hs11⟩;have HS11:=ah hs11;clear hs11;go_wp2_with fail;exact bodyPost_end (results_none rfl _ _ _) rfl ⟨rfl,by rw[HE.out];exact HK0.out _ _ HS11.out⟩
   ·rw[if_neg ha] at HSt;go_enter Tryz.func144,Tryz.ntmps144;go_upto_region 1 with fail
    generalize w.alloc (.cells (pqC P al cl ag cg ao co aL cL) 68)=wA at *;obtain⟨x0,x1,x2,x3,x4,x5,x6,x7,x8,x9,x10,x11,x12,x13,x14,xf⟩:=hMA.all
    have c9:=h2.c9;obtain⟨aL9,cL9,hv9⟩:=h2.g9
    rw[hv9] at c9;go_wp2_with fail;go_quiet ((go_at_call 42;exact Calls.quiet_of (HLq.out _)))
    rename_i nq;have HSq:=ah (HSA.out.drewN nq);have hMHSq:=hMA.kp HSq.out.kp hgW;clear x0 x1 x2 x3 x4 x5 x6 x7 x8 x9 x10 x11 x12 x13 x14 xf c9;generalize wA.drewN nq=wq at *;obtain⟨x0,x1,x2,x3,x4,x5,x6,x7,x8,x9,x10,x11,x12,x13,x14,xf⟩:=hMHSq.all
    obtain⟨WQ,FQ,VQ,hQ,kQ,mQ⟩:=HSq.out
    have ca:=vS hQ (q:=P.frm) f0 f7;have cf:=hQ.free (55+P.frm.toNat);have HQ:=ah hQ;have HKQ:=ah kQ;have HMQ:=ah mQ;clear hQ kQ mQ;generalize hak:R.acks.getD P.frm.toNat 0=ak at *;clear hak;go_wp2_with fail;go_quiet (fail);rename_i nq;have HSr:=ah (HSq.out.drewN nq);have hMr:=hMA.kp HSr.out.kp hgW;rw[HSt.out] at HE HGs;clear x0 x1 x2 x3 x4 x5 x6 x7 x8 x9 x10 x11 x12 x13 x14 xf ca cf;generalize wq.drewN nq=wr at *;go_wp2_with fail;refine (Db HSr.out hR).mono ?_;rintro e w10 ⟨rfl,hs10⟩;have HS10:=ah hs10;clear hs10;go_wp2_with fail;refine (iA HS10.out hR _ (by omega)).mono ?_
    rintro e w11 ⟨rfl,hs11⟩;have HS11:=ah hs11;clear hs11;go_wp2_with fail;exact bodyPost_end (results_none rfl _ _ _) rfl ⟨rfl,by rw[HE.out];exact HK0.out _ _ HS11.out⟩
  ·have HE:Hid (R.jf P=R):=by unfold Hid;rw[HE0.out,if_neg (fun q=>hp q.2)]
   clear HE0;go_enter Tryz.func144,Tryz.ntmps144;go_upto_region 1 with fail
   generalize w.alloc (.cells (pqC P al cl ag cg ao co aL cL) 68)=wA at *;obtain⟨x0,x1,x2,x3,x4,x5,x6,x7,x8,x9,x10,x11,x12,x13,x14,xf⟩:=hMA.all
   have c9:=h2.c9;obtain⟨aL9,cL9,hv9⟩:=h2.g9
   rw[hv9] at c9;go_wp2_with fail;go_quiet ((go_at_call 42;exact Calls.quiet_of (HLq.out _)))
   rename_i nq;have HSq:=ah (HSA.out.drewN nq);have hMHSq:=hMA.kp HSq.out.kp hgW;clear x0 x1 x2 x3 x4 x5 x6 x7 x8 x9 x10 x11 x12 x13 x14 xf c9;generalize wA.drewN nq=wq at *;obtain⟨x0,x1,x2,x3,x4,x5,x6,x7,x8,x9,x10,x11,x12,x13,x14,xf⟩:=hMHSq.all
   go_wp2_with fail;exact bodyPost_ret (results_none rfl _ _ _) rfl ⟨rfl,by rw[HE.out];exact HK0.out _ _ HSq.out⟩
end
end Go.Proofs.YtajakaadgagejaaGreatDoor
