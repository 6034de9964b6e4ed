import Derived.Test.YtbnihoahhomooaaGreatDoorA21
set_option maxRecDepth 100000
set_option maxHeartbeats 8000000
set_option linter.all false
namespace Go.Proofs.YtbnihoahhomooaaGreatDoor
open Go.Value renaming int→I,slice→Y,string→Z,pointer→Zp
open Go.Ending renaming returned→Zr
open _root_.ByteArray renaming empty→Ze
open Go.IntKind renaming i64→J
open Option renaming none→O
open Go.RowKit
section
variable {N:Nat} {w w':World} {g:Nat} {K K':Kw} {V V':Kv} {b bl:Nat} {W F:List Nat} {R:Rp} {U:Rv}
theorem Eh (h:KAt N w g K V) (hx:ay w b bl W F R U) (c:Nat) (hc:c≤K.list.length) (hc1:c≤1000) (hsv:R.sv=svF (K.list.take c)) (hf:∀ e∈K.list,OpF e.2.2) (hcl:∀ e∈K.list,1≤e.1∧e.1≤9) :
  Calls Tryz.prog 109 #[Zp (some ⟨g,0,O⟩),Zp (some ⟨b,0,O⟩),I J c] w fun e w'=>e=Zr (.bool true)∧Below w.heap.size w w':=by
 have hfc:∀ e∈K.list.take c,OpF e.2.2:=fun e he=>hf e (List.mem_of_mem_take he)
 have hlc:(K.list.take c).length=c:=by rw[List.length_take];omega
 have hv:=Da _ (K.list.take c) rfl hfc;have hse:=Ig c (K.list.take c) hlc hfc (fun e he=>hcl e (List.mem_of_mem_take he))
 have HVal:Hid (∀ (k:Nat),97≤k→k≤122→∀ w2,Below w.heap.size w w2→Calls Tryz.prog 11 #[Zp (some ⟨b,0,O⟩),I .u8 (k:Int)] w2 fun e w'=>e=Zr (Z (if jK (K.list.take c) k=0 then ⟨#[]⟩ else jG (jK (K.list.take c) k)))∧w'=w2):=fun k h1 h2 w2 hw2=>by
  have:=Ci (hx.below hw2) (k:Int) (by omega) (by omega)
  have e:vI R.sv (k:Int)=if jK (K.list.take c) k=0 then ⟨#[]⟩ else jG (jK (K.list.take c) k):=by
   unfold vI;have hk:mH (k:Int)=true:=by unfold mH;simp;omega
   rw[if_pos hk,hsv];have hj:=hv.2 (k-97) (by omega)
   rw[show ((k:Int)-97).toNat=k-97 by omega,hj,show (97:Int)+((k-97:Nat):Int)=k by omega]
   by_cases z:jK (K.list.take c) k=0
   ·rw[if_pos z,if_pos (beq_iff_eq.2 z)]
   ·rw[if_neg z,if_neg (by simpa using z)]
  rw[e] at this;exact this
 have HKv:Hid (∀ (k:Nat) w2,Below w.heap.size w w2→Calls Tryz.prog 146 #[Zp (some ⟨g,0,O⟩),I J c,I .u8 (k:Int)] w2 fun e w'=>e=Zr (I .u8 (jK (K.list.take c) k))∧Below w2.heap.size w2 w'):=fun k w2 hw2=>zM (h.below hw2) c hc k (fun e he=>(hf e he).sz)
 have HNn:Hid (∀ k:Nat,0≤jK (K.list.take c) (k:Int)):=fun k=>Ih _ _
 have HSes:Hid (∀ (a:Int),1≤a→a≤9→∀ w2,Below w.heap.size w w2→Calls Tryz.prog 147 #[Zp (some ⟨b,0,O⟩),I J a] w2 fun e w'=>e=Zr (.tuple #[I J (kV (K.list.take c) a c).1,Z (kV (K.list.take c) a c).2])∧Below w2.heap.size w2 w'):=fun a h1 h9 w2 hw2=>by
  have:=EI (hx.below hw2) a
  have e:jL R.sv a=kV (K.list.take c) a c:=by
   unfold jL;rw[if_neg (by omega),hsv]
   exact hse.2 a h1 h9
  rw[e] at this;exact this
 have HRes:Hid (∀ (k:Nat) (hk:k<K.list.length) w2,Below w.heap.size w w2→Calls Tryz.prog 148 #[Zp (some ⟨g,0,O⟩),I J k] w2 fun e w'=>e=Zr (Z (pq (K.list.take k) K.list[k].2.2))∧Below w2.heap.size w2 w'):=fun k hk w2 hw2=>xI (h.below hw2) k hk (fun e he=>(hf e he).sz)
 have hP:=h.eL;obtain⟨aP,cP,hvP,hcap,hmax⟩:=hP.shape
 rw[hvP] at hP;have HC:Hid (∀ w2,Below w.heap.size w w2→w2.cell? ⟨g,10,O⟩=some (Y aP K.list.length cP)):=fun w2 hw2=>by rw[← hvP];exact (h.below hw2).cell 10
 have HStep:Hid (∀ (a:Int) (k:Nat),(hk:k<K.list.length)→k<c→kV (K.list.take c) a (k+1)=if K.list[k].1=a then (K.list[k].2.1,pq (K.list.take k) K.list[k].2.2) else kV (K.list.take c) a k):=fun a k hk hkc=>by
  have e1:(K.list.take c)[k]? = some K.list[k]:=by rw[List.getElem?_take,if_pos hkc,List.getElem?_eq_getElem hk]
  have e2:(K.list.take c).take k=K.list.take k:=by rw[List.take_take,Nat.min_eq_left (by omega)]
  conv=>lhs;unfold kV
  rw[e1,e2]
 clear hv hse hsv hx hfc hf hcl h;have hcv:=Kr;go_enter Tryz.func109,Tryz.ntmps109;go_wp2_with fail;go_loopw [7] (fun i wr=>∃ k:Nat,97≤k∧k≤123∧i=I .u8 k∧Below w.heap.size w wr) (fun i _=>123-(intOf i).toNat)
 case atStart=>exact⟨97,by omega,by omega,rfl,Below.refl _ _⟩
 case round =>
  obtain⟨k,hk0,hk,rfl,hbw⟩:=hrel
  by_cases hlt:k<123
  ·have j3:(k:Int)≤122:=by omega
   have HQ:=ah (HVal.out k hk0 (by omega) wr hbw)
   have HQ2:=ah (HKv.out k);have nn:=HNn.out k;generalize jK (K.list.take c) (k:Int)=v at *;by_cases z:v=0
   focus
    subst z;rw[if_pos rfl] at HQ
   rotate_left
   focus
    have z1:(v==0)=false:=beq_eq_false_iff_ne.2 z
    have z2:0<v:=by omega
    rw[if_neg z] at HQ;unfold jG at HQ
   rotate_left
   all_goals
    go_wp2_with fail;refine HQ.out.mono ?_;rintro e w1 ⟨rfl,hw1⟩;subst hw1;go_wp2_with fail;refine (HQ2.out _ hbw).mono ?_;rintro e w2 ⟨rfl,hb2⟩;have hb3:Below w.heap.size w w2:=hbw.trans (hb2.mono hbw.size)
    go_wp2_with fail
   ·go_roundw
    case rel=>exact⟨k+1,by omega,by omega,by go_num,hb3⟩
    case measure=>simp[intOf];omega
   ·go_roundw
    case rel=>exact⟨k+1,by omega,by omega,by go_num,hb3.alloc hb3.size _⟩
    case measure=>simp[intOf];omega
  ·have j4:¬(k:Int)≤122:=by omega
   clear HVal HKv HNn hcv;obtain⟨wL,HwL⟩:∃ x,x=wr:=⟨_,rfl⟩
   subst HwL;go_wp2_with fail;go_loopw [10] (fun i wr=>∃ a:Nat,1≤a∧a≤10∧i=I J a∧Below w.heap.size w wr) (fun i _=>10-(intOf i).toNat)
   case atStart=>exact⟨1,by omega,by omega,rfl,hbw⟩
   case round =>
    obtain⟨a,ha0,ha,rfl,hbv⟩:=hrel
    by_cases hla:a<10
    ·have q1:(a:Int)≤9:=by omega
     have HQ:=ah (HSes.out a (by omega) (by omega) _ hbv)
     go_wp2_with fail;refine HQ.out.mono ?_;rintro e w1 ⟨rfl,hb1⟩;have hb3:Below w.heap.size w w1:=hbv.trans (hb1.mono hbv.size)
     have HF:Hid (kV (K.list.take c) a 0=(0,⟨#[]⟩)):=rfl
     go_wp2_with fail;go_loopw [13,14,15] (fun m q i wr=>∃ k:Nat,k≤c∧i=I J k∧m=I J (kV (K.list.take c) a k).1∧q=Z (kV (K.list.take c) a k).2∧Below w.heap.size w wr) (fun _ _ i _=>c-(intOf i).toNat)
     case atStart=>exact⟨0,Nat.zero_le _,rfl,by rw[HF.out],by rw[HF.out],hb3⟩
     case round =>
      obtain⟨k,hk,rfl,rfl,rfl,hbu⟩:=hrel
      by_cases hlk:k<c
      ·have c10:=HC.out _ hbu;obtain⟨b1',o1,rfl,_,d1,d2,d3⟩:=(hP.below hbu).get k (by omega)
       have j1:(0:Int)≤(k:Int):=by omega
       have j2:(k:Int)<(K.list.length:Int):=by omega
       have j3:(k:Int)<(c:Int):=by omega
       have HE:=ah (HStep.out a k (by omega) hlk)
       have HR:=ah (HRes.out k (by omega) _ hbu)
       generalize K.list[k].1=cl at *;generalize K.list[k].2.1=nu at *;generalize pq (K.list.take k) K.list[k].2.2=rs at *;by_cases hq:cl=(a:Int)
       ·have hq':(cl==(a:Int))=true:=beq_iff_eq.2 hq
        rw[if_pos hq] at HE;clear hq;go_wp2_with fail;refine HR.out.mono ?_;rintro e w2 ⟨rfl,hb4⟩;have hb5:Below w.heap.size w w2:=hbu.trans (hb4.mono hbu.size)
        go_wp2;go_roundw
        case rel=>exact⟨k+1,by omega,by go_num,by rw[HE.out],by rw[HE.out],hb5⟩
        case measure=>simp[intOf];omega
       ·have hq':(cl==(a:Int))=false:=beq_eq_false_iff_ne.2 hq
        rw[if_neg hq] at HE;clear hq;go_wp2;go_roundw
        case rel=>exact⟨k+1,by omega,by go_num,by rw[HE.out],by rw[HE.out],hbu⟩
        case measure=>simp[intOf];omega
      ·have hkc:k=c:=by omega
       subst hkc;have j3:¬(k:Int)<(k:Int):=by omega
       generalize kV (K.list.take k) a k=ss at *;go_wp2;go_roundw
       case rel=>exact⟨a+1,by omega,by omega,by go_num,hbu⟩
       case measure=>simp[intOf];omega
    ·have q1:¬(a:Int)≤9:=by omega
     go_wp2;go_ret;exact⟨rfl,hbv⟩
end
section
variable {w w0:World} {b bl:Nat} {W F:List Nat} {R:Rp} {V:Rv} {P:Pm} {vl vg vo vL:Value}
theorem Ao (h:Rst w0 w b bl W F R) (hR:Ok R) (E:En) (hE:jd R.n E) (ho:R.out.length≤700000) :
  Calls Tryz.prog 47 #[Zp (some ⟨b,0,O⟩),.agg #[I J E.1,I J E.2.1,Z E.2.2]] w fun e w'=>e=Zr (.tuple #[])∧Rst w0 w' b bl W F (R.propose E):=by
 obtain⟨i0,hi,hz0,hz1,hz2⟩:=info_parts Tryz.infoEnt
 obtain⟨W1,F1,V1,h1,k1,m1⟩:=h
 have hbA:Below w.heap.size w (w.alloc (.cells #[I J E.1,I J E.2.1,Z E.2.2] 66)):=(Below.refl _ w).alloc (Nat.le_refl _) _
 have hnew:(w.alloc (.cells #[I J E.1,I J E.2.1,Z E.2.2] 66)).heap[w.heap.size]? = _:=heap_alloc_new w (.cells #[I J E.1,I J E.2.1,Z E.2.2] 66)
 have hgW:w.heap.size∉W1:=fun hc=>by have:=h1.wlt _ hc;omega
 have HSA:=ah (Rst.refl (h1.below hbA));have HK0:Hid (∀ w' R',Rst (w.alloc (.cells #[I J E.1,I J E.2.1,Z E.2.2] 66)) w' b bl W1 F1 R'→Rst w0 w' b bl W F R'):=fun w' R' q=>Rst.step (k1.aS hbA) m1 q
 have HE0:Hid (R.propose E=if R.closing=true∨10≤R.log.length then R else ({ R with log:=R.log++[E] }:Rp).bF ((R.log.length:Int)+1)):=rfl
 have hl10:=hR.lg;have HEn:=ah hE;clear h1 hbA k1 m1 hE;cases hcl:R.closing
 ·by_cases h10:10≤R.log.length
  focus
   have HE:Hid (R.propose E=R):=by unfold Hid;rw[HE0.out,if_pos (.inr h10)]
   have h10':(10:Int)≤(R.log.length:Int):=by omega
  rotate_left
  focus
   have HE:Hid (R.propose E=({ R with log:=R.log++[E] }:Rp).bF ((R.log.length:Int)+1)):=by unfold Hid;rw[HE0.out,hcl,if_neg (by simpa using h10)]
   have h10':¬(10:Int)≤(R.log.length:Int):=by omega
   have HO1:=ah (Rp.qM hR HEn.out (by omega))
  rotate_left
  all_goals
   clear HE0;go_enter Tryz.func47,Tryz.ntmps47;go_upto_region 1 with fail
   generalize w.alloc (.cells #[I J E.1,I J E.2.1,Z E.2.2] 66)=wA at *;have HC:=ah (pX HSA.out hR);rw[hcl] at HC;go_wp2_with fail;refine HC.out.mono ?_;rintro e w1 ⟨rfl,hs1⟩;have HS1:=ah hs1;clear hs1
  ·obtain⟨_,_,V2,q2,_,_⟩:=HS1.out
   have c9:=q2.c9;obtain⟨aL9,cL9,hvL9⟩:=q2.g9
   rw[hvL9] at c9;clear q2;go_wp2;exact bodyPost_ret (results_none rfl _ _ _) rfl ⟨rfl,by rw[HE.out];exact HK0.out _ _ HS1.out⟩
  ·obtain⟨WZ,FZ,VZ,hZ,kZ,mZ⟩:=HS1.out
   have c9:=hZ.c9;have f9:=hZ.free 9;obtain⟨aL9,cL9,hvL9⟩:=hZ.g9
   have hown9:=hZ.log;rw[hvL9] at c9 hown9;have hnew1:=(kZ.block w.heap.size (lt_of_block hnew) hgW).trans hnew;have e0:w1.cell? ⟨w.heap.size,0,O⟩=some (I J E.1):=by simp[World.cell?,hnew1]
   have e1:w1.cell? ⟨w.heap.size,1,O⟩=some (I J E.2.1):=by simp[World.cell?,hnew1]
   have e2:w1.cell? ⟨w.heap.size,2,O⟩=some (Z E.2.2):=by simp[World.cell?,hnew1]
   go_wp2_with fail;have hneb:some b≠(Y aL9 R.log.length cL9).ownBlock:=mJ hown9 hZ.block (by decide)
   have hbwz:b<w1.heap.size:=hZ.lb
   have ne9:=World.new_ne w1 ⟨b,9,O⟩ c9;go_region_law (first|(refine step_append_lies (w:=(w1.alloc (.cells #[I J E.1,I J E.2.1,Z E.2.2] 66)).drew) (by rfl) (.tmp 18) (.tmp 20) 47 (by rfl) 0 66 i0 (.agg #[I J 0,I J 0,Z Ze]) 3 32 Tryz.underlying47 hi hz0 hz1 hz2 rfl (by decide) (Y aL9 R.log.length cL9) R.log.length (aA R.log) (by rfl) (bU (hown9.alloc _) (Below.refl _ _).drew) ⟨w1.heap.size,0,O⟩ 1 1 [I J E.1,I J E.2.1,Z E.2.2] (by rfl) (by rfl) (World.news_of_block (show ((w1.alloc (.cells #[I J E.1,I J E.2.1,Z E.2.2] 66)).drew).heap[w1.heap.size]? = _ from heap_alloc_new w1 (.cells #[I J E.1,I J E.2.1,Z E.2.2] 66))) (by intro u hu;simp at hu;rcases hu with rfl|rfl|rfl <;> rfl) (by decide) (by unfold maxLen;omega) (by omega) (Nat.zero_le _) (w1.heap.size+1) (by simp) ?_;intro g4 cap4 w4 hown4 hg4 hat4 hlt4;have hbl:Below w1.heap.size w1 ((w1.alloc (.cells #[I J E.1,I J E.2.1,Z E.2.2] 66)).drew):=(((Below.refl _ w1).alloc (Nat.le_refl _) _).drew);have t9:w4.cell? ⟨b,9,O⟩=some (Y aL9 R.log.length cL9):=(hg4.cell_far ⟨b,9,O⟩ (by simp;omega) hneb).trans ((hbl.cell (p:=⟨b,9,O⟩) hbwz).trans c9);have g9:w4.frozen? ⟨b,9,O⟩=false:=(hg4.frozen_far ⟨b,9,O⟩ (by simp;omega) hneb).trans ((hbl.frozen (p:=⟨b,9,O⟩) hbwz).trans f9))|(refine step_append_lies (w:=w1.drew.alloc (.cells #[I J E.1,I J E.2.1,Z E.2.2] 66)) (by rfl) (.tmp 18) (.tmp 20) 47 (by rfl) 0 66 i0 (.agg #[I J 0,I J 0,Z Ze]) 3 32 Tryz.underlying47 hi hz0 hz1 hz2 rfl (by decide) (Y aL9 R.log.length cL9) R.log.length (aA R.log) (by rfl) ((bU hown9 (Below.refl _ _).drew).alloc _) ⟨w1.heap.size,0,O⟩ 1 1 [I J E.1,I J E.2.1,Z E.2.2] (by rfl) (by rfl) (World.news_of_block (heap_alloc_new w1.drew (.cells #[I J E.1,I J E.2.1,Z E.2.2] 66))) (by intro u hu;simp at hu;rcases hu with rfl|rfl|rfl <;> rfl) (by decide) (by unfold maxLen;omega) (by omega) (Nat.zero_le _) (w1.heap.size+1) (by simp) ?_;intro g4 cap4 w4 hown4 hg4 hat4 hlt4;have hbl:Below w1.heap.size w1 (w1.drew.alloc (.cells #[I J E.1,I J E.2.1,Z E.2.2] 66)):=((Below.refl _ w1).drew.alloc (Nat.le_refl _) _);have t9:w4.cell? ⟨b,9,O⟩=some (Y aL9 R.log.length cL9):=(hg4.cell_far ⟨b,9,O⟩ (by simp;omega) hneb).trans ((hbl.cell (p:=⟨b,9,O⟩) hbwz).trans c9);have g9:w4.frozen? ⟨b,9,O⟩=false:=(hg4.frozen_far ⟨b,9,O⟩ (by simp;omega) hneb).trans ((hbl.frozen (p:=⟨b,9,O⟩) hbwz).trans f9)))
   all_goals
    clear e2;have e2:aA (R.log++[E])=aA R.log++[I J E.1,I J E.2.1,Z E.2.2]:=by simp[aA]
    have ho4:w4.ownsRow 0 66 3 (Y (some ⟨g4,0,O⟩) (R.log.length+1) cap4) (R.log.length+1) (aA (R.log++[E])):=by rw[e2];exact hown4
    have HSl:=ah (Rst.step kZ mZ (hZ.Ij (x:=E) hbl (by rw[hvL9];exact hg4) ho4 (by rw[hvL9];exact hat4.imp (fun q=>q) (fun q=>by omega))))
    clear ho4 e2;obtain⟨WY,FY,VY,hY,_,_⟩:=HSl.out
    have y9:=hY.c9;obtain⟨aY,cY,hvY⟩:=hY.g9
    rw[hvY] at y9;have hlY:(({ R with log:=R.log++[E] }:Rp)).log.length=R.log.length+1:=by simp
    simp only[List.length_append,List.length_cons,List.length_nil,Nat.zero_add] at y9;clear hY t9 g9 hlY;go_upto_region 3 with fail
    generalize w4.setCell ⟨b,9,O⟩ (Y (some ⟨g4,0,O⟩) (R.log.length+1) cap4)=w5 at *;have HSe:=ah (uX HSl.out HO1.out ((R.log.length:Int)+1) (by omega) (by omega) (by show R.out.length≤800000;omega))
    go_wp2_with fail;refine HSe.out.mono ?_;rintro e w6 ⟨rfl,hs6⟩;have HS6:=ah hs6;clear hs6;go_wp2;exact bodyPost_end (results_none rfl _ _ _) rfl ⟨rfl,by rw[HE.out];exact HK0.out _ _ HS6.out⟩
 ·have HE:Hid (R.propose E=R):=by unfold Hid;rw[HE0.out,hcl,if_pos (.inl rfl)]
  clear HE0;go_enter Tryz.func47,Tryz.ntmps47;go_upto_region 1 with fail
  generalize w.alloc (.cells #[I J E.1,I J E.2.1,Z E.2.2] 66)=wA at *;have HC:=ah (pX HSA.out hR);rw[hcl] at HC;go_wp2_with fail;refine (HC.out).mono ?_;rintro e w1 ⟨rfl,hs1⟩;have HS1:=ah hs1;clear hs1;go_wp2;exact bodyPost_ret (results_none rfl _ _ _) rfl ⟨rfl,by rw[HE.out];exact HK0.out _ _ HS1.out⟩
end
section
variable {w w0:World} {b bl:Nat} {W F:List Nat} {R:Rp} {V:Rv} {P:Pm} {vl vg vo vL:Value}
theorem qQ (h:Rst w0 w b bl W F R) (hR:Ok R) (hP:dM w0 W F P vl vg vo vL) (hm:Rp.IU P) (hk:P.kind=113∨P.kind=109) (hz:(jL R.sv P.ent.1).2.size≤1000) (ho:R.out.length≤600000)  :
  Calls Tryz.prog 19 #[Zp (some ⟨b,0,O⟩),.agg (pmC P vl vg vo vL)] w fun e w'=>e=Zr (.tuple #[])∧Rst w0 w' b bl W F (R.bT P):=by
 obtain⟨W1,F1,V1,al,cl,ag,cg,ao,co,aL,cL,rfl,rfl,rfl,rfl,hMA,hPA,hgW,h2,HSA,HK0⟩:=h.msg hP
 clear h hP;simp only[pmC];have HE0:Hid (R.bT P=if R.leads then (if P.ent.2.1<R.iP P.ent.1 then R else if P.ent.2.1=R.iP P.ent.1 then R.gy P.ent else if P.kind=109∧R.epoch<P.epoch then R else if P.kind=109∧(P.epoch<R.epoch∨Rp.eH P.ent R.n=true) then R.reply P.ent.1 P.ent.2.1 ⟨#[98,97,100]⟩ else R.propose P.ent) else R):=rfl
 have HCm:=ah hm;have HEn:Hid (¬(P.kind=109∧Rp.eH P.ent R.n=true)→jd R.n P.ent):=fun q=>Rp.CF hm hk q
 have HPl:=ah (EX HSA.out hR);clear hm hk;cases hl:R.leads
 focus
  have HE:Hid (R.bT P=R):=by unfold Hid;rw[HE0.out,hl];rfl
 rotate_left
 focus
  have HE1:Hid (R.bT P=if P.ent.2.1<R.iP P.ent.1 then R else if P.ent.2.1=R.iP P.ent.1 then R.gy P.ent else if P.kind=109∧R.epoch<P.epoch then R else if P.kind=109∧(P.epoch<R.epoch∨Rp.eH P.ent R.n=true) then R.reply P.ent.1 P.ent.2.1 ⟨#[98,97,100]⟩ else R.propose P.ent):=by unfold Hid;rw[HE0.out,hl];rfl
 rotate_left
 all_goals
  rw[hl] at HPl;clear HE0;go_enter Tryz.func19,Tryz.ntmps19;go_upto_region 1 with fail
  generalize w.alloc (.cells (pqC P al cl ag cg ao co aL cL) 68)=wA at *;obtain⟨x0,x1,x2,x3,x4,x5,x6,x7,x8,x9,x10,x11,x12,x13,x14,xf⟩:=hMA.all
  go_wp2_with fail
 ·refine (HPl.out).mono ?_;rintro e w1 ⟨rfl,hs1⟩;have HS1:=ah hs1;clear hs1;have hM1:=hMA.kp HS1.out.kp hgW;obtain⟨_,_,_,_,_,_,_,_,_,_,_,_,_,_,_,_⟩:=hM1.all
  go_wp2;exact bodyPost_ret (results_none rfl _ _ _) rfl ⟨rfl,by rw[HE.out];exact HK0.out _ _ HS1.out⟩
 ·refine HPl.out.mono ?_;rintro e w1 ⟨rfl,hs1⟩;have hM1:=hMA.kp hs1.kp hgW;have hbE:Below w1.heap.size w1 (w1.alloc (.cells #[I J P.ent.1,I J P.ent.2.1,Z P.ent.2.2] 66)):=(Below.refl _ w1).alloc (Nat.le_refl _) _
  have HSE:=ah (hs1.below hbE);have hEb:(w1.alloc (.cells #[I J P.ent.1,I J P.ent.2.1,Z P.ent.2.2] 66)).heap[w1.heap.size]? = _:=heap_alloc_new w1 (.cells #[I J P.ent.1,I J P.ent.2.1,Z P.ent.2.2] 66)
  have hME:=hMA.kp HSE.out.kp hgW;clear x0 x1 x2 x3 x4 x5 x6 x7 x8 x9 x10 x11 x12 x13 x14 xf hs1;obtain⟨x0,x1,x2,x3,x4,x5,x6,x7,x8,x9,x10,x11,x12,x13,x14,xf⟩:=hM1.all
  clear hbE;go_upto_region 3 with fail
  clear x0 x1 x2 x3 x4 x5 x6 x7 x8 x9 x10 x11 x12 x13 x14 xf hM1;generalize w1.alloc (.cells #[I J P.ent.1,I J P.ent.2.1,Z P.ent.2.2] 66)=wE at *;have e0:wE.cell? ⟨w1.heap.size,0,O⟩=some (I J P.ent.1):=by simp[World.cell?,hEb]
  have e1:wE.cell? ⟨w1.heap.size,1,O⟩=some (I J P.ent.2.1):=by simp[World.cell?,hEb]
  have e2:wE.cell? ⟨w1.heap.size,2,O⟩=some (Z P.ent.2.2):=by simp[World.cell?,hEb]
  obtain⟨x0,x1,x2,x3,x4,x5,x6,x7,x8,x9,x10,x11,x12,x13,x14,xf⟩:=hME.all
  obtain⟨WL,FL,VL,hL,kL,mL⟩:=HSE.out
  have c4:=hL.c4;have c1:=hL.c1;have HLn:=ah (EM hL hR P.ent.1);clear hL kL mL;go_wp2_with fail;refine HLn.out.mono ?_;rintro e w2 ⟨rfl,hw2⟩;subst hw2;obtain⟨wE,HwE⟩:∃ x,x=w2:=⟨_,rfl⟩
  subst HwE;generalize R.iP P.ent.1=ln at *;by_cases qa:P.ent.2.1<ln
  ·have HE:=ah HE1.out;rw[if_pos qa] at HE;go_wp2;exact bodyPost_ret (results_none rfl _ _ _) rfl ⟨rfl,by rw[HE.out];exact HK0.out _ _ HSE.out⟩
  ·cases qb:(P.ent.2.1==ln)
   ·have HE2:Hid (R.bT P=if P.kind=109∧R.epoch<P.epoch then R else if P.kind=109∧(P.epoch<R.epoch∨Rp.eH P.ent R.n=true) then R.reply P.ent.1 P.ent.2.1 ⟨#[98,97,100]⟩ else R.propose P.ent):=by unfold Hid;rw[HE1.out,if_neg qa,if_neg (by simpa using qb)]
    clear HE1;cases kd:(P.kind==109)
    ·have HE:Hid (R.bT P=R.propose P.ent):=by unfold Hid;rw[HE2.out,if_neg (fun q=>by simp at kd;exact kd q.1),if_neg (fun q=>by simp at kd;exact kd q.1)]
     clear HE2;go_wp2_with fail;go_quiet (fail);rename_i nq;have HSF:=ah (HSE.out.drewN nq);have hMHSF:=hMA.kp HSF.out.kp hgW;have hFb:(wE.drewN nq).heap[w1.heap.size]? = _:=hEb
     clear x0 x1 x2 x3 x4 x5 x6 x7 x8 x9 x10 x11 x12 x13 x14 xf e0 e1 e2 c4 c1;generalize wE.drewN nq=wF at *;obtain⟨x0,x1,x2,x3,x4,x5,x6,x7,x8,x9,x10,x11,x12,x13,x14,xf⟩:=hMHSF.all
     have e0:wF.cell? ⟨w1.heap.size,0,O⟩=some (I J P.ent.1):=by simp[World.cell?,hFb]
     have e1:wF.cell? ⟨w1.heap.size,1,O⟩=some (I J P.ent.2.1):=by simp[World.cell?,hFb]
     have e2:wF.cell? ⟨w1.heap.size,2,O⟩=some (Z P.ent.2.2):=by simp[World.cell?,hFb]
     obtain⟨_,_,VHSF,rHSF,_,_⟩:=HSF.out
     have c4:=rHSF.c4;have c1:=rHSF.c1;clear rHSF;go_wp2_with fail;go_quiet (fail);rename_i nq;have HSG:=ah (HSF.out.drewN nq);have hMHSG:=hMA.kp HSG.out.kp hgW;have hGb:(wF.drewN nq).heap[w1.heap.size]? = _:=hFb
     clear x0 x1 x2 x3 x4 x5 x6 x7 x8 x9 x10 x11 x12 x13 x14 xf e0 e1 e2 c4 c1;generalize wF.drewN nq=wG at *;obtain⟨x0,x1,x2,x3,x4,x5,x6,x7,x8,x9,x10,x11,x12,x13,x14,xf⟩:=hMHSG.all
     have e0:wG.cell? ⟨w1.heap.size,0,O⟩=some (I J P.ent.1):=by simp[World.cell?,hGb]
     have e1:wG.cell? ⟨w1.heap.size,1,O⟩=some (I J P.ent.2.1):=by simp[World.cell?,hGb]
     have e2:wG.cell? ⟨w1.heap.size,2,O⟩=some (Z P.ent.2.2):=by simp[World.cell?,hGb]
     obtain⟨_,_,VHSG,rHSG,_,_⟩:=HSG.out
     have c4:=rHSG.c4;have c1:=rHSG.c1;clear rHSG;go_wp2_with fail;refine (Ao HSG.out hR P.ent (HEn.out (fun q=>by simp at kd;exact kd q.1)) (by omega)).mono ?_
     rintro e w3 ⟨rfl,hs3⟩;have HS3:=ah hs3;clear hs3;have hM3:=hMA.kp HS3.out.kp hgW;obtain⟨_,_,_,_,_,_,_,_,_,_,_,_,_,_,_,_⟩:=hM3.all
     go_wp2;exact bodyPost_end (results_none rfl _ _ _) rfl ⟨rfl,by rw[HE.out];exact HK0.out _ _ HS3.out⟩
    ·have kd':P.kind=109:=by simpa using kd
     have HKd:=ah kd';clear kd';by_cases gt:R.epoch<P.epoch
     ·have HE:Hid (R.bT P=R):=by unfold Hid;rw[HE2.out,if_pos ⟨HKd.out,gt⟩]
      clear HE2;go_wp2_with fail;go_quiet (fail);rename_i nq;have HSF:=ah (HSE.out.drewN nq);have hMHSF:=hMA.kp HSF.out.kp hgW;have hFb:(wE.drewN nq).heap[w1.heap.size]? = _:=hEb
      clear x0 x1 x2 x3 x4 x5 x6 x7 x8 x9 x10 x11 x12 x13 x14 xf e0 e1 e2 c4 c1;generalize wE.drewN nq=wF at *;obtain⟨x0,x1,x2,x3,x4,x5,x6,x7,x8,x9,x10,x11,x12,x13,x14,xf⟩:=hMHSF.all
      have e0:wF.cell? ⟨w1.heap.size,0,O⟩=some (I J P.ent.1):=by simp[World.cell?,hFb]
      have e1:wF.cell? ⟨w1.heap.size,1,O⟩=some (I J P.ent.2.1):=by simp[World.cell?,hFb]
      have e2:wF.cell? ⟨w1.heap.size,2,O⟩=some (Z P.ent.2.2):=by simp[World.cell?,hFb]
      obtain⟨_,_,VHSF,rHSF,_,_⟩:=HSF.out
      have c4:=rHSF.c4;have c1:=rHSF.c1;clear rHSF;go_wp2;exact bodyPost_ret (results_none rfl _ _ _) rfl ⟨rfl,by rw[HE.out];exact HK0.out _ _ HSF.out⟩
     ·by_cases lt:P.epoch<R.epoch
      focus
       have HE:Hid (R.bT P=R.reply P.ent.1 P.ent.2.1 ⟨#[98,97,100]⟩):=by unfold Hid;rw[HE2.out,if_neg (fun q=>gt q.2),if_pos ⟨HKd.out,.inl lt⟩]
      rotate_left
      focus
       have hnl:=fun w a n c=>Lib.run_eql_slice_nil (P:=Tryz.prog) w 44 3 a n c 0 0 Tryz.underlying44
       have HNx:=ah (fun w=>JO P.ent R.n w (by have:=HCm.out.s;unfold maxLen;omega))
       have HNo:Hid (R.bT P=if Rp.eH P.ent R.n=true then R.reply P.ent.1 P.ent.2.1 ⟨#[98,97,100]⟩ else R.propose P.ent):=by
        unfold Hid;rw[HE2.out,if_neg (fun q=>gt q.2)]
        by_cases hg:Rp.eH P.ent R.n=true
        ·rw[if_pos ⟨HKd.out,.inr hg⟩,if_pos hg]
        ·rw[if_neg (fun q=>by rcases q.2 with q|q;exact lt q;exact hg q),if_neg hg]
      rotate_left
      all_goals
       clear HE2;go_wp2_with fail;go_quiet (fail);rename_i nq;have HSF:=ah (HSE.out.drewN nq);have hMHSF:=hMA.kp HSF.out.kp hgW;have hFb:(wE.drewN nq).heap[w1.heap.size]? = _:=hEb
       clear x0 x1 x2 x3 x4 x5 x6 x7 x8 x9 x10 x11 x12 x13 x14 xf e0 e1 e2 c4 c1;generalize wE.drewN nq=wF at *;obtain⟨x0,x1,x2,x3,x4,x5,x6,x7,x8,x9,x10,x11,x12,x13,x14,xf⟩:=hMHSF.all
       have e0:wF.cell? ⟨w1.heap.size,0,O⟩=some (I J P.ent.1):=by simp[World.cell?,hFb]
       have e1:wF.cell? ⟨w1.heap.size,1,O⟩=some (I J P.ent.2.1):=by simp[World.cell?,hFb]
       have e2:wF.cell? ⟨w1.heap.size,2,O⟩=some (Z P.ent.2.2):=by simp[World.cell?,hFb]
       obtain⟨_,_,VHSF,rHSF,_,_⟩:=HSF.out
       have c4:=rHSF.c4;have c1:=rHSF.c1;clear rHSF
      ·go_wp2_with fail;go_quiet (fail);rename_i nq;have HSG:=ah (HSF.out.drewN nq);have hMHSG:=hMA.kp HSG.out.kp hgW;have hGb:(wF.drewN nq).heap[w1.heap.size]? = _:=hFb
       clear x0 x1 x2 x3 x4 x5 x6 x7 x8 x9 x10 x11 x12 x13 x14 xf e0 e1 e2 c4 c1;generalize wF.drewN nq=wG at *;obtain⟨x0,x1,x2,x3,x4,x5,x6,x7,x8,x9,x10,x11,x12,x13,x14,xf⟩:=hMHSG.all
       have e0:wG.cell? ⟨w1.heap.size,0,O⟩=some (I J P.ent.1):=by simp[World.cell?,hGb]
       have e1:wG.cell? ⟨w1.heap.size,1,O⟩=some (I J P.ent.2.1):=by simp[World.cell?,hGb]
       have e2:wG.cell? ⟨w1.heap.size,2,O⟩=some (Z P.ent.2.2):=by simp[World.cell?,hGb]
       obtain⟨_,_,VHSG,rHSG,_,_⟩:=HSG.out
       have c4:=rHSG.c4;have c1:=rHSG.c1;clear rHSG;go_wp2_with fail;refine (Ar HSG.out P.ent.1 P.ent.2.1 ⟨#[98,97,100]⟩ HCm.out.c ⟨by have:=HCm.out.n;omega,HCm.out.n.2⟩ (by decide) (by omega)).mono ?_
       rintro e w3 ⟨rfl,hs3⟩;have HS3:=ah hs3;clear hs3;have hM3:=hMA.kp HS3.out.kp hgW;obtain⟨_,_,_,_,_,_,_,_,_,_,_,_,_,_,_,_⟩:=hM3.all
       go_wp2;exact bodyPost_end (results_none rfl _ _ _) rfl ⟨rfl,by rw[HE.out];exact HK0.out _ _ HS3.out⟩
      ·cases hno:Rp.eH P.ent R.n
       ·have HE:=ah HNo.out;rw[hno,if_neg (by decide)] at HE
        rw[hno] at HNx;rw[HKd.out] at x0;rw[show P.epoch=R.epoch by omega] at x3
        go_wp2_with fail;go_region_with (go_at_call 45;refine (HNx.out _).mono ?_;rintro e w3 ⟨a3,k3,c3,rfl,hn3,hb3⟩;obtain⟨ad,rfl⟩:∃ ad,a3=some ad:=(by cases a3 with|none=>simp at hn3|some ad=>exact⟨ad,rfl⟩))
        all_goals
         have HS3:=ah (HSF.out.below (jc hb3));have hG3:=((jc hb3).block w1.heap.size (lt_of_block hFb)).trans hFb;clear x0 x1 x2 x3 x4 x5 x6 x7 x8 x9 x10 x11 x12 x13 x14 xf e0 e1 e2 c4 c1 hb3;have e0:w3.cell? ⟨w1.heap.size,0,O⟩=some (I J P.ent.1):=by simp[World.cell?,hG3]
         have e1:w3.cell? ⟨w1.heap.size,1,O⟩=some (I J P.ent.2.1):=by simp[World.cell?,hG3]
         have e2:w3.cell? ⟨w1.heap.size,2,O⟩=some (Z P.ent.2.2):=by simp[World.cell?,hG3]
         go_wp2_with fail;refine (Ao HS3.out hR P.ent (HEn.out (fun q=>by rw[hno] at q;exact absurd q.2 (by decide))) (by omega)).mono ?_
         rintro e w4 ⟨rfl,hs4⟩;have HS4:=ah hs4;clear hs4;have hM4:=hMA.kp HS4.out.kp hgW;obtain⟨_,_,_,_,_,_,_,_,_,_,_,_,_,_,_,_⟩:=hM4.all
         go_wp2;exact bodyPost_end (results_none rfl _ _ _) rfl ⟨rfl,by rw[HE.out];exact HK0.out _ _ HS4.out⟩
       ·have HE:=ah HNo.out;rw[hno,if_pos rfl] at HE;rw[hno] at HNx;rw[HKd.out] at x0;rw[show P.epoch=R.epoch by omega] at x3
        go_wp2_with fail;go_region_with (go_at_call 45;refine (HNx.out _).mono ?_;rintro e w3 ⟨a3,k3,c3,rfl,hn3,hb3⟩;obtain rfl:a3=O:=(by cases a3 with|none=>rfl|some ad=>simp at hn3))
        all_goals
         have HS3:=ah (HSF.out.below (jc hb3));have hG3:=((jc hb3).block w1.heap.size (lt_of_block hFb)).trans hFb;clear x0 x1 x2 x3 x4 x5 x6 x7 x8 x9 x10 x11 x12 x13 x14 xf e0 e1 e2 c4 c1 hb3;have e0:w3.cell? ⟨w1.heap.size,0,O⟩=some (I J P.ent.1):=by simp[World.cell?,hG3]
         have e1:w3.cell? ⟨w1.heap.size,1,O⟩=some (I J P.ent.2.1):=by simp[World.cell?,hG3]
         have e2:w3.cell? ⟨w1.heap.size,2,O⟩=some (Z P.ent.2.2):=by simp[World.cell?,hG3]
         go_wp2_with fail;refine (Ar HS3.out P.ent.1 P.ent.2.1 ⟨#[98,97,100]⟩ HCm.out.c ⟨by have:=HCm.out.n;omega,HCm.out.n.2⟩ (by decide) (by omega)).mono ?_
         rintro e w4 ⟨rfl,hs4⟩;have HS4:=ah hs4;clear hs4;have hM4:=hMA.kp HS4.out.kp hgW;obtain⟨_,_,_,_,_,_,_,_,_,_,_,_,_,_,_,_⟩:=hM4.all
         go_wp2;exact bodyPost_end (results_none rfl _ _ _) rfl ⟨rfl,by rw[HE.out];exact HK0.out _ _ HS4.out⟩
   ·have HE:Hid (R.bT P=R.gy P.ent):=by unfold Hid;rw[HE1.out,if_neg qa,if_pos (by simpa using qb)]
    clear HE1;go_wp2_with fail;refine (Bn HSE.out P.ent HCm.out.c ⟨by have:=HCm.out.n;omega,HCm.out.n.2⟩ hz (by omega)).mono ?_
    rintro e w3 ⟨rfl,hs3⟩;have HS3:=ah hs3;clear hs3;have hM3:=hMA.kp HS3.out.kp hgW;obtain⟨_,_,_,_,_,_,_,_,_,_,_,_,_,_,_,_⟩:=hM3.all
    go_wp2;exact bodyPost_end (results_none rfl _ _ _) rfl ⟨rfl,by rw[HE.out];exact HK0.out _ _ HS3.out⟩
end
end Go.Proofs.YtbnihoahhomooaaGreatDoor
