import Derived.Test.YtajakaadgagejaaGreatDoorA18
import Derived.Test.YtajakaadgagejaaGreatDoorA19
set_option maxRecDepth 100000
set_option maxHeartbeats 8000000
set_option linter.unusedVariables false
set_option linter.unusedSimpArgs false
set_option linter.unusedSectionVars false
namespace Go.Proofs.YtajakaadgagejaaGreatDoor
open Go.Value renaming int→I,slice→Y,string→Z,pointer→Zp
open Go.Ending renaming returned→Zr
open _root_.ByteArray renaming empty→Ze
open Go.IntKind renaming i64→J
open Option renaming none→O
open Go.RowKit
section
variable {N:Nat} {w w':World} {g:Nat} {K K':Kw} {V V':Kv}
theorem Ck (h:KAt N w g K V) (z:KSz K) (he:∀ x∈K.nds,0≤x.R.epoch∧x.R.epoch≤1000) (hlog:∀ x∈K.nds,x.R.log.length≤1000) (hg:∀ t∈K.groups,t.size≤1000000) :
    Calls Tryz.prog 113 #[Zp (some ⟨g,0,O⟩)] w fun e w'=>qK w w' e:=by
  obtain ⟨n, hn⟩ : ∃ n : Nat, K.n = n := ⟨K.n.toNat, by have := z.n3; omega⟩
  have z1:=z.nds
  have z7:=z.n7
  rw[hn] at z1 z7
  obtain⟨aN,cN,hvN⟩:=au h.rN
  obtain⟨aG,cG,hvG⟩:=au h.rG
  obtain⟨aL,cL,hvL⟩:=au h.rL
  have hgl:K.groups.length≤9223372036854775807:=by
    have:=Rd.form (Rd.bK h.rG)
    obtain⟨_,_,_,q1,q2,_⟩:=this
    unfold maxLen at q2;omega
  have HL:=ah (Cg h z he)
  have HN:=ah (fun (w2:World) (hw2:Below w.heap.size w w2)=>KAt.ptr h hvN hw2)
  have HG:=ah (fun (w2:World) (hw2:Below w.heap.size w w2)=>KAt.grp h hvG hw2)
  have HW:=ah (fun (w2:World) (hw2:Below w.heap.size w w2)=>KAt.whr h hw2)
  have HC1 : Hid (∀ w2, Below w.heap.size w w2 → w2.cell? ⟨g, 1, O⟩ = some (I J n)) := fun w2 hw2 => by rw [← hn]; exact (h.below hw2).cell 1
  have HC2 : Hid (∀ w2, Below w.heap.size w w2 → w2.cell? ⟨g, 2, O⟩ = some (Y aN K.nds.length cN)) := fun w2 hw2 => by rw [← hvN]; exact (h.below hw2).cell 2
  have HC10 : Hid (∀ w2, Below w.heap.size w w2 → w2.cell? ⟨g, 10, O⟩ = some (Y aL K.list.length cL)) := fun w2 hw2 => by rw [← hvL]; exact (h.below hw2).cell 10
  have HC11 : Hid (∀ w2, Below w.heap.size w w2 → w2.cell? ⟨g, 11, O⟩ = some (Y aG K.groups.length cG)) := fun w2 hw2 => by rw [← hvG]; exact (h.below hw2).cell 11
  have HLg:Hid (∀ w2,Below w.heap.size w w2→∀ k,(hk:k<K.nds.length)→Calls Tryz.prog 104 #[Zp (some ⟨K.nds[k].b,0,O⟩)] w2 fun e w'=>∃ (a:Option Addr) (m c:Nat),e=Zr (Y a m c)∧m≤1000∧Below w2.heap.size w2 w'):=fun w2 hw2 k hk=>by
    refine (qy (h.node k hk hw2) (hlog _ (List.getElem_mem hk))).mono ?_
    rintro e w3 ⟨v,rfl,ho,hb⟩
    obtain⟨a,c,rfl⟩:=au ho
    exact⟨a,_,c,rfl,hlog _ (List.getElem_mem hk),hb⟩
  have HS:Hid (∀ k,(hk:k<K.groups.length)→(K.groups[k]).size≤1000000):=fun k hk=>hg _ (List.getElem_mem hk)
  clear h z he hlog hg
  go_enter Tryz.func113,Tryz.ntmps113
  go_wp2_with fail
  refine HL.out.mono ?_
  rintro e w1 ⟨a,v,rfl,ha0,ha1,hb1⟩
  have c11:=HC11.out _ hb1
  by_cases hne:a+1=(K.groups.length:Int)
  · obtain⟨ia,rfl⟩:=Int.eq_ofNat_of_zero_le ha0
    obtain ⟨b1, o1, rfl, _, d1⟩ := HG.out _ hb1 ia (by omega)
    have sg := HS.out ia (by omega)
    generalize K.groups[ia]=t at *
    have HA : Hid (∀ (k : Int) (w : World), Calls Tryz.prog 56 #[Z t, I J k] w fun e w' => ∃ b, e = Zr (.bool b) ∧ w' = w) := fun k w => nK t k w (by omega)
    have j2 : (ia : Int) < (K.groups.length : Int) := by omega
    have hne' : (((ia : Int) + 1) != (K.groups.length : Int)) = false := by rw [hne]; simp
    go_wp2_with fail
    go_loopw [6] (fun i wr=>∃ k:Nat,k≤n∧i=I J k∧Below w.heap.size w wr) (fun i _=>n-(intOf i).toNat)
    case atStart=>exact⟨0,Nat.zero_le _,rfl,hb1⟩
    case round =>
      obtain⟨k,hk,rfl,hbw⟩:=hrel
      have c1:=HC1.out _ hbw
      by_cases hlt:k<n
      · obtain ⟨b2, o2, rfl, hb2, d2⟩ := HN.out _ hbw k (by omega)
        have j1 : (0 : Int) ≤ (k : Int) := by omega
        have j3 : (k : Int) < (K.nds.length : Int) := by omega
        have j4 : (k : Int) < (n : Int) := by omega
        have c2:=HC2.out _ hbw
        have HQ := ah (HW.out wr hbw k (by omega))
        have HQ2 : Hid (∀ w2, Below w.heap.size w w2 → Calls Tryz.prog 104 #[Zp (some ⟨K.nds[k].b, 0, O⟩)] w2 fun e w' => ∃ (a : Option Addr) (m c : Nat), e = Zr (Y a m c) ∧ m ≤ 1000 ∧ Below w2.heap.size w2 w') := fun w2 hw2 => HLg.out w2 hw2 k (by omega)
        generalize K.nds[k].b=bb at *
        generalize K.nds[k].R.epoch=r1 at *
        generalize K.nds[k].R.view=r2 at *
        generalize K.nds[k].R.status=r3 at *
        generalize K.nds[k].R.decided=r4 at *
        go_wp2_with fail
        refine (HA.out _ _).mono ?_
        rintro e w4 ⟨bA,rfl,hw4⟩
        subst hw4
        cases bA
        · go_wp2_with fail
          go_roundw
          case rel => exact ⟨k + 1, by omega, by go_num, hbw⟩
          case measure=>simp[intOf];omega
        · go_wp2_with fail
          refine HQ.out.mono ?_
          rintro e w2 ⟨rfl,nn,hw2⟩
          have hb2' : Below w.heap.size w w2 := by rw [hw2]; exact below_drewN hbw nn
          have c2':=HC2.out _ hb2'
          have d2' : w2.cell? ⟨b2, o2 + k, O⟩ = some (Zp (some ⟨bb, 0, O⟩)) := by rw [hw2]; exact d2
          clear hw2
          go_wp2_with fail
          refine (HQ2.out _ hb2').mono ?_
          rintro e w3 ⟨al,ml,cl,rfl,hml,hb3⟩
          have hb3':Below w.heap.size w w3:=hb2'.trans (hb3.mono hb2'.size)
          have c10:=HC10.out _ hb3'
          go_wp2_with fail
          all_goals first
            | (go_ret;exact⟨_,rfl,hb3'⟩)
            | (go_roundw
               case rel => exact ⟨k + 1, by omega, by go_num, hb3'⟩
               case measure=>simp[intOf];omega)
      · go_wp2_with fail
        go_ret
        exact⟨_,rfl,hbw⟩
  · have hne':((a+1) != (K.groups.length:Int))=true:=bne_iff_ne.2 hne
    go_wp2_with fail
    go_ret
    exact⟨_,rfl,hb1⟩
end
section
variable {w w0:World} {b bl:Nat} {W F:List Nat} {R:Rp} {V:Rv} {P:Pm} {vl vg vo vL:Value}
def iP (R:Rp) (l:List Int) (k:Nat):Rp:=(List.range k).foldl (Rp.iK l) R
theorem zS (R:Rp) (l:List Int) (k:Nat):iP R l (k+1)=Rp.iK l (iP R l k) k:=by unfold iP;rw[List.range_succ,List.foldl_append];rfl
theorem La (l:List Int) (R:Rp) (k:Nat):(Rp.iK l R k).id=R.id∧(Rp.iK l R k).n=R.n∧(Rp.iK l R k).lives.length=R.lives.length∧(Rp.iK l R k).acks.length=R.acks.length:=by
 unfold Rp.iK;split
 ·exact⟨rfl,rfl,by simp,by simp⟩
 ·exact⟨rfl,rfl,rfl,rfl⟩
theorem Iy (R:Rp) (l:List Int):∀ k,(iP R l k).id=R.id∧(iP R l k).n=R.n∧(iP R l k).lives.length=R.lives.length∧(iP R l k).acks.length=R.acks.length
 | 0=>⟨rfl,rfl,rfl,rfl⟩
 | k+1=>by
  rw[zS];obtain⟨a1,a2,a3,a4⟩:=La l (iP R l k) k
  obtain⟨b1,b2,b3,b4⟩:=Iy R l k
  exact⟨a1.trans b1,a2.trans b2,a3.trans b3,a4.trans b4⟩
theorem zw (h:Rst w0 w b bl W F R) (hR:Ok R) (hP:dF w0 W F P vl vg vo vL) (hll:(P.lives.length:Int)=R.n) :
  Calls Tryz.prog 21 #[Zp (some ⟨b,0,O⟩),vl] w fun e w'=>e=Zr (.tuple #[])∧Rst w0 w' b bl W F (R.learn P.lives):=by
 obtain⟨nn,hnn⟩:∃ m:Nat,R.n=m:=⟨R.n.toNat,by have:=hR.n3;omega⟩
 have n7:nn≤7:=by have:=hR.n7;omega
 have hpl:P.lives.length=nn:=by omega
 have hrl:R.lives.length=nn:=by have:=hR.ll;omega
 have HL:Hid (R.learn P.lives=iP R P.lives nn):=by unfold Hid Rp.learn iP;rw[hnn];rfl
 have HS:Hid (∀ k,iP R P.lives (k+1)=Rp.iK P.lives (iP R P.lives k) k):=zS R P.lives
 have HFl:Hid (∀ k,(iP R P.lives k).id=R.id∧(iP R P.lives k).n=(nn:Int)∧(iP R P.lives k).lives.length=nn):=fun k=>by
  obtain⟨a1,a2,a3,_⟩:=Iy R P.lives k
  exact⟨a1,a2.trans hnn,a3.trans hrl⟩
 have HPl:=ah hpl;obtain⟨al,cl,ag,cg,ao,co,aL,cL,rfl,rfl,rfl,rfl⟩:=hP.cells
 have H0:Hid (iP R P.lives 0=R):=rfl
 clear hnn hll hpl hrl;go_enter Tryz.func21,Tryz.ntmps21;go_wp2_with fail;go_loopw [4] (fun i wr=>∃ k:Nat,k≤nn∧i=I J k∧Rst w0 wr b bl W F (iP R P.lives k)) (fun i _=>nn-(intOf i).toNat)
 case atStart=>exact⟨0,Nat.zero_le _,rfl,h⟩
 case round =>
  obtain⟨k,hk,rfl,hr⟩:=hrel
  have HR:=ah hr;obtain⟨f1,f2,f3⟩:=HFl.out k
  have HSk:=ah (HS.out k);obtain⟨WQ,FQ,VQ,hQ,kQ,mQ,pQ⟩:=hr.pm hP
  have c0:=hQ.c0;have c1:=hQ.c1;have c2:=hQ.c2;rw[f1] at c0;rw[f2] at c1;obtain⟨clr,hvl⟩:=hQ.g2
  rw[hvl,f3] at c2;clear hr f1 f2;by_cases hlt:k<nn
  ·have g2:k<P.lives.length:=by rw[HPl.out];exact hlt
   have g3:k<(iP R P.lives k).lives.length:=by rw[f3];exact hlt
   have e1:P.lives.getD k 0=P.lives[k]:=by simp[List.getD,g2]
   have e2:(iP R P.lives k).lives.getD k 0=(iP R P.lives k).lives[k]:=by simp[List.getD,g3]
   have HL1:Hid (Rp.iK P.lives (iP R P.lives k) k=if ((k:Int) != (iP R P.lives k).id)&&decide ((iP R P.lives k).lives[k]<P.lives[k]) then { iP R P.lives k with lives:=(iP R P.lives k).lives.set k P.lives[k],acks:=(iP R P.lives k).acks.set k 0 } else iP R P.lives k):=by
    unfold Hid Rp.iK;rw[e1,e2]
   rw[(HFl.out k).1] at HL1;obtain⟨b3,o3,hb3e,hb3,z3⟩:=pQ.lives.get k g2
   have hrl:=hQ.lives.rd;rw[hvl] at hrl;obtain⟨b4,o4,hb4e,hb4,z4⟩:=Ints.get hrl k g3
   simp only[Option.some.injEq,Addr.mk.injEq] at hb4e;obtain⟨rfl,rfl,_⟩:=hb4e
   simp only[Nat.zero_add] at z4;subst hb3e;have zf:wr.frozen? ⟨bl,k,O⟩=false:=hQ.lives.frozen k
   have HQ:=ah hQ;have HKQ:=ah kQ;have HMQ:=ah mQ;have hd:=hQ.d1;have hd':¬b=bl:=hd
   have hd2:¬bl=b:=fun hc=>hd hc.symm
   have HPQ:=ah pQ;have j1:(0:Int)≤(k:Int):=by omega
   have j2:(k:Int)<(nn:Int):=by omega
   have j3:(k:Int)<(P.lives.length:Int):=by rw[HPl.out];omega
   have j4:(k:Int)<7:=by omega
   generalize hLk:(iP R P.lives k).lives[k]=lk at *;clear hLk hrl e1 e2 g3 hQ kQ mQ pQ hd f3;cases hq:((k:Int)==R.id)
   ·have hne:((k:Int) != R.id)=true:=by simp[bne,hq]
    by_cases hp:lk<P.lives[k]
    ·rw[hne,decide_eq_true hp,Bool.and_self,if_pos rfl] at HL1;go_wp2_with fail;go_quiet (fail);rename_i nq;have hq1:=HQ.out.drewN nq;have kq1:=HKQ.out.aF (below_drewN (Below.refl _ wr) nq);have c2':(wr.drewN nq).cell? ⟨b,2,O⟩=some (Y (some ⟨bl,0,O⟩) nn clr):=c2
     have z3':(wr.drewN nq).cell? ⟨b3,o3+k,O⟩=some (I J P.lives[k]):=z3
     have z4':(wr.drewN nq).cell? ⟨bl,k,O⟩=some (I J lk):=z4
     have zf':(wr.drewN nq).frozen? ⟨bl,k,O⟩=false:=zf
     clear c0 c1 c2 z3 z4 zf hb3 hb4 HQ HKQ HPQ;generalize wr.drewN nq=wq at *;have HS9:Hid (Rst w0 (wq.setCell ⟨bl,k,O⟩ (I J P.lives[k])) b bl W F { iP R P.lives k with lives:=(iP R P.lives k).lives.set k P.lives[k] }):=Rst.step kq1 HMQ.out (Rst.of (hq1.Fa k P.lives[k]) ((Kp.refl _ _).set bl k _ (.inl hq1.wl)))
     clear hq1 kq1;go_upto_region 4 with fail
     go_cut [] from 5 to 47 (fun wx=>Rst w0 wx b bl W F { iP R P.lives k with lives:=(iP R P.lives k).lives.set k P.lives[k] })
     case first =>
      go_region
      all_goals go_wp2_with fail
      all_goals go_meet
      all_goals exact HS9.out.drew
     case rest =>
      obtain⟨WT,FT,VT,hT,kT,mT⟩:=hcut
      have ca:∃ v,wc.cell? ⟨b,55+k,O⟩=some v:=⟨_,hT.qE k (by omega)⟩
      obtain⟨va,ca⟩:=ca
      have cf:=hT.free (55+k);have HS10:Hid (Rst w0 (wc.setCell ⟨b,55+k,O⟩ (I J 0)) b bl W F { iP R P.lives k with lives:=(iP R P.lives k).lives.set k P.lives[k],acks:=(iP R P.lives k).acks.set k 0 }):=Rst.step kT mT (Rst.of (hT.fA k (by omega) 0) (hT.nM _ _))
      clear hT kT mT c2' z3' z4' zf';go_wp2_with fail;go_roundw
      case rel=>exact⟨k+1,by omega,by go_num,by rw[HSk.out,HL1.out];exact HS10.out⟩
      case measure=>simp[intOf];omega
    ·rw[hne,decide_eq_false (by omega),Bool.and_false,if_neg (by decide)] at HL1
     go_wp2_with fail;go_quiet (fail);rename_i nq;have HS2:=ah (HR.out.drewN nq);go_wp2_with fail;go_roundw
     case rel=>exact⟨k+1,by omega,by go_num,by rw[HSk.out,HL1.out];exact HS2.out⟩
     case measure=>simp[intOf];omega
   ·have hne:((k:Int) != R.id)=false:=by simp[bne,hq]
    rw[hne,Bool.false_and,if_neg (by decide)] at HL1
    go_wp2_with fail;go_quiet (fail);rename_i nq;have HS2:=ah (HR.out.drewN nq);go_wp2_with fail;go_roundw
    case rel=>exact⟨k+1,by omega,by go_num,by rw[HSk.out,HL1.out];exact HS2.out⟩
    case measure=>simp[intOf];omega
  ·obtain rfl:k=nn:=by omega
   rw[← HL.out] at HR;go_wp2_with fail;exact bodyPost_end (results_none rfl _ _ _) rfl ⟨rfl,HR.out⟩
end
section
variable {w w0:World} {b bl:Nat} {W F:List Nat} {R:Rp} {V:Rv} {P:Pm} {vl vg vo vL:Value}
theorem yG (h:Rst w0 w b bl W F R) (hR:Ok R) (E:En) (hE:kV R.n E) (ho:R.out.length≤700000) :
  Calls Tryz.prog 47 #[Zp (some ⟨b,0,O⟩),.agg #[I J E.1,I J E.2.1,Z E.2.2]] w fun e w'=>e=Zr (.tuple #[])∧Rst w0 w' b bl W F (R.propose E):=by
 obtain⟨i0,hi,hz0,hz1,hz2⟩:=info_parts Tryz.infoEnt
 obtain⟨W1,F1,V1,h1,k1,m1⟩:=h
 have hbA:Below w.heap.size w (w.alloc (.cells #[I J E.1,I J E.2.1,Z E.2.2] 66)):=(Below.refl _ w).alloc (Nat.le_refl _) _
 have hnew:(w.alloc (.cells #[I J E.1,I J E.2.1,Z E.2.2] 66)).heap[w.heap.size]? = _:=heap_alloc_new w (.cells #[I J E.1,I J E.2.1,Z E.2.2] 66)
 have hgW:w.heap.size∉W1:=fun hc=>by have:=h1.wlt _ hc;omega
 have HSA:=ah (Rst.refl (h1.below hbA));have HK0:Hid (∀ w' R',Rst (w.alloc (.cells #[I J E.1,I J E.2.1,Z E.2.2] 66)) w' b bl W1 F1 R'→Rst w0 w' b bl W F R'):=fun w' R' q=>Rst.step (k1.aF hbA) m1 q
 have HE0:Hid (R.propose E=if R.closing=true∨10≤R.log.length then R else ({ R with log:=R.log++[E] }:Rp).bL ((R.log.length:Int)+1)):=rfl
 have hl10:=hR.lg;have HEn:=ah hE;clear h1 hbA k1 m1 hE;cases hcl:R.closing
 ·by_cases h10:10≤R.log.length
  ·have HE:Hid (R.propose E=R):=by unfold Hid;rw[HE0.out,if_pos (.inr h10)]
   have h10':(10:Int)≤(R.log.length:Int):=by omega
   clear HE0;go_enter Tryz.func47,Tryz.ntmps47;go_upto_region 1 with fail
   generalize w.alloc (.cells #[I J E.1,I J E.2.1,Z E.2.2] 66)=wA at *;have HC:=ah (jy HSA.out hR);rw[hcl] at HC;go_wp2_with fail;refine HC.out.mono ?_;rintro e w1 ⟨rfl,hs1⟩;have HS1:=ah hs1;clear hs1;obtain⟨_,_,V2,q2,_,_⟩:=HS1.out
   have c9:=q2.c9;obtain⟨aL9,cL9,hvL9⟩:=q2.g9
   rw[hvL9] at c9;clear q2;go_wp2_with fail;exact bodyPost_ret (results_none rfl _ _ _) rfl ⟨rfl,by rw[HE.out];exact HK0.out _ _ HS1.out⟩
  ·have HE:Hid (R.propose E=({ R with log:=R.log++[E] }:Rp).bL ((R.log.length:Int)+1)):=by unfold Hid;rw[HE0.out,hcl,if_neg (by simpa using h10)]
   have h10':¬(10:Int)≤(R.log.length:Int):=by omega
   have HO1:=ah (Rp.um hR HEn.out (by omega))
   clear HE0;go_enter Tryz.func47,Tryz.ntmps47;go_upto_region 1 with fail
   generalize w.alloc (.cells #[I J E.1,I J E.2.1,Z E.2.2] 66)=wA at *;have HC:=ah (jy HSA.out hR);rw[hcl] at HC;go_wp2_with fail;refine HC.out.mono ?_;rintro e w1 ⟨rfl,hs1⟩;have HS1:=ah hs1;clear hs1;obtain⟨WZ,FZ,VZ,hZ,kZ,mZ⟩:=HS1.out
   have c9:=hZ.c9;have f9:=hZ.free 9;obtain⟨aL9,cL9,hvL9⟩:=hZ.g9
   have hown9:=hZ.log;rw[hvL9] at c9 hown9;have hnew1:=(kZ.block w.heap.size (lt_of_block hnew) hgW).trans hnew;have e0:w1.cell? ⟨w.heap.size,0,O⟩=some (I J E.1):=by simp[World.cell?,hnew1]
   have e1:w1.cell? ⟨w.heap.size,1,O⟩=some (I J E.2.1):=by simp[World.cell?,hnew1]
   have e2:w1.cell? ⟨w.heap.size,2,O⟩=some (Z E.2.2):=by simp[World.cell?,hnew1]
   go_wp2_with fail;have hneb:some b≠(Y aL9 R.log.length cL9).ownBlock:=lQ hown9 hZ.block (by decide)
   have hbwz:b<w1.heap.size:=hZ.lb
   have ne9:=World.new_ne w1 ⟨b,9,O⟩ c9;go_region_law (first|(refine step_append_lies (w:=(w1.alloc (.cells #[I J E.1,I J E.2.1,Z E.2.2] 66)).drew) (by rfl) (.tmp 18) (.tmp 20) 47 (by rfl) 0 66 i0 (.agg #[I J 0,I J 0,Z Ze]) 3 32 Tryz.underlying47 hi hz0 hz1 hz2 rfl (by decide) (Y aL9 R.log.length cL9) R.log.length (aA R.log) (by rfl) (bH (hown9.alloc _) (Below.refl _ _).drew) ⟨w1.heap.size,0,O⟩ 1 1 [I J E.1,I J E.2.1,Z E.2.2] (by rfl) (by rfl) (World.news_of_block (show ((w1.alloc (.cells #[I J E.1,I J E.2.1,Z E.2.2] 66)).drew).heap[w1.heap.size]? = _ from heap_alloc_new w1 (.cells #[I J E.1,I J E.2.1,Z E.2.2] 66))) (by intro u hu;simp at hu;rcases hu with rfl|rfl|rfl <;> rfl) (by decide) (by unfold maxLen;omega) (by omega) (Nat.zero_le _) (w1.heap.size+1) (by simp) ?_;intro g4 cap4 w4 hown4 hg4 hat4 hlt4;have hbl:Below w1.heap.size w1 ((w1.alloc (.cells #[I J E.1,I J E.2.1,Z E.2.2] 66)).drew):=(((Below.refl _ w1).alloc (Nat.le_refl _) _).drew);have t9:w4.cell? ⟨b,9,O⟩=some (Y aL9 R.log.length cL9):=(hg4.cell_far ⟨b,9,O⟩ (by simp;omega) hneb).trans ((hbl.cell (p:=⟨b,9,O⟩) hbwz).trans c9);have g9:w4.frozen? ⟨b,9,O⟩=false:=(hg4.frozen_far ⟨b,9,O⟩ (by simp;omega) hneb).trans ((hbl.frozen (p:=⟨b,9,O⟩) hbwz).trans f9))|(refine step_append_lies (w:=w1.drew.alloc (.cells #[I J E.1,I J E.2.1,Z E.2.2] 66)) (by rfl) (.tmp 18) (.tmp 20) 47 (by rfl) 0 66 i0 (.agg #[I J 0,I J 0,Z Ze]) 3 32 Tryz.underlying47 hi hz0 hz1 hz2 rfl (by decide) (Y aL9 R.log.length cL9) R.log.length (aA R.log) (by rfl) ((bH hown9 (Below.refl _ _).drew).alloc _) ⟨w1.heap.size,0,O⟩ 1 1 [I J E.1,I J E.2.1,Z E.2.2] (by rfl) (by rfl) (World.news_of_block (heap_alloc_new w1.drew (.cells #[I J E.1,I J E.2.1,Z E.2.2] 66))) (by intro u hu;simp at hu;rcases hu with rfl|rfl|rfl <;> rfl) (by decide) (by unfold maxLen;omega) (by omega) (Nat.zero_le _) (w1.heap.size+1) (by simp) ?_;intro g4 cap4 w4 hown4 hg4 hat4 hlt4;have hbl:Below w1.heap.size w1 (w1.drew.alloc (.cells #[I J E.1,I J E.2.1,Z E.2.2] 66)):=((Below.refl _ w1).drew.alloc (Nat.le_refl _) _);have t9:w4.cell? ⟨b,9,O⟩=some (Y aL9 R.log.length cL9):=(hg4.cell_far ⟨b,9,O⟩ (by simp;omega) hneb).trans ((hbl.cell (p:=⟨b,9,O⟩) hbwz).trans c9);have g9:w4.frozen? ⟨b,9,O⟩=false:=(hg4.frozen_far ⟨b,9,O⟩ (by simp;omega) hneb).trans ((hbl.frozen (p:=⟨b,9,O⟩) hbwz).trans f9)))
   all_goals
    clear e2;have e2:aA (R.log++[E])=aA R.log++[I J E.1,I J E.2.1,Z E.2.2]:=by simp[aA]
    have ho4:w4.ownsRow 0 66 3 (Y (some ⟨g4,0,O⟩) (R.log.length+1) cap4) (R.log.length+1) (aA (R.log++[E])):=by rw[e2];exact hown4
    have HSl:=ah (Rst.step kZ mZ (hZ.ES (x:=E) hbl (by rw[hvL9];exact hg4) ho4 (by rw[hvL9];exact hat4.imp (fun q=>q) (fun q=>by omega))))
    clear ho4 e2;obtain⟨WY,FY,VY,hY,_,_⟩:=HSl.out
    have y9:=hY.c9;obtain⟨aY,cY,hvY⟩:=hY.g9
    rw[hvY] at y9;have hlY:(({ R with log:=R.log++[E] }:Rp)).log.length=R.log.length+1:=by simp
    simp only[List.length_append,List.length_cons,List.length_nil,Nat.zero_add] at y9;clear hY t9 g9 hlY;go_upto_region 3 with fail
    generalize w4.setCell ⟨b,9,O⟩ (Y (some ⟨g4,0,O⟩) (R.log.length+1) cap4)=w5 at *;have HSe:=ah (sU HSl.out HO1.out ((R.log.length:Int)+1) (by omega) (by omega) (by show R.out.length≤800000;omega))
    go_wp2_with fail;refine HSe.out.mono ?_;rintro e w6 ⟨rfl,hs6⟩;have HS6:=ah hs6;clear hs6;go_wp2_with fail;exact bodyPost_end (results_none rfl _ _ _) rfl ⟨rfl,by rw[HE.out];exact HK0.out _ _ HS6.out⟩
 ·have HE:Hid (R.propose E=R):=by unfold Hid;rw[HE0.out,hcl,if_pos (.inl rfl)]
  clear HE0;go_enter Tryz.func47,Tryz.ntmps47;go_upto_region 1 with fail
  generalize w.alloc (.cells #[I J E.1,I J E.2.1,Z E.2.2] 66)=wA at *;have HC:=ah (jy HSA.out hR);rw[hcl] at HC;go_wp2_with fail;refine (HC.out).mono ?_;rintro e w1 ⟨rfl,hs1⟩;have HS1:=ah hs1;clear hs1;go_wp2_with fail;exact bodyPost_ret (results_none rfl _ _ _) rfl ⟨rfl,by rw[HE.out];exact HK0.out _ _ HS1.out⟩
end
end Go.Proofs.YtajakaadgagejaaGreatDoor
