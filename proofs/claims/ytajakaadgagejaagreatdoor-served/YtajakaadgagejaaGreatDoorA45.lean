import Derived.Test.YtajakaadgagejaaGreatDoorA44
set_option maxRecDepth 100000
set_option maxHeartbeats 8000000
set_option linter.unusedVariables false
set_option linter.unusedSimpArgs false
set_option linter.unusedSectionVars false
namespace Go.Proofs.YtajakaadgagejaaGreatDoor
open Go.Value renaming int→I,slice→Y,string→Z,pointer→Zp
open Go.Ending renaming returned→Zr
open _root_.ByteArray renaming empty→Ze
open Go.IntKind renaming i64→J
open Option renaming none→O
open Go.RowKit
section
variable {N:Nat} {w w':World} {g:Nat} {K K':Kw} {V V':Kv}
def CrP (N:Nat) (w w':World) (g:Nat) (K:Kw) (V:Kv) (q:Nat) (e:Ending):Prop:=e=Zr (.tuple #[])∧∃ K',Kst N w w' g K V K' V∧(K'=K∨K'={ K with down:=K.down.set q true })
theorem DT (h:KAt N w g K V) (hi:KI K) (q:Nat) (hq:q<K.nds.length) :
  Calls Tryz.prog 35 #[Zp (some ⟨g,0,O⟩),I J q] w fun e w'=>CrP N w w' g K V q e:=by
 have z:=hi.sz;obtain⟨n,hn⟩:∃ n:Nat,K.n=n:=⟨K.n.toNat,by have:=z.n3;omega⟩
 have z3:=z.n3;have z1:=z.nds;have z7:=z.n7;have zd:=z.down;have zb:=z.begun;have z10:=z.opn;rw[hn] at z1 z7 z3 zd zb;have HC1:Hid (∀ w2,Below w.heap.size w w2→w2.cell? ⟨g,1,O⟩=some (I J n)):=fun w2 hw2=>by rw[← hn];exact (h.below hw2).cell 1
 obtain⟨aD,cD,hvD⟩:=au h.rD
 have HC3:Hid (∀ w2,Below w.heap.size w w2→w2.cell? ⟨g,3,O⟩=some (Y aD K.down.length cD)):=fun w2 hw2=>by rw[← hvD];exact (h.below hw2).cell 3
 have HD:=ah (fun (w2:World) (hw2:Below w.heap.size w w2)=>KAt.dwn h hvD hw2)
 obtain⟨aO,cO,hvO⟩:=au h.rO
 have HC9:Hid (∀ w2,Below w.heap.size w w2→w2.cell? ⟨g,9,O⟩=some (Y aO K.opn.length cO)):=fun w2 hw2=>by rw[← hvO];exact (h.below hw2).cell 9
 have HO:=ah (fun (w2:World) (hw2:Below w.heap.size w w2)=>KAt.opn h hvO hw2)
 obtain⟨aW,cW,hvW⟩:=au h.rW
 have HC8:Hid (∀ w2,Below w.heap.size w w2→w2.cell? ⟨g,8,O⟩=some (Y aW K.wishes.length cW)):=fun w2 hw2=>by rw[← hvW];exact (h.below hw2).cell 8
 have HW:Hid (∀ w2,Below w.heap.size w w2→jE w2 (Y aW K.wishes.length cW) K.wishes):=fun w2 hw2=>by rw[← hvW];exact (h.below hw2).eW
 have hqd:q<K.down.length:=by omega
 obtain⟨bD,capD,eD,hbD⟩:=nQ h.rD (by omega)
 rw[hvD] at eD;cases eD;have HDq:Hid (∀ w2,Below w.heap.size w w2→w2.cell? ⟨bD,q,O⟩=some (.bool K.down[q])):=fun w2 hw2=>by
  obtain⟨b2,o2,e2,_,d2⟩:=HD.out w2 hw2 q hqd
  cases e2
  simpa using d2
 have d2:=HDq.out w (Below.refl _ _);have c3:=HC3.out w (Below.refl _ _);have j1:(0:Int)≤(q:Int):=by omega
 have j3:(q:Int)<(K.down.length:Int):=by omega
 have HY:Hid (∀ w2,Below w.heap.size w w2→CrP N w w2 g K V q (Zr (.tuple #[]))):=fun w2 hw2=>⟨rfl,K,(Kst.refl h).below hw2,.inl rfl⟩
 have HSt:Hid (∀ w2,Below w.heap.size w w2→w2.frozen? ⟨bD,q,O⟩=false∧CrP N w (w2.setCell ⟨bD,q,O⟩ (.bool true)) g K V q (Zr (.tuple #[]))):=fun w2 hw2 =>
  ⟨(h.below hw2).fz (i:=1) (r:=⟨4,1,V.vD,K.down.length,K.down.map Value.bool⟩) rfl hvD q,rfl,_,((Kst.refl h).below hw2).trans ((h.below hw2).setD hvD q true),.inr rfl⟩
 have HKn:Hid (∀ w2 k,Below w.heap.size w w2→k<n→Calls Tryz.prog 64 #[Zp (some ⟨g,0,O⟩),I J (k:Int)] w2 fun e w'=>BK w2 w' e):=fun w2 k hw2 hk=>DX (h.below hw2) hi k (by omega)
 have HHo:Hid (∀ w2 s,Below w.heap.size w w2→s.size≤1000→Calls Tryz.prog 29 #[Zp (some ⟨g,0,O⟩),Z s,I J (q:Int)] w2 fun e w'=>qK w2 w' e):=fun w2 s hw2 hs=>xS (h.below hw2) z s q (by omega)
 have HOp:Hid (∀ v∈K.opn,-1≤v∧v<(K.wishes.length:Int)):=hi.opn
 have HWi:Hid (∀ (k:Nat) (hk:k<K.wishes.length),1≤K.wishes[k].e.2.2.size∧K.wishes[k].e.2.2.size≤9):=fun k hk=>⟨(hi.wish _ (List.getElem_mem hk)).o1,(hi.wish _ (List.getElem_mem hk)).o9⟩
 have HZ10:=ah z10;clear h hi z z10;generalize hdq:K.down[q]=dq at *;cases dq
 ·go_enter Tryz.func35,Tryz.ntmps35;go_wp2_with fail;clear d2 c3;go_loopw [4] (fun i wr=>∃ k:Nat,k≤n∧i=I J k∧Below w.heap.size w wr) (fun i _=>n-(intOf i).toNat)
  case atStart=>exact⟨0,Nat.zero_le _,rfl,Below.refl _ _⟩
  case round =>
   obtain⟨k,hk,rfl,hbw⟩:=hrel
   have c1:=HC1.out _ hbw;obtain⟨wO,HwO⟩:∃ x,x=wr:=⟨_,rfl⟩
   subst HwO;by_cases hlt:k<n
   ·have j4:(k:Int)<(n:Int):=by omega
    have HQ:=ah (HKn.out _ k hbw hlt);go_wp2_with fail;refine HQ.out.mono ?_;rintro e w1 ⟨v1,l1,rfl,hown1,hs1,hl1,hb1⟩;have w1x:=hbw.trans (hb1.mono hbw.size);obtain⟨a1,cc1,rfl⟩:=au hown1
    have HOw:=ah hown1;have HS1:Hid (∀ (i:Nat) (hi:i<l1.length),(l1[i]).size≤1000):=fun i hi=>hs1 _ (List.getElem_mem hi)
    clear hown1 hs1 hb1 c1;go_wp2_with fail;go_loopw [6] (fun i wr=>∃ k:Nat,k≤l1.length∧i=I J k∧wr.ownsRow wO.heap.size 9 1 (Y a1 l1.length cc1) l1.length (l1.map Value.string)∧Below w.heap.size w wr) (fun i _=>l1.length-(intOf i).toNat)
    case atStart=>exact⟨0,Nat.zero_le _,rfl,HOw.out,w1x⟩
    case round =>
     obtain⟨i,hi,rfl,hO,hbv⟩:=hrel
     by_cases hli:i<l1.length
     ·obtain⟨b3,o3,rfl,_,d3⟩:=Rd.AJ (Rd.bK hO) (k:=i) (u:=Z l1[i]) (by rw[List.getElem?_map,List.getElem?_eq_getElem hli];rfl)
      have HO:=ah hO;have k1:(0:Int)≤(i:Int):=by omega
      have k2:(i:Int)<(l1.length:Int):=by omega
      have HQ2:=ah (HHo.out _ _ hbv (HS1.out i hli));generalize l1[i]=si at *;clear hO;go_wp2_with fail;refine HQ2.out.mono ?_;rintro e w5 ⟨b5,rfl,hb5⟩;have w5x:=hbv.trans (hb5.mono hbv.size);cases b5
      ·have HF:=ah (HY.out _ w5x);go_wp2_with fail;exact bodyPost_ret (v:=.tuple #[]) (results_none rfl _ _ _) rfl HF.out
      ·have HO5:=ah (bH HO.out hb5);go_wp2_with fail;go_roundw
       case rel=>exact⟨i+1,by omega,by go_num,HO5.out,w5x⟩
       case measure=>simp[intOf];omega
     ·go_wp2_with fail;go_roundw
      case rel=>exact⟨k+1,by omega,by go_num,hbv⟩
      case measure=>simp[intOf];omega
   ·have j4:¬(k:Int)<(n:Int):=by omega
    go_wp2_with fail;clear c1;go_loopw [8] (fun i wr=>∃ c:Nat,1≤c∧c≤10∧i=I J c∧Below w.heap.size w wr) (fun i _=>10-(intOf i).toNat)
    case atStart=>exact⟨1,by omega,by omega,rfl,hbw⟩
    case round =>
     obtain⟨c,hc1,hc,rfl,hbv⟩:=hrel
     by_cases hlc:c<10
     ·have hcl:c<K.opn.length:=by rw[HZ10.out];omega
      obtain⟨b6,o6,rfl,_,d6⟩:=HO.out _ hbv c hcl
      have c9:=HC9.out _ hbv;have c8:=HC8.out _ hbv;have k1:(0:Int)≤(c:Int):=by omega
      have k2:(c:Int)<(K.opn.length:Int):=by omega
      have k3:(c:Int)≤9:=by omega
      have hov:=HOp.out _ (List.getElem_mem hcl);generalize K.opn[c]=ov at *;by_cases hv:ov<0
      ·have hv':decide (ov<0)=true:=decide_eq_true hv
       clear hov;go_wp2_with fail;go_quiet (fail);have hbq:=below_drewN hbv nq;go_wp2_with fail;go_roundw
       case rel=>exact⟨c+1,by omega,by omega,by go_num,hbq⟩
       case measure=>simp[intOf];omega
      ·have hv':decide (ov<0)=false:=decide_eq_false hv
       obtain⟨o,rfl⟩:=Int.eq_ofNat_of_zero_le (show 0≤ov by omega)
       have hol:o<K.wishes.length:=by omega
       obtain⟨b7,o7,rfl,_,_,_,d7,_⟩:=(HW.out _ hbv).get o hol
       have k4:(0:Int)≤(o:Int):=by omega
       have k5:(o:Int)<(K.wishes.length:Int):=by omega
       obtain⟨s1,s9⟩:=HWi.out o hol
       have HD2:Hid (∀ w2,Below w.heap.size w w2→w2.cell? ⟨g,8,O⟩=some (Y (some ⟨b7,o7,O⟩) K.wishes.length cW)∧w2.cell? ⟨g,9,O⟩=some (Y (some ⟨b6,o6,O⟩) K.opn.length cO)):=fun w2 hw2=>⟨HC8.out _ hw2,HC9.out _ hw2⟩
       generalize K.wishes[o].e.2.2=op at *;have k6:(0:Int)<(op.size:Int):=by omega
       have k7:(1:Int)≤(op.size:Int):=by omega
       have k8:0<op.size:=by omega
       have k9:¬op=Ze:=by intro hc;rw[hc] at k8;exact absurd k8 (by decide)
       clear hov hv;by_cases hr:(op[0].toNat:Int)=114
       ·have hr':((op[0].toNat:Int) != 114)=false:=by rw[hr];rfl
        clear hr;have HQ:Hid (∀ w2,Below w.heap.size w w2→Calls Tryz.prog 29 #[Zp (some ⟨g,0,O⟩),Z (op.extract 1 op.size),I J (q:Int)] w2 fun e w'=>qK w2 w' e):=fun w2 hw2=>HHo.out w2 _ hw2 (by simp;omega)
        go_wp2_with fail;go_quiet (fail);have hbq:=below_drewN hbv nq;go_wp2_with fail;go_region_with (go_at_call 29;refine (HQ.out _ hbq.drew).mono ?_;rintro e w8 ⟨b8,rfl,hb8⟩)
        all_goals
         have w8x:Below w.heap.size w w8:=hbq.drew.trans (hb8.mono hbq.drew.size)
         cases b8
         ·have HF:=ah (HY.out _ w8x);go_wp2_with fail;exact bodyPost_ret (v:=.tuple #[]) (results_none rfl _ _ _) rfl HF.out
         ·go_wp2_with fail;go_roundw
          case rel=>exact⟨c+1,by omega,by omega,by go_num,w8x⟩
          case measure=>simp[intOf];omega
       ·have hr':((op[0].toNat:Int) != 114)=true:=bne_iff_ne.2 hr
        clear hr;go_wp2_with fail;go_quiet (fail);have hbq:=below_drewN hbv nq;go_wp2_with fail;go_roundw
        case rel=>exact⟨c+1,by omega,by omega,by go_num,hbq⟩
        case measure=>simp[intOf];omega
     ·have k3:¬(c:Int)≤9:=by omega
      have c3:=HC3.out _ hbv;have d2:=HDq.out _ hbv;obtain⟨f2,hF⟩:=HSt.out _ hbv
      have HF:=ah hF;clear hF;go_wp2_with fail;refine bodyPost_end (results_none rfl _ _ _) rfl ?_;exact HF.out
 ·have HF:=ah (HY.out _ (Below.refl _ _));go_enter Tryz.func35,Tryz.ntmps35;go_wp2_with fail;exact bodyPost_ret (v:=.tuple #[]) (results_none rfl _ _ _) rfl HF.out
end
end Go.Proofs.YtajakaadgagejaaGreatDoor
