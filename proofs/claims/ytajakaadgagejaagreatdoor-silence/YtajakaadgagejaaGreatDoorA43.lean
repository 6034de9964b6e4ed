import Derived.Test.YtajakaadgagejaaGreatDoorA42
set_option maxRecDepth 100000
set_option maxHeartbeats 8000000
set_option linter.unusedVariables false
set_option linter.unusedSimpArgs false
set_option linter.unusedSectionVars false
namespace Go.Proofs.YtajakaadgagejaaGreatDoor
open Go.Value renaming int→I,slice→Y,string→Z,pointer→Zp
open Go.Ending renaming returned→Zr
open _root_.ByteArray renaming empty→Ze
open Go.IntKind renaming i64→J
open Option renaming none→O
open Go.RowKit
section
variable {N:Nat} {w w':World} {g:Nat} {K K':Kw} {V V':Kv}
theorem Rn.post {wr w2:World} {c:Nat} {f t:Int} {s:ByteArray} {V2:Kv} (L:Rn N w wr g K V c K' V') (k:Kst N wr w2 g K' V' { K' with net:=K'.net++[(f,t,s)] } V2) (h1 : -9≤t) (h2:t<K.n) (h3:0<s.size):Rn N w w2 g K V (c+1) { K' with net:=K'.net++[(f,t,s)] } V2 :=
 ⟨L.kst.trans k,L.ki.post f t s ⟨h1,by rw[L.n];exact h2⟩ h3,by rw[zV];have:=L.ms;omega,L.n,L.gr⟩
theorem Rn.quiet {wr:World} {c:Nat} (L:Rn N w wr g K V c K' V'):Calls Tryz.prog 69 #[Zp (some ⟨g,0,O⟩)] wr fun e w'=>qK wr w' e :=
 DZ L.kst.at_ L.ki.sz L.ki.ep L.ki.log (fun t ht=>by have:=L.ki.gsz t ht;omega)
theorem Ga (h:KAt N w g K V) (hi:KI K) (gr:Gr K) (hm:dA K+200000≤900000000000) :
  Calls Tryz.prog 37 #[Zp (some ⟨g,0,O⟩)] w fun e w'=>RnE N w w' g K V 150000 e:=by
 have z:=hi.sz;obtain⟨n,hn⟩:∃ n:Nat,K.n=n:=⟨K.n.toNat,by have:=z.n3;omega⟩
 have z3:=z.n3;have z1:=z.nds;have z7:=z.n7;have zd:=z.down;have zb:=z.begun;have z10:=z.opn;rw[hn] at z1 z7 z3 zd zb;have HC1:Hid (∀ w2,Below w.heap.size w w2→w2.cell? ⟨g,1,O⟩=some (I J n)):=fun w2 hw2=>by rw[← hn];exact (h.below hw2).cell 1
 have hn7:n≤7:=by omega
 have HRo:=ah (Gc h z hi.log);have HR0:=ah (Rn.refl h hi gr);have HBk:Hid (∀ (wr:World) (q c:Nat) (K':Kw) (V':Kv),Rn N w wr g K V c K' V'→q<n→c≤190000→Calls Tryz.prog 36 #[Zp (some ⟨g,0,O⟩),I J q] wr fun e w'=>RnE N w w' g K V (c+50) e):=fun wr q c K' V' L hq hc=>by
  refine (zO L.kst.at_ L.ki L.gr q (by have:=L.ki.sz.nds;rw[L.n,hn] at this;omega) (by have:=L.ms;omega)).mono ?_
  intro e w2 hs;exact L.rn hs
 have HRd:Hid (∀ (wr:World) (r c:Nat) (K':Kw) (V':Kv),Rn N w wr g K V c K' V'→r≤1000→c≤190000→Calls Tryz.prog 68 #[Zp (some ⟨g,0,O⟩),I J r] wr fun e w'=>RnE N w w' g K V (c+700) e):=fun wr r c K' V' L hr hc=>by
  refine (D5 L.kst.at_ L.ki L.gr r hr (by have:=L.ms;omega)).mono ?_
  intro e w2 hs;exact L.rn hs
 have HPo:Hid (∀ (wr:World) (q c:Nat) (s:ByteArray) (K':Kw) (V':Kv),Rn N w wr g K V c K' V'→q<n→0<s.size→c≤190000→Calls Tryz.prog 55 #[Zp (some ⟨g,0,O⟩),I J (-1),I J q,Z s] wr fun e w'=>e=Zr (.tuple #[])∧∃ K2 V2,Rn N w w' g K V (c+1) K2 V2∧K2.opn=K'.opn∧K2.wishes=K'.wishes):=fun wr q c s K' V' L hq hs hc=>by
  refine (kP L.kst.at_ (-1) q s (by have:=iG K';have:=L.ms;omega)).mono ?_
  rintro e w2 ⟨rfl,v,k⟩;exact⟨rfl,_,_,L.post k (by omega) (by omega) hs,rfl,rfl⟩
 have HFa:Hid (∀ (wr:World) (c:Nat) (K':Kw) (V':Kv),Rn N w wr g K V c K' V'→c≤150000→Calls Tryz.prog 66 #[Zp (some ⟨g,0,O⟩),I J 32] wr fun e w'=>e=Zr (.bool false)∧RnE N w w' g K V 150000 (Zr (.bool false))):=fun wr c K' V' L hc=>by
  refine (bQ L.kst.at_ 32).mono ?_;rintro e w2 ⟨rfl,k⟩;have:=L.ms
  exact⟨rfl,false,_,_,rfl,L.kst.trans k,L.ki.fails (by unfold dK;omega),by unfold dA at *;simp only at *;omega,L.n,fun h=>by simp at h⟩
 clear h hi gr z hm;go_enter Tryz.func37,Tryz.ntmps37;go_wp2_with fail;refine HRo.out.mono ?_;rintro e w1 ⟨b1,rfl,hb1⟩;have HL1:=ah (HR0.out.below hb1);cases b1
 ·have HF:=ah (HL1.out.rne (d:=150000) true (by omega))
  go_wp2_with fail;go_ret;exact HF.out
 ·go_wp2_with fail;go_loopw [4,5] (fun qu i wr=>∃ (r:Nat) (b:Bool) (K':Kw) (V':Kv),r≤96∧i=I J r∧qu=.bool b∧Rn N w wr g K V (1200*r) K' V') (fun _ i _=>96-(intOf i).toNat)
  case atStart=>exact⟨0,false,K,V,Nat.zero_le _,rfl,rfl,HL1.out⟩
  case round =>
   obtain⟨r,bq,K2,V2,hr,rfl,rfl,L2⟩:=hrel
   have HL2:=ah L2;clear L2;obtain⟨wO,HwO⟩:∃ x,x=wr:=⟨_,rfl⟩
   subst HwO;have HEnd:Hid True:=trivial
   by_cases hgo:r<96∧bq=false
   ·obtain⟨hr96,rfl⟩:=hgo
    have j0:(r:Int)<96:=by omega
    go_wp2_with fail;go_loopw [6] (fun i wr=>∃ (q:Nat) (K':Kw) (V':Kv),q≤n∧i=I J q∧Rn N w wr g K V (1200*r+50*q) K' V') (fun i _=>n-(intOf i).toNat)
    case atStart=>exact⟨0,K2,V2,Nat.zero_le _,rfl,HL2.out⟩
    case round =>
     obtain⟨q,K3,V3,hq,rfl,L3⟩:=hrel
     have c1:=L3.c1 hn;have HL3:=ah L3;clear L3;by_cases hlq:q<n
     ·have j2:(q:Int)<(n:Int):=by omega
      have HQ:=ah (HBk.out _ q _ _ _ HL3.out hlq (by omega))
      go_wp2_with fail;refine HQ.out.mono ?_;intro e w4 hs;obtain⟨b,rfl⟩:=hs.bool
      cases b
      ·have HF:=ah (hs.le (d:=150000) (by omega))
       clear hs;go_wp2_with fail;go_ret;exact HF.out
      ·obtain⟨K4,V4,L4⟩:=hs.get
       have HL4:=ah (L4.le (d:=1200*r+50*(q+1)) (by omega))
       clear hs L4;go_wp2_with fail;go_roundw
       case rel=>exact⟨q+1,K4,V4,by omega,by go_num,HL4.out⟩
       case measure=>simp[intOf];omega
     ·have j2:¬(q:Int)<(n:Int):=by omega
      have HL3:=ah (HL3.out.le (d:=1200*r+350) (by omega))
      obtain⟨wP,HwP⟩:∃ x,x=wr:=⟨_,rfl⟩
      subst HwP;go_wp2_with fail;clear c1;go_loopw [8] (fun i wr=>∃ (c:Nat) (K':Kw) (V':Kv),1≤c∧c≤10∧i=I J c∧Rn N w wr g K V (1200*r+350+7*(c-1)) K' V') (fun i _=>10-(intOf i).toNat)
      case atStart=>exact⟨1,K3,V3,by omega,by omega,rfl,HL3.out⟩
      case round =>
       obtain⟨c,K4,V4,hc1,hc,rfl,L4⟩:=hrel
       have HL4:=ah L4;clear L4;obtain⟨wR,HwR⟩:∃ x,x=wr:=⟨_,rfl⟩
       subst HwR;by_cases hlc:c<10
       ·have j3:(c:Int)≤9:=by omega
        go_wp2_with fail;go_loopw [9] (fun i wr=>∃ (q:Nat) (K':Kw) (V':Kv),q≤n∧i=I J q∧Rn N w wr g K V (1200*r+350+7*(c-1)+q) K' V') (fun i _=>n-(intOf i).toNat)
        case atStart=>exact⟨0,K4,V4,Nat.zero_le _,rfl,HL4.out⟩
        case round =>
         obtain⟨p,K5,V5,hp,rfl,L5⟩:=hrel
         have c1:=L5.c1 hn;have z10:=L5.ki.sz.opn;have hcl:c<K5.opn.length:=by omega
         obtain⟨aO,cO,hvO⟩:=au L5.kst.at_.rO
         obtain⟨b6,o6,rfl,_,d6⟩:=L5.kst.at_.opn hvO (Below.refl _ _) c hcl
         have c9:wr.cell? ⟨g,9,O⟩=some (Y (some ⟨b6,o6,O⟩) K5.opn.length cO):=by rw[← hvO];exact L5.kst.at_.cell 9
         have hov:=L5.ki.opn _ (List.getElem_mem hcl);have k1:(0:Int)≤(c:Int):=by omega
         have k2:(c:Int)<(K5.opn.length:Int):=by omega
         have HL5:=ah L5;clear L5 z10;generalize hgo:K5.opn[c]=ov at *;by_cases hlp:p<n
         ·have j4:(p:Int)<(n:Int):=by omega
          by_cases hv:0≤ov
          ·obtain⟨o,rfl⟩:=Int.eq_ofNat_of_zero_le hv
           have hol:o<K5.wishes.length:=by omega
           have hWs:jE wr V5.vW K5.wishes:=HL5.out.kst.at_.eW
           obtain⟨aW,cW,hvW⟩:=au HL5.out.kst.at_.rW
           have c8:wr.cell? ⟨g,8,O⟩=some (Y aW K5.wishes.length cW):=by rw[← hvW];exact HL5.out.kst.at_.cell 8
           rw[hvW] at hWs;obtain⟨b7,o7,rfl,_,_,_,_,d7,_⟩:=hWs.get o hol
           have k3:(0:Int)≤(o:Int):=by omega
           have k4:(o:Int)<(K5.wishes.length:Int):=by omega
           have ht1:=(HL5.out.ki.wish _ (List.getElem_mem hol)).t1;generalize K5.wishes[o].text=tx at *;clear hWs hov hgo;have HQ:Hid (∀ w6,Below wr.heap.size wr w6→Calls Tryz.prog 55 #[Zp (some ⟨g,0,O⟩),I J (-1),I J p,Z tx] w6 fun e w'=>e=Zr (.tuple #[])∧∃ K2 V2,Rn N w w' g K V (1200*r+350+7*(c-1)+p+1) K2 V2):=fun w6 hw6=>by
            refine (HPo.out _ p _ tx _ _ (HL5.out.below hw6) hlp (by omega) (by omega)).mono ?_
            rintro e w7 ⟨rfl,K7,V7,L7,_⟩;exact⟨rfl,K7,V7,L7⟩
           go_wp2_with fail;go_region_with (go_at_call 55;refine (HQ.out _ (Below.refl _ _).drew).mono ?_;rintro e w7 ⟨rfl,K7,V7,L7⟩)
           all_goals
            have HL7:=ah L7;clear L7;go_wp2_with fail;go_roundw
            case rel=>exact⟨p+1,K7,V7,by omega,by go_num,HL7.out⟩
            case measure=>simp[intOf];omega
          ·have hv':ov<0:=by omega
           have HL6:=ah (HL5.out.le (d:=1200*r+350+7*(c+1-1)) (by omega))
           clear hov hgo hv;go_wp2_with fail;go_roundw
           case rel=>exact⟨c+1,K5,V5,by omega,by omega,by go_num,HL6.out⟩
           case measure=>simp[intOf];omega
         ·have j4:¬(p:Int)<(n:Int):=by omega
          have HL6:=ah (HL5.out.le (d:=1200*r+350+7*(c+1-1)) (by omega))
          clear hov hgo;go_wp2_with fail;go_roundw
          case rel=>exact⟨c+1,K5,V5,by omega,by omega,by go_num,HL6.out⟩
          case measure=>simp[intOf];omega
       ·have j3:¬(c:Int)≤9:=by omega
        have HQ:=ah (HRd.out _ r _ _ _ HL4.out (by omega) (by omega))
        go_wp2_with fail;refine HQ.out.mono ?_;intro e w5 hs;obtain⟨b,rfl⟩:=hs.bool
        cases b
        ·have HF:=ah (hs.le (d:=150000) (by omega))
         clear hs;go_wp2_with fail;go_ret;exact HF.out
        ·obtain⟨K5,V5,L5⟩:=hs.get
         have HL5:=ah (L5.le (d:=1200*(r+1)) (by omega))
         clear hs L5;have HQu:=ah HL5.out.quiet;go_wp2_with fail;refine HQu.out.mono ?_;rintro e w6 ⟨b6,rfl,hb6⟩;have HL6:=ah (HL5.out.below hb6);go_wp2_with fail;go_roundw
         case rel=>exact⟨r+1,b6,K5,V5,by omega,by go_num,rfl,HL6.out⟩
         case measure=>simp[intOf];omega
   ·by_cases h96:r<96
    ·have hb:bq=true:=by
      cases bq
      ·exact absurd ⟨h96,rfl⟩ hgo
      ·rfl
     subst hb;have j0:(r:Int)<96:=by omega
     clear hgo;go_wp2_with fail;go_loopw [11] (fun i wr=>∃ (k:Nat) (K':Kw) (V':Kv),k≤4∧i=I J k∧Rn N w wr g K V (115200+700*k) K' V') (fun i _=>4-(intOf i).toNat)
     case atStart=>exact⟨0,K2,V2,Nat.zero_le _,rfl,HL2.out.le (by omega)⟩
     case round =>
      obtain⟨k,K3,V3,hk,rfl,L3⟩:=hrel
      have HL3:=ah L3;clear L3;by_cases hlk:k<4
      ·have j5:(k:Int)<4:=by omega
       have HQ:=ah (HRd.out _ k _ _ _ HL3.out (by omega) (by omega))
       go_wp2_with fail;refine HQ.out.mono ?_;intro e w5 hs;obtain⟨b,rfl⟩:=hs.bool
       cases b
       ·have HF:=ah (hs.le (d:=150000) (by omega))
        clear hs;go_wp2_with fail;go_ret;exact HF.out
       ·obtain⟨K5,V5,L5⟩:=hs.get
        have HL5:=ah (L5.le (d:=115200+700*(k+1)) (by omega))
        clear hs L5;go_wp2_with fail;go_roundw
        case rel=>exact⟨k+1,K5,V5,by omega,by go_num,HL5.out⟩
        case measure=>simp[intOf];omega
      ·have j5:¬(k:Int)<4:=by omega
       have HQu:=ah HL3.out.quiet;go_wp2_with fail;refine HQu.out.mono ?_;rintro e w6 ⟨b6,rfl,hb6⟩;have HL6:=ah (HL3.out.below hb6);cases b6
       ·have HQ:=ah (HFa.out _ _ _ _ HL6.out (by omega))
        go_wp2_with fail;refine HQ.out.mono ?_;rintro e w7 ⟨rfl,hF⟩;have HF:=ah hF;clear hF;go_wp2_with fail;go_ret;exact HF.out
       ·have HF:=ah (HL6.out.rne (d:=150000) true (by omega))
        go_wp2_with fail;go_ret;exact HF.out
    ·have j0:¬(r:Int)<96:=by omega
     clear hgo;go_wp2_with fail;go_loopw [11] (fun i wr=>∃ (k:Nat) (K':Kw) (V':Kv),k≤4∧i=I J k∧Rn N w wr g K V (115200+700*k) K' V') (fun i _=>4-(intOf i).toNat)
     case atStart=>exact⟨0,K2,V2,Nat.zero_le _,rfl,HL2.out.le (by omega)⟩
     case round =>
      obtain⟨k,K3,V3,hk,rfl,L3⟩:=hrel
      have HL3:=ah L3;clear L3;by_cases hlk:k<4
      ·have j5:(k:Int)<4:=by omega
       have HQ:=ah (HRd.out _ k _ _ _ HL3.out (by omega) (by omega))
       go_wp2_with fail;refine HQ.out.mono ?_;intro e w5 hs;obtain⟨b,rfl⟩:=hs.bool
       cases b
       ·have HF:=ah (hs.le (d:=150000) (by omega))
        clear hs;go_wp2_with fail;go_ret;exact HF.out
       ·obtain⟨K5,V5,L5⟩:=hs.get
        have HL5:=ah (L5.le (d:=115200+700*(k+1)) (by omega))
        clear hs L5;go_wp2_with fail;go_roundw
        case rel=>exact⟨k+1,K5,V5,by omega,by go_num,HL5.out⟩
        case measure=>simp[intOf];omega
      ·have j5:¬(k:Int)<4:=by omega
       have HQu:=ah HL3.out.quiet;go_wp2_with fail;refine HQu.out.mono ?_;rintro e w6 ⟨b6,rfl,hb6⟩;have HL6:=ah (HL3.out.below hb6);cases b6
       ·have HQ:=ah (HFa.out _ _ _ _ HL6.out (by omega))
        go_wp2_with fail;refine HQ.out.mono ?_;rintro e w7 ⟨rfl,hF⟩;have HF:=ah hF;clear hF;go_wp2_with fail;go_ret;exact HF.out
       ·have HF:=ah (HL6.out.rne (d:=150000) true (by omega))
        go_wp2_with fail;go_ret;exact HF.out
end
end Go.Proofs.YtajakaadgagejaaGreatDoor
