import Derived.Test.YtbnihoahhomooaaGreatDoorA23
set_option maxRecDepth 100000
set_option maxHeartbeats 8000000
set_option linter.all false
namespace Go.Proofs.YtbnihoahhomooaaGreatDoor
open Go.Value renaming int→I,slice→Y,string→Z,pointer→Zp
open Go.Ending renaming returned→Zr
open _root_.ByteArray renaming empty→Ze
open Go.IntKind renaming i64→J
open Option renaming none→O
open Go.RowKit
section
variable {N:Nat} {w w':World} {g:Nat} {K K':Kw} {V V':Kv}
theorem CZ (h:KAt N w g K V) (hi:KI K) (gr:Gr K) (q:Nat) (hq:q<K.nds.length) (vl:Value) (l:List (Int×ByteArray)) (hl:yG w vl l) (hf:Fr (iy g K V) vl) (hs:K.nds[q].R.status=3→∀ x∈l,Rp.jM x.2) (ho:∀ o∈l,OI K.list (wt K.wishes) K.groups K.begun K.n q o) (hm:dI K+l.length≤900000000000) (s3:K.nds[q].R.status=3) :
  Calls Tryz.prog 63 #[Zp (some ⟨g,0,O⟩),I J q,vl] w fun e w'=>StE N w w' g K V l.length e:=by
 have z:=hi.sz;obtain⟨n,hn⟩:∃ n:Nat,K.n=n:=⟨K.n.toNat,by have:=z.n3;omega⟩
 have z3:=z.n3;have z1:=z.nds;have z7:=z.n7;have zd:=z.down;have zb:=z.begun;have z10:=z.opn;rw[hn] at z1 z7 z3 zd zb;have HC1:Hid (∀ w2,Below w.heap.size w w2→w2.cell? ⟨g,1,O⟩=some (I J n)):=fun w2 hw2=>by rw[← hn];exact (h.below hw2).cell 1
 obtain⟨aN,cN,hvN⟩:=aj h.rN
 have HC2:Hid (∀ w2,Below w.heap.size w w2→w2.cell? ⟨g,2,O⟩=some (Y aN K.nds.length cN)):=fun w2 hw2=>by rw[← hvN];exact (h.below hw2).cell 2
 have HN:=ah (fun (w2:World) (hw2:Below w.heap.size w w2)=>KAt.ptr h hvN hw2)
 have HWh:=ah (fun (w2:World) (hw2:Below w.heap.size w w2)=>KAt.whr h hw2)
 have HQ:=ah (HWh.out w (Below.refl _ _) q hq);obtain⟨b1,o1,rfl,_,d1⟩:=HN.out w (Below.refl _ _) q hq
 have c2:=HC2.out w (Below.refl _ _);have j1:(0:Int)≤(q:Int):=by omega
 have j2:(q:Int)<(K.nds.length:Int):=by omega
 obtain⟨al,cl,rfl,hcl,hml⟩:∃ a cap,vl=Y a l.length cap∧l.length≤cap∧cap≤9223372036854775807:=by
  obtain⟨a,cap,e,hn,hm,_⟩:=Rd.form hl
  exact⟨a,cap,e,hn,by unfold maxLen at hm;omega⟩
 have HL0:Hid (∀ w2,Below w.heap.size w w2→Lo N w w2 g K V 0 K V):=fun w2 hw2=>(Lo.refl h hi gr).below hw2
 have HO:Hid (∀ {w2:World} {K2:Kw} {V2:Kv},Kst N w w2 g K V K2 V2→yG w2 (Y al l.length cl) l):=fun k=>Rd.kp hl k.kp hf (fun _ h=>h)
 have HOi:Hid (∀ (k:Nat) (hk:k<l.length),OI K.list (wt K.wishes) K.groups K.begun K.n q (l[k].1,l[k].2)∧(-9≤l[k].1∧l[k].1<K.n∧l[k].1≠q∧0<l[k].2.size)∧(0≤l[k].1→NT K.list (wt K.wishes) K.groups K.begun K.n l[k].2)):=fun k hk=>by
  have a:=ho _ (List.getElem_mem hk);exact⟨a,Ow gr hi a,Ox hi a gr⟩
 clear ho;have HSt:Hid (K.nds[q].R.status=3→∀ (k:Nat) (hk:k<l.length),∃ h0:0<l[k].2.size,(l[k].2)[0].toNat=114):=fun h3 k hk=>EC (hs h3 _ (List.getElem_mem hk))
 clear h hi gr z hf hl hs HWh HN HC2;generalize K.nds[q].b=bb at *;generalize K.nds[q].R.epoch=r1 at *;generalize K.nds[q].R.view=r2 at *;generalize K.nds[q].R.status=r3 at *;generalize K.nds[q].R.decided=r4 at *;go_enter Tryz.func63,Tryz.ntmps63;go_wp2_with fail;refine HQ.out.mono ?_;rintro e w1 ⟨rfl,nn,hw1⟩;have hb1:Below w.heap.size w w1:=by rw[hw1];exact below_drewN (Below.refl _ _) nn
 clear hw1 HQ c2 d1;go_wp2_with fail;go_loopw [11] (fun i wr=>∃ (k:Nat) (K':Kw) (V':Kv),k≤l.length∧i=I J k∧Lo N w wr g K V k K' V') (fun i _=>l.length-(intOf i).toNat)
 case atStart=>exact⟨0,K,V,Nat.zero_le _,rfl,HL0.out _ hb1⟩
 case round =>
  obtain⟨k,K1,V1,hk,rfl,L⟩:=hrel
  have HL:=ah L;clear L;by_cases hlt:k<l.length
  ·obtain⟨bo,oo,rfl,_,p1,p2⟩:=(HO.out HL.out.kst).get k hlt
   have c1:=HL.out.c1 hn;have j3:(0:Int)≤(k:Int):=by omega
   have j4:(k:Int)<(l.length:Int):=by omega
   have hst:=fun h3=>HSt.out h3 k hlt
   obtain⟨hoi,hbd,hnt⟩:=HOi.out k hlt
   generalize h_qt:l[k].1=qt at *;generalize h_tx:l[k].2=tx at *;have HOo:=ah hoi;have HNt:=ah hnt;obtain⟨hb9,hbn,hbq,hb0⟩:=hbd
   rw[hn] at hbn;clear hoi hnt HOi;obtain⟨x1,x2⟩:=hst s3
   subst s3;clear hst;have y0:tx.toList.isEmpty=false:=xA x1
   have y1:(0:Int)<(tx.size:Int):=by omega
   have y2:((tx[0].toNat:Int) != 114)=false:=by rw[x2];rfl
   have a1:¬(n:Int)≤qt:=by omega
   have g1:decide ((n:Int)≤qt)=false:=decide_eq_false a1
   have a2:¬qt=(q:Int):=hbq
   have g2:(qt==(q:Int))=false:=beq_eq_false_iff_ne.2 a2
   have a3:¬qt < -9:=by omega
   have g3:decide (qt < -9)=false:=decide_eq_false a3
   have a4:¬tx.size=0:=by omega
   have g4:¬tx=Ze:=by
    intro hc;rw[hc] at a4;exact a4 rfl
   have g5:decide (tx=Ze)=false:=decide_eq_false g4
   have g6:tx.toList.isEmpty=false:=xA (by omega)
   clear a2 hbq;go_wp2_with fail;go_quiet (fail);have Lq:=HL.out.below (below_drewN (Below.refl _ _) nq);have HLq:=ah Lq;clear Lq;generalize hwA:wr.drewN nq=wA at *;clear hwA p1 p2;obtain⟨b2,o2,e2',_,p1,p2⟩:=(HO.out HLq.out.kst).get k hlt
   cases e2';rw[h_qt] at p1;rw[h_tx] at p2;by_cases a6:qt<0
   ·have nw:IntKind.i64.wrap (-qt) = -qt:=fC (by omega) (by omega)
    have HAq:Hid (∀ w2,Below wA.heap.size wA w2→Calls Tryz.prog 110 #[Zp (some ⟨g,0,O⟩),I J (-qt),Z tx] w2 fun e w'=>LoE N w w' g K V k e):=fun w2 hw2=>by
     have L2:=HLq.out.below hw2;refine (xH L2.kst.at_ L2.ki (-qt) (by omega) (by omega) tx).mono ?_
     rintro e w3 ⟨b,K3,rfl,k3,⟨rfl,hk⟩|⟨rfl,rfl,hn1,hn2⟩⟩
     ·exact⟨true,_,_,rfl,L2.ans k3 HOo.out a6 hk⟩
     ·rcases Lr L2.ci L2.ki (L2.oi HOo.out) a6 with ⟨j,hj⟩|⟨j,hj⟩
      ·exact absurd hj (hn1 j)
      ·exact absurd hj (hn2 j)
    go_wp2_with fail;go_region_with (go_at_call 110;refine (HAq.out _ (Below.refl _ _).drew).mono ?_;rintro e w4 ⟨bA,KA,VA,rfl,LA⟩)
    all_goals
     have HLA:=ah LA;clear LA;cases bA
     ·go_wp2;go_ret;exact HLA.out.ste (by omega) false
     ·go_upto_region 13 with fail
      have HPq:Hid (∀ w2,Below w4.heap.size w4 w2→Calls Tryz.prog 55 #[Zp (some ⟨g,0,O⟩),I J q,I J qt,Z tx] w2 fun e w'=>e=Zr (.tuple #[])∧∃ v,Lo N w w' g K V (k+1) { KA with net:=KA.net++[((q:Int),qt,tx)] } { VA with vP:=v }):=fun w2 hw2=>by
       have L2:=HLA.out.below hw2;refine (lY L2.kst.at_ q qt tx (by have:=iV KA;have:=L2.ms;omega)).mono ?_
       rintro e w3 ⟨rfl,v,k3⟩;exact⟨rfl,v,L2.post k3 (by omega) (by omega) (by omega) HNt.out⟩
      clear p1 p2;obtain⟨b2,o2,e2',_,p1,p2⟩:=(HO.out HLA.out.kst).get k hlt
      cases e2';rw[h_qt] at p1;rw[h_tx] at p2;go_wp2_with fail;go_region_with (go_at_call 55;refine (HPq.out _ (Below.refl _ _).drew).mono ?_;rintro e w5 ⟨rfl,v5,L5⟩)
      all_goals
       go_wp2;go_roundw
       case rel=>exact⟨k+1,_,_,by omega,by go_num,L5⟩
       case measure=>simp[intOf];omega
   ·obtain⟨KA,VA,HLA⟩:∃ KA VA,Hid (Lo N w wA g K V k KA VA):=⟨_,_,HLq⟩
    have HPq:Hid (∀ w2,Below wA.heap.size wA w2→Calls Tryz.prog 55 #[Zp (some ⟨g,0,O⟩),I J q,I J qt,Z tx] w2 fun e w'=>e=Zr (.tuple #[])∧∃ v,Lo N w w' g K V (k+1) { KA with net:=KA.net++[((q:Int),qt,tx)] } { VA with vP:=v }):=fun w2 hw2=>by
     have L2:=HLA.out.below hw2;refine (lY L2.kst.at_ q qt tx (by have:=iV KA;have:=L2.ms;omega)).mono ?_
     rintro e w3 ⟨rfl,v,k3⟩;exact⟨rfl,v,L2.post k3 (by omega) (by omega) (by omega) HNt.out⟩
    clear p1 p2;obtain⟨b2,o2,e2',_,p1,p2⟩:=(HO.out HLA.out.kst).get k hlt
    cases e2';rw[h_qt] at p1;rw[h_tx] at p2;go_wp2_with fail;go_region_with (go_at_call 55;refine (HPq.out _ (Below.refl _ _).drew).mono ?_;rintro e w5 ⟨rfl,v5,L5⟩)
    all_goals
     go_wp2;go_roundw
     case rel=>exact⟨k+1,_,_,by omega,by go_num,L5⟩
     case measure=>simp[intOf];omega
  ·go_wp2;go_ret;exact HL.out.ste (by omega) true
end
end Go.Proofs.YtbnihoahhomooaaGreatDoor
