import Derived.Test.YtajakaadgagejaaGreatDoorA42
set_option maxRecDepth 100000
set_option maxHeartbeats 8000000
set_option linter.unusedVariables false
set_option linter.unusedSimpArgs false
set_option linter.unusedSectionVars false
namespace Go.Proofs.YtajakaadgagejaaGreatDoor
open Go.Value renaming int→I,slice→Y,string→Z,pointer→Zp
open Go.Ending renaming returned→Zr
open _root_.ByteArray renaming empty→Ze
open Go.IntKind renaming i64→J
open Option renaming none→O
open Go.RowKit
section
variable {N:Nat} {w w':World} {g:Nat} {K K':Kw} {V V':Kv}
theorem EZ {b1 b2:Nat} {e1 e2:TypeId} {s1 s2 n1 n2:Nat} {v1 v2:Value} {xs1 xs2:List Value} (h1:w.ownsRow b1 e1 s1 v1 n1 xs1) (h2:w.ownsRow b2 e2 s2 v2 n2 xs2) (hne:e1≠e2):∀ k,v1.ownBlock=some k→v2.ownBlock≠some k:=fun k k1 k2=>by
 rcases h1.2 with ⟨rfl,_⟩|⟨g1,c1,cur1,rfl,_,q1,_⟩
 ·simp[Value.ownBlock] at k1
 rcases h2.2 with ⟨rfl,_⟩|⟨g2,c2,cur2,rfl,_,q2,_⟩
 ·simp[Value.ownBlock] at k2
 simp[Value.ownBlock] at k1 k2;subst k1;subst k2;rw[q1] at q2;have:=Option.some.inj q2
 cases this;exact hne rfl
theorem Bf (W:World) (s:ByteArray) (t:TypeId):Rd (W.alloc (.cells #[Z s] t)) 1 (Y (some ⟨W.heap.size,0,O⟩) 1 1) 1 [Z s]:=⟨rfl,.inr ⟨W.heap.size,0,1,rfl,Nat.le_refl _,by unfold maxLen;omega,by simp,fun j u hj=>by
 have:=World.news_of_block (heap_alloc_new W (.cells #[Z s] t)) j u hj
 have hadd:(⟨W.heap.size,0,O⟩:Addr).add j=⟨W.heap.size,0+j,O⟩:=by unfold Addr.add;split <;> simp_all
 rwa [hadd] at this⟩⟩
theorem ql {b:Nat} {e:TypeId} {s n:Nat} {v:Value} {xs:List Value} (h:w.ownsRow b e s v n xs) (o:Obj):(w.alloc o).ownsRow b e s v n xs:=h.alloc _
theorem one1 (s:ByteArray):∀ u∈[Z s],u.oneCell'=true:=fun u hu=>by simp at hu;subst hu;rfl
theorem qC {b:Nat} {v:Value} {n:Nat} {l:List ByteArray} {s:ByteArray} (h:w.ownsRow b 9 1 v (n+1) (l.map Value.string++[Z s])) (hn:n=l.length):w.ownsRow b 9 1 v (l++[s]).length ((l++[s]).map Value.string):=by
 subst hn;rw[List.map_append,show (l++[s]).length=l.length+1 by simp];exact h
theorem DX (h:KAt N w g K V) (hi:KI K) (q:Nat) (hq:q<K.nds.length) :
  Calls Tryz.prog 64 #[Zp (some ⟨g,0,O⟩),I J q] w fun e w'=>BK w w' e:=by
 have z:=hi.sz;obtain⟨i0,hi0,hz0,hz1,hz2⟩:=info_parts Tryz.infoStr
 obtain⟨n,hn⟩:∃ n:Nat,K.n=n:=⟨K.n.toNat,by have:=z.n3;omega⟩
 have z3:=z.n3;have z1:=z.nds;have z7:=z.n7;have zd:=z.down;have zb:=z.begun;have z10:=z.opn;rw[hn] at z1 z7 z3 zd zb;have HC1:Hid (∀ w2,Below w.heap.size w w2→w2.cell? ⟨g,1,O⟩=some (I J n)):=fun w2 hw2=>by rw[← hn];exact (h.below hw2).cell 1
 obtain⟨aN,cN,hvN⟩:=au h.rN
 have HC2:Hid (∀ w2,Below w.heap.size w w2→w2.cell? ⟨g,2,O⟩=some (Y aN K.nds.length cN)):=fun w2 hw2=>by rw[← hvN];exact (h.below hw2).cell 2
 have HN:=ah (fun (w2:World) (hw2:Below w.heap.size w w2)=>KAt.ptr h hvN hw2)
 obtain⟨aD,cD,hvD⟩:=au h.rD
 have HC3:Hid (∀ w2,Below w.heap.size w w2→w2.cell? ⟨g,3,O⟩=some (Y aD K.down.length cD)):=fun w2 hw2=>by rw[← hvD];exact (h.below hw2).cell 3
 have HD:=ah (fun (w2:World) (hw2:Below w.heap.size w w2)=>KAt.dwn h hvD hw2)
 have HWh:=ah (fun (w2:World) (hw2:Below w.heap.size w w2)=>KAt.whr h hw2)
 obtain⟨x,hxe⟩:∃ x,K.nds[q]=x:=⟨_,rfl⟩
 have hx:K.nds[q]? = some x:=by rw[List.getElem?_eq_getElem hq,hxe]
 have hok:=(hi.nod q x hx).ok;have hRn:=(hi.nod q x hx).n;have HQ:=ah (HWh.out w (Below.refl _ _) q hq);rw[hxe] at HQ;have hqd:q<K.down.length:=by omega
 obtain⟨b1,o1,rfl,_,d1⟩:=HN.out w (Below.refl _ _) q hq
 rw[hxe] at d1;have c2:=HC2.out w (Below.refl _ _);have j1:(0:Int)≤(q:Int):=by omega
 have j2:(q:Int)<(K.nds.length:Int):=by omega
 have j3:(q:Int)<(K.down.length:Int):=by omega
 have HR:=ah (fun (w2:World) (hw2:Below w.heap.size w w2)=>(h.nodes x (List.mem_of_getElem? hx)).below hw2)
 have HGl:Hid (x.R.grp.length≤5∧∀ y∈x.R.grp,0≤y∧y≤1000000):=⟨hok.g.1,fun y hy=>by have:=hok.g.2 y hy;have:=hok.n7;omega⟩
 have HOl:Hid (x.R.old.length≤5∧∀ y∈x.R.old,0≤y∧y≤1000000):=⟨hok.o.1,fun y hy=>by have:=hok.o.2 y hy;have:=hok.n7;omega⟩
 have HEn:Hid (∀ (k:Nat) (hk:k<x.R.log.length),2≤x.R.log[k].2.2.size∧x.R.log[k].2.2.size≤10):=fun k hk=>by
  have:=hok.le _ (List.getElem_mem hk)
  exact⟨(uq this.2.2.2.2.1).sz.s2,this.2.2.2.2.2⟩
 have hep:=hok.ep;have hlg:=hok.lg;have HE0:Hid (∀ w2,Below w.heap.size w w2→BK w w2 (Zr (Y O 0 0))):=fun w2 hw2=>⟨_,[],rfl,World.ownsRow_nil _ _ _ _,by simp,by simp,hw2⟩
 have HTz:Hid (∀ l:List Int,l.length≤5→(∀ y∈l,0≤y∧y≤1000000)→(txt l).size≤1000):=fun l hl hb=>by
  have:=EC l (fun y hy=>by have:=(hb y hy).2;omega)
  omega
 clear h hi z hok hx HWh HN HC1 hxe;go_enter Tryz.func64,Tryz.ntmps64;go_wp2_with fail;refine HQ.out.mono ?_;rintro e w1 ⟨rfl,nn,hw1⟩;have hb1:Below w.heap.size w w1:=by rw[hw1];exact below_drewN (Below.refl _ _) nn
 clear hw1 c2 d1 HQ;have HE1:=ah (HE0.out _ hb1);have c3:=HC3.out _ hb1;obtain⟨b2,o2,rfl,_,d2⟩:=HD.out _ hb1 q hqd
 generalize K.down[q]=dq at *;cases dq
 ·by_cases s3:x.R.status=3
  ·have s3':(x.R.status==3)=true:=beq_iff_eq.2 s3
   clear s3;go_wp2_with fail;go_ret;exact HE1.out
  ·have s3':(x.R.status==3)=false:=beq_eq_false_iff_ne.2 s3
   clear s3;have HGr:=ah (Aa (HR.out _ hb1) (by have:=HGl.out.1;omega))
   go_wp2_with fail;refine HGr.out.mono ?_;rintro e w2 ⟨vg,rfl,hown2,hb2⟩;have hb2':=hb1.trans (hb2.mono hb1.size)
   have HTx:=ah (tZ vg x.R.grp w2 (Rd.bK hown2) (by have:=HGl.out.1;omega) HGl.out.2)
   obtain⟨a2,c2,rfl⟩:=au hown2
   clear hown2 c3 d2;go_wp2_with fail;refine HTx.out.mono ?_;rintro e w3 ⟨rfl,hb3⟩;have w3x:=hb2'.trans (hb3.mono hb2'.size);have ht1:=HTz.out x.R.grp HGl.out.1 HGl.out.2;generalize txt x.R.grp=t1 at *;have HOw:Hid (w3.ownsRow w.heap.size 9 1 (Y O 0 0) 0 []):=World.ownsRow_nil _ _ _ _
   clear hb2 hb3 hb2' HTx HGr;go_wp2_with (at_builtin;refine BO rfl _ _ 48 rfl w.heap.size 9 i0 (Z Ze) 1 16 Tryz.underlying48 hi0 hz0 hz1 hz2 rfl (by decide) (w3.alloc (.cells #[Z t1] 9)) _ 0 [] (by rfl) (ql HOw.out _) (Y (some ⟨w3.heap.size,0,O⟩) 1 1) 1 [Z t1] (by rfl) (Bf _ _ _) (one1 _) (by unfold maxLen;omega) (by omega) (by have:=w3x.size;simp;omega) ?_)
   intro v4 w4 hown4 hg4 hb4;have w4x:Below w.heap.size w w4:=(w3x.alloc w3x.size _).trans hb4
   have hown4:=qC (l:=[]) hown4 rfl;obtain⟨a4,c4,rfl⟩:=au hown4
   clear hg4 hb4 HOw;have HLs:Hid (∀ s∈([]++[t1]:List ByteArray),s.size≤1000):=fun s hs=>by simp at hs;subst hs;exact ht1
   generalize hl4:([]++[t1]:List ByteArray)=l4 at *;have hl41:l4.length≤1:=by rw[← hl4];simp
   clear hl4;by_cases s5:x.R.status=5
   ·have s5':(x.R.status==5)=true:=beq_iff_eq.2 s5
    clear s5;have HGr:=ah (JY (HR.out _ w4x) (by have:=HOl.out.1;omega))
    have HOw:=ah hown4;clear hown4;go_wp2_with fail;refine HGr.out.mono ?_;rintro e w5 ⟨vo,rfl,hown5,hb5⟩;have w5x:=w4x.trans (hb5.mono w4x.size);have HTx:=ah (tZ vo x.R.old w5 (Rd.bK hown5) (by have:=HOl.out.1;omega) HOl.out.2)
    obtain⟨a5,c5,rfl⟩:=au hown5
    have HOw:=ah (bH HOw.out hb5);clear hown5;go_wp2_with fail;refine HTx.out.mono ?_;rintro e w6 ⟨rfl,hb6⟩;have w6x:=w5x.trans (hb6.mono w5x.size);have HOw:=ah (bH HOw.out hb6);have ht2:=HTz.out x.R.old HOl.out.1 HOl.out.2;generalize txt x.R.old=t2 at *;clear hb5 hb6 HTx HGr w5x w4x;go_wp2_with (at_builtin;refine BO rfl _ _ 48 rfl w.heap.size 9 i0 (Z Ze) 1 16 Tryz.underlying48 hi0 hz0 hz1 hz2 rfl (by decide) (w6.alloc (.cells #[Z t2] 9)) _ l4.length (l4.map Value.string) (by rfl) (ql HOw.out _) (Y (some ⟨w6.heap.size,0,O⟩) 1 1) 1 [Z t2] (by rfl) (Bf _ _ _) (one1 _) (by unfold maxLen;omega) (by omega) (by have:=w6x.size;simp;omega) ?_)
    intro v7 w7 hown7 hg7 hb7;have w7x:Below w.heap.size w w7:=(w6x.alloc w6x.size _).trans hb7
    have hown7:=qC hown7 rfl;obtain⟨a7,c7,rfl⟩:=au hown7
    clear hg7 hb7 HOw;have HLs:Hid (∀ s∈(l4++[t2]:List ByteArray),s.size≤1000):=fun s hs=>by
     rcases List.mem_append.1 hs with p|p
     ·exact HLs.out s p
     ·simp at p;subst p;exact ht2
    generalize hl7:l4++[t2]=l7 at *;have hl72:l7.length≤2:=by rw[← hl7];simp;omega
    clear hl7;have HLg:=ah (qy (HR.out _ w7x) (by omega))
    have HOw:=ah hown7;clear hown7;go_wp2_with fail;refine HLg.out.mono ?_;rintro e w8 ⟨vL,rfl,hown8,hb8⟩;have w8x:=w7x.trans (hb8.mono w7x.size);have HOw:=ah (bH HOw.out hb8);have HLo:=ah (dO hown8 (Nat.zero_le _));obtain⟨aL,cL,rfl⟩:=au hown8
    clear hown8 HLg;go_wp2_with fail;go_loopw [10,15,16] (fun ov m i wr=>∃ (k c:Nat) (l:List ByteArray),k≤x.R.log.length∧c≤k∧i=I J k∧m=I J c∧wr.ownsRow w.heap.size 9 1 ov l.length (l.map Value.string)∧(∀ s∈l,s.size≤1000)∧l.length≤2+k∧wr.ownsRow 0 66 3 (Y aL x.R.log.length cL) x.R.log.length (aA x.R.log)∧Below w.heap.size w wr) (fun _ _ i _=>x.R.log.length-(intOf i).toNat)
    case atStart=>exact⟨0,0,l7,Nat.zero_le _,Nat.le_refl _,rfl,rfl,HOw.out,HLs.out,by omega,HLo.out,w8x⟩
    case round =>
     obtain⟨k,c,l,hk,hck,rfl,rfl,hO,hS,hll,hL,wrx⟩:=hrel
     obtain⟨aO,cO,rfl⟩:=au hO
     have HOw:=ah hO;have HLo:=ah hL;have HLs:=ah hS;clear hO hL hS;by_cases hlt:k<x.R.log.length
     ·have hEl:gu wr (Y aL x.R.log.length cL) x.R.log:=Rd.bK HLo.out
      obtain⟨be,oe,rfl,_,f1,f2,f3⟩:=hEl.get k hlt
      clear hEl;have j4:(0:Int)≤(k:Int):=by omega
      have j5:(k:Int)<(x.R.log.length:Int):=by omega
      obtain⟨s2,s10⟩:=HEn.out k hlt
      generalize x.R.log[k].2.2=op at *;have j6:(0:Int)<(op.size:Int):=by omega
      have j7:(1:Int)≤(op.size:Int):=by omega
      by_cases hr:(op[0].toNat:Int)=114
      ·have hr':((op[0].toNat:Int)==114)=true:=beq_iff_eq.2 hr
       clear hr;by_cases hgt:x.R.epoch<(c:Int)+1
       ·go_wp2_with (at_builtin;refine BO rfl _ _ 48 rfl w.heap.size 9 i0 (Z Ze) 1 16 Tryz.underlying48 hi0 hz0 hz1 hz2 rfl (by decide) (wr.alloc (.cells #[Z (op.extract 1 op.size)] 9)) _ l.length (l.map Value.string) (by rfl) (ql HOw.out _) (Y (some ⟨wr.heap.size,0,O⟩) 1 1) 1 [Z (op.extract 1 op.size)] (by rfl) (Bf _ _ _) (one1 _) (by unfold maxLen;omega) (by omega) (by have:=wrx.size;simp;omega) ?_)
        intro v9 w9 hown9 hg9 hb9;have w9x:Below w.heap.size w w9:=(wrx.alloc wrx.size _).trans hb9
        have hown9:=qC hown9 rfl;have HLo9:Hid (w9.ownsRow 0 66 3 (Y (some ⟨be,oe,O⟩) x.R.log.length cL) x.R.log.length (aA x.R.log)):=dV (ql HLo.out _) (Kp.row hg9) (fun y hy hc=>EZ HLo.out HOw.out (by decide) y hy (by simpa using hc))
        have HO9:=ah hown9;have HLs9:Hid (∀ s∈l++[op.extract 1 op.size],s.size≤1000):=fun s hs=>by
         rcases List.mem_append.1 hs with p|p
         ·exact HLs.out s p
         ·simp at p;subst p;simp;omega
        obtain⟨a9,c9,rfl⟩:=au hown9
        clear hown9 hg9 hb9;go_wp2_with fail;go_roundw
        case rel=>exact⟨k+1,c+1,_,by omega,by omega,by go_num,by go_num,HO9.out,HLs9.out,by simp;omega,HLo9.out,w9x⟩
        case measure=>simp[intOf];omega
       ·go_wp2_with fail;go_roundw
        case rel=>exact⟨k+1,c+1,l,by omega,by omega,by go_num,by go_num,HOw.out,HLs.out,by omega,HLo.out,wrx⟩
        case measure=>simp[intOf];omega
      ·have hr':((op[0].toNat:Int)==114)=false:=beq_eq_false_iff_ne.2 hr
       clear hr;go_wp2_with fail;go_roundw
       case rel=>exact⟨k+1,c,l,by omega,by omega,by go_num,rfl,HOw.out,HLs.out,by omega,HLo.out,wrx⟩
       case measure=>simp[intOf];omega
     ·have HF:Hid (BK w wr (Zr (Y aO l.length cO))):=⟨_,l,rfl,HOw.out,HLs.out,by omega,wrx⟩
      go_wp2_with fail;go_ret;exact HF.out
   ·have s5':(x.R.status==5)=false:=beq_eq_false_iff_ne.2 s5
    clear s5;obtain⟨w7,l7,a7,c7,hown7,w7x,HLs7,hl72,e1,e2,e3,e4⟩:∃ w7 l7 a7 c7,w7.ownsRow w.heap.size 9 1 (Y a7 l7.length c7) l7.length (l7.map Value.string)∧Below w.heap.size w w7∧Hid (∀ s∈l7,s.size≤1000)∧l7.length≤2∧w7=w4∧l7=l4∧a7=a4∧c7=c4:=⟨w4,l4,a4,c4,hown4,w4x,HLs,by omega,rfl,rfl,rfl,rfl⟩
    subst e1 e2 e3 e4;have HLs:=HLs7;clear HLs7;have HLg:=ah (qy (HR.out _ w7x) (by omega))
    have HOw:=ah hown7;clear hown7;go_wp2_with fail;refine HLg.out.mono ?_;rintro e w8 ⟨vL,rfl,hown8,hb8⟩;have w8x:=w7x.trans (hb8.mono w7x.size);have HOw:=ah (bH HOw.out hb8);have HLo:=ah (dO hown8 (Nat.zero_le _));obtain⟨aL,cL,rfl⟩:=au hown8
    clear hown8 HLg;go_wp2_with fail;go_loopw [10,15,16] (fun ov m i wr=>∃ (k c:Nat) (l:List ByteArray),k≤x.R.log.length∧c≤k∧i=I J k∧m=I J c∧wr.ownsRow w.heap.size 9 1 ov l.length (l.map Value.string)∧(∀ s∈l,s.size≤1000)∧l.length≤2+k∧wr.ownsRow 0 66 3 (Y aL x.R.log.length cL) x.R.log.length (aA x.R.log)∧Below w.heap.size w wr) (fun _ _ i _=>x.R.log.length-(intOf i).toNat)
    case atStart=>exact⟨0,0,l7,Nat.zero_le _,Nat.le_refl _,rfl,rfl,HOw.out,HLs.out,by omega,HLo.out,w8x⟩
    case round =>
     obtain⟨k,c,l,hk,hck,rfl,rfl,hO,hS,hll,hL,wrx⟩:=hrel
     obtain⟨aO,cO,rfl⟩:=au hO
     have HOw:=ah hO;have HLo:=ah hL;have HLs:=ah hS;clear hO hL hS;by_cases hlt:k<x.R.log.length
     ·have hEl:gu wr (Y aL x.R.log.length cL) x.R.log:=Rd.bK HLo.out
      obtain⟨be,oe,rfl,_,f1,f2,f3⟩:=hEl.get k hlt
      clear hEl;have j4:(0:Int)≤(k:Int):=by omega
      have j5:(k:Int)<(x.R.log.length:Int):=by omega
      obtain⟨s2,s10⟩:=HEn.out k hlt
      generalize x.R.log[k].2.2=op at *;have j6:(0:Int)<(op.size:Int):=by omega
      have j7:(1:Int)≤(op.size:Int):=by omega
      by_cases hr:(op[0].toNat:Int)=114
      ·have hr':((op[0].toNat:Int)==114)=true:=beq_iff_eq.2 hr
       clear hr;by_cases hgt:x.R.epoch<(c:Int)+1
       ·go_wp2_with (at_builtin;refine BO rfl _ _ 48 rfl w.heap.size 9 i0 (Z Ze) 1 16 Tryz.underlying48 hi0 hz0 hz1 hz2 rfl (by decide) (wr.alloc (.cells #[Z (op.extract 1 op.size)] 9)) _ l.length (l.map Value.string) (by rfl) (ql HOw.out _) (Y (some ⟨wr.heap.size,0,O⟩) 1 1) 1 [Z (op.extract 1 op.size)] (by rfl) (Bf _ _ _) (one1 _) (by unfold maxLen;omega) (by omega) (by have:=wrx.size;simp;omega) ?_)
        intro v9 w9 hown9 hg9 hb9;have w9x:Below w.heap.size w w9:=(wrx.alloc wrx.size _).trans hb9
        have hown9:=qC hown9 rfl;have HLo9:Hid (w9.ownsRow 0 66 3 (Y (some ⟨be,oe,O⟩) x.R.log.length cL) x.R.log.length (aA x.R.log)):=dV (ql HLo.out _) (Kp.row hg9) (fun y hy hc=>EZ HLo.out HOw.out (by decide) y hy (by simpa using hc))
        have HO9:=ah hown9;have HLs9:Hid (∀ s∈l++[op.extract 1 op.size],s.size≤1000):=fun s hs=>by
         rcases List.mem_append.1 hs with p|p
         ·exact HLs.out s p
         ·simp at p;subst p;simp;omega
        obtain⟨a9,c9,rfl⟩:=au hown9
        clear hown9 hg9 hb9;go_wp2_with fail;go_roundw
        case rel=>exact⟨k+1,c+1,_,by omega,by omega,by go_num,by go_num,HO9.out,HLs9.out,by simp;omega,HLo9.out,w9x⟩
        case measure=>simp[intOf];omega
       ·go_wp2_with fail;go_roundw
        case rel=>exact⟨k+1,c+1,l,by omega,by omega,by go_num,by go_num,HOw.out,HLs.out,by omega,HLo.out,wrx⟩
        case measure=>simp[intOf];omega
      ·have hr':((op[0].toNat:Int)==114)=false:=beq_eq_false_iff_ne.2 hr
       clear hr;go_wp2_with fail;go_roundw
       case rel=>exact⟨k+1,c,l,by omega,by omega,by go_num,rfl,HOw.out,HLs.out,by omega,HLo.out,wrx⟩
       case measure=>simp[intOf];omega
     ·have HF:Hid (BK w wr (Zr (Y aO l.length cO))):=⟨_,l,rfl,HOw.out,HLs.out,by omega,wrx⟩
      go_wp2_with fail;go_ret;exact HF.out
 ·go_wp2_with fail;go_ret;exact HE1.out
end
theorem Tryz.infoPt:(Tryz.prog.info? 29).map (fun i=>(i.zero,i.size,i.bytes))=some (some (Zp O),1,8):=by kernel_rfl
theorem Tryz.infoBo:(Tryz.prog.info? 4).map (fun i=>(i.zero,i.size,i.bytes))=some (some (.bool false),1,1):=by kernel_rfl
section
variable {N:Nat} {w w':World} {g:Nat} {K K':Kw} {V V':Kv}
def ClP (N:Nat) (w w':World) (n:Int) (e:Ending):Prop:=∃ g K V,e=Zr (Zp (some ⟨g,0,O⟩))∧KAt N w' g K V∧KI K∧Gr K∧K.n=n∧dA K≤208000000000∧Below w.heap.size w w'
theorem sJ (n:Nat) (s:ByteArray) (w:World) (hT:Tab w) (hN:0<N) (hNw:N≤w.heap.size) (hn3:3≤n) (hn7:n≤7) (hs:s.size≤1000000) :
  Calls Tryz.prog 12 #[I J n,Z s] w fun e w'=>ClP N w w' n e:=by
 obtain⟨iS0,hiS,ziS0,ziS1,ziS2⟩:=info_parts Tryz.infoStr
 obtain⟨iP0,hiP,ziP0,ziP1,ziP2⟩:=info_parts Tryz.infoPt
 obtain⟨iB0,hiB,ziB0,ziB1,ziB2⟩:=info_parts Tryz.infoBo
 obtain⟨iI0,hiI,ziI0,ziI1,ziI2⟩:=info_parts Tryz.infoInt
 have hb0:Below w.heap.size w (w.alloc (.cells #[I J 0,I J (n:Int),Y O 0 0,Y O 0 0,Y O 0 0,I J 0,I J 0,Y O 0 0,Y O 0 0,Y O 0 0,Y O 0 0,Y O 0 0,I J 0] 50)):=(Below.refl _ w).alloc (Nat.le_refl _) _
 have HA0:Hid (KAt N (w.alloc (.cells #[I J 0,I J (n:Int),Y O 0 0,Y O 0 0,Y O 0 0,I J 0,I J 0,Y O 0 0,Y O 0 0,Y O 0 0,Y O 0 0,Y O 0 0,I J 0] 50)) w.heap.size (K0 n) V0):=KAt.fresh (n:=n) hT hN hNw
 have HBl:Hid (∀ {w2:World},Kp (gV w.heap.size (K0 n) V0) (w.alloc (.cells #[I J 0,I J (n:Int),Y O 0 0,Y O 0 0,Y O 0 0,I J 0,I J 0,Y O 0 0,Y O 0 0,Y O 0 0,Y O 0 0,Y O 0 0,I J 0] 50)) w2→Below w.heap.size w w2):=fun k=>p9 hb0 k (fun y hy=>by
  have e:gV w.heap.size (K0 n) V0=[w.heap.size]:=rfl
  rw[e] at hy;simp at hy;omega)
 have HTb:=ah (hT.below hb0);have h0w:0<(w.alloc (.cells #[I J 0,I J (n:Int),Y O 0 0,Y O 0 0,Y O 0 0,I J 0,I J 0,Y O 0 0,Y O 0 0,Y O 0 0,Y O 0 0,Y O 0 0,I J 0] 50)).heap.size:=by simp
 clear hT hb0;by_cases hg:aQ s.data.toList n=true
 ·have HNw:=ah (jX 0 n s _ HTb.out (by unfold maxLen;omega) ⟨by omega,by omega,by omega,by omega⟩ hg h0w)
  have HGG:Hid (aQ s.data.toList (n:Int)=true):=hg
  clear hg h0w HTb;go_enter Tryz.func12,Tryz.ntmps12;go_wp2_with fail;generalize w.alloc (.cells #[I J 0,I J (n:Int),Y O 0 0,Y O 0 0,Y O 0 0,I J 0,I J 0,Y O 0 0,Y O 0 0,Y O 0 0,Y O 0 0,Y O 0 0,I J 0] 50)=w1 at *;refine HNw.out.mono ?_;rintro e wB ⟨b1,bl1,W1,F1,V1,rfl,_,_,_,hbB⟩;obtain⟨KB,hKB⟩:∃ x,x=K0 (n:Int):=⟨_,rfl⟩
  obtain⟨VB,hVB⟩:∃ x,x=V0:=⟨_,rfl⟩
  have HSB:Hid (Kst N w1 wB w.heap.size (K0 n) V0 KB VB):=by rw[hKB,hVB];exact (Kst.refl HA0.out).below hbB
  have hKBg:KB.groups.length≤10:=by rw[hKB];simp[K0]
  have HKB:=ah hKB;clear hbB HNw hVB hKB;have h5:=HSB.out.at_;obtain⟨aR,cR,hvR⟩:=au h5.rG
  have hrow:=h5.rG;have cj:wB.cell? ⟨w.heap.size,11,O⟩=some VB.vG:=h5.cell 11
  have fj:=h5.free 11;have hne:some w.heap.size≠VB.vG.ownBlock:=h5.gne (i:=7) rfl
  rw[hvR] at hrow cj hne;have hlb:w.heap.size<wB.heap.size:=h5.lb
  clear h5;go_upto_region 6 with (at_builtin;refine wpList_append_lies (w:=wB.alloc (.cells #[Z s] 9)) (by rfl) (.tmp 27) (.tmp 29) 48 (by rfl) 0 9 iS0 (Z Ze) 1 16 Tryz.underlying48 hiS ziS0 ziS1 ziS2 rfl (by decide) (Y aR KB.groups.length cR) KB.groups.length (KB.groups.map Value.string) (by rfl) (hrow.alloc _) ⟨wB.heap.size,0,O⟩ 1 1 [Z s] (by rfl) (by rfl) (World.news_of_block (heap_alloc_new wB (.cells #[Z s] 9))) (by intro u hu;simp at hu;subst hu;rfl) (by decide) (by unfold maxLen;omega) (by omega) (Nat.zero_le _) (wB.heap.size+1) (by simp) ?_;intro g4 cap4 w4 hown4 hg4 hat4 hlt4;have hb2:Below wB.heap.size wB (wB.alloc (.cells #[Z s] 9)):=(Below.refl _ wB).alloc (Nat.le_refl _) _;have t4:w4.cell? ⟨w.heap.size,11,O⟩=some (Y aR KB.groups.length cR):=(hg4.cell_far ⟨w.heap.size,11,O⟩ (by simp;omega) hne).trans ((hb2.cell (p:=⟨w.heap.size,11,O⟩) hlb).trans cj);have f4:w4.frozen? ⟨w.heap.size,11,O⟩=false:=(hg4.frozen_far ⟨w.heap.size,11,O⟩ (by simp;omega) hne).trans ((hb2.frozen (p:=⟨w.heap.size,11,O⟩) hlb).trans fj))
  have ho4:w4.ownsRow 0 9 1 (Y (some ⟨g4,0,O⟩) (KB.groups.length+1) cap4) (KB.groups++[s]).length ((KB.groups++[s]).map Value.string):=by
   rw[show (KB.groups++[s]).length=KB.groups.length+1 by simp,List.map_append];exact hown4
  have HSC:=ah (HSB.out.trans (HSB.out.at_.newRow (V':={ VB with vG:=Y (some ⟨g4,0,O⟩) (KB.groups.length+1) cap4 }) (K':={ KB with groups:=KB.groups++[s] }) (i:=7) (w1:=w4) (r:=⟨9,1,VB.vG,KB.groups.length,KB.groups.map Value.string⟩) (r':=⟨9,1,Y (some ⟨g4,0,O⟩) (KB.groups.length+1) cap4,(KB.groups++[s]).length,(KB.groups++[s]).map Value.string⟩) rfl
   ((Kp.of_below hb2).trans' (by rw[hvR];exact Kp.row hg4)) ho4 (fun u hu=>by
    simp[Value.ownBlock] at hu;subst hu
    show VB.vG.ownBlock=_∨_
    rw[hvR];exact hat4.imp (fun q=>q) (fun q=>by omega)) 11 rfl rfl rfl))
  clear hown4 hg4 hat4 hlt4 ho4;clear t4 f4 hrow cj fj hne hlb hb2;generalize w4.setCell ⟨w.heap.size,11,O⟩ (Y (some ⟨g4,0,O⟩) (KB.groups.length+1) cap4)=wC at *;generalize hVx:({ VB with vG:=Y (some ⟨g4,0,O⟩) (KB.groups.length+1) cap4 }:Kv)=VC at *
  generalize hKx:({ KB with groups:=KB.groups++[s] }:Kw)=KC at *
  have HCl:Hid (Cl n 0 0 s KC):=by
   rw[← hKx,HKB.out];exact⟨rfl,rfl,rfl,rfl,rfl,rfl,rfl,rfl,rfl,rfl,rfl,by simp[K0]⟩
  clear hKx hVx;go_wp2_with fail;go_loopw [8] (fun i wr=>∃ (k:Nat) (K':Kw) (V':Kv),k≤n∧i=I J k∧Kst N w1 wr w.heap.size (K0 n) V0 K' V'∧Cl n k 0 s K') (fun i _=>n-(intOf i).toNat)
  case atStart=>exact⟨0,KC,VC,Nat.zero_le _,rfl,HSC.out,HCl.out⟩
  case round =>
   obtain⟨k,KD,VD,hk,rfl,kD,cD⟩:=hrel
   have HSD:=ah kD;have HCD:=ah cD;have hnl:KD.nds.length≤7:=by rw[cD.nl];omega
   have hdl:KD.down.length≤7:=by rw[cD.dl];omega
   have hbl:KD.begun.length≤7:=by rw[cD.bl];omega
   clear kD cD;by_cases hlt:k<n
   ·have j1:(k:Int)<(n:Int):=by omega
    have HNw:=ah (jX k n s wr HSD.out.at_.tab (by unfold maxLen;omega) ⟨by omega,by omega,by omega,by omega⟩ HGG.out (by have:=HSD.out.at_.Nlt;omega))
    have HOk:=ah (Bd (id:=k) (n:=n) (s:=s) ⟨by omega,by omega,by omega,by omega⟩ HGG.out)
    go_wp2_with fail;refine HNw.out.mono ?_;rintro e wE ⟨bE,blE,WE,FE,VE,rfl,hRE,hvE,hFE,hbE⟩;have HRE:=ah hRE;have HvE:=ah hvE;have HFE:=ah hFE;clear hRE hvE hFE;obtain⟨X,hX⟩:∃ X:Nod,X=⟨bE,blE,WE,FE,Rp.new k n (dW s),VE⟩:=⟨_,rfl⟩
    have HXn:Hid (ku X=Zp (some ⟨bE,0,O⟩)):=by rw[hX];trivial
    have HXR:Hid (ay wE X.b X.bl X.W X.F X.R X.V∧(∀ y∈X.F,wr.heap.size≤y)):=by rw[hX];exact⟨HRE.out,HFE.out⟩
    have HXi:Hid (NI n k X∧X.R.epoch=0):=by
     rw[hX];refine⟨⟨HOk.out,rfl,fun h3=>?_,rfl,HvE.out,rfl,rfl⟩,rfl⟩
     exfalso
     have h3:(if lN (dW s) k=true then (1:Int) else 4)=3:=h3
     split at h3 <;> omega
    have HSE:Hid (Kst N w1 wE w.heap.size (K0 n) V0 KD VD):=HSD.out.below hbE
    clear hX HRE HvE HFE HOk;have h5:=HSE.out.at_;obtain⟨aR,cR,hvR⟩:=au h5.rN
    have hrow:=h5.rN;have cj:wE.cell? ⟨w.heap.size,2,O⟩=some VD.vN:=h5.cell 2
    have fj:=h5.free 2;have hne:some w.heap.size≠VD.vN.ownBlock:=h5.gne (i:=0) rfl
    rw[hvR] at hrow cj hne;have hlb:w.heap.size<wE.heap.size:=h5.lb
    clear h5;go_upto_region 13 with (at_builtin;refine wpList_append_lies (w:=wE.alloc (.cells #[Zp (some ⟨bE,0,O⟩)] 29)) (by rfl) (.tmp 51) (.tmp 53) 42 (by rfl) 0 29 iP0 (Zp O) 1 8 Tryz.underlying42 hiP ziP0 ziP1 ziP2 rfl (by decide) (Y aR KD.nds.length cR) KD.nds.length (KD.nds.map ku) (by rfl) (hrow.alloc _) ⟨wE.heap.size,0,O⟩ 1 1 [Zp (some ⟨bE,0,O⟩)] (by rfl) (by rfl) (World.news_of_block (heap_alloc_new wE (.cells #[Zp (some ⟨bE,0,O⟩)] 29))) (by intro u hu;simp at hu;subst hu;rfl) (by decide) (by unfold maxLen;omega) (by omega) (Nat.zero_le _) (wE.heap.size+1) (by simp) ?_;intro g4 cap4 w4 hown4 hg4 hat4 hlt4;have hb2:Below wE.heap.size wE (wE.alloc (.cells #[Zp (some ⟨bE,0,O⟩)] 29)):=(Below.refl _ wE).alloc (Nat.le_refl _) _;have t4:w4.cell? ⟨w.heap.size,2,O⟩=some (Y aR KD.nds.length cR):=(hg4.cell_far ⟨w.heap.size,2,O⟩ (by simp;omega) hne).trans ((hb2.cell (p:=⟨w.heap.size,2,O⟩) hlb).trans cj);have f4:w4.frozen? ⟨w.heap.size,2,O⟩=false:=(hg4.frozen_far ⟨w.heap.size,2,O⟩ (by simp;omega) hne).trans ((hb2.frozen (p:=⟨w.heap.size,2,O⟩) hlb).trans fj))
    have ho4:w4.ownsRow 0 29 1 (Y (some ⟨g4,0,O⟩) (KD.nds.length+1) cap4) (KD.nds++[X]).length ((KD.nds++[X]).map ku):=by
     rw[show (KD.nds++[X]).length=KD.nds.length+1 by simp,List.map_append,List.map_cons,List.map_nil,HXn.out];exact hown4
    have HSF:Hid (Kst N w1 (w4.setCell ⟨w.heap.size,2,O⟩ (Y (some ⟨g4,0,O⟩) (KD.nds.length+1) cap4)) w.heap.size (K0 n) V0 { KD with nds:=KD.nds++[X] } { VD with vN:=Y (some ⟨g4,0,O⟩) (KD.nds.length+1) cap4 }) :=
     HSD.out.trans (HSD.out.at_.Hu (hbE.trans (hb2.mono hbE.size)) (HXR.out.1.below hb2) HXR.out.2 (by rw[hvR];exact Kp.row hg4) ho4 (fun u hu=>by
      simp[Value.ownBlock] at hu;subst hu;rw[hvR];exact hat4.imp (fun q=>q) (fun q=>by simp;omega)))
    clear hown4 hg4 hat4 hlt4 ho4 HSE;clear t4 f4 hrow cj fj hne hlb hb2;generalize w4.setCell ⟨w.heap.size,2,O⟩ (Y (some ⟨g4,0,O⟩) (KD.nds.length+1) cap4)=wF at *;generalize ({ VD with vN:=Y (some ⟨g4,0,O⟩) (KD.nds.length+1) cap4 }:Kv)=VF at *
    generalize hKF:({ KD with nds:=KD.nds++[X] }:Kw)=KF at *
    have hdF:KF.down.length≤7:=by rw[← hKF];exact hdl
    have h5:=HSF.out.at_;obtain⟨aR,cR,hvR⟩:=au h5.rD
    have hrow:=h5.rD;have cj:wF.cell? ⟨w.heap.size,3,O⟩=some VF.vD:=h5.cell 3
    have fj:=h5.free 3;have hne:some w.heap.size≠VF.vD.ownBlock:=h5.gne (i:=1) rfl
    rw[hvR] at hrow cj hne;have hlb:w.heap.size<wF.heap.size:=h5.lb
    clear h5;go_upto_region 14 with (at_builtin;refine wpList_append_lies (w:=wF.alloc (.cells #[.bool false] 4)) (by rfl) (.tmp 61) (.tmp 62) 43 (by rfl) 0 4 iB0 (.bool false) 1 1 Tryz.underlying43 hiB ziB0 ziB1 ziB2 rfl (by decide) (Y aR KF.down.length cR) KF.down.length (KF.down.map Value.bool) (by rfl) (hrow.alloc _) ⟨wF.heap.size,0,O⟩ 1 1 [.bool false] (by rfl) (by rfl) (World.news_of_block (heap_alloc_new wF (.cells #[.bool false] 4))) (by intro u hu;simp at hu;subst hu;rfl) (by decide) (by unfold maxLen;omega) (by omega) (Nat.zero_le _) (wF.heap.size+1) (by simp) ?_;intro g4 cap4 w4 hown4 hg4 hat4 hlt4;have hb2:Below wF.heap.size wF (wF.alloc (.cells #[.bool false] 4)):=(Below.refl _ wF).alloc (Nat.le_refl _) _;have t4:w4.cell? ⟨w.heap.size,3,O⟩=some (Y aR KF.down.length cR):=(hg4.cell_far ⟨w.heap.size,3,O⟩ (by simp;omega) hne).trans ((hb2.cell (p:=⟨w.heap.size,3,O⟩) hlb).trans cj);have f4:w4.frozen? ⟨w.heap.size,3,O⟩=false:=(hg4.frozen_far ⟨w.heap.size,3,O⟩ (by simp;omega) hne).trans ((hb2.frozen (p:=⟨w.heap.size,3,O⟩) hlb).trans fj))
    have ho4:w4.ownsRow 0 4 1 (Y (some ⟨g4,0,O⟩) (KF.down.length+1) cap4) (KF.down++[false]).length ((KF.down++[false]).map Value.bool):=by
     rw[show (KF.down++[false]).length=KF.down.length+1 by simp,List.map_append];exact hown4
    have HSG:=ah (HSF.out.trans (HSF.out.at_.newRow (V':={ VF with vD:=Y (some ⟨g4,0,O⟩) (KF.down.length+1) cap4 }) (K':={ KF with down:=KF.down++[false] }) (i:=1) (w1:=w4) (r:=⟨4,1,VF.vD,KF.down.length,KF.down.map Value.bool⟩) (r':=⟨4,1,Y (some ⟨g4,0,O⟩) (KF.down.length+1) cap4,(KF.down++[false]).length,(KF.down++[false]).map Value.bool⟩) rfl
     ((Kp.of_below hb2).trans' (by rw[hvR];exact Kp.row hg4)) ho4 (fun u hu=>by
      simp[Value.ownBlock] at hu;subst hu
      show VF.vD.ownBlock=_∨_
      rw[hvR];exact hat4.imp (fun q=>q) (fun q=>by omega)) 3 rfl rfl rfl))
    clear hown4 hg4 hat4 hlt4 ho4;clear t4 f4 hrow cj fj hne hlb hb2;generalize w4.setCell ⟨w.heap.size,3,O⟩ (Y (some ⟨g4,0,O⟩) (KF.down.length+1) cap4)=wG at *;generalize hVx:({ VF with vD:=Y (some ⟨g4,0,O⟩) (KF.down.length+1) cap4 }:Kv)=VG at *
    generalize hKx:({ KF with down:=KF.down++[false] }:Kw)=KG at *
    have hbG:KG.begun.length≤7:=by rw[← hKx,← hKF];exact hbl
    have HKG:Hid (KG={ KF with down:=KF.down++[false] }):=hKx.symm
    clear hKx hVx;have h5:=HSG.out.at_;obtain⟨aR,cR,hvR⟩:=au h5.rB
    have hrow:=h5.rB;have cj:wG.cell? ⟨w.heap.size,4,O⟩=some VG.vB:=h5.cell 4
    have fj:=h5.free 4;have hne:some w.heap.size≠VG.vB.ownBlock:=h5.gne (i:=2) rfl
    rw[hvR] at hrow cj hne;have hlb:w.heap.size<wG.heap.size:=h5.lb
    clear h5;go_upto_region 8 with (at_builtin;refine wpList_append_lies (w:=wG.alloc (.cells #[I J (-1)] 3)) (by rfl) (.tmp 70) (.tmp 71) 44 (by rfl) 0 3 iI0 (I J 0) 1 8 Tryz.underlying44 hiI ziI0 ziI1 ziI2 rfl (by decide) (Y aR KG.begun.length cR) KG.begun.length (KG.begun.map (Value.int .i64)) (by rfl) (hrow.alloc _) ⟨wG.heap.size,0,O⟩ 1 1 [I J (-1)] (by rfl) (by rfl) (World.news_of_block (heap_alloc_new wG (.cells #[I J (-1)] 3))) (by intro u hu;simp at hu;subst hu;rfl) (by decide) (by unfold maxLen;omega) (by omega) (Nat.zero_le _) (wG.heap.size+1) (by simp) ?_;intro g4 cap4 w4 hown4 hg4 hat4 hlt4;have hb2:Below wG.heap.size wG (wG.alloc (.cells #[I J (-1)] 3)):=(Below.refl _ wG).alloc (Nat.le_refl _) _;have t4:w4.cell? ⟨w.heap.size,4,O⟩=some (Y aR KG.begun.length cR):=(hg4.cell_far ⟨w.heap.size,4,O⟩ (by simp;omega) hne).trans ((hb2.cell (p:=⟨w.heap.size,4,O⟩) hlb).trans cj);have f4:w4.frozen? ⟨w.heap.size,4,O⟩=false:=(hg4.frozen_far ⟨w.heap.size,4,O⟩ (by simp;omega) hne).trans ((hb2.frozen (p:=⟨w.heap.size,4,O⟩) hlb).trans fj))
    have ho4:w4.ownsRow 0 3 1 (Y (some ⟨g4,0,O⟩) (KG.begun.length+1) cap4) (KG.begun++[(-1:Int)]).length ((KG.begun++[(-1:Int)]).map (Value.int .i64)):=by
     rw[show (KG.begun++[(-1:Int)]).length=KG.begun.length+1 by simp,List.map_append];exact hown4
    have HSH:=ah (HSG.out.trans (HSG.out.at_.newRow (V':={ VG with vB:=Y (some ⟨g4,0,O⟩) (KG.begun.length+1) cap4 }) (K':={ KG with begun:=KG.begun++[(-1:Int)] }) (i:=2) (w1:=w4) (r:=⟨3,1,VG.vB,KG.begun.length,KG.begun.map (Value.int .i64)⟩) (r':=⟨3,1,Y (some ⟨g4,0,O⟩) (KG.begun.length+1) cap4,(KG.begun++[(-1:Int)]).length,(KG.begun++[(-1:Int)]).map (Value.int .i64)⟩) rfl
     ((Kp.of_below hb2).trans' (by rw[hvR];exact Kp.row hg4)) ho4 (fun u hu=>by
      simp[Value.ownBlock] at hu;subst hu
      show VG.vB.ownBlock=_∨_
      rw[hvR];exact hat4.imp (fun q=>q) (fun q=>by omega)) 4 rfl rfl rfl))
    clear hown4 hg4 hat4 hlt4 ho4;clear t4 f4 hrow cj fj hne hlb hb2;generalize w4.setCell ⟨w.heap.size,4,O⟩ (Y (some ⟨g4,0,O⟩) (KG.begun.length+1) cap4)=wH at *;generalize hVx:({ VG with vB:=Y (some ⟨g4,0,O⟩) (KG.begun.length+1) cap4 }:Kv)=VH at *
    generalize hKx:({ KG with begun:=KG.begun++[(-1:Int)] }:Kw)=KH at *
    have HCH:Hid (Cl n (k+1) 0 s KH):=by
     have c:=HCD.out;have hnk:=c.nl;rw[← hKx,HKG.out,← hKF];refine⟨c.part,c.n,by simp[c.nl],by simp[c.dl],by simp[c.bl],c.lv,c.net,c.ws,c.ol,c.ls,c.gs,fun q x hx=>?_⟩
     simp only at hx
     by_cases hq:q<KD.nds.length
     ·rw[List.getElem?_append_left hq] at hx;exact c.nod q x hx
     ·rw[List.getElem?_append_right (by omega)] at hx
      have hq0:q-KD.nds.length=0:=by
       have:=(List.getElem?_eq_some_iff.1 hx).1
       simp at this;omega
      rw[hq0] at hx;simp at hx;subst hx;have:q=k:=by omega
      subst this;exact HXi.out
    clear hKx hVx hKF;go_wp2_with fail;go_roundw
    case rel=>exact⟨k+1,KH,VH,by omega,by go_num,HSH.out,HCH.out⟩
    case measure=>simp[intOf];omega
   ·have j1:¬(k:Int)<(n:Int):=by omega
    obtain rfl:k=n:=by omega
    obtain⟨wL,HwL⟩:∃ x,x=wr:=⟨_,rfl⟩
    subst HwL;go_wp2_with fail;go_loopw [11] (fun i wr=>∃ (c:Nat) (K':Kw) (V':Kv),c≤10∧i=I J c∧Kst N w1 wr w.heap.size (K0 k) V0 K' V'∧Cl k k c s K') (fun i _=>10-(intOf i).toNat)
    case atStart=>exact⟨0,KD,VD,Nat.zero_le _,rfl,HSD.out,HCD.out⟩
    case round =>
     obtain⟨c,KI_,VI,hc,rfl,kI,cI⟩:=hrel
     have HSI:=ah kI;have HCI:=ah cI;have hol:KI_.opn.length≤10:=by rw[cI.ol];simp;omega
     clear kI cI;by_cases hlc:c<10
     ·have j2:(c:Int)≤9:=by omega
      have h5:=HSI.out.at_;obtain⟨aR,cR,hvR⟩:=au h5.rO
      have hrow:=h5.rO;have cj:wr.cell? ⟨w.heap.size,9,O⟩=some VI.vO:=h5.cell 9
      have fj:=h5.free 9;have hne:some w.heap.size≠VI.vO.ownBlock:=h5.gne (i:=5) rfl
      rw[hvR] at hrow cj hne;have hlb:w.heap.size<wr.heap.size:=h5.lb
      clear h5;go_upto_region 17 with (at_builtin;refine wpList_append_lies (w:=wr.alloc (.cells #[I J (-1)] 3)) (by rfl) (.tmp 83) (.tmp 84) 44 (by rfl) 0 3 iI0 (I J 0) 1 8 Tryz.underlying44 hiI ziI0 ziI1 ziI2 rfl (by decide) (Y aR KI_.opn.length cR) KI_.opn.length (KI_.opn.map (Value.int .i64)) (by rfl) (hrow.alloc _) ⟨wr.heap.size,0,O⟩ 1 1 [I J (-1)] (by rfl) (by rfl) (World.news_of_block (heap_alloc_new wr (.cells #[I J (-1)] 3))) (by intro u hu;simp at hu;subst hu;rfl) (by decide) (by unfold maxLen;omega) (by omega) (Nat.zero_le _) (wr.heap.size+1) (by simp) ?_;intro g4 cap4 w4 hown4 hg4 hat4 hlt4;have hb2:Below wr.heap.size wr (wr.alloc (.cells #[I J (-1)] 3)):=(Below.refl _ wr).alloc (Nat.le_refl _) _;have t4:w4.cell? ⟨w.heap.size,9,O⟩=some (Y aR KI_.opn.length cR):=(hg4.cell_far ⟨w.heap.size,9,O⟩ (by simp;omega) hne).trans ((hb2.cell (p:=⟨w.heap.size,9,O⟩) hlb).trans cj);have f4:w4.frozen? ⟨w.heap.size,9,O⟩=false:=(hg4.frozen_far ⟨w.heap.size,9,O⟩ (by simp;omega) hne).trans ((hb2.frozen (p:=⟨w.heap.size,9,O⟩) hlb).trans fj))
      have ho4:w4.ownsRow 0 3 1 (Y (some ⟨g4,0,O⟩) (KI_.opn.length+1) cap4) (KI_.opn++[(-1:Int)]).length ((KI_.opn++[(-1:Int)]).map (Value.int .i64)):=by
       rw[show (KI_.opn++[(-1:Int)]).length=KI_.opn.length+1 by simp,List.map_append];exact hown4
      have HSJ:=ah (HSI.out.trans (HSI.out.at_.newRow (V':={ VI with vO:=Y (some ⟨g4,0,O⟩) (KI_.opn.length+1) cap4 }) (K':={ KI_ with opn:=KI_.opn++[(-1:Int)] }) (i:=5) (w1:=w4) (r:=⟨3,1,VI.vO,KI_.opn.length,KI_.opn.map (Value.int .i64)⟩) (r':=⟨3,1,Y (some ⟨g4,0,O⟩) (KI_.opn.length+1) cap4,(KI_.opn++[(-1:Int)]).length,(KI_.opn++[(-1:Int)]).map (Value.int .i64)⟩) rfl
       ((Kp.of_below hb2).trans' (by rw[hvR];exact Kp.row hg4)) ho4 (fun u hu=>by
        simp[Value.ownBlock] at hu;subst hu
        show VI.vO.ownBlock=_∨_
        rw[hvR];exact hat4.imp (fun q=>q) (fun q=>by omega)) 9 rfl rfl rfl))
      clear hown4 hg4 hat4 hlt4 ho4;clear t4 f4 hrow cj fj hne hlb hb2;generalize w4.setCell ⟨w.heap.size,9,O⟩ (Y (some ⟨g4,0,O⟩) (KI_.opn.length+1) cap4)=wJ at *;generalize hVx:({ VI with vO:=Y (some ⟨g4,0,O⟩) (KI_.opn.length+1) cap4 }:Kv)=VJ at *
      generalize hKx:({ KI_ with opn:=KI_.opn++[(-1:Int)] }:Kw)=KJ at *
      have HCJ:Hid (Cl k k (c+1) s KJ):=by
       have d:=HCI.out;rw[← hKx];exact⟨d.part,d.n,d.nl,d.dl,d.bl,d.lv,d.net,d.ws,by simp only[d.ol];rw[List.replicate_succ'],d.ls,d.gs,d.nod⟩
      clear hKx hVx;go_wp2_with fail;go_roundw
      case rel=>exact⟨c+1,KJ,VJ,by omega,by go_num,HSJ.out,HCJ.out⟩
      case measure=>simp[intOf];omega
     ·have j2:¬(c:Int)≤9:=by omega
      obtain rfl:c=10:=by omega
      have hki:=HCI.out.ki ⟨by omega,by omega⟩ rfl HGG.out
      have HF:Hid (ClP N w wr k (Zr (Zp (some ⟨w.heap.size,0,O⟩)))):=⟨w.heap.size,KI_,VI,rfl,HSI.out.at_,hki.1,hki.2.1,HCI.out.n,hki.2.2,HBl.out HSI.out.kp⟩
      clear hki;go_wp2_with fail;go_ret;exact HF.out
 ·have hg:aQ s.data.toList n=false:=by simpa using hg
  have HNw:=ah (Et 0 n s (w.alloc (.cells #[I J 0,I J (n:Int),Y O 0 0,Y O 0 0,Y O 0 0,I J 0,I J 0,Y O 0 0,Y O 0 0,Y O 0 0,Y O 0 0,Y O 0 0,I J 0] 50)) (by unfold maxLen;omega) ⟨by omega,by omega,by omega,by omega⟩ hg)
  have HGG:Hid (aQ (⟨#[48,49,50]⟩:ByteArray).data.toList (n:Int)=true):=by
   have:n=3∨n=4∨n=5∨n=6∨n=7:=by omega
   show aQ _ _=true
   rcases this with rfl|rfl|rfl|rfl|rfl <;> decide
  have hGs:(⟨#[48,49,50]⟩:ByteArray).size≤1000000:=by decide
  clear hg h0w HTb;go_enter Tryz.func12,Tryz.ntmps12;go_wp2_with fail;generalize w.alloc (.cells #[I J 0,I J (n:Int),Y O 0 0,Y O 0 0,Y O 0 0,I J 0,I J 0,Y O 0 0,Y O 0 0,Y O 0 0,Y O 0 0,Y O 0 0,I J 0] 50)=w1 at *;refine HNw.out.mono ?_;rintro e wB ⟨rfl,hbB⟩;obtain⟨KB,hKB⟩:∃ x,x=K0 (n:Int):=⟨_,rfl⟩
  obtain⟨VB,hVB⟩:∃ x,x=V0:=⟨_,rfl⟩
  have HSB:Hid (Kst N w1 wB w.heap.size (K0 n) V0 KB VB):=by rw[hKB,hVB];exact (Kst.refl HA0.out).below hbB
  have hKBg:KB.groups.length≤10:=by rw[hKB];simp[K0]
  have HKB:=ah hKB;clear hbB HNw hVB hKB;go_upto_region 5 with fail
  generalize hGGe:(⟨#[48,49,50]⟩:ByteArray)=GG at *;have HGG:Hid (aQ GG.data.toList (n:Int)=true):=by rw[← hGGe];exact HGG.out
  clear hGGe;have h5:=HSB.out.at_;obtain⟨aR,cR,hvR⟩:=au h5.rG
  have hrow:=h5.rG;have cj:wB.cell? ⟨w.heap.size,11,O⟩=some VB.vG:=h5.cell 11
  have fj:=h5.free 11;have hne:some w.heap.size≠VB.vG.ownBlock:=h5.gne (i:=7) rfl
  rw[hvR] at hrow cj hne;have hlb:w.heap.size<wB.heap.size:=h5.lb
  clear h5;go_upto_region 6 with (at_builtin;refine wpList_append_lies (w:=wB.alloc (.cells #[Z GG] 9)) (by rfl) (.tmp 27) (.tmp 29) 48 (by rfl) 0 9 iS0 (Z Ze) 1 16 Tryz.underlying48 hiS ziS0 ziS1 ziS2 rfl (by decide) (Y aR KB.groups.length cR) KB.groups.length (KB.groups.map Value.string) (by rfl) (hrow.alloc _) ⟨wB.heap.size,0,O⟩ 1 1 [Z GG] (by rfl) (by rfl) (World.news_of_block (heap_alloc_new wB (.cells #[Z GG] 9))) (by intro u hu;simp at hu;subst hu;rfl) (by decide) (by unfold maxLen;omega) (by omega) (Nat.zero_le _) (wB.heap.size+1) (by simp) ?_;intro g4 cap4 w4 hown4 hg4 hat4 hlt4;have hb2:Below wB.heap.size wB (wB.alloc (.cells #[Z GG] 9)):=(Below.refl _ wB).alloc (Nat.le_refl _) _;have t4:w4.cell? ⟨w.heap.size,11,O⟩=some (Y aR KB.groups.length cR):=(hg4.cell_far ⟨w.heap.size,11,O⟩ (by simp;omega) hne).trans ((hb2.cell (p:=⟨w.heap.size,11,O⟩) hlb).trans cj);have f4:w4.frozen? ⟨w.heap.size,11,O⟩=false:=(hg4.frozen_far ⟨w.heap.size,11,O⟩ (by simp;omega) hne).trans ((hb2.frozen (p:=⟨w.heap.size,11,O⟩) hlb).trans fj))
  have ho4:w4.ownsRow 0 9 1 (Y (some ⟨g4,0,O⟩) (KB.groups.length+1) cap4) (KB.groups++[GG]).length ((KB.groups++[GG]).map Value.string):=by
   rw[show (KB.groups++[GG]).length=KB.groups.length+1 by simp,List.map_append];exact hown4
  have HSC:=ah (HSB.out.trans (HSB.out.at_.newRow (V':={ VB with vG:=Y (some ⟨g4,0,O⟩) (KB.groups.length+1) cap4 }) (K':={ KB with groups:=KB.groups++[GG] }) (i:=7) (w1:=w4) (r:=⟨9,1,VB.vG,KB.groups.length,KB.groups.map Value.string⟩) (r':=⟨9,1,Y (some ⟨g4,0,O⟩) (KB.groups.length+1) cap4,(KB.groups++[GG]).length,(KB.groups++[GG]).map Value.string⟩) rfl
   ((Kp.of_below hb2).trans' (by rw[hvR];exact Kp.row hg4)) ho4 (fun u hu=>by
    simp[Value.ownBlock] at hu;subst hu
    show VB.vG.ownBlock=_∨_
    rw[hvR];exact hat4.imp (fun q=>q) (fun q=>by omega)) 11 rfl rfl rfl))
  clear hown4 hg4 hat4 hlt4 ho4;clear t4 f4 hrow cj fj hne hlb hb2;generalize w4.setCell ⟨w.heap.size,11,O⟩ (Y (some ⟨g4,0,O⟩) (KB.groups.length+1) cap4)=wC at *;generalize hVx:({ VB with vG:=Y (some ⟨g4,0,O⟩) (KB.groups.length+1) cap4 }:Kv)=VC at *
  generalize hKx:({ KB with groups:=KB.groups++[GG] }:Kw)=KC at *
  have HCl:Hid (Cl n 0 0 GG KC):=by
   rw[← hKx,HKB.out];exact⟨rfl,rfl,rfl,rfl,rfl,rfl,rfl,rfl,rfl,rfl,rfl,by simp[K0]⟩
  clear hKx hVx;go_wp2_with fail;go_loopw [8] (fun i wr=>∃ (k:Nat) (K':Kw) (V':Kv),k≤n∧i=I J k∧Kst N w1 wr w.heap.size (K0 n) V0 K' V'∧Cl n k 0 GG K') (fun i _=>n-(intOf i).toNat)
  case atStart=>exact⟨0,KC,VC,Nat.zero_le _,rfl,HSC.out,HCl.out⟩
  case round =>
   obtain⟨k,KD,VD,hk,rfl,kD,cD⟩:=hrel
   have HSD:=ah kD;have HCD:=ah cD;have hnl:KD.nds.length≤7:=by rw[cD.nl];omega
   have hdl:KD.down.length≤7:=by rw[cD.dl];omega
   have hbl:KD.begun.length≤7:=by rw[cD.bl];omega
   clear kD cD;by_cases hlt:k<n
   ·have j1:(k:Int)<(n:Int):=by omega
    have HNw:=ah (jX k n GG wr HSD.out.at_.tab (by unfold maxLen;omega) ⟨by omega,by omega,by omega,by omega⟩ HGG.out (by have:=HSD.out.at_.Nlt;omega))
    have HOk:=ah (Bd (id:=k) (n:=n) (s:=GG) ⟨by omega,by omega,by omega,by omega⟩ HGG.out)
    go_wp2_with fail;refine HNw.out.mono ?_;rintro e wE ⟨bE,blE,WE,FE,VE,rfl,hRE,hvE,hFE,hbE⟩;have HRE:=ah hRE;have HvE:=ah hvE;have HFE:=ah hFE;clear hRE hvE hFE;obtain⟨X,hX⟩:∃ X:Nod,X=⟨bE,blE,WE,FE,Rp.new k n (dW GG),VE⟩:=⟨_,rfl⟩
    have HXn:Hid (ku X=Zp (some ⟨bE,0,O⟩)):=by rw[hX];trivial
    have HXR:Hid (ay wE X.b X.bl X.W X.F X.R X.V∧(∀ y∈X.F,wr.heap.size≤y)):=by rw[hX];exact⟨HRE.out,HFE.out⟩
    have HXi:Hid (NI n k X∧X.R.epoch=0):=by
     rw[hX];refine⟨⟨HOk.out,rfl,fun h3=>?_,rfl,HvE.out,rfl,rfl⟩,rfl⟩
     exfalso
     have h3:(if lN (dW GG) k=true then (1:Int) else 4)=3:=h3
     split at h3 <;> omega
    have HSE:Hid (Kst N w1 wE w.heap.size (K0 n) V0 KD VD):=HSD.out.below hbE
    clear hX HRE HvE HFE HOk;have h5:=HSE.out.at_;obtain⟨aR,cR,hvR⟩:=au h5.rN
    have hrow:=h5.rN;have cj:wE.cell? ⟨w.heap.size,2,O⟩=some VD.vN:=h5.cell 2
    have fj:=h5.free 2;have hne:some w.heap.size≠VD.vN.ownBlock:=h5.gne (i:=0) rfl
    rw[hvR] at hrow cj hne;have hlb:w.heap.size<wE.heap.size:=h5.lb
    clear h5;go_upto_region 13 with (at_builtin;refine wpList_append_lies (w:=wE.alloc (.cells #[Zp (some ⟨bE,0,O⟩)] 29)) (by rfl) (.tmp 51) (.tmp 53) 42 (by rfl) 0 29 iP0 (Zp O) 1 8 Tryz.underlying42 hiP ziP0 ziP1 ziP2 rfl (by decide) (Y aR KD.nds.length cR) KD.nds.length (KD.nds.map ku) (by rfl) (hrow.alloc _) ⟨wE.heap.size,0,O⟩ 1 1 [Zp (some ⟨bE,0,O⟩)] (by rfl) (by rfl) (World.news_of_block (heap_alloc_new wE (.cells #[Zp (some ⟨bE,0,O⟩)] 29))) (by intro u hu;simp at hu;subst hu;rfl) (by decide) (by unfold maxLen;omega) (by omega) (Nat.zero_le _) (wE.heap.size+1) (by simp) ?_;intro g4 cap4 w4 hown4 hg4 hat4 hlt4;have hb2:Below wE.heap.size wE (wE.alloc (.cells #[Zp (some ⟨bE,0,O⟩)] 29)):=(Below.refl _ wE).alloc (Nat.le_refl _) _;have t4:w4.cell? ⟨w.heap.size,2,O⟩=some (Y aR KD.nds.length cR):=(hg4.cell_far ⟨w.heap.size,2,O⟩ (by simp;omega) hne).trans ((hb2.cell (p:=⟨w.heap.size,2,O⟩) hlb).trans cj);have f4:w4.frozen? ⟨w.heap.size,2,O⟩=false:=(hg4.frozen_far ⟨w.heap.size,2,O⟩ (by simp;omega) hne).trans ((hb2.frozen (p:=⟨w.heap.size,2,O⟩) hlb).trans fj))
    have ho4:w4.ownsRow 0 29 1 (Y (some ⟨g4,0,O⟩) (KD.nds.length+1) cap4) (KD.nds++[X]).length ((KD.nds++[X]).map ku):=by
     rw[show (KD.nds++[X]).length=KD.nds.length+1 by simp,List.map_append,List.map_cons,List.map_nil,HXn.out];exact hown4
    have HSF:Hid (Kst N w1 (w4.setCell ⟨w.heap.size,2,O⟩ (Y (some ⟨g4,0,O⟩) (KD.nds.length+1) cap4)) w.heap.size (K0 n) V0 { KD with nds:=KD.nds++[X] } { VD with vN:=Y (some ⟨g4,0,O⟩) (KD.nds.length+1) cap4 }) :=
     HSD.out.trans (HSD.out.at_.Hu (hbE.trans (hb2.mono hbE.size)) (HXR.out.1.below hb2) HXR.out.2 (by rw[hvR];exact Kp.row hg4) ho4 (fun u hu=>by
      simp[Value.ownBlock] at hu;subst hu;rw[hvR];exact hat4.imp (fun q=>q) (fun q=>by simp;omega)))
    clear hown4 hg4 hat4 hlt4 ho4 HSE;clear t4 f4 hrow cj fj hne hlb hb2;generalize w4.setCell ⟨w.heap.size,2,O⟩ (Y (some ⟨g4,0,O⟩) (KD.nds.length+1) cap4)=wF at *;generalize ({ VD with vN:=Y (some ⟨g4,0,O⟩) (KD.nds.length+1) cap4 }:Kv)=VF at *
    generalize hKF:({ KD with nds:=KD.nds++[X] }:Kw)=KF at *
    have hdF:KF.down.length≤7:=by rw[← hKF];exact hdl
    have h5:=HSF.out.at_;obtain⟨aR,cR,hvR⟩:=au h5.rD
    have hrow:=h5.rD;have cj:wF.cell? ⟨w.heap.size,3,O⟩=some VF.vD:=h5.cell 3
    have fj:=h5.free 3;have hne:some w.heap.size≠VF.vD.ownBlock:=h5.gne (i:=1) rfl
    rw[hvR] at hrow cj hne;have hlb:w.heap.size<wF.heap.size:=h5.lb
    clear h5;go_upto_region 14 with (at_builtin;refine wpList_append_lies (w:=wF.alloc (.cells #[.bool false] 4)) (by rfl) (.tmp 61) (.tmp 62) 43 (by rfl) 0 4 iB0 (.bool false) 1 1 Tryz.underlying43 hiB ziB0 ziB1 ziB2 rfl (by decide) (Y aR KF.down.length cR) KF.down.length (KF.down.map Value.bool) (by rfl) (hrow.alloc _) ⟨wF.heap.size,0,O⟩ 1 1 [.bool false] (by rfl) (by rfl) (World.news_of_block (heap_alloc_new wF (.cells #[.bool false] 4))) (by intro u hu;simp at hu;subst hu;rfl) (by decide) (by unfold maxLen;omega) (by omega) (Nat.zero_le _) (wF.heap.size+1) (by simp) ?_;intro g4 cap4 w4 hown4 hg4 hat4 hlt4;have hb2:Below wF.heap.size wF (wF.alloc (.cells #[.bool false] 4)):=(Below.refl _ wF).alloc (Nat.le_refl _) _;have t4:w4.cell? ⟨w.heap.size,3,O⟩=some (Y aR KF.down.length cR):=(hg4.cell_far ⟨w.heap.size,3,O⟩ (by simp;omega) hne).trans ((hb2.cell (p:=⟨w.heap.size,3,O⟩) hlb).trans cj);have f4:w4.frozen? ⟨w.heap.size,3,O⟩=false:=(hg4.frozen_far ⟨w.heap.size,3,O⟩ (by simp;omega) hne).trans ((hb2.frozen (p:=⟨w.heap.size,3,O⟩) hlb).trans fj))
    have ho4:w4.ownsRow 0 4 1 (Y (some ⟨g4,0,O⟩) (KF.down.length+1) cap4) (KF.down++[false]).length ((KF.down++[false]).map Value.bool):=by
     rw[show (KF.down++[false]).length=KF.down.length+1 by simp,List.map_append];exact hown4
    have HSG:=ah (HSF.out.trans (HSF.out.at_.newRow (V':={ VF with vD:=Y (some ⟨g4,0,O⟩) (KF.down.length+1) cap4 }) (K':={ KF with down:=KF.down++[false] }) (i:=1) (w1:=w4) (r:=⟨4,1,VF.vD,KF.down.length,KF.down.map Value.bool⟩) (r':=⟨4,1,Y (some ⟨g4,0,O⟩) (KF.down.length+1) cap4,(KF.down++[false]).length,(KF.down++[false]).map Value.bool⟩) rfl
     ((Kp.of_below hb2).trans' (by rw[hvR];exact Kp.row hg4)) ho4 (fun u hu=>by
      simp[Value.ownBlock] at hu;subst hu
      show VF.vD.ownBlock=_∨_
      rw[hvR];exact hat4.imp (fun q=>q) (fun q=>by omega)) 3 rfl rfl rfl))
    clear hown4 hg4 hat4 hlt4 ho4;clear t4 f4 hrow cj fj hne hlb hb2;generalize w4.setCell ⟨w.heap.size,3,O⟩ (Y (some ⟨g4,0,O⟩) (KF.down.length+1) cap4)=wG at *;generalize hVx:({ VF with vD:=Y (some ⟨g4,0,O⟩) (KF.down.length+1) cap4 }:Kv)=VG at *
    generalize hKx:({ KF with down:=KF.down++[false] }:Kw)=KG at *
    have hbG:KG.begun.length≤7:=by rw[← hKx,← hKF];exact hbl
    have HKG:Hid (KG={ KF with down:=KF.down++[false] }):=hKx.symm
    clear hKx hVx;have h5:=HSG.out.at_;obtain⟨aR,cR,hvR⟩:=au h5.rB
    have hrow:=h5.rB;have cj:wG.cell? ⟨w.heap.size,4,O⟩=some VG.vB:=h5.cell 4
    have fj:=h5.free 4;have hne:some w.heap.size≠VG.vB.ownBlock:=h5.gne (i:=2) rfl
    rw[hvR] at hrow cj hne;have hlb:w.heap.size<wG.heap.size:=h5.lb
    clear h5;go_upto_region 8 with (at_builtin;refine wpList_append_lies (w:=wG.alloc (.cells #[I J (-1)] 3)) (by rfl) (.tmp 70) (.tmp 71) 44 (by rfl) 0 3 iI0 (I J 0) 1 8 Tryz.underlying44 hiI ziI0 ziI1 ziI2 rfl (by decide) (Y aR KG.begun.length cR) KG.begun.length (KG.begun.map (Value.int .i64)) (by rfl) (hrow.alloc _) ⟨wG.heap.size,0,O⟩ 1 1 [I J (-1)] (by rfl) (by rfl) (World.news_of_block (heap_alloc_new wG (.cells #[I J (-1)] 3))) (by intro u hu;simp at hu;subst hu;rfl) (by decide) (by unfold maxLen;omega) (by omega) (Nat.zero_le _) (wG.heap.size+1) (by simp) ?_;intro g4 cap4 w4 hown4 hg4 hat4 hlt4;have hb2:Below wG.heap.size wG (wG.alloc (.cells #[I J (-1)] 3)):=(Below.refl _ wG).alloc (Nat.le_refl _) _;have t4:w4.cell? ⟨w.heap.size,4,O⟩=some (Y aR KG.begun.length cR):=(hg4.cell_far ⟨w.heap.size,4,O⟩ (by simp;omega) hne).trans ((hb2.cell (p:=⟨w.heap.size,4,O⟩) hlb).trans cj);have f4:w4.frozen? ⟨w.heap.size,4,O⟩=false:=(hg4.frozen_far ⟨w.heap.size,4,O⟩ (by simp;omega) hne).trans ((hb2.frozen (p:=⟨w.heap.size,4,O⟩) hlb).trans fj))
    have ho4:w4.ownsRow 0 3 1 (Y (some ⟨g4,0,O⟩) (KG.begun.length+1) cap4) (KG.begun++[(-1:Int)]).length ((KG.begun++[(-1:Int)]).map (Value.int .i64)):=by
     rw[show (KG.begun++[(-1:Int)]).length=KG.begun.length+1 by simp,List.map_append];exact hown4
    have HSH:=ah (HSG.out.trans (HSG.out.at_.newRow (V':={ VG with vB:=Y (some ⟨g4,0,O⟩) (KG.begun.length+1) cap4 }) (K':={ KG with begun:=KG.begun++[(-1:Int)] }) (i:=2) (w1:=w4) (r:=⟨3,1,VG.vB,KG.begun.length,KG.begun.map (Value.int .i64)⟩) (r':=⟨3,1,Y (some ⟨g4,0,O⟩) (KG.begun.length+1) cap4,(KG.begun++[(-1:Int)]).length,(KG.begun++[(-1:Int)]).map (Value.int .i64)⟩) rfl
     ((Kp.of_below hb2).trans' (by rw[hvR];exact Kp.row hg4)) ho4 (fun u hu=>by
      simp[Value.ownBlock] at hu;subst hu
      show VG.vB.ownBlock=_∨_
      rw[hvR];exact hat4.imp (fun q=>q) (fun q=>by omega)) 4 rfl rfl rfl))
    clear hown4 hg4 hat4 hlt4 ho4;clear t4 f4 hrow cj fj hne hlb hb2;generalize w4.setCell ⟨w.heap.size,4,O⟩ (Y (some ⟨g4,0,O⟩) (KG.begun.length+1) cap4)=wH at *;generalize hVx:({ VG with vB:=Y (some ⟨g4,0,O⟩) (KG.begun.length+1) cap4 }:Kv)=VH at *
    generalize hKx:({ KG with begun:=KG.begun++[(-1:Int)] }:Kw)=KH at *
    have HCH:Hid (Cl n (k+1) 0 GG KH):=by
     have c:=HCD.out;have hnk:=c.nl;rw[← hKx,HKG.out,← hKF];refine⟨c.part,c.n,by simp[c.nl],by simp[c.dl],by simp[c.bl],c.lv,c.net,c.ws,c.ol,c.ls,c.gs,fun q x hx=>?_⟩
     simp only at hx
     by_cases hq:q<KD.nds.length
     ·rw[List.getElem?_append_left hq] at hx;exact c.nod q x hx
     ·rw[List.getElem?_append_right (by omega)] at hx
      have hq0:q-KD.nds.length=0:=by
       have:=(List.getElem?_eq_some_iff.1 hx).1
       simp at this;omega
      rw[hq0] at hx;simp at hx;subst hx;have:q=k:=by omega
      subst this;exact HXi.out
    clear hKx hVx hKF;go_wp2_with fail;go_roundw
    case rel=>exact⟨k+1,KH,VH,by omega,by go_num,HSH.out,HCH.out⟩
    case measure=>simp[intOf];omega
   ·have j1:¬(k:Int)<(n:Int):=by omega
    obtain rfl:k=n:=by omega
    obtain⟨wL,HwL⟩:∃ x,x=wr:=⟨_,rfl⟩
    subst HwL;go_wp2_with fail;go_loopw [11] (fun i wr=>∃ (c:Nat) (K':Kw) (V':Kv),c≤10∧i=I J c∧Kst N w1 wr w.heap.size (K0 k) V0 K' V'∧Cl k k c GG K') (fun i _=>10-(intOf i).toNat)
    case atStart=>exact⟨0,KD,VD,Nat.zero_le _,rfl,HSD.out,HCD.out⟩
    case round =>
     obtain⟨c,KI_,VI,hc,rfl,kI,cI⟩:=hrel
     have HSI:=ah kI;have HCI:=ah cI;have hol:KI_.opn.length≤10:=by rw[cI.ol];simp;omega
     clear kI cI;by_cases hlc:c<10
     ·have j2:(c:Int)≤9:=by omega
      have h5:=HSI.out.at_;obtain⟨aR,cR,hvR⟩:=au h5.rO
      have hrow:=h5.rO;have cj:wr.cell? ⟨w.heap.size,9,O⟩=some VI.vO:=h5.cell 9
      have fj:=h5.free 9;have hne:some w.heap.size≠VI.vO.ownBlock:=h5.gne (i:=5) rfl
      rw[hvR] at hrow cj hne;have hlb:w.heap.size<wr.heap.size:=h5.lb
      clear h5;go_upto_region 17 with (at_builtin;refine wpList_append_lies (w:=wr.alloc (.cells #[I J (-1)] 3)) (by rfl) (.tmp 83) (.tmp 84) 44 (by rfl) 0 3 iI0 (I J 0) 1 8 Tryz.underlying44 hiI ziI0 ziI1 ziI2 rfl (by decide) (Y aR KI_.opn.length cR) KI_.opn.length (KI_.opn.map (Value.int .i64)) (by rfl) (hrow.alloc _) ⟨wr.heap.size,0,O⟩ 1 1 [I J (-1)] (by rfl) (by rfl) (World.news_of_block (heap_alloc_new wr (.cells #[I J (-1)] 3))) (by intro u hu;simp at hu;subst hu;rfl) (by decide) (by unfold maxLen;omega) (by omega) (Nat.zero_le _) (wr.heap.size+1) (by simp) ?_;intro g4 cap4 w4 hown4 hg4 hat4 hlt4;have hb2:Below wr.heap.size wr (wr.alloc (.cells #[I J (-1)] 3)):=(Below.refl _ wr).alloc (Nat.le_refl _) _;have t4:w4.cell? ⟨w.heap.size,9,O⟩=some (Y aR KI_.opn.length cR):=(hg4.cell_far ⟨w.heap.size,9,O⟩ (by simp;omega) hne).trans ((hb2.cell (p:=⟨w.heap.size,9,O⟩) hlb).trans cj);have f4:w4.frozen? ⟨w.heap.size,9,O⟩=false:=(hg4.frozen_far ⟨w.heap.size,9,O⟩ (by simp;omega) hne).trans ((hb2.frozen (p:=⟨w.heap.size,9,O⟩) hlb).trans fj))
      have ho4:w4.ownsRow 0 3 1 (Y (some ⟨g4,0,O⟩) (KI_.opn.length+1) cap4) (KI_.opn++[(-1:Int)]).length ((KI_.opn++[(-1:Int)]).map (Value.int .i64)):=by
       rw[show (KI_.opn++[(-1:Int)]).length=KI_.opn.length+1 by simp,List.map_append];exact hown4
      have HSJ:=ah (HSI.out.trans (HSI.out.at_.newRow (V':={ VI with vO:=Y (some ⟨g4,0,O⟩) (KI_.opn.length+1) cap4 }) (K':={ KI_ with opn:=KI_.opn++[(-1:Int)] }) (i:=5) (w1:=w4) (r:=⟨3,1,VI.vO,KI_.opn.length,KI_.opn.map (Value.int .i64)⟩) (r':=⟨3,1,Y (some ⟨g4,0,O⟩) (KI_.opn.length+1) cap4,(KI_.opn++[(-1:Int)]).length,(KI_.opn++[(-1:Int)]).map (Value.int .i64)⟩) rfl
       ((Kp.of_below hb2).trans' (by rw[hvR];exact Kp.row hg4)) ho4 (fun u hu=>by
        simp[Value.ownBlock] at hu;subst hu
        show VI.vO.ownBlock=_∨_
        rw[hvR];exact hat4.imp (fun q=>q) (fun q=>by omega)) 9 rfl rfl rfl))
      clear hown4 hg4 hat4 hlt4 ho4;clear t4 f4 hrow cj fj hne hlb hb2;generalize w4.setCell ⟨w.heap.size,9,O⟩ (Y (some ⟨g4,0,O⟩) (KI_.opn.length+1) cap4)=wJ at *;generalize hVx:({ VI with vO:=Y (some ⟨g4,0,O⟩) (KI_.opn.length+1) cap4 }:Kv)=VJ at *
      generalize hKx:({ KI_ with opn:=KI_.opn++[(-1:Int)] }:Kw)=KJ at *
      have HCJ:Hid (Cl k k (c+1) GG KJ):=by
       have d:=HCI.out;rw[← hKx];exact⟨d.part,d.n,d.nl,d.dl,d.bl,d.lv,d.net,d.ws,by simp only[d.ol];rw[List.replicate_succ'],d.ls,d.gs,d.nod⟩
      clear hKx hVx;go_wp2_with fail;go_roundw
      case rel=>exact⟨c+1,KJ,VJ,by omega,by go_num,HSJ.out,HCJ.out⟩
      case measure=>simp[intOf];omega
     ·have j2:¬(c:Int)≤9:=by omega
      obtain rfl:c=10:=by omega
      have hki:=HCI.out.ki ⟨by omega,by omega⟩ rfl HGG.out
      have HF:Hid (ClP N w wr k (Zr (Zp (some ⟨w.heap.size,0,O⟩)))):=⟨w.heap.size,KI_,VI,rfl,HSI.out.at_,hki.1,hki.2.1,HCI.out.n,hki.2.2,HBl.out HSI.out.kp⟩
      clear hki;go_wp2_with fail;go_ret;exact HF.out
end
end Go.Proofs.YtajakaadgagejaaGreatDoor
