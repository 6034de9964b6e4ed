import Derived.Test.YtbnihoahhomooaaGreatDoorA35
import Derived.Test.YtbnihoahhomooaaGreatDoorCards
import Derived.Test.YtbnihoahhomooaaGreatDoorTie
import Derived.ProofKit
import Derived.OpenShut
import Derived.Deep.DeepHandedRow
import Derived.Lib.LaidTab
import Derived.Deep.Slices
import Derived.Carry
import Derived.SevenTiedAt
import Derived.LaidMore
set_option maxRecDepth 100000
set_option maxHeartbeats 8000000
set_option linter.all false
namespace Go.Proofs.YtbnihoahhomooaaGreatDoor
open Go.Value renaming int→I,slice→Y,string→Z,pointer→Zp
open Go.Ending renaming returned→Zr
open _root_.ByteArray renaming empty→Ze
open Go.IntKind renaming i64→J
open Option renaming none→O
open Go.RowKit
section
variable {N:Nat} {w w':World} {g:Nat} {K K':Kw} {V V':Kv}
theorem Nt {b1 b2:Nat} {e1 e2:TypeId} {s1 s2 n1 n2:Nat} {v1 v2:Value} {xs1 xs2:List Value} (h1:w.ownsRow b1 e1 s1 v1 n1 xs1) (h2:w.ownsRow b2 e2 s2 v2 n2 xs2) (hne:e1≠e2):∀ k,v1.ownBlock=some k→v2.ownBlock≠some k:=fun k k1 k2=>by
 rcases h1.2 with ⟨rfl,_⟩|⟨g1,c1,cur1,rfl,_,q1,_⟩
 ·simp[Value.ownBlock] at k1
 rcases h2.2 with ⟨rfl,_⟩|⟨g2,c2,cur2,rfl,_,q2,_⟩
 ·simp[Value.ownBlock] at k2
 simp[Value.ownBlock] at k1 k2;subst k1;subst k2;rw[q1] at q2;have:=Option.some.inj q2
 cases this;exact hne rfl
theorem GH (W:World) (s:ByteArray) (t:TypeId):Rd (W.alloc (.cells #[Z s] t)) 1 (Y (some ⟨W.heap.size,0,O⟩) 1 1) 1 [Z s]:=⟨rfl,.inr ⟨W.heap.size,0,1,rfl,Nat.le_refl _,by unfold maxLen;omega,by simp,fun j u hj=>by
 have:=World.news_of_block (heap_alloc_new W (.cells #[Z s] t)) j u hj
 have hadd:(⟨W.heap.size,0,O⟩:Addr).add j=⟨W.heap.size,0+j,O⟩:=by unfold Addr.add;split <;> simp_all
 rwa [hadd] at this⟩⟩
theorem yA {b:Nat} {e:TypeId} {s n:Nat} {v:Value} {xs:List Value} (h:w.ownsRow b e s v n xs) (o:Obj):(w.alloc o).ownsRow b e s v n xs:=h.alloc _
theorem one1 (s:ByteArray):∀ u∈[Z s],u.oneCell'=true:=fun u hu=>by simp at hu;subst hu;rfl
theorem xw {b:Nat} {v:Value} {n:Nat} {l:List ByteArray} {s:ByteArray} (h:w.ownsRow b 9 1 v (n+1) (l.map Value.string++[Z s])) (hn:n=l.length):w.ownsRow b 9 1 v (l++[s]).length ((l++[s]).map Value.string):=by
 subst hn;rw[List.map_append,show (l++[s]).length=l.length+1 by simp];exact h
theorem Gc (h:KAt N w g K V) (hi:KI K) (q:Nat) (hq:q<K.nds.length) :
  Calls Tryz.prog 64 #[Zp (some ⟨g,0,O⟩),I J q] w fun e w'=>Hf w w' e:=by
 have z:=hi.sz;obtain⟨i0,hi0,hz0,hz1,hz2⟩:=info_parts Tryz.infoStr
 obtain⟨n,hn⟩:∃ n:Nat,K.n=n:=⟨K.n.toNat,by have:=z.n3;omega⟩
 have z3:=z.n3;have z1:=z.nds;have z7:=z.n7;have zd:=z.down;have zb:=z.begun;have z10:=z.opn;rw[hn] at z1 z7 z3 zd zb;have HC1:Hid (∀ w2,Below w.heap.size w w2→w2.cell? ⟨g,1,O⟩=some (I J n)):=fun w2 hw2=>by rw[← hn];exact (h.below hw2).cell 1
 obtain⟨aN,cN,hvN⟩:=aj h.rN
 have HC2:Hid (∀ w2,Below w.heap.size w w2→w2.cell? ⟨g,2,O⟩=some (Y aN K.nds.length cN)):=fun w2 hw2=>by rw[← hvN];exact (h.below hw2).cell 2
 have HN:=ah (fun (w2:World) (hw2:Below w.heap.size w w2)=>KAt.ptr h hvN hw2)
 obtain⟨aD,cD,hvD⟩:=aj h.rD
 have HC3:Hid (∀ w2,Below w.heap.size w w2→w2.cell? ⟨g,3,O⟩=some (Y aD K.down.length cD)):=fun w2 hw2=>by rw[← hvD];exact (h.below hw2).cell 3
 have HD:=ah (fun (w2:World) (hw2:Below w.heap.size w w2)=>KAt.dwn h hvD hw2)
 have HWh:=ah (fun (w2:World) (hw2:Below w.heap.size w w2)=>KAt.whr h hw2)
 obtain⟨x,hxe⟩:∃ x,K.nds[q]=x:=⟨_,rfl⟩
 have hx:K.nds[q]? = some x:=by rw[List.getElem?_eq_getElem hq,hxe]
 have hok:=(hi.nod q x hx).ok;have hRn:=(hi.nod q x hx).n;have HQ:=ah (HWh.out w (Below.refl _ _) q hq);rw[hxe] at HQ;have hqd:q<K.down.length:=by omega
 obtain⟨b1,o1,rfl,_,d1⟩:=HN.out w (Below.refl _ _) q hq
 rw[hxe] at d1;have c2:=HC2.out w (Below.refl _ _);have j1:(0:Int)≤(q:Int):=by omega
 have j2:(q:Int)<(K.nds.length:Int):=by omega
 have j3:(q:Int)<(K.down.length:Int):=by omega
 have HR:=ah (fun (w2:World) (hw2:Below w.heap.size w w2)=>(h.nodes x (List.mem_of_getElem? hx)).below hw2)
 have HGl:Hid (x.R.grp.length≤5∧∀ y∈x.R.grp,0≤y∧y≤1000000):=⟨hok.g.1,fun y hy=>by have:=hok.g.2 y hy;have:=hok.n7;omega⟩
 have HOl:Hid (x.R.old.length≤5∧∀ y∈x.R.old,0≤y∧y≤1000000):=⟨hok.o.1,fun y hy=>by have:=hok.o.2 y hy;have:=hok.n7;omega⟩
 have HEn:Hid (∀ (k:Nat) (hk:k<x.R.log.length),2≤x.R.log[k].2.2.size∧x.R.log[k].2.2.size≤10):=fun k hk=>by
  have:=hok.le _ (List.getElem_mem hk)
  exact⟨(nW this.2.2.2.2.1).sz.s2,this.2.2.2.2.2⟩
 have hep:=hok.ep;have hlg:=hok.lg;have HE0:Hid (∀ w2,Below w.heap.size w w2→Hf w w2 (Zr (Y O 0 0))):=fun w2 hw2=>⟨_,[],rfl,World.ownsRow_nil _ _ _ _,by simp,by simp,hw2⟩
 have HTz:Hid (∀ l:List Int,l.length≤5→(∀ y∈l,0≤y∧y≤1000000)→(txt l).size≤1000):=fun l hl hb=>by
  have:=G8 l (fun y hy=>by have:=(hb y hy).2;omega)
  omega
 clear h hi z hok hx HWh HN HC1 hxe;go_enter Tryz.func64,Tryz.ntmps64;go_wp2_with fail;refine HQ.out.mono ?_;rintro e w1 ⟨rfl,nn,hw1⟩;have hb1:Below w.heap.size w w1:=by rw[hw1];exact below_drewN (Below.refl _ _) nn
 clear hw1 c2 d1 HQ;have HE1:=ah (HE0.out _ hb1);have c3:=HC3.out _ hb1;obtain⟨b2,o2,rfl,_,d2⟩:=HD.out _ hb1 q hqd
 generalize K.down[q]=dq at *;cases dq
 ·by_cases s3:x.R.status=3
  ·have s3':(x.R.status==3)=true:=beq_iff_eq.2 s3
   clear s3;go_wp2;go_ret;exact HE1.out
  ·have s3':(x.R.status==3)=false:=beq_eq_false_iff_ne.2 s3
   clear s3;have HGr:=ah (Ch (HR.out _ hb1) (by have:=HGl.out.1;omega))
   go_wp2_with fail;refine HGr.out.mono ?_;rintro e w2 ⟨vg,rfl,hown2,hb2⟩;have hb2':=hb1.trans (hb2.mono hb1.size)
   have HTx:=ah (vV vg x.R.grp w2 (Rd.bR hown2) (by have:=HGl.out.1;omega) HGl.out.2)
   obtain⟨a2,c2,rfl⟩:=aj hown2
   clear hown2 c3 d2;go_wp2_with fail;refine HTx.out.mono ?_;rintro e w3 ⟨rfl,hb3⟩;have w3x:=hb2'.trans (hb3.mono hb2'.size);have ht1:=HTz.out x.R.grp HGl.out.1 HGl.out.2;generalize txt x.R.grp=t1 at *;have HOw:Hid (w3.ownsRow w.heap.size 9 1 (Y O 0 0) 0 []):=World.ownsRow_nil _ _ _ _
   clear hb2 hb3 hb2' HTx HGr;go_wp2_with (at_builtin;refine Fp rfl _ _ 48 rfl w.heap.size 9 i0 (Z Ze) 1 16 Tryz.underlying48 hi0 hz0 hz1 hz2 rfl (by decide) (w3.alloc (.cells #[Z t1] 9)) _ 0 [] (by rfl) (yA HOw.out _) (Y (some ⟨w3.heap.size,0,O⟩) 1 1) 1 [Z t1] (by rfl) (GH _ _ _) (one1 _) (by unfold maxLen;omega) (by omega) (by have:=w3x.size;simp;omega) ?_)
   intro v4 w4 hown4 hg4 hb4;have w4x:Below w.heap.size w w4:=(w3x.alloc w3x.size _).trans hb4
   have hown4:=xw (l:=[]) hown4 rfl;obtain⟨a4,c4,rfl⟩:=aj hown4
   clear hg4 hb4 HOw;have HLs:Hid (∀ s∈([]++[t1]:List ByteArray),s.size≤1000):=fun s hs=>by simp at hs;subst hs;exact ht1
   generalize hl4:([]++[t1]:List ByteArray)=l4 at *;have hl41:l4.length≤1:=by rw[← hl4];simp
   clear hl4;by_cases s5:x.R.status=5
   focus
    have s5':(x.R.status==5)=true:=beq_iff_eq.2 s5
    clear s5;have HGr:=ah (Nz (HR.out _ w4x) (by have:=HOl.out.1;omega))
    have HOw:=ah hown4;clear hown4;go_wp2_with fail;refine HGr.out.mono ?_;rintro e w5 ⟨vo,rfl,hown5,hb5⟩;have w5x:=w4x.trans (hb5.mono w4x.size);have HTx:=ah (vV vo x.R.old w5 (Rd.bR hown5) (by have:=HOl.out.1;omega) HOl.out.2)
    obtain⟨a5,c5,rfl⟩:=aj hown5
    have HOw:=ah (bU HOw.out hb5);clear hown5;go_wp2_with fail;refine HTx.out.mono ?_;rintro e w6 ⟨rfl,hb6⟩;have w6x:=w5x.trans (hb6.mono w5x.size);have HOw:=ah (bU HOw.out hb6);have ht2:=HTz.out x.R.old HOl.out.1 HOl.out.2;generalize txt x.R.old=t2 at *;clear hb5 hb6 HTx HGr w5x w4x;go_wp2_with (at_builtin;refine Fp rfl _ _ 48 rfl w.heap.size 9 i0 (Z Ze) 1 16 Tryz.underlying48 hi0 hz0 hz1 hz2 rfl (by decide) (w6.alloc (.cells #[Z t2] 9)) _ l4.length (l4.map Value.string) (by rfl) (yA HOw.out _) (Y (some ⟨w6.heap.size,0,O⟩) 1 1) 1 [Z t2] (by rfl) (GH _ _ _) (one1 _) (by unfold maxLen;omega) (by omega) (by have:=w6x.size;simp;omega) ?_)
    intro v7 w7 hown7 hg7 hb7;have w7x:Below w.heap.size w w7:=(w6x.alloc w6x.size _).trans hb7
    have hown7:=xw hown7 rfl;obtain⟨a7,c7,rfl⟩:=aj hown7
    clear hg7 hb7 HOw;have HLs:Hid (∀ s∈(l4++[t2]:List ByteArray),s.size≤1000):=fun s hs=>by
     rcases List.mem_append.1 hs with p|p
     ·exact HLs.out s p
     ·simp at p;subst p;exact ht2
    generalize hl7:l4++[t2]=l7 at *;have hl72:l7.length≤2:=by rw[← hl7];simp;omega
    clear hl7
   rotate_left
   focus
    have s5':(x.R.status==5)=false:=beq_eq_false_iff_ne.2 s5
    clear s5;obtain⟨w7,l7,a7,c7,hown7,w7x,HLs7,hl72,e1,e2,e3,e4⟩:∃ w7 l7 a7 c7,w7.ownsRow w.heap.size 9 1 (Y a7 l7.length c7) l7.length (l7.map Value.string)∧Below w.heap.size w w7∧Hid (∀ s∈l7,s.size≤1000)∧l7.length≤2∧w7=w4∧l7=l4∧a7=a4∧c7=c4:=⟨w4,l4,a4,c4,hown4,w4x,HLs,by omega,rfl,rfl,rfl,rfl⟩
    subst e1 e2 e3 e4;have HLs:=HLs7;clear HLs7
   rotate_left
   all_goals
    have HLg:=ah (uS (HR.out _ w7x) (by omega))
    have HOw:=ah hown7;clear hown7;go_wp2_with fail;refine HLg.out.mono ?_;rintro e w8 ⟨vL,rfl,hown8,hb8⟩;have w8x:=w7x.trans (hb8.mono w7x.size);have HOw:=ah (bU HOw.out hb8);have HLo:=ah (eU hown8 (Nat.zero_le _));obtain⟨aL,cL,rfl⟩:=aj hown8
    clear hown8 HLg;go_wp2_with fail;go_loopw [10,15,16] (fun ov m i wr=>∃ (k c:Nat) (l:List ByteArray),k≤x.R.log.length∧c≤k∧i=I J k∧m=I J c∧wr.ownsRow w.heap.size 9 1 ov l.length (l.map Value.string)∧(∀ s∈l,s.size≤1000)∧l.length≤2+k∧wr.ownsRow 0 66 3 (Y aL x.R.log.length cL) x.R.log.length (aA x.R.log)∧Below w.heap.size w wr) (fun _ _ i _=>x.R.log.length-(intOf i).toNat)
    case atStart=>exact⟨0,0,l7,Nat.zero_le _,Nat.le_refl _,rfl,rfl,HOw.out,HLs.out,by omega,HLo.out,w8x⟩
    case round =>
     obtain⟨k,c,l,hk,hck,rfl,rfl,hO,hS,hll,hL,wrx⟩:=hrel
     obtain⟨aO,cO,rfl⟩:=aj hO
     have HOw:=ah hO;have HLo:=ah hL;have HLs:=ah hS;clear hO hL hS;by_cases hlt:k<x.R.log.length
     ·have hEl:gW wr (Y aL x.R.log.length cL) x.R.log:=Rd.bR HLo.out
      obtain⟨be,oe,rfl,_,f1,f2,f3⟩:=hEl.get k hlt
      clear hEl;have j4:(0:Int)≤(k:Int):=by omega
      have j5:(k:Int)<(x.R.log.length:Int):=by omega
      obtain⟨s2,s10⟩:=HEn.out k hlt
      generalize x.R.log[k].2.2=op at *;have j6:(0:Int)<(op.size:Int):=by omega
      have j7:(1:Int)≤(op.size:Int):=by omega
      by_cases hr:(op[0].toNat:Int)=114
      ·have hr':((op[0].toNat:Int)==114)=true:=beq_iff_eq.2 hr
       clear hr;by_cases hgt:x.R.epoch<(c:Int)+1
       ·go_wp2_with (at_builtin;refine Fp rfl _ _ 48 rfl w.heap.size 9 i0 (Z Ze) 1 16 Tryz.underlying48 hi0 hz0 hz1 hz2 rfl (by decide) (wr.alloc (.cells #[Z (op.extract 1 op.size)] 9)) _ l.length (l.map Value.string) (by rfl) (yA HOw.out _) (Y (some ⟨wr.heap.size,0,O⟩) 1 1) 1 [Z (op.extract 1 op.size)] (by rfl) (GH _ _ _) (one1 _) (by unfold maxLen;omega) (by omega) (by have:=wrx.size;simp;omega) ?_)
        intro v9 w9 hown9 hg9 hb9;have w9x:Below w.heap.size w w9:=(wrx.alloc wrx.size _).trans hb9
        have hown9:=xw hown9 rfl;have HLo9:Hid (w9.ownsRow 0 66 3 (Y (some ⟨be,oe,O⟩) x.R.log.length cL) x.R.log.length (aA x.R.log)):=fq (yA HLo.out _) (Kp.row hg9) (fun y hy hc=>Nt HLo.out HOw.out (by decide) y hy (by simpa using hc))
        have HO9:=ah hown9;have HLs9:Hid (∀ s∈l++[op.extract 1 op.size],s.size≤1000):=fun s hs=>by
         rcases List.mem_append.1 hs with p|p
         ·exact HLs.out s p
         ·simp at p;subst p;simp;omega
        obtain⟨a9,c9,rfl⟩:=aj hown9
        clear hown9 hg9 hb9;go_wp2;go_roundw
        case rel=>exact⟨k+1,c+1,_,by omega,by omega,by go_num,by go_num,HO9.out,HLs9.out,by simp;omega,HLo9.out,w9x⟩
        case measure=>simp[intOf];omega
       ·go_wp2;go_roundw
        case rel=>exact⟨k+1,c+1,l,by omega,by omega,by go_num,by go_num,HOw.out,HLs.out,by omega,HLo.out,wrx⟩
        case measure=>simp[intOf];omega
      ·have hr':((op[0].toNat:Int)==114)=false:=beq_eq_false_iff_ne.2 hr
       clear hr;go_wp2;go_roundw
       case rel=>exact⟨k+1,c,l,by omega,by omega,by go_num,rfl,HOw.out,HLs.out,by omega,HLo.out,wrx⟩
       case measure=>simp[intOf];omega
     ·have HF:Hid (Hf w wr (Zr (Y aO l.length cO))):=⟨_,l,rfl,HOw.out,HLs.out,by omega,wrx⟩
      go_wp2;go_ret;exact HF.out
 ·go_wp2;go_ret;exact HE1.out
end
section
variable {N:Nat} {w w':World} {g:Nat} {K K':Kw} {V V':Kv}
def CrP (N:Nat) (w w':World) (g:Nat) (K:Kw) (V:Kv) (q:Nat) (e:Ending):Prop:=e=Zr (.tuple #[])∧∃ K',Kst N w w' g K V K' V∧(K'=K∨K'={ K with down:=K.down.set q true })
theorem FW (h:KAt N w g K V) (hi:KI K) (q:Nat) (hq:q<K.nds.length) :
  Calls Tryz.prog 35 #[Zp (some ⟨g,0,O⟩),I J q] w fun e w'=>CrP N w w' g K V q e:=by
 have z:=hi.sz;obtain⟨n,hn⟩:∃ n:Nat,K.n=n:=⟨K.n.toNat,by have:=z.n3;omega⟩
 have z3:=z.n3;have z1:=z.nds;have z7:=z.n7;have zd:=z.down;have zb:=z.begun;have z10:=z.opn;rw[hn] at z1 z7 z3 zd zb;have HC1:Hid (∀ w2,Below w.heap.size w w2→w2.cell? ⟨g,1,O⟩=some (I J n)):=fun w2 hw2=>by rw[← hn];exact (h.below hw2).cell 1
 obtain⟨aD,cD,hvD⟩:=aj h.rD
 have HC3:Hid (∀ w2,Below w.heap.size w w2→w2.cell? ⟨g,3,O⟩=some (Y aD K.down.length cD)):=fun w2 hw2=>by rw[← hvD];exact (h.below hw2).cell 3
 have HD:=ah (fun (w2:World) (hw2:Below w.heap.size w w2)=>KAt.dwn h hvD hw2)
 obtain⟨aO,cO,hvO⟩:=aj h.rO
 have HC9:Hid (∀ w2,Below w.heap.size w w2→w2.cell? ⟨g,9,O⟩=some (Y aO K.opn.length cO)):=fun w2 hw2=>by rw[← hvO];exact (h.below hw2).cell 9
 have HO:=ah (fun (w2:World) (hw2:Below w.heap.size w w2)=>KAt.opn h hvO hw2)
 obtain⟨aW,cW,hvW⟩:=aj h.rW
 have HC8:Hid (∀ w2,Below w.heap.size w w2→w2.cell? ⟨g,8,O⟩=some (Y aW K.wishes.length cW)):=fun w2 hw2=>by rw[← hvW];exact (h.below hw2).cell 8
 have HW:Hid (∀ w2,Below w.heap.size w w2→jY w2 (Y aW K.wishes.length cW) K.wishes):=fun w2 hw2=>by rw[← hvW];exact (h.below hw2).eW
 have hqd:q<K.down.length:=by omega
 obtain⟨bD,capD,eD,hbD⟩:=pF h.rD (by omega)
 rw[hvD] at eD;cases eD;have HDq:Hid (∀ w2,Below w.heap.size w w2→w2.cell? ⟨bD,q,O⟩=some (.bool K.down[q])):=fun w2 hw2=>by
  obtain⟨b2,o2,e2,_,d2⟩:=HD.out w2 hw2 q hqd
  cases e2
  simpa using d2
 have d2:=HDq.out w (Below.refl _ _);have c3:=HC3.out w (Below.refl _ _);have j1:(0:Int)≤(q:Int):=by omega
 have j3:(q:Int)<(K.down.length:Int):=by omega
 have HY:Hid (∀ w2,Below w.heap.size w w2→CrP N w w2 g K V q (Zr (.tuple #[]))):=fun w2 hw2=>⟨rfl,K,(Kst.refl h).below hw2,.inl rfl⟩
 have HSt:Hid (∀ w2,Below w.heap.size w w2→w2.frozen? ⟨bD,q,O⟩=false∧CrP N w (w2.setCell ⟨bD,q,O⟩ (.bool true)) g K V q (Zr (.tuple #[]))):=fun w2 hw2 =>
  ⟨(h.below hw2).fz (i:=1) (r:=⟨4,1,V.vD,K.down.length,K.down.map Value.bool⟩) rfl hvD q,rfl,_,((Kst.refl h).below hw2).trans ((h.below hw2).setD hvD q true),.inr rfl⟩
 have HKn:Hid (∀ w2 k,Below w.heap.size w w2→k<n→Calls Tryz.prog 64 #[Zp (some ⟨g,0,O⟩),I J (k:Int)] w2 fun e w'=>Hf w2 w' e):=fun w2 k hw2 hk=>Gc (h.below hw2) hi k (by omega)
 have HHo:Hid (∀ w2 s,Below w.heap.size w w2→s.size≤1000→Calls Tryz.prog 29 #[Zp (some ⟨g,0,O⟩),Z s,I J (q:Int)] w2 fun e w'=>sH w2 w' e):=fun w2 s hw2 hs=>zI (h.below hw2) z s q (by omega)
 have HOp:Hid (∀ v∈K.opn,-1≤v∧v<(K.wishes.length:Int)):=hi.opn
 have HWi:Hid (∀ (k:Nat) (hk:k<K.wishes.length),1≤K.wishes[k].e.2.2.size∧K.wishes[k].e.2.2.size≤9):=fun k hk=>⟨(hi.wish _ (List.getElem_mem hk)).o1,(hi.wish _ (List.getElem_mem hk)).o9⟩
 have HZ10:=ah z10;clear h hi z z10;generalize hdq:K.down[q]=dq at *;cases dq
 ·go_enter Tryz.func35,Tryz.ntmps35;go_wp2_with fail;clear d2 c3;go_loopw [4] (fun i wr=>∃ k:Nat,k≤n∧i=I J k∧Below w.heap.size w wr) (fun i _=>n-(intOf i).toNat)
  case atStart=>exact⟨0,Nat.zero_le _,rfl,Below.refl _ _⟩
  case round =>
   obtain⟨k,hk,rfl,hbw⟩:=hrel
   have c1:=HC1.out _ hbw;obtain⟨wO,HwO⟩:∃ x,x=wr:=⟨_,rfl⟩
   subst HwO;by_cases hlt:k<n
   ·have j4:(k:Int)<(n:Int):=by omega
    have HQ:=ah (HKn.out _ k hbw hlt);go_wp2_with fail;refine HQ.out.mono ?_;rintro e w1 ⟨v1,l1,rfl,hown1,hs1,hl1,hb1⟩;have w1x:=hbw.trans (hb1.mono hbw.size);obtain⟨a1,cc1,rfl⟩:=aj hown1
    have HOw:=ah hown1;have HS1:Hid (∀ (i:Nat) (hi:i<l1.length),(l1[i]).size≤1000):=fun i hi=>hs1 _ (List.getElem_mem hi)
    clear hown1 hs1 hb1 c1;go_wp2_with fail;go_loopw [6] (fun i wr=>∃ k:Nat,k≤l1.length∧i=I J k∧wr.ownsRow wO.heap.size 9 1 (Y a1 l1.length cc1) l1.length (l1.map Value.string)∧Below w.heap.size w wr) (fun i _=>l1.length-(intOf i).toNat)
    case atStart=>exact⟨0,Nat.zero_le _,rfl,HOw.out,w1x⟩
    case round =>
     obtain⟨i,hi,rfl,hO,hbv⟩:=hrel
     by_cases hli:i<l1.length
     ·obtain⟨b3,o3,rfl,_,d3⟩:=Rd.CW (Rd.bR hO) (k:=i) (u:=Z l1[i]) (by rw[List.getElem?_map,List.getElem?_eq_getElem hli];rfl)
      have HO:=ah hO;have k1:(0:Int)≤(i:Int):=by omega
      have k2:(i:Int)<(l1.length:Int):=by omega
      have HQ2:=ah (HHo.out _ _ hbv (HS1.out i hli));generalize l1[i]=si at *;clear hO;go_wp2_with fail;refine HQ2.out.mono ?_;rintro e w5 ⟨b5,rfl,hb5⟩;have w5x:=hbv.trans (hb5.mono hbv.size);cases b5
      ·have HF:=ah (HY.out _ w5x);go_wp2;exact bodyPost_ret (v:=.tuple #[]) (results_none rfl _ _ _) rfl HF.out
      ·have HO5:=ah (bU HO.out hb5);go_wp2;go_roundw
       case rel=>exact⟨i+1,by omega,by go_num,HO5.out,w5x⟩
       case measure=>simp[intOf];omega
     ·go_wp2;go_roundw
      case rel=>exact⟨k+1,by omega,by go_num,hbv⟩
      case measure=>simp[intOf];omega
   ·have j4:¬(k:Int)<(n:Int):=by omega
    go_wp2_with fail;clear c1;go_loopw [8] (fun i wr=>∃ c:Nat,1≤c∧c≤10∧i=I J c∧Below w.heap.size w wr) (fun i _=>10-(intOf i).toNat)
    case atStart=>exact⟨1,by omega,by omega,rfl,hbw⟩
    case round =>
     obtain⟨c,hc1,hc,rfl,hbv⟩:=hrel
     by_cases hlc:c<10
     ·have hcl:c<K.opn.length:=by rw[HZ10.out];omega
      obtain⟨b6,o6,rfl,_,d6⟩:=HO.out _ hbv c hcl
      have c9:=HC9.out _ hbv;have c8:=HC8.out _ hbv;have k1:(0:Int)≤(c:Int):=by omega
      have k2:(c:Int)<(K.opn.length:Int):=by omega
      have k3:(c:Int)≤9:=by omega
      have hov:=HOp.out _ (List.getElem_mem hcl);generalize K.opn[c]=ov at *;by_cases hv:ov<0
      ·have hv':decide (ov<0)=true:=decide_eq_true hv
       clear hov;go_wp2_with fail;go_quiet (fail);have hbq:=below_drewN hbv nq;go_wp2;go_roundw
       case rel=>exact⟨c+1,by omega,by omega,by go_num,hbq⟩
       case measure=>simp[intOf];omega
      ·have hv':decide (ov<0)=false:=decide_eq_false hv
       obtain⟨o,rfl⟩:=Int.eq_ofNat_of_zero_le (show 0≤ov by omega)
       have hol:o<K.wishes.length:=by omega
       obtain⟨b7,o7,rfl,_,_,_,d7,_⟩:=(HW.out _ hbv).get o hol
       have k4:(0:Int)≤(o:Int):=by omega
       have k5:(o:Int)<(K.wishes.length:Int):=by omega
       obtain⟨s1,s9⟩:=HWi.out o hol
       have HD2:Hid (∀ w2,Below w.heap.size w w2→w2.cell? ⟨g,8,O⟩=some (Y (some ⟨b7,o7,O⟩) K.wishes.length cW)∧w2.cell? ⟨g,9,O⟩=some (Y (some ⟨b6,o6,O⟩) K.opn.length cO)):=fun w2 hw2=>⟨HC8.out _ hw2,HC9.out _ hw2⟩
       generalize K.wishes[o].e.2.2=op at *;have k6:(0:Int)<(op.size:Int):=by omega
       have k7:(1:Int)≤(op.size:Int):=by omega
       have k8:0<op.size:=by omega
       have k9:¬op=Ze:=by intro hc;rw[hc] at k8;exact absurd k8 (by decide)
       clear hov hv;by_cases hr:(op[0].toNat:Int)=114
       ·have hr':((op[0].toNat:Int) != 114)=false:=by rw[hr];rfl
        clear hr;have HQ:Hid (∀ w2,Below w.heap.size w w2→Calls Tryz.prog 29 #[Zp (some ⟨g,0,O⟩),Z (op.extract 1 op.size),I J (q:Int)] w2 fun e w'=>sH w2 w' e):=fun w2 hw2=>HHo.out w2 _ hw2 (by simp;omega)
        go_wp2_with fail;go_quiet (fail);have hbq:=below_drewN hbv nq;go_wp2_with fail;go_region_with (go_at_call 29;refine (HQ.out _ hbq.drew).mono ?_;rintro e w8 ⟨b8,rfl,hb8⟩)
        all_goals
         have w8x:Below w.heap.size w w8:=hbq.drew.trans (hb8.mono hbq.drew.size)
         cases b8
         ·have HF:=ah (HY.out _ w8x);go_wp2;exact bodyPost_ret (v:=.tuple #[]) (results_none rfl _ _ _) rfl HF.out
         ·go_wp2;go_roundw
          case rel=>exact⟨c+1,by omega,by omega,by go_num,w8x⟩
          case measure=>simp[intOf];omega
       ·have hr':((op[0].toNat:Int) != 114)=true:=bne_iff_ne.2 hr
        clear hr;go_wp2_with fail;go_quiet (fail);have hbq:=below_drewN hbv nq;go_wp2;go_roundw
        case rel=>exact⟨c+1,by omega,by omega,by go_num,hbq⟩
        case measure=>simp[intOf];omega
     ·have k3:¬(c:Int)≤9:=by omega
      have c3:=HC3.out _ hbv;have d2:=HDq.out _ hbv;obtain⟨f2,hF⟩:=HSt.out _ hbv
      have HF:=ah hF;clear hF;go_wp2_with fail;refine bodyPost_end (results_none rfl _ _ _) rfl ?_;exact HF.out
 ·have HF:=ah (HY.out _ (Below.refl _ _));go_enter Tryz.func35,Tryz.ntmps35;go_wp2;exact bodyPost_ret (v:=.tuple #[]) (results_none rfl _ _ _) rfl HF.out
end
section
variable {N:Nat} {w w':World} {g:Nat} {K K':Kw} {V V':Kv}
theorem StQ.rne {wr w2:World} {a c d m:Nat} {e:Ending} (L:Rn N w wr g K V a K' V') (h:StQ N wr w2 g K' V' c d e) (hm:a+c≤m):RnE N w w2 g K V m e:=by
 obtain⟨b,K2,V2,rfl,k,ki,ms,nl,n,gr⟩:=h
 exact⟨b,K2,V2,rfl,L.kst.trans k,ki,by have:=L.ms;omega,n.trans L.n,gr⟩
theorem eF (c:Int) (n:Nat) (hn:0<n):∃ k:Nat,k<n∧mI c n=(k:Int):=by
 have:=BR c n hn
 exact⟨(mI c n).toNat,by omega,by omega⟩
theorem Gp (h:KAt N w g K V) (hi:KI K) (gr:Gr K) (A B C:Int) (S:ByteArray) (hA0 : -9223372036854775808≤A) (hA1:A≤9223372036854775807) (hB0 : -9223372036854775808≤B) (hB1:B≤9223372036854775807) (hC0 : -9223372036854775808≤C) (hC1:C≤9223372036854775807) (hS:S.size≤1000000) (hm:dI K+200000≤900000000000) :
  Calls Tryz.prog 14 #[Zp (some ⟨g,0,O⟩),.agg #[I J 6,I J A,I J B,I J C,Z S]] w fun e w'=>RnE N w w' g K V 150000 e:=by
 have z:=hi.sz;obtain⟨n,hn⟩:∃ n:Nat,K.n=n:=⟨K.n.toNat,by have:=z.n3;omega⟩
 have z3:=z.n3;have z1:=z.nds;have z7:=z.n7;rw[hn] at z1 z7 z3;have hb0:Below w.heap.size w (w.alloc (.cells #[I J 6,I J A,I J B,I J C,Z S] 28)):=(Below.refl _ w).alloc (Nat.le_refl _) _
 have hx:=heap_alloc_new w (.cells #[I J 6,I J A,I J B,I J C,Z S] 28);have hAt:=h.below hb0;have HL0:=ah ((Rn.refl h hi gr).below hb0);have c1:(w.alloc (.cells #[I J 6,I J A,I J B,I J C,Z S] 28)).cell? ⟨g,1,O⟩=some (I J n):=by rw[← hn];exact hAt.cell 1
 have b1:(w.alloc (.cells #[I J 6,I J A,I J B,I J C,Z S] 28)).cell? ⟨w.heap.size,1,O⟩=some (I J A):=(cell_of_row _ _ _ _ _ _ hx).trans rfl
 obtain⟨q,hqn,hqe⟩:=eF A n (by omega)
 have HP:Hid (∀ w2,Calls Tryz.prog 13 #[I J A,I J n] w2 fun e w'=>e=Zr (I J (q:Int))∧w'=w2):=fun w2=>by rw[← hqe];exact dH A n w2 hA0 hA1 (by omega) (by omega)
 have hKI:=ah hi;clear h hi gr z hAt hqe;go_enter Tryz.func14,Tryz.ntmps14;go_wp2_with fail;generalize w.alloc (.cells #[I J 6,I J A,I J B,I J C,Z S] 28)=wA at *;go_quiet ((go_at_call 13;exact Calls.quiet_of_same (HP.out _)))
 have HL:=ah (HL0.out.below (below_drewN (Below.refl _ _) nq));have hxB:(wA.drewN nq).heap[w.heap.size]? = some (.cells #[I J 6,I J A,I J B,I J C,Z S] 28):=((below_drewN (Below.refl wA.heap.size wA) nq).block _ (lt_of_block hx)).trans hx
 generalize wA.drewN nq=wB at *;clear hx hb0 c1 b1 HL0 HP;have HX:Hid (∀ w2,Below wB.heap.size wB w2→w2.heap[w.heap.size]? = some (.cells #[I J 6,I J A,I J B,I J C,Z S] 28)):=fun w2 hw2=>(hw2.block _ (lt_of_block hxB)).trans hxB
 have wBx:Below wB.heap.size wB wB:=Below.refl _ _
 clear hxB;have hql:q<K.nds.length:=by omega
 have b0:wB.cell? ⟨w.heap.size,0,O⟩=some (I J 6):=(cell_of_row _ _ _ _ _ _ (HX.out _ wBx)).trans rfl
 have b1:wB.cell? ⟨w.heap.size,1,O⟩=some (I J A):=(cell_of_row _ _ _ _ _ _ (HX.out _ wBx)).trans rfl
 have b2:wB.cell? ⟨w.heap.size,2,O⟩=some (I J B):=(cell_of_row _ _ _ _ _ _ (HX.out _ wBx)).trans rfl
 have b4:wB.cell? ⟨w.heap.size,4,O⟩=some (Z S):=(cell_of_row _ _ _ _ _ _ (HX.out _ wBx)).trans rfl
 have HA:Hid (Calls Tryz.prog 34 #[Zp (some ⟨g,0,O⟩),I J q,I J 1,Z ⟨#[]⟩] wB fun e w'=>RnE N w w' g K V 150000 e):=by
  refine (tK HL.out.kst.at_ HL.out.ki HL.out.gr q hql ⟨#[]⟩ (by omega)).mono ?_
  intro e w2 hs;exact (HL.out.ste hs).le (by omega)
 go_wp2_with fail;refine HA.out.mono ?_;rintro e w9 ⟨b9,K9,V9,rfl,hS9⟩;go_wp2;go_ret;exact⟨b9,K9,V9,rfl,hS9⟩
theorem Gq (h:KAt N w g K V) (hi:KI K) (gr:Gr K) (A B C:Int) (S:ByteArray) (hA0 : -9223372036854775808≤A) (hA1:A≤9223372036854775807) (hB0 : -9223372036854775808≤B) (hB1:B≤9223372036854775807) (hC0 : -9223372036854775808≤C) (hC1:C≤9223372036854775807) (hS:S.size≤1000000) (hm:dI K+200000≤900000000000) :
  Calls Tryz.prog 14 #[Zp (some ⟨g,0,O⟩),.agg #[I J 7,I J A,I J B,I J C,Z S]] w fun e w'=>RnE N w w' g K V 150000 e:=by
 have z:=hi.sz;obtain⟨n,hn⟩:∃ n:Nat,K.n=n:=⟨K.n.toNat,by have:=z.n3;omega⟩
 have z3:=z.n3;have z1:=z.nds;have z7:=z.n7;rw[hn] at z1 z7 z3;have hb0:Below w.heap.size w (w.alloc (.cells #[I J 7,I J A,I J B,I J C,Z S] 28)):=(Below.refl _ w).alloc (Nat.le_refl _) _
 have hx:=heap_alloc_new w (.cells #[I J 7,I J A,I J B,I J C,Z S] 28);have hAt:=h.below hb0;have HL0:=ah ((Rn.refl h hi gr).below hb0);have c1:(w.alloc (.cells #[I J 7,I J A,I J B,I J C,Z S] 28)).cell? ⟨g,1,O⟩=some (I J n):=by rw[← hn];exact hAt.cell 1
 have b1:(w.alloc (.cells #[I J 7,I J A,I J B,I J C,Z S] 28)).cell? ⟨w.heap.size,1,O⟩=some (I J A):=(cell_of_row _ _ _ _ _ _ hx).trans rfl
 obtain⟨q,hqn,hqe⟩:=eF A n (by omega)
 have HP:Hid (∀ w2,Calls Tryz.prog 13 #[I J A,I J n] w2 fun e w'=>e=Zr (I J (q:Int))∧w'=w2):=fun w2=>by rw[← hqe];exact dH A n w2 hA0 hA1 (by omega) (by omega)
 have hKI:=ah hi;clear h hi gr z hAt hqe;go_enter Tryz.func14,Tryz.ntmps14;go_wp2_with fail;generalize w.alloc (.cells #[I J 7,I J A,I J B,I J C,Z S] 28)=wA at *;go_quiet ((go_at_call 13;exact Calls.quiet_of_same (HP.out _)))
 have HL:=ah (HL0.out.below (below_drewN (Below.refl _ _) nq));have hxB:(wA.drewN nq).heap[w.heap.size]? = some (.cells #[I J 7,I J A,I J B,I J C,Z S] 28):=((below_drewN (Below.refl wA.heap.size wA) nq).block _ (lt_of_block hx)).trans hx
 generalize wA.drewN nq=wB at *;clear hx hb0 c1 b1 HL0 HP;have HX:Hid (∀ w2,Below wB.heap.size wB w2→w2.heap[w.heap.size]? = some (.cells #[I J 7,I J A,I J B,I J C,Z S] 28)):=fun w2 hw2=>(hw2.block _ (lt_of_block hxB)).trans hxB
 have wBx:Below wB.heap.size wB wB:=Below.refl _ _
 clear hxB;have hql:q<K.nds.length:=by omega
 have b0:wB.cell? ⟨w.heap.size,0,O⟩=some (I J 7):=(cell_of_row _ _ _ _ _ _ (HX.out _ wBx)).trans rfl
 have b1:wB.cell? ⟨w.heap.size,1,O⟩=some (I J A):=(cell_of_row _ _ _ _ _ _ (HX.out _ wBx)).trans rfl
 have b2:wB.cell? ⟨w.heap.size,2,O⟩=some (I J B):=(cell_of_row _ _ _ _ _ _ (HX.out _ wBx)).trans rfl
 have b4:wB.cell? ⟨w.heap.size,4,O⟩=some (Z S):=(cell_of_row _ _ _ _ _ _ (HX.out _ wBx)).trans rfl
 have HA:Hid (Calls Tryz.prog 34 #[Zp (some ⟨g,0,O⟩),I J q,I J 2,Z ⟨#[]⟩] wB fun e w'=>RnE N w w' g K V 150000 e):=by
  refine (zF HL.out.kst.at_ HL.out.ki HL.out.gr q hql ⟨#[]⟩ (by omega)).mono ?_
  intro e w2 hs;exact (HL.out.ste hs).le (by omega)
 go_wp2_with fail;refine HA.out.mono ?_;rintro e w9 ⟨b9,K9,V9,rfl,hS9⟩;go_wp2;go_ret;exact⟨b9,K9,V9,rfl,hS9⟩
theorem Gs (h:KAt N w g K V) (hi:KI K) (gr:Gr K) (A B C:Int) (S:ByteArray) (hA0 : -9223372036854775808≤A) (hA1:A≤9223372036854775807) (hB0 : -9223372036854775808≤B) (hB1:B≤9223372036854775807) (hC0 : -9223372036854775808≤C) (hC1:C≤9223372036854775807) (hS:S.size≤1000000) (hm:dI K+200000≤900000000000) :
  Calls Tryz.prog 14 #[Zp (some ⟨g,0,O⟩),.agg #[I J 8,I J A,I J B,I J C,Z S]] w fun e w'=>RnE N w w' g K V 150000 e:=by
 have z:=hi.sz;obtain⟨n,hn⟩:∃ n:Nat,K.n=n:=⟨K.n.toNat,by have:=z.n3;omega⟩
 have z3:=z.n3;have z1:=z.nds;have z7:=z.n7;rw[hn] at z1 z7 z3;have hb0:Below w.heap.size w (w.alloc (.cells #[I J 8,I J A,I J B,I J C,Z S] 28)):=(Below.refl _ w).alloc (Nat.le_refl _) _
 have hx:=heap_alloc_new w (.cells #[I J 8,I J A,I J B,I J C,Z S] 28);have hAt:=h.below hb0;have HL0:=ah ((Rn.refl h hi gr).below hb0);have c1:(w.alloc (.cells #[I J 8,I J A,I J B,I J C,Z S] 28)).cell? ⟨g,1,O⟩=some (I J n):=by rw[← hn];exact hAt.cell 1
 have b1:(w.alloc (.cells #[I J 8,I J A,I J B,I J C,Z S] 28)).cell? ⟨w.heap.size,1,O⟩=some (I J A):=(cell_of_row _ _ _ _ _ _ hx).trans rfl
 obtain⟨q,hqn,hqe⟩:=eF A n (by omega)
 have HP:Hid (∀ w2,Calls Tryz.prog 13 #[I J A,I J n] w2 fun e w'=>e=Zr (I J (q:Int))∧w'=w2):=fun w2=>by rw[← hqe];exact dH A n w2 hA0 hA1 (by omega) (by omega)
 have hKI:=ah hi;clear h hi gr z hAt hqe;go_enter Tryz.func14,Tryz.ntmps14;go_wp2_with fail;generalize w.alloc (.cells #[I J 8,I J A,I J B,I J C,Z S] 28)=wA at *;go_quiet ((go_at_call 13;exact Calls.quiet_of_same (HP.out _)))
 have HL:=ah (HL0.out.below (below_drewN (Below.refl _ _) nq));have hxB:(wA.drewN nq).heap[w.heap.size]? = some (.cells #[I J 8,I J A,I J B,I J C,Z S] 28):=((below_drewN (Below.refl wA.heap.size wA) nq).block _ (lt_of_block hx)).trans hx
 generalize wA.drewN nq=wB at *;clear hx hb0 c1 b1 HL0 HP;have HX:Hid (∀ w2,Below wB.heap.size wB w2→w2.heap[w.heap.size]? = some (.cells #[I J 8,I J A,I J B,I J C,Z S] 28)):=fun w2 hw2=>(hw2.block _ (lt_of_block hxB)).trans hxB
 have wBx:Below wB.heap.size wB wB:=Below.refl _ _
 clear hxB;have hql:q<K.nds.length:=by omega
 have b0:wB.cell? ⟨w.heap.size,0,O⟩=some (I J 8):=(cell_of_row _ _ _ _ _ _ (HX.out _ wBx)).trans rfl
 have b1:wB.cell? ⟨w.heap.size,1,O⟩=some (I J A):=(cell_of_row _ _ _ _ _ _ (HX.out _ wBx)).trans rfl
 have b2:wB.cell? ⟨w.heap.size,2,O⟩=some (I J B):=(cell_of_row _ _ _ _ _ _ (HX.out _ wBx)).trans rfl
 have b4:wB.cell? ⟨w.heap.size,4,O⟩=some (Z S):=(cell_of_row _ _ _ _ _ _ (HX.out _ wBx)).trans rfl
 have HA:Hid (Calls Tryz.prog 35 #[Zp (some ⟨g,0,O⟩),I J q] wB fun e w'=>e=Zr (.tuple #[])∧RnE N w w' g K V 150000 (Zr (.bool true))):=by
  refine (FW HL.out.kst.at_ HL.out.ki q hql).mono ?_;rintro e w2 ⟨rfl,K2,k2,rfl|rfl⟩
  ·exact⟨rfl,true,_,_,rfl,HL.out.kst.trans k2,HL.out.ki,by omega,rfl,fun _=>HL.out.gr⟩
  ·exact⟨rfl,true,_,_,rfl,HL.out.kst.trans k2,HL.out.ki.down q true,by unfold dI;simp only;omega,rfl,fun _=>CI.down HL.out.gr _⟩
 go_wp2_with fail;refine HA.out.mono ?_;rintro e w9 ⟨rfl,hR⟩;have HR:=ah hR;clear hR;go_wp2;go_ret;exact HR.out
theorem Gt (h:KAt N w g K V) (hi:KI K) (gr:Gr K) (A B C:Int) (S:ByteArray) (hA0 : -9223372036854775808≤A) (hA1:A≤9223372036854775807) (hB0 : -9223372036854775808≤B) (hB1:B≤9223372036854775807) (hC0 : -9223372036854775808≤C) (hC1:C≤9223372036854775807) (hS:S.size≤1000000) (hm:dI K+200000≤900000000000) :
  Calls Tryz.prog 14 #[Zp (some ⟨g,0,O⟩),.agg #[I J 9,I J A,I J B,I J C,Z S]] w fun e w'=>RnE N w w' g K V 150000 e:=by
 have z:=hi.sz;obtain⟨n,hn⟩:∃ n:Nat,K.n=n:=⟨K.n.toNat,by have:=z.n3;omega⟩
 have z3:=z.n3;have z1:=z.nds;have z7:=z.n7;rw[hn] at z1 z7 z3;have hb0:Below w.heap.size w (w.alloc (.cells #[I J 9,I J A,I J B,I J C,Z S] 28)):=(Below.refl _ w).alloc (Nat.le_refl _) _
 have hx:=heap_alloc_new w (.cells #[I J 9,I J A,I J B,I J C,Z S] 28);have hAt:=h.below hb0;have HL0:=ah ((Rn.refl h hi gr).below hb0);have c1:(w.alloc (.cells #[I J 9,I J A,I J B,I J C,Z S] 28)).cell? ⟨g,1,O⟩=some (I J n):=by rw[← hn];exact hAt.cell 1
 have b1:(w.alloc (.cells #[I J 9,I J A,I J B,I J C,Z S] 28)).cell? ⟨w.heap.size,1,O⟩=some (I J A):=(cell_of_row _ _ _ _ _ _ hx).trans rfl
 obtain⟨q,hqn,hqe⟩:=eF A n (by omega)
 have HP:Hid (∀ w2,Calls Tryz.prog 13 #[I J A,I J n] w2 fun e w'=>e=Zr (I J (q:Int))∧w'=w2):=fun w2=>by rw[← hqe];exact dH A n w2 hA0 hA1 (by omega) (by omega)
 have hKI:=ah hi;clear h hi gr z hAt hqe;go_enter Tryz.func14,Tryz.ntmps14;go_wp2_with fail;generalize w.alloc (.cells #[I J 9,I J A,I J B,I J C,Z S] 28)=wA at *;go_quiet ((go_at_call 13;exact Calls.quiet_of_same (HP.out _)))
 have HL:=ah (HL0.out.below (below_drewN (Below.refl _ _) nq));have hxB:(wA.drewN nq).heap[w.heap.size]? = some (.cells #[I J 9,I J A,I J B,I J C,Z S] 28):=((below_drewN (Below.refl wA.heap.size wA) nq).block _ (lt_of_block hx)).trans hx
 generalize wA.drewN nq=wB at *;clear hx hb0 c1 b1 HL0 HP;have HX:Hid (∀ w2,Below wB.heap.size wB w2→w2.heap[w.heap.size]? = some (.cells #[I J 9,I J A,I J B,I J C,Z S] 28)):=fun w2 hw2=>(hw2.block _ (lt_of_block hxB)).trans hxB
 have wBx:Below wB.heap.size wB wB:=Below.refl _ _
 clear hxB;have hql:q<K.nds.length:=by omega
 have b0:wB.cell? ⟨w.heap.size,0,O⟩=some (I J 9):=(cell_of_row _ _ _ _ _ _ (HX.out _ wBx)).trans rfl
 have b1:wB.cell? ⟨w.heap.size,1,O⟩=some (I J A):=(cell_of_row _ _ _ _ _ _ (HX.out _ wBx)).trans rfl
 have b2:wB.cell? ⟨w.heap.size,2,O⟩=some (I J B):=(cell_of_row _ _ _ _ _ _ (HX.out _ wBx)).trans rfl
 have b4:wB.cell? ⟨w.heap.size,4,O⟩=some (Z S):=(cell_of_row _ _ _ _ _ _ (HX.out _ wBx)).trans rfl
 have HA:Hid (Calls Tryz.prog 36 #[Zp (some ⟨g,0,O⟩),I J q] wB fun e w'=>RnE N w w' g K V 150000 e):=by
  refine (BP HL.out.kst.at_ HL.out.ki HL.out.gr q hql (by omega)).mono ?_
  intro e w2 hs;exact (HL.out.rn hs).le (by omega)
 go_wp2_with fail;refine HA.out.mono ?_;rintro e w9 ⟨b9,K9,V9,rfl,hS9⟩;go_wp2;go_ret;exact⟨b9,K9,V9,rfl,hS9⟩
theorem Ej (h:KAt N w g K V) (hi:KI K) (gr:Gr K) (A B C:Int) (S:ByteArray) (hA0 : -9223372036854775808≤A) (hA1:A≤9223372036854775807) (hB0 : -9223372036854775808≤B) (hB1:B≤9223372036854775807) (hC0 : -9223372036854775808≤C) (hC1:C≤9223372036854775807) (hS:S.size≤1000000) (hm:dI K+200000≤900000000000) :
  Calls Tryz.prog 14 #[Zp (some ⟨g,0,O⟩),.agg #[I J 10,I J A,I J B,I J C,Z S]] w fun e w'=>RnE N w w' g K V 150000 e:=by
 have z:=hi.sz;obtain⟨n,hn⟩:∃ n:Nat,K.n=n:=⟨K.n.toNat,by have:=z.n3;omega⟩
 have z3:=z.n3;have z1:=z.nds;have z7:=z.n7;rw[hn] at z1 z7 z3;have hb0:Below w.heap.size w (w.alloc (.cells #[I J 10,I J A,I J B,I J C,Z S] 28)):=(Below.refl _ w).alloc (Nat.le_refl _) _
 have hx:=heap_alloc_new w (.cells #[I J 10,I J A,I J B,I J C,Z S] 28);have hAt:=h.below hb0;have HL0:=ah ((Rn.refl h hi gr).below hb0);have c1:(w.alloc (.cells #[I J 10,I J A,I J B,I J C,Z S] 28)).cell? ⟨g,1,O⟩=some (I J n):=by rw[← hn];exact hAt.cell 1
 have b1:(w.alloc (.cells #[I J 10,I J A,I J B,I J C,Z S] 28)).cell? ⟨w.heap.size,1,O⟩=some (I J A):=(cell_of_row _ _ _ _ _ _ hx).trans rfl
 obtain⟨q,hqn,hqe⟩:=eF A n (by omega)
 have HP:Hid (∀ w2,Calls Tryz.prog 13 #[I J A,I J n] w2 fun e w'=>e=Zr (I J (q:Int))∧w'=w2):=fun w2=>by rw[← hqe];exact dH A n w2 hA0 hA1 (by omega) (by omega)
 have hKI:=ah hi;clear h hi gr z hAt hqe;go_enter Tryz.func14,Tryz.ntmps14;go_wp2_with fail;generalize w.alloc (.cells #[I J 10,I J A,I J B,I J C,Z S] 28)=wA at *;go_quiet ((go_at_call 13;exact Calls.quiet_of_same (HP.out _)))
 have HL:=ah (HL0.out.below (below_drewN (Below.refl _ _) nq));have hxB:(wA.drewN nq).heap[w.heap.size]? = some (.cells #[I J 10,I J A,I J B,I J C,Z S] 28):=((below_drewN (Below.refl wA.heap.size wA) nq).block _ (lt_of_block hx)).trans hx
 generalize wA.drewN nq=wB at *;clear hx hb0 c1 b1 HL0 HP;have HX:Hid (∀ w2,Below wB.heap.size wB w2→w2.heap[w.heap.size]? = some (.cells #[I J 10,I J A,I J B,I J C,Z S] 28)):=fun w2 hw2=>(hw2.block _ (lt_of_block hxB)).trans hxB
 have wBx:Below wB.heap.size wB wB:=Below.refl _ _
 clear hxB;have hql:q<K.nds.length:=by omega
 have b0:wB.cell? ⟨w.heap.size,0,O⟩=some (I J 10):=(cell_of_row _ _ _ _ _ _ (HX.out _ wBx)).trans rfl
 have b1:wB.cell? ⟨w.heap.size,1,O⟩=some (I J A):=(cell_of_row _ _ _ _ _ _ (HX.out _ wBx)).trans rfl
 have b2:wB.cell? ⟨w.heap.size,2,O⟩=some (I J B):=(cell_of_row _ _ _ _ _ _ (HX.out _ wBx)).trans rfl
 have b4:wB.cell? ⟨w.heap.size,4,O⟩=some (Z S):=(cell_of_row _ _ _ _ _ _ (HX.out _ wBx)).trans rfl
 have HA:Hid (Calls Tryz.prog 37 #[Zp (some ⟨g,0,O⟩)] wB fun e w'=>RnE N w w' g K V 150000 e):=by
  refine (Jk HL.out.kst.at_ HL.out.ki HL.out.gr (by omega)).mono ?_
  intro e w2 hs;exact (HL.out.rn hs).le (by omega)
 go_wp2_with fail;refine HA.out.mono ?_;rintro e w9 ⟨b9,K9,V9,rfl,hS9⟩;go_wp2;go_ret;exact⟨b9,K9,V9,rfl,hS9⟩
theorem Gu (h:KAt N w g K V) (hi:KI K) (gr:Gr K) (kd:Int) (A B C:Int) (S:ByteArray) (hA0 : -9223372036854775808≤A) (hA1:A≤9223372036854775807) (hB0 : -9223372036854775808≤B) (hB1:B≤9223372036854775807) (hC0 : -9223372036854775808≤C) (hC1:C≤9223372036854775807) (hS:S.size≤1000000) (hm:dI K+200000≤900000000000) (h2:¬kd=2) (h3:¬kd=3) (h4:¬kd=4) (h5:¬kd=5) (h6:¬kd=6) (h7:¬kd=7) (h8:¬kd=8) (h9:¬kd=9) (h10:¬kd=10) (h11:¬kd=11) (h12:¬kd=12) :
  Calls Tryz.prog 14 #[Zp (some ⟨g,0,O⟩),.agg #[I J kd,I J A,I J B,I J C,Z S]] w fun e w'=>RnE N w w' g K V 150000 e:=by
 have z:=hi.sz;obtain⟨n,hn⟩:∃ n:Nat,K.n=n:=⟨K.n.toNat,by have:=z.n3;omega⟩
 have z3:=z.n3;have z1:=z.nds;have z7:=z.n7;rw[hn] at z1 z7 z3;have hb0:Below w.heap.size w (w.alloc (.cells #[I J kd,I J A,I J B,I J C,Z S] 28)):=(Below.refl _ w).alloc (Nat.le_refl _) _
 have hx:=heap_alloc_new w (.cells #[I J kd,I J A,I J B,I J C,Z S] 28);have hAt:=h.below hb0;have HL0:=ah ((Rn.refl h hi gr).below hb0);have c1:(w.alloc (.cells #[I J kd,I J A,I J B,I J C,Z S] 28)).cell? ⟨g,1,O⟩=some (I J n):=by rw[← hn];exact hAt.cell 1
 have b1:(w.alloc (.cells #[I J kd,I J A,I J B,I J C,Z S] 28)).cell? ⟨w.heap.size,1,O⟩=some (I J A):=(cell_of_row _ _ _ _ _ _ hx).trans rfl
 obtain⟨q,hqn,hqe⟩:=eF A n (by omega)
 have HP:Hid (∀ w2,Calls Tryz.prog 13 #[I J A,I J n] w2 fun e w'=>e=Zr (I J (q:Int))∧w'=w2):=fun w2=>by rw[← hqe];exact dH A n w2 hA0 hA1 (by omega) (by omega)
 have hKI:=ah hi;clear h hi gr z hAt hqe;go_enter Tryz.func14,Tryz.ntmps14;go_wp2_with fail;generalize w.alloc (.cells #[I J kd,I J A,I J B,I J C,Z S] 28)=wA at *;go_quiet ((go_at_call 13;exact Calls.quiet_of_same (HP.out _)))
 have HL:=ah (HL0.out.below (below_drewN (Below.refl _ _) nq));have hxB:(wA.drewN nq).heap[w.heap.size]? = some (.cells #[I J kd,I J A,I J B,I J C,Z S] 28):=((below_drewN (Below.refl wA.heap.size wA) nq).block _ (lt_of_block hx)).trans hx
 generalize wA.drewN nq=wB at *;clear hx hb0 c1 b1 HL0 HP;have HX:Hid (∀ w2,Below wB.heap.size wB w2→w2.heap[w.heap.size]? = some (.cells #[I J kd,I J A,I J B,I J C,Z S] 28)):=fun w2 hw2=>(hw2.block _ (lt_of_block hxB)).trans hxB
 have wBx:Below wB.heap.size wB wB:=Below.refl _ _
 clear hxB;have hql:q<K.nds.length:=by omega
 have b0:wB.cell? ⟨w.heap.size,0,O⟩=some (I J kd):=(cell_of_row _ _ _ _ _ _ (HX.out _ wBx)).trans rfl
 have b1:wB.cell? ⟨w.heap.size,1,O⟩=some (I J A):=(cell_of_row _ _ _ _ _ _ (HX.out _ wBx)).trans rfl
 have b2:wB.cell? ⟨w.heap.size,2,O⟩=some (I J B):=(cell_of_row _ _ _ _ _ _ (HX.out _ wBx)).trans rfl
 have b4:wB.cell? ⟨w.heap.size,4,O⟩=some (Z S):=(cell_of_row _ _ _ _ _ _ (HX.out _ wBx)).trans rfl
 have HR:=ah (HL.out.rne (d:=150000) true (by omega))
 have n2:(kd==2)=false:=beq_eq_false_iff_ne.2 h2
 have n3:(kd==3)=false:=beq_eq_false_iff_ne.2 h3
 have n4:(kd==4)=false:=beq_eq_false_iff_ne.2 h4
 have n5:(kd==5)=false:=beq_eq_false_iff_ne.2 h5
 have n6:(kd==6)=false:=beq_eq_false_iff_ne.2 h6
 have n7:(kd==7)=false:=beq_eq_false_iff_ne.2 h7
 have n8:(kd==8)=false:=beq_eq_false_iff_ne.2 h8
 have n9:(kd==9)=false:=beq_eq_false_iff_ne.2 h9
 have n10:(kd==10)=false:=beq_eq_false_iff_ne.2 h10
 have n11:(kd==11)=false:=beq_eq_false_iff_ne.2 h11
 have n12:(kd==12)=false:=beq_eq_false_iff_ne.2 h12
 clear h2 h3 h4 h5 h6 h7 h8 h9 h10 h11 h12;go_wp2;go_ret;exact HR.out
end
section
variable {N:Nat} {w w':World} {g:Nat} {K K':Kw} {V V':Kv}
theorem Gm (h:KAt N w g K V) (hi:KI K) (gr:Gr K) (A B C:Int) (S:ByteArray) (hA0 : -9223372036854775808≤A) (hA1:A≤9223372036854775807) (hB0 : -9223372036854775808≤B) (hB1:B≤9223372036854775807) (hC0 : -9223372036854775808≤C) (hC1:C≤9223372036854775807) (hS:S.size≤1000000) (hm:dI K+200000≤900000000000) :
  Calls Tryz.prog 14 #[Zp (some ⟨g,0,O⟩),.agg #[I J 4,I J A,I J B,I J C,Z S]] w fun e w'=>RnE N w w' g K V 150000 e:=by
 have z:=hi.sz;obtain⟨n,hn⟩:∃ n:Nat,K.n=n:=⟨K.n.toNat,by have:=z.n3;omega⟩
 have z3:=z.n3;have z1:=z.nds;have z7:=z.n7;rw[hn] at z1 z7 z3;have hb0:Below w.heap.size w (w.alloc (.cells #[I J 4,I J A,I J B,I J C,Z S] 28)):=(Below.refl _ w).alloc (Nat.le_refl _) _
 have hx:=heap_alloc_new w (.cells #[I J 4,I J A,I J B,I J C,Z S] 28);have hAt:=h.below hb0;have HL0:=ah ((Rn.refl h hi gr).below hb0);have c1:(w.alloc (.cells #[I J 4,I J A,I J B,I J C,Z S] 28)).cell? ⟨g,1,O⟩=some (I J n):=by rw[← hn];exact hAt.cell 1
 have b1:(w.alloc (.cells #[I J 4,I J A,I J B,I J C,Z S] 28)).cell? ⟨w.heap.size,1,O⟩=some (I J A):=(cell_of_row _ _ _ _ _ _ hx).trans rfl
 obtain⟨q,hqn,hqe⟩:=eF A n (by omega)
 have HP:Hid (∀ w2,Calls Tryz.prog 13 #[I J A,I J n] w2 fun e w'=>e=Zr (I J (q:Int))∧w'=w2):=fun w2=>by rw[← hqe];exact dH A n w2 hA0 hA1 (by omega) (by omega)
 have hKI:=ah hi;clear h hi gr z hAt hqe;go_enter Tryz.func14,Tryz.ntmps14;go_wp2_with fail;generalize w.alloc (.cells #[I J 4,I J A,I J B,I J C,Z S] 28)=wA at *;go_quiet ((go_at_call 13;exact Calls.quiet_of_same (HP.out _)))
 have HL:=ah (HL0.out.below (below_drewN (Below.refl _ _) nq));have hxB:(wA.drewN nq).heap[w.heap.size]? = some (.cells #[I J 4,I J A,I J B,I J C,Z S] 28):=((below_drewN (Below.refl wA.heap.size wA) nq).block _ (lt_of_block hx)).trans hx
 generalize wA.drewN nq=wB at *;clear hx hb0 c1 b1 HL0 HP;have HX:Hid (∀ w2,Below wB.heap.size wB w2→w2.heap[w.heap.size]? = some (.cells #[I J 4,I J A,I J B,I J C,Z S] 28)):=fun w2 hw2=>(hw2.block _ (lt_of_block hxB)).trans hxB
 have wBx:Below wB.heap.size wB wB:=Below.refl _ _
 clear hxB;have hql:q<K.nds.length:=by omega
 have b0:wB.cell? ⟨w.heap.size,0,O⟩=some (I J 4):=(cell_of_row _ _ _ _ _ _ (HX.out _ wBx)).trans rfl
 have b1:wB.cell? ⟨w.heap.size,1,O⟩=some (I J A):=(cell_of_row _ _ _ _ _ _ (HX.out _ wBx)).trans rfl
 have b2:wB.cell? ⟨w.heap.size,2,O⟩=some (I J B):=(cell_of_row _ _ _ _ _ _ (HX.out _ wBx)).trans rfl
 have b4:wB.cell? ⟨w.heap.size,4,O⟩=some (Z S):=(cell_of_row _ _ _ _ _ _ (HX.out _ wBx)).trans rfl
 obtain⟨aP,cP,hvP⟩:=aj HL.out.kst.at_.rP
 have c7:wB.cell? ⟨g,7,O⟩=some (Y aP K.net.length cP):=by rw[← hvP];exact HL.out.kst.at_.cell 7
 have hnl:K.net.length≤900000000000:=by have:=iV K;omega
 have HH:Hid (∀ w2 (k:Nat) (come stay:Bool),Below wB.heap.size wB w2→k<K.net.length→Calls Tryz.prog 32 #[Zp (some ⟨g,0,O⟩),I J k,.bool come,.bool stay] w2 fun e w'=>RnE N w w' g K V 150000 e):=fun w2 k come stay hw2 hk=>by
  have L2:=HL.out.below hw2;refine (kU L2.kst.at_ L2.ki L2.gr k hk come stay (by omega)).mono ?_
  intro e w3 hs;exact StQ.rne L2 hs (by cases come <;> simp)
 by_cases hp:0<K.net.length
 ·have hp':(0:Int)<(K.net.length:Int):=by omega
  obtain⟨k,hk,hke⟩:=eF A K.net.length hp
  have HP:Hid (∀ w2,Calls Tryz.prog 13 #[I J A,I J (K.net.length:Int)] w2 fun e w'=>e=Zr (I J (k:Int))∧w'=w2):=fun w2=>by rw[← hke];exact dH A K.net.length w2 hA0 hA1 hp (by omega)
  clear hke;go_wp2_with fail;go_quiet ((go_at_call 13;exact Calls.quiet_of_same (HP.out _)))
  have wCx:Below wB.heap.size wB (wB.drewN nq):=below_drewN (Below.refl _ _) nq
  generalize wB.drewN nq=wC at *;clear b0 b1 b2 b4;have b0:wC.cell? ⟨w.heap.size,0,O⟩=some (I J 4):=(cell_of_row _ _ _ _ _ _ (HX.out _ wCx)).trans rfl
  have b1:wC.cell? ⟨w.heap.size,1,O⟩=some (I J A):=(cell_of_row _ _ _ _ _ _ (HX.out _ wCx)).trans rfl
  have b2:wC.cell? ⟨w.heap.size,2,O⟩=some (I J B):=(cell_of_row _ _ _ _ _ _ (HX.out _ wCx)).trans rfl
  have nz:¬(2:Int)=0:=by omega
  go_wp2_with fail;refine (HH.out _ k _ _ wCx hk).mono ?_;rintro e w9 ⟨b9,K9,V9,rfl,hS9⟩;go_wp2;go_ret;exact⟨b9,K9,V9,rfl,hS9⟩
 ·have hp':¬(0:Int)<(K.net.length:Int):=by omega
  have HR:=ah (HL.out.rne (d:=150000) true (by omega))
  go_wp2;go_ret;exact HR.out
theorem Gn (h:KAt N w g K V) (hi:KI K) (gr:Gr K) (A B C:Int) (S:ByteArray) (hA0 : -9223372036854775808≤A) (hA1:A≤9223372036854775807) (hB0 : -9223372036854775808≤B) (hB1:B≤9223372036854775807) (hC0 : -9223372036854775808≤C) (hC1:C≤9223372036854775807) (hS:S.size≤1000000) (hm:dI K+200000≤900000000000) :
  Calls Tryz.prog 14 #[Zp (some ⟨g,0,O⟩),.agg #[I J 5,I J A,I J B,I J C,Z S]] w fun e w'=>RnE N w w' g K V 150000 e:=by
 have z:=hi.sz;obtain⟨n,hn⟩:∃ n:Nat,K.n=n:=⟨K.n.toNat,by have:=z.n3;omega⟩
 have z3:=z.n3;have z1:=z.nds;have z7:=z.n7;rw[hn] at z1 z7 z3;have hb0:Below w.heap.size w (w.alloc (.cells #[I J 5,I J A,I J B,I J C,Z S] 28)):=(Below.refl _ w).alloc (Nat.le_refl _) _
 have hx:=heap_alloc_new w (.cells #[I J 5,I J A,I J B,I J C,Z S] 28);have hAt:=h.below hb0;have HL0:=ah ((Rn.refl h hi gr).below hb0);have c1:(w.alloc (.cells #[I J 5,I J A,I J B,I J C,Z S] 28)).cell? ⟨g,1,O⟩=some (I J n):=by rw[← hn];exact hAt.cell 1
 have b1:(w.alloc (.cells #[I J 5,I J A,I J B,I J C,Z S] 28)).cell? ⟨w.heap.size,1,O⟩=some (I J A):=(cell_of_row _ _ _ _ _ _ hx).trans rfl
 obtain⟨q,hqn,hqe⟩:=eF A n (by omega)
 have HP:Hid (∀ w2,Calls Tryz.prog 13 #[I J A,I J n] w2 fun e w'=>e=Zr (I J (q:Int))∧w'=w2):=fun w2=>by rw[← hqe];exact dH A n w2 hA0 hA1 (by omega) (by omega)
 have hKI:=ah hi;clear h hi gr z hAt hqe;go_enter Tryz.func14,Tryz.ntmps14;go_wp2_with fail;generalize w.alloc (.cells #[I J 5,I J A,I J B,I J C,Z S] 28)=wA at *;go_quiet ((go_at_call 13;exact Calls.quiet_of_same (HP.out _)))
 have HL:=ah (HL0.out.below (below_drewN (Below.refl _ _) nq));have hxB:(wA.drewN nq).heap[w.heap.size]? = some (.cells #[I J 5,I J A,I J B,I J C,Z S] 28):=((below_drewN (Below.refl wA.heap.size wA) nq).block _ (lt_of_block hx)).trans hx
 generalize wA.drewN nq=wB at *;clear hx hb0 c1 b1 HL0 HP;have HX:Hid (∀ w2,Below wB.heap.size wB w2→w2.heap[w.heap.size]? = some (.cells #[I J 5,I J A,I J B,I J C,Z S] 28)):=fun w2 hw2=>(hw2.block _ (lt_of_block hxB)).trans hxB
 have wBx:Below wB.heap.size wB wB:=Below.refl _ _
 clear hxB;have hql:q<K.nds.length:=by omega
 have b0:wB.cell? ⟨w.heap.size,0,O⟩=some (I J 5):=(cell_of_row _ _ _ _ _ _ (HX.out _ wBx)).trans rfl
 have b1:wB.cell? ⟨w.heap.size,1,O⟩=some (I J A):=(cell_of_row _ _ _ _ _ _ (HX.out _ wBx)).trans rfl
 have b2:wB.cell? ⟨w.heap.size,2,O⟩=some (I J B):=(cell_of_row _ _ _ _ _ _ (HX.out _ wBx)).trans rfl
 have b4:wB.cell? ⟨w.heap.size,4,O⟩=some (Z S):=(cell_of_row _ _ _ _ _ _ (HX.out _ wBx)).trans rfl
 obtain⟨aP,cP,hvP⟩:=aj HL.out.kst.at_.rP
 have c7:wB.cell? ⟨g,7,O⟩=some (Y aP K.net.length cP):=by rw[← hvP];exact HL.out.kst.at_.cell 7
 have hnl:K.net.length≤900000000000:=by have:=iV K;omega
 have HH:Hid (∀ w2 (k:Nat) (come stay:Bool),Below wB.heap.size wB w2→k<K.net.length→Calls Tryz.prog 32 #[Zp (some ⟨g,0,O⟩),I J k,.bool come,.bool stay] w2 fun e w'=>RnE N w w' g K V 150000 e):=fun w2 k come stay hw2 hk=>by
  have L2:=HL.out.below hw2;refine (kU L2.kst.at_ L2.ki L2.gr k hk come stay (by omega)).mono ?_
  intro e w3 hs;exact StQ.rne L2 hs (by cases come <;> simp)
 by_cases hp:0<K.net.length
 ·have hp':(0:Int)<(K.net.length:Int):=by omega
  obtain⟨k,hk,hke⟩:=eF A K.net.length hp
  have HP:Hid (∀ w2,Calls Tryz.prog 13 #[I J A,I J (K.net.length:Int)] w2 fun e w'=>e=Zr (I J (k:Int))∧w'=w2):=fun w2=>by rw[← hke];exact dH A K.net.length w2 hA0 hA1 hp (by omega)
  clear hke;go_wp2_with fail;go_quiet ((go_at_call 13;exact Calls.quiet_of_same (HP.out _)))
  have wCx:Below wB.heap.size wB (wB.drewN nq):=below_drewN (Below.refl _ _) nq
  generalize wB.drewN nq=wC at *;clear b0 b1 b2 b4;have b0:wC.cell? ⟨w.heap.size,0,O⟩=some (I J 5):=(cell_of_row _ _ _ _ _ _ (HX.out _ wCx)).trans rfl
  have b1:wC.cell? ⟨w.heap.size,1,O⟩=some (I J A):=(cell_of_row _ _ _ _ _ _ (HX.out _ wCx)).trans rfl
  have b2:wC.cell? ⟨w.heap.size,2,O⟩=some (I J B):=(cell_of_row _ _ _ _ _ _ (HX.out _ wCx)).trans rfl
  have nz:¬(2:Int)=0:=by omega
  go_wp2_with fail;refine (HH.out _ k _ _ wCx hk).mono ?_;rintro e w9 ⟨b9,K9,V9,rfl,hS9⟩;go_wp2;go_ret;exact⟨b9,K9,V9,rfl,hS9⟩
 ·have hp':¬(0:Int)<(K.net.length:Int):=by omega
  have HR:=ah (HL.out.rne (d:=150000) true (by omega))
  go_wp2;go_ret;exact HR.out
theorem Em (h:KAt N w g K V) (hi:KI K) (gr:Gr K) (A B C:Int) (S:ByteArray) (hA0 : -9223372036854775808≤A) (hA1:A≤9223372036854775807) (hB0 : -9223372036854775808≤B) (hB1:B≤9223372036854775807) (hC0 : -9223372036854775808≤C) (hC1:C≤9223372036854775807) (hS:S.size≤1000000) (hm:dI K+200000≤900000000000) :
  Calls Tryz.prog 14 #[Zp (some ⟨g,0,O⟩),.agg #[I J 12,I J A,I J B,I J C,Z S]] w fun e w'=>RnE N w w' g K V 150000 e:=by
 have z:=hi.sz;obtain⟨n,hn⟩:∃ n:Nat,K.n=n:=⟨K.n.toNat,by have:=z.n3;omega⟩
 have z3:=z.n3;have z1:=z.nds;have z7:=z.n7;rw[hn] at z1 z7 z3;have hb0:Below w.heap.size w (w.alloc (.cells #[I J 12,I J A,I J B,I J C,Z S] 28)):=(Below.refl _ w).alloc (Nat.le_refl _) _
 have hx:=heap_alloc_new w (.cells #[I J 12,I J A,I J B,I J C,Z S] 28);have hAt:=h.below hb0;have HL0:=ah ((Rn.refl h hi gr).below hb0);have c1:(w.alloc (.cells #[I J 12,I J A,I J B,I J C,Z S] 28)).cell? ⟨g,1,O⟩=some (I J n):=by rw[← hn];exact hAt.cell 1
 have b1:(w.alloc (.cells #[I J 12,I J A,I J B,I J C,Z S] 28)).cell? ⟨w.heap.size,1,O⟩=some (I J A):=(cell_of_row _ _ _ _ _ _ hx).trans rfl
 obtain⟨q,hqn,hqe⟩:=eF A n (by omega)
 have HP:Hid (∀ w2,Calls Tryz.prog 13 #[I J A,I J n] w2 fun e w'=>e=Zr (I J (q:Int))∧w'=w2):=fun w2=>by rw[← hqe];exact dH A n w2 hA0 hA1 (by omega) (by omega)
 have hKI:=ah hi;clear h hi gr z hAt hqe;go_enter Tryz.func14,Tryz.ntmps14;go_wp2_with fail;generalize w.alloc (.cells #[I J 12,I J A,I J B,I J C,Z S] 28)=wA at *;go_quiet ((go_at_call 13;exact Calls.quiet_of_same (HP.out _)))
 have HL:=ah (HL0.out.below (below_drewN (Below.refl _ _) nq));have hxB:(wA.drewN nq).heap[w.heap.size]? = some (.cells #[I J 12,I J A,I J B,I J C,Z S] 28):=((below_drewN (Below.refl wA.heap.size wA) nq).block _ (lt_of_block hx)).trans hx
 generalize wA.drewN nq=wB at *;clear hx hb0 c1 b1 HL0 HP;have HX:Hid (∀ w2,Below wB.heap.size wB w2→w2.heap[w.heap.size]? = some (.cells #[I J 12,I J A,I J B,I J C,Z S] 28)):=fun w2 hw2=>(hw2.block _ (lt_of_block hxB)).trans hxB
 have wBx:Below wB.heap.size wB wB:=Below.refl _ _
 clear hxB;have hql:q<K.nds.length:=by omega
 have b0:wB.cell? ⟨w.heap.size,0,O⟩=some (I J 12):=(cell_of_row _ _ _ _ _ _ (HX.out _ wBx)).trans rfl
 have b1:wB.cell? ⟨w.heap.size,1,O⟩=some (I J A):=(cell_of_row _ _ _ _ _ _ (HX.out _ wBx)).trans rfl
 have b2:wB.cell? ⟨w.heap.size,2,O⟩=some (I J B):=(cell_of_row _ _ _ _ _ _ (HX.out _ wBx)).trans rfl
 have b4:wB.cell? ⟨w.heap.size,4,O⟩=some (Z S):=(cell_of_row _ _ _ _ _ _ (HX.out _ wBx)).trans rfl
 obtain⟨aP,cP,hvP⟩:=aj HL.out.kst.at_.rP
 have c7:wB.cell? ⟨g,7,O⟩=some (Y aP K.net.length cP):=by rw[← hvP];exact HL.out.kst.at_.cell 7
 have hnl:K.net.length≤900000000000:=by have:=iV K;omega
 have HH:Hid (∀ w2 (k:Nat) (come stay:Bool),Below wB.heap.size wB w2→k<K.net.length→Calls Tryz.prog 32 #[Zp (some ⟨g,0,O⟩),I J k,.bool come,.bool stay] w2 fun e w'=>RnE N w w' g K V 150000 e):=fun w2 k come stay hw2 hk=>by
  have L2:=HL.out.below hw2;refine (kU L2.kst.at_ L2.ki L2.gr k hk come stay (by omega)).mono ?_
  intro e w3 hs;exact StQ.rne L2 hs (by cases come <;> simp)
 by_cases hs1:(S.size:Int)=1
 ·have hs1':((S.size:Int)==1)=true:=beq_iff_eq.2 hs1
  have HF:Hid (Calls Tryz.prog 33 #[Zp (some ⟨g,0,O⟩),Z S,I J q] wB fun e w'=>Ke K.net.length wB w' e):=F7 HL.out.kst.at_ S q (fun y hy=>(hKI.out.net y hy).2.2)
  clear hs1 c7;go_wp2_with fail;refine HF.out.mono ?_;rintro e wC ⟨r,rfl,hr0,hr1,wCx⟩;clear b0 b1 b2 b4;have b0:wC.cell? ⟨w.heap.size,0,O⟩=some (I J 12):=(cell_of_row _ _ _ _ _ _ (HX.out _ wCx)).trans rfl
  have b1:wC.cell? ⟨w.heap.size,1,O⟩=some (I J A):=(cell_of_row _ _ _ _ _ _ (HX.out _ wCx)).trans rfl
  have b2:wC.cell? ⟨w.heap.size,2,O⟩=some (I J B):=(cell_of_row _ _ _ _ _ _ (HX.out _ wCx)).trans rfl
  by_cases hr:0≤r
  ·obtain⟨k,rfl⟩:=Int.eq_ofNat_of_zero_le hr
   have hk:k<K.net.length:=by omega
   go_wp2_with fail;refine (HH.out _ k _ _ wCx hk).mono ?_;rintro e w9 ⟨b9,K9,V9,rfl,hS9⟩;go_wp2;go_ret;exact⟨b9,K9,V9,rfl,hS9⟩
  ·have HR:=ah ((HL.out.below wCx).rne (d:=150000) true (by omega))
   go_wp2;go_ret;exact HR.out
 ·have hs1':((S.size:Int)==1)=false:=beq_eq_false_iff_ne.2 hs1
  have HR:=ah (HL.out.rne (d:=150000) true (by omega))
  clear hs1;go_wp2;go_ret;exact HR.out
theorem El (h:KAt N w g K V) (hi:KI K) (gr:Gr K) (A B C:Int) (S:ByteArray) (hA0 : -9223372036854775808≤A) (hA1:A≤9223372036854775807) (hB0 : -9223372036854775808≤B) (hB1:B≤9223372036854775807) (hC0 : -9223372036854775808≤C) (hC1:C≤9223372036854775807) (hS:S.size≤1000000) (hm:dI K+200000≤900000000000) :
  Calls Tryz.prog 14 #[Zp (some ⟨g,0,O⟩),.agg #[I J 11,I J A,I J B,I J C,Z S]] w fun e w'=>RnE N w w' g K V 150000 e:=by
 have z:=hi.sz;obtain⟨n,hn⟩:∃ n:Nat,K.n=n:=⟨K.n.toNat,by have:=z.n3;omega⟩
 have z3:=z.n3;have z1:=z.nds;have z7:=z.n7;rw[hn] at z1 z7 z3;have hb0:Below w.heap.size w (w.alloc (.cells #[I J 11,I J A,I J B,I J C,Z S] 28)):=(Below.refl _ w).alloc (Nat.le_refl _) _
 have hx:=heap_alloc_new w (.cells #[I J 11,I J A,I J B,I J C,Z S] 28);have hAt:=h.below hb0;have HL0:=ah ((Rn.refl h hi gr).below hb0);have c1:(w.alloc (.cells #[I J 11,I J A,I J B,I J C,Z S] 28)).cell? ⟨g,1,O⟩=some (I J n):=by rw[← hn];exact hAt.cell 1
 have b1:(w.alloc (.cells #[I J 11,I J A,I J B,I J C,Z S] 28)).cell? ⟨w.heap.size,1,O⟩=some (I J A):=(cell_of_row _ _ _ _ _ _ hx).trans rfl
 obtain⟨q,hqn,hqe⟩:=eF A n (by omega)
 have HP:Hid (∀ w2,Calls Tryz.prog 13 #[I J A,I J n] w2 fun e w'=>e=Zr (I J (q:Int))∧w'=w2):=fun w2=>by rw[← hqe];exact dH A n w2 hA0 hA1 (by omega) (by omega)
 have hKI:=ah hi;clear h hi gr z hAt hqe;go_enter Tryz.func14,Tryz.ntmps14;go_wp2_with fail;generalize w.alloc (.cells #[I J 11,I J A,I J B,I J C,Z S] 28)=wA at *;go_quiet ((go_at_call 13;exact Calls.quiet_of_same (HP.out _)))
 have HL:=ah (HL0.out.below (below_drewN (Below.refl _ _) nq));have hxB:(wA.drewN nq).heap[w.heap.size]? = some (.cells #[I J 11,I J A,I J B,I J C,Z S] 28):=((below_drewN (Below.refl wA.heap.size wA) nq).block _ (lt_of_block hx)).trans hx
 generalize wA.drewN nq=wB at *;clear hx hb0 c1 b1 HL0 HP;have HX:Hid (∀ w2,Below wB.heap.size wB w2→w2.heap[w.heap.size]? = some (.cells #[I J 11,I J A,I J B,I J C,Z S] 28)):=fun w2 hw2=>(hw2.block _ (lt_of_block hxB)).trans hxB
 have wBx:Below wB.heap.size wB wB:=Below.refl _ _
 clear hxB;have hql:q<K.nds.length:=by omega
 have b0:wB.cell? ⟨w.heap.size,0,O⟩=some (I J 11):=(cell_of_row _ _ _ _ _ _ (HX.out _ wBx)).trans rfl
 have b1:wB.cell? ⟨w.heap.size,1,O⟩=some (I J A):=(cell_of_row _ _ _ _ _ _ (HX.out _ wBx)).trans rfl
 have b2:wB.cell? ⟨w.heap.size,2,O⟩=some (I J B):=(cell_of_row _ _ _ _ _ _ (HX.out _ wBx)).trans rfl
 have b4:wB.cell? ⟨w.heap.size,4,O⟩=some (Z S):=(cell_of_row _ _ _ _ _ _ (HX.out _ wBx)).trans rfl
 obtain⟨m,hm64,hme⟩:=eF A 64 (by omega)
 have HP:Hid (∀ w2,Calls Tryz.prog 13 #[I J A,I J 64] w2 fun e w'=>e=Zr (I J (m:Int))∧w'=w2):=fun w2=>by
  have:=dH A 64 w2 hA0 hA1 (by omega) (by omega)
  rw[← hme];exact this
 have HH1:Hid (∀ (wr:World) (K':Kw) (V':Kv),Rn N w wr g K V 0 K' V'→0<K'.net.length→Calls Tryz.prog 32 #[Zp (some ⟨g,0,O⟩),I J 0,.bool true,.bool false] wr fun e w'=>∃ b K2 V2,e=Zr (.bool b)∧(b=false→RnE N w w' g K V 150000 (Zr (.bool false)))∧(b=true→Rn N w w' g K V 0 K2 V2)):=fun wr K' V' L hk=>by
  refine (kU L.kst.at_ L.ki L.gr 0 hk true false (by have:=L.ms;omega)).mono ?_
  rintro e w2 ⟨b,K2,V2,rfl,k2,ki2,ms2,nl2,n2,gr2⟩;simp only[if_true,Bool.false_eq_true,if_false] at ms2 nl2;have:=L.ms
  exact⟨b,K2,V2,rfl,fun hb=>⟨false,K2,V2,rfl,L.kst.trans k2,ki2,by omega,n2.trans L.n,fun h=>by simp at h⟩,fun hb=>⟨L.kst.trans k2,ki2,by omega,n2.trans L.n,gr2 hb⟩⟩
 clear hme;go_wp2_with fail;refine (HP.out _).mono ?_;rintro e wC ⟨rfl,hwC⟩;subst hwC;clear b0 b1 b2 b4;go_wp2_with fail;go_loopw [21] (fun i wr=>∃ (k:Nat) (K':Kw) (V':Kv),k≤64∧i=I J k∧Rn N w wr g K V 0 K' V') (fun i _=>(intOf i).toNat)
 case atStart=>exact⟨m,K,V,by omega,rfl,HL.out⟩
 case round =>
  obtain⟨k,K1,V1,hk,rfl,L1⟩:=hrel
  have HL1:=ah L1;obtain⟨aP,cP,hvP⟩:=aj L1.kst.at_.rP
  have c7:wr.cell? ⟨g,7,O⟩=some (Y aP K1.net.length cP):=by rw[← hvP];exact L1.kst.at_.cell 7
  clear L1;have HR:=ah (HL1.out.rne (d:=150000) true (by omega))
  by_cases hk0:0<k
  ·have hk':(0:Int)<(k:Int):=by omega
   by_cases hp:0<K1.net.length
   ·have hp':(0:Int)<(K1.net.length:Int):=by omega
    have HQ:=ah (HH1.out _ _ _ HL1.out hp);go_wp2_with fail;refine HQ.out.mono ?_;rintro e w2 ⟨b,K2,V2,rfl,hno,hyes⟩;cases b
    ·have HF:=ah (hno rfl);clear hno hyes;go_wp2;go_ret;exact HF.out
    ·have HY:=ah (hyes rfl);clear hno hyes;go_wp2;go_roundw
     case rel=>exact⟨k-1,K2,V2,by omega,by rw[show ((k-1:Nat):Int)=(k:Int)-1 by omega],HY.out⟩
     case measure=>simp[intOf];omega
   ·have hp':¬(0:Int)<(K1.net.length:Int):=by omega
    go_wp2;go_ret;exact HR.out
  ·have hk':¬(0:Int)<(k:Int):=by omega
   go_wp2;go_ret;exact HR.out
end
theorem Tryz.infoPt:(Tryz.prog.info? 29).map (fun i=>(i.zero,i.size,i.bytes))=some (some (Zp O),1,8):=by kernel_rfl
theorem Tryz.infoBo:(Tryz.prog.info? 4).map (fun i=>(i.zero,i.size,i.bytes))=some (some (.bool false),1,1):=by kernel_rfl
section
variable {N:Nat} {w w':World} {g:Nat} {K K':Kw} {V V':Kv}
def ClP (N:Nat) (w w':World) (n:Int) (e:Ending):Prop:=∃ g K V,e=Zr (Zp (some ⟨g,0,O⟩))∧KAt N w' g K V∧KI K∧Gr K∧K.n=n∧dI K≤208000000000∧Below w.heap.size w w'
theorem uJ (n:Nat) (s:ByteArray) (w:World) (hT:Tab w) (hN:0<N) (hNw:N≤w.heap.size) (hn3:3≤n) (hn7:n≤7) (hs:s.size≤1000000) :
  Calls Tryz.prog 12 #[I J n,Z s] w fun e w'=>ClP N w w' n e:=by
 obtain⟨iS0,hiS,ziS0,ziS1,ziS2⟩:=info_parts Tryz.infoStr
 obtain⟨iP0,hiP,ziP0,ziP1,ziP2⟩:=info_parts Tryz.infoPt
 obtain⟨iB0,hiB,ziB0,ziB1,ziB2⟩:=info_parts Tryz.infoBo
 obtain⟨iI0,hiI,ziI0,ziI1,ziI2⟩:=info_parts Tryz.infoInt
 have hb0:Below w.heap.size w (w.alloc (.cells #[I J 0,I J (n:Int),Y O 0 0,Y O 0 0,Y O 0 0,I J 0,I J 0,Y O 0 0,Y O 0 0,Y O 0 0,Y O 0 0,Y O 0 0,I J 0] 50)):=(Below.refl _ w).alloc (Nat.le_refl _) _
 have HA0:Hid (KAt N (w.alloc (.cells #[I J 0,I J (n:Int),Y O 0 0,Y O 0 0,Y O 0 0,I J 0,I J 0,Y O 0 0,Y O 0 0,Y O 0 0,Y O 0 0,Y O 0 0,I J 0] 50)) w.heap.size (K0 n) V0):=KAt.fresh (n:=n) hT hN hNw
 have HBl:Hid (∀ {w2:World},Kp (iy w.heap.size (K0 n) V0) (w.alloc (.cells #[I J 0,I J (n:Int),Y O 0 0,Y O 0 0,Y O 0 0,I J 0,I J 0,Y O 0 0,Y O 0 0,Y O 0 0,Y O 0 0,Y O 0 0,I J 0] 50)) w2→Below w.heap.size w w2):=fun k=>qY hb0 k (fun y hy=>by
  have e:iy w.heap.size (K0 n) V0=[w.heap.size]:=rfl
  rw[e] at hy;simp at hy;omega)
 have HTb:=ah (hT.below hb0);have h0w:0<(w.alloc (.cells #[I J 0,I J (n:Int),Y O 0 0,Y O 0 0,Y O 0 0,I J 0,I J 0,Y O 0 0,Y O 0 0,Y O 0 0,Y O 0 0,Y O 0 0,I J 0] 50)).heap.size:=by simp
 clear hT hb0;by_cases hg:aV s.data.toList n=true
 focus
  have HNw:=ah (nR 0 n s _ HTb.out (by unfold maxLen;omega) ⟨by omega,by omega,by omega,by omega⟩ hg h0w)
  have HGG:Hid (aV s.data.toList (n:Int)=true):=hg
  obtain⟨GG,rfl⟩:∃ x,x=s:=⟨_,rfl⟩
 rotate_left
 focus
  have hg:aV s.data.toList n=false:=by simpa using hg
  have HNw:=ah (GU 0 n s (w.alloc (.cells #[I J 0,I J (n:Int),Y O 0 0,Y O 0 0,Y O 0 0,I J 0,I J 0,Y O 0 0,Y O 0 0,Y O 0 0,Y O 0 0,Y O 0 0,I J 0] 50)) (by unfold maxLen;omega) ⟨by omega,by omega,by omega,by omega⟩ hg)
  have HGG:Hid (aV (⟨#[48,49,50]⟩:ByteArray).data.toList (n:Int)=true):=by
   have:n=3∨n=4∨n=5∨n=6∨n=7:=by omega
   show aV _ _=true
   rcases this with rfl|rfl|rfl|rfl|rfl <;> decide
  have hGs:(⟨#[48,49,50]⟩:ByteArray).size≤1000000:=by decide
 rotate_left
 all_goals
  clear hg h0w HTb;go_enter Tryz.func12,Tryz.ntmps12;go_wp2_with fail;generalize w.alloc (.cells #[I J 0,I J (n:Int),Y O 0 0,Y O 0 0,Y O 0 0,I J 0,I J 0,Y O 0 0,Y O 0 0,Y O 0 0,Y O 0 0,Y O 0 0,I J 0] 50)=w1 at *;refine HNw.out.mono ?_
 focus
  rintro e wB ⟨b1,bl1,W1,F1,V1,rfl,_,_,_,hbB⟩
 rotate_left
 focus
  rintro e wB ⟨rfl,hbB⟩
 rotate_left
 all_goals
  obtain⟨KB,hKB⟩:∃ x,x=K0 (n:Int):=⟨_,rfl⟩
  obtain⟨VB,hVB⟩:∃ x,x=V0:=⟨_,rfl⟩
  have HSB:Hid (Kst N w1 wB w.heap.size (K0 n) V0 KB VB):=by rw[hKB,hVB];exact (Kst.refl HA0.out).below hbB
  have hKBg:KB.groups.length≤10:=by rw[hKB];simp[K0]
  have HKB:=ah hKB;clear hbB HNw hVB hKB
 rotate_left
 focus
  go_upto_region 5 with fail
  generalize hGGe:(⟨#[48,49,50]⟩:ByteArray)=GG at *;have HGG:Hid (aV GG.data.toList (n:Int)=true):=by rw[← hGGe];exact HGG.out
  clear hGGe
 rotate_left
 all_goals
  have h5:=HSB.out.at_;obtain⟨aR,cR,hvR⟩:=aj h5.rG
  have hrow:=h5.rG;have cj:wB.cell? ⟨w.heap.size,11,O⟩=some VB.vG:=h5.cell 11
  have fj:=h5.free 11;have hne:some w.heap.size≠VB.vG.ownBlock:=h5.gne (i:=7) rfl
  rw[hvR] at hrow cj hne;have hlb:w.heap.size<wB.heap.size:=h5.lb
  clear h5;go_upto_region 6 with (at_builtin;refine wpList_append_lies (w:=wB.alloc (.cells #[Z GG] 9)) (by rfl) (.tmp 27) (.tmp 29) 48 (by rfl) 0 9 iS0 (Z Ze) 1 16 Tryz.underlying48 hiS ziS0 ziS1 ziS2 rfl (by decide) (Y aR KB.groups.length cR) KB.groups.length (KB.groups.map Value.string) (by rfl) (hrow.alloc _) ⟨wB.heap.size,0,O⟩ 1 1 [Z GG] (by rfl) (by rfl) (World.news_of_block (heap_alloc_new wB (.cells #[Z GG] 9))) (by intro u hu;simp at hu;subst hu;rfl) (by decide) (by unfold maxLen;omega) (by omega) (Nat.zero_le _) (wB.heap.size+1) (by simp) ?_;intro g4 cap4 w4 hown4 hg4 hat4 hlt4;have hb2:Below wB.heap.size wB (wB.alloc (.cells #[Z GG] 9)):=(Below.refl _ wB).alloc (Nat.le_refl _) _;have t4:w4.cell? ⟨w.heap.size,11,O⟩=some (Y aR KB.groups.length cR):=(hg4.cell_far ⟨w.heap.size,11,O⟩ (by simp;omega) hne).trans ((hb2.cell (p:=⟨w.heap.size,11,O⟩) hlb).trans cj);have f4:w4.frozen? ⟨w.heap.size,11,O⟩=false:=(hg4.frozen_far ⟨w.heap.size,11,O⟩ (by simp;omega) hne).trans ((hb2.frozen (p:=⟨w.heap.size,11,O⟩) hlb).trans fj))
  have ho4:w4.ownsRow 0 9 1 (Y (some ⟨g4,0,O⟩) (KB.groups.length+1) cap4) (KB.groups++[GG]).length ((KB.groups++[GG]).map Value.string):=by
   rw[show (KB.groups++[GG]).length=KB.groups.length+1 by simp,List.map_append];exact hown4
  have HSC:=ah (HSB.out.trans (HSB.out.at_.newRow (V':={ VB with vG:=Y (some ⟨g4,0,O⟩) (KB.groups.length+1) cap4 }) (K':={ KB with groups:=KB.groups++[GG] }) (i:=7) (w1:=w4) (r:=⟨9,1,VB.vG,KB.groups.length,KB.groups.map Value.string⟩) (r':=⟨9,1,Y (some ⟨g4,0,O⟩) (KB.groups.length+1) cap4,(KB.groups++[GG]).length,(KB.groups++[GG]).map Value.string⟩) rfl
   ((Kp.of_below hb2).trans' (by rw[hvR];exact Kp.row hg4)) ho4 (fun u hu=>by
    simp[Value.ownBlock] at hu;subst hu
    show VB.vG.ownBlock=_∨_
    rw[hvR];exact hat4.imp (fun q=>q) (fun q=>by omega)) 11 rfl rfl rfl))
  clear hown4 hg4 hat4 hlt4 ho4;clear t4 f4 hrow cj fj hne hlb hb2;generalize w4.setCell ⟨w.heap.size,11,O⟩ (Y (some ⟨g4,0,O⟩) (KB.groups.length+1) cap4)=wC at *;generalize hVx:({ VB with vG:=Y (some ⟨g4,0,O⟩) (KB.groups.length+1) cap4 }:Kv)=VC at *
  generalize hKx:({ KB with groups:=KB.groups++[GG] }:Kw)=KC at *
  have HCl:Hid (Cl n 0 0 GG KC):=by
   rw[← hKx,HKB.out];exact⟨rfl,rfl,rfl,rfl,rfl,rfl,rfl,rfl,rfl,rfl,rfl,rfl,by simp[K0]⟩
  clear hKx hVx;go_wp2_with fail;go_loopw [8] (fun i wr=>∃ (k:Nat) (K':Kw) (V':Kv),k≤n∧i=I J k∧Kst N w1 wr w.heap.size (K0 n) V0 K' V'∧Cl n k 0 GG K') (fun i _=>n-(intOf i).toNat)
  case atStart=>exact⟨0,KC,VC,Nat.zero_le _,rfl,HSC.out,HCl.out⟩
  case round =>
   obtain⟨k,KD,VD,hk,rfl,kD,cD⟩:=hrel
   have HSD:=ah kD;have HCD:=ah cD;have hnl:KD.nds.length≤7:=by rw[cD.nl];omega
   have hdl:KD.down.length≤7:=by rw[cD.dl];omega
   have hbl:KD.begun.length≤7:=by rw[cD.bl];omega
   clear kD cD;by_cases hlt:k<n
   ·have j1:(k:Int)<(n:Int):=by omega
    have HNw:=ah (nR k n GG wr HSD.out.at_.tab (by unfold maxLen;omega) ⟨by omega,by omega,by omega,by omega⟩ HGG.out (by have:=HSD.out.at_.Nlt;omega))
    have HOk:=ah (GA (id:=k) (n:=n) (s:=GG) ⟨by omega,by omega,by omega,by omega⟩ HGG.out)
    go_wp2_with fail;refine HNw.out.mono ?_;rintro e wE ⟨bE,blE,WE,FE,VE,rfl,hRE,hvE,hFE,hbE⟩;have HRE:=ah hRE;have HvE:=ah hvE;have HFE:=ah hFE;clear hRE hvE hFE;obtain⟨X,hX⟩:∃ X:Nod,X=⟨bE,blE,WE,FE,Rp.new k n (dA GG),VE⟩:=⟨_,rfl⟩
    have HXn:Hid (nE X=Zp (some ⟨bE,0,O⟩)):=by rw[hX];trivial
    have HXR:Hid (ay wE X.b X.bl X.W X.F X.R X.V∧(∀ y∈X.F,wr.heap.size≤y)):=by rw[hX];exact⟨HRE.out,HFE.out⟩
    have HXi:Hid (NI n k X∧X.R=Rp.new k n (dA GG)):=by
     rw[hX];refine⟨⟨HOk.out,rfl,fun h3=>?_,rfl,HvE.out,rfl,rfl⟩,rfl⟩
     exfalso
     have h3:(if iQ (dA GG) k=true then (1:Int) else 4)=3:=h3
     split at h3 <;> omega
    have HSE:Hid (Kst N w1 wE w.heap.size (K0 n) V0 KD VD):=HSD.out.below hbE
    clear hX HRE HvE HFE HOk;have h5:=HSE.out.at_;obtain⟨aR,cR,hvR⟩:=aj h5.rN
    have hrow:=h5.rN;have cj:wE.cell? ⟨w.heap.size,2,O⟩=some VD.vN:=h5.cell 2
    have fj:=h5.free 2;have hne:some w.heap.size≠VD.vN.ownBlock:=h5.gne (i:=0) rfl
    rw[hvR] at hrow cj hne;have hlb:w.heap.size<wE.heap.size:=h5.lb
    clear h5;go_upto_region 13 with (at_builtin;refine wpList_append_lies (w:=wE.alloc (.cells #[Zp (some ⟨bE,0,O⟩)] 29)) (by rfl) (.tmp 51) (.tmp 53) 42 (by rfl) 0 29 iP0 (Zp O) 1 8 Tryz.underlying42 hiP ziP0 ziP1 ziP2 rfl (by decide) (Y aR KD.nds.length cR) KD.nds.length (KD.nds.map nE) (by rfl) (hrow.alloc _) ⟨wE.heap.size,0,O⟩ 1 1 [Zp (some ⟨bE,0,O⟩)] (by rfl) (by rfl) (World.news_of_block (heap_alloc_new wE (.cells #[Zp (some ⟨bE,0,O⟩)] 29))) (by intro u hu;simp at hu;subst hu;rfl) (by decide) (by unfold maxLen;omega) (by omega) (Nat.zero_le _) (wE.heap.size+1) (by simp) ?_;intro g4 cap4 w4 hown4 hg4 hat4 hlt4;have hb2:Below wE.heap.size wE (wE.alloc (.cells #[Zp (some ⟨bE,0,O⟩)] 29)):=(Below.refl _ wE).alloc (Nat.le_refl _) _;have t4:w4.cell? ⟨w.heap.size,2,O⟩=some (Y aR KD.nds.length cR):=(hg4.cell_far ⟨w.heap.size,2,O⟩ (by simp;omega) hne).trans ((hb2.cell (p:=⟨w.heap.size,2,O⟩) hlb).trans cj);have f4:w4.frozen? ⟨w.heap.size,2,O⟩=false:=(hg4.frozen_far ⟨w.heap.size,2,O⟩ (by simp;omega) hne).trans ((hb2.frozen (p:=⟨w.heap.size,2,O⟩) hlb).trans fj))
    have ho4:w4.ownsRow 0 29 1 (Y (some ⟨g4,0,O⟩) (KD.nds.length+1) cap4) (KD.nds++[X]).length ((KD.nds++[X]).map nE):=by
     rw[show (KD.nds++[X]).length=KD.nds.length+1 by simp,List.map_append,List.map_cons,List.map_nil,HXn.out];exact hown4
    have HSF:Hid (Kst N w1 (w4.setCell ⟨w.heap.size,2,O⟩ (Y (some ⟨g4,0,O⟩) (KD.nds.length+1) cap4)) w.heap.size (K0 n) V0 { KD with nds:=KD.nds++[X] } { VD with vN:=Y (some ⟨g4,0,O⟩) (KD.nds.length+1) cap4 }) :=
     HSD.out.trans (HSD.out.at_.OJ (hbE.trans (hb2.mono hbE.size)) (HXR.out.1.below hb2) HXR.out.2 (by rw[hvR];exact Kp.row hg4) ho4 (fun u hu=>by
      simp[Value.ownBlock] at hu;subst hu;rw[hvR];exact hat4.imp (fun q=>q) (fun q=>by simp;omega)))
    clear hown4 hg4 hat4 hlt4 ho4 HSE;clear t4 f4 hrow cj fj hne hlb hb2;generalize w4.setCell ⟨w.heap.size,2,O⟩ (Y (some ⟨g4,0,O⟩) (KD.nds.length+1) cap4)=wF at *;generalize ({ VD with vN:=Y (some ⟨g4,0,O⟩) (KD.nds.length+1) cap4 }:Kv)=VF at *
    generalize hKF:({ KD with nds:=KD.nds++[X] }:Kw)=KF at *
    have hdF:KF.down.length≤7:=by rw[← hKF];exact hdl
    have h5:=HSF.out.at_;obtain⟨aR,cR,hvR⟩:=aj h5.rD
    have hrow:=h5.rD;have cj:wF.cell? ⟨w.heap.size,3,O⟩=some VF.vD:=h5.cell 3
    have fj:=h5.free 3;have hne:some w.heap.size≠VF.vD.ownBlock:=h5.gne (i:=1) rfl
    rw[hvR] at hrow cj hne;have hlb:w.heap.size<wF.heap.size:=h5.lb
    clear h5;go_upto_region 14 with (at_builtin;refine wpList_append_lies (w:=wF.alloc (.cells #[.bool false] 4)) (by rfl) (.tmp 61) (.tmp 62) 43 (by rfl) 0 4 iB0 (.bool false) 1 1 Tryz.underlying43 hiB ziB0 ziB1 ziB2 rfl (by decide) (Y aR KF.down.length cR) KF.down.length (KF.down.map Value.bool) (by rfl) (hrow.alloc _) ⟨wF.heap.size,0,O⟩ 1 1 [.bool false] (by rfl) (by rfl) (World.news_of_block (heap_alloc_new wF (.cells #[.bool false] 4))) (by intro u hu;simp at hu;subst hu;rfl) (by decide) (by unfold maxLen;omega) (by omega) (Nat.zero_le _) (wF.heap.size+1) (by simp) ?_;intro g4 cap4 w4 hown4 hg4 hat4 hlt4;have hb2:Below wF.heap.size wF (wF.alloc (.cells #[.bool false] 4)):=(Below.refl _ wF).alloc (Nat.le_refl _) _;have t4:w4.cell? ⟨w.heap.size,3,O⟩=some (Y aR KF.down.length cR):=(hg4.cell_far ⟨w.heap.size,3,O⟩ (by simp;omega) hne).trans ((hb2.cell (p:=⟨w.heap.size,3,O⟩) hlb).trans cj);have f4:w4.frozen? ⟨w.heap.size,3,O⟩=false:=(hg4.frozen_far ⟨w.heap.size,3,O⟩ (by simp;omega) hne).trans ((hb2.frozen (p:=⟨w.heap.size,3,O⟩) hlb).trans fj))
    have ho4:w4.ownsRow 0 4 1 (Y (some ⟨g4,0,O⟩) (KF.down.length+1) cap4) (KF.down++[false]).length ((KF.down++[false]).map Value.bool):=by
     rw[show (KF.down++[false]).length=KF.down.length+1 by simp,List.map_append];exact hown4
    have HSG:=ah (HSF.out.trans (HSF.out.at_.newRow (V':={ VF with vD:=Y (some ⟨g4,0,O⟩) (KF.down.length+1) cap4 }) (K':={ KF with down:=KF.down++[false] }) (i:=1) (w1:=w4) (r:=⟨4,1,VF.vD,KF.down.length,KF.down.map Value.bool⟩) (r':=⟨4,1,Y (some ⟨g4,0,O⟩) (KF.down.length+1) cap4,(KF.down++[false]).length,(KF.down++[false]).map Value.bool⟩) rfl
     ((Kp.of_below hb2).trans' (by rw[hvR];exact Kp.row hg4)) ho4 (fun u hu=>by
      simp[Value.ownBlock] at hu;subst hu
      show VF.vD.ownBlock=_∨_
      rw[hvR];exact hat4.imp (fun q=>q) (fun q=>by omega)) 3 rfl rfl rfl))
    clear hown4 hg4 hat4 hlt4 ho4;clear t4 f4 hrow cj fj hne hlb hb2;generalize w4.setCell ⟨w.heap.size,3,O⟩ (Y (some ⟨g4,0,O⟩) (KF.down.length+1) cap4)=wG at *;generalize hVx:({ VF with vD:=Y (some ⟨g4,0,O⟩) (KF.down.length+1) cap4 }:Kv)=VG at *
    generalize hKx:({ KF with down:=KF.down++[false] }:Kw)=KG at *
    have hbG:KG.begun.length≤7:=by rw[← hKx,← hKF];exact hbl
    have HKG:Hid (KG={ KF with down:=KF.down++[false] }):=hKx.symm
    clear hKx hVx;have h5:=HSG.out.at_;obtain⟨aR,cR,hvR⟩:=aj h5.rB
    have hrow:=h5.rB;have cj:wG.cell? ⟨w.heap.size,4,O⟩=some VG.vB:=h5.cell 4
    have fj:=h5.free 4;have hne:some w.heap.size≠VG.vB.ownBlock:=h5.gne (i:=2) rfl
    rw[hvR] at hrow cj hne;have hlb:w.heap.size<wG.heap.size:=h5.lb
    clear h5;go_upto_region 8 with (at_builtin;refine wpList_append_lies (w:=wG.alloc (.cells #[I J (-1)] 3)) (by rfl) (.tmp 70) (.tmp 71) 44 (by rfl) 0 3 iI0 (I J 0) 1 8 Tryz.underlying44 hiI ziI0 ziI1 ziI2 rfl (by decide) (Y aR KG.begun.length cR) KG.begun.length (KG.begun.map (Value.int .i64)) (by rfl) (hrow.alloc _) ⟨wG.heap.size,0,O⟩ 1 1 [I J (-1)] (by rfl) (by rfl) (World.news_of_block (heap_alloc_new wG (.cells #[I J (-1)] 3))) (by intro u hu;simp at hu;subst hu;rfl) (by decide) (by unfold maxLen;omega) (by omega) (Nat.zero_le _) (wG.heap.size+1) (by simp) ?_;intro g4 cap4 w4 hown4 hg4 hat4 hlt4;have hb2:Below wG.heap.size wG (wG.alloc (.cells #[I J (-1)] 3)):=(Below.refl _ wG).alloc (Nat.le_refl _) _;have t4:w4.cell? ⟨w.heap.size,4,O⟩=some (Y aR KG.begun.length cR):=(hg4.cell_far ⟨w.heap.size,4,O⟩ (by simp;omega) hne).trans ((hb2.cell (p:=⟨w.heap.size,4,O⟩) hlb).trans cj);have f4:w4.frozen? ⟨w.heap.size,4,O⟩=false:=(hg4.frozen_far ⟨w.heap.size,4,O⟩ (by simp;omega) hne).trans ((hb2.frozen (p:=⟨w.heap.size,4,O⟩) hlb).trans fj))
    have ho4:w4.ownsRow 0 3 1 (Y (some ⟨g4,0,O⟩) (KG.begun.length+1) cap4) (KG.begun++[(-1:Int)]).length ((KG.begun++[(-1:Int)]).map (Value.int .i64)):=by
     rw[show (KG.begun++[(-1:Int)]).length=KG.begun.length+1 by simp,List.map_append];exact hown4
    have HSH:=ah (HSG.out.trans (HSG.out.at_.newRow (V':={ VG with vB:=Y (some ⟨g4,0,O⟩) (KG.begun.length+1) cap4 }) (K':={ KG with begun:=KG.begun++[(-1:Int)] }) (i:=2) (w1:=w4) (r:=⟨3,1,VG.vB,KG.begun.length,KG.begun.map (Value.int .i64)⟩) (r':=⟨3,1,Y (some ⟨g4,0,O⟩) (KG.begun.length+1) cap4,(KG.begun++[(-1:Int)]).length,(KG.begun++[(-1:Int)]).map (Value.int .i64)⟩) rfl
     ((Kp.of_below hb2).trans' (by rw[hvR];exact Kp.row hg4)) ho4 (fun u hu=>by
      simp[Value.ownBlock] at hu;subst hu
      show VG.vB.ownBlock=_∨_
      rw[hvR];exact hat4.imp (fun q=>q) (fun q=>by omega)) 4 rfl rfl rfl))
    clear hown4 hg4 hat4 hlt4 ho4;clear t4 f4 hrow cj fj hne hlb hb2;generalize w4.setCell ⟨w.heap.size,4,O⟩ (Y (some ⟨g4,0,O⟩) (KG.begun.length+1) cap4)=wH at *;generalize hVx:({ VG with vB:=Y (some ⟨g4,0,O⟩) (KG.begun.length+1) cap4 }:Kv)=VH at *
    generalize hKx:({ KG with begun:=KG.begun++[(-1:Int)] }:Kw)=KH at *
    have HCH:Hid (Cl n (k+1) 0 GG KH):=by
     have c:=HCD.out;have hnk:=c.nl;rw[← hKx,HKG.out,← hKF];refine⟨c.part,c.n,by simp[c.nl],by simp[c.dl],by simp[c.bl],c.lv,c.net,c.ws,c.ol,c.ls,c.gs,c.fl,fun q x hx=>?_⟩
     simp only at hx
     by_cases hq:q<KD.nds.length
     ·rw[List.getElem?_append_left hq] at hx;exact c.nod q x hx
     ·rw[List.getElem?_append_right (by omega)] at hx
      have hq0:q-KD.nds.length=0:=by
       have:=(List.getElem?_eq_some_iff.1 hx).1
       simp at this;omega
      rw[hq0] at hx;simp at hx;subst hx;have:q=k:=by omega
      subst this;exact HXi.out
    clear hKx hVx hKF;go_wp2;go_roundw
    case rel=>exact⟨k+1,KH,VH,by omega,by go_num,HSH.out,HCH.out⟩
    case measure=>simp[intOf];omega
   ·have j1:¬(k:Int)<(n:Int):=by omega
    obtain rfl:k=n:=by omega
    obtain⟨wL,HwL⟩:∃ x,x=wr:=⟨_,rfl⟩
    subst HwL;go_wp2_with fail;go_loopw [11] (fun i wr=>∃ (c:Nat) (K':Kw) (V':Kv),c≤10∧i=I J c∧Kst N w1 wr w.heap.size (K0 k) V0 K' V'∧Cl k k c GG K') (fun i _=>10-(intOf i).toNat)
    case atStart=>exact⟨0,KD,VD,Nat.zero_le _,rfl,HSD.out,HCD.out⟩
    case round =>
     obtain⟨c,KI_,VI,hc,rfl,kI,cI⟩:=hrel
     have HSI:=ah kI;have HCI:=ah cI;have hol:KI_.opn.length≤10:=by rw[cI.ol];simp;omega
     clear kI cI;by_cases hlc:c<10
     ·have j2:(c:Int)≤9:=by omega
      have h5:=HSI.out.at_;obtain⟨aR,cR,hvR⟩:=aj h5.rO
      have hrow:=h5.rO;have cj:wr.cell? ⟨w.heap.size,9,O⟩=some VI.vO:=h5.cell 9
      have fj:=h5.free 9;have hne:some w.heap.size≠VI.vO.ownBlock:=h5.gne (i:=5) rfl
      rw[hvR] at hrow cj hne;have hlb:w.heap.size<wr.heap.size:=h5.lb
      clear h5;go_upto_region 17 with (at_builtin;refine wpList_append_lies (w:=wr.alloc (.cells #[I J (-1)] 3)) (by rfl) (.tmp 83) (.tmp 84) 44 (by rfl) 0 3 iI0 (I J 0) 1 8 Tryz.underlying44 hiI ziI0 ziI1 ziI2 rfl (by decide) (Y aR KI_.opn.length cR) KI_.opn.length (KI_.opn.map (Value.int .i64)) (by rfl) (hrow.alloc _) ⟨wr.heap.size,0,O⟩ 1 1 [I J (-1)] (by rfl) (by rfl) (World.news_of_block (heap_alloc_new wr (.cells #[I J (-1)] 3))) (by intro u hu;simp at hu;subst hu;rfl) (by decide) (by unfold maxLen;omega) (by omega) (Nat.zero_le _) (wr.heap.size+1) (by simp) ?_;intro g4 cap4 w4 hown4 hg4 hat4 hlt4;have hb2:Below wr.heap.size wr (wr.alloc (.cells #[I J (-1)] 3)):=(Below.refl _ wr).alloc (Nat.le_refl _) _;have t4:w4.cell? ⟨w.heap.size,9,O⟩=some (Y aR KI_.opn.length cR):=(hg4.cell_far ⟨w.heap.size,9,O⟩ (by simp;omega) hne).trans ((hb2.cell (p:=⟨w.heap.size,9,O⟩) hlb).trans cj);have f4:w4.frozen? ⟨w.heap.size,9,O⟩=false:=(hg4.frozen_far ⟨w.heap.size,9,O⟩ (by simp;omega) hne).trans ((hb2.frozen (p:=⟨w.heap.size,9,O⟩) hlb).trans fj))
      have ho4:w4.ownsRow 0 3 1 (Y (some ⟨g4,0,O⟩) (KI_.opn.length+1) cap4) (KI_.opn++[(-1:Int)]).length ((KI_.opn++[(-1:Int)]).map (Value.int .i64)):=by
       rw[show (KI_.opn++[(-1:Int)]).length=KI_.opn.length+1 by simp,List.map_append];exact hown4
      have HSJ:=ah (HSI.out.trans (HSI.out.at_.newRow (V':={ VI with vO:=Y (some ⟨g4,0,O⟩) (KI_.opn.length+1) cap4 }) (K':={ KI_ with opn:=KI_.opn++[(-1:Int)] }) (i:=5) (w1:=w4) (r:=⟨3,1,VI.vO,KI_.opn.length,KI_.opn.map (Value.int .i64)⟩) (r':=⟨3,1,Y (some ⟨g4,0,O⟩) (KI_.opn.length+1) cap4,(KI_.opn++[(-1:Int)]).length,(KI_.opn++[(-1:Int)]).map (Value.int .i64)⟩) rfl
       ((Kp.of_below hb2).trans' (by rw[hvR];exact Kp.row hg4)) ho4 (fun u hu=>by
        simp[Value.ownBlock] at hu;subst hu
        show VI.vO.ownBlock=_∨_
        rw[hvR];exact hat4.imp (fun q=>q) (fun q=>by omega)) 9 rfl rfl rfl))
      clear hown4 hg4 hat4 hlt4 ho4;clear t4 f4 hrow cj fj hne hlb hb2;generalize w4.setCell ⟨w.heap.size,9,O⟩ (Y (some ⟨g4,0,O⟩) (KI_.opn.length+1) cap4)=wJ at *;generalize hVx:({ VI with vO:=Y (some ⟨g4,0,O⟩) (KI_.opn.length+1) cap4 }:Kv)=VJ at *
      generalize hKx:({ KI_ with opn:=KI_.opn++[(-1:Int)] }:Kw)=KJ at *
      have HCJ:Hid (Cl k k (c+1) GG KJ):=by
       have d:=HCI.out;rw[← hKx];exact⟨d.part,d.n,d.nl,d.dl,d.bl,d.lv,d.net,d.ws,by simp only[d.ol];rw[List.replicate_succ'],d.ls,d.gs,d.fl,d.nod⟩
      clear hKx hVx;go_wp2;go_roundw
      case rel=>exact⟨c+1,KJ,VJ,by omega,by go_num,HSJ.out,HCJ.out⟩
      case measure=>simp[intOf];omega
     ·have j2:¬(c:Int)≤9:=by omega
      obtain rfl:c=10:=by omega
      have hki:=HCI.out.ki ⟨by omega,by omega⟩ rfl HGG.out
      have HF:Hid (ClP N w wr k (Zr (Zp (some ⟨w.heap.size,0,O⟩)))):=⟨w.heap.size,KI_,VI,rfl,HSI.out.at_,hki.1,hki.2.1,HCI.out.n,hki.2.2,HBl.out HSI.out.kp⟩
      clear hki;go_wp2;go_ret;exact HF.out
end
namespace Al
def G3:ByteArray:=⟨#[48,49,50]⟩
def RA:Rp:=Rp.new 0 3 (dA G3)
def RB:Rp:=Rp.new 1 3 (dA G3)
def Q1:ByteArray:=⟨#[113,32,49,32,49,32,112,97,53]⟩
def EN:En:=(1,1,⟨#[112,97,53]⟩)
theorem g3:dA G3=[0,1,2]:=by decide
theorem dg0:dg 0=⟨#[48]⟩:=by unfold dg;simp[uw]
theorem dg1:dg 1=⟨#[49]⟩:=by unfold dg;simp[uw]
theorem LD:RA.leads=true:=by decide
theorem cq1:bP Q1 32=[⟨#[113]⟩,⟨#[49]⟩,⟨#[49]⟩,⟨#[112,97,53]⟩]:=by kernel_rfl
theorem oq1:lU [⟨#[113]⟩,⟨#[49]⟩,⟨#[49]⟩,⟨#[112,97,53]⟩] 3=true:=by kernel_rfl
theorem wq1:aZ Q1 3=[⟨#[113]⟩,⟨#[49]⟩,⟨#[49]⟩,⟨#[112,97,53]⟩]:=by
 rw[qW,if_neg (by decide),cq1,if_pos oq1]
theorem ra1 {P:Pm} (hk:P.kind=113) (he:P.ent=EN):RA.take P=({ RA with log:=[EN] }:Rp).bF 1:=by
 unfold Rp.take Rp.bT;rw[hk,he,if_pos (by decide),if_pos LD,if_neg (by decide),if_neg (by decide),if_neg (fun h=>absurd h.1 (by decide)),if_neg (fun h=>absurd h.1 (by decide))]
 unfold Rp.propose;rw[if_neg (by decide)]
 rfl
def T1:ByteArray:=⟨#[112,32,48,32,48,46,48,46,48,32,48,32,48,32,49,32,49,46,49,46,112,97,53,32,48]⟩
theorem lv3:gQ (dB 3)=⟨#[48,46,48,46,48]⟩:=by
 unfold gQ;simp only[dB,List.map_replicate,dg0]
 kernel_rfl
theorem t1:gB (({ RA with log:=[EN] }:Rp).eP 1)=T1:=by
 unfold gB;simp only[Rp.eP,Rp.head,RA,Rp.new,Rp.mk0];have e3:(3:Int).toNat=3:=rfl
 rw[e3,lv3,dg0];unfold gU;rw[if_pos (by decide)]
 unfold iA;simp only[EN,dg0,dg1];have e1:dg ((0:Nat):Int)=⟨#[48]⟩:=dg0
 have e4:([((1:Int),(1:Int),(⟨#[112,97,53]⟩:ByteArray))].getD ((1:Int)-1).toNat (0,0,⟨#[]⟩))=((1:Int),(1:Int),(⟨#[112,97,53]⟩:ByteArray)):=rfl
 rw[e4];simp only[dg1];rw[e1]
 first|done|rfl|decide
def RA1:Rp:={ RA with log:=[EN],out:=[(1,T1),(2,T1)] }
theorem ra2:(({ RA with log:=[EN] }:Rp).bF 1)=RA1:=by
 unfold Rp.bF;rw[if_neg (by decide)]
 unfold Rp.fI;rw[t1]
 rfl
def RA2:Rp:={ RA with log:=[EN] }
theorem ct1:bP T1 32=[⟨#[112]⟩,⟨#[48]⟩,⟨#[48,46,48,46,48]⟩,⟨#[48]⟩,⟨#[48]⟩,⟨#[49]⟩,⟨#[49,46,49,46,112,97,53]⟩,⟨#[48]⟩]:=by kernel_rfl
theorem ot1:lU [⟨#[112]⟩,⟨#[48]⟩,⟨#[48,46,48,46,48]⟩,⟨#[48]⟩,⟨#[48]⟩,⟨#[49]⟩,⟨#[49,46,49,46,112,97,53]⟩,⟨#[48]⟩] 3=true:=by kernel_rfl
theorem wt1:aZ T1 3=[⟨#[112]⟩,⟨#[48]⟩,⟨#[48,46,48,46,48]⟩,⟨#[48]⟩,⟨#[48]⟩,⟨#[49]⟩,⟨#[49,46,49,46,112,97,53]⟩,⟨#[48]⟩]:=by
 rw[qW,if_neg (by decide),ct1,if_pos ot1]
theorem rb1 {x1 x2:Int} {x3 x4:List Int} {x5:List En}:RB.take ⟨112,0,[0,0,0],0,0,1,EN,0,x1,x2,x3,x4,x5⟩=(({ RB with log:=[EN] }:Rp).ack 0):=by
 rfl
def T2:ByteArray:=⟨#[107,32,49,32,48,46,48,46,48,32,48,32,48,32,49]⟩
theorem t2:gB ({ ({ RB with log:=[EN] }:Rp).head 107 with place:=(({ RB with log:=[EN] }:Rp).log.length:Int) })=T2:=by
 unfold gB;simp only[Rp.head,RB,Rp.new,Rp.mk0];have e3:(3:Int).toNat=3:=rfl
 rw[e3,lv3,dg0];unfold gU;rw[if_neg (by decide),if_pos (by decide)]
 have e1:dg (([EN].length:Nat):Int)=⟨#[49]⟩:=dg1
 rw[e1,dg1]
 first|done|rfl|decide
theorem ct2:bP T2 32=[⟨#[107]⟩,⟨#[49]⟩,⟨#[48,46,48,46,48]⟩,⟨#[48]⟩,⟨#[48]⟩,⟨#[49]⟩]:=by kernel_rfl
theorem ot2:lU [⟨#[107]⟩,⟨#[49]⟩,⟨#[48,46,48,46,48]⟩,⟨#[48]⟩,⟨#[48]⟩,⟨#[49]⟩] 3=true:=by kernel_rfl
theorem wt2:aZ T2 3=[⟨#[107]⟩,⟨#[49]⟩,⟨#[48,46,48,46,48]⟩,⟨#[48]⟩,⟨#[48]⟩,⟨#[49]⟩]:=by
 rw[qW,if_neg (by decide),ct2,if_pos ot2]
theorem ra3 {x0 x1 x2:Int} {x3 x4:List Int} {x5:List En} {e:En}:(RA2.take ⟨107,1,[0,0,0],0,0,1,e,x0,x1,x2,x3,x4,x5⟩).out=[(-1,YS++dg 1++SP++dg 1++SP++OKb)]:=by
 kernel_rfl
theorem ra4 {x0 x1 x2:Int} {x3 x4:List Int} {x5:List En} {e:En}:vI (RA2.take ⟨107,1,[0,0,0],0,0,1,e,x0,x1,x2,x3,x4,x5⟩).sv 97=⟨#[53]⟩:=by
 kernel_rfl
theorem y1:YS++dg 1++SP++dg 1++SP++OKb=(⟨#[121,32,49,32,49,32,111,107]⟩:ByteArray):=by
 rw[dg1];kernel_rfl
theorem pk2 {P:Pm} (h:qp 3 [⟨#[107]⟩,⟨#[49]⟩,⟨#[48,46,48,46,48]⟩,⟨#[48]⟩,⟨#[48]⟩,⟨#[49]⟩] P):P.kind=107∧P.frm=1∧P.lives=[0,0,0]∧P.epoch=0∧P.view=0∧P.place=1:=by
 obtain⟨b,hb,hk⟩:=h.kind
 have hr:=h.rep (by kernel_rfl)
 have he:((⟨#[107]⟩:ByteArray)).toList=[107]:=by kernel_rfl
 have hb':[(107:UInt8)]=[b]:=he.symm.trans hb
 have:b=107:=by simpa using hb'.symm
 subst this;exact⟨hk,hr.frm.trans (by kernel_rfl),hr.lives.trans (by kernel_rfl),hr.epoch.trans (by kernel_rfl),hr.view.trans (by kernel_rfl),(hr.k (by kernel_rfl)).trans (by kernel_rfl)⟩
theorem pq1 {P:Pm} (h:qp 3 [⟨#[113]⟩,⟨#[49]⟩,⟨#[49]⟩,⟨#[112,97,53]⟩] P):P.kind=113∧P.ent=EN:=by
 obtain⟨b,hb,hk⟩:=h.kind
 have he:((⟨#[113]⟩:ByteArray)).toList=[113]:=by kernel_rfl
 have hb':[(113:UInt8)]=[b]:=he.symm.trans hb
 have:b=113:=by simpa using hb'.symm
 subst this;exact⟨hk,(h.q he).trans (by kernel_rfl)⟩
theorem pt1 {P:Pm} (h:qp 3 [⟨#[112]⟩,⟨#[48]⟩,⟨#[48,46,48,46,48]⟩,⟨#[48]⟩,⟨#[48]⟩,⟨#[49]⟩,⟨#[49,46,49,46,112,97,53]⟩,⟨#[48]⟩] P):P.kind=112∧P.frm=0∧P.lives=[0,0,0]∧P.epoch=0∧P.view=0∧P.place=1∧P.ent=EN∧P.commit=0:=by
 obtain⟨b,hb,hk⟩:=h.kind
 have hr:=h.rep (by kernel_rfl)
 have he:((⟨#[112]⟩:ByteArray)).toList=[112]:=by kernel_rfl
 have hb':[(112:UInt8)]=[b]:=he.symm.trans hb
 have:b=112:=by simpa using hb'.symm
 subst this;have hp:=hr.p (by kernel_rfl)
 exact⟨hk,hr.frm.trans (by kernel_rfl),hr.lives.trans (by kernel_rfl),hr.epoch.trans (by kernel_rfl),hr.view.trans (by kernel_rfl),hp.1.trans (by kernel_rfl),hp.2.1.trans (by kernel_rfl),hp.2.2.trans (by kernel_rfl)⟩
theorem tk1 {R':Rp} (h:TkR RA Q1 R'):R'=RA1:=by
 rcases h with ⟨h,_⟩|⟨_,P,_,hM,rfl⟩
 ·have:aZ Q1 3=[]:=h
  rw[wq1] at this;simp at this
 ·have hM:qp 3 (aZ Q1 3) P:=hM
  rw[wq1] at hM;obtain⟨hk,he⟩:=pq1 hM
  rw[ra1 hk he,ra2]
theorem tk2 {R':Rp} (h:TkR RB T1 R'):R'.out=[(0,T2)]:=by
 rcases h with ⟨h,_⟩|⟨_,P,_,hM,rfl⟩
 ·have:aZ T1 3=[]:=h
  rw[wt1] at this;simp at this
 ·have hM:qp 3 (aZ T1 3) P:=hM
  rw[wt1] at hM;obtain⟨h1,h2,h3,h4,h5,h6,h7,h8⟩:=pt1 hM
  obtain⟨kd,fr,lv,ep,vi,pl,en,co,no,li,gr,ol,lg⟩:=P
  simp only at h1 h2 h3 h4 h5 h6 h7 h8
  subst h1 h2 h3 h4 h5 h6 h7 h8;rw[rb1];unfold Rp.ack Rp.send;rw[t2]
  rfl
theorem tk3 {R':Rp} (h:TkR RA2 T2 R'):R'.out=[(-1,⟨#[121,32,49,32,49,32,111,107]⟩)]∧vI R'.sv 97=⟨#[53]⟩:=by
 rcases h with ⟨h,_⟩|⟨_,P,_,hM,rfl⟩
 ·have:aZ T2 3=[]:=h
  rw[wt2] at this;simp at this
 ·have hM:qp 3 (aZ T2 3) P:=hM
  rw[wt2] at hM;obtain⟨h1,h2,h3,h4,h5,h6⟩:=pk2 hM
  obtain⟨kd,fr,lv,ep,vi,pl,en,co,no,li,gr,ol,lg⟩:=P
  simp only at h1 h2 h3 h4 h5 h6
  subst h1 h2 h3 h4 h5 h6;exact⟨by rw[ra3,y1],ra4⟩
end Al
section
open Go.RowKit Go.ChangeShapes Go.WideShapes Go.ChangeAt
theorem own:ownKnob Tryz.prog.godebug=O:=by kernel_rfl
theorem laidOut:laidOutB Tryz.prog=true:=by kernel_rfl
theorem D5 (os:Os):laidMet Tryz.prog Rows.nothingLostRow.laid ((World.doorLaid Tryz.prog 400 os).forCall (fun _ _=>0) ⟨#[],#[Y O 0 0],[]⟩).memory :=
 laidMet_of_run' 8 (by kernel_rfl) (by kernel_rfl)
end
end Go.Proofs.YtbnihoahhomooaaGreatDoor
