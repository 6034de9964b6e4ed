import Derived.Test.YtbnihoahhomooaaGreatDoorA01
import Derived.Deep.CutRange
import Derived.Shelf.Strconv.Itoa3
import Derived.Lib.AppendIntMem
import Derived.Ground.NamesProg
import Derived.Shelf.Lay
import Derived.Lib.QuietBelow
set_option maxRecDepth 100000
set_option maxHeartbeats 8000000
set_option linter.all false
namespace Go.Proofs.YtbnihoahhomooaaGreatDoor
open Go.Value renaming int→I,slice→Y,string→Z,pointer→Zp
open Go.Ending renaming returned→Zr
open _root_.ByteArray renaming empty→Ze
open Go.IntKind renaming i64→J
open Option renaming none→O
open Go.RowKit
theorem dJ {fn:Func} {t u:Tmp} {T:TypeId} (h:fn.results=#[.cell t T,.tmp u]) (tmps:Array Value) (P:Program) (w:World) {p:Addr} {v:Value} (hp:tmps.getD t undef=Zp (some p)) (hl:(loadVar T p).run P w=.ok v w) :
  (results fn tmps).run P w=.ok (.tuple #[v,tmps.getD u undef]) w:=by
 have hp':tmps[t]?.getD undef=Zp (some p):=by simpa using hp
 simp only[results,h];simp[hp',hl,asAddr]
theorem Tryz.sizeEnt:(Tryz.prog.info? 66).map (fun i=>i.size)=some 3:=by kernel_rfl
theorem zN (w:World) (g:Nat) (c n:Int) (op:ByteArray) (fr:Nat×Nat) (t:TypeId) (hg:w.heap[g]? = some (.cells #[I J c,I J n,Z op] t fr)):(loadVar 66 ⟨g,0,O⟩).run Tryz.prog w=.ok (qm c n op) w :=
 run_loadVar_row w g t 66 _ fr _ hg Tryz.underlying66 rfl Tryz.sizeEnt
def jh (W:World) (g:Nat) (a b c:Value):World:=((W.setCell ⟨g,0,O⟩ a).setCell ⟨g,1,O⟩ b).setCell ⟨g,2,O⟩ c
theorem rQ {W:World} {g:Nat} {x y z a b c:Value} {t:TypeId} (h:W.heap[g]? = some (.cells #[x,y,z] t (0,0))):(jh W g a b c).heap[g]? = some (.cells #[a,b,c] t (0,0)):=by
 have h1:=heap_setCell_same W g 0 _ _ a h;have h2:=heap_setCell_same _ g 1 _ _ b h1;have h3:=heap_setCell_same _ g 2 _ _ c h2
 simpa [jh] using h3
theorem pG {B:Nat} {w W:World} {g:Nat} {a b c:Value} (h:Below B w W) (hg:B≤g):Below B w (jh W g a b c):=((h.setCell (p:=⟨g,0,O⟩) hg a).setCell (p:=⟨g,1,O⟩) hg b).setCell (p:=⟨g,2,O⟩) hg c
def dX (s:ByteArray) (n:Int):Int×Int×ByteArray:=if dR s n=true then (aF ((bP s 46).getD 0 Ze).data.toList,aF ((bP s 46).getD 1 Ze).data.toList,opB s) else (0,0,⟨#[]⟩)
theorem yt (op:ByteArray) (n:Int):jH op.data.toList n=(dU op.data.toList||(iU op&&aV (op.extract 1 op.size).data.toList n)):=by
 unfold jH iU;rw[drop1];by_cases h:op.data.toList.head? = some 114
 ·rw[if_pos h,h];have:dU op.data.toList=false:=by
   unfold dU;have e:op.data.toList.getD 0 0=114:=by rw[List.head?_eq_getElem?] at h;rw[List.getD,h];rfl
   rw[e];simp[fQ]
  rw[this];simp
 ·rw[if_neg h];have:(op.data.toList.head?==some 114)=false:=by rw[beq_eq_false_iff_ne];exact h
  rw[this];simp
theorem Cb (s:ByteArray) (n:Int) (w:World) (hs:s.size≤1000000) :
  Calls Tryz.prog 153 #[Z s,I J n] w fun e w'=>e=Zr (.tuple #[qm (dX s n).1 (dX s n).2.1 (dX s n).2.2,.bool (dR s n)])∧Below w.heap.size w w':=by
 have hsz:=lW s 46;have HV0:Hid (dR s n=false→dX s n=(0,0,⟨#[]⟩)):=fun q=>by unfold dX;rw[q];rfl
 have HV1:Hid (dR s n=true→dX s n=(aF ((bP s 46).getD 0 Ze).data.toList,aF ((bP s 46).getD 1 Ze).data.toList,(bP s 46).getD 2 Ze)):=fun q=>by unfold dX;rw[q];rfl
 have HE:Hid (dR s n=ze (bP s 46) n):=rfl
 have HSp:Hid (∀ w,Calls Tryz.prog 40 #[Z s,I .u8 46] w fun e w'=>∃ v,e=Zr v∧w'.ownsRow w.heap.size 9 1 v (bP s 46).length ((bP s 46).map Value.string)∧Below w.heap.size w w'):=fun w=>rM s 46 w (by omega)
 generalize bP s 46=ps at *;generalize dX s n=ev at *;generalize dR s n=ie at *;have hbA:Below w.heap.size w (w.alloc (.cells #[I J 0,I J 0,Z ⟨#[]⟩] 66)):=(Below.refl _ w).alloc (Nat.le_refl _) _
 have hBA:=heap_alloc_new w (.cells #[I J 0,I J 0,Z ⟨#[]⟩] 66);have HNo:Hid (∀ W:World,Below w.heap.size w W→W.heap[w.heap.size]? = some (.cells #[I J 0,I J 0,Z ⟨#[]⟩] 66 (0,0))→ie=false→(Zr (.tuple #[qm 0 0 ⟨#[]⟩,.bool false])=Zr (.tuple #[qm ev.1 ev.2.1 ev.2.2,.bool ie])∧Below w.heap.size w W)):=fun W q _ r=>⟨by rw[HV0.out r,r],q⟩
 go_enter Tryz.func153,Tryz.ntmps153;go_wp2_with fail;refine (HSp.out _).mono ?_;rintro e w1 ⟨v1,rfl,hown,hb1⟩;have hb01:=hbA.trans (hb1.mono hbA.size);have hB1:=(hb1.block _ (by simp)).trans hBA
 have hst:=Strs.bR hown;obtain⟨a1,cap1,rfl,_,_⟩:=hst.shape
 clear hown hbA hBA hb1;have y0:w1.cell? ⟨w.heap.size,0,O⟩=some (I J 0):=by simp[World.cell?,hB1]
 have y1:w1.cell? ⟨w.heap.size,1,O⟩=some (I J 0):=by simp[World.cell?,hB1]
 have y2:w1.cell? ⟨w.heap.size,2,O⟩=some (Z ⟨#[]⟩):=by simp[World.cell?,hB1]
 have f0:∀ j,w1.frozen? ⟨w.heap.size,j,O⟩=false:=fun j=>by simp[World.frozen?,hB1]
 have HEnd:Hid (∀ (W:World) (x y z:Value),Below w.heap.size w W→W.heap[w.heap.size]? = some (.cells #[x,y,z] 66 (0,0))→ie=false→Below w.heap.size w (jh W w.heap.size (I J 0) (I J 0) (Z ⟨#[]⟩))∧(loadVar 66 ⟨w.heap.size,0,O⟩).run Tryz.prog (jh W w.heap.size (I J 0) (I J 0) (Z ⟨#[]⟩))=.ok (qm 0 0 ⟨#[]⟩) (jh W w.heap.size (I J 0) (I J 0) (Z ⟨#[]⟩))∧ev=(0,0,⟨#[]⟩)):=fun W x y z q r t=>⟨pG q (Nat.le_refl _),zN _ _ _ _ _ _ _ (rQ r),HV0.out t⟩
 clear HNo;by_cases h3:ps.length=3
 ·have p3:((ps.length:Int) != 3)=false:=by rw[h3];rfl
  have l0:0<ps.length:=by omega
  have l1:1<ps.length:=by omega
  have l2:2<ps.length:=by omega
  have e0:ps.getD 0 Ze=ps[0]:=by simp[List.getD,l0]
  have e1:ps.getD 1 Ze=ps[1]:=by simp[List.getD,l1]
  have e2:ps.getD 2 Ze=ps[2]:=by simp[List.getD,l2]
  have z0:=hsz ps[0] (List.getElem_mem _);have z1:=hsz ps[1] (List.getElem_mem _);have z2:=hsz ps[2] (List.getElem_mem _);have HI:Hid (ie=(au ps[0].data.toList 1 9&&au ps[1].data.toList 1 999&&(dU ps[2].data.toList||(iU ps[2]&&aV (ps[2].extract 1 ps[2].size).data.toList n)))):=by
   unfold Hid;rw[HE.out,← yt]
   match ps,h3 with
   | [a,b,c],_=>rfl
  have HV:Hid (ie=true→ev=(aF ps[0].data.toList,aF ps[1].data.toList,ps[2])):=fun q=>by rw[HV1.out q,e0,e1,e2]
  have HN0:Hid (∀ w,Calls Tryz.prog 150 #[Z ps[0],I J 1,I J 9] w fun e w'=>e=Zr (.tuple #[I J (aC ps[0] 1 9),.bool (au ps[0].data.toList 1 9)])∧w'=w):=fun w=>pz _ _ _ w (by unfold maxLen;omega) (by omega) (by omega)
  have HN1:Hid (∀ w,Calls Tryz.prog 150 #[Z ps[1],I J 1,I J 999] w fun e w'=>e=Zr (.tuple #[I J (aC ps[1] 1 999),.bool (au ps[1].data.toList 1 999)])∧w'=w):=fun w=>pz _ _ _ w (by unfold maxLen;omega) (by omega) (by omega)
  have HNv0:Hid (au ps[0].data.toList 1 9=true→aC ps[0] 1 9=aF ps[0].data.toList):=fun q=>by unfold aC;rw[q];rfl
  have HNv1:Hid (au ps[1].data.toList 1 999=true→aC ps[1] 1 999=aF ps[1].data.toList):=fun q=>by unfold aC;rw[q];rfl
  have HFr:Hid (∀ w,Calls Tryz.prog 152 #[Z ps[2]] w fun e w'=>e=Zr (Z ps[2])∧Below w.heap.size w w'):=fun w=>Cc ps[2] w
  have HOp:Hid (∀ w,Calls Tryz.prog 151 #[Z ps[2]] w fun e w'=>e=Zr (.bool (dU ps[2].data.toList))∧w'=w):=fun w=>qg ps[2] w (by unfold maxLen;omega)
  have HNg:Hid (∀ (c m:Int) w,Calls Tryz.prog 45 #[.agg #[I J c,I J m,Z ps[2]],I J n] w fun e w'=>∃ v,e=Zr v∧(v=Y O 0 0↔(iU ps[2]&&aV (ps[2].extract 1 ps[2].size).data.toList n)=false)∧Below w.heap.size w w'∧∃ a l c,v=Y a l c∧(a=O→l=0∧c=0)):=fun c m w=>(nV c m ps[2] n w (by unfold maxLen;omega)).mono (by
   rintro e w' ⟨v,h1,h2,h3,h4⟩;refine⟨v,h1,h3,h4,?_⟩
   cases hr:iU ps[2]
   ·exact⟨O,0,0,h3.2 (by rw[hr];rfl),fun _=>⟨rfl,rfl⟩⟩
   ·rcases (h2 hr).2 with ⟨hv,_⟩|⟨g,cap,cur,hv,_⟩
    ·exact⟨O,0,0,hv,fun _=>⟨rfl,rfl⟩⟩
    ·exact⟨_,_,_,hv,fun hc=>by simp at hc⟩)
  obtain⟨bp,op,rfl,hbp,x0⟩:=hst.get 0 l0
  rw[Nat.add_zero] at x0;obtain⟨bx,ox,he,_,x1⟩:=hst.get 1 l1
  simp only[Option.some.injEq,Addr.mk.injEq] at he;obtain⟨rfl,rfl,_⟩:=he
  obtain⟨bx,ox,he,_,x2⟩:=hst.get 2 l2
  simp only[Option.some.injEq,Addr.mk.injEq] at he;obtain⟨rfl,rfl,_⟩:=he
  have i0:(0:Int)<(ps.length:Int):=by omega
  have i1:(1:Int)<(ps.length:Int):=by omega
  have i2:(2:Int)<(ps.length:Int):=by omega
  generalize aC ps[0] 1 9=c0 at *;generalize aC ps[1] 1 999=m0 at *;generalize hw0:au ps[0].data.toList 1 9=wi0 at *;generalize hw1:au ps[1].data.toList 1 999=wi1 at *;clear hw0 hw1 h3 e0 e1 e2;have hnl:=fun w a n c=>Lib.run_eql_slice_nil (P:=Tryz.prog) w 44 3 a n c 0 0 Tryz.underlying44
  go_wp2_with fail;refine (HN0.out _).mono ?_;rintro e wX ⟨rfl,hwX⟩;subst hwX;go_wp2_with fail;refine (HN1.out _).mono ?_;rintro e wY ⟨rfl,hwY⟩;subst hwY;cases wi0
  ·have hie:ie=false:=by rw[HI.out];rfl
   obtain⟨g1,g2,g3⟩:=HEnd.out _ _ _ _ hb01 hB1 hie
   have HG:Hid (_∧_∧_∧_):=⟨g1,g2,g3,hie⟩
   clear g1 g2 g3 hie;go_wp2;exact bodyPost_ret (dJ rfl _ _ _ rfl HG.out.2.1) rfl ⟨by rw[HG.out.2.2.1,HG.out.2.2.2];rfl,HG.out.1⟩
  ·cases wi1
   ·have hie:ie=false:=by rw[HI.out];rfl
    obtain⟨g1,g2,g3⟩:=HEnd.out _ _ _ _ hb01 hB1 hie
    have HG:Hid (_∧_∧_∧_):=⟨g1,g2,g3,hie⟩
    clear g1 g2 g3 hie;go_wp2;exact bodyPost_ret (dJ rfl _ _ _ rfl HG.out.2.1) rfl ⟨by rw[HG.out.2.2.1,HG.out.2.2.2];rfl,HG.out.1⟩
   ·clear y0 y1 y2 f0;go_wp2_with fail;refine (HFr.out _).mono ?_;rintro e w2 ⟨rfl,hb2⟩;have hbE:Below w2.heap.size w2 (w2.alloc (.cells #[I J c0,I J m0,Z ps[2]] 66)):=(Below.refl _ w2).alloc (Nat.le_refl _) _
    have hBE:=heap_alloc_new w2 (.cells #[I J c0,I J m0,Z ps[2]] 66);have hb1E:=hb2.trans (hbE.mono hb2.size);have hb0E:=hb01.trans (hb1E.mono hb01.size);have hBr:=(hb1E.block _ (lt_of_block hB1)).trans hB1;have hltE:w2.heap.size<(w2.alloc (.cells #[I J c0,I J m0,Z ps[2]] 66)).heap.size:=lt_of_block hBE
    clear x0 x1 x2;go_wp2_with fail;generalize w2.alloc (.cells #[I J c0,I J m0,Z ps[2]] 66)=wE at *;refine (HOp.out _).mono ?_;rintro e wZ ⟨rfl,hwZ⟩;subst hwZ;have HYes:Hid (∀ W:World,Below wZ.heap.size wZ W→ie=true→(W.cell? ⟨w2.heap.size,0,O⟩=some (I J c0)∧W.cell? ⟨w2.heap.size,1,O⟩=some (I J m0)∧W.cell? ⟨w2.heap.size,2,O⟩=some (Z ps[2]))∧(W.cell? ⟨w.heap.size,0,O⟩=some (I J 0)∧W.cell? ⟨w.heap.size,1,O⟩=some (I J 0)∧W.cell? ⟨w.heap.size,2,O⟩=some (Z ⟨#[]⟩))∧(∀ j,W.frozen? ⟨w.heap.size,j,O⟩=false)∧Hid (Below w.heap.size w (jh W w.heap.size (I J c0) (I J m0) (Z ps[2]))∧(loadVar 66 ⟨w.heap.size,0,O⟩).run Tryz.prog (jh W w.heap.size (I J c0) (I J m0) (Z ps[2]))=.ok (qm c0 m0 ps[2]) (jh W w.heap.size (I J c0) (I J m0) (Z ps[2]))∧ev=(c0,m0,ps[2])∧ie=true)):=fun W q r=>by
     have k1:=(q.block _ hltE).trans hBE;have k2:=(q.block _ (lt_of_block hBr)).trans hBr;refine⟨⟨by simp[World.cell?,k1],by simp[World.cell?,k1],by simp[World.cell?,k1]⟩,⟨by simp[World.cell?,k2],by simp[World.cell?,k2],by simp[World.cell?,k2]⟩,fun j=>by simp[World.frozen?,k2],pG (hb0E.trans (q.mono hb0E.size)) (Nat.le_refl _),zN _ _ _ _ _ _ _ (rQ k2),?_,r⟩
     rw[HV.out r,HNv0.out (by trivial),HNv1.out (by trivial)]
    have HZf:Hid (∀ W:World,Below wZ.heap.size wZ W→ie=false→(W.cell? ⟨w.heap.size,0,O⟩=some (I J 0)∧W.cell? ⟨w.heap.size,1,O⟩=some (I J 0)∧W.cell? ⟨w.heap.size,2,O⟩=some (Z ⟨#[]⟩))∧(∀ j,W.frozen? ⟨w.heap.size,j,O⟩=false)∧Hid (Below w.heap.size w (jh W w.heap.size (I J 0) (I J 0) (Z ⟨#[]⟩))∧(loadVar 66 ⟨w.heap.size,0,O⟩).run Tryz.prog (jh W w.heap.size (I J 0) (I J 0) (Z ⟨#[]⟩))=.ok (qm 0 0 ⟨#[]⟩) (jh W w.heap.size (I J 0) (I J 0) (Z ⟨#[]⟩))∧ev=(0,0,⟨#[]⟩)∧ie=false)):=fun W q r=>by
     have k2:=(q.block _ (lt_of_block hBr)).trans hBr;obtain⟨g1,g2,g3⟩:=HEnd.out W _ _ _ (hb0E.trans (q.mono hb0E.size)) k2 r
     exact⟨⟨by simp[World.cell?,k2],by simp[World.cell?,k2],by simp[World.cell?,k2]⟩,fun j=>by simp[World.frozen?,k2],g1,g2,g3,r⟩
    have ce:wZ.cell? ⟨w2.heap.size,0,O⟩=some (I J c0)∧wZ.cell? ⟨w2.heap.size,1,O⟩=some (I J m0)∧wZ.cell? ⟨w2.heap.size,2,O⟩=some (Z ps[2]):=by
     have k1:wZ.heap[w2.heap.size]? = _:=hBE
     exact⟨by simp[World.cell?,k1],by simp[World.cell?,k1],by simp[World.cell?,k1]⟩
    obtain⟨ce0,ce1,ce2⟩:=ce
    generalize dU ps[2].data.toList=io at *;cases io
    ·generalize (iU ps[2]&&aV (ps[2].extract 1 ps[2].size).data.toList n)=gg at *;go_wp2_with fail;refine (HNg.out c0 m0 _).mono ?_;rintro e w4 ⟨v4,rfl,hn4,hb4,a4,l4,c4,rfl,hz4⟩;cases gg
     ·have hie:ie=false:=by rw[HI.out];rfl
      have hv:=hn4.2 rfl;simp only[Value.slice.injEq] at hv;obtain⟨rfl,rfl,rfl⟩:=hv
      obtain⟨⟨y0,y1,y2⟩,f0,HG⟩:=HZf.out w4 hb4 hie
      clear ce0 ce1 ce2 hie hn4 hz4;go_wp2;exact bodyPost_ret (dJ rfl _ _ _ rfl HG.out.2.1) rfl ⟨by rw[HG.out.2.2.1,HG.out.2.2.2];rfl,HG.out.1⟩
     ·have hie:ie=true:=by rw[HI.out];rfl
      cases a4 with
      | none =>
       obtain⟨rfl,rfl⟩:=hz4 rfl
       exact absurd (hn4.1 rfl) (by decide)
      | some a4 =>
       obtain⟨⟨u0,u1,u2⟩,⟨y0,y1,y2⟩,f0,HG⟩:=HYes.out w4 hb4 hie
       clear ce0 ce1 ce2 hie hn4 hz4;go_wp2;exact bodyPost_ret (dJ rfl _ _ _ rfl HG.out.2.1) rfl ⟨by rw[HG.out.2.2.1,HG.out.2.2.2];rfl,HG.out.1⟩
    ·have hie:ie=true:=by rw[HI.out];rfl
     obtain⟨⟨u0,u1,u2⟩,⟨y0,y1,y2⟩,f0,HG⟩:=HYes.out wZ (Below.refl _ _) hie
     clear hie;go_wp2;exact bodyPost_ret (dJ rfl _ _ _ rfl HG.out.2.1) rfl ⟨by rw[HG.out.2.2.1,HG.out.2.2.2];rfl,HG.out.1⟩
 ·have hie:ie=false:=by rw[HE.out];exact IZ h3
  have p3:((ps.length:Int) != 3)=true:=by rw[bne_iff_ne];omega
  obtain⟨g1,g2,g3⟩:=HEnd.out _ _ _ _ hb01 hB1 hie
  have HG:Hid (_∧_∧_∧_):=⟨g1,g2,g3,hie⟩
  clear g1 g2 g3 hie;go_wp2;exact bodyPost_ret (dJ rfl _ _ _ rfl HG.out.2.1) rfl ⟨by rw[HG.out.2.2.1,HG.out.2.2.2];rfl,HG.out.1⟩
theorem rF (n:Int):dR ⟨#[]⟩ n=false:=by
 have e:bP (⟨#[]⟩:ByteArray) 46=[⟨#[]⟩]:=rfl
 unfold dR;rw[e];rfl
theorem aK.put {w w1:World} {br:Nat} {vw:Value} {ws:List ByteArray} {nx:Nat} {n:Int} {wr:Bool} (h:aK w w1 br vw ws nx n wr) {g:Nat} (hg:w.heap.size≤g) (hfr:∀ k,vw.ownBlock=some k→k<w.heap.size) (hbr:br<w.heap.size) (a b c:Value):aK w (jh w1 g a b c) br vw ws nx n wr:=by
 have k1:Kp [g] w1 (jh w1 g a b c):=(((Kp.refl [g] w1).set g 0 a (.inl (by simp))).set g 1 b (.inl (by simp))).set g 2 c (.inl (by simp))
 have hne:br∉[g]:=by simp;omega
 refine⟨⟨(k1.block br (lt_of_block h.1.block) hne).trans h.1.block,h.1.words.kp k1 (fun k hk hc=>?_),h.1.fr,h.1.le⟩,((h.2.set g 0 a (.inr hg)).set g 1 b (.inr hg)).set g 2 c (.inr hg)⟩
 have:=hfr k hk
 simp at hc;omega
section
variable (br:Nat) (vw:Value) (ws:List ByteArray) (nx:Nat) (n:Int) (wr:Bool) (w:World) (h:aJ w br vw ws nx n wr) (hl:ws.length≤100000) (hz:∀ x∈ws,x.size≤1000)
theorem rT (br:Nat) (vw:Value) (ws:List ByteArray) (nx:Nat) (n:Int) (wr:Bool) (w:World) (h:aJ w br vw ws nx n wr) (hl:ws.length≤100000) (hz:∀ x∈ws,x.size≤1000) :
  Calls Tryz.prog 118 #[Zp (some ⟨br,0,O⟩)] w fun e w'=>e=Zr (qm (dX (wrd ws nx) n).1 (dX (wrd ws nx) n).2.1 (dX (wrd ws nx) n).2.2)∧aK w w' br vw ws (nxt ws nx) n (wr||!dR (wrd ws nx) n):=by
 have hzw:=jR (nx:=nx) hz;have hbr:=lt_of_block h.block;have hvl:=h.words.lt;have HVl:Hid (∀ k,vw.ownBlock=some k→k<w.heap.size):=hvl
 clear hvl;have HO:Hid (((wr||!decide (nx<ws.length))||!dR (wrd ws nx) n)=(wr||!dR (wrd ws nx) n)):=nA (f:=fun x=>dR x n) (rF n)
 have HWd:Hid (∀ w',aJ w' br vw ws nx n wr→Calls Tryz.prog 70 #[Zp (some ⟨br,0,O⟩)] w' fun e w''=>e=Zr (Z (wrd ws nx))∧aK w' w'' br vw ws (nxt ws nx) n (wr||!decide (nx<ws.length))):=fun w' h'=>lu br vw ws nx n wr w' h' hl
 have HEn:Hid (∀ w,Calls Tryz.prog 153 #[Z (wrd ws nx),I J n] w fun e w'=>e=Zr (.tuple #[.agg #[I J (dX (wrd ws nx) n).1,I J (dX (wrd ws nx) n).2.1,Z (dX (wrd ws nx) n).2.2],.bool (dR (wrd ws nx) n)])∧Below w.heap.size w w'):=fun w=>Cb _ n w (by omega)
 rw[← HO.out];clear HO;generalize (wr||!decide (nx<ws.length))=w0 at *
 generalize dX (wrd ws nx) n=ev at *;generalize dR (wrd ws nx) n=ok at *;generalize wrd ws nx=s at *;generalize nxt ws nx=nx' at *;have hbA:Below w.heap.size w (w.alloc (.cells #[I J 0,I J 0,Z ⟨#[]⟩] 66)):=(Below.refl _ w).alloc (Nat.le_refl _) _
 have hBA:=heap_alloc_new w (.cells #[I J 0,I J 0,Z ⟨#[]⟩] 66);have hA:=h.below hbA;go_enter Tryz.func118,Tryz.ntmps118;go_wp2_with fail;generalize w.alloc (.cells #[I J 0,I J 0,Z ⟨#[]⟩] 66)=wA at *;refine (HWd.out _ hA).mono ?_;rintro e w1 ⟨rfl,hP⟩;have hP1:aK w w1 br vw ws nx' n w0:=⟨hP.1,(Kp.of_below hbA).trans' hP.2⟩
 have hB1:=(hP.2.block w.heap.size (lt_of_block hBA) (by simp;omega)).trans hBA
 have c2:=hP.1.at 2 (by omega)
 simp at c2;clear hbA hBA hA hP;go_wp2_with fail;refine (HEn.out _).mono ?_;rintro e w2 ⟨rfl,hb2⟩;have hbE:Below w2.heap.size w2 (w2.alloc (.cells #[I J ev.1,I J ev.2.1,Z ev.2.2] 66)):=(Below.refl _ w2).alloc (Nat.le_refl _) _
 have hBE:=heap_alloc_new w2 (.cells #[I J ev.1,I J ev.2.1,Z ev.2.2] 66);have hb1E:=hb2.trans (hbE.mono hb2.size);have hPE:=hP1.below hb1E;have hBr:=(hb1E.block _ (lt_of_block hB1)).trans hB1;have hne2:w2.heap.size≠br:=by have:=lt_of_block hP1.1.block;have:=hb2.size;omega
 have hne1:w.heap.size≠br:=by omega
 clear c2 hb2 hbE hb1E hB1 hP1;go_upto_if 18 with fail
 generalize w2.alloc (.cells #[I J ev.1,I J ev.2.1,Z ev.2.2] 66)=wE at *;have c3:=hPE.1.at 3 (by omega)
 have f3:=hPE.1.free 3;simp at c3;go_cut [] from 6 (fun wr=>aK w wr br vw ws nx' n (w0||!ok)∧wr.heap[w.heap.size]? = some (.cells #[I J 0,I J 0,Z ⟨#[]⟩] 66 (0,0))∧wr.heap[w2.heap.size]? = some (.cells #[I J ev.1,I J ev.2.1,Z ev.2.2] 66 (0,0)))
 case first =>
  cases ok
  ·have k3:Kp [br] wE (wE.setCell ⟨br,3,O⟩ (.bool true)):=(Kp.refl _ _).set br 3 _ (.inl (by simp))
   have g1:=(k3.block w.heap.size (lt_of_block hBr) (by simpa using hne1)).trans hBr
   have g2:=(k3.block w2.heap.size (lt_of_block hBE) (by simpa using hne2)).trans hBE
   have HG:Hid (aK w (wE.setCell ⟨br,3,O⟩ (.bool true)) br vw ws nx' n (w0||!false)∧(wE.setCell ⟨br,3,O⟩ (.bool true)).heap[w.heap.size]? = some (.cells #[I J 0,I J 0,Z ⟨#[]⟩] 66 (0,0))∧(wE.setCell ⟨br,3,O⟩ (.bool true)).heap[w2.heap.size]? = some (.cells #[I J ev.1,I J ev.2.1,Z ev.2.2] 66 (0,0))):=⟨by simpa using hPE.wrong true,g1,g2⟩
   clear g1 g2 k3;go_wp2_with fail;go_meet
   case rel=>exact HG.out
  ·have HG:Hid (aK w wE br vw ws nx' n (w0||!true)∧wE.heap[w.heap.size]? = some (.cells #[I J 0,I J 0,Z ⟨#[]⟩] 66 (0,0))∧wE.heap[w2.heap.size]? = some (.cells #[I J ev.1,I J ev.2.1,Z ev.2.2] 66 (0,0))):=⟨by simpa using hPE,hBr,hBE⟩
   go_wp2_with fail;go_meet
   case rel=>exact HG.out
 case rest =>
  obtain⟨hPF,g1,g2⟩:=hcut
  clear c3 f3 hPE hBr hBE;have x0:wc.cell? ⟨w2.heap.size,0,O⟩=some (I J ev.1):=by simp[World.cell?,g2]
  have x1:wc.cell? ⟨w2.heap.size,1,O⟩=some (I J ev.2.1):=by simp[World.cell?,g2]
  have x2:wc.cell? ⟨w2.heap.size,2,O⟩=some (Z ev.2.2):=by simp[World.cell?,g2]
  have y0:wc.cell? ⟨w.heap.size,0,O⟩=some (I J 0):=by simp[World.cell?,g1]
  have y1:wc.cell? ⟨w.heap.size,1,O⟩=some (I J 0):=by simp[World.cell?,g1]
  have y2:wc.cell? ⟨w.heap.size,2,O⟩=some (Z ⟨#[]⟩):=by simp[World.cell?,g1]
  have f0:∀ j,wc.frozen? ⟨w.heap.size,j,O⟩=false:=fun j=>by simp[World.frozen?,g1]
  have HG:Hid (aK w (jh wc w.heap.size (I J ev.1) (I J ev.2.1) (Z ev.2.2)) br vw ws nx' n (w0||!ok)∧(loadVar 66 ⟨w.heap.size,0,O⟩).run Tryz.prog (jh wc w.heap.size (I J ev.1) (I J ev.2.1) (Z ev.2.2))=.ok (qm ev.1 ev.2.1 ev.2.2) (jh wc w.heap.size (I J ev.1) (I J ev.2.1) (Z ev.2.2))):=⟨hPF.put (Nat.le_refl _) HVl.out hbr _ _ _,zN _ _ _ _ _ _ _ (rQ g1)⟩
  clear hPF g1 g2;go_wp2;exact bodyPost_ret (bI rfl _ _ _ rfl HG.out.2) rfl ⟨rfl,HG.out.1⟩
end
theorem Tryz.infoEnt:(Tryz.prog.info? 66).map (fun i=>(i.zero,i.size,i.bytes))=some (some (.agg #[I J 0,I J 0,Z Ze]),3,32):=by kernel_rfl
def aA (l:List (Int×Int×ByteArray)):List Value:=l.flatMap (fun e=>[I J e.1,I J e.2.1,Z e.2.2])
theorem kF (a b:List (Int×Int×ByteArray)):aA (a++b)=aA a++aA b:=by simp[aA]
def gH (l:List ByteArray) (n:Int):List (Int×Int×ByteArray):=l.map (fun e=>dX e n)
def dN (s:ByteArray) (n:Int):List (Int×Int×ByteArray):=if dS s n=true then gH (lq s) n else []
theorem IW {wr W w4:World} (hb:Below W.heap.size W w4) (h0:Below wr.heap.size wr W):Below wr.heap.size wr w4:=h0.trans (hb.mono h0.size)
theorem KM {wr w4 W:World} (hb:Below W.heap.size W w4) (hW:W.heap=(wr.alloc (.cells #[I J 0,I J 0,Z ⟨#[]⟩] 66)).heap):w4.heap[wr.heap.size]? = some (.cells #[I J 0,I J 0,Z ⟨#[]⟩] 66 (0,0)):=by
 have e:=heap_alloc_new wr (.cells #[I J 0,I J 0,Z ⟨#[]⟩] 66);rw[← hW] at e;exact (hb.block wr.heap.size (lt_of_block e)).trans e
section
variable (br:Nat) (vw:Value) (ws:List ByteArray) (nx:Nat) (n:Int) (wr:Bool) (w:World) (h:aJ w br vw ws nx n wr) (hl:ws.length≤100000) (hz:∀ x∈ws,x.size≤1000)
theorem Nw (br:Nat) (vw:Value) (ws:List ByteArray) (nx:Nat) (n:Int) (wr:Bool) (w:World) (h:aJ w br vw ws nx n wr) (hl:ws.length≤100000) (hz:∀ x∈ws,x.size≤1000) :
  Calls Tryz.prog 154 #[Zp (some ⟨br,0,O⟩)] w fun e w'=>∃ v,e=Zr v∧w'.ownsRow w.heap.size 66 3 v (dN (wrd ws nx) n).length (aA (dN (wrd ws nx) n))∧aK w w' br vw ws (nxt ws nx) n (wr||!dS (wrd ws nx) n):=by
 obtain⟨i0,hi,hz0,hz1,hz2⟩:=info_parts Tryz.infoEnt
 have hzw:=jR (nx:=nx) hz;have hlb:=lt_of_block h.block;have HO:Hid (((wr||!decide (nx<ws.length))||!dS (wrd ws nx) n)=(wr||!dS (wrd ws nx) n)):=nA (f:=fun x=>dS x n) (by
  have e:bP (⟨#[]⟩:ByteArray) 47=[⟨#[]⟩]:=rfl
  have e2:((⟨#[]⟩:ByteArray).toList==[45])=false:=by rw[ByteArray.toList_eq];rfl
  unfold dS;rw[e,e2];simp[rF])
 have HWd:Hid (Calls Tryz.prog 70 #[Zp (some ⟨br,0,O⟩)] w fun e w'=>e=Zr (Z (wrd ws nx))∧aK w w' br vw ws (nxt ws nx) n (wr||!decide (nx<ws.length))):=lu br vw ws nx n wr w h hl
 have HEq:Hid ((wr||!decide (nx<ws.length))=true→nx<ws.length→wr=true):=fun q r=>by simpa [r] using q
 have HDash:Hid (((wrd ws nx).toList==[45])=true→(wr||!decide (nx<ws.length))=wr):=fun q=>by
  by_cases hlt:nx<ws.length
  ·simp[hlt]
  ·rw[yF hlt,ByteArray.toList_eq] at q;exact absurd q (by decide)
 rw[← HO.out];clear HO HEq;generalize (wr||!decide (nx<ws.length))=w0 at *
 generalize wrd ws nx=s at *;generalize nxt ws nx=nx' at *;have HSp:Hid (∀ w,Calls Tryz.prog 40 #[Z s,I .u8 47] w fun e w'=>∃ v,e=Zr v∧w'.ownsRow w.heap.size 9 1 v (bP s 47).length ((bP s 47).map Value.string)∧Below w.heap.size w w'):=fun w=>rM s 47 w (by omega)
 have hps:=lW s 47;have hpl:=DV s 47;have HI0:Hid ((s.toList==[45])=true→dS s n=true∧dN s n=[]):=fun q=>by
  have e1:dS s n=true:=by unfold dS;rw[if_pos q]
  exact⟨e1,by unfold dN lq;rw[e1,if_pos rfl,if_pos q];rfl⟩
 have HI:Hid ((s.toList==[45])=false→dS s n=((bP s 47).all (fun p=>dR p n)&&decide ((bP s 47).length≤10))):=fun q=>by unfold dS;rw[if_neg (by simp[q])]
 have HR0:Hid (dS s n=false→dN s n=[]):=fun q=>by unfold dN;rw[q];rfl
 have HR1:Hid ((s.toList==[45])=false→dS s n=true→dN s n=gH (bP s 47) n):=fun q r=>by unfold dN lq;rw[r,if_pos rfl,if_neg (by simp[q])]
 generalize bP s 47=ps at *;generalize dN s n=lr at *;generalize dS s n=ok at *;go_enter Tryz.func154,Tryz.ntmps154;go_wp2_with fail;refine HWd.out.mono ?_;rintro e w1 ⟨rfl,hP⟩;by_cases hd':(s.toList==[45])=true
 ·have hd:=hd';obtain⟨e1,e2⟩:=HI0.out hd
  have HZ:Hid (ok=true∧lr=[]):=⟨e1,e2⟩
  clear e1 e2;go_wp2;go_ret;exact⟨_,rfl,by rw[HZ.out.2];exact World.ownsRow_nil _ _ _ _,by rw[HZ.out.1];simpa using hP⟩
 have hd:(s.toList==[45])=false:=by simpa using hd'
 clear hd';have HI1:Hid (ok=(ps.all (fun p=>dR p n)&&decide (ps.length≤10))):=HI.out hd
 have HR2:Hid (ok=true→lr=gH ps n):=fun q=>HR1.out hd q
 clear HI HR1 HI0 HDash;go_wp2_with fail;refine (HSp.out _).mono ?_;rintro e w2 ⟨v2,rfl,hown2,hb2⟩;have hP2:=hP.below hb2;have hst:=Strs.bR hown2;obtain⟨a2,cap2,rfl,_,_⟩:=hst.shape
 have c3:=hP2.1.at 3 (by omega)
 have f3:=hP2.1.free 3;simp at c3;have hsz1:w.heap.size≤w2.heap.size:=hP2.2.size
 clear hown2;by_cases h10:10<ps.length
 ·have HZ:Hid (ok=false):=by unfold Hid;rw[HI1.out,decide_eq_false (by omega)];simp
  have h10':(10:Int)<(ps.length:Int):=by omega
  go_wp2;go_ret;exact⟨_,rfl,by rw[HR0.out HZ.out];exact World.ownsRow_nil _ _ _ _,by rw[HZ.out];simpa using hP2.wrong true⟩
 have h10':(ps.length:Int)≤10:=by omega
 have HI2:Hid (ok=ps.all (fun p=>dR p n)):=by unfold Hid;rw[HI1.out,decide_eq_true (by omega:ps.length≤10)];simp
 clear HI1;go_upto_if 17 with fail
 go_cut [] from 9 (fun wr=>wr=w2)
 case first =>
  go_wp2_with fail;go_meet
  case rel=>rfl
 case rest =>
  subst hcut;obtain⟨wB,HwB⟩:∃ x,x=wc:=⟨_,rfl⟩
  subst HwB;go_wp2_with fail;go_loopw [5,6] (fun v i wr=>∃ k:Nat,k≤ps.length∧i=I J k∧wr.ownsRow wB.heap.size 66 3 v (gH (ps.take k) n).length (aA (gH (ps.take k) n))∧(ps.take k).all (fun p=>dR p n)=true∧Below wB.heap.size wB wr) (fun _ i _=>ps.length-(intOf i).toNat)
  case atStart=>exact⟨0,Nat.zero_le _,rfl,World.ownsRow_nil _ _ _ _,by simp,Below.refl _ _⟩
  case round =>
   obtain⟨k,hk,rfl,hown,hall,hb⟩:=hrel
   have HAl:Hid ((ps.take k).all (fun p=>dR p n)=true):=hall
   clear hall c3 f3;have hP3:=hP2.below hb;by_cases hlt:k<ps.length
   ·have hstr:=hst.below hb;obtain⟨bp,op,rfl,hbp,yk⟩:=hstr.get k hlt
    have zk:=hps ps[k] (List.getElem_mem _);have HTk:Hid (gH (ps.take (k+1)) n=gH (ps.take k) n++[dX ps[k] n]):=by unfold Hid gH;exact sN hlt
    have HAk:Hid ((ps.take (k+1)).all (fun p=>dR p n)=((ps.take k).all (fun p=>dR p n)&&dR ps[k] n)):=by
     unfold Hid;rw[List.take_succ_eq_append_getElem hlt,List.all_append];simp
    have HF:Hid (dR ps[k] n=false→ok=false):=fun q=>by
     rw[HI2.out];exact List.all_eq_false.2 ⟨ps[k],List.getElem_mem _,by simpa using q⟩
    have hml:(gH (ps.take k) n).length≤10:=by unfold gH;simp;omega
    have HEn:Hid (∀ w,Calls Tryz.prog 153 #[Z ps[k],I J n] w fun e w'=>e=Zr (.tuple #[.agg #[I J (dX ps[k] n).1,I J (dX ps[k] n).2.1,Z (dX ps[k] n).2.2],.bool (dR ps[k] n)])∧Below w.heap.size w w'):=fun w=>Cb _ n w (by omega)
    generalize gH (ps.take k) n=lk at *;generalize dX ps[k] n=ev at *;generalize dR ps[k] n=ie at *;have j1:(0:Int)≤(k:Int):=by omega
    have j2:(k:Int)<(ps.length:Int):=by omega
    have c2:=hP3.1.at 2 (by omega)
    simp at c2;have hbr3:=lt_of_block hP3.1.block;go_upto_region 12 with fail
    go_cut [7,8] from 21 to 47 (fun p o wx=>∃ bE,p=Zp (some ⟨bE,0,O⟩)∧o=.bool ie∧Below wr.heap.size wr wx∧wr.heap.size≤bE∧wx.heap[bE]? = some (.cells #[I J ev.1,I J ev.2.1,Z ev.2.2] 66 (0,0)))
    case first =>
     go_region_with (go_at_call 153;refine (HEn.out _).mono ?_;rintro e w4 ⟨rfl,hb4⟩;have hB4:Below wr.heap.size wr w4:=IW hb4 (by first|exact (Below.refl _ wr).drew|exact ((Below.refl _ wr).alloc (Nat.le_refl _) _).drew|exact (Below.refl _ wr).drew.alloc (Nat.le_refl _) _|exact (Below.refl _ wr).alloc (Nat.le_refl _) _|exact Below.refl _ wr);try (have q4:=KM (wr:=wr) hb4 (by rfl);have x0:w4.cell? ⟨wr.heap.size,0,O⟩=some (I J 0):=(by simp[World.cell?,q4]);have x1:w4.cell? ⟨wr.heap.size,1,O⟩=some (I J 0):=(by simp[World.cell?,q4]);have x2:w4.cell? ⟨wr.heap.size,2,O⟩=some (Z ⟨#[]⟩):=(by simp[World.cell?,q4]);have x3:∀ j,w4.frozen? ⟨wr.heap.size,j,O⟩=false:=(fun j=>by simp[World.frozen?,q4])))
     all_goals go_wp2_with fail
     all_goals go_meet
     all_goals first
      | exact⟨w4.heap.size,rfl,rfl,hB4.alloc hB4.size _,hB4.size,heap_alloc_new w4 _⟩
      | exact⟨wr.heap.size,rfl,rfl,pG hB4 (Nat.le_refl _),Nat.le_refl _,rQ q4⟩
    case rest =>
     obtain⟨bE,rfl,rfl,hb4,hbE,hqE⟩:=hcut
     have HR3:Hid (ie=false→lr=[]):=fun q=>HR0.out (HF.out q)
     have hP4:=hP3.below hb4;have c3:=hP4.1.at 3 (by omega)
     have f3:=hP4.1.free 3;simp at c3;have hown4:=bU hown hb4;have x0:wc.cell? ⟨bE,0,O⟩=some (I J ev.1):=by simp[World.cell?,hqE]
     have x1:wc.cell? ⟨bE,1,O⟩=some (I J ev.2.1):=by simp[World.cell?,hqE]
     have x2:wc.cell? ⟨bE,2,O⟩=some (Z ev.2.2):=by simp[World.cell?,hqE]
     have hbT:=hb.trans (hb4.mono hb.size);cases ie
     ·have HZ:Hid (ok=false):=HF.out rfl
      go_wp2;go_ret;exact⟨_,rfl,by rw[HR0.out HZ.out];exact World.ownsRow_nil _ _ _ _,by rw[HZ.out];simpa using hP4.wrong true⟩
     ·clear hqE c3 f3;go_wp2_with (at_builtin;refine app1 rfl _ _ 47 rfl wB.heap.size 66 i0 _ 3 32 Tryz.underlying47 hi hz0 hz1 hz2 rfl (by decide) wc _ _ _ (by rfl) hown4 1 [I J ev.1,I J ev.2.1,Z ev.2.2] (by rfl) rfl ?c2 (by omega) (by decide) hbT.size ?_)
      case c2=>intro u hu;simp at hu;rcases hu with rfl|rfl|rfl <;> rfl
      intro v5 w5 hown5 hg5 hb5 hn5;have HO5:Hid (w5.ownsRow wB.heap.size 66 3 v5 (lk++[ev]).length (aA (lk++[ev]))):=by unfold Hid;rw[kF,List.length_append];exact hown5
      clear hown5;go_wp2;go_roundw
      case rel=>exact⟨k+1,by omega,by go_num,by rw[HTk.out];exact HO5.out,by rw[HAk.out,HAl.out];rfl,hbT.trans hb5⟩
      case measure=>simp[intOf];omega
   ·obtain rfl:k=ps.length:=by omega
    have HZ:Hid (ok=true):=by unfold Hid;rw[HI2.out];have:=HAl.out;rwa [List.take_length] at this
    rw[List.take_length] at hown;go_wp2;go_ret;exact⟨_,rfl,by rw[HR2.out HZ.out];exact eU hown hsz1,by rw[HZ.out];simpa using hP3⟩
end
def yP (S:Sv) (c n:Int) (op:ByteArray):Sv:=⟨(doS S.vals op).1,S.ses.set (c-1).toNat (n,(doS S.vals op).2)⟩
theorem gX.Pn {w:World} {b:Nat} {pre post:List Value} {t:TypeId} {S:Sv} (h:gX w b pre post t S) (c:Nat) (hc:c<9) (x:Int) (y:ByteArray) :
  gX ((w.setCell ⟨b,pre.length+26+c*2,O⟩ (I J x)).setCell ⟨b,pre.length+26+c*2+1,O⟩ (Z y)) b pre post t ⟨S.vals,S.ses.set c (x,y)⟩:=by
 have hv:=h.v26;have hs:=h.s9;refine⟨?_,hv,by simpa using hs,h.small⟩
 have h1:=h.set (26+2*c) (I J x) (by rw[qc];omega)
 rw[show pre.length+(26+2*c)=pre.length+26+c*2 by omega] at h1
 rw[heap_setCell_same _ b _ _ _ _ h1,List.setIfInBounds_toArray,List.set_append,if_neg (by omega),List.set_append,if_pos (by rw[List.length_set,qc];omega)]
 congr 3
 rw[show pre.length+26+c*2+1-pre.length=26+(2*c+1) by omega]
 unfold svC;rw[List.set_append,if_neg (by simp;omega),List.set_append,if_neg (by simp;omega)]
 rw[List.append_assoc,← E8 S.ses c x y (by omega)]
 rw[List.length_map,hv,show 26+2*c-26=2*c by omega,show 26+(2*c+1)-26=2*c+1 by omega,← List.append_assoc (List.map _ S.vals)]
theorem gX.kp {w w':World} {b:Nat} {pre post:List Value} {t:TypeId} {S:Sv} {X:List Nat} (h:gX w b pre post t S) (k:Kp X w w') (hX:b∉X):gX w' b pre post t S:=⟨(k.block b (lt_of_block h.block) hX).trans h.block,h.v26,h.s9,h.small⟩
theorem vF {w:World} {b:Nat} {pre post:List Value} {t:TypeId} {S:Sv} (h:gX w b pre post t S) (c n:Int) (op:ByteArray) (hs:op.size≤maxLen) (h7:∀ k,2≤k→bN op k<128) (hc1:1≤c) (hc9:c≤9) :
  Calls Tryz.prog 157 #[Zp (some ⟨b,pre.length,O⟩),qm c n op] w fun e w'=>e=Zr (Z (doS S.vals op).2)∧gX w' b pre post t (yP S c n op)∧Kp [b] w w':=by
 obtain⟨j,rfl⟩:∃ j:Nat,c=(j:Int)+1:=⟨(c-1).toNat,by omega⟩
 have ej:((j:Int)+1-1).toNat=j:=by omega
 have HD:Hid (∀ w,gX w b pre post t S→Calls Tryz.prog 169 #[Zp (some ⟨b,pre.length,O⟩),Z op] w fun e w'=>e=Zr (Z (doS S.vals op).2)∧gX w' b pre post t ⟨(doS S.vals op).1,S.ses⟩∧Kp [b] w w'):=fun w h=>Pt h op hs h7
 unfold yP;rw[ej];generalize doS S.vals op=r at *;have hbl:=lt_of_block h.block;have kb:Kp [b] w (w.alloc (.cells #[I J ((j:Int)+1),I J n,Z op] 66)):=Kp.of_below ((Below.refl _ w).alloc (Nat.le_refl _) _)
 have hA:=h.kp (X:=[]) (Kp.of_below ((Below.refl _ w).alloc (Nat.le_refl _) (.cells #[I J ((j:Int)+1),I J n,Z op] 66))) (by simp)
 have hnew:=heap_alloc_new w (.cells #[I J ((j:Int)+1),I J n,Z op] 66);have hsz:(w.alloc (.cells #[I J ((j:Int)+1),I J n,Z op] 66)).heap.size=w.heap.size+1:=by simp
 unfold qm;go_enter Tryz.func157,Tryz.ntmps157;go_wp2_with fail;generalize w.alloc (.cells #[I J ((j:Int)+1),I J n,Z op] 66)=wA at *;refine (HD.out _ hA).mono ?_;rintro e w1 ⟨rfl,h1,k1⟩;have hne:w.heap.size∉[b]:=by simp;omega
 have hE1:=(k1.block w.heap.size (by omega) hne).trans hnew
 have c0:w1.cell? ⟨w.heap.size,0,O⟩=some (I J ((j:Int)+1)):=by simp[World.cell?,hE1]
 have c1:w1.cell? ⟨w.heap.size,1,O⟩=some (I J n):=by simp[World.cell?,hE1]
 obtain⟨hv1,hv2⟩:=h1.ses j (by omega)
 have e1:pre.length+(26+2*j)=pre.length+26+j*2:=by omega
 have e2:pre.length+(26+2*j+1)=pre.length+26+j*2+1:=by omega
 rw[e1] at hv1;rw[e2] at hv2;have f1:=h1.free (pre.length+26+j*2);have f2:=h1.free (pre.length+26+j*2+1);have HS:=ah (h1.Pn j (by omega) n r.2)
 have HK:=ah (kb.trans' k1);generalize ({ vals:=r.fst,ses:=S.ses }:Sv).ses[j]'(by have:=h1.s9;omega)=old at *
 clear e1 e2 hE1 hA hnew h1 k1 HD kb;have hj9:(j:Int)<9:=by omega
 have hj8:j<9:=by omega
 have hj7:j≤8:=by omega
 have hj6:(j:Int)≤8:=by omega
 have hj5:0≤(j:Int)∧(j:Int)<9:=⟨by omega,by omega⟩
 go_wp2_with fail;go_region;go_wp2;go_ret;exact⟨rfl,HS.out.drew,((HK.out.set b _ _ (.inl (by simp))).set b _ _ (.inl (by simp))).aS (Below.refl _ _).drew⟩
section
open Go.Shelf
def Tryz.laysItoa_ren:Go.Shelf.Ren:=⟨fun|171=>122|243=>156|246=>168|283=>176|284=>177|285=>178|286=>179|129=>183|317=>182|318=>184|319=>185|320=>186|337=>187|338=>188|n=>n,fun|3=>3|9=>9|2=>2|4=>4|171=>148|0=>0|53=>149|37=>100|5=>5|173=>152|212=>156|51=>157|20=>20|213=>158|46=>159|232=>162|233=>163|n=>n,fun|17=>0|18=>1|19=>2|n=>n⟩
theorem Tryz.laysItoa:Go.Proofs.LaysM.n171 Tryz.prog Tryz.laysItoa_ren where
 mixed:=by kernel_rfl
 f129:=Tryz.func183.trans (congrArg some (by kernel_rfl))
 f171:=Tryz.func122.trans (congrArg some (by kernel_rfl))
 f243:=Tryz.func156.trans (congrArg some (by kernel_rfl))
 f246:=Tryz.func168.trans (congrArg some (by kernel_rfl))
 f283:=Tryz.func176.trans (congrArg some (by kernel_rfl))
 f284:=Tryz.func177.trans (congrArg some (by kernel_rfl))
 f285:=Tryz.func178.trans (congrArg some (by kernel_rfl))
 f286:=Tryz.func179.trans (congrArg some (by kernel_rfl))
 f317:=Tryz.func182.trans (congrArg some (by kernel_rfl))
 f318:=Tryz.func184.trans (congrArg some (by kernel_rfl))
 f319:=Tryz.func185.trans (congrArg some (by kernel_rfl))
 f320:=Tryz.func186.trans (congrArg some (by kernel_rfl))
 f337:=Tryz.func187.trans (congrArg some (by kernel_rfl))
 f338:=Tryz.func188.trans (congrArg some (by kernel_rfl))
 t0:=Tryz.underlying0
 a0:=Tryz.isAgg0
 z0:=Tryz.sizeOf0
 v0:=Tryz.zeroValue0
 t2:=Tryz.underlying2
 a2:=Tryz.isAgg2
 z2:=Tryz.sizeOf2
 v2:=Tryz.zeroValue2
 t3:=Tryz.underlying3
 a3:=Tryz.isAgg3
 z3:=Tryz.sizeOf3
 v3:=Tryz.zeroValue3
 t4:=Tryz.underlying4
 a4:=Tryz.isAgg4
 z4:=Tryz.sizeOf4
 v4:=Tryz.zeroValue4
 t5:=Tryz.underlying5
 a5:=Tryz.isAgg5
 z5:=Tryz.sizeOf5
 v5:=Tryz.zeroValue5
 t9:=Tryz.underlying9
 a9:=Tryz.isAgg9
 z9:=Tryz.sizeOf9
 v9:=Tryz.zeroValue9
 t20:=Tryz.underlying20
 a20:=Tryz.isAgg20
 z20:=Tryz.sizeOf20
 v20:=Tryz.zeroValue20
 t37:=Tryz.underlying100
 a37:=Tryz.isAgg100
 z37:=Tryz.sizeOf100
 v37:=Tryz.zeroValue100
 t46:=Tryz.underlying159
 a46:=Tryz.isAgg159
 z46:=Tryz.sizeOf159
 v46:=Tryz.zeroValue159
 t51:=Tryz.underlying157
 a51:=Tryz.isAgg157
 z51:=Tryz.sizeOf157
 v51:=Tryz.zeroValue157
 t53:=Tryz.underlying149
 a53:=Tryz.isAgg149
 z53:=Tryz.sizeOf149
 v53:=Tryz.zeroValue149
 t171:=Tryz.underlying148
 a171:=Tryz.isAgg148
 z171:=Tryz.sizeOf148
 v171:=Tryz.zeroValue148
 t173:=Tryz.underlying152
 a173:=Tryz.isAgg152
 z173:=Tryz.sizeOf152
 v173:=Tryz.zeroValue152
 t212:=Tryz.underlying156
 a212:=Tryz.isAgg156
 z212:=Tryz.sizeOf156
 v212:=Tryz.zeroValue156
 t213:=Tryz.underlying158
 a213:=Tryz.isAgg158
 z213:=Tryz.sizeOf158
 t232:=Tryz.underlying162
 a232:=Tryz.isAgg162
 z232:=Tryz.sizeOf162
 v232:=Tryz.zeroValue162
 t233:=Tryz.underlying163
 a233:=Tryz.isAgg163
 z233:=Tryz.sizeOf163
 v233:=Tryz.zeroValue163
 g17:=by kernel_rfl
 g18:=by kernel_rfl
 g19:=by kernel_rfl
 i0:=by kernel_rfl
 i2:=by kernel_rfl
 i3:=by kernel_rfl
 i4:=by kernel_rfl
 i5:=by kernel_rfl
 i9:=by kernel_rfl
 i20:=by kernel_rfl
 i37:=by kernel_rfl
 i46:=by kernel_rfl
 i51:=by kernel_rfl
 i53:=by kernel_rfl
 i171:=by kernel_rfl
 i173:=by kernel_rfl
 i212:=by kernel_rfl
 i232:=by kernel_rfl
 i233:=by kernel_rfl
 m17:=by kernel_rfl
 m18:=by kernel_rfl
 m19:=by kernel_rfl
theorem Tryz.gTab:Tryz.prog.globalNamed "internal/strconv.uint64pow10" = some 0:=by kernel_rfl
def Tab (w:World):Prop:=Lib.TabIs Tryz.prog w "internal/strconv.uint64pow10" .u64 Lib.pow10Tab
theorem Tab.lt {w:World} (h:Tab w):0<w.heap.size:=by
 unfold Tab Lib.TabIs World.var? at h;rw[Tryz.gTab] at h;simp only[Option.bind_some] at h;rcases Nat.lt_or_ge 0 w.heap.size with h'|h'
 ·exact h'
 ·rw[Array.getElem?_eq_none h'] at h;cases h
theorem Tab.kp {S:List Nat} {w w':World} (h:Tab w) (k:Kp S w w') (hS:0∉S):Tab w':=by
 have hl:=h.lt;unfold Tab Lib.TabIs World.var? at h ⊢;rw[Tryz.gTab] at h ⊢;simp only[Option.bind_some] at h ⊢;rw[k.block 0 hl hS];exact h
theorem Tab.below {w w':World} (h:Tab w) (k:Below w.heap.size w w'):Tab w':=h.kp (Kp.of_below (S:=[]) k) (by simp)
theorem Ky (u:Nat):Lib.decDigits u=jo u:=by
 induction u using Nat.strongRecOn with
 | _ u ih =>
  unfold Lib.decDigits jo;by_cases h:u<10
  ·rw[dif_pos h,if_pos h]
  ·rw[dif_neg h,if_neg h,ih (u / 10) (by omega)]
theorem iq (n:Int) (w:World) (hT:Tab w) (h0:0≤n) (h1:n≤9223372036854775807):Calls Tryz.prog 122 #[I J n] w fun e w'=>e=Zr (Z (dg n))∧Below w.heap.size w w':=by
 refine (Any.strconv_Itoa Tryz.laysItoa n (by omega) h1 w hT).mono ?_
 rintro e w' ⟨rfl,k,os,rfl⟩;refine⟨?_,?_⟩
 ·unfold dg Lib.itoa;rw[if_neg (by omega),Ky]
 ·exact Lib.below_grow _ w (Nat.le_refl _) k os
end
def iA (e:Int×Int×ByteArray):ByteArray:=dg e.1++DOT++dg e.2.1++DOT++e.2.2
theorem FB (n:Nat) (h:n≤999999999):(jo n).length≤10:=by
 have g:∀ k n,n<10 ^ (k+1)→(jo n).length≤k+1:=by
  intro k
  induction k with
  | zero=>intro n hn;unfold jo;rw[if_pos (by simpa using hn)];simp
  | succ k ih =>
   intro n hn;unfold jo
   split
   ·simp
   ·have:=ih (n / 10) (by rw[Nat.div_lt_iff_lt_mul (by omega)];rw[Nat.pow_succ] at hn;exact hn)
    simp;omega
 exact g 9 n (by omega)
theorem fO (n:Int) (h:n≤999999999):(dg n).size≤10:=by
 have:=FB n.toNat (by omega)
 unfold dg;simpa [ByteArray.size] using this
theorem sO (c n:Int) (op:ByteArray) (w:World) (hT:Tab w) (hc0:0≤c) (hc1:c≤999999999) (hn0:0≤n) (hn1:n≤999999999) (hs:op.size≤1000000000) :
  Calls Tryz.prog 170 #[qm c n op] w fun e w'=>e=Zr (Z (iA (c,n,op)))∧Below w.heap.size w w':=by
 have b1:=fO c hc1;have b2:=fO n hn1;have HE:Hid (iA (c,n,op)=dg c++⟨#[46]⟩++dg n++⟨#[46]⟩++op):=rfl
 have HIc:Hid (∀ w,Tab w→Calls Tryz.prog 122 #[I J c] w fun e w'=>e=Zr (Z (dg c))∧Below w.heap.size w w'):=fun w h=>iq c w h hc0 (by omega)
 have HIn:Hid (∀ w,Tab w→Calls Tryz.prog 122 #[I J n] w fun e w'=>e=Zr (Z (dg n))∧Below w.heap.size w w'):=fun w h=>iq n w h hn0 (by omega)
 generalize iA (c,n,op)=r at *;generalize dg c=dc at *;generalize dg n=dn at *;have hbA:Below w.heap.size w (w.alloc (.cells #[I J c,I J n,Z op] 66)):=(Below.refl _ w).alloc (Nat.le_refl _) _
 have hnew:=heap_alloc_new w (.cells #[I J c,I J n,Z op] 66);have hTA:=hT.below hbA;unfold qm;go_enter Tryz.func170,Tryz.ntmps170;go_wp2_with fail;generalize w.alloc (.cells #[I J c,I J n,Z op] 66)=wA at *;have k0:=cell_regrown (show wA.cell? ⟨w.heap.size,0,O⟩=some (I J c) by simp[World.cell?,hnew])
 have k1:=cell_regrown (show wA.cell? ⟨w.heap.size,1,O⟩=some (I J n) by simp[World.cell?,hnew])
 have k2:=cell_regrown (show wA.cell? ⟨w.heap.size,2,O⟩=some (Z op) by simp[World.cell?,hnew])
 have cC:=fun d os=>Calls.regrown_of (HIc.out _ (hTA.below (below_regrown wA d os)))
 have cN:=fun d os=>Calls.regrown_of (HIn.out _ (hTA.below (below_regrown wA d os)))
 have n1:¬9223372036854775807<dc.size+1:=by omega
 have n2:¬9223372036854775807<dc.size+1+dn.size:=by omega
 have n3:¬9223372036854775807<dc.size+1+dn.size+1:=by omega
 have n4:¬9223372036854775807<dc.size+1+dn.size+1+op.size:=by omega
 refine wp_region_quiet_below (by kernel_rfl) (by kernel_rfl) ?_
 repeat (quiet_step (first|exact cC _ _|exact cN _ _))
 refine wpQuiet_nil ?_;intro _ hw';obtain⟨⟨dq,osq⟩,hw''⟩:=hw'
 subst hw'';have hq:=below_regrown wA dq osq;go_wp2;go_ret;exact⟨by rw[HE.out];rfl,hbA.trans (hq.mono hbA.size)⟩
theorem A8 (v:Value) (l:List Int) (w:World) (hT:Tab w) (hv:Ints w v l) (hl:l.length≤1000) (hb:∀ x∈l,0≤x∧x≤999999999) :
  Calls Tryz.prog 160 #[v] w fun e w'=>e=Zr (Z (gQ l))∧Below w.heap.size w w':=by
 obtain⟨a,cap,rfl,hcap,hm⟩:=hv.shape
 have HI:Hid (∀ x∈l,∀ w,Tab w→Calls Tryz.prog 122 #[I J x] w fun e w'=>e=Zr (Z (dg x))∧Below w.heap.size w w'):=fun x hx w h=>iq x w h (hb x hx).1 (by have:=(hb x hx).2;omega)
 have hsz:=nH (l.map dg) DOT 10 (by intro t ht;rw[List.mem_map] at ht;obtain⟨x,hx,rfl⟩:=ht;exact fO x (hb x hx).2)
 have hdz:DOT.size=1:=rfl
 have HL:Hid (gQ l=fG (l.map dg) DOT l.length):=by unfold gQ qd Hid;rw[List.length_map]
 go_enter Tryz.func160,Tryz.ntmps160;go_wp2_with fail;go_loopw [3,4] (fun t i wr=>∃ k:Nat,k≤l.length∧i=I J k∧t=Z (fG (l.map dg) DOT k)∧Below w.heap.size w wr) (fun _ i _=>l.length-(intOf i).toNat)
 case atStart=>exact⟨0,Nat.zero_le _,rfl,rfl,Below.refl _ _⟩
 case round =>
  obtain⟨k,hk,rfl,rfl,hbw⟩:=hrel
  by_cases hlt:k<l.length
  ·obtain⟨b,off,rfl,hbs,hc⟩:=(hv.below hbw).get k hlt
   have hs:=hsz k;rw[hdz] at hs;have hd:=fO l[k] (hb _ (List.getElem_mem _)).2;have hTr:=hT.below hbw;have HIk:Hid (∀ w,Tab w→Calls Tryz.prog 122 #[I J l[k]] w fun e w'=>e=Zr (Z (dg l[k]))∧Below w.heap.size w w'):=HI.out _ (List.getElem_mem _)
   have HH:Hid (fG (l.map dg) DOT (k+1)=(if 0<k then fG (l.map dg) DOT k++⟨#[46]⟩ else fG (l.map dg) DOT k)++dg l[k]):=by
    show _=_
    have e:(l.map dg).getD k Ze=dg l[k]:=by rw[List.getD,List.getElem?_map,List.getElem?_eq_getElem hlt];rfl
    rw[fG,e];rfl
   have hkm:k*11≤11000:=by omega
   clear hsz HI hdz;generalize dg l[k]=d at *;generalize hg:fG (l.map dg) DOT k=g at *;clear hg;by_cases h0:0<k
   ·have n1:¬9223372036854775807<g.size+1:=by omega
    have n2:¬9223372036854775807<g.size+1+d.size:=by omega
    go_wp2_with (first|(go_at_call 122;refine (HIk.out _ hTr).mono ?_;rintro e w1 ⟨rfl,hb1⟩)|fail)
    go_roundw
    case rel=>exact⟨k+1,by omega,by go_num,by rw[HH.out,if_pos h0],hbw.trans (hb1.mono hbw.size)⟩
    case measure=>simp[intOf];omega
   ·have n2:¬9223372036854775807<g.size+d.size:=by omega
    go_wp2_with (first|(go_at_call 122;refine (HIk.out _ hTr).mono ?_;rintro e w1 ⟨rfl,hb1⟩)|fail)
    go_roundw
    case rel=>exact⟨k+1,by omega,by go_num,by rw[HH.out,if_neg h0],hbw.trans (hb1.mono hbw.size)⟩
    case measure=>simp[intOf];omega
  ·have hke:k=l.length:=by omega
   subst hke;go_wp2;go_ret;exact⟨jF (by rw[HL.out]),hbw⟩
def jU (l:List Int):Nat→ByteArray
 | 0=>⟨#[]⟩
 | k+1=>jU l k++dg (l.getD k 0)
def jJ (l:List Int):ByteArray:=jU l l.length
theorem yR (l:List Int) (hL:∀ t∈l,t≤999999999):∀ k,(jU l k).size≤k*10
 | 0=>by simp[jU,ByteArray.size]
 | k+1=>by
  have ih:=yR l hL k;have hk:(dg (l.getD k 0)).size≤10:=by
   by_cases h:k<l.length
   ·have e:l.getD k 0=l[k]:=by simp[List.getD,h]
    rw[e];exact fO _ (hL _ (List.getElem_mem _))
   ·rw[List.getD,List.getElem?_eq_none (by omega)];exact fO 0 (by omega)
  unfold jU;rw[Nat.succ_mul];simp only[ByteArray.size_append];omega
theorem sP (v:Value) (l:List Int) (w:World) (hT:Tab w) (hv:Ints w v l) (hl:l.length≤1000) (hb:∀ x∈l,0≤x∧x≤999999999) :
  Calls Tryz.prog 181 #[v] w fun e w'=>e=Zr (Z (jJ l))∧Below w.heap.size w w':=by
 obtain⟨a,cap,rfl,hcap,hm⟩:=hv.shape
 have HI:Hid (∀ x∈l,∀ w,Tab w→Calls Tryz.prog 122 #[I J x] w fun e w'=>e=Zr (Z (dg x))∧Below w.heap.size w w'):=fun x hx w h=>iq x w h (hb x hx).1 (by have:=(hb x hx).2;omega)
 have hsz:=yR l (fun x hx=>(hb x hx).2)
 have HL:Hid (jJ l=jU l l.length):=rfl
 go_enter Tryz.func181,Tryz.ntmps181;go_wp2_with fail;go_loopw [3,4] (fun t i wr=>∃ k:Nat,k≤l.length∧i=I J k∧t=Z (jU l k)∧Below w.heap.size w wr) (fun _ i _=>l.length-(intOf i).toNat)
 case atStart=>exact⟨0,Nat.zero_le _,rfl,rfl,Below.refl _ _⟩
 case round =>
  obtain⟨k,hk,rfl,rfl,hbw⟩:=hrel
  by_cases hlt:k<l.length
  ·obtain⟨b,off,rfl,hbs,hc⟩:=(hv.below hbw).get k hlt
   have hs:=hsz k;have hd:=fO l[k] (hb _ (List.getElem_mem _)).2;have hTr:=hT.below hbw;have HIk:Hid (∀ w,Tab w→Calls Tryz.prog 122 #[I J l[k]] w fun e w'=>e=Zr (Z (dg l[k]))∧Below w.heap.size w w'):=HI.out _ (List.getElem_mem _)
   have HH:Hid (jU l (k+1)=jU l k++dg l[k]):=by
    have e:l.getD k 0=l[k]:=by simp[List.getD,hlt]
    unfold Hid;rw[jU,e]
   clear hsz HI;generalize dg l[k]=d at *;generalize hg:jU l k=g at *;clear hg;have n2:¬9223372036854775807<g.size+d.size:=by omega
   go_wp2_with (first|(go_at_call 122;refine (HIk.out _ hTr).mono ?_;rintro e w1 ⟨rfl,hb1⟩)|fail)
   go_roundw
   case rel=>exact⟨k+1,by omega,by go_num,by rw[HH.out],hbw.trans (hb1.mono hbw.size)⟩
   case measure=>simp[intOf];omega
  ·have hke:k=l.length:=by omega
   subst hke;go_wp2;go_ret;exact⟨jF (by rw[HL.out]),hbw⟩
theorem Lx {op:ByteArray} (h:dU op.data.toList=true):2≤op.size∧mH (b1 op)=true∧(∀ k,2≤k→k<op.size→48≤bN op k∧bN op k<128)∧((b0 op=103∧op.size=2)∨(b0 op=100∧op.size=2)∨(b0 op=112∧op.size=3)∨(b0 op=99∧op.size=4)):=by
 have h2:2≤op.size:=by
  unfold dU at h;simp only[Bool.and_eq_true,decide_eq_true_eq] at h;have:=h.1.1;simpa using this
 rw[zA op h2] at h;simp only[Bool.and_eq_true,List.all_eq_true,beq_iff_eq,Bool.not_eq_true',beq_eq_false_iff_ne] at h;obtain⟨hw,⟨hl,hv⟩,hs⟩:=h
 refine⟨h2,?_,fun k hk hk2=>?_,?_⟩
 ·rw[Oe (by omega)];exact hl
 ·have hm:op[k]∈op.data.toList.drop 2:=by
   rw[List.mem_iff_getElem?];refine⟨k-2,?_⟩
   rw[List.getElem?_drop,show 2+(k-2)=k by omega,List.getElem?_eq_getElem (by simpa using hk2)]
   rfl
  have q:=hv _ hm;rw[zB] at q;unfold bN;rw[atS hk2];simp[nD,iF] at q;omega
 ·have q:=IQ op[0];rw[Od (by omega)]
  unfold fQ at hs hw;have hb:∀ c:UInt8,op[0]=c→(op[0].toNat:Int)=(c.toNat:Int):=fun c hc=>by rw[hc]
  split at hs
  ·rename_i hc;exact .inl ⟨by rw[hb _ hc];rfl,hs⟩
  ·split at hs
   ·rename_i hc;exact .inr (.inl ⟨by rw[hb _ hc];rfl,hs⟩)
   ·split at hs
    ·rename_i hc;exact .inr (.inr (.inl ⟨by rw[hb _ hc];rfl,hs⟩))
    ·split at hs
     ·rename_i hc;exact .inr (.inr (.inr ⟨by rw[hb _ hc];rfl,hs⟩))
     ·omega
theorem Nv {op:ByteArray} {n:Int} (h:jH op.data.toList n=true) (hr:dU op.data.toList=false):b0 op=114∧2≤op.size∧mH (b1 op)=false∧∀ k,2≤k→bN op k<128:=by
 unfold jH at h
 split at h
 ·rename_i hh;have hl:=jq h;rw[List.length_drop] at hl;have hsz:op.data.toList.length=op.size:=by simp
  have hd:∀ k,1≤k→k<op.size→48≤bN op k∧bN op k≤57:=fun k hk hk2=>by
   have q:=(nJ h (k-1) (by rw[List.length_drop];omega)).1
   rw[zS] at q;have e:(op.data.toList.drop 1).getD (k-1) 0=op.data.toList.getD k 0:=by
    simp only[List.getD,List.getElem?_drop];rw[show 1+(k-1)=k by omega]
   rw[e] at q;unfold bN
   split at q
   ·rename_i hg;simp only[iF,Bool.and_eq_true,decide_eq_true_eq] at hg;omega
   ·omega
  have h0:b0 op=114:=by
   unfold b0;rw[List.getD,← List.head?_eq_getElem?,hh];rfl
  refine⟨h0,by omega,?_,fun k hk=>?_⟩
  ·have:=hd 1 (by omega) (by omega)
   unfold bN at this;simp[mH];unfold b1;omega
  ·by_cases hk2:k<op.size
   ·have:=hd k (by omega) hk2;omega
   ·unfold bN;rw[List.getD,List.getElem?_eq_none (by omega)];decide
 ·rw[h] at hr;simp at hr
theorem LB {op:ByteArray} {n:Int} (h:jH op.data.toList n=true) (k:Nat) (hk:2≤k):bN op k<128:=by
 cases ho:dU op.data.toList
 ·exact (Nv h ho).2.2.2 k hk
 ·by_cases hk2:k<op.size
  ·exact ((Lx ho).2.2.1 k hk hk2).2
  ·unfold bN;rw[List.getD,List.getElem?_eq_none (by simp;omega)];decide
end Go.Proofs.YtbnihoahhomooaaGreatDoor
