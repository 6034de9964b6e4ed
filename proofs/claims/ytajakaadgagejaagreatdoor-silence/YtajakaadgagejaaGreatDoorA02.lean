import Derived.Test.YtajakaadgagejaaGreatDoorA01
import Derived.Deep.CutRange
set_option maxRecDepth 100000
set_option maxHeartbeats 8000000
set_option linter.unusedVariables false
set_option linter.unusedSimpArgs false
set_option linter.unusedSectionVars false
namespace Go.Proofs.YtajakaadgagejaaGreatDoor
open Go.Value renaming int→I,slice→Y,string→Z,pointer→Zp
open Go.Ending renaming returned→Zr
open _root_.ByteArray renaming empty→Ze
open Go.IntKind renaming i64→J
open Option renaming none→O
open Go.RowKit
theorem fV (n:Int):dw ⟨#[]⟩ n=false:=by
 have e:bX (⟨#[]⟩:ByteArray) 46=[⟨#[]⟩]:=rfl
 unfold dw;rw[e];rfl
theorem aJ.put {w w1:World} {br:Nat} {vw:Value} {ws:List ByteArray} {nx:Nat} {n:Int} {wr:Bool} (h:aJ w w1 br vw ws nx n wr) {g:Nat} (hg:w.heap.size≤g) (hfr:∀ k,vw.ownBlock=some k→k<w.heap.size) (hbr:br<w.heap.size) (a b c:Value):aJ w (iQ w1 g a b c) br vw ws nx n wr:=by
 have k1:Kp [g] w1 (iQ w1 g a b c):=(((Kp.refl [g] w1).set g 0 a (.inl (by simp))).set g 1 b (.inl (by simp))).set g 2 c (.inl (by simp))
 have hne:br∉[g]:=by simp;omega
 refine⟨⟨(k1.block br (lt_of_block h.1.block) hne).trans h.1.block,h.1.words.kp k1 (fun k hk hc=>?_),h.1.fr,h.1.le⟩,((h.2.set g 0 a (.inr hg)).set g 1 b (.inr hg)).set g 2 c (.inr hg)⟩
 have:=hfr k hk
 simp at hc;omega
section
variable (br:Nat) (vw:Value) (ws:List ByteArray) (nx:Nat) (n:Int) (wr:Bool) (w:World) (h:aI w br vw ws nx n wr) (hl:ws.length≤100000) (hz:∀ x∈ws,x.size≤1000)
theorem qp (br:Nat) (vw:Value) (ws:List ByteArray) (nx:Nat) (n:Int) (wr:Bool) (w:World) (h:aI w br vw ws nx n wr) (hl:ws.length≤100000) (hz:∀ x∈ws,x.size≤1000) :
  Calls Tryz.prog 118 #[Zp (some ⟨br,0,O⟩)] w fun e w'=>e=Zr (oK (dL (wrd ws nx) n).1 (dL (wrd ws nx) n).2.1 (dL (wrd ws nx) n).2.2)∧aJ w w' br vw ws (nxt ws nx) n (wr||!dw (wrd ws nx) n):=by
 have hzw:=jB (nx:=nx) hz;have hbr:=lt_of_block h.block;have hvl:=h.words.lt;have HVl:Hid (∀ k,vw.ownBlock=some k→k<w.heap.size):=hvl
 clear hvl;have HO:Hid (((wr||!decide (nx<ws.length))||!dw (wrd ws nx) n)=(wr||!dw (wrd ws nx) n)):=lZ (f:=fun x=>dw x n) (fV n)
 have HWd:Hid (∀ w',aI w' br vw ws nx n wr→Calls Tryz.prog 70 #[Zp (some ⟨br,0,O⟩)] w' fun e w''=>e=Zr (Z (wrd ws nx))∧aJ w' w'' br vw ws (nxt ws nx) n (wr||!decide (nx<ws.length))):=fun w' h'=>jW br vw ws nx n wr w' h' hl
 have HEn:Hid (∀ w,Calls Tryz.prog 153 #[Z (wrd ws nx),I J n] w fun e w'=>e=Zr (.tuple #[.agg #[I J (dL (wrd ws nx) n).1,I J (dL (wrd ws nx) n).2.1,Z (dL (wrd ws nx) n).2.2],.bool (dw (wrd ws nx) n)])∧Below w.heap.size w w'):=fun w=>zW _ n w (by omega)
 rw[← HO.out];clear HO;generalize (wr||!decide (nx<ws.length))=w0 at *
 generalize dL (wrd ws nx) n=ev at *;generalize dw (wrd ws nx) n=ok at *;generalize wrd ws nx=s at *;generalize nxt ws nx=nx' at *;have hbA:Below w.heap.size w (w.alloc (.cells #[I J 0,I J 0,Z ⟨#[]⟩] 66)):=(Below.refl _ w).alloc (Nat.le_refl _) _
 have hBA:=heap_alloc_new w (.cells #[I J 0,I J 0,Z ⟨#[]⟩] 66);have hA:=h.below hbA;go_enter Tryz.func118,Tryz.ntmps118;go_wp2_with fail;generalize w.alloc (.cells #[I J 0,I J 0,Z ⟨#[]⟩] 66)=wA at *;refine (HWd.out _ hA).mono ?_;rintro e w1 ⟨rfl,hP⟩;have hP1:aJ w w1 br vw ws nx' n w0:=⟨hP.1,(Kp.of_below hbA).trans' hP.2⟩
 have hB1:=(hP.2.block w.heap.size (lt_of_block hBA) (by simp;omega)).trans hBA
 have c2:=hP.1.at 2 (by omega)
 simp at c2;clear hbA hBA hA hP;go_wp2_with fail;refine (HEn.out _).mono ?_;rintro e w2 ⟨rfl,hb2⟩;have hbE:Below w2.heap.size w2 (w2.alloc (.cells #[I J ev.1,I J ev.2.1,Z ev.2.2] 66)):=(Below.refl _ w2).alloc (Nat.le_refl _) _
 have hBE:=heap_alloc_new w2 (.cells #[I J ev.1,I J ev.2.1,Z ev.2.2] 66);have hb1E:=hb2.trans (hbE.mono hb2.size);have hPE:=hP1.below hb1E;have hBr:=(hb1E.block _ (lt_of_block hB1)).trans hB1;have hne2:w2.heap.size≠br:=by have:=lt_of_block hP1.1.block;have:=hb2.size;omega
 have hne1:w.heap.size≠br:=by omega
 clear c2 hb2 hbE hb1E hB1 hP1;go_upto_if 18 with fail
 generalize w2.alloc (.cells #[I J ev.1,I J ev.2.1,Z ev.2.2] 66)=wE at *;have c3:=hPE.1.at 3 (by omega)
 have f3:=hPE.1.free 3;simp at c3;go_cut [] from 6 (fun wr=>aJ w wr br vw ws nx' n (w0||!ok)∧wr.heap[w.heap.size]? = some (.cells #[I J 0,I J 0,Z ⟨#[]⟩] 66 (0,0))∧wr.heap[w2.heap.size]? = some (.cells #[I J ev.1,I J ev.2.1,Z ev.2.2] 66 (0,0)))
 case first =>
  cases ok
  ·have k3:Kp [br] wE (wE.setCell ⟨br,3,O⟩ (.bool true)):=(Kp.refl _ _).set br 3 _ (.inl (by simp))
   have g1:=(k3.block w.heap.size (lt_of_block hBr) (by simpa using hne1)).trans hBr
   have g2:=(k3.block w2.heap.size (lt_of_block hBE) (by simpa using hne2)).trans hBE
   have HG:Hid (aJ w (wE.setCell ⟨br,3,O⟩ (.bool true)) br vw ws nx' n (w0||!false)∧(wE.setCell ⟨br,3,O⟩ (.bool true)).heap[w.heap.size]? = some (.cells #[I J 0,I J 0,Z ⟨#[]⟩] 66 (0,0))∧(wE.setCell ⟨br,3,O⟩ (.bool true)).heap[w2.heap.size]? = some (.cells #[I J ev.1,I J ev.2.1,Z ev.2.2] 66 (0,0))):=⟨by simpa using hPE.wrong true,g1,g2⟩
   clear g1 g2 k3;go_wp2_with fail;go_meet
   case rel=>exact HG.out
  ·have HG:Hid (aJ w wE br vw ws nx' n (w0||!true)∧wE.heap[w.heap.size]? = some (.cells #[I J 0,I J 0,Z ⟨#[]⟩] 66 (0,0))∧wE.heap[w2.heap.size]? = some (.cells #[I J ev.1,I J ev.2.1,Z ev.2.2] 66 (0,0))):=⟨by simpa using hPE,hBr,hBE⟩
   go_wp2_with fail;go_meet
   case rel=>exact HG.out
 case rest =>
  obtain⟨hPF,g1,g2⟩:=hcut
  clear c3 f3 hPE hBr hBE;have x0:wc.cell? ⟨w2.heap.size,0,O⟩=some (I J ev.1):=by simp[World.cell?,g2]
  have x1:wc.cell? ⟨w2.heap.size,1,O⟩=some (I J ev.2.1):=by simp[World.cell?,g2]
  have x2:wc.cell? ⟨w2.heap.size,2,O⟩=some (Z ev.2.2):=by simp[World.cell?,g2]
  have y0:wc.cell? ⟨w.heap.size,0,O⟩=some (I J 0):=by simp[World.cell?,g1]
  have y1:wc.cell? ⟨w.heap.size,1,O⟩=some (I J 0):=by simp[World.cell?,g1]
  have y2:wc.cell? ⟨w.heap.size,2,O⟩=some (Z ⟨#[]⟩):=by simp[World.cell?,g1]
  have f0:∀ j,wc.frozen? ⟨w.heap.size,j,O⟩=false:=fun j=>by simp[World.frozen?,g1]
  have HG:Hid (aJ w (iQ wc w.heap.size (I J ev.1) (I J ev.2.1) (Z ev.2.2)) br vw ws nx' n (w0||!ok)∧(loadVar 66 ⟨w.heap.size,0,O⟩).run Tryz.prog (iQ wc w.heap.size (I J ev.1) (I J ev.2.1) (Z ev.2.2))=.ok (oK ev.1 ev.2.1 ev.2.2) (iQ wc w.heap.size (I J ev.1) (I J ev.2.1) (Z ev.2.2))):=⟨hPF.put (Nat.le_refl _) HVl.out hbr _ _ _,xW _ _ _ _ _ _ _ (qm g1)⟩
  clear hPF g1 g2;go_wp2_with fail;exact bodyPost_ret (aZ rfl _ _ _ rfl HG.out.2) rfl ⟨rfl,HG.out.1⟩
end
theorem Tryz.infoEnt:(Tryz.prog.info? 66).map (fun i=>(i.zero,i.size,i.bytes))=some (some (.agg #[I J 0,I J 0,Z Ze]),3,32):=by kernel_rfl
def aA (l:List (Int×Int×ByteArray)):List Value:=l.flatMap (fun e=>[I J e.1,I J e.2.1,Z e.2.2])
theorem jL (a b:List (Int×Int×ByteArray)):aA (a++b)=aA a++aA b:=by simp[aA]
def eH (l:List ByteArray) (n:Int):List (Int×Int×ByteArray):=l.map (fun e=>dL e n)
def bT (s:ByteArray) (n:Int):List (Int×Int×ByteArray):=if bG s n=true then eH (kG s) n else []
theorem Fu {wr W w4:World} (hb:Below W.heap.size W w4) (h0:Below wr.heap.size wr W):Below wr.heap.size wr w4:=h0.trans (hb.mono h0.size)
theorem Ii {wr w4 W:World} (hb:Below W.heap.size W w4) (hW:W.heap=(wr.alloc (.cells #[I J 0,I J 0,Z ⟨#[]⟩] 66)).heap):w4.heap[wr.heap.size]? = some (.cells #[I J 0,I J 0,Z ⟨#[]⟩] 66 (0,0)):=by
 have e:=heap_alloc_new wr (.cells #[I J 0,I J 0,Z ⟨#[]⟩] 66);rw[← hW] at e;exact (hb.block wr.heap.size (lt_of_block e)).trans e
section
variable (br:Nat) (vw:Value) (ws:List ByteArray) (nx:Nat) (n:Int) (wr:Bool) (w:World) (h:aI w br vw ws nx n wr) (hl:ws.length≤100000) (hz:∀ x∈ws,x.size≤1000)
theorem JW (br:Nat) (vw:Value) (ws:List ByteArray) (nx:Nat) (n:Int) (wr:Bool) (w:World) (h:aI w br vw ws nx n wr) (hl:ws.length≤100000) (hz:∀ x∈ws,x.size≤1000) :
  Calls Tryz.prog 154 #[Zp (some ⟨br,0,O⟩)] w fun e w'=>∃ v,e=Zr v∧w'.ownsRow w.heap.size 66 3 v (bT (wrd ws nx) n).length (aA (bT (wrd ws nx) n))∧aJ w w' br vw ws (nxt ws nx) n (wr||!bG (wrd ws nx) n):=by
 obtain⟨i0,hi,hz0,hz1,hz2⟩:=info_parts Tryz.infoEnt
 have hzw:=jB (nx:=nx) hz;have hlb:=lt_of_block h.block;have HO:Hid (((wr||!decide (nx<ws.length))||!bG (wrd ws nx) n)=(wr||!bG (wrd ws nx) n)):=lZ (f:=fun x=>bG x n) (by
  have e:bX (⟨#[]⟩:ByteArray) 47=[⟨#[]⟩]:=rfl
  have e2:((⟨#[]⟩:ByteArray).toList==[45])=false:=by rw[ByteArray.toList_eq];rfl
  unfold bG;rw[e,e2];simp[fV])
 have HWd:Hid (Calls Tryz.prog 70 #[Zp (some ⟨br,0,O⟩)] w fun e w'=>e=Zr (Z (wrd ws nx))∧aJ w w' br vw ws (nxt ws nx) n (wr||!decide (nx<ws.length))):=jW br vw ws nx n wr w h hl
 have HEq:Hid ((wr||!decide (nx<ws.length))=true→nx<ws.length→wr=true):=fun q r=>by simpa [r] using q
 have HDash:Hid (((wrd ws nx).toList==[45])=true→(wr||!decide (nx<ws.length))=wr):=fun q=>by
  by_cases hlt:nx<ws.length
  ·simp[hlt]
  ·rw[wh hlt,ByteArray.toList_eq] at q;exact absurd q (by decide)
 rw[← HO.out];clear HO HEq;generalize (wr||!decide (nx<ws.length))=w0 at *
 generalize wrd ws nx=s at *;generalize nxt ws nx=nx' at *;have HSp:Hid (∀ w,Calls Tryz.prog 40 #[Z s,I .u8 47] w fun e w'=>∃ v,e=Zr v∧w'.ownsRow w.heap.size 9 1 v (bX s 47).length ((bX s 47).map Value.string)∧Below w.heap.size w w'):=fun w=>qj s 47 w (by omega)
 have hps:=kN s 47;have hpl:=BQ s 47;have HI0:Hid ((s.toList==[45])=true→bG s n=true∧bT s n=[]):=fun q=>by
  have e1:bG s n=true:=by unfold bG;rw[if_pos q]
  exact⟨e1,by unfold bT kG;rw[e1,if_pos rfl,if_pos q];rfl⟩
 have HI:Hid ((s.toList==[45])=false→bG s n=((bX s 47).all (fun p=>dw p n)&&decide ((bX s 47).length≤10))):=fun q=>by unfold bG;rw[if_neg (by simp[q])]
 have HR0:Hid (bG s n=false→bT s n=[]):=fun q=>by unfold bT;rw[q];rfl
 have HR1:Hid ((s.toList==[45])=false→bG s n=true→bT s n=eH (bX s 47) n):=fun q r=>by unfold bT kG;rw[r,if_pos rfl,if_neg (by simp[q])]
 generalize bX s 47=ps at *;generalize bT s n=lr at *;generalize bG s n=ok at *;go_enter Tryz.func154,Tryz.ntmps154;go_wp2_with fail;refine HWd.out.mono ?_;rintro e w1 ⟨rfl,hP⟩;by_cases hd':(s.toList==[45])=true
 ·have hd:=hd';obtain⟨e1,e2⟩:=HI0.out hd
  have HZ:Hid (ok=true∧lr=[]):=⟨e1,e2⟩
  clear e1 e2;go_wp2_with fail;go_ret;exact⟨_,rfl,by rw[HZ.out.2];exact World.ownsRow_nil _ _ _ _,by rw[HZ.out.1];simpa using hP⟩
 have hd:(s.toList==[45])=false:=by simpa using hd'
 clear hd';have HI1:Hid (ok=(ps.all (fun p=>dw p n)&&decide (ps.length≤10))):=HI.out hd
 have HR2:Hid (ok=true→lr=eH ps n):=fun q=>HR1.out hd q
 clear HI HR1 HI0 HDash;go_wp2_with fail;refine (HSp.out _).mono ?_;rintro e w2 ⟨v2,rfl,hown2,hb2⟩;have hP2:=hP.below hb2;have hst:=Strs.bK hown2;obtain⟨a2,cap2,rfl,_,_⟩:=hst.shape
 have c3:=hP2.1.at 3 (by omega)
 have f3:=hP2.1.free 3;simp at c3;have hsz1:w.heap.size≤w2.heap.size:=hP2.2.size
 clear hown2;by_cases h10:10<ps.length
 ·have HZ:Hid (ok=false):=by unfold Hid;rw[HI1.out,decide_eq_false (by omega)];simp
  have h10':(10:Int)<(ps.length:Int):=by omega
  go_wp2_with fail;go_ret;exact⟨_,rfl,by rw[HR0.out HZ.out];exact World.ownsRow_nil _ _ _ _,by rw[HZ.out];simpa using hP2.wrong true⟩
 have h10':(ps.length:Int)≤10:=by omega
 have HI2:Hid (ok=ps.all (fun p=>dw p n)):=by unfold Hid;rw[HI1.out,decide_eq_true (by omega:ps.length≤10)];simp
 clear HI1;go_upto_if 17 with fail
 go_cut [] from 9 (fun wr=>wr=w2)
 case first =>
  go_wp2_with fail;go_meet
  case rel=>rfl
 case rest =>
  subst hcut;obtain⟨wB,HwB⟩:∃ x,x=wc:=⟨_,rfl⟩
  subst HwB;go_wp2_with fail;go_loopw [5,6] (fun v i wr=>∃ k:Nat,k≤ps.length∧i=I J k∧wr.ownsRow wB.heap.size 66 3 v (eH (ps.take k) n).length (aA (eH (ps.take k) n))∧(ps.take k).all (fun p=>dw p n)=true∧Below wB.heap.size wB wr) (fun _ i _=>ps.length-(intOf i).toNat)
  case atStart=>exact⟨0,Nat.zero_le _,rfl,World.ownsRow_nil _ _ _ _,by simp,Below.refl _ _⟩
  case round =>
   obtain⟨k,hk,rfl,hown,hall,hb⟩:=hrel
   have HAl:Hid ((ps.take k).all (fun p=>dw p n)=true):=hall
   clear hall c3 f3;have hP3:=hP2.below hb;by_cases hlt:k<ps.length
   ·have hstr:=hst.below hb;obtain⟨bp,op,rfl,hbp,yk⟩:=hstr.get k hlt
    have zk:=hps ps[k] (List.getElem_mem _);have HTk:Hid (eH (ps.take (k+1)) n=eH (ps.take k) n++[dL ps[k] n]):=by unfold Hid eH;exact qP hlt
    have HAk:Hid ((ps.take (k+1)).all (fun p=>dw p n)=((ps.take k).all (fun p=>dw p n)&&dw ps[k] n)):=by
     unfold Hid;rw[List.take_succ_eq_append_getElem hlt,List.all_append];simp
    have HF:Hid (dw ps[k] n=false→ok=false):=fun q=>by
     rw[HI2.out];exact List.all_eq_false.2 ⟨ps[k],List.getElem_mem _,by simpa using q⟩
    have hml:(eH (ps.take k) n).length≤10:=by unfold eH;simp;omega
    have HEn:Hid (∀ w,Calls Tryz.prog 153 #[Z ps[k],I J n] w fun e w'=>e=Zr (.tuple #[.agg #[I J (dL ps[k] n).1,I J (dL ps[k] n).2.1,Z (dL ps[k] n).2.2],.bool (dw ps[k] n)])∧Below w.heap.size w w'):=fun w=>zW _ n w (by omega)
    generalize eH (ps.take k) n=lk at *;generalize dL ps[k] n=ev at *;generalize dw ps[k] n=ie at *;have j1:(0:Int)≤(k:Int):=by omega
    have j2:(k:Int)<(ps.length:Int):=by omega
    have c2:=hP3.1.at 2 (by omega)
    simp at c2;have hbr3:=lt_of_block hP3.1.block;go_upto_region 12 with fail
    go_cut [7,8] from 21 to 47 (fun p o wx=>∃ bE,p=Zp (some ⟨bE,0,O⟩)∧o=.bool ie∧Below wr.heap.size wr wx∧wr.heap.size≤bE∧wx.heap[bE]? = some (.cells #[I J ev.1,I J ev.2.1,Z ev.2.2] 66 (0,0)))
    case first =>
     go_region_with (go_at_call 153;refine (HEn.out _).mono ?_;rintro e w4 ⟨rfl,hb4⟩;have hB4:Below wr.heap.size wr w4:=Fu hb4 (by first|exact (Below.refl _ wr).drew|exact ((Below.refl _ wr).alloc (Nat.le_refl _) _).drew|exact (Below.refl _ wr).drew.alloc (Nat.le_refl _) _|exact (Below.refl _ wr).alloc (Nat.le_refl _) _|exact Below.refl _ wr);try (have q4:=Ii (wr:=wr) hb4 (by rfl);have x0:w4.cell? ⟨wr.heap.size,0,O⟩=some (I J 0):=(by simp[World.cell?,q4]);have x1:w4.cell? ⟨wr.heap.size,1,O⟩=some (I J 0):=(by simp[World.cell?,q4]);have x2:w4.cell? ⟨wr.heap.size,2,O⟩=some (Z ⟨#[]⟩):=(by simp[World.cell?,q4]);have x3:∀ j,w4.frozen? ⟨wr.heap.size,j,O⟩=false:=(fun j=>by simp[World.frozen?,q4])))
     all_goals go_wp2_with fail
     all_goals go_meet
     all_goals first
      | exact⟨w4.heap.size,rfl,rfl,hB4.alloc hB4.size _,hB4.size,heap_alloc_new w4 _⟩
      | exact⟨wr.heap.size,rfl,rfl,nS hB4 (Nat.le_refl _),Nat.le_refl _,qm q4⟩
    case rest =>
     obtain⟨bE,rfl,rfl,hb4,hbE,hqE⟩:=hcut
     have HR3:Hid (ie=false→lr=[]):=fun q=>HR0.out (HF.out q)
     have hP4:=hP3.below hb4;have c3:=hP4.1.at 3 (by omega)
     have f3:=hP4.1.free 3;simp at c3;have hown4:=bH hown hb4;have x0:wc.cell? ⟨bE,0,O⟩=some (I J ev.1):=by simp[World.cell?,hqE]
     have x1:wc.cell? ⟨bE,1,O⟩=some (I J ev.2.1):=by simp[World.cell?,hqE]
     have x2:wc.cell? ⟨bE,2,O⟩=some (Z ev.2.2):=by simp[World.cell?,hqE]
     have hbT:=hb.trans (hb4.mono hb.size);cases ie
     ·have HZ:Hid (ok=false):=HF.out rfl
      go_wp2_with fail;go_ret;exact⟨_,rfl,by rw[HR0.out HZ.out];exact World.ownsRow_nil _ _ _ _,by rw[HZ.out];simpa using hP4.wrong true⟩
     ·clear hqE c3 f3;go_wp2_with (at_builtin;refine app1 rfl _ _ 47 rfl wB.heap.size 66 i0 _ 3 32 Tryz.underlying47 hi hz0 hz1 hz2 rfl (by decide) wc _ _ _ (by rfl) hown4 1 [I J ev.1,I J ev.2.1,Z ev.2.2] (by rfl) rfl ?c2 (by omega) (by decide) hbT.size ?_)
      case c2=>intro u hu;simp at hu;rcases hu with rfl|rfl|rfl <;> rfl
      intro v5 w5 hown5 hg5 hb5 hn5;have HO5:Hid (w5.ownsRow wB.heap.size 66 3 v5 (lk++[ev]).length (aA (lk++[ev]))):=by unfold Hid;rw[jL,List.length_append];exact hown5
      clear hown5;go_wp2_with fail;go_roundw
      case rel=>exact⟨k+1,by omega,by go_num,by rw[HTk.out];exact HO5.out,by rw[HAk.out,HAl.out];rfl,hbT.trans hb5⟩
      case measure=>simp[intOf];omega
   ·obtain rfl:k=ps.length:=by omega
    have HZ:Hid (ok=true):=by unfold Hid;rw[HI2.out];have:=HAl.out;rwa [List.take_length] at this
    rw[List.take_length] at hown;go_wp2_with fail;go_ret;exact⟨_,rfl,by rw[HR2.out HZ.out];exact dO hown hsz1,by rw[HZ.out];simpa using hP3⟩
end
end Go.Proofs.YtajakaadgagejaaGreatDoor
