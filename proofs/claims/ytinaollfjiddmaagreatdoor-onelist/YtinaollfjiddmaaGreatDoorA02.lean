import Derived.Test.YtinaollfjiddmaaGreatDoorA01
import Derived.Deep.CutRange
set_option maxRecDepth 100000
set_option maxHeartbeats 8000000
set_option linter.all false
namespace Go.Proofs.YtinaollfjiddmaaGreatDoor
open Go.Value renaming int→I,slice→Y,string→Z,pointer→Zp
open Go.Ending renaming returned→Zr
open _root_.ByteArray renaming empty→Ze
open Go.IntKind renaming i64→J
open Option renaming none→O
open Go.RowKit
theorem sw (n:Int):eX ⟨#[]⟩ n=false:=by
 have e:bU (⟨#[]⟩:ByteArray) 46=[⟨#[]⟩]:=rfl
 unfold eX;rw[e];rfl
theorem bG.put {w w1:World} {br:Nat} {vw:Value} {ws:List ByteArray} {nx:Nat} {n:Int} {wr:Bool} (h:bG w w1 br vw ws nx n wr) {g:Nat} (hg:w.heap.size≤g) (hfr:∀ k,vw.ownBlock=some k→k<w.heap.size) (hbr:br<w.heap.size) (a b c:Value):bG w (jC w1 g a b c) br vw ws nx n wr:=by
 have k1:Kp [g] w1 (jC w1 g a b c):=(((Kp.refl [g] w1).set g 0 a (.inl (by simp))).set g 1 b (.inl (by simp))).set g 2 c (.inl (by simp))
 have d:br∉[g]:=by simp;omega
 refine⟨⟨(k1.block br (lt_of_block h.1.block) d).trans h.1.block,h.1.words.kp k1 (fun k e f=>?_),h.1.fr,h.1.le⟩,((h.2.set g 0 a (.inr hg)).set g 1 b (.inr hg)).set g 2 c (.inr hg)⟩
 have:=hfr k e
 simp at f;omega
section
variable (br:Nat) (vw:Value) (ws:List ByteArray) (nx:Nat) (n:Int) (wr:Bool) (w:World) (h:bf w br vw ws nx n wr) (hl:ws.length≤100000) (hz:∀ x∈ws,x.size≤1000)
theorem xI (br:Nat) (vw:Value) (ws:List ByteArray) (nx:Nat) (n:Int) (wr:Bool) (w:World) (h:bf w br vw ws nx n wr) (hl:ws.length≤100000) (hz:∀ x∈ws,x.size≤1000) :
  Calls Tryz.prog 117 #[Zp (some ⟨br,0,O⟩)] w fun e w'=>e=Zr (qH (iB (wrd ws nx) n).1 (iB (wrd ws nx) n).2.1 (iB (wrd ws nx) n).2.2)∧bG w w' br vw ws (nxt ws nx) n (wr||!eX (wrd ws nx) n):=by
 have Q:=kK (nx:=nx) hz;have E:=lt_of_block h.block;have v:=h.words.lt;have F:Hid (∀ k,vw.ownBlock=some k→k<w.heap.size):=v
 clear v;have N:Hid (((wr||!decide (nx<ws.length))||!eX (wrd ws nx) n)=(wr||!eX (wrd ws nx) n)):=nN (f:=fun x=>eX x n) (sw n)
 have G:Hid (∀ w',bf w' br vw ws nx n wr→Calls Tryz.prog 69 #[Zp (some ⟨br,0,O⟩)] w' fun e H=>e=Zr (Z (wrd ws nx))∧bG w' H br vw ws (nxt ws nx) n (wr||!decide (nx<ws.length))):=fun w' R=>lW br vw ws nx n wr w' R hl
 have K:Hid (∀ w,Calls Tryz.prog 152 #[Z (wrd ws nx),I J n] w fun e w'=>e=Zr (.tuple #[.agg #[I J (iB (wrd ws nx) n).1,I J (iB (wrd ws nx) n).2.1,Z (iB (wrd ws nx) n).2.2],.bool (eX (wrd ws nx) n)])∧Below w.heap.size w w'):=fun w=>Cn _ n w (by omega)
 rw[← N.out];clear N;generalize (wr||!decide (nx<ws.length))=y at *
 generalize iB (wrd ws nx) n=a at *;generalize eX (wrd ws nx) n=L at *;generalize wrd ws nx=s at *;generalize nxt ws nx=nx' at *;have p:Below w.heap.size w (w.alloc (.cells #[I J 0,I J 0,Z ⟨#[]⟩] 66)):=(Below.refl _ w).alloc (Nat.le_refl _) _
 have q:=heap_alloc_new w (.cells #[I J 0,I J 0,Z ⟨#[]⟩] 66);have P:=h.below p;go_enter Tryz.func117,Tryz.ntmps117;go_wp2_with fail;generalize w.alloc (.cells #[I J 0,I J 0,Z ⟨#[]⟩] 66)=U at *;refine (G.out _ P).mono ?_;rintro e S ⟨rfl,z⟩;have r:bG w S br vw ws nx' n y:=⟨z.1,(Kp.of_below p).trans' z.2⟩
 have t:=(z.2.block w.heap.size (lt_of_block q) (by simp;omega)).trans q
 have c2:=z.1.at 2 (by omega)
 simp at c2;clear p q P z;go_wp2_with fail;refine (K.out _).mono ?_;rintro e b ⟨rfl,g⟩;have A:Below b.heap.size b (b.alloc (.cells #[I J a.1,I J a.2.1,Z a.2.2] 66)):=(Below.refl _ b).alloc (Nat.le_refl _) _
 have i:=heap_alloc_new b (.cells #[I J a.1,I J a.2.1,Z a.2.2] 66);have c:=g.trans (A.mono g.size);have d:=r.below c;have l:=(c.block _ (lt_of_block t)).trans t;have B:b.heap.size≠br:=by have:=lt_of_block r.1.block;have:=g.size;omega
 have C:w.heap.size≠br:=by omega
 clear c2 g A c t r;go_upto_if 18 with fail
 generalize b.alloc (.cells #[I J a.1,I J a.2.1,Z a.2.2] 66)=o at *;have c3:=d.1.at 3 (by omega)
 have T:=d.1.free 3;simp at c3;go_cut [] from 6 (fun wr=>bG w wr br vw ws nx' n (y||!L)∧wr.heap[w.heap.size]? = some (.cells #[I J 0,I J 0,Z ⟨#[]⟩] 66 (0,0))∧wr.heap[b.heap.size]? = some (.cells #[I J a.1,I J a.2.1,Z a.2.2] 66 (0,0)))
 case first =>
  cases L
  ·have M:Kp [br] o (o.setCell ⟨br,3,O⟩ (.bool true)):=(Kp.refl _ _).set br 3 _ (.inl (by simp))
   have m:=(M.block w.heap.size (lt_of_block l) (by simpa using C)).trans l
   have g2:=(M.block b.heap.size (lt_of_block i) (by simpa using B)).trans i
   have u:Hid (bG w (o.setCell ⟨br,3,O⟩ (.bool true)) br vw ws nx' n (y||!false)∧(o.setCell ⟨br,3,O⟩ (.bool true)).heap[w.heap.size]? = some (.cells #[I J 0,I J 0,Z ⟨#[]⟩] 66 (0,0))∧(o.setCell ⟨br,3,O⟩ (.bool true)).heap[b.heap.size]? = some (.cells #[I J a.1,I J a.2.1,Z a.2.2] 66 (0,0))):=⟨by simpa using d.wrong true,m,g2⟩
   clear m g2 M;go_wp2_with fail;go_meet
   case rel=>exact u.out
  ·have u:Hid (bG w o br vw ws nx' n (y||!true)∧o.heap[w.heap.size]? = some (.cells #[I J 0,I J 0,Z ⟨#[]⟩] 66 (0,0))∧o.heap[b.heap.size]? = some (.cells #[I J a.1,I J a.2.1,Z a.2.2] 66 (0,0))):=⟨by simpa using d,l,i⟩
   go_wp2_with fail;go_meet
   case rel=>exact u.out
 case rest =>
  obtain⟨D,m,g2⟩:=hcut
  clear c3 T d l i;have V:wc.cell? ⟨b.heap.size,0,O⟩=some (I J a.1):=by simp[World.cell?,g2]
  have W:wc.cell? ⟨b.heap.size,1,O⟩=some (I J a.2.1):=by simp[World.cell?,g2]
  have X:wc.cell? ⟨b.heap.size,2,O⟩=some (Z a.2.2):=by simp[World.cell?,g2]
  have y0:wc.cell? ⟨w.heap.size,0,O⟩=some (I J 0):=by simp[World.cell?,m]
  have y1:wc.cell? ⟨w.heap.size,1,O⟩=some (I J 0):=by simp[World.cell?,m]
  have y2:wc.cell? ⟨w.heap.size,2,O⟩=some (Z ⟨#[]⟩):=by simp[World.cell?,m]
  have f0:∀ j,wc.frozen? ⟨w.heap.size,j,O⟩=false:=fun j=>by simp[World.frozen?,m]
  have u:Hid (bG w (jC wc w.heap.size (I J a.1) (I J a.2.1) (Z a.2.2)) br vw ws nx' n (y||!L)∧(loadVar 66 ⟨w.heap.size,0,O⟩).run Tryz.prog (jC wc w.heap.size (I J a.1) (I J a.2.1) (Z a.2.2))=.ok (qH a.1 a.2.1 a.2.2) (jC wc w.heap.size (I J a.1) (I J a.2.1) (Z a.2.2))):=⟨D.put (Nat.le_refl _) F.out E _ _ _,zW _ _ _ _ _ _ _ (sH m)⟩
  clear D m g2;go_wp2;exact bodyPost_ret (dO rfl _ _ _ rfl u.out.2) rfl ⟨rfl,u.out.1⟩
end
theorem Tryz.infoEnt:(Tryz.prog.info? 66).map (fun i=>(i.zero,i.size,i.bytes))=some (some (.agg #[I J 0,I J 0,Z Ze]),3,32):=by kernel_rfl
def aA (l:List (Int×Int×ByteArray)):List Value:=l.flatMap (fun e=>[I J e.1,I J e.2.1,Z e.2.2])
theorem lJ (a b:List (Int×Int×ByteArray)):aA (a++b)=aA a++aA b:=by simp[aA]
def gP (l:List ByteArray) (n:Int):List (Int×Int×ByteArray):=l.map (fun e=>iB e n)
def kg (s:ByteArray) (n:Int):List (Int×Int×ByteArray):=if fE s n=true then gP (nC s) n else []
theorem Jq {wr W w4:World} (hb:Below W.heap.size W w4) (h0:Below wr.heap.size wr W):Below wr.heap.size wr w4:=h0.trans (hb.mono h0.size)
theorem Lx {wr w4 W:World} (hb:Below W.heap.size W w4) (hW:W.heap=(wr.alloc (.cells #[I J 0,I J 0,Z ⟨#[]⟩] 66)).heap):w4.heap[wr.heap.size]? = some (.cells #[I J 0,I J 0,Z ⟨#[]⟩] 66 (0,0)):=by
 have e:=heap_alloc_new wr (.cells #[I J 0,I J 0,Z ⟨#[]⟩] 66);rw[← hW] at e;exact (hb.block wr.heap.size (lt_of_block e)).trans e
section
variable (br:Nat) (vw:Value) (ws:List ByteArray) (nx:Nat) (n:Int) (wr:Bool) (w:World) (h:bf w br vw ws nx n wr) (hl:ws.length≤100000) (hz:∀ x∈ws,x.size≤1000)
theorem Oz (br:Nat) (vw:Value) (ws:List ByteArray) (nx:Nat) (n:Int) (wr:Bool) (w:World) (h:bf w br vw ws nx n wr) (hl:ws.length≤100000) (hz:∀ x∈ws,x.size≤1000) :
  Calls Tryz.prog 153 #[Zp (some ⟨br,0,O⟩)] w fun e w'=>∃ v,e=Zr v∧w'.ownsRow w.heap.size 66 3 v (kg (wrd ws nx) n).length (aA (kg (wrd ws nx) n))∧bG w w' br vw ws (nxt ws nx) n (wr||!fE (wrd ws nx) n):=by
 obtain⟨i0,hi,ab,ac,ad⟩:=info_parts Tryz.infoEnt
 have ax:=kK (nx:=nx) hz;have az:=lt_of_block h.block;have HO:Hid (((wr||!decide (nx<ws.length))||!fE (wrd ws nx) n)=(wr||!fE (wrd ws nx) n)):=nN (f:=fun x=>fE x n) (by
  have e:bU (⟨#[]⟩:ByteArray) 47=[⟨#[]⟩]:=rfl
  have e2:((⟨#[]⟩:ByteArray).toList==[45])=false:=by rw[ByteArray.toList_eq];rfl
  unfold fE;rw[e,e2];simp[sw])
 have ae:Hid (Calls Tryz.prog 69 #[Zp (some ⟨br,0,O⟩)] w fun e w'=>e=Zr (Z (wrd ws nx))∧bG w w' br vw ws (nxt ws nx) n (wr||!decide (nx<ws.length))):=lW br vw ws nx n wr w h hl
 have af:Hid ((wr||!decide (nx<ws.length))=true→nx<ws.length→wr=true):=fun q r=>by simpa [r] using q
 have D:Hid (((wrd ws nx).toList==[45])=true→(wr||!decide (nx<ws.length))=wr):=fun q=>by
  by_cases b:nx<ws.length
  ·simp[b]
  ·rw[yU b,ByteArray.toList_eq] at q;exact absurd q (by decide)
 rw[← HO.out];clear HO af;generalize (wr||!decide (nx<ws.length))=w0 at *
 generalize wrd ws nx=s at *;generalize nxt ws nx=nx' at *;have ai:Hid (∀ w,Calls Tryz.prog 39 #[Z s,I .u8 47] w fun e w'=>∃ v,e=Zr v∧w'.ownsRow w.heap.size 9 1 v (bU s 47).length ((bU s 47).map Value.string)∧Below w.heap.size w w'):=fun w=>sG s 47 w (by omega)
 have ak:=mM s 47;have a0:=Ee s 47;have M:Hid ((s.toList==[45])=true→fE s n=true∧kg s n=[]):=fun q=>by
  have N:fE s n=true:=by unfold fE;rw[if_pos q]
  exact⟨N,by unfold kg nC;rw[N,if_pos rfl,if_pos q];rfl⟩
 have HI:Hid ((s.toList==[45])=false→fE s n=((bU s 47).all (fun p=>eX p n)&&decide ((bU s 47).length≤10))):=fun q=>by unfold fE;rw[if_neg (by simp[q])]
 have E:Hid (fE s n=false→kg s n=[]):=fun q=>by unfold kg;rw[q];rfl
 have P:Hid ((s.toList==[45])=false→fE s n=true→kg s n=gP (bU s 47) n):=fun q r=>by unfold kg nC;rw[r,if_pos rfl,if_neg (by simp[q])]
 generalize bU s 47=a at *;generalize kg s n=lr at *;generalize fE s n=B at *;go_enter Tryz.func153,Tryz.ntmps153;go_wp2_with fail;refine ae.out.mono ?_;rintro e w1 ⟨rfl,hP⟩;by_cases hd':(s.toList==[45])=true
 ·have hd:=hd';obtain⟨N,e2⟩:=M.out hd
  have d:Hid (B=true∧lr=[]):=⟨N,e2⟩
  clear N e2;go_wp2;go_ret;exact⟨_,rfl,by rw[d.out.2];exact World.ownsRow_nil _ _ _ _,by rw[d.out.1];simpa using hP⟩
 have hd:(s.toList==[45])=false:=by simpa using hd'
 clear hd';have F:Hid (B=(a.all (fun p=>eX p n)&&decide (a.length≤10))):=HI.out hd
 have al:Hid (B=true→lr=gP a n):=fun q=>P.out hd q
 clear HI P M D;go_wp2_with fail;refine (ai.out _).mono ?_;rintro e w2 ⟨v2,rfl,g,am⟩;have l:=hP.below am;have Q:=Strs.bX g;obtain⟨a2,av,rfl,_,_⟩:=Q.shape
 have c3:=l.1.at 3 (by omega)
 have f3:=l.1.free 3;simp at c3;have R:w.heap.size≤w2.heap.size:=l.2.size
 clear g;by_cases a1:10<a.length
 ·have d:Hid (B=false):=by unfold Hid;rw[F.out,decide_eq_false (by omega)];simp
  have S:(10:Int)<(a.length:Int):=by omega
  go_wp2;go_ret;exact⟨_,rfl,by rw[E.out d.out];exact World.ownsRow_nil _ _ _ _,by rw[d.out];simpa using l.wrong true⟩
 have S:(a.length:Int)≤10:=by omega
 have T:Hid (B=a.all (fun p=>eX p n)):=by unfold Hid;rw[F.out,decide_eq_true (by omega:a.length≤10)];simp
 clear F;go_upto_if 17 with fail
 go_cut [] from 9 (fun wr=>wr=w2)
 case first =>
  go_wp2_with fail;go_meet
  case rel=>rfl
 case rest =>
  subst hcut;obtain⟨U,an⟩:∃ x,x=wc:=⟨_,rfl⟩
  subst an;go_wp2_with fail;go_loopw [5,6] (fun v i wr=>∃ k:Nat,k≤a.length∧i=I J k∧wr.ownsRow U.heap.size 66 3 v (gP (a.take k) n).length (aA (gP (a.take k) n))∧(a.take k).all (fun p=>eX p n)=true∧Below U.heap.size U wr) (fun _ i _=>a.length-(intOf i).toNat)
  case atStart=>exact⟨0,Nat.zero_le _,rfl,World.ownsRow_nil _ _ _ _,by simp,Below.refl _ _⟩
  case round =>
   obtain⟨k,hk,rfl,m,C,hb⟩:=hrel
   have V:Hid ((a.take k).all (fun p=>eX p n)=true):=C
   clear C c3 f3;have y:=l.below hb;by_cases b:k<a.length
   ·have W:=Q.below hb;obtain⟨bp,op,rfl,a3,yk⟩:=W.get k b
    have zk:=ak a[k] (List.getElem_mem _);have ao:Hid (gP (a.take (k+1)) n=gP (a.take k) n++[iB a[k] n]):=by unfold Hid gP;exact tH b
    have ap:Hid ((a.take (k+1)).all (fun p=>eX p n)=((a.take k).all (fun p=>eX p n)&&eX a[k] n)):=by
     unfold Hid;rw[List.take_succ_eq_append_getElem b,List.all_append];simp
    have HF:Hid (eX a[k] n=false→B=false):=fun q=>by
     rw[T.out];exact List.all_eq_false.2 ⟨a[k],List.getElem_mem _,by simpa using q⟩
    have a4:(gP (a.take k) n).length≤10:=by unfold gP;simp;omega
    have aq:Hid (∀ w,Calls Tryz.prog 152 #[Z a[k],I J n] w fun e w'=>e=Zr (.tuple #[.agg #[I J (iB a[k] n).1,I J (iB a[k] n).2.1,Z (iB a[k] n).2.2],.bool (eX a[k] n)])∧Below w.heap.size w w'):=fun w=>Cn _ n w (by omega)
    generalize gP (a.take k) n=lk at *;generalize iB a[k] n=t at *;generalize eX a[k] n=ie at *;have j1:(0:Int)≤(k:Int):=by omega
    have j2:(k:Int)<(a.length:Int):=by omega
    have c2:=y.1.at 2 (by omega)
    simp at c2;have aw:=lt_of_block y.1.block;go_upto_region 12 with fail
    go_cut [7,8] from 21 to 47 (fun p o wx=>∃ G,p=Zp (some ⟨G,0,O⟩)∧o=.bool ie∧Below wr.heap.size wr wx∧wr.heap.size≤G∧wx.heap[G]? = some (.cells #[I J t.1,I J t.2.1,Z t.2.2] 66 (0,0)))
    case first =>
     go_region_with (go_at_call 152;refine (aq.out _).mono ?_;rintro e H ⟨rfl,c⟩;have z:Below wr.heap.size wr H:=Jq c (by first|exact (Below.refl _ wr).drew|exact ((Below.refl _ wr).alloc (Nat.le_refl _) _).drew|exact (Below.refl _ wr).drew.alloc (Nat.le_refl _) _|exact (Below.refl _ wr).alloc (Nat.le_refl _) _|exact Below.refl _ wr);try (have X:=Lx (wr:=wr) c (by rfl);have x0:H.cell? ⟨wr.heap.size,0,O⟩=some (I J 0):=(by simp[World.cell?,X]);have x1:H.cell? ⟨wr.heap.size,1,O⟩=some (I J 0):=(by simp[World.cell?,X]);have x2:H.cell? ⟨wr.heap.size,2,O⟩=some (Z ⟨#[]⟩):=(by simp[World.cell?,X]);have x3:∀ j,H.frozen? ⟨wr.heap.size,j,O⟩=false:=(fun j=>by simp[World.frozen?,X])))
     all_goals go_wp2_with fail
     all_goals go_meet
     all_goals first
      | exact⟨H.heap.size,rfl,rfl,z.alloc z.size _,z.size,heap_alloc_new H _⟩
      | exact⟨wr.heap.size,rfl,rfl,qh z (Nat.le_refl _),Nat.le_refl _,sH X⟩
    case rest =>
     obtain⟨G,rfl,rfl,c,a5,A⟩:=hcut
     have a6:Hid (ie=false→lr=[]):=fun q=>E.out (HF.out q)
     have K:=y.below c;have c3:=K.1.at 3 (by omega)
     have f3:=K.1.free 3;simp at c3;have L:=dh m c;have x0:wc.cell? ⟨G,0,O⟩=some (I J t.1):=by simp[World.cell?,A]
     have x1:wc.cell? ⟨G,1,O⟩=some (I J t.2.1):=by simp[World.cell?,A]
     have x2:wc.cell? ⟨G,2,O⟩=some (Z t.2.2):=by simp[World.cell?,A]
     have aa:=hb.trans (c.mono hb.size);cases ie
     ·have d:Hid (B=false):=HF.out rfl
      go_wp2;go_ret;exact⟨_,rfl,by rw[E.out d.out];exact World.ownsRow_nil _ _ _ _,by rw[d.out];simpa using K.wrong true⟩
     ·clear A c3 f3;go_wp2_with (at_builtin;refine app1 rfl _ _ 47 rfl U.heap.size 66 i0 _ 3 32 Tryz.underlying47 hi ab ac ad rfl (by decide) wc _ _ _ (by rfl) L 1 [I J t.1,I J t.2.1,Z t.2.2] (by rfl) rfl ?c2 (by omega) (by decide) aa.size ?_)
      case c2=>intro u hu;simp at hu;rcases hu with rfl|rfl|rfl <;> rfl
      intro v5 w5 hown5 hg5 hb5 hn5;have ar:Hid (w5.ownsRow U.heap.size 66 3 v5 (lk++[t]).length (aA (lk++[t]))):=by unfold Hid;rw[lJ,List.length_append];exact hown5
      clear hown5;go_wp2;go_roundw
      case rel=>exact⟨k+1,by omega,by go_num,by rw[ao.out];exact ar.out,by rw[ap.out,V.out];rfl,aa.trans hb5⟩
      case measure=>simp[intOf];omega
   ·obtain rfl:k=a.length:=by omega
    have d:Hid (B=true):=by unfold Hid;rw[T.out];have:=V.out;rwa [List.take_length] at this
    rw[List.take_length] at m;go_wp2;go_ret;exact⟨_,rfl,by rw[al.out d.out];exact fB m R,by rw[d.out];simpa using y⟩
end
end Go.Proofs.YtinaollfjiddmaaGreatDoor
