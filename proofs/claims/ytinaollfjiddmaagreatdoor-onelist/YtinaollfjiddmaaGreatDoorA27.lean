import Derived.Test.YtinaollfjiddmaaGreatDoorA25
import Derived.Test.YtinaollfjiddmaaGreatDoorA26
set_option maxRecDepth 100000
set_option maxHeartbeats 8000000
set_option linter.all false
namespace Go.Proofs.YtinaollfjiddmaaGreatDoor
open Go.Value renaming int→I,slice→Y,string→Z,pointer→Zp
open Go.Ending renaming returned→Zr
open _root_.ByteArray renaming empty→Ze
open Go.IntKind renaming i64→J
open Option renaming none→O
open Go.RowKit
section
variable (br:Nat) (vw:Value) (ws:List ByteArray) (nx:Nat) (n:Int) (wr:Bool) (w:World) (h:bf w br vw ws nx n wr) (hl:ws.length≤100000) (hz:∀ x∈ws,x.size≤1000) (hn3:3≤n) (hn7:n≤7)
theorem OB (br:Nat) (vw:Value) (ws:List ByteArray) (nx:Nat) (n:Int) (wr:Bool) (w:World) (h:bf w br vw ws nx n wr) (hl:ws.length≤100000) (hz:∀ x∈ws,x.size≤1000) (hn3:3≤n) (hn7:n≤7) (k:Int) (hk:k=118∨k=115∨k=97) :
  Calls Tryz.prog 71 #[Zp (some ⟨br,0,O⟩),I .u8 k] w fun e w'=>rU w w' br vw ws n k (aJ (wrd ws nx) 0 (n-1)) (jM (wrd ws (nxt ws nx)) n) (aJ (wrd ws (nxt ws (nxt ws nx))) 0 10) (aJ (wrd ws (nxt ws (nxt ws (nxt ws nx)))) 0 999) (nxt ws (nxt ws (nxt ws (nxt ws nx))))
   ((((wr||!ay (wrd ws nx).data.toList 0 (n-1))||!dM (wrd ws (nxt ws nx)) n)||!ay (wrd ws (nxt ws (nxt ws nx))).data.toList 0 10)||!ay (wrd ws (nxt ws (nxt ws (nxt ws nx)))).data.toList 0 999) e:=by
 have a8:=lt_of_block h.block;have a9:(-9223372036854775808:Int)≤n-1∧n-1≤9223372036854775807:=by omega
 have am:Hid (∀ (w':World) (nx:Nat) (wr:Bool) (a b:Int),0≤a→b≤999→bf w' br vw ws nx n wr→Calls Tryz.prog 113 #[Zp (some ⟨br,0,O⟩),I J a,I J b] w' fun e m=>e=Zr (I J (aJ (wrd ws nx) a b))∧bG w' m br vw ws (nxt ws nx) n (wr||!ay (wrd ws nx).data.toList a b)):=fun w' nx wr a b q r s=>dY br vw ws nx n wr w' s hl hz a b q r
 have ba:Hid (∀ (w':World) (nx:Nat) (wr:Bool),bf w' br vw ws nx n wr→Calls Tryz.prog 117 #[Zp (some ⟨br,0,O⟩)] w' fun e m=>e=Zr (.agg #[I J (iB (wrd ws nx) n).1,I J (iB (wrd ws nx) n).2.1,Z (iB (wrd ws nx) n).2.2])∧bG w' m br vw ws (nxt ws nx) n (wr||!eX (wrd ws nx) n)):=fun w' nx wr s=>xI br vw ws nx n wr w' s hl hz
 have an:=fun (w':World) (nx:Nat) (wr:Bool) (s:bf w' br vw ws nx n wr) (bm:Nat) (c:Array Value)=>rE br vw ws nx n wr w' s hl hz bm c
 have ao:=fun (w':World) (nx:Nat) (wr:Bool) (s:bf w' br vw ws nx n wr) (bm:Nat) (c:Array Value)=>uD br vw ws nx n wr w' s hl hz bm c
 have V:Hid _:=an
 have af:Hid _:=ao
 clear an ao;have ap:Hid (∀ w',bf w' br vw ws nx n wr→Calls Tryz.prog 113 #[Zp (some ⟨br,0,O⟩),I J 0,I J (n-1)] w' fun e m=>e=Zr (I J (aJ (wrd ws nx) 0 (n-1)))∧bG w' m br vw ws (nxt ws nx) n (wr||!ay (wrd ws nx).data.toList 0 (n-1))):=fun w' q=>dY br vw ws nx n wr w' q hl hz 0 (n-1) (by omega) (by omega)
 generalize aJ (wrd ws nx) 0 (n-1)=v1 at *;generalize (wr||!ay (wrd ws nx).data.toList 0 (n-1))=W at *
 generalize nxt ws nx=o at *;have aq:Hid (∀ w',bf w' br vw ws o n W→Calls Tryz.prog 116 #[Zp (some ⟨br,0,O⟩)] w' fun e m=>∃ v,e=Zr v∧m.ownsRow w'.heap.size 3 1 v (jM (wrd ws o) n).length ((jM (wrd ws o) n).map (Value.int .i64))∧bG w' m br vw ws (nxt ws o) n (W||!dM (wrd ws o) n)):=fun w' q=>xJ br vw ws o n W w' q hl hz hn3 hn7
 generalize jM (wrd ws o) n=v2 at *;generalize (W||!dM (wrd ws o) n)=X at *
 generalize nxt ws o=p at *;have ar:Hid (∀ w',bf w' br vw ws p n X→Calls Tryz.prog 113 #[Zp (some ⟨br,0,O⟩),I J 0,I J 10] w' fun e m=>e=Zr (I J (aJ (wrd ws p) 0 10))∧bG w' m br vw ws (nxt ws p) n (X||!ay (wrd ws p).data.toList 0 10)):=fun w' q=>dY br vw ws p n X w' q hl hz 0 10 (by omega) (by omega)
 generalize aJ (wrd ws p) 0 10=v3 at *;generalize (X||!ay (wrd ws p).data.toList 0 10)=aa at *
 generalize nxt ws p=t at *;have av:Hid (∀ w',bf w' br vw ws t n aa→Calls Tryz.prog 113 #[Zp (some ⟨br,0,O⟩),I J 0,I J 999] w' fun e m=>e=Zr (I J (aJ (wrd ws t) 0 999))∧bG w' m br vw ws (nxt ws t) n (aa||!ay (wrd ws t).data.toList 0 999)):=fun w' q=>dY br vw ws t n aa w' q hl hz 0 999 (by omega) (by omega)
 generalize aJ (wrd ws t) 0 999=v4 at *;generalize (aa||!ay (wrd ws t).data.toList 0 999)=bb at *
 generalize nxt ws t=ab at *;have M0:=MO.start h k;have ai:=M0.1.rdr.at 2 (by omega)
 simp at ai;go_enter Tryz.func71,Tryz.ntmps71;simp only[jc] at M0 ai;go_wp2_with fail;clear ai;generalize ((w.alloc _).alloc _)=wA at M0 ⊢;refine (ap.out _ M0.1.rdr).mono ?_;rintro e a2 ⟨rfl,u⟩;have A1:=M0.call u;obtain⟨D,E,F,G,H,K,L,M,N,P,f,g,i,j,l,Q⟩:=A1.1.msg.all
 clear M0 u;have B1:MO w _ br vw ws _ n _ #[_,_,_,_,_,_,_,_,_,_,_,_,_,_,_] _:=A1.put 1 (I J v1)
 clear A1;go_wp2_with fail;generalize a2.setCell ⟨w.heap.size+1,1,O⟩ (I J v1)=bc at *;clear D E F G H K L M N P f g i j l Q;refine (aq.out _ B1.1.rdr).mono ?_;rintro e a3 ⟨vl,rfl,hO,u⟩;have A2:=B1.own u hO;obtain⟨la,lc,rfl⟩:=aj hO
 obtain⟨D,E,F,G,H,K,L,M,N,P,f,g,i,j,l,Q⟩:=A2.1.msg.all
 clear B1 u hO;have B2:MO w _ br vw ws _ n _ #[_,_,_,_,_,_,_,_,_,_,_,_,_,_,_] _:=A2.put 2 (Y la v2.length lc)
 clear A2;go_wp2_with fail;generalize a3.setCell ⟨w.heap.size+1,2,O⟩ (Y la v2.length lc)=bd at *;clear D E F G H K L M N P f g i j l Q;refine (ar.out _ B2.1.rdr).mono ?_;rintro e a4 ⟨rfl,u⟩;have A3:=B2.call u;obtain⟨D,E,F,G,H,K,L,M,N,P,f,g,i,j,l,Q⟩:=A3.1.msg.all
 clear B2 u;have B3:MO w _ br vw ws _ n _ #[_,_,_,_,_,_,_,_,_,_,_,_,_,_,_] _:=A3.put 3 (I J v3)
 clear A3;go_wp2_with fail;generalize a4.setCell ⟨w.heap.size+1,3,O⟩ (I J v3)=be at *;clear D E F G H K L M N P f g i j l Q;refine (av.out _ B3.1.rdr).mono ?_;rintro e a5 ⟨rfl,u⟩;have A4:=B3.call u;obtain⟨D,E,F,G,H,K,L,M,N,P,f,g,i,j,l,Q⟩:=A4.1.msg.all
 clear B3 u;have R:MO w _ br vw ws _ n _ #[_,_,_,_,_,_,_,_,_,_,_,_,_,_,_] _:=A4.put 4 (I J v4)
 clear A4;go_upto_region 6 with fail
 generalize a5.setCell ⟨w.heap.size+1,4,O⟩ (I J v4)=bg at *;clear D E F G H K L M N P f g i j l Q;clear ap aq ar av;rcases hk with rfl|rfl|rfl
 focus
  go_wp2_with fail;refine (am.out _ _ _ 0 999 (by omega) (by omega) R.1.rdr).mono ?_
  rintro e a6 ⟨rfl,u⟩;have ak:=R.call u;obtain⟨D,E,F,G,H,K,L,M,N,P,f,g,i,j,l,Q⟩:=ak.1.msg.all
  clear R u;have z:MO w _ br vw ws _ n _ #[_,_,_,_,_,_,_,_,_,_,_,_,_,_,_] _:=ak.put 10 (I J (aJ (wrd ws ab) 0 999))
  clear ak;go_upto_region 22 with fail
  generalize a6.setCell ⟨w.heap.size+1,10,O⟩ (I J (aJ (wrd ws ab) 0 999))=bh at *;clear D E F G H K L M N P f g i j l Q;go_wp2_with fail;refine (V.out _ _ _ z.1.rdr _ _ z.1.msg (by have:=z.1.blt;omega) (z.1.fr (by omega))).mono ?_
  rintro e bi ⟨vL,rfl,d,S,T,U⟩;obtain⟨ea,ec,rfl⟩:=aj d
  have ac:MO w _ br vw ws _ n _ #[_,_,_,_,_,_,_,_,_,_,_,_,_,_,_] _:=(z.big T S U).add z.2.2 d
  clear z d S T U;go_upto_region 30 with fail
  obtain⟨D,E,F,G,H,K,L,M,N,P,f,g,i,j,l,Q⟩:=ac.1.msg.all
  obtain⟨y0,y1,y2,y3,y4,y5,y6,y7,y8,y9,aw,ax,az,a0,a1,yf⟩:=ac.1.zero.all
  have HG:Hid _:=ac.fin
  clear ac;go_wp2
 rotate_left
 focus
  go_wp2_with fail;refine (af.out _ _ _ R.1.rdr _ _ R.1.msg (by have:=R.1.blt;omega) (R.1.fr (by omega)) rfl).mono ?_
  rintro e bj ⟨vg,vo,rfl,d,A,S,T,U⟩;obtain⟨ga,gc,rfl⟩:=aj d
  obtain⟨oa,oc,rfl⟩:=aj A
  have B:MO w _ br vw ws _ n _ #[_,_,_,_,_,_,_,_,_,_,_,_,_,_,_] _:=((R.big T S U).add R.2.2 A).add R.2.2 d
  clear R d A S T U;go_upto_region 25 with fail
  go_wp2_with fail;refine (V.out _ _ _ B.1.rdr _ _ B.1.msg (by have:=B.1.blt;omega) (B.1.fr (by omega))).mono ?_
  rintro e bk ⟨vL,rfl,d,S,T,U⟩;obtain⟨ea,ec,rfl⟩:=aj d
  have ad:MO w _ br vw ws _ n _ #[_,_,_,_,_,_,_,_,_,_,_,_,_,_,_] _:=(B.big T S U).add B.2.2 d
  clear B d S T U;go_upto_region 30 with fail
  obtain⟨D,E,F,G,H,K,L,M,N,P,f,g,i,j,l,Q⟩:=ad.1.msg.all
  obtain⟨y0,y1,y2,y3,y4,y5,y6,y7,y8,y9,aw,ax,az,a0,a1,yf⟩:=ad.1.zero.all
  have HG:Hid _:=ad.fin
  clear ad;go_wp2
 rotate_left
 focus
  go_wp2_with fail;refine (am.out _ _ _ 1 999 (by omega) (by omega) R.1.rdr).mono ?_
  rintro e a7 ⟨rfl,u⟩;have al:=R.call u;obtain⟨D,E,F,G,H,K,L,M,N,P,f,g,i,j,l,Q⟩:=al.1.msg.all
  clear R u;have y:MO w _ br vw ws _ n _ #[_,_,_,_,_,_,_,_,_,_,_,_,_,_,_] _:=al.put 11 (I J (aJ (wrd ws ab) 1 999))
  clear al;go_upto_region 28 with fail
  generalize a7.setCell ⟨w.heap.size+1,11,O⟩ (I J (aJ (wrd ws ab) 1 999))=bl at *;clear D E F G H K L M N P f g i j l Q;go_wp2_with fail;refine (af.out _ _ _ y.1.rdr _ _ y.1.msg (by have:=y.1.blt;omega) (y.1.fr (by omega)) rfl).mono ?_
  rintro e bn ⟨vg,vo,rfl,d,A,S,T,U⟩;obtain⟨ga,gc,rfl⟩:=aj d
  obtain⟨oa,oc,rfl⟩:=aj A
  have C:MO w _ br vw ws _ n _ #[_,_,_,_,_,_,_,_,_,_,_,_,_,_,_] _:=((y.big T S U).add y.2.2 A).add y.2.2 d
  clear y d A S T U;go_upto_region 29 with fail
  go_wp2_with fail;refine (V.out _ _ _ C.1.rdr _ _ C.1.msg (by have:=C.1.blt;omega) (C.1.fr (by omega))).mono ?_
  rintro e bo ⟨vL,rfl,d,S,T,U⟩;obtain⟨ea,ec,rfl⟩:=aj d
  have ae:MO w _ br vw ws _ n _ #[_,_,_,_,_,_,_,_,_,_,_,_,_,_,_] _:=(C.big T S U).add C.2.2 d
  clear C d S T U;go_upto_region 30 with fail
  obtain⟨D,E,F,G,H,K,L,M,N,P,f,g,i,j,l,Q⟩:=ae.1.msg.all
  obtain⟨y0,y1,y2,y3,y4,y5,y6,y7,y8,y9,aw,ax,az,a0,a1,yf⟩:=ae.1.zero.all
  have HG:Hid _:=ae.fin
  clear ae;go_wp2
 rotate_left
 all_goals exact bodyPost_ret (dO rfl _ _ _ rfl HG.out.2.1) rfl (by refine⟨?_,?_,?_,?_,?_,?_,?_,?_,?_,?_,?_⟩ <;> first|exact fun q=>absurd q (by decide)|exact fun _=>⟨_,rfl,HG.out.2.2,HG.out.1⟩|exact fun _=>⟨_,_,rfl,HG.out.2.2,HG.out.1⟩|exact fun _=>⟨_,_,_,_,rfl,HG.out.2.2,HG.out.1⟩|(intros;contradiction))
theorem Bq (br:Nat) (vw:Value) (ws:List ByteArray) (nx:Nat) (n:Int) (wr:Bool) (w:World) (h:bf w br vw ws nx n wr) (hl:ws.length≤100000) (hz:∀ x∈ws,x.size≤1000) (hn3:3≤n) (hn7:n≤7) (k:Int) :
  Calls Tryz.prog 71 #[Zp (some ⟨br,0,O⟩),I .u8 k] w fun e w'=>rU w w' br vw ws n k (aJ (wrd ws nx) 0 (n-1)) (jM (wrd ws (nxt ws nx)) n) (aJ (wrd ws (nxt ws (nxt ws nx))) 0 10) (aJ (wrd ws (nxt ws (nxt ws (nxt ws nx)))) 0 999) (nxt ws (nxt ws (nxt ws (nxt ws nx))))
   ((((wr||!ay (wrd ws nx).data.toList 0 (n-1))||!dM (wrd ws (nxt ws nx)) n)||!ay (wrd ws (nxt ws (nxt ws nx))).data.toList 0 10)||!ay (wrd ws (nxt ws (nxt ws (nxt ws nx)))).data.toList 0 999) e:=by
 by_cases a:k=118∨k=115∨k=97
 ·exact OB br vw ws nx n wr w h hl hz hn3 hn7 k a
 by_cases b:k=104∨k=103∨k=114∨k=116
 ·exact OC br vw ws nx n wr w h hl hz hn3 hn7 k b
 ·exact OA br vw ws nx n wr w h hl hz hn3 hn7 k (by omega)
end
end Go.Proofs.YtinaollfjiddmaaGreatDoor
