import Derived.Test.YtinaollfjiddmaaGreatDoorA14
set_option maxRecDepth 100000
set_option maxHeartbeats 8000000
set_option linter.all false
namespace Go.Proofs.YtinaollfjiddmaaGreatDoor
open Go.Value renaming int→I,slice→Y,string→Z,pointer→Zp
open Go.Ending renaming returned→Zr
open _root_.ByteArray renaming empty→Ze
open Go.IntKind renaming i64→J
open Option renaming none→O
open Go.RowKit
section
variable (br:Nat) (vw:Value) (ws:List ByteArray) (nx:Nat) (n:Int) (wr:Bool) (w:World) (h:bf w br vw ws nx n wr) (hl:ws.length≤100000) (hz:∀ x∈ws,x.size≤1000) (hn3:3≤n) (hn7:n≤7)
theorem OC (br:Nat) (vw:Value) (ws:List ByteArray) (nx:Nat) (n:Int) (wr:Bool) (w:World) (h:bf w br vw ws nx n wr) (hl:ws.length≤100000) (hz:∀ x∈ws,x.size≤1000) (hn3:3≤n) (hn7:n≤7) (k:Int) (hk:k=104∨k=103∨k=114∨k=116) :
  Calls Tryz.prog 71 #[Zp (some ⟨br,0,O⟩),I .u8 k] w fun e w'=>rU w w' br vw ws n k (aJ (wrd ws nx) 0 (n-1)) (jM (wrd ws (nxt ws nx)) n) (aJ (wrd ws (nxt ws (nxt ws nx))) 0 10) (aJ (wrd ws (nxt ws (nxt ws (nxt ws nx)))) 0 999) (nxt ws (nxt ws (nxt ws (nxt ws nx))))
   ((((wr||!ay (wrd ws nx).data.toList 0 (n-1))||!dM (wrd ws (nxt ws nx)) n)||!ay (wrd ws (nxt ws (nxt ws nx))).data.toList 0 10)||!ay (wrd ws (nxt ws (nxt ws (nxt ws nx)))).data.toList 0 999) e:=by
 have ai:=lt_of_block h.block;have ak:(-9223372036854775808:Int)≤n-1∧n-1≤9223372036854775807:=by omega
 have al:Hid (∀ (w':World) (nx:Nat) (wr:Bool) (a b:Int),0≤a→b≤999→bf w' br vw ws nx n wr→Calls Tryz.prog 113 #[Zp (some ⟨br,0,O⟩),I J a,I J b] w' fun e d=>e=Zr (I J (aJ (wrd ws nx) a b))∧bG w' d br vw ws (nxt ws nx) n (wr||!ay (wrd ws nx).data.toList a b)):=fun w' nx wr a b q r s=>dY br vw ws nx n wr w' s hl hz a b q r
 have am:Hid (∀ (w':World) (nx:Nat) (wr:Bool),bf w' br vw ws nx n wr→Calls Tryz.prog 117 #[Zp (some ⟨br,0,O⟩)] w' fun e d=>e=Zr (.agg #[I J (iB (wrd ws nx) n).1,I J (iB (wrd ws nx) n).2.1,Z (iB (wrd ws nx) n).2.2])∧bG w' d br vw ws (nxt ws nx) n (wr||!eX (wrd ws nx) n)):=fun w' nx wr s=>xI br vw ws nx n wr w' s hl hz
 have R:=fun (w':World) (nx:Nat) (wr:Bool) (s:bf w' br vw ws nx n wr) (bm:Nat) (c:Array Value)=>rE br vw ws nx n wr w' s hl hz bm c
 have S:=fun (w':World) (nx:Nat) (wr:Bool) (s:bf w' br vw ws nx n wr) (bm:Nat) (c:Array Value)=>uD br vw ws nx n wr w' s hl hz bm c
 have ae:Hid _:=R
 have af:Hid _:=S
 clear R S;have T:Hid (∀ w',bf w' br vw ws nx n wr→Calls Tryz.prog 113 #[Zp (some ⟨br,0,O⟩),I J 0,I J (n-1)] w' fun e d=>e=Zr (I J (aJ (wrd ws nx) 0 (n-1)))∧bG w' d br vw ws (nxt ws nx) n (wr||!ay (wrd ws nx).data.toList 0 (n-1))):=fun w' q=>dY br vw ws nx n wr w' q hl hz 0 (n-1) (by omega) (by omega)
 generalize aJ (wrd ws nx) 0 (n-1)=v1 at *;generalize (wr||!ay (wrd ws nx).data.toList 0 (n-1))=u at *
 generalize nxt ws nx=f at *;have U:Hid (∀ w',bf w' br vw ws f n u→Calls Tryz.prog 116 #[Zp (some ⟨br,0,O⟩)] w' fun e d=>∃ v,e=Zr v∧d.ownsRow w'.heap.size 3 1 v (jM (wrd ws f) n).length ((jM (wrd ws f) n).map (Value.int .i64))∧bG w' d br vw ws (nxt ws f) n (u||!dM (wrd ws f) n)):=fun w' q=>xJ br vw ws f n u w' q hl hz hn3 hn7
 generalize jM (wrd ws f) n=v2 at *;generalize (u||!dM (wrd ws f) n)=y at *
 generalize nxt ws f=g at *;have V:Hid (∀ w',bf w' br vw ws g n y→Calls Tryz.prog 113 #[Zp (some ⟨br,0,O⟩),I J 0,I J 10] w' fun e d=>e=Zr (I J (aJ (wrd ws g) 0 10))∧bG w' d br vw ws (nxt ws g) n (y||!ay (wrd ws g).data.toList 0 10)):=fun w' q=>dY br vw ws g n y w' q hl hz 0 10 (by omega) (by omega)
 generalize aJ (wrd ws g) 0 10=v3 at *;generalize (y||!ay (wrd ws g).data.toList 0 10)=z at *
 generalize nxt ws g=i at *;have W:Hid (∀ w',bf w' br vw ws i n z→Calls Tryz.prog 113 #[Zp (some ⟨br,0,O⟩),I J 0,I J 999] w' fun e d=>e=Zr (I J (aJ (wrd ws i) 0 999))∧bG w' d br vw ws (nxt ws i) n (z||!ay (wrd ws i).data.toList 0 999)):=fun w' q=>dY br vw ws i n z w' q hl hz 0 999 (by omega) (by omega)
 generalize aJ (wrd ws i) 0 999=v4 at *;generalize (z||!ay (wrd ws i).data.toList 0 999)=an at *
 generalize nxt ws i=ao at *;have Q:=MO.start h k;have N:=Q.1.rdr.at 2 (by omega)
 simp at N;go_enter Tryz.func71,Tryz.ntmps71;simp only[jc] at Q N;go_wp2_with fail;clear N;generalize ((w.alloc _).alloc _)=wA at Q ⊢;refine (T.out _ Q.1.rdr).mono ?_;rintro e aa ⟨rfl,t⟩;have A1:=Q.call t;obtain⟨A,B,C,D,E,F,G,H,K,L,j,l,m,o,p,M⟩:=A1.1.msg.all
 clear Q t;have B1:MO w _ br vw ws _ n _ #[_,_,_,_,_,_,_,_,_,_,_,_,_,_,_] _:=A1.put 1 (I J v1)
 clear A1;go_wp2_with fail;generalize aa.setCell ⟨w.heap.size+1,1,O⟩ (I J v1)=ap at *;clear A B C D E F G H K L j l m o p M;refine (U.out _ B1.1.rdr).mono ?_;rintro e ab ⟨vl,rfl,hO,t⟩;have A2:=B1.own t hO;obtain⟨la,lc,rfl⟩:=aj hO
 obtain⟨A,B,C,D,E,F,G,H,K,L,j,l,m,o,p,M⟩:=A2.1.msg.all
 clear B1 t hO;have B2:MO w _ br vw ws _ n _ #[_,_,_,_,_,_,_,_,_,_,_,_,_,_,_] _:=A2.put 2 (Y la v2.length lc)
 clear A2;go_wp2_with fail;generalize ab.setCell ⟨w.heap.size+1,2,O⟩ (Y la v2.length lc)=aq at *;clear A B C D E F G H K L j l m o p M;refine (V.out _ B2.1.rdr).mono ?_;rintro e ac ⟨rfl,t⟩;have A3:=B2.call t;obtain⟨A,B,C,D,E,F,G,H,K,L,j,l,m,o,p,M⟩:=A3.1.msg.all
 clear B2 t;have B3:MO w _ br vw ws _ n _ #[_,_,_,_,_,_,_,_,_,_,_,_,_,_,_] _:=A3.put 3 (I J v3)
 clear A3;go_wp2_with fail;generalize ac.setCell ⟨w.heap.size+1,3,O⟩ (I J v3)=ar at *;clear A B C D E F G H K L j l m o p M;refine (W.out _ B3.1.rdr).mono ?_;rintro e ad ⟨rfl,t⟩;have A4:=B3.call t;obtain⟨A,B,C,D,E,F,G,H,K,L,j,l,m,o,p,M⟩:=A4.1.msg.all
 clear B3 t;have X:MO w _ br vw ws _ n _ #[_,_,_,_,_,_,_,_,_,_,_,_,_,_,_] _:=A4.put 4 (I J v4)
 clear A4;go_upto_region 6 with fail
 generalize ad.setCell ⟨w.heap.size+1,4,O⟩ (I J v4)=av at *;clear A B C D E F G H K L j l m o p M;clear T U V W;rcases hk with rfl|rfl|rfl|rfl
 iterate 4
  focus
   go_upto_region 30 with fail
   obtain⟨A,B,C,D,E,F,G,H,K,L,j,l,m,o,p,M⟩:=X.1.msg.all
   obtain⟨y0,y1,y2,y3,y4,y5,y6,y7,y8,y9,aw,ax,az,a0,a1,yf⟩:=X.1.zero.all
   have P:Hid _:=X.fin
   clear X;go_wp2
  rotate_left
 all_goals exact bodyPost_ret (dO rfl _ _ _ rfl P.out.2.1) rfl (by refine⟨?_,?_,?_,?_,?_,?_,?_,?_,?_,?_,?_⟩ <;> first|exact fun q=>absurd q (by decide)|exact fun _=>⟨_,rfl,P.out.2.2,P.out.1⟩|exact fun _=>⟨_,_,rfl,P.out.2.2,P.out.1⟩|exact fun _=>⟨_,_,_,_,rfl,P.out.2.2,P.out.1⟩|(intros;contradiction))
end
end Go.Proofs.YtinaollfjiddmaaGreatDoor
