import Derived.Test.YtinaollfjiddmaaGreatDoorA14
set_option maxRecDepth 100000
set_option maxHeartbeats 8000000
set_option linter.all false
namespace Go.Proofs.YtinaollfjiddmaaGreatDoor
open Go.Value renaming int→I,slice→Y,string→Z,pointer→Zp
open Go.Ending renaming returned→Zr
open _root_.ByteArray renaming empty→Ze
open Go.IntKind renaming i64→J
open Option renaming none→O
open Go.RowKit
section
variable (br:Nat) (vw:Value) (ws:List ByteArray) (nx:Nat) (n:Int) (wr:Bool) (w:World) (h:bf w br vw ws nx n wr) (hl:ws.length≤100000) (hz:∀ x∈ws,x.size≤1000) (hn3:3≤n) (hn7:n≤7)
theorem OA (br:Nat) (vw:Value) (ws:List ByteArray) (nx:Nat) (n:Int) (wr:Bool) (w:World) (h:bf w br vw ws nx n wr) (hl:ws.length≤100000) (hz:∀ x∈ws,x.size≤1000) (hn3:3≤n) (hn7:n≤7) (k:Int) (hk:¬(k=118∨k=115∨k=97∨k=104∨k=103∨k=114∨k=116)) :
  Calls Tryz.prog 71 #[Zp (some ⟨br,0,O⟩),I .u8 k] w fun e w'=>rU w w' br vw ws n k (aJ (wrd ws nx) 0 (n-1)) (jM (wrd ws (nxt ws nx)) n) (aJ (wrd ws (nxt ws (nxt ws nx))) 0 10) (aJ (wrd ws (nxt ws (nxt ws (nxt ws nx)))) 0 999) (nxt ws (nxt ws (nxt ws (nxt ws nx))))
   ((((wr||!ay (wrd ws nx).data.toList 0 (n-1))||!dM (wrd ws (nxt ws nx)) n)||!ay (wrd ws (nxt ws (nxt ws nx))).data.toList 0 10)||!ay (wrd ws (nxt ws (nxt ws (nxt ws nx)))).data.toList 0 999) e:=by
 have bn:=lt_of_block h.block;have bo:(-9223372036854775808:Int)≤n-1∧n-1≤9223372036854775807:=by omega
 have Q:Hid (∀ (w':World) (nx:Nat) (wr:Bool) (a b:Int),0≤a→b≤999→bf w' br vw ws nx n wr→Calls Tryz.prog 113 #[Zp (some ⟨br,0,O⟩),I J a,I J b] w' fun e o=>e=Zr (I J (aJ (wrd ws nx) a b))∧bG w' o br vw ws (nxt ws nx) n (wr||!ay (wrd ws nx).data.toList a b)):=fun w' nx wr a b q r s=>dY br vw ws nx n wr w' s hl hz a b q r
 have a0:Hid (∀ (w':World) (nx:Nat) (wr:Bool),bf w' br vw ws nx n wr→Calls Tryz.prog 117 #[Zp (some ⟨br,0,O⟩)] w' fun e o=>e=Zr (.agg #[I J (iB (wrd ws nx) n).1,I J (iB (wrd ws nx) n).2.1,Z (iB (wrd ws nx) n).2.2])∧bG w' o br vw ws (nxt ws nx) n (wr||!eX (wrd ws nx) n)):=fun w' nx wr s=>xI br vw ws nx n wr w' s hl hz
 have aq:=fun (w':World) (nx:Nat) (wr:Bool) (s:bf w' br vw ws nx n wr) (bm:Nat) (c:Array Value)=>rE br vw ws nx n wr w' s hl hz bm c
 have ar:=fun (w':World) (nx:Nat) (wr:Bool) (s:bf w' br vw ws nx n wr) (bm:Nat) (c:Array Value)=>uD br vw ws nx n wr w' s hl hz bm c
 have bb:Hid _:=aq
 have bc:Hid _:=ar
 clear aq ar;have av:Hid (∀ w',bf w' br vw ws nx n wr→Calls Tryz.prog 113 #[Zp (some ⟨br,0,O⟩),I J 0,I J (n-1)] w' fun e o=>e=Zr (I J (aJ (wrd ws nx) 0 (n-1)))∧bG w' o br vw ws (nxt ws nx) n (wr||!ay (wrd ws nx).data.toList 0 (n-1))):=fun w' q=>dY br vw ws nx n wr w' q hl hz 0 (n-1) (by omega) (by omega)
 generalize aJ (wrd ws nx) 0 (n-1)=v1 at *;generalize (wr||!ay (wrd ws nx).data.toList 0 (n-1))=R at *
 generalize nxt ws nx=G at *;have aw:Hid (∀ w',bf w' br vw ws G n R→Calls Tryz.prog 116 #[Zp (some ⟨br,0,O⟩)] w' fun e o=>∃ v,e=Zr v∧o.ownsRow w'.heap.size 3 1 v (jM (wrd ws G) n).length ((jM (wrd ws G) n).map (Value.int .i64))∧bG w' o br vw ws (nxt ws G) n (R||!dM (wrd ws G) n)):=fun w' q=>xJ br vw ws G n R w' q hl hz hn3 hn7
 generalize jM (wrd ws G) n=v2 at *;generalize (R||!dM (wrd ws G) n)=S at *
 generalize nxt ws G=H at *;have ax:Hid (∀ w',bf w' br vw ws H n S→Calls Tryz.prog 113 #[Zp (some ⟨br,0,O⟩),I J 0,I J 10] w' fun e o=>e=Zr (I J (aJ (wrd ws H) 0 10))∧bG w' o br vw ws (nxt ws H) n (S||!ay (wrd ws H).data.toList 0 10)):=fun w' q=>dY br vw ws H n S w' q hl hz 0 10 (by omega) (by omega)
 generalize aJ (wrd ws H) 0 10=v3 at *;generalize (S||!ay (wrd ws H).data.toList 0 10)=T at *
 generalize nxt ws H=K at *;have az:Hid (∀ w',bf w' br vw ws K n T→Calls Tryz.prog 113 #[Zp (some ⟨br,0,O⟩),I J 0,I J 999] w' fun e o=>e=Zr (I J (aJ (wrd ws K) 0 999))∧bG w' o br vw ws (nxt ws K) n (T||!ay (wrd ws K).data.toList 0 999)):=fun w' q=>dY br vw ws K n T w' q hl hz 0 999 (by omega) (by omega)
 generalize aJ (wrd ws K) 0 999=v4 at *;generalize (T||!ay (wrd ws K).data.toList 0 999)=bp at *
 generalize nxt ws K=l at *;have M0:=MO.start h k;have X:=M0.1.rdr.at 2 (by omega)
 simp at X;go_enter Tryz.func71,Tryz.ntmps71;simp only[jc] at M0 X;go_wp2_with fail;clear X;generalize ((w.alloc _).alloc _)=wA at M0 ⊢;refine (av.out _ M0.1.rdr).mono ?_;rintro e a1 ⟨rfl,m⟩;have A1:=M0.call m;obtain⟨p,t,u,y,z,A,B,C,D,E,d,f,g,i,j,F⟩:=A1.1.msg.all
 clear M0 m;have B1:MO w _ br vw ws _ n _ #[_,_,_,_,_,_,_,_,_,_,_,_,_,_,_] _:=A1.put 1 (I J v1)
 clear A1;go_wp2_with fail;generalize a1.setCell ⟨w.heap.size+1,1,O⟩ (I J v1)=bq at *;clear p t u y z A B C D E d f g i j F;refine (aw.out _ B1.1.rdr).mono ?_;rintro e a2 ⟨vl,rfl,hO,m⟩;have A2:=B1.own m hO;obtain⟨la,lc,rfl⟩:=aj hO
 obtain⟨p,t,u,y,z,A,B,C,D,E,d,f,g,i,j,F⟩:=A2.1.msg.all
 clear B1 m hO;have B2:MO w _ br vw ws _ n _ #[_,_,_,_,_,_,_,_,_,_,_,_,_,_,_] _:=A2.put 2 (Y la v2.length lc)
 clear A2;go_wp2_with fail;generalize a2.setCell ⟨w.heap.size+1,2,O⟩ (Y la v2.length lc)=bs at *;clear p t u y z A B C D E d f g i j F;refine (ax.out _ B2.1.rdr).mono ?_;rintro e a3 ⟨rfl,m⟩;have A3:=B2.call m;obtain⟨p,t,u,y,z,A,B,C,D,E,d,f,g,i,j,F⟩:=A3.1.msg.all
 clear B2 m;have B3:MO w _ br vw ws _ n _ #[_,_,_,_,_,_,_,_,_,_,_,_,_,_,_] _:=A3.put 3 (I J v3)
 clear A3;go_wp2_with fail;generalize a3.setCell ⟨w.heap.size+1,3,O⟩ (I J v3)=bt at *;clear p t u y z A B C D E d f g i j F;refine (az.out _ B3.1.rdr).mono ?_;rintro e a4 ⟨rfl,m⟩;have A4:=B3.call m;obtain⟨p,t,u,y,z,A,B,C,D,E,d,f,g,i,j,F⟩:=A4.1.msg.all
 clear B3 m;have L:MO w _ br vw ws _ n _ #[_,_,_,_,_,_,_,_,_,_,_,_,_,_,_] _:=A4.put 4 (I J v4)
 clear A4;go_upto_region 6 with fail
 generalize a4.setCell ⟨w.heap.size+1,4,O⟩ (I J v4)=a5 at *;clear p t u y z A B C D E d f g i j F;clear av aw ax az;by_cases N:k=112
 focus
  subst N;go_wp2_with fail;refine (Q.out _ _ _ 1 10 (by omega) (by omega) L.1.rdr).mono ?_
  rintro e a6 ⟨rfl,m⟩;have aa:=L.call m;obtain⟨p,t,u,y,z,A,B,C,D,E,d,f,g,i,j,F⟩:=aa.1.msg.all
  clear L m;have ab:MO w _ br vw ws _ n _ #[_,_,_,_,_,_,_,_,_,_,_,_,_,_,_] _:=aa.put 5 (I J (aJ (wrd ws l) 1 10))
  clear aa;go_upto_region 10 with fail
  generalize a6.setCell ⟨w.heap.size+1,5,O⟩ (I J (aJ (wrd ws l) 1 10))=bu at *;clear p t u y z A B C D E d f g i j F;go_wp2_with fail;refine (a0.out _ _ _ ab.1.rdr).mono ?_;rintro e a7 ⟨rfl,m⟩;have ac:=ab.call m;obtain⟨p,t,u,y,z,A,B,C,D,E,d,f,g,i,j,F⟩:=ac.1.msg.all
  clear ab m;have ad:MO w _ br vw ws _ n _ #[_,_,_,_,_,_,_,_,_,_,_,_,_,_,_] _:=((ac.put 6 (I J (iB (wrd ws (nxt ws l)) n).1)).put 7 (I J (iB (wrd ws (nxt ws l)) n).2.1)).put 8 (Z (iB (wrd ws (nxt ws l)) n).2.2)
  clear ac;go_upto_region 11 with fail
  generalize (((a7.setCell ⟨w.heap.size+1,6,O⟩ (I J (iB (wrd ws (nxt ws l)) n).1)).setCell ⟨w.heap.size+1,7,O⟩ (I J (iB (wrd ws (nxt ws l)) n).2.1)).setCell ⟨w.heap.size+1,8,O⟩ (Z (iB (wrd ws (nxt ws l)) n).2.2))=bv at *;clear p t u y z A B C D E d f g i j F;go_wp2_with fail;refine (Q.out _ _ _ 0 10 (by omega) (by omega) ad.1.rdr).mono ?_
  rintro e a8 ⟨rfl,m⟩;have ae:=ad.call m;obtain⟨p,t,u,y,z,A,B,C,D,E,d,f,g,i,j,F⟩:=ae.1.msg.all
  clear ad m;have U:MO w _ br vw ws _ n _ #[_,_,_,_,_,_,_,_,_,_,_,_,_,_,_] _:=ae.put 9 (I J (aJ (wrd ws (nxt ws (nxt ws l))) 0 10))
  clear ae;go_upto_region 30 with fail
  generalize a8.setCell ⟨w.heap.size+1,9,O⟩ (I J (aJ (wrd ws (nxt ws (nxt ws l))) 0 10))=bw at *;clear p t u y z A B C D E d f g i j F;obtain⟨p,t,u,y,z,A,B,C,D,E,d,f,g,i,j,F⟩:=U.1.msg.all
  obtain⟨y0,y1,y2,y3,y4,y5,y6,y7,y8,y9,af,ai,ak,al,am,yf⟩:=U.1.zero.all
  have M:Hid _:=U.fin
  clear U;go_wp2
 rotate_left
 by_cases P:k=107
 focus
  subst P;go_wp2_with fail;refine (Q.out _ _ _ 0 10 (by omega) (by omega) L.1.rdr).mono ?_
  rintro e a9 ⟨rfl,m⟩;have an:=L.call m;obtain⟨p,t,u,y,z,A,B,C,D,E,d,f,g,i,j,F⟩:=an.1.msg.all
  clear L m;have V:MO w _ br vw ws _ n _ #[_,_,_,_,_,_,_,_,_,_,_,_,_,_,_] _:=an.put 5 (I J (aJ (wrd ws l) 0 10))
  clear an;go_upto_region 30 with fail
  generalize a9.setCell ⟨w.heap.size+1,5,O⟩ (I J (aJ (wrd ws l) 0 10))=bx at *;clear p t u y z A B C D E d f g i j F;obtain⟨p,t,u,y,z,A,B,C,D,E,d,f,g,i,j,F⟩:=V.1.msg.all
  obtain⟨y0,y1,y2,y3,y4,y5,y6,y7,y8,y9,af,ai,ak,al,am,yf⟩:=V.1.zero.all
  have M:Hid _:=V.fin
  clear V;go_wp2
 rotate_left
 by_cases ao:k=99
 focus
  subst ao;go_wp2_with fail;refine (Q.out _ _ _ 0 10 (by omega) (by omega) L.1.rdr).mono ?_
  rintro e ba ⟨rfl,m⟩;have ap:=L.call m;obtain⟨p,t,u,y,z,A,B,C,D,E,d,f,g,i,j,F⟩:=ap.1.msg.all
  clear L m;have W:MO w _ br vw ws _ n _ #[_,_,_,_,_,_,_,_,_,_,_,_,_,_,_] _:=ap.put 9 (I J (aJ (wrd ws l) 0 10))
  clear ap;go_upto_region 30 with fail
  generalize ba.setCell ⟨w.heap.size+1,9,O⟩ (I J (aJ (wrd ws l) 0 10))=bz at *;clear p t u y z A B C D E d f g i j F;obtain⟨p,t,u,y,z,A,B,C,D,E,d,f,g,i,j,F⟩:=W.1.msg.all
  obtain⟨y0,y1,y2,y3,y4,y5,y6,y7,y8,y9,af,ai,ak,al,am,yf⟩:=W.1.zero.all
  have M:Hid _:=W.fin
  clear W;go_wp2
 rotate_left
 focus
  have bd:(k==112)=false:=by simpa using N
  have be:(k==107)=false:=by simpa using P
  have b2:(k==99)=false:=by simpa using ao
  have bg:(k==104)=false:=by simp;omega
  have bh:(k==103)=false:=by simp;omega
  have bi:(k==114)=false:=by simp;omega
  have bj:(k==116)=false:=by simp;omega
  have bk:(k==118)=false:=by simp;omega
  have bl:(k==115)=false:=by simp;omega
  have b3:(k==97)=false:=by simp;omega
  have c3:=L.1.rdr.at 3 (by omega)
  have f3:=L.1.rdr.free 3;simp at c3;have B5:=L.wrong true;clear L;go_upto_region 30 with fail
  generalize a5.setCell ⟨br,3,O⟩ (.bool true)=b4 at *;clear c3 f3;obtain⟨p,t,u,y,z,A,B,C,D,E,d,f,g,i,j,F⟩:=B5.1.msg.all
  obtain⟨y0,y1,y2,y3,y4,y5,y6,y7,y8,y9,af,ai,ak,al,am,yf⟩:=B5.1.zero.all
  have M:Hid _:=B5.fin
  clear B5;go_wp2;exact bodyPost_ret (dO rfl _ _ _ rfl M.out.2.1) rfl ⟨fun q=>absurd q N,fun q=>absurd q P,fun q=>absurd q ao,fun q=>absurd q (by omega),fun q=>absurd q (by omega),fun q=>absurd q (by omega),fun q=>absurd q (by omega),fun q=>absurd q (by omega),fun q=>absurd q (by omega),fun q=>absurd q (by omega),fun _ _ _ _ _ _ _ _ _ _=>⟨Y la v2.length lc,rfl,M.out.2.2,M.out.1⟩⟩
 all_goals exact bodyPost_ret (dO rfl _ _ _ rfl M.out.2.1) rfl (by refine⟨?_,?_,?_,?_,?_,?_,?_,?_,?_,?_,?_⟩ <;> first|exact fun q=>absurd q (by decide)|exact fun _=>⟨_,rfl,M.out.2.2,M.out.1⟩|exact fun _=>⟨_,_,rfl,M.out.2.2,M.out.1⟩|exact fun _=>⟨_,_,_,_,rfl,M.out.2.2,M.out.1⟩|(intros;contradiction))
end
end Go.Proofs.YtinaollfjiddmaaGreatDoor
