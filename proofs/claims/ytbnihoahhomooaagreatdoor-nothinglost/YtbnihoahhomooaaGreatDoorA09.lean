import Derived.Test.YtbnihoahhomooaaGreatDoorA04
set_option maxRecDepth 100000
set_option maxHeartbeats 8000000
set_option linter.all false
namespace Go.Proofs.YtbnihoahhomooaaGreatDoor
open Go.Value renaming int→I,slice→Y,string→Z,pointer→Zp
open Go.Ending renaming returned→Zr
open _root_.ByteArray renaming empty→Ze
open Go.IntKind renaming i64→J
open Option renaming none→O
open Go.RowKit
section
variable (br:Nat) (vw:Value) (ws:List ByteArray) (nx:Nat) (n:Int) (wr:Bool) (w:World) (h:aJ w br vw ws nx n wr) (hl:ws.length≤100000) (hz:∀ x∈ws,x.size≤1000) (hn3:3≤n) (hn7:n≤7)
theorem pK (br:Nat) (vw:Value) (ws:List ByteArray) (nx:Nat) (n:Int) (wr:Bool) (w:World) (h:aJ w br vw ws nx n wr) (hl:ws.length≤100000) (hz:∀ x∈ws,x.size≤1000) (hn3:3≤n) (hn7:n≤7) (k:Int) (hk:k=104∨k=103∨k=114∨k=116) :
  Calls Tryz.prog 72 #[Zp (some ⟨br,0,O⟩),I .u8 k] w fun e w'=>oV w w' br vw ws n k (aC (wrd ws nx) 0 (n-1)) (iY (wrd ws (nxt ws nx)) n) (aC (wrd ws (nxt ws (nxt ws nx))) 0 10) (aC (wrd ws (nxt ws (nxt ws (nxt ws nx)))) 0 999) (nxt ws (nxt ws (nxt ws (nxt ws nx))))
   ((((wr||!au (wrd ws nx).data.toList 0 (n-1))||!cu (wrd ws (nxt ws nx)) n)||!au (wrd ws (nxt ws (nxt ws nx))).data.toList 0 10)||!au (wrd ws (nxt ws (nxt ws (nxt ws nx)))).data.toList 0 999) e:=by
 have hlb:=lt_of_block h.block;have hnn:(-9223372036854775808:Int)≤n-1∧n-1≤9223372036854775807:=by omega
 have HNu:Hid (∀ (w':World) (nx:Nat) (wr:Bool) (a b:Int),0≤a→b≤999→aJ w' br vw ws nx n wr→Calls Tryz.prog 114 #[Zp (some ⟨br,0,O⟩),I J a,I J b] w' fun e w''=>e=Zr (I J (aC (wrd ws nx) a b))∧aK w' w'' br vw ws (nxt ws nx) n (wr||!au (wrd ws nx).data.toList a b)):=fun w' nx wr a b q r s=>dx br vw ws nx n wr w' s hl hz a b q r
 have HEn:Hid (∀ (w':World) (nx:Nat) (wr:Bool),aJ w' br vw ws nx n wr→Calls Tryz.prog 118 #[Zp (some ⟨br,0,O⟩)] w' fun e w''=>e=Zr (.agg #[I J (dX (wrd ws nx) n).1,I J (dX (wrd ws nx) n).2.1,Z (dX (wrd ws nx) n).2.2])∧aK w' w'' br vw ws (nxt ws nx) n (wr||!dR (wrd ws nx) n)):=fun w' nx wr s=>rT br vw ws nx n wr w' s hl hz
 have HHi:=fun (w':World) (nx:Nat) (wr:Bool) (s:aJ w' br vw ws nx n wr) (bm:Nat) (c:Array Value)=>nQ br vw ws nx n wr w' s hl hz bm c
 have HGp:=fun (w':World) (nx:Nat) (wr:Bool) (s:aJ w' br vw ws nx n wr) (bm:Nat) (c:Array Value)=>pJ br vw ws nx n wr w' s hl hz bm c
 have HHi':Hid _:=HHi
 have HGp':Hid _:=HGp
 clear HHi HGp;have HN1:Hid (∀ w',aJ w' br vw ws nx n wr→Calls Tryz.prog 114 #[Zp (some ⟨br,0,O⟩),I J 0,I J (n-1)] w' fun e w''=>e=Zr (I J (aC (wrd ws nx) 0 (n-1)))∧aK w' w'' br vw ws (nxt ws nx) n (wr||!au (wrd ws nx).data.toList 0 (n-1))):=fun w' q=>dx br vw ws nx n wr w' q hl hz 0 (n-1) (by omega) (by omega)
 generalize aC (wrd ws nx) 0 (n-1)=v1 at *;generalize (wr||!au (wrd ws nx).data.toList 0 (n-1))=wr1 at *
 generalize nxt ws nx=nx1 at *;have HL2:Hid (∀ w',aJ w' br vw ws nx1 n wr1→Calls Tryz.prog 117 #[Zp (some ⟨br,0,O⟩)] w' fun e w''=>∃ v,e=Zr v∧w''.ownsRow w'.heap.size 3 1 v (iY (wrd ws nx1) n).length ((iY (wrd ws nx1) n).map (Value.int .i64))∧aK w' w'' br vw ws (nxt ws nx1) n (wr1||!cu (wrd ws nx1) n)):=fun w' q=>rU br vw ws nx1 n wr1 w' q hl hz hn3 hn7
 generalize iY (wrd ws nx1) n=v2 at *;generalize (wr1||!cu (wrd ws nx1) n)=wr2 at *
 generalize nxt ws nx1=nx2 at *;have HN3:Hid (∀ w',aJ w' br vw ws nx2 n wr2→Calls Tryz.prog 114 #[Zp (some ⟨br,0,O⟩),I J 0,I J 10] w' fun e w''=>e=Zr (I J (aC (wrd ws nx2) 0 10))∧aK w' w'' br vw ws (nxt ws nx2) n (wr2||!au (wrd ws nx2).data.toList 0 10)):=fun w' q=>dx br vw ws nx2 n wr2 w' q hl hz 0 10 (by omega) (by omega)
 generalize aC (wrd ws nx2) 0 10=v3 at *;generalize (wr2||!au (wrd ws nx2).data.toList 0 10)=wr3 at *
 generalize nxt ws nx2=nx3 at *;have HN4:Hid (∀ w',aJ w' br vw ws nx3 n wr3→Calls Tryz.prog 114 #[Zp (some ⟨br,0,O⟩),I J 0,I J 999] w' fun e w''=>e=Zr (I J (aC (wrd ws nx3) 0 999))∧aK w' w'' br vw ws (nxt ws nx3) n (wr3||!au (wrd ws nx3).data.toList 0 999)):=fun w' q=>dx br vw ws nx3 n wr3 w' q hl hz 0 999 (by omega) (by omega)
 generalize aC (wrd ws nx3) 0 999=v4 at *;generalize (wr3||!au (wrd ws nx3).data.toList 0 999)=wr4 at *
 generalize nxt ws nx3=nx4 at *;have M0:=MO.start h k;have c2':=M0.1.rdr.at 2 (by omega)
 simp at c2';go_enter Tryz.func72,Tryz.ntmps72;simp only[iK] at M0 c2';go_wp2_with fail;clear c2';generalize ((w.alloc _).alloc _)=wA at M0 ⊢;refine (HN1.out _ M0.1.rdr).mono ?_;rintro e u1a ⟨rfl,hP⟩;have A1:=M0.call hP;obtain⟨x0,x1,x2,x3,x4,x5,x6,x7,x8,x9,x10,x11,x12,x13,x14,xf⟩:=A1.1.msg.all
 clear M0 hP;have B1:MO w (u1a.setCell ⟨w.heap.size+1,1,O⟩ (I J v1)) br vw ws nx1 n wr1 #[I .u8 k,I J v1,Y O 0 0,I J 0,I J 0,I J 0,I J 0,I J 0,Z ⟨#[]⟩,I J 0,I J 0,I J 0,Y O 0 0,Y O 0 0,Y O 0 0] []:=A1.put 1 _
 clear A1;go_wp2_with fail;generalize u1a.setCell ⟨w.heap.size+1,1,O⟩ (I J v1)=u1b at *;clear x0 x1 x2 x3 x4 x5 x6 x7 x8 x9 x10 x11 x12 x13 x14 xf;refine (HL2.out _ B1.1.rdr).mono ?_;rintro e u2a ⟨vl,rfl,hO,hP⟩;have A2:=B1.own hP hO;obtain⟨la,lc,rfl⟩:=aj hO
 obtain⟨x0,x1,x2,x3,x4,x5,x6,x7,x8,x9,x10,x11,x12,x13,x14,xf⟩:=A2.1.msg.all
 clear B1 hP hO;have B2:MO w (u2a.setCell ⟨w.heap.size+1,2,O⟩ (Y la v2.length lc)) br vw ws nx2 n wr2 #[I .u8 k,I J v1,Y la v2.length lc,I J 0,I J 0,I J 0,I J 0,I J 0,Z ⟨#[]⟩,I J 0,I J 0,I J 0,Y O 0 0,Y O 0 0,Y O 0 0] [⟨3,1,Y la v2.length lc,(v2).length,(v2).map (Value.int .i64)⟩]:=A2.put 2 _
 clear A2;go_wp2_with fail;generalize u2a.setCell ⟨w.heap.size+1,2,O⟩ (Y la v2.length lc)=u2b at *;clear x0 x1 x2 x3 x4 x5 x6 x7 x8 x9 x10 x11 x12 x13 x14 xf;refine (HN3.out _ B2.1.rdr).mono ?_;rintro e u3a ⟨rfl,hP⟩;have A3:=B2.call hP;obtain⟨x0,x1,x2,x3,x4,x5,x6,x7,x8,x9,x10,x11,x12,x13,x14,xf⟩:=A3.1.msg.all
 clear B2 hP;have B3:MO w (u3a.setCell ⟨w.heap.size+1,3,O⟩ (I J v3)) br vw ws nx3 n wr3 #[I .u8 k,I J v1,Y la v2.length lc,I J v3,I J 0,I J 0,I J 0,I J 0,Z ⟨#[]⟩,I J 0,I J 0,I J 0,Y O 0 0,Y O 0 0,Y O 0 0] [⟨3,1,Y la v2.length lc,(v2).length,(v2).map (Value.int .i64)⟩]:=A3.put 3 _
 clear A3;go_wp2_with fail;generalize u3a.setCell ⟨w.heap.size+1,3,O⟩ (I J v3)=u3b at *;clear x0 x1 x2 x3 x4 x5 x6 x7 x8 x9 x10 x11 x12 x13 x14 xf;refine (HN4.out _ B3.1.rdr).mono ?_;rintro e u4a ⟨rfl,hP⟩;have A4:=B3.call hP;obtain⟨x0,x1,x2,x3,x4,x5,x6,x7,x8,x9,x10,x11,x12,x13,x14,xf⟩:=A4.1.msg.all
 clear B3 hP;have B4:MO w (u4a.setCell ⟨w.heap.size+1,4,O⟩ (I J v4)) br vw ws nx4 n wr4 #[I .u8 k,I J v1,Y la v2.length lc,I J v3,I J v4,I J 0,I J 0,I J 0,Z ⟨#[]⟩,I J 0,I J 0,I J 0,Y O 0 0,Y O 0 0,Y O 0 0] [⟨3,1,Y la v2.length lc,(v2).length,(v2).map (Value.int .i64)⟩]:=A4.put 4 _
 clear A4;go_upto_region 6 with fail
 generalize u4a.setCell ⟨w.heap.size+1,4,O⟩ (I J v4)=u4b at *;clear x0 x1 x2 x3 x4 x5 x6 x7 x8 x9 x10 x11 x12 x13 x14 xf;clear HN1 HL2 HN3 HN4;rcases hk with h104|h103|h114|h116
 ·subst h104;go_upto_region 30 with fail
  obtain⟨x0,x1,x2,x3,x4,x5,x6,x7,x8,x9,x10,x11,x12,x13,x14,xf⟩:=B4.1.msg.all
  obtain⟨y0,y1,y2,y3,y4,y5,y6,y7,y8,y9,y10,y11,y12,y13,y14,yf⟩:=B4.1.zero.all
  have HG:Hid (aK w (dF u4b w.heap.size 0 [I .u8 104,I J v1,(Y la v2.length lc),I J v3,I J v4,I J 0,I J 0,I J 0,Z ⟨#[]⟩,I J 0,I J 0,I J 0,Y O 0 0,Y O 0 0,Y O 0 0]) br vw ws nx4 n wr4∧(loadVar 68 ⟨w.heap.size,0,O⟩).run Tryz.prog (dF u4b w.heap.size 0 [I .u8 104,I J v1,(Y la v2.length lc),I J v3,I J v4,I J 0,I J 0,I J 0,Z ⟨#[]⟩,I J 0,I J 0,I J 0,Y O 0 0,Y O 0 0,Y O 0 0])=.ok (.agg #[I .u8 104,I J v1,(Y la v2.length lc),I J v3,I J v4,I J 0,I J 0,I J 0,Z ⟨#[]⟩,I J 0,I J 0,I J 0,Y O 0 0,Y O 0 0,Y O 0 0]) (dF u4b w.heap.size 0 [I .u8 104,I J v1,(Y la v2.length lc),I J v3,I J v4,I J 0,I J 0,I J 0,Z ⟨#[]⟩,I J 0,I J 0,I J 0,Y O 0 0,Y O 0 0,Y O 0 0])∧jv (dF u4b w.heap.size 0 [I .u8 104,I J v1,(Y la v2.length lc),I J v3,I J v4,I J 0,I J 0,I J 0,Z ⟨#[]⟩,I J 0,I J 0,I J 0,Y O 0 0,Y O 0 0,Y O 0 0]) (w.heap.size+2) [⟨3,1,(Y la v2.length lc),(v2).length,(v2).map (Value.int .i64)⟩]):=B4.fin
  clear B4;go_wp2;exact bodyPost_ret (bI rfl _ _ _ rfl HG.out.2.1) rfl ⟨fun q=>absurd q (by decide),fun q=>absurd q (by decide),fun q=>absurd q (by decide),fun _=>⟨Y la v2.length lc,rfl,HG.out.2.2,HG.out.1⟩,fun q=>absurd q (by decide),fun q=>absurd q (by decide),fun q=>absurd q (by decide),fun q=>absurd q (by decide),fun q=>absurd q (by decide),fun q=>absurd q (by decide),fun q0 q1 q2 q3=>absurd rfl q3⟩
 ·subst h103;go_upto_region 30 with fail
  obtain⟨x0,x1,x2,x3,x4,x5,x6,x7,x8,x9,x10,x11,x12,x13,x14,xf⟩:=B4.1.msg.all
  obtain⟨y0,y1,y2,y3,y4,y5,y6,y7,y8,y9,y10,y11,y12,y13,y14,yf⟩:=B4.1.zero.all
  have HG:Hid (aK w (dF u4b w.heap.size 0 [I .u8 103,I J v1,(Y la v2.length lc),I J v3,I J v4,I J 0,I J 0,I J 0,Z ⟨#[]⟩,I J 0,I J 0,I J 0,Y O 0 0,Y O 0 0,Y O 0 0]) br vw ws nx4 n wr4∧(loadVar 68 ⟨w.heap.size,0,O⟩).run Tryz.prog (dF u4b w.heap.size 0 [I .u8 103,I J v1,(Y la v2.length lc),I J v3,I J v4,I J 0,I J 0,I J 0,Z ⟨#[]⟩,I J 0,I J 0,I J 0,Y O 0 0,Y O 0 0,Y O 0 0])=.ok (.agg #[I .u8 103,I J v1,(Y la v2.length lc),I J v3,I J v4,I J 0,I J 0,I J 0,Z ⟨#[]⟩,I J 0,I J 0,I J 0,Y O 0 0,Y O 0 0,Y O 0 0]) (dF u4b w.heap.size 0 [I .u8 103,I J v1,(Y la v2.length lc),I J v3,I J v4,I J 0,I J 0,I J 0,Z ⟨#[]⟩,I J 0,I J 0,I J 0,Y O 0 0,Y O 0 0,Y O 0 0])∧jv (dF u4b w.heap.size 0 [I .u8 103,I J v1,(Y la v2.length lc),I J v3,I J v4,I J 0,I J 0,I J 0,Z ⟨#[]⟩,I J 0,I J 0,I J 0,Y O 0 0,Y O 0 0,Y O 0 0]) (w.heap.size+2) [⟨3,1,(Y la v2.length lc),(v2).length,(v2).map (Value.int .i64)⟩]):=B4.fin
  clear B4;go_wp2;exact bodyPost_ret (bI rfl _ _ _ rfl HG.out.2.1) rfl ⟨fun q=>absurd q (by decide),fun q=>absurd q (by decide),fun q=>absurd q (by decide),fun q=>absurd q (by decide),fun _=>⟨Y la v2.length lc,rfl,HG.out.2.2,HG.out.1⟩,fun q=>absurd q (by decide),fun q=>absurd q (by decide),fun q=>absurd q (by decide),fun q=>absurd q (by decide),fun q=>absurd q (by decide),fun q0 q1 q2 q3 q4=>absurd rfl q4⟩
 ·subst h114;go_upto_region 30 with fail
  obtain⟨x0,x1,x2,x3,x4,x5,x6,x7,x8,x9,x10,x11,x12,x13,x14,xf⟩:=B4.1.msg.all
  obtain⟨y0,y1,y2,y3,y4,y5,y6,y7,y8,y9,y10,y11,y12,y13,y14,yf⟩:=B4.1.zero.all
  have HG:Hid (aK w (dF u4b w.heap.size 0 [I .u8 114,I J v1,(Y la v2.length lc),I J v3,I J v4,I J 0,I J 0,I J 0,Z ⟨#[]⟩,I J 0,I J 0,I J 0,Y O 0 0,Y O 0 0,Y O 0 0]) br vw ws nx4 n wr4∧(loadVar 68 ⟨w.heap.size,0,O⟩).run Tryz.prog (dF u4b w.heap.size 0 [I .u8 114,I J v1,(Y la v2.length lc),I J v3,I J v4,I J 0,I J 0,I J 0,Z ⟨#[]⟩,I J 0,I J 0,I J 0,Y O 0 0,Y O 0 0,Y O 0 0])=.ok (.agg #[I .u8 114,I J v1,(Y la v2.length lc),I J v3,I J v4,I J 0,I J 0,I J 0,Z ⟨#[]⟩,I J 0,I J 0,I J 0,Y O 0 0,Y O 0 0,Y O 0 0]) (dF u4b w.heap.size 0 [I .u8 114,I J v1,(Y la v2.length lc),I J v3,I J v4,I J 0,I J 0,I J 0,Z ⟨#[]⟩,I J 0,I J 0,I J 0,Y O 0 0,Y O 0 0,Y O 0 0])∧jv (dF u4b w.heap.size 0 [I .u8 114,I J v1,(Y la v2.length lc),I J v3,I J v4,I J 0,I J 0,I J 0,Z ⟨#[]⟩,I J 0,I J 0,I J 0,Y O 0 0,Y O 0 0,Y O 0 0]) (w.heap.size+2) [⟨3,1,(Y la v2.length lc),(v2).length,(v2).map (Value.int .i64)⟩]):=B4.fin
  clear B4;go_wp2;exact bodyPost_ret (bI rfl _ _ _ rfl HG.out.2.1) rfl ⟨fun q=>absurd q (by decide),fun q=>absurd q (by decide),fun q=>absurd q (by decide),fun q=>absurd q (by decide),fun q=>absurd q (by decide),fun _=>⟨Y la v2.length lc,rfl,HG.out.2.2,HG.out.1⟩,fun q=>absurd q (by decide),fun q=>absurd q (by decide),fun q=>absurd q (by decide),fun q=>absurd q (by decide),fun q0 q1 q2 q3 q4 q5=>absurd rfl q5⟩
 ·subst h116;go_upto_region 30 with fail
  obtain⟨x0,x1,x2,x3,x4,x5,x6,x7,x8,x9,x10,x11,x12,x13,x14,xf⟩:=B4.1.msg.all
  obtain⟨y0,y1,y2,y3,y4,y5,y6,y7,y8,y9,y10,y11,y12,y13,y14,yf⟩:=B4.1.zero.all
  have HG:Hid (aK w (dF u4b w.heap.size 0 [I .u8 116,I J v1,(Y la v2.length lc),I J v3,I J v4,I J 0,I J 0,I J 0,Z ⟨#[]⟩,I J 0,I J 0,I J 0,Y O 0 0,Y O 0 0,Y O 0 0]) br vw ws nx4 n wr4∧(loadVar 68 ⟨w.heap.size,0,O⟩).run Tryz.prog (dF u4b w.heap.size 0 [I .u8 116,I J v1,(Y la v2.length lc),I J v3,I J v4,I J 0,I J 0,I J 0,Z ⟨#[]⟩,I J 0,I J 0,I J 0,Y O 0 0,Y O 0 0,Y O 0 0])=.ok (.agg #[I .u8 116,I J v1,(Y la v2.length lc),I J v3,I J v4,I J 0,I J 0,I J 0,Z ⟨#[]⟩,I J 0,I J 0,I J 0,Y O 0 0,Y O 0 0,Y O 0 0]) (dF u4b w.heap.size 0 [I .u8 116,I J v1,(Y la v2.length lc),I J v3,I J v4,I J 0,I J 0,I J 0,Z ⟨#[]⟩,I J 0,I J 0,I J 0,Y O 0 0,Y O 0 0,Y O 0 0])∧jv (dF u4b w.heap.size 0 [I .u8 116,I J v1,(Y la v2.length lc),I J v3,I J v4,I J 0,I J 0,I J 0,Z ⟨#[]⟩,I J 0,I J 0,I J 0,Y O 0 0,Y O 0 0,Y O 0 0]) (w.heap.size+2) [⟨3,1,(Y la v2.length lc),(v2).length,(v2).map (Value.int .i64)⟩]):=B4.fin
  clear B4;go_wp2;exact bodyPost_ret (bI rfl _ _ _ rfl HG.out.2.1) rfl ⟨fun q=>absurd q (by decide),fun q=>absurd q (by decide),fun q=>absurd q (by decide),fun q=>absurd q (by decide),fun q=>absurd q (by decide),fun q=>absurd q (by decide),fun _=>⟨Y la v2.length lc,rfl,HG.out.2.2,HG.out.1⟩,fun q=>absurd q (by decide),fun q=>absurd q (by decide),fun q=>absurd q (by decide),fun q0 q1 q2 q3 q4 q5 q6=>absurd rfl q6⟩
end
end Go.Proofs.YtbnihoahhomooaaGreatDoor
