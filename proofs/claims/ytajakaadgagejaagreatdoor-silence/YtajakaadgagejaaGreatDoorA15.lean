import Derived.Test.YtajakaadgagejaaGreatDoorA09
set_option maxRecDepth 100000
set_option maxHeartbeats 8000000
set_option linter.unusedVariables false
set_option linter.unusedSimpArgs false
set_option linter.unusedSectionVars false
namespace Go.Proofs.YtajakaadgagejaaGreatDoor
open Go.Value renaming int→I,slice→Y,string→Z,pointer→Zp
open Go.Ending renaming returned→Zr
open _root_.ByteArray renaming empty→Ze
open Go.IntKind renaming i64→J
open Option renaming none→O
open Go.RowKit
def iD (key:Int) (v:Int) (op:ByteArray):Int :=
 if b1 op=key∧b0 op≠114 then (if b0 op=112 then bN op 2 else if b0 op=100 then 0 else if b0 op=99 then (if v=bN op 2 then bN op 3 else v) else v) else v
def jl (l:List En) (key:Int):Int:=l.foldl (fun v e=>iD key v e.2.2) 0
structure Hg (op:ByteArray):Prop where
 s2:2≤op.size
 s3:b0 op=112→3≤op.size
 s4:b0 op=99→4≤op.size
section
variable {N:Nat} {w w':World} {g:Nat} {K K':Kw} {V V':Kv}
theorem KAt.eL (h:KAt N w g K V):gu w V.vL K.list:=Rd.bK h.rL
theorem xV (h:KAt N w g K V) (n:Nat) (hn:n≤K.list.length) (key:Int) (hs:∀ e∈K.list,Hg e.2.2) :
  Calls Tryz.prog 146 #[Zp (some ⟨g,0,O⟩),I J n,I .u8 key] w fun e w'=>e=Zr (I .u8 (jl (K.list.take n) key))∧Below w.heap.size w w':=by
 have hP:=h.eL;obtain⟨aP,cP,hvP,hcap,hmax⟩:=hP.shape
 rw[hvP] at hP;have HC:Hid (∀ w2,Below w.heap.size w w2→w2.cell? ⟨g,10,O⟩=some (Y aP K.list.length cP)):=fun w2 hw2=>by rw[← hvP];exact (h.below hw2).cell 10
 have HT:Hid (∀ k,(hk:k<K.list.length)→Hg K.list[k].2.2):=fun k hk=>hs _ (List.getElem_mem hk)
 have HS:Hid (∀ k,(hk:k<K.list.length)→jl (K.list.take (k+1)) key=iD key (jl (K.list.take k) key) K.list[k].2.2):=fun k hk=>by
  rw[List.take_succ_eq_append_getElem hk];unfold jl;rw[List.foldl_append];rfl
 clear h hs;go_enter Tryz.func146,Tryz.ntmps146;go_wp2_with fail;go_loopw [7,8] (fun v i wr=>∃ k:Nat,k≤n∧i=I J k∧v=I .u8 (jl (K.list.take k) key)∧Below w.heap.size w wr) (fun _ i _=>n-(intOf i).toNat)
 case atStart=>exact⟨0,Nat.zero_le _,rfl,rfl,Below.refl _ _⟩
 case round =>
  obtain⟨k,hk,rfl,rfl,hbw⟩:=hrel
  have c7:=HC.out _ hbw;by_cases hlt:k<n
  ·obtain⟨b1',o1,rfl,_,d1,d2,d3⟩:=(hP.below hbw).get k (by omega)
   have j1:(0:Int)≤(k:Int):=by omega
   have j2:(k:Int)<(K.list.length:Int):=by omega
   have j3:(k:Int)<(n:Int):=by omega
   have sz:=HT.out k (by omega)
   have HE:=ah (HS.out k (by omega))
   generalize K.list[k].2.2=op at *;generalize jl (K.list.take k) key=v at *;have y2:=sz.s2;have z0:(0:Int)<(op.size:Int):=by omega
   have z1:(1:Int)<(op.size:Int):=by omega
   have hbn:∀ (k:Nat) (hk:k<op.size),bN op k=(op[k].toNat:Int):=fun k hk=>by unfold bN;rw[atS hk]
   have e0:b0 op=(op[0].toNat:Int):=hbn 0 (by omega)
   have e1:b1 op=(op[1].toNat:Int):=hbn 1 (by omega)
   have HX:Hid (iD key v op=if (op[1].toNat:Int)=key∧(op[0].toNat:Int)≠114 then (if (op[0].toNat:Int)=112 then bN op 2 else if (op[0].toNat:Int)=100 then 0 else if (op[0].toNat:Int)=99 then (if v=bN op 2 then bN op 3 else v) else v) else v):=by
    unfold iD;rw[e0,e1];trivial
   have S3:Hid ((op[0].toNat:Int)=112→(2:Int)<(op.size:Int)∧∃ h:2<op.size,bN op 2=(op[2].toNat:Int)):=fun hc=>by
    have:=sz.s3 (e0.trans hc);exact⟨by omega,by omega,hbn 2 (by omega)⟩
   have S4:Hid ((op[0].toNat:Int)=99→(2:Int)<(op.size:Int)∧(3:Int)<(op.size:Int)∧(∃ h:2<op.size,bN op 2=(op[2].toNat:Int))∧∃ h:3<op.size,bN op 3=(op[3].toNat:Int)):=fun hc=>by
    have:=sz.s4 (e0.trans hc);exact⟨by omega,by omega,⟨by omega,hbn 2 (by omega)⟩,by omega,hbn 3 (by omega)⟩
   clear e0 e1 hbn sz;by_cases h1:(op[1].toNat:Int)=key
   ·have h1':((op[1].toNat:Int)==key)=true:=beq_iff_eq.2 h1
    by_cases h0:(op[0].toNat:Int)=114
    ·have h0':((op[0].toNat:Int)==114)=true:=beq_iff_eq.2 h0
     have HY:Hid (iD key v op=v):=by rw[HX.out,if_neg (fun hc=>hc.2 h0)];trivial
     clear h0;go_wp2_with fail;go_roundw
     case rel=>exact⟨k+1,by omega,by go_num,by rw[HE.out,HY.out],hbw⟩
     case measure=>simp[intOf];omega
    ·have h0':((op[0].toNat:Int)==114)=false:=beq_eq_false_iff_ne.2 h0
     rw[if_pos ⟨h1,h0⟩] at HX;by_cases g1:(op[0].toNat:Int)=112
     ·obtain⟨y3,y4,y5⟩:=S3.out g1
      have g1':((op[0].toNat:Int)==112)=true:=beq_iff_eq.2 g1
      have HY:Hid (iD key v op=(op[2].toNat:Int)):=by rw[HX.out,if_pos g1];exact y5
      clear h0 g1 y5;go_wp2_with fail;go_roundw
      case rel=>exact⟨k+1,by omega,by go_num,by rw[HE.out,HY.out],hbw⟩
      case measure=>simp[intOf];omega
     ·have g1':((op[0].toNat:Int)==112)=false:=beq_eq_false_iff_ne.2 g1
      rw[if_neg g1] at HX;by_cases g2:(op[0].toNat:Int)=100
      ·have g2':((op[0].toNat:Int)==100)=true:=beq_iff_eq.2 g2
       have HY:Hid (iD key v op=0):=by rw[HX.out,if_pos g2];trivial
       clear h0 g1 g2;go_wp2_with fail;go_roundw
       case rel=>exact⟨k+1,by omega,by go_num,by rw[HE.out,HY.out],hbw⟩
       case measure=>simp[intOf];omega
      ·have g2':((op[0].toNat:Int)==100)=false:=beq_eq_false_iff_ne.2 g2
       rw[if_neg g2] at HX;by_cases g3:(op[0].toNat:Int)=99
       ·obtain⟨y3,y4,⟨y5,y6⟩,y7,y8⟩:=S4.out g3
        have g3':((op[0].toNat:Int)==99)=true:=beq_iff_eq.2 g3
        rw[if_pos g3,y6,y8] at HX;by_cases g4:v=(op[2].toNat:Int)
        ·have g4':(v==(op[2].toNat:Int))=true:=beq_iff_eq.2 g4
         have HY:Hid (iD key v op=(op[3].toNat:Int)):=by rw[HX.out,if_pos g4];trivial
         clear h0 g1 g2 g3 g4 y6 y8;go_wp2_with fail;go_roundw
         case rel=>exact⟨k+1,by omega,by go_num,by rw[HE.out,HY.out],hbw⟩
         case measure=>simp[intOf];omega
        ·have g4':(v==(op[2].toNat:Int))=false:=beq_eq_false_iff_ne.2 g4
         have HY:Hid (iD key v op=v):=by rw[HX.out,if_neg g4];trivial
         clear h0 g1 g2 g3 g4 y6 y8;go_wp2_with fail;go_roundw
         case rel=>exact⟨k+1,by omega,by go_num,by rw[HE.out,HY.out],hbw⟩
         case measure=>simp[intOf];omega
       ·have g3':((op[0].toNat:Int)==99)=false:=beq_eq_false_iff_ne.2 g3
        have HY:Hid (iD key v op=v):=by rw[HX.out,if_neg g3];trivial
        clear h0 g1 g2 g3;go_wp2_with fail;go_roundw
        case rel=>exact⟨k+1,by omega,by go_num,by rw[HE.out,HY.out],hbw⟩
        case measure=>simp[intOf];omega
   ·have h1':((op[1].toNat:Int)==key)=false:=beq_eq_false_iff_ne.2 h1
    have HY:Hid (iD key v op=v):=by rw[HX.out,if_neg (fun hc=>h1 hc.1)];trivial
    go_wp2_with fail;go_roundw
    case rel=>exact⟨k+1,by omega,by go_num,by rw[HE.out,HY.out],hbw⟩
    case measure=>simp[intOf];omega
  ·have hkn:k=n:=by omega
   subst hkn;go_wp2_with fail;go_ret;exact⟨rfl,hbw⟩
end
section
variable (br:Nat) (vw:Value) (ws:List ByteArray) (nx:Nat) (n:Int) (wr:Bool) (w:World) (h:aI w br vw ws nx n wr) (hl:ws.length≤100000) (hz:∀ x∈ws,x.size≤1000)
theorem yB (br:Nat) (vw:Value) (ws:List ByteArray) (nx:Nat) (n:Int) (wr:Bool) (w:World) (h:aI w br vw ws nx n wr) (hl:ws.length≤100000) (hz:∀ x∈ws,x.size≤1000) :
  Calls Tryz.prog 71 #[Zp (some ⟨br,0,O⟩),I .u8 109] w fun e w'=>e=Zr (.agg #[I .u8 109,I J 0,Y O 0 0,I J (aC (wrd ws (nxt ws (nxt ws nx))) 0 999),I J 0,I J 0,I J (aC (wrd ws nx) 1 9),I J (aC (wrd ws (nxt ws nx)) 1 999),Z (⟨#[114]⟩++qZ (wrd ws (nxt ws (nxt ws (nxt ws nx))))),I J 0,I J 0,I J 0,Y O 0 0,Y O 0 0,Y O 0 0]) ∧
   aJ w w' br vw ws (nxt ws (nxt ws (nxt ws (nxt ws nx)))) n ((((wr||!aj (wrd ws nx).data.toList 1 9)||!aj (wrd ws (nxt ws nx)).data.toList 1 999)||!aj (wrd ws (nxt ws (nxt ws nx))).data.toList 0 999)||!fF (wrd ws (nxt ws (nxt ws (nxt ws nx)))).data.toList):=by
 have hlb:=lt_of_block h.block;have HN1:Hid (∀ w',aI w' br vw ws nx n wr→Calls Tryz.prog 114 #[Zp (some ⟨br,0,O⟩),I J 1,I J 9] w' fun e w''=>e=Zr (I J (aC (wrd ws nx) 1 9))∧aJ w' w'' br vw ws (nxt ws nx) n (wr||!aj (wrd ws nx).data.toList 1 9)):=fun w' q=>bU br vw ws nx n wr w' q hl hz 1 9 (by omega) (by omega)
 generalize aC (wrd ws nx) 1 9=v1 at *;generalize (wr||!aj (wrd ws nx).data.toList 1 9)=wr1 at *
 generalize nxt ws nx=nx1 at *;have HN2:Hid (∀ w',aI w' br vw ws nx1 n wr1→Calls Tryz.prog 114 #[Zp (some ⟨br,0,O⟩),I J 1,I J 999] w' fun e w''=>e=Zr (I J (aC (wrd ws nx1) 1 999))∧aJ w' w'' br vw ws (nxt ws nx1) n (wr1||!aj (wrd ws nx1).data.toList 1 999)):=fun w' q=>bU br vw ws nx1 n wr1 w' q hl hz 1 999 (by omega) (by omega)
 generalize aC (wrd ws nx1) 1 999=v2 at *;generalize (wr1||!aj (wrd ws nx1).data.toList 1 999)=wr2 at *
 generalize nxt ws nx1=nx2 at *;have HN3:Hid (∀ w',aI w' br vw ws nx2 n wr2→Calls Tryz.prog 114 #[Zp (some ⟨br,0,O⟩),I J 0,I J 999] w' fun e w''=>e=Zr (I J (aC (wrd ws nx2) 0 999))∧aJ w' w'' br vw ws (nxt ws nx2) n (wr2||!aj (wrd ws nx2).data.toList 0 999)):=fun w' q=>bU br vw ws nx2 n wr2 w' q hl hz 0 999 (by omega) (by omega)
 generalize aC (wrd ws nx2) 0 999=v3 at *;generalize (wr2||!aj (wrd ws nx2).data.toList 0 999)=wr3 at *
 generalize nxt ws nx2=nx3 at *;have hzw:=jB (nx:=nx3) hz;have HD4:Hid (∀ w',aI w' br vw ws nx3 n wr3→Calls Tryz.prog 116 #[Zp (some ⟨br,0,O⟩)] w' fun e w''=>e=Zr (Z (qZ (wrd ws nx3)))∧aJ w' w'' br vw ws (nxt ws nx3) n (wr3||!fF (wrd ws nx3).data.toList)):=fun w' q=>Er br vw ws nx3 n wr3 w' q hl hz
 have hsz:(qZ (wrd ws nx3)).size≤1000:=by unfold qZ;split <;> first|exact hzw|exact Nat.zero_le _
 generalize qZ (wrd ws nx3)=v4 at *;generalize (wr3||!fF (wrd ws nx3).data.toList)=wr4 at *
 generalize nxt ws nx3=nx4 at *;have M0:=MS.start h 109;go_enter Tryz.func71,Tryz.ntmps71;go_wp2_with fail;simp only[iy] at M0;generalize ((w.alloc _).alloc _)=wA at M0 ⊢;refine (HN1.out _ M0.rdr).mono ?_;rintro e u1a ⟨rfl,hP⟩;have A1:=M0.call hP;obtain⟨x0,x1,x2,x3,x4,x5,x6,x7,x8,x9,x10,x11,x12,x13,x14,xf⟩:=A1.msg.all
 have B1:MS w (u1a.setCell ⟨w.heap.size+1,6,O⟩ (I J v1)) br vw ws nx1 n wr1 #[I .u8 109,I J 0,Y O 0 0,I J 0,I J 0,I J 0,I J v1,I J 0,Z ⟨#[]⟩,I J 0,I J 0,I J 0,Y O 0 0,Y O 0 0,Y O 0 0]:=A1.put 6 _
 clear A1 M0 hP;go_wp2_with fail;generalize u1a.setCell ⟨w.heap.size+1,6,O⟩ (I J v1)=u1b at *;clear x0 x1 x2 x3 x4 x5 x6 x7 x8 x9 x10 x11 x12 x13 x14 xf;refine (HN2.out _ B1.rdr).mono ?_;rintro e u2a ⟨rfl,hP⟩;have A2:=B1.call hP;obtain⟨x0,x1,x2,x3,x4,x5,x6,x7,x8,x9,x10,x11,x12,x13,x14,xf⟩:=A2.msg.all
 have B2:MS w (u2a.setCell ⟨w.heap.size+1,7,O⟩ (I J v2)) br vw ws nx2 n wr2 #[I .u8 109,I J 0,Y O 0 0,I J 0,I J 0,I J 0,I J v1,I J v2,Z ⟨#[]⟩,I J 0,I J 0,I J 0,Y O 0 0,Y O 0 0,Y O 0 0]:=A2.put 7 _
 clear A2 B1 hP;go_wp2_with fail;generalize u2a.setCell ⟨w.heap.size+1,7,O⟩ (I J v2)=u2b at *;clear x0 x1 x2 x3 x4 x5 x6 x7 x8 x9 x10 x11 x12 x13 x14 xf;refine (HN3.out _ B2.rdr).mono ?_;rintro e u3a ⟨rfl,hP⟩;have A3:=B2.call hP;obtain⟨x0,x1,x2,x3,x4,x5,x6,x7,x8,x9,x10,x11,x12,x13,x14,xf⟩:=A3.msg.all
 have B3:MS w (u3a.setCell ⟨w.heap.size+1,3,O⟩ (I J v3)) br vw ws nx3 n wr3 #[I .u8 109,I J 0,Y O 0 0,I J v3,I J 0,I J 0,I J v1,I J v2,Z ⟨#[]⟩,I J 0,I J 0,I J 0,Y O 0 0,Y O 0 0,Y O 0 0]:=A3.put 3 _
 clear A3 B2 hP;go_wp2_with fail;generalize u3a.setCell ⟨w.heap.size+1,3,O⟩ (I J v3)=u3b at *;clear x0 x1 x2 x3 x4 x5 x6 x7 x8 x9 x10 x11 x12 x13 x14 xf;refine (HD4.out _ B3.rdr).mono ?_;rintro e u4a ⟨rfl,hP⟩;have A4:=B3.call hP;obtain⟨x0,x1,x2,x3,x4,x5,x6,x7,x8,x9,x10,x11,x12,x13,x14,xf⟩:=A4.msg.all
 have B4:MS w (u4a.setCell ⟨w.heap.size+1,8,O⟩ (Z (⟨#[114]⟩++v4))) br vw ws nx4 n wr4 #[I .u8 109,I J 0,Y O 0 0,I J v3,I J 0,I J 0,I J v1,I J v2,Z (⟨#[114]⟩++v4),I J 0,I J 0,I J 0,Y O 0 0,Y O 0 0,Y O 0 0]:=A4.put 8 _
 clear A4 B3 hP;go_upto_region 10 with fail
 generalize u4a.setCell ⟨w.heap.size+1,8,O⟩ (Z (⟨#[114]⟩++v4))=u4b at *;clear x0 x1 x2 x3 x4 x5 x6 x7 x8 x9 x10 x11 x12 x13 x14 xf;obtain⟨x0,x1,x2,x3,x4,x5,x6,x7,x8,x9,x10,x11,x12,x13,x14,xf⟩:=B4.msg.all
 obtain⟨y0,y1,y2,y3,y4,y5,y6,y7,y8,y9,y10,y11,y12,y13,y14,yf⟩:=B4.zero.all
 have HG:Hid (aJ w (cZ u4b w.heap.size 0 [I .u8 109,I J 0,Y O 0 0,I J v3,I J 0,I J 0,I J v1,I J v2,Z (⟨#[114]⟩++v4),I J 0,I J 0,I J 0,Y O 0 0,Y O 0 0,Y O 0 0]) br vw ws nx4 n wr4∧(loadVar 68 ⟨w.heap.size,0,O⟩).run Tryz.prog (cZ u4b w.heap.size 0 [I .u8 109,I J 0,Y O 0 0,I J v3,I J 0,I J 0,I J v1,I J v2,Z (⟨#[114]⟩++v4),I J 0,I J 0,I J 0,Y O 0 0,Y O 0 0,Y O 0 0])=.ok (.agg #[I .u8 109,I J 0,Y O 0 0,I J v3,I J 0,I J 0,I J v1,I J v2,Z (⟨#[114]⟩++v4),I J 0,I J 0,I J 0,Y O 0 0,Y O 0 0,Y O 0 0]) (cZ u4b w.heap.size 0 [I .u8 109,I J 0,Y O 0 0,I J v3,I J 0,I J 0,I J v1,I J v2,Z (⟨#[114]⟩++v4),I J 0,I J 0,I J 0,Y O 0 0,Y O 0 0,Y O 0 0])):=B4.fin
 clear B4;go_wp2_with fail;exact bodyPost_ret (aZ rfl _ _ _ rfl HG.out.2) rfl ⟨rfl,HG.out.1⟩
end
end Go.Proofs.YtajakaadgagejaaGreatDoor
