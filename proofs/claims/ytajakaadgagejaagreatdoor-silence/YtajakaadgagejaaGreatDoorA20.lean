import Derived.Test.YtajakaadgagejaaGreatDoorA19
set_option maxRecDepth 100000
set_option maxHeartbeats 8000000
set_option linter.unusedVariables false
set_option linter.unusedSimpArgs false
set_option linter.unusedSectionVars false
namespace Go.Proofs.YtajakaadgagejaaGreatDoor
open Go.Value renaming int→I,slice→Y,string→Z,pointer→Zp
open Go.Ending renaming returned→Zr
open _root_.ByteArray renaming empty→Ze
open Go.IntKind renaming i64→J
open Option renaming none→O
open Go.RowKit
def Gx (s:ByteArray):List Int:=if (s.toList==[45])=true then [] else dW s
structure PmR (n:Int) (m:Sd) (P:Pm):Prop where
 frm:P.frm=m.frm
 lives:P.lives=m.lives
 epoch:P.epoch=m.epoch
 view:P.view=m.view
 p:m.kind.toList=[112]→P.place=nmB m∧P.ent=dL (m.w.getD 6 Ze) n∧P.commit=m.commit
 k:m.kind.toList=[107]→P.place=nmB m
 c:m.kind.toList=[99]→P.commit=m.commit
 v:m.kind.toList=[118]→P.normal=nmB m∧P.commit=m.commit∧P.log=eH m.log n
 s:m.kind.toList=[115]→P.grp=dW (m.w.getD 5 Ze)∧P.old=Gx (m.w.getD 6 Ze)∧P.commit=m.commit∧P.log=eH m.log n
 a:m.kind.toList=[97]→P.life=nmB m∧P.grp=dW (m.w.getD 6 Ze)∧P.old=Gx (m.w.getD 7 Ze)∧P.commit=m.commit∧P.log=eH m.log n
structure uX (n:Int) (ws:List ByteArray) (P:Pm):Prop where
 kind:∃ b:UInt8,(ws.getD 0 Ze).toList=[b]∧P.kind=b.toNat
 rep:qH (ws.getD 0 Ze)=true→PmR n (gI ws) P
 q:(ws.getD 0 Ze).toList=[113]→P.ent=(aH (ws.getD 1 Ze).data.toList,aH (ws.getD 2 Ze).data.toList,ws.getD 3 Ze)
 m:(ws.getD 0 Ze).toList=[109]→P.epoch=aH (ws.getD 3 Ze).data.toList∧P.ent=(aH (ws.getD 1 Ze).data.toList,aH (ws.getD 2 Ze).data.toList,⟨#[114]⟩++ws.getD 4 Ze)
def jr (ws:List ByteArray) (n:Int):Bool:=decide (0<(bI (ws.getD 0 Ze)).size)&&(decide (ws.length=(bI (ws.getD 0 Ze)).size+1)&&dU ws (bI (ws.getD 0 Ze)) n (bI (ws.getD 0 Ze)).size)
theorem tL (s:ByteArray) (n:Int):aU s n=if 400<s.size then [] else if jr (bX s 32) n=true then bX s 32 else []:=by
 unfold aU jr;by_cases h4:400<s.size
 ·rw[if_pos h4,if_pos h4]
 ·rw[if_neg h4,if_neg h4];dsimp only;generalize bX s 32=ws;by_cases h5:(bI (ws.getD 0 Ze)).size=0
  ·rw[if_pos h5,if_neg (by rw[h5];simp)]
  ·rw[if_neg h5];by_cases h6:ws.length=(bI (ws.getD 0 Ze)).size+1
   ·rw[if_neg (by simpa using h6)]
    by_cases h7:dU ws (bI (ws.getD 0 Ze)) n (bI (ws.getD 0 Ze)).size=true
    ·rw[if_pos h7,if_pos (by rw[h7,decide_eq_true (by omega),decide_eq_true h6];rfl)]
    ·rw[if_neg h7,if_neg (by simp only[Bool.and_eq_true];exact fun q=>h7 q.2.2)]
   ·rw[if_pos h6,if_neg (by simp only[Bool.and_eq_true,decide_eq_true_eq];exact fun q=>h6 q.2.1)]
def BF (ws:List ByteArray):List (ByteArray→Bool)→Nat→Bool→Nat×Bool
 | [],nx,wr=>(nx,wr)
 | f :: l,nx,wr=>BF ws l (nxt ws nx) (wr||!f (wrd ws nx))
def fE (ws:List ByteArray):List (ByteArray→Bool)→Nat→Prop
 | [],_=>True
 | f :: l,nx=>f (wrd ws nx)=true∧fE ws l (nx+1)
theorem Ad (ws:List ByteArray):∀ (l:List (ByteArray→Bool)) (nx:Nat),(BF ws l nx true).2=true
 | [],_=>rfl
 | f :: l,nx=>by unfold BF;rw[Bool.true_or];exact Ad ws l _
theorem nx_ok {ws:List ByteArray} {nx:Nat} {f:ByteArray→Bool} (hf:f ⟨#[]⟩=false) (h:f (wrd ws nx)=true):nx<ws.length∧nxt ws nx=nx+1:=by
 have hl:nx<ws.length:=by
  by_cases hc:nx<ws.length
  ·exact hc
  ·rw[wh hc,hf] at h;simp at h
 exact⟨hl,by unfold nxt;rw[if_pos hl]⟩
theorem gN (ws:List ByteArray):∀ (l:List (ByteArray→Bool)) (nx:Nat),(∀ f∈l,f ⟨#[]⟩=false)→nx≤ws.length→((BF ws l nx false).2=false↔fE ws l nx)∧(fE ws l nx→(BF ws l nx false).1=nx+l.length∧nx+l.length≤ws.length)
 | [],nx,_,h=>by simp[BF,fE];exact h
 | f :: l,nx,hf,h=>by
  unfold BF fE;cases hc:f (wrd ws nx)
  ·refine⟨⟨fun q=>?_,fun q=>by simp at q⟩,fun q=>by simp at q⟩
   rw[show (false||!false)=true from rfl,Ad] at q
   simp at q
  ·obtain⟨k1,k2⟩:=nx_ok (hf f (by simp)) hc
   obtain⟨i1,i2⟩:=gN ws l (nx+1) (fun g hg=>hf g (by simp[hg])) (by omega)
   rw[show (false||!true)=false from rfl,k2]
   refine⟨by rw[i1];simp,fun q=>?_⟩
   have:=i2 q.2
   simp only[List.length_cons];omega
theorem iF {ws:List ByteArray} {n:Int} (f:ByteArray) (l:List (ByteArray→Bool)) (x:Bool) (hF:bI (ws.getD 0 Ze)=f) (hp:0<f.size) (hlen:l.length=f.size) (hl:∀ g∈l,g ⟨#[]⟩=false) (h1:1≤ws.length) (hfit:dU ws f n f.size=true↔fE ws l 1∧x=false) :
  (((BF ws l 1 false).2||x)=false∧(BF ws l 1 false).1=ws.length)↔jr ws n=true:=by
 obtain⟨i1,i2⟩:=gN ws l 1 hl h1
 unfold jr;rw[hF];simp only[Bool.and_eq_true,decide_eq_true_eq,Bool.or_eq_false_iff];rw[hfit,i1]
 constructor
 ·rintro⟨⟨a,b⟩,c⟩
  have:=i2 a
  exact⟨hp,by omega,a,b⟩
 ·rintro⟨_,a,b,c⟩
  have:=i2 b
  exact⟨⟨b,c⟩,by omega⟩
theorem aV {s:ByteArray} {a b:Int} (h:aj s.data.toList a b=true):aC s a b=aH s.data.toList:=by unfold aC;rw[if_pos h]
theorem eX {a b:Int} (h:0≤a):aj (⟨#[]⟩:ByteArray).data.toList a b=false:=by
 have:aH [] = -1:=by decide
 show aj [] a b=false
 unfold aj;rw[this];simp;omega
theorem EG (c:Int):bX ⟨#[]⟩ c=[⟨#[]⟩]:=rfl
theorem iI (n:Int):aK ⟨#[]⟩ n=false:=by
 unfold aK;rw[EG,List.all_cons,eX (by omega)];rfl
theorem jM (n:Int):bG ⟨#[]⟩ n=false:=by
 unfold bG;rw[EG];simp[fV]
theorem jo (n:Int):aQ (⟨#[]⟩:ByteArray).data.toList n=false:=by
 show aQ [] n=false
 simp[aQ]
theorem jO (n:Int):dG ⟨#[]⟩ n=false:=by
 unfold dG;rw[jo,ByteArray.toList_eq];rfl
def cH (n:Int):List (ByteArray→Bool):=[fun s=>aj s.data.toList 0 (n-1),fun s=>aK s n,fun s=>aj s.data.toList 0 10,fun s=>aj s.data.toList 0 999]
def eY (w w':World) (br:Nat) (vw:Value) (ws:List ByteArray) (n:Int) (e:Ending):Prop :=
 ∃ P vl vg vo vL nx' wr',e=Zr (.agg (pmC P vl vg vo vL))∧uK w' (w.heap.size+2) P vl vg vo vL∧aJ w w' br vw ws nx' n wr'∧((wr'=false∧nx'=ws.length)↔jr ws n=true)∧(jr ws n=true→uX n ws P)
theorem EX {s:ByteArray} {n:Int} (h:dG s n=true):fq s n=Gx s:=by
 unfold fq Gx;unfold dG at h;cases hd:(s.toList==[45])
 ·rw[hd] at h;simp only[Bool.false_or] at h;simp only[Bool.false_eq_true,if_false];exact if_pos h
 ·rfl
theorem fO {a:Bool} {p q:Prop} (h:((a||false)=false∧p)↔q):(a=false∧p)↔q:=by rwa [Bool.or_false] at h
section
variable {w w':World} {br:Nat} {vw:Value} {ws:List ByteArray} {n:Int} {e:Ending} (h1:1≤ws.length)
theorem rep_p {w:World} {w':World} {br:Nat} {vw:Value} {ws:List ByteArray} {n:Int} {e:Ending} (h1:1≤ws.length) (h0:(ws.getD 0 Ze).toList=[112]) (hp:gW w w' br vw ws n 112 (aC (wrd ws 1) 0 (n-1)) (eG (wrd ws (nxt ws 1)) n) (aC (wrd ws (nxt ws (nxt ws 1))) 0 10) (aC (wrd ws (nxt ws (nxt ws (nxt ws 1)))) 0 999) (nxt ws (nxt ws (nxt ws (nxt ws 1)))) ((((false||!aj (wrd ws 1).data.toList 0 (n-1))||!aK (wrd ws (nxt ws 1)) n)||!aj (wrd ws (nxt ws (nxt ws 1))).data.toList 0 10)||!aj (wrd ws (nxt ws (nxt ws (nxt ws 1)))).data.toList 0 999) e):eY w w' br vw ws n e:=by
 obtain⟨vl,he,hO,hR⟩:=hp.1 rfl
 have hF:bI (ws.getD 0 Ze)=⟨#[102,108,101,118,120,112,121]⟩:=by unfold bI;rw[h0];rfl
 have hnil:∀ g∈(cH n++[fun (s:ByteArray)=>aj s.data.toList 1 (10),fun (s:ByteArray)=>dw s n,fun (s:ByteArray)=>aj s.data.toList 0 (10)]),g ⟨#[]⟩=false:=by
  intro g hg;simp only[cH,List.cons_append,List.nil_append,List.mem_cons,List.not_mem_nil,or_false] at hg;rcases hg with rfl|rfl|rfl|rfl|rfl|rfl|rfl
  all_goals first|exact eX (by omega)|exact iI n|exact fV n|exact jo n|exact jO n|exact jM n
 have hC:fE ws (cH n++[fun (s:ByteArray)=>aj s.data.toList 1 (10),fun (s:ByteArray)=>dw s n,fun (s:ByteArray)=>aj s.data.toList 0 (10)]) 1→nxt ws 1=2∧nxt ws 2=3∧nxt ws 3=4∧nxt ws 4=5∧nxt ws 5=6∧nxt ws 6=7∧nxt ws 7=8:=by
  intro q;have:=((gN ws (cH n++[fun (s:ByteArray)=>aj s.data.toList 1 (10),fun (s:ByteArray)=>dw s n,fun (s:ByteArray)=>aj s.data.toList 0 (10)]) 1 hnil h1).2 q).2
  have hl:8≤ws.length:=this
  refine⟨?_,?_,?_,?_,?_,?_,?_⟩ <;> (unfold nxt;rw[if_pos (by omega)])
 have hfit:dU ws ⟨#[102,108,101,118,120,112,121]⟩ n 7=true↔fE ws (cH n++[fun (s:ByteArray)=>aj s.data.toList 1 (10),fun (s:ByteArray)=>dw s n,fun (s:ByteArray)=>aj s.data.toList 0 (10)]) 1∧false=false:=by
  have hS:dU ws ⟨#[102,108,101,118,120,112,121]⟩ n 7=(aj (wrd ws 1).data.toList 0 (n-1)&&(aK (wrd ws 2) n&&(aj (wrd ws 3).data.toList 0 10&&(aj (wrd ws 4).data.toList 0 999&&(aj (wrd ws 5).data.toList 1 10&&(dw (wrd ws 6) n&&(aj (wrd ws 7).data.toList 0 10&&true))))))):=rfl
  rw[hS];simp only[Bool.and_eq_true,and_true]
  constructor
  ·rintro⟨q1,q2,q3,q4,q5,q6,q7⟩
   have hA:fE ws (cH n++[fun (s:ByteArray)=>aj s.data.toList 1 (10),fun (s:ByteArray)=>dw s n,fun (s:ByteArray)=>aj s.data.toList 0 (10)]) 1:=⟨q1,q2,q3,q4,q5,q6,q7,trivial⟩
   first|exact⟨hA,rfl⟩|exact hA
  ·intro hh;have hA:fE ws (cH n++[fun (s:ByteArray)=>aj s.data.toList 1 (10),fun (s:ByteArray)=>dw s n,fun (s:ByteArray)=>aj s.data.toList 0 (10)]) 1:=by first|exact hh.1|exact hh
   obtain⟨q1,q2,q3,q4,q5,q6,q7,_⟩:=hA
   exact⟨q1,q2,q3,q4,q5,q6,q7⟩
 have HI:=iF (n:=n) ⟨#[102,108,101,118,120,112,121]⟩ (cH n++[fun (s:ByteArray)=>aj s.data.toList 1 (10),fun (s:ByteArray)=>dw s n,fun (s:ByteArray)=>aj s.data.toList 0 (10)]) false hF (by decide) rfl hnil h1 hfit
 refine⟨⟨112,aC (wrd ws 1) 0 (n-1),eG (wrd ws (nxt ws 1)) n,aC (wrd ws (nxt ws (nxt ws 1))) 0 10,aC (wrd ws (nxt ws (nxt ws (nxt ws 1)))) 0 999,aC (wrd ws (nxt ws (nxt ws (nxt ws (nxt ws 1))))) 1 10,dL (wrd ws (nxt ws (nxt ws (nxt ws (nxt ws (nxt ws 1)))))) n,aC (wrd ws (nxt ws (nxt ws (nxt ws (nxt ws (nxt ws (nxt ws 1))))))) 0 10,0,0,[],[],[]⟩,vl,Y O 0 0,Y O 0 0,Y O 0 0,_,_,he,⟨hO _ (List.mem_cons_self),World.ownsRow_nil _ _ _ _,World.ownsRow_nil _ _ _ _,World.ownsRow_nil _ _ _ _⟩,hR,fO HI,fun hk=>?_⟩
 have hft:dU ws ⟨#[102,108,101,118,120,112,121]⟩ n 7=true:=by
  unfold jr at hk;rw[hF] at hk;simp only[Bool.and_eq_true] at hk;exact hk.2.2
 have hA:=(hfit.1 hft).1;obtain⟨n1,n2,n3,n4,n5,n6,n7⟩:=hC hA
 obtain⟨q1,q2,q3,q4,q5,q6,q7,_⟩:=hA
 have hS:gI ws=⟨ws,ws.getD 0 Ze,aH (ws.getD 1 Ze).data.toList,dN (ws.getD 2 Ze),aH (ws.getD 3 Ze).data.toList,aH (ws.getD 4 Ze).data.toList,aH (ws.getD 7 Ze).data.toList,[]⟩:=by
  unfold gI l5;rw[h0,hF];rfl
 refine⟨⟨_,h0,rfl⟩,fun _=>?_,fun hc=>by rw[h0] at hc;simp at hc,fun hc=>by rw[h0] at hc;simp at hc⟩
 rw[hS];exact⟨(by show aC (wrd ws 1) 0 (n-1)=aH (ws.getD 1 Ze).data.toList;exact aV q1),(by show eG (wrd ws (nxt ws 1)) n=_;rw[n1];exact if_pos q2),(by show aC (wrd ws (nxt ws (nxt ws 1))) 0 10=aH (ws.getD 3 Ze).data.toList;rw[n1,n2];exact aV q3),(by show aC (wrd ws (nxt ws (nxt ws (nxt ws 1)))) 0 999=aH (ws.getD 4 Ze).data.toList;rw[n1,n2,n3];exact aV q4),(fun _=>⟨(by show aC (wrd ws (nxt ws (nxt ws (nxt ws (nxt ws 1))))) 1 10=aH (ws.getD 5 Ze).data.toList;rw[n1,n2,n3,n4];exact aV q5),(by show dL (wrd ws (nxt ws (nxt ws (nxt ws (nxt ws (nxt ws 1)))))) n=dL (wrd ws 6) n;simp only[n1,n2,n3,n4,n5]),(by show aC (wrd ws (nxt ws (nxt ws (nxt ws (nxt ws (nxt ws (nxt ws 1))))))) 0 10=aH (ws.getD 7 Ze).data.toList;rw[n1,n2,n3,n4,n5,n6];exact aV q7)⟩),(fun hc=>absurd (h0.symm.trans hc) (by decide)),(fun hc=>absurd (h0.symm.trans hc) (by decide)),(fun hc=>absurd (h0.symm.trans hc) (by decide)),(fun hc=>absurd (h0.symm.trans hc) (by decide)),(fun hc=>absurd (h0.symm.trans hc) (by decide))⟩
theorem rep_k {w:World} {w':World} {br:Nat} {vw:Value} {ws:List ByteArray} {n:Int} {e:Ending} (h1:1≤ws.length) (h0:(ws.getD 0 Ze).toList=[107]) (hp:gW w w' br vw ws n 107 (aC (wrd ws 1) 0 (n-1)) (eG (wrd ws (nxt ws 1)) n) (aC (wrd ws (nxt ws (nxt ws 1))) 0 10) (aC (wrd ws (nxt ws (nxt ws (nxt ws 1)))) 0 999) (nxt ws (nxt ws (nxt ws (nxt ws 1)))) ((((false||!aj (wrd ws 1).data.toList 0 (n-1))||!aK (wrd ws (nxt ws 1)) n)||!aj (wrd ws (nxt ws (nxt ws 1))).data.toList 0 10)||!aj (wrd ws (nxt ws (nxt ws (nxt ws 1)))).data.toList 0 999) e):eY w w' br vw ws n e:=by
 obtain⟨vl,he,hO,hR⟩:=hp.2.1 rfl
 have hF:bI (ws.getD 0 Ze)=⟨#[102,108,101,118,121]⟩:=by unfold bI;rw[h0];rfl
 have hnil:∀ g∈(cH n++[fun (s:ByteArray)=>aj s.data.toList 0 (10)]),g ⟨#[]⟩=false:=by
  intro g hg;simp only[cH,List.cons_append,List.nil_append,List.mem_cons,List.not_mem_nil,or_false] at hg;rcases hg with rfl|rfl|rfl|rfl|rfl
  all_goals first|exact eX (by omega)|exact iI n|exact fV n|exact jo n|exact jO n|exact jM n
 have hC:fE ws (cH n++[fun (s:ByteArray)=>aj s.data.toList 0 (10)]) 1→nxt ws 1=2∧nxt ws 2=3∧nxt ws 3=4∧nxt ws 4=5∧nxt ws 5=6:=by
  intro q;have:=((gN ws (cH n++[fun (s:ByteArray)=>aj s.data.toList 0 (10)]) 1 hnil h1).2 q).2
  have hl:6≤ws.length:=this
  refine⟨?_,?_,?_,?_,?_⟩ <;> (unfold nxt;rw[if_pos (by omega)])
 have hfit:dU ws ⟨#[102,108,101,118,121]⟩ n 5=true↔fE ws (cH n++[fun (s:ByteArray)=>aj s.data.toList 0 (10)]) 1∧false=false:=by
  have hS:dU ws ⟨#[102,108,101,118,121]⟩ n 5=(aj (wrd ws 1).data.toList 0 (n-1)&&(aK (wrd ws 2) n&&(aj (wrd ws 3).data.toList 0 10&&(aj (wrd ws 4).data.toList 0 999&&(aj (wrd ws 5).data.toList 0 10&&true))))):=rfl
  rw[hS];simp only[Bool.and_eq_true,and_true]
  constructor
  ·rintro⟨q1,q2,q3,q4,q5⟩
   have hA:fE ws (cH n++[fun (s:ByteArray)=>aj s.data.toList 0 (10)]) 1:=⟨q1,q2,q3,q4,q5,trivial⟩
   first|exact⟨hA,rfl⟩|exact hA
  ·intro hh;have hA:fE ws (cH n++[fun (s:ByteArray)=>aj s.data.toList 0 (10)]) 1:=by first|exact hh.1|exact hh
   obtain⟨q1,q2,q3,q4,q5,_⟩:=hA
   exact⟨q1,q2,q3,q4,q5⟩
 have HI:=iF (n:=n) ⟨#[102,108,101,118,121]⟩ (cH n++[fun (s:ByteArray)=>aj s.data.toList 0 (10)]) false hF (by decide) rfl hnil h1 hfit
 refine⟨⟨107,aC (wrd ws 1) 0 (n-1),eG (wrd ws (nxt ws 1)) n,aC (wrd ws (nxt ws (nxt ws 1))) 0 10,aC (wrd ws (nxt ws (nxt ws (nxt ws 1)))) 0 999,aC (wrd ws (nxt ws (nxt ws (nxt ws (nxt ws 1))))) 0 10,(0,0,⟨#[]⟩),0,0,0,[],[],[]⟩,vl,Y O 0 0,Y O 0 0,Y O 0 0,_,_,he,⟨hO _ (List.mem_cons_self),World.ownsRow_nil _ _ _ _,World.ownsRow_nil _ _ _ _,World.ownsRow_nil _ _ _ _⟩,hR,fO HI,fun hk=>?_⟩
 have hft:dU ws ⟨#[102,108,101,118,121]⟩ n 5=true:=by
  unfold jr at hk;rw[hF] at hk;simp only[Bool.and_eq_true] at hk;exact hk.2.2
 have hA:=(hfit.1 hft).1;obtain⟨n1,n2,n3,n4,n5⟩:=hC hA
 obtain⟨q1,q2,q3,q4,q5,_⟩:=hA
 have hS:gI ws=⟨ws,ws.getD 0 Ze,aH (ws.getD 1 Ze).data.toList,dN (ws.getD 2 Ze),aH (ws.getD 3 Ze).data.toList,aH (ws.getD 4 Ze).data.toList,0,[]⟩:=by
  unfold gI l5;rw[h0,hF];rfl
 refine⟨⟨_,h0,rfl⟩,fun _=>?_,fun hc=>by rw[h0] at hc;simp at hc,fun hc=>by rw[h0] at hc;simp at hc⟩
 rw[hS];exact⟨(by show aC (wrd ws 1) 0 (n-1)=aH (ws.getD 1 Ze).data.toList;exact aV q1),(by show eG (wrd ws (nxt ws 1)) n=_;rw[n1];exact if_pos q2),(by show aC (wrd ws (nxt ws (nxt ws 1))) 0 10=aH (ws.getD 3 Ze).data.toList;rw[n1,n2];exact aV q3),(by show aC (wrd ws (nxt ws (nxt ws (nxt ws 1)))) 0 999=aH (ws.getD 4 Ze).data.toList;rw[n1,n2,n3];exact aV q4),(fun hc=>absurd (h0.symm.trans hc) (by decide)),(fun _=>(by show aC (wrd ws (nxt ws (nxt ws (nxt ws (nxt ws 1))))) 0 10=aH (ws.getD 5 Ze).data.toList;rw[n1,n2,n3,n4];exact aV q5)),(fun hc=>absurd (h0.symm.trans hc) (by decide)),(fun hc=>absurd (h0.symm.trans hc) (by decide)),(fun hc=>absurd (h0.symm.trans hc) (by decide)),(fun hc=>absurd (h0.symm.trans hc) (by decide))⟩
theorem rep_c {w:World} {w':World} {br:Nat} {vw:Value} {ws:List ByteArray} {n:Int} {e:Ending} (h1:1≤ws.length) (h0:(ws.getD 0 Ze).toList=[99]) (hp:gW w w' br vw ws n 99 (aC (wrd ws 1) 0 (n-1)) (eG (wrd ws (nxt ws 1)) n) (aC (wrd ws (nxt ws (nxt ws 1))) 0 10) (aC (wrd ws (nxt ws (nxt ws (nxt ws 1)))) 0 999) (nxt ws (nxt ws (nxt ws (nxt ws 1)))) ((((false||!aj (wrd ws 1).data.toList 0 (n-1))||!aK (wrd ws (nxt ws 1)) n)||!aj (wrd ws (nxt ws (nxt ws 1))).data.toList 0 10)||!aj (wrd ws (nxt ws (nxt ws (nxt ws 1)))).data.toList 0 999) e):eY w w' br vw ws n e:=by
 obtain⟨vl,he,hO,hR⟩:=hp.2.2.1 rfl
 have hF:bI (ws.getD 0 Ze)=⟨#[102,108,101,118,121]⟩:=by unfold bI;rw[h0];rfl
 have hnil:∀ g∈(cH n++[fun (s:ByteArray)=>aj s.data.toList 0 (10)]),g ⟨#[]⟩=false:=by
  intro g hg;simp only[cH,List.cons_append,List.nil_append,List.mem_cons,List.not_mem_nil,or_false] at hg;rcases hg with rfl|rfl|rfl|rfl|rfl
  all_goals first|exact eX (by omega)|exact iI n|exact fV n|exact jo n|exact jO n|exact jM n
 have hC:fE ws (cH n++[fun (s:ByteArray)=>aj s.data.toList 0 (10)]) 1→nxt ws 1=2∧nxt ws 2=3∧nxt ws 3=4∧nxt ws 4=5∧nxt ws 5=6:=by
  intro q;have:=((gN ws (cH n++[fun (s:ByteArray)=>aj s.data.toList 0 (10)]) 1 hnil h1).2 q).2
  have hl:6≤ws.length:=this
  refine⟨?_,?_,?_,?_,?_⟩ <;> (unfold nxt;rw[if_pos (by omega)])
 have hfit:dU ws ⟨#[102,108,101,118,121]⟩ n 5=true↔fE ws (cH n++[fun (s:ByteArray)=>aj s.data.toList 0 (10)]) 1∧false=false:=by
  have hS:dU ws ⟨#[102,108,101,118,121]⟩ n 5=(aj (wrd ws 1).data.toList 0 (n-1)&&(aK (wrd ws 2) n&&(aj (wrd ws 3).data.toList 0 10&&(aj (wrd ws 4).data.toList 0 999&&(aj (wrd ws 5).data.toList 0 10&&true))))):=rfl
  rw[hS];simp only[Bool.and_eq_true,and_true]
  constructor
  ·rintro⟨q1,q2,q3,q4,q5⟩
   have hA:fE ws (cH n++[fun (s:ByteArray)=>aj s.data.toList 0 (10)]) 1:=⟨q1,q2,q3,q4,q5,trivial⟩
   first|exact⟨hA,rfl⟩|exact hA
  ·intro hh;have hA:fE ws (cH n++[fun (s:ByteArray)=>aj s.data.toList 0 (10)]) 1:=by first|exact hh.1|exact hh
   obtain⟨q1,q2,q3,q4,q5,_⟩:=hA
   exact⟨q1,q2,q3,q4,q5⟩
 have HI:=iF (n:=n) ⟨#[102,108,101,118,121]⟩ (cH n++[fun (s:ByteArray)=>aj s.data.toList 0 (10)]) false hF (by decide) rfl hnil h1 hfit
 refine⟨⟨99,aC (wrd ws 1) 0 (n-1),eG (wrd ws (nxt ws 1)) n,aC (wrd ws (nxt ws (nxt ws 1))) 0 10,aC (wrd ws (nxt ws (nxt ws (nxt ws 1)))) 0 999,0,(0,0,⟨#[]⟩),aC (wrd ws (nxt ws (nxt ws (nxt ws (nxt ws 1))))) 0 10,0,0,[],[],[]⟩,vl,Y O 0 0,Y O 0 0,Y O 0 0,_,_,he,⟨hO _ (List.mem_cons_self),World.ownsRow_nil _ _ _ _,World.ownsRow_nil _ _ _ _,World.ownsRow_nil _ _ _ _⟩,hR,fO HI,fun hk=>?_⟩
 have hft:dU ws ⟨#[102,108,101,118,121]⟩ n 5=true:=by
  unfold jr at hk;rw[hF] at hk;simp only[Bool.and_eq_true] at hk;exact hk.2.2
 have hA:=(hfit.1 hft).1;obtain⟨n1,n2,n3,n4,n5⟩:=hC hA
 obtain⟨q1,q2,q3,q4,q5,_⟩:=hA
 have hS:gI ws=⟨ws,ws.getD 0 Ze,aH (ws.getD 1 Ze).data.toList,dN (ws.getD 2 Ze),aH (ws.getD 3 Ze).data.toList,aH (ws.getD 4 Ze).data.toList,aH (ws.getD 5 Ze).data.toList,[]⟩:=by
  unfold gI l5;rw[h0,hF];rfl
 refine⟨⟨_,h0,rfl⟩,fun _=>?_,fun hc=>by rw[h0] at hc;simp at hc,fun hc=>by rw[h0] at hc;simp at hc⟩
 rw[hS];exact⟨(by show aC (wrd ws 1) 0 (n-1)=aH (ws.getD 1 Ze).data.toList;exact aV q1),(by show eG (wrd ws (nxt ws 1)) n=_;rw[n1];exact if_pos q2),(by show aC (wrd ws (nxt ws (nxt ws 1))) 0 10=aH (ws.getD 3 Ze).data.toList;rw[n1,n2];exact aV q3),(by show aC (wrd ws (nxt ws (nxt ws (nxt ws 1)))) 0 999=aH (ws.getD 4 Ze).data.toList;rw[n1,n2,n3];exact aV q4),(fun hc=>absurd (h0.symm.trans hc) (by decide)),(fun hc=>absurd (h0.symm.trans hc) (by decide)),(fun _=>(by show aC (wrd ws (nxt ws (nxt ws (nxt ws (nxt ws 1))))) 0 10=aH (ws.getD 5 Ze).data.toList;rw[n1,n2,n3,n4];exact aV q5)),(fun hc=>absurd (h0.symm.trans hc) (by decide)),(fun hc=>absurd (h0.symm.trans hc) (by decide)),(fun hc=>absurd (h0.symm.trans hc) (by decide))⟩
theorem rep_h {w:World} {w':World} {br:Nat} {vw:Value} {ws:List ByteArray} {n:Int} {e:Ending} (h1:1≤ws.length) (h0:(ws.getD 0 Ze).toList=[104]) (hp:gW w w' br vw ws n 104 (aC (wrd ws 1) 0 (n-1)) (eG (wrd ws (nxt ws 1)) n) (aC (wrd ws (nxt ws (nxt ws 1))) 0 10) (aC (wrd ws (nxt ws (nxt ws (nxt ws 1)))) 0 999) (nxt ws (nxt ws (nxt ws (nxt ws 1)))) ((((false||!aj (wrd ws 1).data.toList 0 (n-1))||!aK (wrd ws (nxt ws 1)) n)||!aj (wrd ws (nxt ws (nxt ws 1))).data.toList 0 10)||!aj (wrd ws (nxt ws (nxt ws (nxt ws 1)))).data.toList 0 999) e):eY w w' br vw ws n e:=by
 obtain⟨vl,he,hO,hR⟩:=hp.2.2.2.1 rfl
 have hF:bI (ws.getD 0 Ze)=⟨#[102,108,101,118]⟩:=by unfold bI;rw[h0];rfl
 have hnil:∀ g∈(cH n),g ⟨#[]⟩=false:=by
  intro g hg;simp only[cH,List.cons_append,List.nil_append,List.mem_cons,List.not_mem_nil,or_false] at hg;rcases hg with rfl|rfl|rfl|rfl
  all_goals first|exact eX (by omega)|exact iI n|exact fV n|exact jo n|exact jO n|exact jM n
 have hC:fE ws (cH n) 1→nxt ws 1=2∧nxt ws 2=3∧nxt ws 3=4∧nxt ws 4=5:=by
  intro q;have:=((gN ws (cH n) 1 hnil h1).2 q).2
  have hl:5≤ws.length:=this
  refine⟨?_,?_,?_,?_⟩ <;> (unfold nxt;rw[if_pos (by omega)])
 have hfit:dU ws ⟨#[102,108,101,118]⟩ n 4=true↔fE ws (cH n) 1∧false=false:=by
  have hS:dU ws ⟨#[102,108,101,118]⟩ n 4=(aj (wrd ws 1).data.toList 0 (n-1)&&(aK (wrd ws 2) n&&(aj (wrd ws 3).data.toList 0 10&&(aj (wrd ws 4).data.toList 0 999&&true)))):=rfl
  rw[hS];simp only[Bool.and_eq_true,and_true]
  constructor
  ·rintro⟨q1,q2,q3,q4⟩
   have hA:fE ws (cH n) 1:=⟨q1,q2,q3,q4,trivial⟩
   first|exact⟨hA,rfl⟩|exact hA
  ·intro hh;have hA:fE ws (cH n) 1:=by first|exact hh.1|exact hh
   obtain⟨q1,q2,q3,q4,_⟩:=hA
   exact⟨q1,q2,q3,q4⟩
 have HI:=iF (n:=n) ⟨#[102,108,101,118]⟩ (cH n) false hF (by decide) rfl hnil h1 hfit
 refine⟨⟨104,aC (wrd ws 1) 0 (n-1),eG (wrd ws (nxt ws 1)) n,aC (wrd ws (nxt ws (nxt ws 1))) 0 10,aC (wrd ws (nxt ws (nxt ws (nxt ws 1)))) 0 999,0,(0,0,⟨#[]⟩),0,0,0,[],[],[]⟩,vl,Y O 0 0,Y O 0 0,Y O 0 0,_,_,he,⟨hO _ (List.mem_cons_self),World.ownsRow_nil _ _ _ _,World.ownsRow_nil _ _ _ _,World.ownsRow_nil _ _ _ _⟩,hR,fO HI,fun hk=>?_⟩
 have hft:dU ws ⟨#[102,108,101,118]⟩ n 4=true:=by
  unfold jr at hk;rw[hF] at hk;simp only[Bool.and_eq_true] at hk;exact hk.2.2
 have hA:=(hfit.1 hft).1;obtain⟨n1,n2,n3,n4⟩:=hC hA
 obtain⟨q1,q2,q3,q4,_⟩:=hA
 have hS:gI ws=⟨ws,ws.getD 0 Ze,aH (ws.getD 1 Ze).data.toList,dN (ws.getD 2 Ze),aH (ws.getD 3 Ze).data.toList,aH (ws.getD 4 Ze).data.toList,0,[]⟩:=by
  unfold gI l5;rw[h0,hF];rfl
 refine⟨⟨_,h0,rfl⟩,fun _=>?_,fun hc=>by rw[h0] at hc;simp at hc,fun hc=>by rw[h0] at hc;simp at hc⟩
 rw[hS];exact⟨(by show aC (wrd ws 1) 0 (n-1)=aH (ws.getD 1 Ze).data.toList;exact aV q1),(by show eG (wrd ws (nxt ws 1)) n=_;rw[n1];exact if_pos q2),(by show aC (wrd ws (nxt ws (nxt ws 1))) 0 10=aH (ws.getD 3 Ze).data.toList;rw[n1,n2];exact aV q3),(by show aC (wrd ws (nxt ws (nxt ws (nxt ws 1)))) 0 999=aH (ws.getD 4 Ze).data.toList;rw[n1,n2,n3];exact aV q4),(fun hc=>absurd (h0.symm.trans hc) (by decide)),(fun hc=>absurd (h0.symm.trans hc) (by decide)),(fun hc=>absurd (h0.symm.trans hc) (by decide)),(fun hc=>absurd (h0.symm.trans hc) (by decide)),(fun hc=>absurd (h0.symm.trans hc) (by decide)),(fun hc=>absurd (h0.symm.trans hc) (by decide))⟩
theorem rep_g {w:World} {w':World} {br:Nat} {vw:Value} {ws:List ByteArray} {n:Int} {e:Ending} (h1:1≤ws.length) (h0:(ws.getD 0 Ze).toList=[103]) (hp:gW w w' br vw ws n 103 (aC (wrd ws 1) 0 (n-1)) (eG (wrd ws (nxt ws 1)) n) (aC (wrd ws (nxt ws (nxt ws 1))) 0 10) (aC (wrd ws (nxt ws (nxt ws (nxt ws 1)))) 0 999) (nxt ws (nxt ws (nxt ws (nxt ws 1)))) ((((false||!aj (wrd ws 1).data.toList 0 (n-1))||!aK (wrd ws (nxt ws 1)) n)||!aj (wrd ws (nxt ws (nxt ws 1))).data.toList 0 10)||!aj (wrd ws (nxt ws (nxt ws (nxt ws 1)))).data.toList 0 999) e):eY w w' br vw ws n e:=by
 obtain⟨vl,he,hO,hR⟩:=hp.2.2.2.2.1 rfl
 have hF:bI (ws.getD 0 Ze)=⟨#[102,108,101,118]⟩:=by unfold bI;rw[h0];rfl
 have hnil:∀ g∈(cH n),g ⟨#[]⟩=false:=by
  intro g hg;simp only[cH,List.cons_append,List.nil_append,List.mem_cons,List.not_mem_nil,or_false] at hg;rcases hg with rfl|rfl|rfl|rfl
  all_goals first|exact eX (by omega)|exact iI n|exact fV n|exact jo n|exact jO n|exact jM n
 have hC:fE ws (cH n) 1→nxt ws 1=2∧nxt ws 2=3∧nxt ws 3=4∧nxt ws 4=5:=by
  intro q;have:=((gN ws (cH n) 1 hnil h1).2 q).2
  have hl:5≤ws.length:=this
  refine⟨?_,?_,?_,?_⟩ <;> (unfold nxt;rw[if_pos (by omega)])
 have hfit:dU ws ⟨#[102,108,101,118]⟩ n 4=true↔fE ws (cH n) 1∧false=false:=by
  have hS:dU ws ⟨#[102,108,101,118]⟩ n 4=(aj (wrd ws 1).data.toList 0 (n-1)&&(aK (wrd ws 2) n&&(aj (wrd ws 3).data.toList 0 10&&(aj (wrd ws 4).data.toList 0 999&&true)))):=rfl
  rw[hS];simp only[Bool.and_eq_true,and_true]
  constructor
  ·rintro⟨q1,q2,q3,q4⟩
   have hA:fE ws (cH n) 1:=⟨q1,q2,q3,q4,trivial⟩
   first|exact⟨hA,rfl⟩|exact hA
  ·intro hh;have hA:fE ws (cH n) 1:=by first|exact hh.1|exact hh
   obtain⟨q1,q2,q3,q4,_⟩:=hA
   exact⟨q1,q2,q3,q4⟩
 have HI:=iF (n:=n) ⟨#[102,108,101,118]⟩ (cH n) false hF (by decide) rfl hnil h1 hfit
 refine⟨⟨103,aC (wrd ws 1) 0 (n-1),eG (wrd ws (nxt ws 1)) n,aC (wrd ws (nxt ws (nxt ws 1))) 0 10,aC (wrd ws (nxt ws (nxt ws (nxt ws 1)))) 0 999,0,(0,0,⟨#[]⟩),0,0,0,[],[],[]⟩,vl,Y O 0 0,Y O 0 0,Y O 0 0,_,_,he,⟨hO _ (List.mem_cons_self),World.ownsRow_nil _ _ _ _,World.ownsRow_nil _ _ _ _,World.ownsRow_nil _ _ _ _⟩,hR,fO HI,fun hk=>?_⟩
 have hft:dU ws ⟨#[102,108,101,118]⟩ n 4=true:=by
  unfold jr at hk;rw[hF] at hk;simp only[Bool.and_eq_true] at hk;exact hk.2.2
 have hA:=(hfit.1 hft).1;obtain⟨n1,n2,n3,n4⟩:=hC hA
 obtain⟨q1,q2,q3,q4,_⟩:=hA
 have hS:gI ws=⟨ws,ws.getD 0 Ze,aH (ws.getD 1 Ze).data.toList,dN (ws.getD 2 Ze),aH (ws.getD 3 Ze).data.toList,aH (ws.getD 4 Ze).data.toList,0,[]⟩:=by
  unfold gI l5;rw[h0,hF];rfl
 refine⟨⟨_,h0,rfl⟩,fun _=>?_,fun hc=>by rw[h0] at hc;simp at hc,fun hc=>by rw[h0] at hc;simp at hc⟩
 rw[hS];exact⟨(by show aC (wrd ws 1) 0 (n-1)=aH (ws.getD 1 Ze).data.toList;exact aV q1),(by show eG (wrd ws (nxt ws 1)) n=_;rw[n1];exact if_pos q2),(by show aC (wrd ws (nxt ws (nxt ws 1))) 0 10=aH (ws.getD 3 Ze).data.toList;rw[n1,n2];exact aV q3),(by show aC (wrd ws (nxt ws (nxt ws (nxt ws 1)))) 0 999=aH (ws.getD 4 Ze).data.toList;rw[n1,n2,n3];exact aV q4),(fun hc=>absurd (h0.symm.trans hc) (by decide)),(fun hc=>absurd (h0.symm.trans hc) (by decide)),(fun hc=>absurd (h0.symm.trans hc) (by decide)),(fun hc=>absurd (h0.symm.trans hc) (by decide)),(fun hc=>absurd (h0.symm.trans hc) (by decide)),(fun hc=>absurd (h0.symm.trans hc) (by decide))⟩
theorem rep_r {w:World} {w':World} {br:Nat} {vw:Value} {ws:List ByteArray} {n:Int} {e:Ending} (h1:1≤ws.length) (h0:(ws.getD 0 Ze).toList=[114]) (hp:gW w w' br vw ws n 114 (aC (wrd ws 1) 0 (n-1)) (eG (wrd ws (nxt ws 1)) n) (aC (wrd ws (nxt ws (nxt ws 1))) 0 10) (aC (wrd ws (nxt ws (nxt ws (nxt ws 1)))) 0 999) (nxt ws (nxt ws (nxt ws (nxt ws 1)))) ((((false||!aj (wrd ws 1).data.toList 0 (n-1))||!aK (wrd ws (nxt ws 1)) n)||!aj (wrd ws (nxt ws (nxt ws 1))).data.toList 0 10)||!aj (wrd ws (nxt ws (nxt ws (nxt ws 1)))).data.toList 0 999) e):eY w w' br vw ws n e:=by
 obtain⟨vl,he,hO,hR⟩:=hp.2.2.2.2.2.1 rfl
 have hF:bI (ws.getD 0 Ze)=⟨#[102,108,101,118]⟩:=by unfold bI;rw[h0];rfl
 have hnil:∀ g∈(cH n),g ⟨#[]⟩=false:=by
  intro g hg;simp only[cH,List.cons_append,List.nil_append,List.mem_cons,List.not_mem_nil,or_false] at hg;rcases hg with rfl|rfl|rfl|rfl
  all_goals first|exact eX (by omega)|exact iI n|exact fV n|exact jo n|exact jO n|exact jM n
 have hC:fE ws (cH n) 1→nxt ws 1=2∧nxt ws 2=3∧nxt ws 3=4∧nxt ws 4=5:=by
  intro q;have:=((gN ws (cH n) 1 hnil h1).2 q).2
  have hl:5≤ws.length:=this
  refine⟨?_,?_,?_,?_⟩ <;> (unfold nxt;rw[if_pos (by omega)])
 have hfit:dU ws ⟨#[102,108,101,118]⟩ n 4=true↔fE ws (cH n) 1∧false=false:=by
  have hS:dU ws ⟨#[102,108,101,118]⟩ n 4=(aj (wrd ws 1).data.toList 0 (n-1)&&(aK (wrd ws 2) n&&(aj (wrd ws 3).data.toList 0 10&&(aj (wrd ws 4).data.toList 0 999&&true)))):=rfl
  rw[hS];simp only[Bool.and_eq_true,and_true]
  constructor
  ·rintro⟨q1,q2,q3,q4⟩
   have hA:fE ws (cH n) 1:=⟨q1,q2,q3,q4,trivial⟩
   first|exact⟨hA,rfl⟩|exact hA
  ·intro hh;have hA:fE ws (cH n) 1:=by first|exact hh.1|exact hh
   obtain⟨q1,q2,q3,q4,_⟩:=hA
   exact⟨q1,q2,q3,q4⟩
 have HI:=iF (n:=n) ⟨#[102,108,101,118]⟩ (cH n) false hF (by decide) rfl hnil h1 hfit
 refine⟨⟨114,aC (wrd ws 1) 0 (n-1),eG (wrd ws (nxt ws 1)) n,aC (wrd ws (nxt ws (nxt ws 1))) 0 10,aC (wrd ws (nxt ws (nxt ws (nxt ws 1)))) 0 999,0,(0,0,⟨#[]⟩),0,0,0,[],[],[]⟩,vl,Y O 0 0,Y O 0 0,Y O 0 0,_,_,he,⟨hO _ (List.mem_cons_self),World.ownsRow_nil _ _ _ _,World.ownsRow_nil _ _ _ _,World.ownsRow_nil _ _ _ _⟩,hR,fO HI,fun hk=>?_⟩
 have hft:dU ws ⟨#[102,108,101,118]⟩ n 4=true:=by
  unfold jr at hk;rw[hF] at hk;simp only[Bool.and_eq_true] at hk;exact hk.2.2
 have hA:=(hfit.1 hft).1;obtain⟨n1,n2,n3,n4⟩:=hC hA
 obtain⟨q1,q2,q3,q4,_⟩:=hA
 have hS:gI ws=⟨ws,ws.getD 0 Ze,aH (ws.getD 1 Ze).data.toList,dN (ws.getD 2 Ze),aH (ws.getD 3 Ze).data.toList,aH (ws.getD 4 Ze).data.toList,0,[]⟩:=by
  unfold gI l5;rw[h0,hF];rfl
 refine⟨⟨_,h0,rfl⟩,fun _=>?_,fun hc=>by rw[h0] at hc;simp at hc,fun hc=>by rw[h0] at hc;simp at hc⟩
 rw[hS];exact⟨(by show aC (wrd ws 1) 0 (n-1)=aH (ws.getD 1 Ze).data.toList;exact aV q1),(by show eG (wrd ws (nxt ws 1)) n=_;rw[n1];exact if_pos q2),(by show aC (wrd ws (nxt ws (nxt ws 1))) 0 10=aH (ws.getD 3 Ze).data.toList;rw[n1,n2];exact aV q3),(by show aC (wrd ws (nxt ws (nxt ws (nxt ws 1)))) 0 999=aH (ws.getD 4 Ze).data.toList;rw[n1,n2,n3];exact aV q4),(fun hc=>absurd (h0.symm.trans hc) (by decide)),(fun hc=>absurd (h0.symm.trans hc) (by decide)),(fun hc=>absurd (h0.symm.trans hc) (by decide)),(fun hc=>absurd (h0.symm.trans hc) (by decide)),(fun hc=>absurd (h0.symm.trans hc) (by decide)),(fun hc=>absurd (h0.symm.trans hc) (by decide))⟩
theorem rep_t {w:World} {w':World} {br:Nat} {vw:Value} {ws:List ByteArray} {n:Int} {e:Ending} (h1:1≤ws.length) (h0:(ws.getD 0 Ze).toList=[116]) (hp:gW w w' br vw ws n 116 (aC (wrd ws 1) 0 (n-1)) (eG (wrd ws (nxt ws 1)) n) (aC (wrd ws (nxt ws (nxt ws 1))) 0 10) (aC (wrd ws (nxt ws (nxt ws (nxt ws 1)))) 0 999) (nxt ws (nxt ws (nxt ws (nxt ws 1)))) ((((false||!aj (wrd ws 1).data.toList 0 (n-1))||!aK (wrd ws (nxt ws 1)) n)||!aj (wrd ws (nxt ws (nxt ws 1))).data.toList 0 10)||!aj (wrd ws (nxt ws (nxt ws (nxt ws 1)))).data.toList 0 999) e):eY w w' br vw ws n e:=by
 obtain⟨vl,he,hO,hR⟩:=hp.2.2.2.2.2.2.1 rfl
 have hF:bI (ws.getD 0 Ze)=⟨#[102,108,101,118]⟩:=by unfold bI;rw[h0];rfl
 have hnil:∀ g∈(cH n),g ⟨#[]⟩=false:=by
  intro g hg;simp only[cH,List.cons_append,List.nil_append,List.mem_cons,List.not_mem_nil,or_false] at hg;rcases hg with rfl|rfl|rfl|rfl
  all_goals first|exact eX (by omega)|exact iI n|exact fV n|exact jo n|exact jO n|exact jM n
 have hC:fE ws (cH n) 1→nxt ws 1=2∧nxt ws 2=3∧nxt ws 3=4∧nxt ws 4=5:=by
  intro q;have:=((gN ws (cH n) 1 hnil h1).2 q).2
  have hl:5≤ws.length:=this
  refine⟨?_,?_,?_,?_⟩ <;> (unfold nxt;rw[if_pos (by omega)])
 have hfit:dU ws ⟨#[102,108,101,118]⟩ n 4=true↔fE ws (cH n) 1∧false=false:=by
  have hS:dU ws ⟨#[102,108,101,118]⟩ n 4=(aj (wrd ws 1).data.toList 0 (n-1)&&(aK (wrd ws 2) n&&(aj (wrd ws 3).data.toList 0 10&&(aj (wrd ws 4).data.toList 0 999&&true)))):=rfl
  rw[hS];simp only[Bool.and_eq_true,and_true]
  constructor
  ·rintro⟨q1,q2,q3,q4⟩
   have hA:fE ws (cH n) 1:=⟨q1,q2,q3,q4,trivial⟩
   first|exact⟨hA,rfl⟩|exact hA
  ·intro hh;have hA:fE ws (cH n) 1:=by first|exact hh.1|exact hh
   obtain⟨q1,q2,q3,q4,_⟩:=hA
   exact⟨q1,q2,q3,q4⟩
 have HI:=iF (n:=n) ⟨#[102,108,101,118]⟩ (cH n) false hF (by decide) rfl hnil h1 hfit
 refine⟨⟨116,aC (wrd ws 1) 0 (n-1),eG (wrd ws (nxt ws 1)) n,aC (wrd ws (nxt ws (nxt ws 1))) 0 10,aC (wrd ws (nxt ws (nxt ws (nxt ws 1)))) 0 999,0,(0,0,⟨#[]⟩),0,0,0,[],[],[]⟩,vl,Y O 0 0,Y O 0 0,Y O 0 0,_,_,he,⟨hO _ (List.mem_cons_self),World.ownsRow_nil _ _ _ _,World.ownsRow_nil _ _ _ _,World.ownsRow_nil _ _ _ _⟩,hR,fO HI,fun hk=>?_⟩
 have hft:dU ws ⟨#[102,108,101,118]⟩ n 4=true:=by
  unfold jr at hk;rw[hF] at hk;simp only[Bool.and_eq_true] at hk;exact hk.2.2
 have hA:=(hfit.1 hft).1;obtain⟨n1,n2,n3,n4⟩:=hC hA
 obtain⟨q1,q2,q3,q4,_⟩:=hA
 have hS:gI ws=⟨ws,ws.getD 0 Ze,aH (ws.getD 1 Ze).data.toList,dN (ws.getD 2 Ze),aH (ws.getD 3 Ze).data.toList,aH (ws.getD 4 Ze).data.toList,0,[]⟩:=by
  unfold gI l5;rw[h0,hF];rfl
 refine⟨⟨_,h0,rfl⟩,fun _=>?_,fun hc=>by rw[h0] at hc;simp at hc,fun hc=>by rw[h0] at hc;simp at hc⟩
 rw[hS];exact⟨(by show aC (wrd ws 1) 0 (n-1)=aH (ws.getD 1 Ze).data.toList;exact aV q1),(by show eG (wrd ws (nxt ws 1)) n=_;rw[n1];exact if_pos q2),(by show aC (wrd ws (nxt ws (nxt ws 1))) 0 10=aH (ws.getD 3 Ze).data.toList;rw[n1,n2];exact aV q3),(by show aC (wrd ws (nxt ws (nxt ws (nxt ws 1)))) 0 999=aH (ws.getD 4 Ze).data.toList;rw[n1,n2,n3];exact aV q4),(fun hc=>absurd (h0.symm.trans hc) (by decide)),(fun hc=>absurd (h0.symm.trans hc) (by decide)),(fun hc=>absurd (h0.symm.trans hc) (by decide)),(fun hc=>absurd (h0.symm.trans hc) (by decide)),(fun hc=>absurd (h0.symm.trans hc) (by decide)),(fun hc=>absurd (h0.symm.trans hc) (by decide))⟩
theorem rep_v {w:World} {w':World} {br:Nat} {vw:Value} {ws:List ByteArray} {n:Int} {e:Ending} (h1:1≤ws.length) (h0:(ws.getD 0 Ze).toList=[118]) (hp:gW w w' br vw ws n 118 (aC (wrd ws 1) 0 (n-1)) (eG (wrd ws (nxt ws 1)) n) (aC (wrd ws (nxt ws (nxt ws 1))) 0 10) (aC (wrd ws (nxt ws (nxt ws (nxt ws 1)))) 0 999) (nxt ws (nxt ws (nxt ws (nxt ws 1)))) ((((false||!aj (wrd ws 1).data.toList 0 (n-1))||!aK (wrd ws (nxt ws 1)) n)||!aj (wrd ws (nxt ws (nxt ws 1))).data.toList 0 10)||!aj (wrd ws (nxt ws (nxt ws (nxt ws 1)))).data.toList 0 999) e):eY w w' br vw ws n e:=by
 obtain⟨vl,vL,he,hO,hR⟩:=hp.2.2.2.2.2.2.2.1 rfl
 have hF:bI (ws.getD 0 Ze)=⟨#[102,108,101,118,118,121,76]⟩:=by unfold bI;rw[h0];rfl
 have hnil:∀ g∈(cH n++[fun (s:ByteArray)=>aj s.data.toList 0 (999),fun (s:ByteArray)=>aj s.data.toList 0 (10),fun (s:ByteArray)=>bG s n]),g ⟨#[]⟩=false:=by
  intro g hg;simp only[cH,List.cons_append,List.nil_append,List.mem_cons,List.not_mem_nil,or_false] at hg;rcases hg with rfl|rfl|rfl|rfl|rfl|rfl|rfl
  all_goals first|exact eX (by omega)|exact iI n|exact fV n|exact jo n|exact jO n|exact jM n
 have hC:fE ws (cH n++[fun (s:ByteArray)=>aj s.data.toList 0 (999),fun (s:ByteArray)=>aj s.data.toList 0 (10),fun (s:ByteArray)=>bG s n]) 1→nxt ws 1=2∧nxt ws 2=3∧nxt ws 3=4∧nxt ws 4=5∧nxt ws 5=6∧nxt ws 6=7∧nxt ws 7=8:=by
  intro q;have:=((gN ws (cH n++[fun (s:ByteArray)=>aj s.data.toList 0 (999),fun (s:ByteArray)=>aj s.data.toList 0 (10),fun (s:ByteArray)=>bG s n]) 1 hnil h1).2 q).2
  have hl:8≤ws.length:=this
  refine⟨?_,?_,?_,?_,?_,?_,?_⟩ <;> (unfold nxt;rw[if_pos (by omega)])
 have hfit:dU ws ⟨#[102,108,101,118,118,121,76]⟩ n 7=true↔fE ws (cH n++[fun (s:ByteArray)=>aj s.data.toList 0 (999),fun (s:ByteArray)=>aj s.data.toList 0 (10),fun (s:ByteArray)=>bG s n]) 1∧(decide (((bT (wrd ws (nxt ws (nxt ws (nxt ws (nxt ws (nxt ws (nxt ws 1))))))) n).length:Int)<aC (wrd ws (nxt ws (nxt ws (nxt ws (nxt ws (nxt ws 1)))))) 0 10))=false:=by
  have hS:dU ws ⟨#[102,108,101,118,118,121,76]⟩ n 7=(aj (wrd ws 1).data.toList 0 (n-1)&&(aK (wrd ws 2) n&&(aj (wrd ws 3).data.toList 0 10&&(aj (wrd ws 4).data.toList 0 999&&(aj (wrd ws 5).data.toList 0 999&&(aj (wrd ws 6).data.toList 0 10&&((bG (wrd ws 7) n&&decide (aH (wrd ws 6).data.toList≤(kG (wrd ws 7)).length))&&true))))))):=rfl
  rw[hS];simp only[Bool.and_eq_true,and_true]
  constructor
  ·rintro⟨q1,q2,q3,q4,q5,q6,q7,qc⟩
   have hA:fE ws (cH n++[fun (s:ByteArray)=>aj s.data.toList 0 (999),fun (s:ByteArray)=>aj s.data.toList 0 (10),fun (s:ByteArray)=>bG s n]) 1:=⟨q1,q2,q3,q4,q5,q6,q7,trivial⟩
   obtain⟨n1,n2,n3,n4,n5,n6,n7⟩:=hC hA
   refine⟨hA,?_⟩
   simp only[n1,n2,n3,n4,n5,n6,n7];rw[decide_eq_false_iff_not,aV (show aj (wrd ws 6).data.toList 0 10=true from q6)]
   have hl:(bT (wrd ws 7) n).length=(kG (wrd ws 7)).length:=by unfold bT;rw[if_pos q7];simp[eH]
   rw[hl];have:=of_decide_eq_true qc
   omega
  ·rintro⟨hA,qx⟩
   obtain⟨n1,n2,n3,n4,n5,n6,n7⟩:=hC hA
   simp only[n1,n2,n3,n4,n5,n6,n7] at qx;obtain⟨q1,q2,q3,q4,q5,q6,q7,_⟩:=hA
   rw[decide_eq_false_iff_not,aV (show aj (wrd ws 6).data.toList 0 10=true from q6)] at qx
   have hl:(bT (wrd ws 7) n).length=(kG (wrd ws 7)).length:=by unfold bT;rw[if_pos (show bG (wrd ws 7) n=true from q7)];simp[eH]
   rw[hl] at qx;exact⟨q1,q2,q3,q4,q5,q6,q7,decide_eq_true (by omega)⟩
 have HI:=iF (n:=n) ⟨#[102,108,101,118,118,121,76]⟩ (cH n++[fun (s:ByteArray)=>aj s.data.toList 0 (999),fun (s:ByteArray)=>aj s.data.toList 0 (10),fun (s:ByteArray)=>bG s n]) (decide (((bT (wrd ws (nxt ws (nxt ws (nxt ws (nxt ws (nxt ws (nxt ws 1))))))) n).length:Int)<aC (wrd ws (nxt ws (nxt ws (nxt ws (nxt ws (nxt ws 1)))))) 0 10)) hF (by decide) rfl hnil h1 hfit
 refine⟨⟨118,aC (wrd ws 1) 0 (n-1),eG (wrd ws (nxt ws 1)) n,aC (wrd ws (nxt ws (nxt ws 1))) 0 10,aC (wrd ws (nxt ws (nxt ws (nxt ws 1)))) 0 999,0,(0,0,⟨#[]⟩),aC (wrd ws (nxt ws (nxt ws (nxt ws (nxt ws (nxt ws 1)))))) 0 10,aC (wrd ws (nxt ws (nxt ws (nxt ws (nxt ws 1))))) 0 999,0,[],[],bT (wrd ws (nxt ws (nxt ws (nxt ws (nxt ws (nxt ws (nxt ws 1))))))) n⟩,vl,Y O 0 0,Y O 0 0,vL,_,_,he,⟨hO _ (List.mem_cons_of_mem _ List.mem_cons_self),World.ownsRow_nil _ _ _ _,World.ownsRow_nil _ _ _ _,hO _ (List.mem_cons_self)⟩,hR,HI,fun hk=>?_⟩
 have hft:dU ws ⟨#[102,108,101,118,118,121,76]⟩ n 7=true:=by
  unfold jr at hk;rw[hF] at hk;simp only[Bool.and_eq_true] at hk;exact hk.2.2
 have hA:=(hfit.1 hft).1;obtain⟨n1,n2,n3,n4,n5,n6,n7⟩:=hC hA
 obtain⟨q1,q2,q3,q4,q5,q6,q7,_⟩:=hA
 have hS:gI ws=⟨ws,ws.getD 0 Ze,aH (ws.getD 1 Ze).data.toList,dN (ws.getD 2 Ze),aH (ws.getD 3 Ze).data.toList,aH (ws.getD 4 Ze).data.toList,aH (ws.getD 6 Ze).data.toList,kG (ws.getD 7 Ze)⟩:=by
  unfold gI l5;rw[h0,hF];rfl
 refine⟨⟨_,h0,rfl⟩,fun _=>?_,fun hc=>by rw[h0] at hc;simp at hc,fun hc=>by rw[h0] at hc;simp at hc⟩
 rw[hS];exact⟨(by show aC (wrd ws 1) 0 (n-1)=aH (ws.getD 1 Ze).data.toList;exact aV q1),(by show eG (wrd ws (nxt ws 1)) n=_;rw[n1];exact if_pos q2),(by show aC (wrd ws (nxt ws (nxt ws 1))) 0 10=aH (ws.getD 3 Ze).data.toList;rw[n1,n2];exact aV q3),(by show aC (wrd ws (nxt ws (nxt ws (nxt ws 1)))) 0 999=aH (ws.getD 4 Ze).data.toList;rw[n1,n2,n3];exact aV q4),(fun hc=>absurd (h0.symm.trans hc) (by decide)),(fun hc=>absurd (h0.symm.trans hc) (by decide)),(fun hc=>absurd (h0.symm.trans hc) (by decide)),(fun _=>⟨(by show aC (wrd ws (nxt ws (nxt ws (nxt ws (nxt ws 1))))) 0 999=aH (ws.getD 5 Ze).data.toList;rw[n1,n2,n3,n4];exact aV q5),(by show aC (wrd ws (nxt ws (nxt ws (nxt ws (nxt ws (nxt ws 1)))))) 0 10=aH (ws.getD 6 Ze).data.toList;rw[n1,n2,n3,n4,n5];exact aV q6),(by show bT (wrd ws (nxt ws (nxt ws (nxt ws (nxt ws (nxt ws (nxt ws 1))))))) n=_;rw[n1,n2,n3,n4,n5,n6];exact if_pos q7)⟩),(fun hc=>absurd (h0.symm.trans hc) (by decide)),(fun hc=>absurd (h0.symm.trans hc) (by decide))⟩
theorem rep_s {w:World} {w':World} {br:Nat} {vw:Value} {ws:List ByteArray} {n:Int} {e:Ending} (h1:1≤ws.length) (h0:(ws.getD 0 Ze).toList=[115]) (hp:gW w w' br vw ws n 115 (aC (wrd ws 1) 0 (n-1)) (eG (wrd ws (nxt ws 1)) n) (aC (wrd ws (nxt ws (nxt ws 1))) 0 10) (aC (wrd ws (nxt ws (nxt ws (nxt ws 1)))) 0 999) (nxt ws (nxt ws (nxt ws (nxt ws 1)))) ((((false||!aj (wrd ws 1).data.toList 0 (n-1))||!aK (wrd ws (nxt ws 1)) n)||!aj (wrd ws (nxt ws (nxt ws 1))).data.toList 0 10)||!aj (wrd ws (nxt ws (nxt ws (nxt ws 1)))).data.toList 0 999) e):eY w w' br vw ws n e:=by
 obtain⟨vl,vg,vo,vL,he,hO,hR⟩:=hp.2.2.2.2.2.2.2.2.1 rfl
 have hF:bI (ws.getD 0 Ze)=⟨#[102,108,101,118,103,104,121,76]⟩:=by unfold bI;rw[h0];rfl
 have hnil:∀ g∈(cH n++[fun (s:ByteArray)=>aQ s.data.toList n,fun (s:ByteArray)=>dG s n,fun (s:ByteArray)=>aj s.data.toList 0 (10),fun (s:ByteArray)=>bG s n]),g ⟨#[]⟩=false:=by
  intro g hg;simp only[cH,List.cons_append,List.nil_append,List.mem_cons,List.not_mem_nil,or_false] at hg;rcases hg with rfl|rfl|rfl|rfl|rfl|rfl|rfl|rfl
  all_goals first|exact eX (by omega)|exact iI n|exact fV n|exact jo n|exact jO n|exact jM n
 have hC:fE ws (cH n++[fun (s:ByteArray)=>aQ s.data.toList n,fun (s:ByteArray)=>dG s n,fun (s:ByteArray)=>aj s.data.toList 0 (10),fun (s:ByteArray)=>bG s n]) 1→nxt ws 1=2∧nxt ws 2=3∧nxt ws 3=4∧nxt ws 4=5∧nxt ws 5=6∧nxt ws 6=7∧nxt ws 7=8∧nxt ws 8=9:=by
  intro q;have:=((gN ws (cH n++[fun (s:ByteArray)=>aQ s.data.toList n,fun (s:ByteArray)=>dG s n,fun (s:ByteArray)=>aj s.data.toList 0 (10),fun (s:ByteArray)=>bG s n]) 1 hnil h1).2 q).2
  have hl:9≤ws.length:=this
  refine⟨?_,?_,?_,?_,?_,?_,?_,?_⟩ <;> (unfold nxt;rw[if_pos (by omega)])
 have hfit:dU ws ⟨#[102,108,101,118,103,104,121,76]⟩ n 8=true↔fE ws (cH n++[fun (s:ByteArray)=>aQ s.data.toList n,fun (s:ByteArray)=>dG s n,fun (s:ByteArray)=>aj s.data.toList 0 (10),fun (s:ByteArray)=>bG s n]) 1∧(decide (((bT (wrd ws (nxt ws (nxt ws (nxt ws (nxt ws (nxt ws (nxt ws (nxt ws 1)))))))) n).length:Int)<aC (wrd ws (nxt ws (nxt ws (nxt ws (nxt ws (nxt ws (nxt ws 1))))))) 0 10))=false:=by
  have hS:dU ws ⟨#[102,108,101,118,103,104,121,76]⟩ n 8=(aj (wrd ws 1).data.toList 0 (n-1)&&(aK (wrd ws 2) n&&(aj (wrd ws 3).data.toList 0 10&&(aj (wrd ws 4).data.toList 0 999&&(aQ (wrd ws 5).data.toList n&&((aQ (wrd ws 6).data.toList n||(wrd ws 6).toList==[45])&&(aj (wrd ws 7).data.toList 0 10&&((bG (wrd ws 8) n&&decide (aH (wrd ws 7).data.toList≤(kG (wrd ws 8)).length))&&true)))))))):=rfl
  rw[hS];simp only[Bool.and_eq_true,and_true]
  constructor
  ·rintro⟨q1,q2,q3,q4,q5,q6,q7,q8,qc⟩
   have hA:fE ws (cH n++[fun (s:ByteArray)=>aQ s.data.toList n,fun (s:ByteArray)=>dG s n,fun (s:ByteArray)=>aj s.data.toList 0 (10),fun (s:ByteArray)=>bG s n]) 1:=⟨q1,q2,q3,q4,q5,(by simpa [dG,Bool.or_comm] using q6),q7,q8,trivial⟩
   obtain⟨n1,n2,n3,n4,n5,n6,n7,n8⟩:=hC hA
   refine⟨hA,?_⟩
   simp only[n1,n2,n3,n4,n5,n6,n7,n8];rw[decide_eq_false_iff_not,aV (show aj (wrd ws 7).data.toList 0 10=true from q7)]
   have hl:(bT (wrd ws 8) n).length=(kG (wrd ws 8)).length:=by unfold bT;rw[if_pos q8];simp[eH]
   rw[hl];have:=of_decide_eq_true qc
   omega
  ·rintro⟨hA,qx⟩
   obtain⟨n1,n2,n3,n4,n5,n6,n7,n8⟩:=hC hA
   simp only[n1,n2,n3,n4,n5,n6,n7,n8] at qx;obtain⟨q1,q2,q3,q4,q5,q6,q7,q8,_⟩:=hA
   rw[decide_eq_false_iff_not,aV (show aj (wrd ws 7).data.toList 0 10=true from q7)] at qx
   have hl:(bT (wrd ws 8) n).length=(kG (wrd ws 8)).length:=by unfold bT;rw[if_pos (show bG (wrd ws 8) n=true from q8)];simp[eH]
   rw[hl] at qx;exact⟨q1,q2,q3,q4,q5,(by have:=q6;simp only[dG] at this;rw[Bool.or_comm];exact this),q7,q8,decide_eq_true (by omega)⟩
 have HI:=iF (n:=n) ⟨#[102,108,101,118,103,104,121,76]⟩ (cH n++[fun (s:ByteArray)=>aQ s.data.toList n,fun (s:ByteArray)=>dG s n,fun (s:ByteArray)=>aj s.data.toList 0 (10),fun (s:ByteArray)=>bG s n]) (decide (((bT (wrd ws (nxt ws (nxt ws (nxt ws (nxt ws (nxt ws (nxt ws (nxt ws 1)))))))) n).length:Int)<aC (wrd ws (nxt ws (nxt ws (nxt ws (nxt ws (nxt ws (nxt ws 1))))))) 0 10)) hF (by decide) rfl hnil h1 hfit
 refine⟨⟨115,aC (wrd ws 1) 0 (n-1),eG (wrd ws (nxt ws 1)) n,aC (wrd ws (nxt ws (nxt ws 1))) 0 10,aC (wrd ws (nxt ws (nxt ws (nxt ws 1)))) 0 999,0,(0,0,⟨#[]⟩),aC (wrd ws (nxt ws (nxt ws (nxt ws (nxt ws (nxt ws (nxt ws 1))))))) 0 10,0,0,bY (wrd ws (nxt ws (nxt ws (nxt ws (nxt ws 1))))) n,fq (wrd ws (nxt ws (nxt ws (nxt ws (nxt ws (nxt ws 1)))))) n,bT (wrd ws (nxt ws (nxt ws (nxt ws (nxt ws (nxt ws (nxt ws (nxt ws 1)))))))) n⟩,vl,vg,vo,vL,_,_,he,⟨hO _ (List.mem_cons_of_mem _ (List.mem_cons_of_mem _ (List.mem_cons_of_mem _ List.mem_cons_self))),hO _ (List.mem_cons_of_mem _ List.mem_cons_self),hO _ (List.mem_cons_of_mem _ (List.mem_cons_of_mem _ List.mem_cons_self)),hO _ (List.mem_cons_self)⟩,hR,HI,fun hk=>?_⟩
 have hft:dU ws ⟨#[102,108,101,118,103,104,121,76]⟩ n 8=true:=by
  unfold jr at hk;rw[hF] at hk;simp only[Bool.and_eq_true] at hk;exact hk.2.2
 have hA:=(hfit.1 hft).1;obtain⟨n1,n2,n3,n4,n5,n6,n7,n8⟩:=hC hA
 obtain⟨q1,q2,q3,q4,q5,q6,q7,q8,_⟩:=hA
 have hS:gI ws=⟨ws,ws.getD 0 Ze,aH (ws.getD 1 Ze).data.toList,dN (ws.getD 2 Ze),aH (ws.getD 3 Ze).data.toList,aH (ws.getD 4 Ze).data.toList,aH (ws.getD 7 Ze).data.toList,kG (ws.getD 8 Ze)⟩:=by
  unfold gI l5;rw[h0,hF];rfl
 refine⟨⟨_,h0,rfl⟩,fun _=>?_,fun hc=>by rw[h0] at hc;simp at hc,fun hc=>by rw[h0] at hc;simp at hc⟩
 rw[hS];exact⟨(by show aC (wrd ws 1) 0 (n-1)=aH (ws.getD 1 Ze).data.toList;exact aV q1),(by show eG (wrd ws (nxt ws 1)) n=_;rw[n1];exact if_pos q2),(by show aC (wrd ws (nxt ws (nxt ws 1))) 0 10=aH (ws.getD 3 Ze).data.toList;rw[n1,n2];exact aV q3),(by show aC (wrd ws (nxt ws (nxt ws (nxt ws 1)))) 0 999=aH (ws.getD 4 Ze).data.toList;rw[n1,n2,n3];exact aV q4),(fun hc=>absurd (h0.symm.trans hc) (by decide)),(fun hc=>absurd (h0.symm.trans hc) (by decide)),(fun hc=>absurd (h0.symm.trans hc) (by decide)),(fun hc=>absurd (h0.symm.trans hc) (by decide)),(fun _=>⟨(by show bY (wrd ws (nxt ws (nxt ws (nxt ws (nxt ws 1))))) n=_;rw[n1,n2,n3,n4];exact if_pos q5),(by show fq (wrd ws (nxt ws (nxt ws (nxt ws (nxt ws (nxt ws 1)))))) n=_;rw[n1,n2,n3,n4,n5];exact EX q6),(by show aC (wrd ws (nxt ws (nxt ws (nxt ws (nxt ws (nxt ws (nxt ws 1))))))) 0 10=aH (ws.getD 7 Ze).data.toList;rw[n1,n2,n3,n4,n5,n6];exact aV q7),(by show bT (wrd ws (nxt ws (nxt ws (nxt ws (nxt ws (nxt ws (nxt ws (nxt ws 1)))))))) n=_;rw[n1,n2,n3,n4,n5,n6,n7];exact if_pos q8)⟩),(fun hc=>absurd (h0.symm.trans hc) (by decide))⟩
theorem rep_a {w:World} {w':World} {br:Nat} {vw:Value} {ws:List ByteArray} {n:Int} {e:Ending} (h1:1≤ws.length) (h0:(ws.getD 0 Ze).toList=[97]) (hp:gW w w' br vw ws n 97 (aC (wrd ws 1) 0 (n-1)) (eG (wrd ws (nxt ws 1)) n) (aC (wrd ws (nxt ws (nxt ws 1))) 0 10) (aC (wrd ws (nxt ws (nxt ws (nxt ws 1)))) 0 999) (nxt ws (nxt ws (nxt ws (nxt ws 1)))) ((((false||!aj (wrd ws 1).data.toList 0 (n-1))||!aK (wrd ws (nxt ws 1)) n)||!aj (wrd ws (nxt ws (nxt ws 1))).data.toList 0 10)||!aj (wrd ws (nxt ws (nxt ws (nxt ws 1)))).data.toList 0 999) e):eY w w' br vw ws n e:=by
 obtain⟨vl,vg,vo,vL,he,hO,hR⟩:=hp.2.2.2.2.2.2.2.2.2.1 rfl
 have hF:bI (ws.getD 0 Ze)=⟨#[102,108,101,118,105,103,104,121,76]⟩:=by unfold bI;rw[h0];rfl
 have hnil:∀ g∈(cH n++[fun (s:ByteArray)=>aj s.data.toList 1 (999),fun (s:ByteArray)=>aQ s.data.toList n,fun (s:ByteArray)=>dG s n,fun (s:ByteArray)=>aj s.data.toList 0 (10),fun (s:ByteArray)=>bG s n]),g ⟨#[]⟩=false:=by
  intro g hg;simp only[cH,List.cons_append,List.nil_append,List.mem_cons,List.not_mem_nil,or_false] at hg;rcases hg with rfl|rfl|rfl|rfl|rfl|rfl|rfl|rfl|rfl
  all_goals first|exact eX (by omega)|exact iI n|exact fV n|exact jo n|exact jO n|exact jM n
 have hC:fE ws (cH n++[fun (s:ByteArray)=>aj s.data.toList 1 (999),fun (s:ByteArray)=>aQ s.data.toList n,fun (s:ByteArray)=>dG s n,fun (s:ByteArray)=>aj s.data.toList 0 (10),fun (s:ByteArray)=>bG s n]) 1→nxt ws 1=2∧nxt ws 2=3∧nxt ws 3=4∧nxt ws 4=5∧nxt ws 5=6∧nxt ws 6=7∧nxt ws 7=8∧nxt ws 8=9∧nxt ws 9=10:=by
  intro q;have:=((gN ws (cH n++[fun (s:ByteArray)=>aj s.data.toList 1 (999),fun (s:ByteArray)=>aQ s.data.toList n,fun (s:ByteArray)=>dG s n,fun (s:ByteArray)=>aj s.data.toList 0 (10),fun (s:ByteArray)=>bG s n]) 1 hnil h1).2 q).2
  have hl:10≤ws.length:=this
  refine⟨?_,?_,?_,?_,?_,?_,?_,?_,?_⟩ <;> (unfold nxt;rw[if_pos (by omega)])
 have hfit:dU ws ⟨#[102,108,101,118,105,103,104,121,76]⟩ n 9=true↔fE ws (cH n++[fun (s:ByteArray)=>aj s.data.toList 1 (999),fun (s:ByteArray)=>aQ s.data.toList n,fun (s:ByteArray)=>dG s n,fun (s:ByteArray)=>aj s.data.toList 0 (10),fun (s:ByteArray)=>bG s n]) 1∧(decide (((bT (wrd ws (nxt ws (nxt ws (nxt ws (nxt ws (nxt ws (nxt ws (nxt ws (nxt ws 1))))))))) n).length:Int)<aC (wrd ws (nxt ws (nxt ws (nxt ws (nxt ws (nxt ws (nxt ws (nxt ws 1)))))))) 0 10))=false:=by
  have hS:dU ws ⟨#[102,108,101,118,105,103,104,121,76]⟩ n 9=(aj (wrd ws 1).data.toList 0 (n-1)&&(aK (wrd ws 2) n&&(aj (wrd ws 3).data.toList 0 10&&(aj (wrd ws 4).data.toList 0 999&&(aj (wrd ws 5).data.toList 1 999&&(aQ (wrd ws 6).data.toList n&&((aQ (wrd ws 7).data.toList n||(wrd ws 7).toList==[45])&&(aj (wrd ws 8).data.toList 0 10&&((bG (wrd ws 9) n&&decide (aH (wrd ws 8).data.toList≤(kG (wrd ws 9)).length))&&true))))))))):=rfl
  rw[hS];simp only[Bool.and_eq_true,and_true]
  constructor
  ·rintro⟨q1,q2,q3,q4,q5,q6,q7,q8,q9,qc⟩
   have hA:fE ws (cH n++[fun (s:ByteArray)=>aj s.data.toList 1 (999),fun (s:ByteArray)=>aQ s.data.toList n,fun (s:ByteArray)=>dG s n,fun (s:ByteArray)=>aj s.data.toList 0 (10),fun (s:ByteArray)=>bG s n]) 1:=⟨q1,q2,q3,q4,q5,q6,(by simpa [dG,Bool.or_comm] using q7),q8,q9,trivial⟩
   obtain⟨n1,n2,n3,n4,n5,n6,n7,n8,n9⟩:=hC hA
   refine⟨hA,?_⟩
   simp only[n1,n2,n3,n4,n5,n6,n7,n8,n9];rw[decide_eq_false_iff_not,aV (show aj (wrd ws 8).data.toList 0 10=true from q8)]
   have hl:(bT (wrd ws 9) n).length=(kG (wrd ws 9)).length:=by unfold bT;rw[if_pos q9];simp[eH]
   rw[hl];have:=of_decide_eq_true qc
   omega
  ·rintro⟨hA,qx⟩
   obtain⟨n1,n2,n3,n4,n5,n6,n7,n8,n9⟩:=hC hA
   simp only[n1,n2,n3,n4,n5,n6,n7,n8,n9] at qx;obtain⟨q1,q2,q3,q4,q5,q6,q7,q8,q9,_⟩:=hA
   rw[decide_eq_false_iff_not,aV (show aj (wrd ws 8).data.toList 0 10=true from q8)] at qx
   have hl:(bT (wrd ws 9) n).length=(kG (wrd ws 9)).length:=by unfold bT;rw[if_pos (show bG (wrd ws 9) n=true from q9)];simp[eH]
   rw[hl] at qx;exact⟨q1,q2,q3,q4,q5,q6,(by have:=q7;simp only[dG] at this;rw[Bool.or_comm];exact this),q8,q9,decide_eq_true (by omega)⟩
 have HI:=iF (n:=n) ⟨#[102,108,101,118,105,103,104,121,76]⟩ (cH n++[fun (s:ByteArray)=>aj s.data.toList 1 (999),fun (s:ByteArray)=>aQ s.data.toList n,fun (s:ByteArray)=>dG s n,fun (s:ByteArray)=>aj s.data.toList 0 (10),fun (s:ByteArray)=>bG s n]) (decide (((bT (wrd ws (nxt ws (nxt ws (nxt ws (nxt ws (nxt ws (nxt ws (nxt ws (nxt ws 1))))))))) n).length:Int)<aC (wrd ws (nxt ws (nxt ws (nxt ws (nxt ws (nxt ws (nxt ws (nxt ws 1)))))))) 0 10)) hF (by decide) rfl hnil h1 hfit
 refine⟨⟨97,aC (wrd ws 1) 0 (n-1),eG (wrd ws (nxt ws 1)) n,aC (wrd ws (nxt ws (nxt ws 1))) 0 10,aC (wrd ws (nxt ws (nxt ws (nxt ws 1)))) 0 999,0,(0,0,⟨#[]⟩),aC (wrd ws (nxt ws (nxt ws (nxt ws (nxt ws (nxt ws (nxt ws (nxt ws 1)))))))) 0 10,0,aC (wrd ws (nxt ws (nxt ws (nxt ws (nxt ws 1))))) 1 999,bY (wrd ws (nxt ws (nxt ws (nxt ws (nxt ws (nxt ws 1)))))) n,fq (wrd ws (nxt ws (nxt ws (nxt ws (nxt ws (nxt ws (nxt ws 1))))))) n,bT (wrd ws (nxt ws (nxt ws (nxt ws (nxt ws (nxt ws (nxt ws (nxt ws (nxt ws 1))))))))) n⟩,vl,vg,vo,vL,_,_,he,⟨hO _ (List.mem_cons_of_mem _ (List.mem_cons_of_mem _ (List.mem_cons_of_mem _ List.mem_cons_self))),hO _ (List.mem_cons_of_mem _ List.mem_cons_self),hO _ (List.mem_cons_of_mem _ (List.mem_cons_of_mem _ List.mem_cons_self)),hO _ (List.mem_cons_self)⟩,hR,HI,fun hk=>?_⟩
 have hft:dU ws ⟨#[102,108,101,118,105,103,104,121,76]⟩ n 9=true:=by
  unfold jr at hk;rw[hF] at hk;simp only[Bool.and_eq_true] at hk;exact hk.2.2
 have hA:=(hfit.1 hft).1;obtain⟨n1,n2,n3,n4,n5,n6,n7,n8,n9⟩:=hC hA
 obtain⟨q1,q2,q3,q4,q5,q6,q7,q8,q9,_⟩:=hA
 have hS:gI ws=⟨ws,ws.getD 0 Ze,aH (ws.getD 1 Ze).data.toList,dN (ws.getD 2 Ze),aH (ws.getD 3 Ze).data.toList,aH (ws.getD 4 Ze).data.toList,aH (ws.getD 8 Ze).data.toList,kG (ws.getD 9 Ze)⟩:=by
  unfold gI l5;rw[h0,hF];rfl
 refine⟨⟨_,h0,rfl⟩,fun _=>?_,fun hc=>by rw[h0] at hc;simp at hc,fun hc=>by rw[h0] at hc;simp at hc⟩
 rw[hS];exact⟨(by show aC (wrd ws 1) 0 (n-1)=aH (ws.getD 1 Ze).data.toList;exact aV q1),(by show eG (wrd ws (nxt ws 1)) n=_;rw[n1];exact if_pos q2),(by show aC (wrd ws (nxt ws (nxt ws 1))) 0 10=aH (ws.getD 3 Ze).data.toList;rw[n1,n2];exact aV q3),(by show aC (wrd ws (nxt ws (nxt ws (nxt ws 1)))) 0 999=aH (ws.getD 4 Ze).data.toList;rw[n1,n2,n3];exact aV q4),(fun hc=>absurd (h0.symm.trans hc) (by decide)),(fun hc=>absurd (h0.symm.trans hc) (by decide)),(fun hc=>absurd (h0.symm.trans hc) (by decide)),(fun hc=>absurd (h0.symm.trans hc) (by decide)),(fun hc=>absurd (h0.symm.trans hc) (by decide)),(fun _=>⟨(by show aC (wrd ws (nxt ws (nxt ws (nxt ws (nxt ws 1))))) 1 999=aH (ws.getD 5 Ze).data.toList;rw[n1,n2,n3,n4];exact aV q5),(by show bY (wrd ws (nxt ws (nxt ws (nxt ws (nxt ws (nxt ws 1)))))) n=_;rw[n1,n2,n3,n4,n5];exact if_pos q6),(by show fq (wrd ws (nxt ws (nxt ws (nxt ws (nxt ws (nxt ws (nxt ws 1))))))) n=_;rw[n1,n2,n3,n4,n5,n6];exact EX q7),(by show aC (wrd ws (nxt ws (nxt ws (nxt ws (nxt ws (nxt ws (nxt ws (nxt ws 1)))))))) 0 10=aH (ws.getD 8 Ze).data.toList;rw[n1,n2,n3,n4,n5,n6,n7];exact aV q8),(by show bT (wrd ws (nxt ws (nxt ws (nxt ws (nxt ws (nxt ws (nxt ws (nxt ws (nxt ws 1))))))))) n=_;rw[n1,n2,n3,n4,n5,n6,n7,n8];exact if_pos q9)⟩)⟩
theorem cl_q {w:World} {w':World} {br:Nat} {vw:Value} {ws:List ByteArray} {n:Int} {e:Ending} (h1:1≤ws.length) (h0:(ws.getD 0 Ze).toList=[113]) (he:e=Zr (.agg (pmC ⟨113,0,[],0,0,0,(aC (wrd ws 1) 1 9,aC (wrd ws (nxt ws 1)) 1 999,if dh (wrd ws (nxt ws (nxt ws 1))).data.toList then wrd ws (nxt ws (nxt ws 1)) else ⟨#[]⟩),0,0,0,[],[],[]⟩ (Y O 0 0) (Y O 0 0) (Y O 0 0) (Y O 0 0)))) (hR:aJ w w' br vw ws (nxt ws (nxt ws (nxt ws 1))) n (((false||!aj (wrd ws 1).data.toList 1 9)||!aj (wrd ws (nxt ws 1)).data.toList 1 999)||!dh (wrd ws (nxt ws (nxt ws 1))).data.toList)):eY w w' br vw ws n e:=by
 have hF:bI (ws.getD 0 Ze)=⟨#[99,110,111]⟩:=by unfold bI;rw[h0];rfl
 have hnil:∀ g∈([fun (s:ByteArray)=>aj s.data.toList 1 (9),fun (s:ByteArray)=>aj s.data.toList 1 (999),fun (s:ByteArray)=>dh s.data.toList]:List (ByteArray→Bool)),g ⟨#[]⟩=false:=by
  intro g hg;simp only[List.mem_cons,List.not_mem_nil,or_false] at hg;rcases hg with rfl|rfl|rfl
  all_goals first|exact eX (by omega)|rfl
 have hC:fE ws [fun (s:ByteArray)=>aj s.data.toList 1 (9),fun (s:ByteArray)=>aj s.data.toList 1 (999),fun (s:ByteArray)=>dh s.data.toList] 1→nxt ws 1=2∧nxt ws 2=3∧nxt ws 3=4:=by
  intro q;have:=((gN ws [fun (s:ByteArray)=>aj s.data.toList 1 (9),fun (s:ByteArray)=>aj s.data.toList 1 (999),fun (s:ByteArray)=>dh s.data.toList] 1 hnil h1).2 q).2
  have hl:4≤ws.length:=this
  refine⟨?_,?_,?_⟩ <;> (unfold nxt;rw[if_pos (by omega)])
 have hfit:dU ws ⟨#[99,110,111]⟩ n 3=true↔fE ws [fun (s:ByteArray)=>aj s.data.toList 1 (9),fun (s:ByteArray)=>aj s.data.toList 1 (999),fun (s:ByteArray)=>dh s.data.toList] 1∧false=false:=by
  have hS:dU ws ⟨#[99,110,111]⟩ n 3=(aj (wrd ws 1).data.toList 1 9&&(aj (wrd ws 2).data.toList 1 999&&(dh (wrd ws 3).data.toList&&true))):=rfl
  rw[hS];simp only[Bool.and_eq_true,and_true]
  constructor
  ·rintro⟨q1,q2,q3⟩
   have hA:fE ws [fun (s:ByteArray)=>aj s.data.toList 1 (9),fun (s:ByteArray)=>aj s.data.toList 1 (999),fun (s:ByteArray)=>dh s.data.toList] 1:=⟨q1,q2,q3,trivial⟩
   first|exact⟨hA,rfl⟩|exact hA
  ·intro hh;have hA:fE ws [fun (s:ByteArray)=>aj s.data.toList 1 (9),fun (s:ByteArray)=>aj s.data.toList 1 (999),fun (s:ByteArray)=>dh s.data.toList] 1:=by first|exact hh.1|exact hh
   obtain⟨q1,q2,q3,_⟩:=hA
   exact⟨q1,q2,q3⟩
 have HI:=iF (n:=n) ⟨#[99,110,111]⟩ [fun (s:ByteArray)=>aj s.data.toList 1 (9),fun (s:ByteArray)=>aj s.data.toList 1 (999),fun (s:ByteArray)=>dh s.data.toList] false hF (by decide) rfl hnil h1 hfit
 refine⟨⟨113,0,[],0,0,0,(aC (wrd ws 1) 1 9,aC (wrd ws (nxt ws 1)) 1 999,if dh (wrd ws (nxt ws (nxt ws 1))).data.toList then wrd ws (nxt ws (nxt ws 1)) else ⟨#[]⟩),0,0,0,[],[],[]⟩,Y O 0 0,Y O 0 0,Y O 0 0,Y O 0 0,_,_,he,⟨World.ownsRow_nil _ _ _ _,World.ownsRow_nil _ _ _ _,World.ownsRow_nil _ _ _ _,World.ownsRow_nil _ _ _ _⟩,hR,fO HI,fun hk=>?_⟩
 have hft:dU ws ⟨#[99,110,111]⟩ n 3=true:=by
  unfold jr at hk;rw[hF] at hk;simp only[Bool.and_eq_true] at hk;exact hk.2.2
 have hA:=(hfit.1 hft).1;obtain⟨n1,n2,n3⟩:=hC hA
 obtain⟨q1,q2,q3,_⟩:=hA
 refine⟨⟨_,h0,rfl⟩,fun hc=>by unfold qH at hc;rw[h0] at hc;exact absurd hc (by decide),fun hc=>?_,fun hc=>?_⟩
 ·show (aC (wrd ws 1) 1 9,aC (wrd ws (nxt ws 1)) 1 999,if dh (wrd ws (nxt ws (nxt ws 1))).data.toList=true then wrd ws (nxt ws (nxt ws 1)) else ⟨#[]⟩)=_
  rw[n1,n2,aV q1,aV q2,if_pos q3];rfl
 ·rw[h0] at hc;simp at hc
theorem cl_m {w:World} {w':World} {br:Nat} {vw:Value} {ws:List ByteArray} {n:Int} {e:Ending} (h1:1≤ws.length) (h0:(ws.getD 0 Ze).toList=[109]) (he:e=Zr (.agg (pmC ⟨109,0,[],aC (wrd ws (nxt ws (nxt ws 1))) 0 999,0,0,(aC (wrd ws 1) 1 9,aC (wrd ws (nxt ws 1)) 1 999,⟨#[114]⟩++qZ (wrd ws (nxt ws (nxt ws (nxt ws 1))))),0,0,0,[],[],[]⟩ (Y O 0 0) (Y O 0 0) (Y O 0 0) (Y O 0 0)))) (hR:aJ w w' br vw ws (nxt ws (nxt ws (nxt ws (nxt ws 1)))) n ((((false||!aj (wrd ws 1).data.toList 1 9)||!aj (wrd ws (nxt ws 1)).data.toList 1 999)||!aj (wrd ws (nxt ws (nxt ws 1))).data.toList 0 999)||!fF (wrd ws (nxt ws (nxt ws (nxt ws 1)))).data.toList)):eY w w' br vw ws n e:=by
 have hF:bI (ws.getD 0 Ze)=⟨#[99,110,118,119]⟩:=by unfold bI;rw[h0];rfl
 have hnil:∀ g∈([fun (s:ByteArray)=>aj s.data.toList 1 (9),fun (s:ByteArray)=>aj s.data.toList 1 (999),fun (s:ByteArray)=>aj s.data.toList 0 (999),fun (s:ByteArray)=>fF s.data.toList]:List (ByteArray→Bool)),g ⟨#[]⟩=false:=by
  intro g hg;simp only[List.mem_cons,List.not_mem_nil,or_false] at hg;rcases hg with rfl|rfl|rfl|rfl
  all_goals first|exact eX (by omega)|rfl
 have hC:fE ws [fun (s:ByteArray)=>aj s.data.toList 1 (9),fun (s:ByteArray)=>aj s.data.toList 1 (999),fun (s:ByteArray)=>aj s.data.toList 0 (999),fun (s:ByteArray)=>fF s.data.toList] 1→nxt ws 1=2∧nxt ws 2=3∧nxt ws 3=4∧nxt ws 4=5:=by
  intro q;have:=((gN ws [fun (s:ByteArray)=>aj s.data.toList 1 (9),fun (s:ByteArray)=>aj s.data.toList 1 (999),fun (s:ByteArray)=>aj s.data.toList 0 (999),fun (s:ByteArray)=>fF s.data.toList] 1 hnil h1).2 q).2
  have hl:5≤ws.length:=this
  refine⟨?_,?_,?_,?_⟩ <;> (unfold nxt;rw[if_pos (by omega)])
 have hfit:dU ws ⟨#[99,110,118,119]⟩ n 4=true↔fE ws [fun (s:ByteArray)=>aj s.data.toList 1 (9),fun (s:ByteArray)=>aj s.data.toList 1 (999),fun (s:ByteArray)=>aj s.data.toList 0 (999),fun (s:ByteArray)=>fF s.data.toList] 1∧false=false:=by
  have hS:dU ws ⟨#[99,110,118,119]⟩ n 4=(aj (wrd ws 1).data.toList 1 9&&(aj (wrd ws 2).data.toList 1 999&&(aj (wrd ws 3).data.toList 0 999&&(fF (wrd ws 4).data.toList&&true)))):=rfl
  rw[hS];simp only[Bool.and_eq_true,and_true]
  constructor
  ·rintro⟨q1,q2,q3,q4⟩
   have hA:fE ws [fun (s:ByteArray)=>aj s.data.toList 1 (9),fun (s:ByteArray)=>aj s.data.toList 1 (999),fun (s:ByteArray)=>aj s.data.toList 0 (999),fun (s:ByteArray)=>fF s.data.toList] 1:=⟨q1,q2,q3,q4,trivial⟩
   first|exact⟨hA,rfl⟩|exact hA
  ·intro hh;have hA:fE ws [fun (s:ByteArray)=>aj s.data.toList 1 (9),fun (s:ByteArray)=>aj s.data.toList 1 (999),fun (s:ByteArray)=>aj s.data.toList 0 (999),fun (s:ByteArray)=>fF s.data.toList] 1:=by first|exact hh.1|exact hh
   obtain⟨q1,q2,q3,q4,_⟩:=hA
   exact⟨q1,q2,q3,q4⟩
 have HI:=iF (n:=n) ⟨#[99,110,118,119]⟩ [fun (s:ByteArray)=>aj s.data.toList 1 (9),fun (s:ByteArray)=>aj s.data.toList 1 (999),fun (s:ByteArray)=>aj s.data.toList 0 (999),fun (s:ByteArray)=>fF s.data.toList] false hF (by decide) rfl hnil h1 hfit
 refine⟨⟨109,0,[],aC (wrd ws (nxt ws (nxt ws 1))) 0 999,0,0,(aC (wrd ws 1) 1 9,aC (wrd ws (nxt ws 1)) 1 999,⟨#[114]⟩++qZ (wrd ws (nxt ws (nxt ws (nxt ws 1))))),0,0,0,[],[],[]⟩,Y O 0 0,Y O 0 0,Y O 0 0,Y O 0 0,_,_,he,⟨World.ownsRow_nil _ _ _ _,World.ownsRow_nil _ _ _ _,World.ownsRow_nil _ _ _ _,World.ownsRow_nil _ _ _ _⟩,hR,fO HI,fun hk=>?_⟩
 have hft:dU ws ⟨#[99,110,118,119]⟩ n 4=true:=by
  unfold jr at hk;rw[hF] at hk;simp only[Bool.and_eq_true] at hk;exact hk.2.2
 have hA:=(hfit.1 hft).1;obtain⟨n1,n2,n3,n4⟩:=hC hA
 obtain⟨q1,q2,q3,q4,_⟩:=hA
 refine⟨⟨_,h0,rfl⟩,fun hc=>by unfold qH at hc;rw[h0] at hc;exact absurd hc (by decide),fun hc=>?_,fun hc=>?_⟩
 ·rw[h0] at hc;simp at hc
 ·show aC (wrd ws (nxt ws (nxt ws 1))) 0 999=_∧(aC (wrd ws 1) 1 9,aC (wrd ws (nxt ws 1)) 1 999,⟨#[114]⟩++qZ (wrd ws (nxt ws (nxt ws (nxt ws 1)))))=_
  rw[n1,n2,n3,aV q1,aV q2,aV q3];unfold qZ;rw[if_pos q4];exact⟨rfl,rfl⟩
theorem EK {ws:List ByteArray} (h1:1≤ws.length) {s:ByteArray} (h:0<(bI s).size):s.size=1∧(s.toList=[113]∨s.toList=[109]∨qH s=true):=by
 have hr:=EL h;have:s.toList.length=1:=by
  rcases hr with hr|hr|hr
  ·rw[hr];rfl
  ·rw[hr];rfl
  ·unfold qH at hr;simp only[Bool.or_eq_true,beq_iff_eq] at hr;rcases hr with ((((((((hr|hr)|hr)|hr)|hr)|hr)|hr)|hr)|hr)|hr <;> (rw[hr];rfl)
 rw[ByteArray.toList_eq] at this;exact⟨by simpa using this,hr⟩
theorem KN {ws:List ByteArray} {n:Int} (h1:1≤ws.length) (hF:¬0<(bI (ws.getD 0 Ze)).size):jr ws n=false:=by
 unfold jr;have:decide (0<(bI (ws.getD 0 Ze)).size)=false:=decide_eq_false hF
 rw[this];rfl
theorem IE {w:World} {w':World} {br:Nat} {vw:Value} {ws:List ByteArray} {n:Int} {e:Ending} (h1:1≤ws.length) {P:Pm} {vl vg vo vL:Value} {nx:Nat} (hF:¬0<(bI (ws.getD 0 Ze)).size) (he:e=Zr (.agg (pmC P vl vg vo vL))) (hO:uK w' (w.heap.size+2) P vl vg vo vL) (hR:aJ w w' br vw ws nx n true):eY w w' br vw ws n e :=
 ⟨P,vl,vg,vo,vL,nx,true,he,hO,hR,by rw[KN h1 hF];simp,fun h=>by rw[KN h1 hF] at h;simp at h⟩
end
theorem FV {t:ByteArray} {n m:Nat} (h:aQ t.data.toList (n:Int)=true) (hm:m<t.size):48≤t[m].toNat∧t[m].toNat<48+n:=by
 have e:t.data.toList.length=t.size:=by rw[Array.length_toList];rfl
 have h2:=pz h m (by omega)
 rw[atS hm,xZ] at h2
 split at h2
 ·omega
 ·omega
theorem Js {x:Int} (h1:0≤x) (h2:x≤255):IntKind.u8.wrap x=x:=by
 unfold IntKind.wrap;simp[IntKind.signed,IntKind.bits];omega
section
variable {N:Nat} {w w':World} {g:Nat} {K K':Kw} {V V':Kv}
def BK (w w':World) (e:Ending):Prop:=∃ (v:Value) (l:List ByteArray),e=Zr v∧w'.ownsRow w.heap.size 9 1 v l.length (l.map Value.string)∧(∀ s∈l,s.size≤1000)∧l.length≤20∧Below w.heap.size w w'
theorem Ch (h:KAt N w g K V) (hi:KI K) (gr:Gr K) (q:Nat) (hq:q<K.nds.length) :
  Calls Tryz.prog 112 #[Zp (some ⟨g,0,O⟩),I J q] w fun e w'=>qK w w' e:=by
 have z:=hi.sz;obtain⟨n,hn⟩:∃ n:Nat,K.n=n:=⟨K.n.toNat,by have:=z.n3;omega⟩
 have z3:=z.n3;have z1:=z.nds;have z7:=z.n7;have zd:=z.down;have zb:=z.begun;have z10:=z.opn;rw[hn] at z1 z7 z3 zd zb;have HC1:Hid (∀ w2,Below w.heap.size w w2→w2.cell? ⟨g,1,O⟩=some (I J n)):=fun w2 hw2=>by rw[← hn];exact (h.below hw2).cell 1
 obtain⟨aN,cN,hvN⟩:=au h.rN
 have HC2:Hid (∀ w2,Below w.heap.size w w2→w2.cell? ⟨g,2,O⟩=some (Y aN K.nds.length cN)):=fun w2 hw2=>by rw[← hvN];exact (h.below hw2).cell 2
 have HN:=ah (fun (w2:World) (hw2:Below w.heap.size w w2)=>KAt.ptr h hvN hw2)
 obtain⟨aG,cG,hvG⟩:=au h.rG
 have HC11:Hid (∀ w2,Below w.heap.size w w2→w2.cell? ⟨g,11,O⟩=some (Y aG K.groups.length cG)):=fun w2 hw2=>by rw[← hvG];exact (h.below hw2).cell 11
 have HG:=ah (fun (w2:World) (hw2:Below w.heap.size w w2)=>KAt.grp h hvG hw2)
 have HWh:=ah (fun (w2:World) (hw2:Below w.heap.size w w2)=>KAt.whr h hw2)
 have hni:=(hi.nod q _ (List.getElem?_eq_getElem hq)).ok;have hgr:=gr _ (List.getElem_mem hq);have hep:=hni.ep;have hvi:=hni.vi;have HGr:Hid (∀ (i:Nat) (hi:i<K.groups.length),aQ (K.groups[i]).data.toList K.n=true∧((K.groups[i]).size=3∨(K.groups[i]).size=5)):=fun i hl=>⟨hi.grps _ (List.getElem_mem hl),hi.gsz _ (List.getElem_mem hl)⟩
 have HQ:=ah (HWh.out w (Below.refl _ _) q hq);obtain⟨b1,o1,rfl,_,d1⟩:=HN.out w (Below.refl _ _) q hq
 have c2:=HC2.out w (Below.refl _ _);have j1:(0:Int)≤(q:Int):=by omega
 have j2:(q:Int)<(K.nds.length:Int):=by omega
 clear h z hi gr hni;generalize K.nds[q].b=bb at *;generalize K.nds[q].R.epoch=r1 at *;generalize K.nds[q].R.view=r2 at *;generalize K.nds[q].R.status=r3 at *;generalize K.nds[q].R.decided=r4 at *;by_cases h3:r3=3
 ·subst h3;clear hgr;go_enter Tryz.func112,Tryz.ntmps112;go_wp2_with fail;refine HQ.out.mono ?_;rintro e w1 ⟨rfl,nn,hw1⟩;have hb1:Below w.heap.size w w1:=by rw[hw1];exact below_drewN (Below.refl _ _) nn
  clear hw1;go_wp2_with fail;go_ret;exact⟨_,rfl,hb1⟩
 ·have hgr':r1<(K.groups.length:Int):=hgr.resolve_left h3
  have h3':(r3==3)=false:=beq_eq_false_iff_ne.2 h3
  obtain⟨ia,rfl⟩:=Int.eq_ofNat_of_zero_le hep.1
  obtain⟨vv,rfl⟩:=Int.eq_ofNat_of_zero_le hvi.1
  have hial:ia<K.groups.length:=by omega
  have hG2:=HGr.out ia hial;rw[hn] at hG2;have HG1:Hid (∀ w2,Below w.heap.size w w2→∃ b off,aG=some ⟨b,off,O⟩∧b<w2.heap.size∧w2.cell? ⟨b,off+ia,O⟩=some (Z K.groups[ia])):=fun w2 hw2=>HG.out w2 hw2 ia hial
  have j5:(ia:Int)<(K.groups.length:Int):=by omega
  clear hgr hgr' HG HGr h3;generalize K.groups[ia]=t at *;have hts:0<t.size:=by omega
  have hmod:=Nat.mod_lt vv hts;have hb:=FV hG2.1 hmod;have e1:IntKind.i64.wrap ((vv:Int).tmod (t.size:Int))=((vv % t.size:Nat):Int):=by
   rw[Int.tmod_eq_emod_of_nonneg (by omega)]
   rw[show ((vv:Int) % (t.size:Int))=((vv % t.size:Nat):Int) from (Int.natCast_emod vv t.size).symm]
   exact eB (by omega) (by omega)
  have e0:(vv:Int).tmod (t.size:Int)=((vv % t.size:Nat):Int):=by
   rw[Int.tmod_eq_emod_of_nonneg (by omega)]
   exact (Int.natCast_emod vv t.size).symm
  have e3:¬(t.size:Int)=0:=by omega
  have e7:¬t=Ze:=by intro hc;rw[hc] at hts;exact absurd hts (by decide)
  have HJ:Hid (∀ j:Nat,j<n→j<K.nds.length):=fun j hj=>by omega
  generalize vv % t.size=m at *;have e4:(0:Int)≤(m:Int):=by omega
  have e5:(m:Int)<(t.size:Int):=by omega
  obtain⟨j,hj⟩:∃ j:Nat,(t[m].toNat:Int)-48=j:=⟨t[m].toNat-48,by omega⟩
  have e8:IntKind.u8.wrap ((t[m].toNat:Int)-48)=(j:Int):=by rw[hj];exact Js (by omega) (by omega)
  have e9:IntKind.i64.wrap (j:Int)=(j:Int):=eB (by omega) (by omega)
  have e10:(0:Int)≤(j:Int):=by omega
  have e11:(j:Int)<(K.nds.length:Int):=by omega
  have hjl:j<K.nds.length:=by omega
  clear hG2 hb;go_enter Tryz.func112,Tryz.ntmps112;go_wp2_with fail;refine HQ.out.mono ?_;rintro e w1 ⟨rfl,nn,hw1⟩;have hb1:Below w.heap.size w w1:=by rw[hw1];exact below_drewN (Below.refl _ _) nn
  clear hw1;have c11:=HC11.out _ hb1;have c2':=HC2.out _ hb1
  obtain⟨b3,o3,rfl,_,d3⟩:=HG1.out _ hb1
  obtain⟨b4,o4,he4,_,d4⟩:=HN.out _ hb1 j hjl
  cases he4;have HQ2:Hid (∀ n2,Calls Tryz.prog 30 #[Zp (some ⟨K.nds[j].b,0,O⟩)] (w1.drewN n2) fun e w'=>e=Zr (.tuple #[I J K.nds[j].R.epoch,I J K.nds[j].R.view,I J K.nds[j].R.status,I J (K.nds[j].R.decided:Int)])∧∃ n,w'=(w1.drewN n2).drewN n):=fun n2=>HWh.out _ (below_drewN hb1 n2) j hjl
  clear HWh;generalize K.nds[j].b=bb2 at *;generalize K.nds[j].R.epoch=s1 at *;generalize K.nds[j].R.view=s2 at *;generalize K.nds[j].R.status=s3 at *;generalize K.nds[j].R.decided=s4 at *;go_wp2_with fail;go_quiet ((go_at_call 30;exact Calls.quiet_of (HQ2.out _)))
  go_wp2_with fail
  all_goals go_ret
  all_goals exact⟨_,rfl,below_drewN hb1 _⟩
end
section
variable {w w0:World} {b bl:Nat} {W F:List Nat} {R:Rp} {V:Rv} {P:Pm} {vl vg vo vL:Value}
theorem qJ (h:Rst w0 w b bl W F R) (hR:Ok R) (hP:dF w0 W F P vl vg vo vL) (hm:eF R.n P) (ho:R.out.length≤400000) (hk:P.kind=115) :
    Calls Tryz.prog 86 #[Zp (some ⟨b,0,O⟩),.agg (pmC P vl vg vo vL)] w fun e w'=>e=Zr (.tuple #[])∧Rst w0 w' b bl W F (R.aT P):=by
  obtain⟨W1,F1,V1,h1,k1,m1,p1⟩:=h.pm hP
  obtain⟨al,cl,ag,cg,ao,co,aL,cL,rfl,rfl,rfl,rfl⟩:=p1.cells
  have hbA:Below w.heap.size w (w.alloc (.cells (pqC P al cl ag cg ao co aL cL) 68)):=(Below.refl _ w).alloc (Nat.le_refl _) _
  have hMA:bB (w.alloc (.cells (pqC P al cl ag cg ao co aL cL) 68)) w.heap.size (pqC P al cl ag cg ao co aL cL):=⟨rfl,heap_alloc_new w _⟩
  have hPA:=p1.below hbA
  have hgW : w.heap.size ∉ W1 := fun hc => by have := h1.wlt _ hc; omega
  have h2:=h1.below hbA
  have HSA:=ah (Rst.refl h2)
  have HK0:Hid (∀ w' R',Rst (w.alloc (.cells (pqC P al cl ag cg ao co aL cL) 68)) w' b bl W1 F1 R'→Rst w0 w' b bl W F R'):=fun w' R' q=>Rst.step (k1.aF hbA) m1 q
  clear h p1 hP h1 hbA
  simp only[pmC]
  have HE:Hid (R.aT P=if R.view<P.view∨(P.view=R.view∧R.status=2) then ((R.begin_ P.view).over P.log).iC P.commit else if P.view<R.view then (if R.status==1 then R.tell P.frm else R) else if R.dS=false∧R.log.length<P.log.length then (R.over P.log).iC P.commit else if R.mem P.frm then R else R.bare P.frm 116):=rfl
  have HLg:=ah (Rp.nR hm (.inr (.inl hk)))
  have HGb:=ah (Rp.lG hR ⟨hm.v0,hm.v1⟩)
  have HGo:=ah (Rp.fC HGb.out.ok (l:=P.log) HLg.out)
  have HGp:=ah (Rp.fC hR (l:=P.log) HLg.out)
  clear hm hk
  by_cases q1:R.view<P.view
  · rw[if_pos (.inl q1)] at HE
    go_enter Tryz.func86,Tryz.ntmps86
    go_upto_region 1 with fail
    generalize w.alloc (.cells (pqC P al cl ag cg ao co aL cL) 68)=wA at *
    obtain⟨x0,x1,x2,x3,x4,x5,x6,x7,x8,x9,x10,x11,x12,x13,x14,xf⟩:=hMA.all
    have c3:=h2.c3
    have c5:=h2.c5
    go_quiet (fail)
    rename_i nq
    have HSq:=ah (HSA.out.drewN nq)
    have hMHSq:=hMA.kp HSq.out.kp hgW
    clear x0 x1 x2 x3 x4 x5 x6 x7 x8 x9 x10 x11 x12 x13 x14 xf c3 c5
    generalize wA.drewN nq=wq at *
    obtain⟨x0,x1,x2,x3,x4,x5,x6,x7,x8,x9,x10,x11,x12,x13,x14,xf⟩:=hMHSq.all
    go_wp2_with fail
    refine (yE HSq.out P.view).mono ?_
    rintro e w1 ⟨rfl,hs1⟩
    have HS1:=ah hs1
    clear hs1
    have hM1:=hMA.kp HS1.out.kp hgW
    obtain⟨_,_,_,_,_,_,_,_,_,_,_,_,_,_,_,_⟩:=hM1.all
    go_wp2_with fail
    refine (jk HS1.out hPA HLg.out).mono ?_
    rintro e w2 ⟨rfl,hs2⟩
    have HS2:=ah hs2
    clear hs2
    have hM2:=hMA.kp HS2.out.kp hgW
    obtain⟨_,_,_,_,_,_,_,_,_,_,_,_,_,_,_,_⟩:=hM2.all
    go_wp2_with fail
    refine (oh HS2.out HGo.out.ok P.commit (by show R.out.length ≤ 500000; omega)).mono ?_
    rintro e w3 ⟨rfl,hs3⟩
    have HS3:=ah hs3
    clear hs3
    have hM3:=hMA.kp HS3.out.kp hgW
    obtain⟨_,_,_,_,_,_,_,_,_,_,_,_,_,_,_,_⟩:=hM3.all
    go_wp2_with fail
    exact bodyPost_end (results_none rfl _ _ _) rfl ⟨rfl, by rw [HE.out]; exact HK0.out _ _ HS3.out⟩
  · cases q2:(P.view==R.view)
    · have HE1:Hid (R.aT P=if R.status==1 then R.tell P.frm else R):=by
        unfold Hid
        have : ¬ P.view = R.view := by simpa using q2
        rw [HE.out, if_neg (by omega), if_pos (by omega)]
      have q3 : P.view < R.view := by have : ¬ P.view = R.view := by simpa using q2
                                      omega
      clear HE
      cases hs:(R.status==1)
      · have HE : Hid (R.aT P = R) := by unfold Hid; rw [HE1.out, hs]; rfl
        clear HE1
        go_enter Tryz.func86,Tryz.ntmps86
        go_upto_region 1 with fail
        generalize w.alloc (.cells (pqC P al cl ag cg ao co aL cL) 68)=wA at *
        obtain⟨x0,x1,x2,x3,x4,x5,x6,x7,x8,x9,x10,x11,x12,x13,x14,xf⟩:=hMA.all
        have c3:=h2.c3
        have c5:=h2.c5
        go_quiet (fail)
        rename_i nq
        have HSq:=ah (HSA.out.drewN nq)
        have hMHSq:=hMA.kp HSq.out.kp hgW
        clear x0 x1 x2 x3 x4 x5 x6 x7 x8 x9 x10 x11 x12 x13 x14 xf c3 c5
        generalize wA.drewN nq=wq at *
        obtain⟨x0,x1,x2,x3,x4,x5,x6,x7,x8,x9,x10,x11,x12,x13,x14,xf⟩:=hMHSq.all
        obtain⟨_,_,VHSq,rHSq,_,_⟩:=HSq.out
        have c3:=rHSq.c3
        have c5:=rHSq.c5
        go_wp2_with fail
        go_quiet (fail)
        rename_i nq
        have HSr:=ah (HSq.out.drewN nq)
        have hMHSr:=hMA.kp HSr.out.kp hgW
        clear x0 x1 x2 x3 x4 x5 x6 x7 x8 x9 x10 x11 x12 x13 x14 xf c3 c5
        generalize wq.drewN nq=wr at *
        obtain⟨x0,x1,x2,x3,x4,x5,x6,x7,x8,x9,x10,x11,x12,x13,x14,xf⟩:=hMHSr.all
        obtain⟨_,_,VHSr,rHSr,_,_⟩:=HSr.out
        have c3:=rHSr.c3
        go_wp2_with fail
        exact bodyPost_end (results_none rfl _ _ _) rfl ⟨rfl, by rw [HE.out]; exact HK0.out _ _ HSr.out⟩
      · have HE : Hid (R.aT P = R.tell P.frm) := by unfold Hid; rw [HE1.out, hs]; rfl
        clear HE1
        go_enter Tryz.func86,Tryz.ntmps86
        go_upto_region 1 with fail
        generalize w.alloc (.cells (pqC P al cl ag cg ao co aL cL) 68)=wA at *
        obtain⟨x0,x1,x2,x3,x4,x5,x6,x7,x8,x9,x10,x11,x12,x13,x14,xf⟩:=hMA.all
        have c3:=h2.c3
        have c5:=h2.c5
        go_quiet (fail)
        rename_i nq
        have HSq:=ah (HSA.out.drewN nq)
        have hMHSq:=hMA.kp HSq.out.kp hgW
        clear x0 x1 x2 x3 x4 x5 x6 x7 x8 x9 x10 x11 x12 x13 x14 xf c3 c5
        generalize wA.drewN nq=wq at *
        obtain⟨x0,x1,x2,x3,x4,x5,x6,x7,x8,x9,x10,x11,x12,x13,x14,xf⟩:=hMHSq.all
        obtain⟨_,_,VHSq,rHSq,_,_⟩:=HSq.out
        have c3:=rHSq.c3
        have c5:=rHSq.c5
        go_wp2_with fail
        go_quiet (fail)
        rename_i nq
        have HSr:=ah (HSq.out.drewN nq)
        have hMHSr:=hMA.kp HSr.out.kp hgW
        clear x0 x1 x2 x3 x4 x5 x6 x7 x8 x9 x10 x11 x12 x13 x14 xf c3 c5
        generalize wq.drewN nq=wr at *
        obtain⟨x0,x1,x2,x3,x4,x5,x6,x7,x8,x9,x10,x11,x12,x13,x14,xf⟩:=hMHSr.all
        obtain⟨_,_,VHSr,rHSr,_,_⟩:=HSr.out
        have c3:=rHSr.c3
        go_wp2_with fail
        refine (qB HSr.out hR P.frm (by omega)).mono ?_
        rintro e w1 ⟨rfl,hs1⟩
        have HS1:=ah hs1
        clear hs1
        have hM1:=hMA.kp HS1.out.kp hgW
        obtain⟨_,_,_,_,_,_,_,_,_,_,_,_,_,_,_,_⟩:=hM1.all
        go_wp2_with fail
        exact bodyPost_end (results_none rfl _ _ _) rfl ⟨rfl, by rw [HE.out]; exact HK0.out _ _ HS1.out⟩
    · have q4 : P.view = R.view := by simpa using q2
      have q5 : ¬ P.view < R.view := by omega
      cases hs:(R.status==2)
      · have HE1:Hid (R.aT P=if R.dS=false∧R.log.length<P.log.length then (R.over P.log).iC P.commit else if R.mem P.frm then R else R.bare P.frm 116):=by
          unfold Hid
          have : ¬ R.status = 2 := by simpa using hs
          rw [HE.out, if_neg (by omega), if_neg (by omega)]
        clear HE q4
        cases hp:R.dS
        · by_cases q6:R.log.length<P.log.length
          · have HE : Hid (R.aT P = (R.over P.log).iC P.commit) := by unfold Hid; rw [HE1.out, if_pos ⟨hp, q6⟩]
            clear HE1
            have q6' : (R.log.length : Int) < (P.log.length : Int) := by omega
            go_enter Tryz.func86,Tryz.ntmps86
            go_upto_region 1 with fail
            generalize w.alloc (.cells (pqC P al cl ag cg ao co aL cL) 68)=wA at *
            obtain⟨x0,x1,x2,x3,x4,x5,x6,x7,x8,x9,x10,x11,x12,x13,x14,xf⟩:=hMA.all
            have c3:=h2.c3
            have c5:=h2.c5
            go_quiet (fail)
            rename_i nq
            have HSq:=ah (HSA.out.drewN nq)
            have hMHSq:=hMA.kp HSq.out.kp hgW
            clear x0 x1 x2 x3 x4 x5 x6 x7 x8 x9 x10 x11 x12 x13 x14 xf c3 c5
            generalize wA.drewN nq=wq at *
            obtain⟨x0,x1,x2,x3,x4,x5,x6,x7,x8,x9,x10,x11,x12,x13,x14,xf⟩:=hMHSq.all
            obtain⟨_,_,VHSq,rHSq,_,_⟩:=HSq.out
            have c3:=rHSq.c3
            have c5:=rHSq.c5
            go_wp2_with fail
            go_quiet (fail)
            rename_i nq
            have HSr:=ah (HSq.out.drewN nq)
            have hMHSr:=hMA.kp HSr.out.kp hgW
            clear x0 x1 x2 x3 x4 x5 x6 x7 x8 x9 x10 x11 x12 x13 x14 xf c3 c5
            generalize wq.drewN nq=wr at *
            obtain⟨x0,x1,x2,x3,x4,x5,x6,x7,x8,x9,x10,x11,x12,x13,x14,xf⟩:=hMHSr.all
            obtain⟨_,_,VHSr,rHSr,_,_⟩:=HSr.out
            have c9:=rHSr.c9
            obtain⟨aL9,cL9,hv9⟩:=rHSr.g9
            rw[hv9] at c9
            have HPq:=ah (fun n=>gU (rHSr.drewN n) hR)
            rw[hp] at HPq
            clear rHSr
            go_wp2_with fail
            go_quiet ((go_at_call 73;exact Calls.quiet_of (HPq.out _)))
            rename_i nq
            have HSt:=ah (HSr.out.drewN nq)
            have hMt:=hMA.kp HSt.out.kp hgW
            clear x0 x1 x2 x3 x4 x5 x6 x7 x8 x9 x10 x11 x12 x13 x14 xf c9
            generalize wr.drewN nq=wt at *
            obtain⟨x0,x1,x2,x3,x4,x5,x6,x7,x8,x9,x10,x11,x12,x13,x14,xf⟩:=hMt.all
            go_wp2_with fail
            refine (jk HSt.out hPA HLg.out).mono ?_
            rintro e w1 ⟨rfl,hs1⟩
            have HS1:=ah hs1
            clear hs1
            have hM1:=hMA.kp HS1.out.kp hgW
            obtain⟨_,_,_,_,_,_,_,_,_,_,_,_,_,_,_,_⟩:=hM1.all
            go_wp2_with fail
            refine (oh HS1.out HGp.out.ok P.commit (by show R.out.length ≤ 500000; omega)).mono ?_
            rintro e w2 ⟨rfl,hs2⟩
            have HS2:=ah hs2
            clear hs2
            have hM2:=hMA.kp HS2.out.kp hgW
            obtain⟨_,_,_,_,_,_,_,_,_,_,_,_,_,_,_,_⟩:=hM2.all
            go_wp2_with fail
            exact bodyPost_end (results_none rfl _ _ _) rfl ⟨rfl, by rw [HE.out]; exact HK0.out _ _ HS2.out⟩
          · have HE2 : Hid (R.aT P = if R.mem P.frm then R else R.bare P.frm 116) := by unfold Hid; rw [HE1.out, if_neg (fun q => q6 q.2)]
            clear HE1
            have q6' : ¬ (R.log.length : Int) < (P.log.length : Int) := by omega
            cases hmem:R.mem P.frm
            · have HE : Hid (R.aT P = R.bare P.frm 116) := by unfold Hid; rw [HE2.out, hmem]; rfl
              clear HE2
              go_enter Tryz.func86,Tryz.ntmps86
              go_upto_region 1 with fail
              generalize w.alloc (.cells (pqC P al cl ag cg ao co aL cL) 68)=wA at *
              obtain⟨x0,x1,x2,x3,x4,x5,x6,x7,x8,x9,x10,x11,x12,x13,x14,xf⟩:=hMA.all
              have c3:=h2.c3
              have c5:=h2.c5
              go_quiet (fail)
              rename_i nq
              have HSq:=ah (HSA.out.drewN nq)
              have hMHSq:=hMA.kp HSq.out.kp hgW
              clear x0 x1 x2 x3 x4 x5 x6 x7 x8 x9 x10 x11 x12 x13 x14 xf c3 c5
              generalize wA.drewN nq=wq at *
              obtain⟨x0,x1,x2,x3,x4,x5,x6,x7,x8,x9,x10,x11,x12,x13,x14,xf⟩:=hMHSq.all
              obtain⟨_,_,VHSq,rHSq,_,_⟩:=HSq.out
              have c3:=rHSq.c3
              have c5:=rHSq.c5
              go_wp2_with fail
              go_quiet (fail)
              rename_i nq
              have HSr:=ah (HSq.out.drewN nq)
              have hMHSr:=hMA.kp HSr.out.kp hgW
              clear x0 x1 x2 x3 x4 x5 x6 x7 x8 x9 x10 x11 x12 x13 x14 xf c3 c5
              generalize wq.drewN nq=wr at *
              obtain⟨x0,x1,x2,x3,x4,x5,x6,x7,x8,x9,x10,x11,x12,x13,x14,xf⟩:=hMHSr.all
              obtain⟨_,_,VHSr,rHSr,_,_⟩:=HSr.out
              have c9:=rHSr.c9
              obtain⟨aL9,cL9,hv9⟩:=rHSr.g9
              rw[hv9] at c9
              have HPq:=ah (fun n=>gU (rHSr.drewN n) hR)
              rw[hp] at HPq
              clear rHSr
              go_wp2_with fail
              go_quiet ((go_at_call 73;exact Calls.quiet_of (HPq.out _)))
              rename_i nq
              have HSt:=ah (HSr.out.drewN nq)
              have hMt:=hMA.kp HSt.out.kp hgW
              clear x0 x1 x2 x3 x4 x5 x6 x7 x8 x9 x10 x11 x12 x13 x14 xf c9
              generalize wr.drewN nq=wt at *
              obtain⟨x0,x1,x2,x3,x4,x5,x6,x7,x8,x9,x10,x11,x12,x13,x14,xf⟩:=hMt.all
              go_wp2_with fail
              have HM1:=ah (dH HSt.out hR P.frm)
              rw[hmem] at HM1
              refine (HM1.out).mono ?_
              rintro e w1 ⟨rfl,hs1⟩
              have HS1:=ah hs1
              clear hs1
              have hM1:=hMA.kp HS1.out.kp hgW
              obtain⟨_,_,_,_,_,_,_,_,_,_,_,_,_,_,_,_⟩:=hM1.all
              go_wp2_with fail
              refine (fu HS1.out hR P.frm 116 (by decide) (by omega)).mono ?_
              rintro e w2 ⟨rfl,hs2⟩
              have HS2:=ah hs2
              clear hs2
              have hM2:=hMA.kp HS2.out.kp hgW
              obtain⟨_,_,_,_,_,_,_,_,_,_,_,_,_,_,_,_⟩:=hM2.all
              go_wp2_with fail
              exact bodyPost_end (results_none rfl _ _ _) rfl ⟨rfl, by rw [HE.out]; exact HK0.out _ _ HS2.out⟩
            · have HE : Hid (R.aT P = R) := by unfold Hid; rw [HE2.out, hmem]; rfl
              clear HE2
              go_enter Tryz.func86,Tryz.ntmps86
              go_upto_region 1 with fail
              generalize w.alloc (.cells (pqC P al cl ag cg ao co aL cL) 68)=wA at *
              obtain⟨x0,x1,x2,x3,x4,x5,x6,x7,x8,x9,x10,x11,x12,x13,x14,xf⟩:=hMA.all
              have c3:=h2.c3
              have c5:=h2.c5
              go_quiet (fail)
              rename_i nq
              have HSq:=ah (HSA.out.drewN nq)
              have hMHSq:=hMA.kp HSq.out.kp hgW
              clear x0 x1 x2 x3 x4 x5 x6 x7 x8 x9 x10 x11 x12 x13 x14 xf c3 c5
              generalize wA.drewN nq=wq at *
              obtain⟨x0,x1,x2,x3,x4,x5,x6,x7,x8,x9,x10,x11,x12,x13,x14,xf⟩:=hMHSq.all
              obtain⟨_,_,VHSq,rHSq,_,_⟩:=HSq.out
              have c3:=rHSq.c3
              have c5:=rHSq.c5
              go_wp2_with fail
              go_quiet (fail)
              rename_i nq
              have HSr:=ah (HSq.out.drewN nq)
              have hMHSr:=hMA.kp HSr.out.kp hgW
              clear x0 x1 x2 x3 x4 x5 x6 x7 x8 x9 x10 x11 x12 x13 x14 xf c3 c5
              generalize wq.drewN nq=wr at *
              obtain⟨x0,x1,x2,x3,x4,x5,x6,x7,x8,x9,x10,x11,x12,x13,x14,xf⟩:=hMHSr.all
              obtain⟨_,_,VHSr,rHSr,_,_⟩:=HSr.out
              have c9:=rHSr.c9
              obtain⟨aL9,cL9,hv9⟩:=rHSr.g9
              rw[hv9] at c9
              have HPq:=ah (fun n=>gU (rHSr.drewN n) hR)
              rw[hp] at HPq
              clear rHSr
              go_wp2_with fail
              go_quiet ((go_at_call 73;exact Calls.quiet_of (HPq.out _)))
              rename_i nq
              have HSt:=ah (HSr.out.drewN nq)
              have hMt:=hMA.kp HSt.out.kp hgW
              clear x0 x1 x2 x3 x4 x5 x6 x7 x8 x9 x10 x11 x12 x13 x14 xf c9
              generalize wr.drewN nq=wt at *
              obtain⟨x0,x1,x2,x3,x4,x5,x6,x7,x8,x9,x10,x11,x12,x13,x14,xf⟩:=hMt.all
              go_wp2_with fail
              have HM1:=ah (dH HSt.out hR P.frm)
              rw[hmem] at HM1
              refine (HM1.out).mono ?_
              rintro e w1 ⟨rfl,hs1⟩
              have HS1:=ah hs1
              clear hs1
              have hM1:=hMA.kp HS1.out.kp hgW
              obtain⟨_,_,_,_,_,_,_,_,_,_,_,_,_,_,_,_⟩:=hM1.all
              go_wp2_with fail
              exact bodyPost_end (results_none rfl _ _ _) rfl ⟨rfl, by rw [HE.out]; exact HK0.out _ _ HS1.out⟩
        · have HE2 : Hid (R.aT P = if R.mem P.frm then R else R.bare P.frm 116) := by unfold Hid; rw [HE1.out, if_neg (fun q => by rw [hp] at q; exact absurd q.1 (by decide))]
          clear HE1
          cases hmem:R.mem P.frm
          · have HE : Hid (R.aT P = R.bare P.frm 116) := by unfold Hid; rw [HE2.out, hmem]; rfl
            clear HE2
            go_enter Tryz.func86,Tryz.ntmps86
            go_upto_region 1 with fail
            generalize w.alloc (.cells (pqC P al cl ag cg ao co aL cL) 68)=wA at *
            obtain⟨x0,x1,x2,x3,x4,x5,x6,x7,x8,x9,x10,x11,x12,x13,x14,xf⟩:=hMA.all
            have c3:=h2.c3
            have c5:=h2.c5
            go_quiet (fail)
            rename_i nq
            have HSq:=ah (HSA.out.drewN nq)
            have hMHSq:=hMA.kp HSq.out.kp hgW
            clear x0 x1 x2 x3 x4 x5 x6 x7 x8 x9 x10 x11 x12 x13 x14 xf c3 c5
            generalize wA.drewN nq=wq at *
            obtain⟨x0,x1,x2,x3,x4,x5,x6,x7,x8,x9,x10,x11,x12,x13,x14,xf⟩:=hMHSq.all
            obtain⟨_,_,VHSq,rHSq,_,_⟩:=HSq.out
            have c3:=rHSq.c3
            have c5:=rHSq.c5
            go_wp2_with fail
            go_quiet (fail)
            rename_i nq
            have HSr:=ah (HSq.out.drewN nq)
            have hMHSr:=hMA.kp HSr.out.kp hgW
            clear x0 x1 x2 x3 x4 x5 x6 x7 x8 x9 x10 x11 x12 x13 x14 xf c3 c5
            generalize wq.drewN nq=wr at *
            obtain⟨x0,x1,x2,x3,x4,x5,x6,x7,x8,x9,x10,x11,x12,x13,x14,xf⟩:=hMHSr.all
            obtain⟨_,_,VHSr,rHSr,_,_⟩:=HSr.out
            have c9:=rHSr.c9
            obtain⟨aL9,cL9,hv9⟩:=rHSr.g9
            rw[hv9] at c9
            have HPq:=ah (fun n=>gU (rHSr.drewN n) hR)
            rw[hp] at HPq
            clear rHSr
            go_wp2_with fail
            go_quiet ((go_at_call 73;exact Calls.quiet_of (HPq.out _)))
            rename_i nq
            have HSt:=ah (HSr.out.drewN nq)
            have hMt:=hMA.kp HSt.out.kp hgW
            clear x0 x1 x2 x3 x4 x5 x6 x7 x8 x9 x10 x11 x12 x13 x14 xf c9
            generalize wr.drewN nq=wt at *
            obtain⟨x0,x1,x2,x3,x4,x5,x6,x7,x8,x9,x10,x11,x12,x13,x14,xf⟩:=hMt.all
            go_wp2_with fail
            have HM1:=ah (dH HSt.out hR P.frm)
            rw[hmem] at HM1
            refine (HM1.out).mono ?_
            rintro e w1 ⟨rfl,hs1⟩
            have HS1:=ah hs1
            clear hs1
            have hM1:=hMA.kp HS1.out.kp hgW
            obtain⟨_,_,_,_,_,_,_,_,_,_,_,_,_,_,_,_⟩:=hM1.all
            go_wp2_with fail
            refine (fu HS1.out hR P.frm 116 (by decide) (by omega)).mono ?_
            rintro e w2 ⟨rfl,hs2⟩
            have HS2:=ah hs2
            clear hs2
            have hM2:=hMA.kp HS2.out.kp hgW
            obtain⟨_,_,_,_,_,_,_,_,_,_,_,_,_,_,_,_⟩:=hM2.all
            go_wp2_with fail
            exact bodyPost_end (results_none rfl _ _ _) rfl ⟨rfl, by rw [HE.out]; exact HK0.out _ _ HS2.out⟩
          · have HE : Hid (R.aT P = R) := by unfold Hid; rw [HE2.out, hmem]; rfl
            clear HE2
            go_enter Tryz.func86,Tryz.ntmps86
            go_upto_region 1 with fail
            generalize w.alloc (.cells (pqC P al cl ag cg ao co aL cL) 68)=wA at *
            obtain⟨x0,x1,x2,x3,x4,x5,x6,x7,x8,x9,x10,x11,x12,x13,x14,xf⟩:=hMA.all
            have c3:=h2.c3
            have c5:=h2.c5
            go_quiet (fail)
            rename_i nq
            have HSq:=ah (HSA.out.drewN nq)
            have hMHSq:=hMA.kp HSq.out.kp hgW
            clear x0 x1 x2 x3 x4 x5 x6 x7 x8 x9 x10 x11 x12 x13 x14 xf c3 c5
            generalize wA.drewN nq=wq at *
            obtain⟨x0,x1,x2,x3,x4,x5,x6,x7,x8,x9,x10,x11,x12,x13,x14,xf⟩:=hMHSq.all
            obtain⟨_,_,VHSq,rHSq,_,_⟩:=HSq.out
            have c3:=rHSq.c3
            have c5:=rHSq.c5
            go_wp2_with fail
            go_quiet (fail)
            rename_i nq
            have HSr:=ah (HSq.out.drewN nq)
            have hMHSr:=hMA.kp HSr.out.kp hgW
            clear x0 x1 x2 x3 x4 x5 x6 x7 x8 x9 x10 x11 x12 x13 x14 xf c3 c5
            generalize wq.drewN nq=wr at *
            obtain⟨x0,x1,x2,x3,x4,x5,x6,x7,x8,x9,x10,x11,x12,x13,x14,xf⟩:=hMHSr.all
            obtain⟨_,_,VHSr,rHSr,_,_⟩:=HSr.out
            have c9:=rHSr.c9
            obtain⟨aL9,cL9,hv9⟩:=rHSr.g9
            rw[hv9] at c9
            have HPq:=ah (fun n=>gU (rHSr.drewN n) hR)
            rw[hp] at HPq
            clear rHSr
            go_wp2_with fail
            go_quiet ((go_at_call 73;exact Calls.quiet_of (HPq.out _)))
            rename_i nq
            have HSt:=ah (HSr.out.drewN nq)
            have hMt:=hMA.kp HSt.out.kp hgW
            clear x0 x1 x2 x3 x4 x5 x6 x7 x8 x9 x10 x11 x12 x13 x14 xf c9
            generalize wr.drewN nq=wt at *
            obtain⟨x0,x1,x2,x3,x4,x5,x6,x7,x8,x9,x10,x11,x12,x13,x14,xf⟩:=hMt.all
            go_wp2_with fail
            have HM1:=ah (dH HSt.out hR P.frm)
            rw[hmem] at HM1
            refine (HM1.out).mono ?_
            rintro e w1 ⟨rfl,hs1⟩
            have HS1:=ah hs1
            clear hs1
            have hM1:=hMA.kp HS1.out.kp hgW
            obtain⟨_,_,_,_,_,_,_,_,_,_,_,_,_,_,_,_⟩:=hM1.all
            go_wp2_with fail
            exact bodyPost_end (results_none rfl _ _ _) rfl ⟨rfl, by rw [HE.out]; exact HK0.out _ _ HS1.out⟩
      · have hs2 : R.status = 2 := by simpa using hs
        rw[if_pos (.inr ⟨q4,hs2⟩)] at HE
        clear hs2 q4
        go_enter Tryz.func86,Tryz.ntmps86
        go_upto_region 1 with fail
        generalize w.alloc (.cells (pqC P al cl ag cg ao co aL cL) 68)=wA at *
        obtain⟨x0,x1,x2,x3,x4,x5,x6,x7,x8,x9,x10,x11,x12,x13,x14,xf⟩:=hMA.all
        have c3:=h2.c3
        have c5:=h2.c5
        go_quiet (fail)
        rename_i nq
        have HSq:=ah (HSA.out.drewN nq)
        have hMHSq:=hMA.kp HSq.out.kp hgW
        clear x0 x1 x2 x3 x4 x5 x6 x7 x8 x9 x10 x11 x12 x13 x14 xf c3 c5
        generalize wA.drewN nq=wq at *
        obtain⟨x0,x1,x2,x3,x4,x5,x6,x7,x8,x9,x10,x11,x12,x13,x14,xf⟩:=hMHSq.all
        go_wp2_with fail
        refine (yE HSq.out P.view).mono ?_
        rintro e w1 ⟨rfl,hs1⟩
        have HS1:=ah hs1
        clear hs1
        have hM1:=hMA.kp HS1.out.kp hgW
        obtain⟨_,_,_,_,_,_,_,_,_,_,_,_,_,_,_,_⟩:=hM1.all
        go_wp2_with fail
        refine (jk HS1.out hPA HLg.out).mono ?_
        rintro e w2 ⟨rfl,hs2⟩
        have HS2:=ah hs2
        clear hs2
        have hM2:=hMA.kp HS2.out.kp hgW
        obtain⟨_,_,_,_,_,_,_,_,_,_,_,_,_,_,_,_⟩:=hM2.all
        go_wp2_with fail
        refine (oh HS2.out HGo.out.ok P.commit (by show R.out.length ≤ 500000; omega)).mono ?_
        rintro e w3 ⟨rfl,hs3⟩
        have HS3:=ah hs3
        clear hs3
        have hM3:=hMA.kp HS3.out.kp hgW
        obtain⟨_,_,_,_,_,_,_,_,_,_,_,_,_,_,_,_⟩:=hM3.all
        go_wp2_with fail
        exact bodyPost_end (results_none rfl _ _ _) rfl ⟨rfl, by rw [HE.out]; exact HK0.out _ _ HS3.out⟩
end
section
variable {N:Nat} {w w':World} {g:Nat} {K K':Kw} {V V':Kv}
theorem Gc (h:KAt N w g K V) (z:KSz K) (hlog:∀ x∈K.nds,x.R.log.length≤1000) :
    Calls Tryz.prog 67 #[Zp (some ⟨g,0,O⟩)] w fun e w'=>qK w w' e:=by
  obtain ⟨n, hn⟩ : ∃ n : Nat, K.n = n := ⟨K.n.toNat, by have := z.n3; omega⟩
  have z1:=z.nds
  have z7:=z.n7
  have z10:=z.opn
  rw[hn] at z1 z7
  obtain⟨aN,cN,hvN⟩:=au h.rN
  obtain⟨aO,cO,hvO⟩:=au h.rO
  have HO:=ah (fun (w2:World) (hw2:Below w.heap.size w w2)=>KAt.opn h hvO hw2)
  have HN:=ah (fun (w2:World) (hw2:Below w.heap.size w w2)=>KAt.ptr h hvN hw2)
  have HC1 : Hid (∀ w2, Below w.heap.size w w2 → w2.cell? ⟨g, 1, O⟩ = some (I J n)) := fun w2 hw2 => by rw [← hn]; exact (h.below hw2).cell 1
  have HC2 : Hid (∀ w2, Below w.heap.size w w2 → w2.cell? ⟨g, 2, O⟩ = some (Y aN K.nds.length cN)) := fun w2 hw2 => by rw [← hvN]; exact (h.below hw2).cell 2
  have HC5:Hid (∀ w2,Below w.heap.size w w2→w2.cell? ⟨g,5,O⟩=some (I J K.lives)):=fun w2 hw2=>(h.below hw2).cell 5
  have HC6:Hid (∀ w2,Below w.heap.size w w2→w2.cell? ⟨g,6,O⟩=some (I J K.top)):=fun w2 hw2=>(h.below hw2).cell 6
  have HC9 : Hid (∀ w2, Below w.heap.size w w2 → w2.cell? ⟨g, 9, O⟩ = some (Y aO K.opn.length cO)) := fun w2 hw2 => by rw [← hvO]; exact (h.below hw2).cell 9
  have HLg:Hid (∀ w2,Below w.heap.size w w2→∀ k,(hk:k<K.nds.length)→Calls Tryz.prog 104 #[Zp (some ⟨K.nds[k].b,0,O⟩)] w2 fun e w'=>∃ (a:Option Addr) (m c:Nat),e=Zr (Y a m c)∧m≤1000∧Below w2.heap.size w2 w'):=fun w2 hw2 k hk=>by
    refine (qy (h.node k hk hw2) (hlog _ (List.getElem_mem hk))).mono ?_
    rintro e w3 ⟨v,rfl,ho,hb⟩
    obtain⟨a,c,rfl⟩:=au ho
    exact⟨a,_,c,rfl,hlog _ (List.getElem_mem hk),hb⟩
  clear h z hlog
  go_enter Tryz.func67,Tryz.ntmps67
  go_wp2_with fail
  go_loopw [3,4] (fun m i wr=>∃ k c:Nat,c≤k∧1≤k∧k≤10∧i=I J k∧m=I J c∧Below w.heap.size w wr) (fun _ i _=>10-(intOf i).toNat)
  case atStart => exact ⟨1, 0, by omega, by omega, by omega, rfl, rfl, Below.refl _ _⟩
  case round =>
    obtain⟨k,c,hck,hk1,hk,rfl,rfl,hbw⟩:=hrel
    by_cases hlt:k<10
    · obtain ⟨b2, o2, rfl, hb2, d2⟩ := HO.out _ hbw k (by omega)
      have c9:=HC9.out _ hbw
      have j1 : (0 : Int) ≤ (k : Int) := by omega
      have j3 : (k : Int) < (K.opn.length : Int) := by omega
      have j4 : (k : Int) ≤ 9 := by omega
      generalize K.opn[k]=ov at *
      by_cases hv:(0:Int)≤ov
      · go_wp2_with fail
        go_roundw
        case rel => exact ⟨k + 1, c + 1, by omega, by omega, by omega, by go_num, by go_num, hbw⟩
        case measure=>simp[intOf];omega
      · go_wp2_with fail
        go_roundw
        case rel => exact ⟨k + 1, c, by omega, by omega, by omega, by go_num, rfl, hbw⟩
        case measure=>simp[intOf];omega
    · have j4 : ¬ (k : Int) ≤ 9 := by omega
      obtain⟨wL,HwL⟩:∃ x,x=wr:=⟨_,rfl⟩
      subst HwL
      go_wp2_with fail
      go_loopw [5] (fun i wr=>∃ k:Nat,k≤n∧i=I J k∧Below w.heap.size w wr) (fun i _=>n-(intOf i).toNat)
      case atStart=>exact⟨0,Nat.zero_le _,rfl,hbw⟩
      case round =>
        obtain⟨q,hq,rfl,hbv⟩:=hrel
        have c1:=HC1.out _ hbv
        by_cases hlq:q<n
        · obtain ⟨b2, o2, rfl, hb2, d2⟩ := HN.out _ hbv q (by omega)
          have c2:=HC2.out _ hbv
          have j1 : (0 : Int) ≤ (q : Int) := by omega
          have j3 : (q : Int) < (K.nds.length : Int) := by omega
          have j5 : (q : Int) < (n : Int) := by omega
          have HQ := ah (HLg.out _ hbv q (by omega))
          generalize K.nds[q].b=bb at *
          go_wp2_with fail
          refine HQ.out.mono ?_
          rintro e w3 ⟨al,ml,cl,rfl,hml,hb3⟩
          have hb3':Below w.heap.size w w3:=hbv.trans (hb3.mono hbv.size)
          go_wp2_with fail
          all_goals first
            | (go_ret;exact⟨_,rfl,hb3'⟩)
            | (go_roundw
               case rel => exact ⟨q + 1, by omega, by go_num, hb3'⟩
               case measure=>simp[intOf];omega)
        · have c5:=HC5.out _ hbv
          have c6:=HC6.out _ hbv
          have j5 : ¬ (q : Int) < (n : Int) := by omega
          by_cases ht:K.top≤903
          · have ht':decide (K.top≤903)=true:=decide_eq_true ht
            have nw : IntKind.i64.wrap (999 - (n : Int)) = 999 - (n : Int) := eB (by omega) (by omega)
            by_cases hl:K.lives<999-(n:Int)
            · have hl':decide (K.lives<999-(n:Int))=true:=decide_eq_true hl
              go_wp2_with fail
              go_quiet (fail)
              have hbq:=below_drewN hbv nq
              go_wp2_with fail
              go_ret
              exact⟨_,rfl,hbq⟩
            · have hl':decide (K.lives<999-(n:Int))=false:=decide_eq_false hl
              go_wp2_with fail
              go_quiet (fail)
              have hbq:=below_drewN hbv nq
              go_wp2_with fail
              go_ret
              exact⟨_,rfl,hbq⟩
          · have ht':decide (K.top≤903)=false:=decide_eq_false ht
            go_wp2_with fail
            go_quiet (fail)
            have hbq:=below_drewN hbv nq
            go_wp2_with fail
            go_ret
            exact⟨_,rfl,hbq⟩
end
end Go.Proofs.YtajakaadgagejaaGreatDoor
