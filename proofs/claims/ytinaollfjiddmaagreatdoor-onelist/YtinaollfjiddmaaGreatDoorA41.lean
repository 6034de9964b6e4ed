import Derived.Test.YtinaollfjiddmaaGreatDoorA40
set_option maxRecDepth 100000
set_option maxHeartbeats 8000000
set_option linter.all false
namespace Go.Proofs.YtinaollfjiddmaaGreatDoor
open Go.Value renaming int→I,slice→Y,string→Z,pointer→Zp
open Go.Ending renaming returned→Zr
open _root_.ByteArray renaming empty→Ze
open Go.IntKind renaming i64→J
open Option renaming none→O
open Go.RowKit
section
open Go.RowKit Go.ChangeShapes Go.WideShapes Go.ChangeAt
theorem yC (H:Type) (enc:TypeId×Value→H) (W:World) (base:Nat) (args:Array Value) (ds gs:List (DataW H)) (before:List MemPlace)
  (hval:∀ (j:Nat) t v,Tryz.f3.params[j]? = some t→args[j]? = some v→Value.okWide Tryz.prog W .any base t v)
  (hW:DataW.Whole enc Tryz.prog Tryz.f3.params.toList Rows.oneListSpec.vars false W args.toList ds gs before) (hw:(DataW.weightsEach Tryz.prog (Tryz.f3.params.toList++(OpenSpec.ofChange Rows.oneListSpec).bare.plain.varTypes Tryz.prog) (ds++gs)).all (·≤reachBytes)=true) (hL:laidMetH Tryz.prog Rows.oneListRow.laid W) :
  Calls Tryz.prog 3 args W fun e W'=>∃ v,e=Zr v∧Rows.oneListSpec.post enc Tryz.prog Tryz.f3 false true false false W args v W':=by
 have b:=hW
 obtain⟨p,q,d,r,rfl,s,u⟩:=hW
 have k:DataW.TrodAll enc Tryz.prog W 0 (fun _=>true) true Tryz.f3.params.toList args.toList ds p:=d
 rw[Tryz.params3] at k hval hw;obtain⟨v0,m,rfl,rfl,n⟩:=trodAll_one k
 obtain⟨rfl,rfl⟩:=trodVars_none r
 obtain⟨a,len,w,rfl⟩:=okWide_slice Tryz.underlying22 (hval 0 22 v0 rfl rfl)
 have f:=n;obtain⟨o,z⟩:=n
 obtain⟨l,A,B,C⟩:=Qv (x:=(m,p)) z
 have c:=QF hL;have g:∀ y∈p,y.block<W.heap.size:=fun y i=>by simpa using b.lt y (by simpa using i)
 refine (Di l _ A c c.lt (fun y i=>Hr hw (C y i)) B (Gv c c.lt)).mono fun e W' ⟨he,hb⟩=>?_
 subst he;exact⟨_,rfl,[m],[],_,[],p,[],b,trodAll_mk1 (shut_bool Tryz.underlying4 _),trodAll_mk1 (Below.trod laidOut (by kernel_rfl) (of_decide_eq_true (by kernel_rfl)) f hb g),rfl,hb.frame _,fun h=>by cases h⟩
theorem Dz (os:Os) {H:Type} (enc:TypeId×Value→H):∃ places,DataW.whole enc Tryz.prog ((World.doorLaid Tryz.prog 400 os).forCall (fun _ _=>0) ⟨#[],#[Y O 0 0],[]⟩).memory Tryz.f3.params.toList Rows.oneListSpec.vars false #[Y O 0 0].toList 8=some ([.nil],[],places) :=
 ⟨[],by kernel_rfl⟩
theorem Bh (os:Os) (started:os.Started) (H:Type) (enc:TypeId×Value→H) (F:Stop.Interp) :
  ReturnsInHanded {} Tryz.checked os 3 .any ((OpenSpec.ofChange Rows.oneListSpec).preRow enc Tryz.prog Tryz.f3 Rows.oneListRow.domain false Rows.oneListRow.laid) (((OpenSpec.ofChange Rows.oneListSpec).at F).post enc Tryz.prog Tryz.f3 false true false false):=by
 obtain⟨a,b⟩:=Dz os enc
 refine returnsInHanded_of_row (C:=Tryz.checked) (s:=OpenSpec.ofChange Rows.oneListSpec) own started (by kernel_rfl) Tryz.func3
  (witness_row_at (enc:=enc) (C:=Tryz.checked) false (World.doorLaid Tryz.prog 400 os) #[Y O 0 0] rfl (by kernel_rfl) (by kernel_rfl) (by kernel_rfl)
   (OpenSpec.preRow_of_cond 8 b (by kernel_rfl) (fun k c=>by cases c) (by kernel_rfl) (Ls os))) ?_
 intro W base args ds gs before hval hW _ _ hw hL _ _;exact yC H enc W base args ds gs before hval hW hw hL
theorem Dw:Rows.OneListSaid :=
 OpenClaim.holds_of_cond 3 Tryz.f3 rfl rfl rfl rfl rfl rfl rfl ⟨rfl,rfl,rfl,rfl,rfl⟩ rfl rfl rfl rfl rfl (by kernel_rfl) Tryz.func3 (by kernel_rfl)
  (of_decide_eq_true (by kernel_rfl)) (by unfold Func.isWrapper;first|(rw[if_pos (by decide +kernel)];kernel_rfl)|(rw[if_neg (by decide +kernel)];exact⟨rfl,rfl⟩))
  (fun c a H b _ F=>by rw[OpenClaim.pre_eq_preRow];exact Bh c a H b F)
theorem Dy (f:FuncId) (fn:Func) (hf:Tryz.pinned.checked.prog.funcNamed "quorum/quorumkeep.OneList" = some f) (hfn:Tryz.pinned.checked.prog.funcs[f]? = some fn) :
  false=Tryz.pinned.checked.prog.looks []∧∀ (j:Nat) t,fn.params[j]? = some t→Tryz.pinned.checked.prog.wantsStandIn t=false:=by
 obtain rfl:f=3:=Option.some.inj ((show Tryz.prog.funcNamed "quorum/quorumkeep.OneList" = some 3 by kernel_rfl).symm.trans hf) |>.symm
 obtain rfl:fn=Tryz.f3:=(Option.some.inj (Tryz.func3.symm.trans hfn)).symm;refine⟨by kernel_rfl,fun j t a=>?_⟩
 rw[Tryz.params3] at a;obtain rfl:t=22:=by simpa using Array.mem_of_getElem? a
 exact (show Tryz.prog.wantsStandIn 22=false by kernel_rfl)
theorem onelist_card:Rows.OneListCardSaid :=
 Claim7.holds_tied_plain_at .later [] _ _ _ _ Dw (fun _ h=>by cases h) (by kernel_rfl) (fun _ h=>by cases h) oneList_row_tie rfl ⟨rfl,rfl⟩ (by kernel_rfl) rfl Dy (by kernel_rfl)
#print axioms onelist_card
end
end Go.Proofs.YtinaollfjiddmaaGreatDoor
