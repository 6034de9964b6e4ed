/-
  DERIVED. GIVEN WITH THE SEED: THE CARDS: each row of YtinaollfjiddmaaGreatDoorRows.lean that lists a variable, with what it lists TIED to the program's text (the seventh form; the later family's looks); each row that meets fmt, with fmt's text TOLD by the authors' own Lean function (tested against real Go, not proved from fmt's source: count such statements apart). THE CARD IS WHAT COUNTS. Prove the row's statement (the work); the ties are given (YtinaollfjiddmaaGreatDoorTie.lean); close each card by the builder's one call (the guide's Derived/Test/ToyasCard.lean, 'card_holds'). Laid BY PROGRAM, IN A SANDBOX (cutbox-door.mjs). By AI agents, Wed Nov 11 2026. No macro, syntax, notation, axiom, sorry.
-/
import Derived.Test.YtinaollfjiddmaaGreatDoorRows
import GoSem.ClaimSeven
namespace Go.Proofs.YtinaollfjiddmaaGreatDoor
namespace Rows

/-- THE TIED CARD OF 'quorumkeep.OneList'. -/
def oneListCard : Claim7 := { stood := { row := oneListRow, standIns := [], harness := (true, "10dc4ecc5540cd4c2219152c4956b3b5f0a48bcee49aa2634b10c203a0ecf19b"), looks := false }, kinds := [], alts := [], laidByText := true, laidKinds := [.data, .data, .data], laidTests := true, laidLooks := .later }
def OneListCardSaid : Prop := Claim7.holds Tryz.pinned (.plain (OpenSpec.ofChange oneListSpec)) oneListCard

/-- THE SECOND FORM's CARD OF 'quorumkeep.OneList'. -/
def oneListUptoCard : Claim7 := { stood := { row := oneListUptoRow, standIns := [], harness := (true, "10dc4ecc5540cd4c2219152c4956b3b5f0a48bcee49aa2634b10c203a0ecf19b"), looks := false }, kinds := [], alts := [], laidByText := true, laidKinds := [.data, .data, .data], laidTests := true, laidLooks := .later }
def OneListUptoCardSaid : Prop := Claim7.holds Tryz.pinned (.plain (OpenSpec.upto oneListSpec)) oneListUptoCard
end Rows
end Go.Proofs.YtinaollfjiddmaaGreatDoor
