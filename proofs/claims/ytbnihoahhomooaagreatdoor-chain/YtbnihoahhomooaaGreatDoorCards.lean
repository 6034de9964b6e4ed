/-
  DERIVED. GIVEN WITH THE SEED: THE CARDS: each row of YtbnihoahhomooaaGreatDoorRows.lean that lists a variable, with what it lists TIED to the program's text (the seventh form; the later family's looks); each row that meets fmt, with fmt's text TOLD by the authors' own Lean function (tested against real Go, not proved from fmt's source: count such statements apart). THE CARD IS WHAT COUNTS. Prove the row's statement (the work); the ties are given (YtbnihoahhomooaaGreatDoorTie.lean); close each card by the builder's one call (the guide's Derived/Test/ToyasCard.lean, 'card_holds'). Laid BY PROGRAM, IN A SANDBOX (cutbox-door.mjs). By AI agents, Wed Nov 11 2026. No macro, syntax, notation, axiom, sorry.
-/
import Derived.Test.YtbnihoahhomooaaGreatDoorRows
import GoSem.ClaimSeven
namespace Go.Proofs.YtbnihoahhomooaaGreatDoor
namespace Rows

/-- THE TIED CARD OF 'quorumkeep.NothingLost'. -/
def nothingLostCard : Claim7 := { stood := { row := nothingLostRow, standIns := [], harness := (true, "9238c40c5f635f2b63a4120f5956f383b205f580164abe6c5d29451c8d2226b6"), looks := false }, kinds := [], alts := [], laidByText := true, laidKinds := [.data, .data, .data], laidTests := true, laidLooks := .later }
def NothingLostCardSaid : Prop := Claim7.holds Tryz.pinned (.plain (OpenSpec.ofChange nothingLostSpec)) nothingLostCard

/-- THE TIED CARD OF 'quorumkeep.Chain'. -/
def chainCard : Claim7 := { stood := { row := chainRow, standIns := [], harness := (true, "9238c40c5f635f2b63a4120f5956f383b205f580164abe6c5d29451c8d2226b6"), looks := false }, kinds := [], alts := [], laidByText := true, laidKinds := [.data, .data, .data], laidTests := true, laidLooks := .later }
def ChainCardSaid : Prop := Claim7.holds Tryz.pinned (.plain (OpenSpec.ofChange chainSpec)) chainCard

/-- THE SECOND FORM's CARD OF 'quorumkeep.NothingLost'. -/
def nothingLostUptoCard : Claim7 := { stood := { row := nothingLostUptoRow, standIns := [], harness := (true, "9238c40c5f635f2b63a4120f5956f383b205f580164abe6c5d29451c8d2226b6"), looks := false }, kinds := [], alts := [], laidByText := true, laidKinds := [.data, .data, .data], laidTests := true, laidLooks := .later }
def NothingLostUptoCardSaid : Prop := Claim7.holds Tryz.pinned (.plain (OpenSpec.upto nothingLostSpec)) nothingLostUptoCard

/-- THE SECOND FORM's CARD OF 'quorumkeep.Chain'. -/
def chainUptoCard : Claim7 := { stood := { row := chainUptoRow, standIns := [], harness := (true, "9238c40c5f635f2b63a4120f5956f383b205f580164abe6c5d29451c8d2226b6"), looks := false }, kinds := [], alts := [], laidByText := true, laidKinds := [.data, .data, .data], laidTests := true, laidLooks := .later }
def ChainUptoCardSaid : Prop := Claim7.holds Tryz.pinned (.plain (OpenSpec.upto chainSpec)) chainUptoCard
end Rows
end Go.Proofs.YtbnihoahhomooaaGreatDoor
