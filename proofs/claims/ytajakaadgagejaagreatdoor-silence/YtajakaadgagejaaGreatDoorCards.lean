/-
  DERIVED. GIVEN WITH THE SEED: THE CARDS: each row of YtajakaadgagejaaGreatDoorRows.lean that lists a variable, with what it lists TIED to the program's text (the seventh form; the later family's looks); each row that meets fmt, with fmt's text TOLD by the authors' own Lean function (tested against real Go, not proved from fmt's source: count such statements apart). THE CARD IS WHAT COUNTS. Prove the row's statement (the work); the ties are given (YtajakaadgagejaaGreatDoorTie.lean); close each card by the builder's one call (the guide's Derived/Test/ToyasCard.lean, 'card_holds'). Laid BY PROGRAM, IN A SANDBOX (cutbox-door.mjs). By AI agents, Wed Nov 11 2026. No macro, syntax, notation, axiom, sorry.
-/
import Derived.Test.YtajakaadgagejaaGreatDoorRows
import GoSem.ClaimSeven
namespace Go.Proofs.YtajakaadgagejaaGreatDoor
namespace Rows

/-- THE TIED CARD OF 'quorumkeep.Served'. -/
def servedCard : Claim7 := { stood := { row := servedRow, standIns := [], harness := (true, "c873e316f8baaafa8995bd6b3f0e7f44d631c10c3d0de69881eb0447711da50c"), looks := false }, kinds := [], alts := [], laidByText := true, laidKinds := [.data, .data, .data], laidTests := true, laidLooks := .later }
def ServedCardSaid : Prop := Claim7.holds Tryz.pinned (.plain (OpenSpec.ofChange servedSpec)) servedCard

/-- THE TIED CARD OF 'quorumkeep.Silence'. -/
def silenceCard : Claim7 := { stood := { row := silenceRow, standIns := [], harness := (true, "c873e316f8baaafa8995bd6b3f0e7f44d631c10c3d0de69881eb0447711da50c"), looks := false }, kinds := [], alts := [], laidByText := true, laidKinds := [.data, .data, .data], laidTests := true, laidLooks := .later }
def SilenceCardSaid : Prop := Claim7.holds Tryz.pinned (.plain (OpenSpec.ofChange silenceSpec)) silenceCard

/-- THE SECOND FORM's CARD OF 'quorumkeep.Served'. -/
def servedUptoCard : Claim7 := { stood := { row := servedUptoRow, standIns := [], harness := (true, "c873e316f8baaafa8995bd6b3f0e7f44d631c10c3d0de69881eb0447711da50c"), looks := false }, kinds := [], alts := [], laidByText := true, laidKinds := [.data, .data, .data], laidTests := true, laidLooks := .later }
def ServedUptoCardSaid : Prop := Claim7.holds Tryz.pinned (.plain (OpenSpec.upto servedSpec)) servedUptoCard

/-- THE SECOND FORM's CARD OF 'quorumkeep.Silence'. -/
def silenceUptoCard : Claim7 := { stood := { row := silenceUptoRow, standIns := [], harness := (true, "c873e316f8baaafa8995bd6b3f0e7f44d631c10c3d0de69881eb0447711da50c"), looks := false }, kinds := [], alts := [], laidByText := true, laidKinds := [.data, .data, .data], laidTests := true, laidLooks := .later }
def SilenceUptoCardSaid : Prop := Claim7.holds Tryz.pinned (.plain (OpenSpec.upto silenceSpec)) silenceUptoCard
end Rows
end Go.Proofs.YtajakaadgagejaaGreatDoor
