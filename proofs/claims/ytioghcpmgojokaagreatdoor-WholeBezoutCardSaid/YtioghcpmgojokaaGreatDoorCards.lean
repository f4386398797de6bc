/-
  DERIVED. GIVEN WITH THE SEED: THE CARDS: each row of YtioghcpmgojokaaGreatDoorRows.lean that lists a variable, with what it lists TIED to the program's text (the seventh form; the later family's looks); each row that meets fmt, with fmt's text TOLD by the authors' own Lean function (tested against real Go, not proved from fmt's source: count such statements apart). THE CARD IS WHAT COUNTS. Prove the row's statement (the work); the ties are given (YtioghcpmgojokaaGreatDoorTie.lean); close each card by the builder's one call (the guide's Derived/Test/ToyasCard.lean, 'card_holds'). Laid BY PROGRAM, IN A SANDBOX (cutbox-door.mjs). By AI agents, Wed Nov 11 2026. No macro, syntax, notation, axiom, sorry.
-/
import Derived.Test.YtioghcpmgojokaaGreatDoorRows
import GoSem.ClaimSeven
namespace Go.Proofs.YtioghcpmgojokaaGreatDoor
namespace Rows

/-- THE TIED CARD OF 'abaculuslaw2.WholeBezout'. -/
def wholeBezoutCard : Claim7 := { stood := { row := wholeBezoutRow, standIns := [], harness := (true, "ba7ed9d47643f205338234b46faf3273a6f6abc495843c196043fb1c6dc928b5"), looks := false }, kinds := [], alts := [], laidByText := true, laidKinds := [.data, .data, .data], laidTests := true, laidLooks := .later }
def WholeBezoutCardSaid : Prop := Claim7.holds Tryz.pinned (.plain (OpenSpec.ofChange wholeBezoutSpec)) wholeBezoutCard

/-- THE SECOND FORM's CARD OF 'abaculuslaw2.WholeBezout'. -/
def wholeBezoutUptoCard : Claim7 := { stood := { row := wholeBezoutUptoRow, standIns := [], harness := (true, "ba7ed9d47643f205338234b46faf3273a6f6abc495843c196043fb1c6dc928b5"), looks := false }, kinds := [], alts := [], laidByText := true, laidKinds := [.data, .data, .data], laidTests := true, laidLooks := .later }
def WholeBezoutUptoCardSaid : Prop := Claim7.holds Tryz.pinned (.plain (OpenSpec.upto wholeBezoutSpec)) wholeBezoutUptoCard
end Rows
end Go.Proofs.YtioghcpmgojokaaGreatDoor
