/-
  DERIVED. GIVEN WITH THE SEED: THE CARDS: each row of YthjeidgmkkkmbaaGreatDoorRows.lean that lists a variable, with what it lists TIED to the program's text (the seventh form; the later family's looks); each row that meets fmt, with fmt's text TOLD by the authors' own Lean function (tested against real Go, not proved from fmt's source: count such statements apart). THE CARD IS WHAT COUNTS. Prove the row's statement (the work); the ties are given (YthjeidgmkkkmbaaGreatDoorTie.lean); close each card by the builder's one call (the guide's Derived/Test/ToyasCard.lean, 'card_holds'). Laid BY PROGRAM, IN A SANDBOX (cutbox-door.mjs). By AI agents, Wed Nov 11 2026. No macro, syntax, notation, axiom, sorry.
-/
import Derived.Test.YthjeidgmkkkmbaaGreatDoorRows
import GoSem.ClaimSeven
namespace Go.Proofs.YthjeidgmkkkmbaaGreatDoor
namespace Rows

/-- THE TIED CARD OF 'abaculuslaw2.WholeQuotients'. -/
def wholeQuotientsCard : Claim7 := { stood := { row := wholeQuotientsRow, standIns := [], harness := (true, "d10b9c8f1ad4944555a7e2ce12293cfa9645934e25e1318ba0e3820fbfc07928"), looks := false }, kinds := [], alts := [], laidByText := true, laidKinds := [.data, .data, .data], laidTests := true, laidLooks := .later }
def WholeQuotientsCardSaid : Prop := Claim7.holds Tryz.pinned (.plain (OpenSpec.ofChange wholeQuotientsSpec)) wholeQuotientsCard

/-- THE TIED CARD OF 'abaculuslaw2.WholeGcd'. -/
def wholeGcdCard : Claim7 := { stood := { row := wholeGcdRow, standIns := [], harness := (true, "d10b9c8f1ad4944555a7e2ce12293cfa9645934e25e1318ba0e3820fbfc07928"), looks := false }, kinds := [], alts := [], laidByText := true, laidKinds := [.data, .data, .data], laidTests := true, laidLooks := .later }
def WholeGcdCardSaid : Prop := Claim7.holds Tryz.pinned (.plain (OpenSpec.ofChange wholeGcdSpec)) wholeGcdCard

/-- THE TIED CARD OF 'abaculuslaw3.FracField'. -/
def fracFieldCard : Claim7 := { stood := { row := fracFieldRow, standIns := [], harness := (true, "d10b9c8f1ad4944555a7e2ce12293cfa9645934e25e1318ba0e3820fbfc07928"), looks := false }, kinds := [], alts := [], laidByText := true, laidKinds := [.data, .data, .data, .data, .pinned], laidTests := true, laidLooks := .later }
def FracFieldCardSaid : Prop := Claim7.holds Tryz.pinned (.plain (OpenSpec.ofChange fracFieldSpec)) fracFieldCard

/-- THE SECOND FORM's CARD OF 'abaculuslaw2.WholeQuotients'. -/
def wholeQuotientsUptoCard : Claim7 := { stood := { row := wholeQuotientsUptoRow, standIns := [], harness := (true, "d10b9c8f1ad4944555a7e2ce12293cfa9645934e25e1318ba0e3820fbfc07928"), looks := false }, kinds := [], alts := [], laidByText := true, laidKinds := [.data, .data, .data], laidTests := true, laidLooks := .later }
def WholeQuotientsUptoCardSaid : Prop := Claim7.holds Tryz.pinned (.plain (OpenSpec.upto wholeQuotientsSpec)) wholeQuotientsUptoCard

/-- THE SECOND FORM's CARD OF 'abaculuslaw2.WholeGcd'. -/
def wholeGcdUptoCard : Claim7 := { stood := { row := wholeGcdUptoRow, standIns := [], harness := (true, "d10b9c8f1ad4944555a7e2ce12293cfa9645934e25e1318ba0e3820fbfc07928"), looks := false }, kinds := [], alts := [], laidByText := true, laidKinds := [.data, .data, .data], laidTests := true, laidLooks := .later }
def WholeGcdUptoCardSaid : Prop := Claim7.holds Tryz.pinned (.plain (OpenSpec.upto wholeGcdSpec)) wholeGcdUptoCard

/-- THE SECOND FORM's CARD OF 'abaculuslaw3.FracField'. -/
def fracFieldUptoCard : Claim7 := { stood := { row := fracFieldUptoRow, standIns := [], harness := (true, "d10b9c8f1ad4944555a7e2ce12293cfa9645934e25e1318ba0e3820fbfc07928"), looks := false }, kinds := [], alts := [], laidByText := true, laidKinds := [.data, .data, .data, .data, .pinned], laidTests := true, laidLooks := .later }
def FracFieldUptoCardSaid : Prop := Claim7.holds Tryz.pinned (.plain (OpenSpec.upto fracFieldSpec)) fracFieldUptoCard
end Rows
end Go.Proofs.YthjeidgmkkkmbaaGreatDoor
