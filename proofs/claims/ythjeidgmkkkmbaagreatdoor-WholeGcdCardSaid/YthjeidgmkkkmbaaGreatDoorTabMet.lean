/- The card's table, in the words of the walks. -/
import Derived.Test.YthjeidgmkkkmbaaGreatDoorOpenBytes
import Derived.Test.YthjeidgmkkkmbaaGreatDoorTz
namespace Go.Proofs.YthjeidgmkkkmbaaGreatDoor
open Go.RowKit

theorem tabIs_second {P : Program} {W : World} {n1 name : String} {d1 : DataW Unit} {k : IntKind} {zs : List Int} {rest : List (String × DataW Unit)} {g : Nat} {t e : TypeId} {n : Nat}
    (hg : P.globalNamed name = some g) (hty : (P.globals[g]?).map (·.type) = some t) (ht : P.underlying t = some (.array n e)) (he : P.underlying e = some (.int k)) (hce : P.cellsOf e = 1) (hct : P.cellsOf t = n)
    (h : laidMet P ((n1, d1) :: (name, Lib.tabData k zs) :: rest) W) : Lib.TabIs P W name k zs := by
  obtain ⟨ps, ⟨_, _, _, _, _, q, _, _, _, _, hr, _⟩, _⟩ := h
  obtain ⟨g', t', cs, fuel, p, q', hg', ht', hvar, hd, _, _⟩ := hr
  obtain rfl := Option.some.inj (hg.symm.trans hg')
  obtain rfl := Option.some.inj (hty.symm.trans ht')
  unfold Lib.TabIs
  rw [hvar, ← Lib.cells_of_tab ht he hce hct hd]
theorem getD_cast (xs : List Nat) (i : Nat) : (xs.map fun (n : Nat) => (n : Int)).getD i 0 = ((xs.getD i 0 : Nat) : Int) := by
  simp only [List.getD, List.getElem?_map]
  cases xs[i]? <;> simp
theorem tab64_of {W : World} {n1 : String} {d1 : DataW Unit} {rest : List (String × DataW Unit)} (h : laidMet Tryz.prog ((n1, d1) :: ("math/bits.deBruijn64tab", Rows.laid_math_bits_deBruijn64tab) :: rest) W) : Tab64 W := by
  have h2 : laidMet Tryz.prog ((n1, d1) :: ("math/bits.deBruijn64tab", Lib.tabData .u8 (Lib.deBruijn64tab.map fun (n : Nat) => (n : Int))) :: rest) W := h
  have h3 := tabIs_second (g := 0) (t := 180) (e := 5) (n := 64) (by kernel_rfl) (by kernel_rfl) (by kernel_rfl) Tryz.underlying5 (by kernel_rfl) (by kernel_rfl) h2
  intro j hj
  have h4 := h3.cell (g := 0) (by kernel_rfl) j (by rw [List.length_map]; exact hj)
  rw [getD_cast] at h4
  exact h4
end Go.Proofs.YthjeidgmkkkmbaaGreatDoor
