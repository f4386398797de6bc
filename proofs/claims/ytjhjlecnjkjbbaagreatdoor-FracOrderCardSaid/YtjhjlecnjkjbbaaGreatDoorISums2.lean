/- Differences, products and comparisons of the document's integers; the document's integer of a program's; whether they are alike. -/
import Derived.Test.YtjhjlecnjkjbbaaGreatDoorISums
namespace Go.Proofs.YtjhjlecnjkjbbaaGreatDoor
open Go.RowKit

theorem rI_want (w : World) (g : Bool) (u : Value) (n : Nat) (z : Int) (hz : sgn g n = z) (h : RNum w u n) : Calls Tryz.prog 42 #[.bool g, u] w fun e w' => ∃ v', e = .returned v' ∧ RINum w' v' z ∧ Below w.heap.size w w' := by
  obtain ⟨p, l, c, rfl, h⟩ := h
  rw [← hz]
  exact (rI_any g n p l c w h).mono fun _ _ h => h.want
end Go.Proofs.YtjhjlecnjkjbbaaGreatDoor
