/- The document's integers: signs, sums, products, comparisons; the document's integer of a program's; whether a program's integer is the document's. -/
import Derived.Test.YtjhjlecnjkjbbaaGreatDoorLaw2
import Derived.Test.YtjhjlecnjkjbbaaGreatDoorRefProd
import Derived.Test.YtjhjlecnjkjbbaaGreatDoorRefCmp
namespace Go.Proofs.YtjhjlecnjkjbbaaGreatDoor
open Go.RowKit

theorem RetRI.want {W w' : World} {z : Int} {e : Ending} (h : RetRI W z e w') : ∃ v, e = .returned v ∧ RINum w' v z ∧ Below W.heap.size W w' := by
  obtain ⟨g, p, l, c, rfl, h1, h2⟩ := h
  exact ⟨_, rfl, ⟨g, p, l, c, rfl, h1⟩, h2⟩
theorem RetR.want {W w' : World} {n : Nat} {e : Ending} (h : RetR W n e w') : ∃ v, e = .returned v ∧ RNum w' v n ∧ Below W.heap.size W w' := by
  obtain ⟨p, l, c, rfl, h1, h2⟩ := h
  exact ⟨_, rfl, ⟨p, l, c, rfl, h1⟩, h2⟩
theorem IsR.rintbox {w : World} {p q : Option Addr} {l c k d n g : Nat} {x : Bool} {u v : Value} (h : IsR w p l c n) (h0 : w.cell? ⟨g, 0, none⟩ = some (.bool x)) (h1 : w.cell? ⟨g, 1, none⟩ = some (.slice q k d)) :
    IsR ((w.setCell ⟨g, 0, none⟩ u).setCell ⟨g, 1, none⟩ v) p l c n := by
  obtain ⟨a1, a2, a3⟩ := h
  refine ⟨a1, a2, fun hn => ?_⟩
  obtain ⟨b, off, a4, a5⟩ := a3 hn
  refine ⟨b, off, a4, fun i hi => ?_⟩
  have h2 := a5 i hi
  have e0 : (⟨g, 0, none⟩ : Addr) ≠ ⟨b, off + i, none⟩ := by intro e; rw [← e, h0] at h2; cases h2
  have e1 : (⟨g, 1, none⟩ : Addr) ≠ ⟨b, off + i, none⟩ := by intro e; rw [← e, h1] at h2; cases h2
  rw [World.cell?_setCell_other _ _ _ _ e1, World.cell?_setCell_other _ _ _ _ e0]
  exact h2
theorem IsRI.setRint {w : World} {p q : Option Addr} {l c k d b : Nat} {g x : Bool} {z : Int} {u v : Value} (h : IsRI w g p l c z) (h0 : w.cell? ⟨b, 0, none⟩ = some (.bool x)) (h1 : w.cell? ⟨b, 1, none⟩ = some (.slice q k d)) :
    IsRI ((w.setCell ⟨b, 0, none⟩ u).setCell ⟨b, 1, none⟩ v) g p l c z := ⟨h.1, h.2.rintbox h0 h1⟩
end Go.Proofs.YtjhjlecnjkjbbaaGreatDoor
