/- The document's integers: signs, sums, products, comparisons; the document's integer of a program's; whether a program's integer is the document's. -/
import Derived.Test.YtfjjmhbffbhhdaaGreatDoorLaw2
import Derived.Test.YtfjjmhbffbhhdaaGreatDoorRefProd
import Derived.Test.YtfjjmhbffbhhdaaGreatDoorRefCmp
namespace Go.Proofs.YtfjjmhbffbhhdaaGreatDoor
open Go.RowKit

theorem RetRI.want {W w' : World} {z : Int} {e : Ending} (h : RetRI W z e w') : ∃ v, e = .returned v ∧ RINum w' v z ∧ Below W.heap.size W w' := by
  obtain ⟨g, p, l, c, rfl, h1, h2⟩ := h
  exact ⟨_, rfl, ⟨g, p, l, c, rfl, h1⟩, h2⟩
theorem RetR.want {W w' : World} {n : Nat} {e : Ending} (h : RetR W n e w') : ∃ v, e = .returned v ∧ RNum w' v n ∧ Below W.heap.size W w' := by
  obtain ⟨p, l, c, rfl, h1, h2⟩ := h
  exact ⟨_, rfl, ⟨p, l, c, rfl, h1⟩, h2⟩
end Go.Proofs.YtfjjmhbffbhhdaaGreatDoor
