/- The greatest common divisor with factors. -/
import Derived.Test.YtfjjmhbffbhhdaaDoorBez0
import Derived.Test.YtfjjmhbffbhhdaaDoorIntTwo
import Derived.Deep.LoopGhost
namespace Go.Proofs.YtfjjmhbffbhhdaaDoor
open Go.RowKit

theorem RetRow.want {W w' : World} {x y : Int} {e : Ending} (h : RetRow W x y e w') : ∃ v, e = .returned v ∧ (ints [x, y]).says w' v ∧ Below W.heap.size W w' := by
  obtain ⟨g1, s1, p1, l1, c1, g2, s2, p2, l2, c2, rfl, h1, h2, hb⟩ := h
  exact ⟨_, rfl, ⟨_, rfl, ⟨_, _, _, _, _, _, rfl, h1, ⟨_, _, _, _, _, _, rfl, h2, rfl⟩⟩⟩, hb⟩
end Go.Proofs.YtfjjmhbffbhhdaaDoor
