/- The greatest common divisor with factors. -/
import Derived.Test.YtjhjlecnjkjbbaaGreatDoorBez0
import Derived.Test.YtjhjlecnjkjbbaaGreatDoorIntTwo
import Derived.Deep.LoopGhost
namespace Go.Proofs.YtjhjlecnjkjbbaaGreatDoor
open Go.RowKit

theorem iDiv_want (w : World) (u v : Value) (x y : Int) (h0 : y ≠ 0) (hx : (ds x.natAbs).length ≤ 60) (hy : (ds y.natAbs).length ≤ 60) (h1 : INum w u x) (h2 : INum w v y) :
    Calls Tryz.prog 110 #[u, v] w fun e w' => ∃ v', e = .returned v' ∧ (∃ q r k, v' = .tuple #[q, r, k] ∧ INum w' q (qdiv x y) ∧ INum w' r (qmod x y) ∧ k = .bool true) ∧ Below w.heap.size w w' := by
  obtain ⟨g, s, p, l, c, rfl, h1⟩ := h1
  obtain ⟨f, t, q, k, d, rfl, h2⟩ := h2
  exact (iDiv_any x y g f s t p q l c k d w h0 (by omega) (by omega) h1 h2).mono fun _ _ ⟨_, _, _, _, _, _, _, _, _, _, h, a, b, hb⟩ => ⟨_, h, ⟨_, _, _, rfl, ⟨_, _, _, _, _, rfl, a⟩, ⟨_, _, _, _, _, rfl, b⟩, rfl⟩, hb⟩

theorem RetRow.want {W w' : World} {x y : Int} {e : Ending} (h : RetRow W x y e w') : ∃ v, e = .returned v ∧ (ints [x, y]).says w' v ∧ Below W.heap.size W w' := by
  obtain ⟨g1, s1, p1, l1, c1, g2, s2, p2, l2, c2, rfl, h1, h2, hb⟩ := h
  exact ⟨_, rfl, ⟨_, rfl, ⟨_, _, _, _, _, _, rfl, h1, ⟨_, _, _, _, _, _, rfl, h2, rfl⟩⟩⟩, hb⟩
end Go.Proofs.YtjhjlecnjkjbbaaGreatDoor
