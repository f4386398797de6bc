/- Powers of the program's numbers. -/
import Derived.Test.YtfjjmhbffbhhdaaGreatDoorQNum
import Derived.Laws.BitsLemmas
import Derived.Deep.LoopGhost
import Derived.Test.YtfjjmhbffbhhdaaGreatDoorMove
import Derived.Test.YtfjjmhbffbhhdaaGreatDoorShiftS
import Derived.Test.YtfjjmhbffbhhdaaGreatDoorDivN
import Derived.Test.YtfjjmhbffbhhdaaGreatDoorQOps
import Derived.LoopN
import Derived.Handy
namespace Go.Proofs.YtfjjmhbffbhhdaaGreatDoor
open Go.RowKit

end Go.Proofs.YtfjjmhbffbhhdaaGreatDoor

/- Numbers of any length moved by bits. -/
namespace Go.Proofs.YtfjjmhbffbhhdaaGreatDoor
open Go.RowKit

end Go.Proofs.YtfjjmhbffbhhdaaGreatDoor

/- Texts of small numbers; a few library calls on texts that are written out. -/
namespace Go.Proofs.YtfjjmhbffbhhdaaGreatDoor
open Go.RowKit

theorem Holds.lt {w : World} {b : Nat} {k : BK} {x : Want} (h : Holds w b k x) (h0 : k.shape.isEmpty = false) : b < w.heap.size := by
  obtain ⟨_, _, _, _, h⟩ := h.op h0
  exact h
theorem cutPrefix_gives (w : World) (s p a : ByteArray) (f : Bool) (h1 : Lib.trimPrefix s.data.toList p.data.toList = a.data.toList) (h2 : Lib.hasPrefix s.data.toList p.data.toList = f) :
    Calls Tryz.prog 20 #[.string s, .string p] w (Gives w (.two (.is (.string a)) (.is (.bool f)))) := by
  refine (Tryz.strings_CutPrefix s p w).mono fun e w' ⟨h, hw⟩ => ?_
  rw [h1, h2] at h
  exact ⟨_, h, ⟨_, _, rfl, rfl, rfl⟩, by rw [hw]; exact Below.refl _ _⟩
theorem ev_gtr {E : Operand → Value} {w : World} {d : Option Tmp} {ty : TypeId} {pos : String} {af : Array Edge} {gd : Option (Nat × Bool)} {x y : Operand} {a b : Int} (h1 : E x = .int .i64 a) (h2 : E y = .int .i64 b) {v : Bool} (hv : (decide (b < a)) = v) : Does Tryz.prog ⟨d, .binOp .gtr 3 x y 3, ty, pos, af, gd⟩ E w fun v' w' => v' = .bool v ∧ Below w.heap.size w w' :=
  Does.value (w' := w) (by go_simp) ⟨congrArg Value.bool hv, Below.refl _ _⟩
end Go.Proofs.YtfjjmhbffbhhdaaGreatDoor
