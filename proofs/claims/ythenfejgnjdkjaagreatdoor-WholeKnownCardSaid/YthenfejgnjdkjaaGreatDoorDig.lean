/- Numbers of any length moved by bits. -/
import Derived.Test.YthenfejgnjdkjaaGreatDoorMove
import Derived.Test.YthenfejgnjdkjaaGreatDoorShiftS
import Derived.Test.YthenfejgnjdkjaaGreatDoorDivN
import Derived.Test.YthenfejgnjdkjaaGreatDoorQOps
import Derived.Test.YthenfejgnjdkjaaGreatDoorPow
import Derived.LoopN
import Derived.Handy
namespace Go.Proofs.YthenfejgnjdkjaaGreatDoor
open Go.RowKit

end Go.Proofs.YthenfejgnjdkjaaGreatDoor

/- Texts of small numbers; a few library calls on texts that are written out. -/
namespace Go.Proofs.YthenfejgnjdkjaaGreatDoor
open Go.RowKit

theorem Holds.lt {w : World} {b : Nat} {k : BK} {x : Want} (h : Holds w b k x) (h0 : k.shape.isEmpty = false) : b < w.heap.size := by
  obtain ⟨_, _, _, _, h⟩ := h.op h0
  exact h
set_option maxHeartbeats 2000000 in
theorem isDec_0 (w : World) : Calls Tryz.prog 47 #[.string ⟨#[48]⟩] w (Gives w (.is (.bool true))) := by
  refine Calls.mono (R := fun e w' => e = .returned (.bool true) ∧ w = w') ?_ fun e w' ⟨h1, h2⟩ => ⟨_, h1, rfl, by rw [h2]; exact Below.refl _ _⟩
  go_enter Tryz.func47, Tryz.ntmps47
  go_wp2
  go_rounds 3
  all_goals (go_ret; exact ⟨rfl, rfl⟩)
theorem cutPrefix_gives (w : World) (s p a : ByteArray) (f : Bool) (h1 : Lib.trimPrefix s.data.toList p.data.toList = a.data.toList) (h2 : Lib.hasPrefix s.data.toList p.data.toList = f) :
    Calls Tryz.prog 23 #[.string s, .string p] w (Gives w (.two (.is (.string a)) (.is (.bool f)))) := by
  refine (Tryz.strings_CutPrefix s p w).mono fun e w' ⟨h, hw⟩ => ?_
  rw [h1, h2] at h
  exact ⟨_, h, ⟨_, _, rfl, rfl, rfl⟩, by rw [hw]; exact Below.refl _ _⟩
theorem nText_small (w : World) (u : Value) (n : Nat) (t : ByteArray) (hn : n < 2 ^ 64) (H : ∀ w, Calls Tryz.prog 51 #[.int .u64 (n : Int), .int .i64 10] w fun e w' => e = .returned (.string t) ∧ w = w') (h : Num w u n) : Calls Tryz.prog 30 #[u] w (Gives w (.is (.string t))) := by
  obtain ⟨s, p, l, c, rfl, ⟨_, h2, h3, h4, h5⟩ | ⟨h, _⟩⟩ := h
  · subst h2 h3 h4 h5
    exact (text_short _ _ w H).mono fun e w' ⟨h, hb⟩ => ⟨_, h, rfl, hb⟩
  · omega
theorem iText_gives (w : World) (u : Value) (n : Nat) (t : ByteArray) (hn : n < 2 ^ 64) (H : ∀ w, Calls Tryz.prog 51 #[.int .u64 (n : Int), .int .i64 10] w fun e w' => e = .returned (.string t) ∧ w = w') (h : INum w u (n : Int)) : Calls Tryz.prog 12 #[u] w (Gives w (.is (.string t))) := by
  obtain ⟨g, s, p, l, c, rfl, h⟩ := h
  obtain ⟨rfl, rfl, rfl, rfl, rfl⟩ := isI_small h (by rw [Int.natAbs_natCast]; exact hn)
  rw [decide_eq_false (by omega), Int.natAbs_natCast]
  exact (iText_pos _ t w H).mono fun e w' ⟨h, hb⟩ => ⟨_, h, rfl, hb⟩
theorem iText_neg1 (w : World) (u : Value) (h : INum w u (-1)) : Calls Tryz.prog 12 #[u] w (Gives w (.is (.string ⟨#[45, 49]⟩))) := by
  obtain ⟨g, s, p, l, c, rfl, h⟩ := h
  obtain ⟨rfl, rfl, rfl, rfl, rfl⟩ := isI_small h (by decide)
  exact (iText_m1 w).mono fun e w' ⟨h, hb⟩ => ⟨_, h, rfl, hb⟩
end Go.Proofs.YthenfejgnjdkjaaGreatDoor
