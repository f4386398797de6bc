/- The examples of chapter 1. -/
import Derived.Test.YtjhjlecnjkjbbaaGreatDoorDivS
import Derived.Test.YtjhjlecnjkjbbaaGreatDoorShiftS
import Derived.Test.YtjhjlecnjkjbbaaGreatDoorRefCmp
import Derived.Deep.LoopGhost
import Derived.Test.YtjhjlecnjkjbbaaGreatDoorQNum
import Derived.Test.YtjhjlecnjkjbbaaGreatDoorRefQuot
import Derived.Test.YtjhjlecnjkjbbaaGreatDoorDivN
import Derived.Deep.RegionWith
import Derived.Test.YtjhjlecnjkjbbaaGreatDoorCut
namespace Go.Proofs.YtjhjlecnjkjbbaaGreatDoor
open Go.RowKit

set_option maxRecDepth 100000 in
set_option maxHeartbeats 400000 in
theorem small_1 (w : World) : Calls Tryz.prog 80 #[.int .u64 1, .int .i64 10] w fun e w' => e = .returned (.string ⟨#[49]⟩) ∧ w = w' := by
  go_enter Tryz.func80, Tryz.ntmps80
  go_wp2
  go_ret
  exact ⟨rfl, rfl⟩
set_option maxRecDepth 100000 in
set_option maxHeartbeats 400000 in
theorem small_4 (w : World) : Calls Tryz.prog 80 #[.int .u64 4, .int .i64 10] w fun e w' => e = .returned (.string ⟨#[52]⟩) ∧ w = w' := by
  go_enter Tryz.func80, Tryz.ntmps80
  go_wp2
  go_ret
  exact ⟨rfl, rfl⟩

set_option maxHeartbeats 400000 in
theorem text_short (n : Int) (t : ByteArray) (w : World) (H : ∀ w, Calls Tryz.prog 80 #[.int .u64 n, .int .i64 10] w fun e w' => e = .returned (.string t) ∧ w = w') :
    Calls Tryz.prog 30 #[.agg #[.int .u64 n, .slice none 0 0]] w fun e w' => e = .returned (.string t) ∧ Below w.heap.size w w' := by
  have HH := Lib.hid H; clear H
  go_enter Tryz.func30, Tryz.ntmps30
  go_wp2_with fail
  refine (short_yes _ _ _ _).mono ?_
  rintro e w1 ⟨rfl, hb⟩
  obtain ⟨hc, hf⟩ := bcell hb
  go_wp2_with fail
  refine (HH.out w1).mono ?_
  rintro e w2 ⟨rfl, rfl⟩
  go_wp2
  go_ret
  exact ⟨rfl, (by repeat' first | exact Below.refl _ _ | refine below_alloc ?_ _ | refine below_step ?_ (by assumption))⟩

end Go.Proofs.YtjhjlecnjkjbbaaGreatDoor

/- Two numbers of two arguments, the program's and the document's. -/
namespace Go.Proofs.YtjhjlecnjkjbbaaGreatDoor
open Go.RowKit

end Go.Proofs.YtjhjlecnjkjbbaaGreatDoor

/- What the laws over two numbers share. -/
namespace Go.Proofs.YtjhjlecnjkjbbaaGreatDoor
end Go.Proofs.YtjhjlecnjkjbbaaGreatDoor

/- NatQuotients: quotients and what is left are the document's; division by 0 is refused. -/
namespace Go.Proofs.YtjhjlecnjkjbbaaGreatDoor
open Go.RowKit

theorem rDiv_any (p q : Option Addr) (l k c d m n : Nat) (w : World) (hl : l ≤ 50000) (hn : 0 < n) (h1 : IsR w p l c m) (h2 : IsR w q k d n) :
    Calls Tryz.prog 95 #[.slice p l c, .slice q k d] w (RetRR w (m / n) (m % n)) := by
  rcases Nat.lt_or_ge m n with h | h
  · exact rDiv_less p q l k c d m n w (by omega) h h1 h2
  · rcases Nat.lt_or_ge n (2 ^ 32) with h3 | h3
    · exact rDiv_one p q l k c d m n w (by omega) h (by omega) h3 h1 h2
    · exact rDiv_long p q l k c d m n w hl h h3 h1 h2

end Go.Proofs.YtjhjlecnjkjbbaaGreatDoor
