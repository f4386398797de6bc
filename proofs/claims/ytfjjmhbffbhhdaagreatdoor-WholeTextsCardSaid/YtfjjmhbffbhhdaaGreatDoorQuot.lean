/- The examples of chapter 1. -/
import Derived.Test.YtfjjmhbffbhhdaaGreatDoorDivS
import Derived.Test.YtfjjmhbffbhhdaaGreatDoorShiftS
import Derived.Test.YtfjjmhbffbhhdaaGreatDoorRefCmp
import Derived.Deep.LoopGhost
import Derived.Test.YtfjjmhbffbhhdaaGreatDoorQNum
import Derived.Test.YtfjjmhbffbhhdaaGreatDoorRefQuot2
import Derived.Test.YtfjjmhbffbhhdaaGreatDoorRefShift
import Derived.Test.YtfjjmhbffbhhdaaGreatDoorRefProd
import Derived.Test.YtfjjmhbffbhhdaaGreatDoorDivide
import Derived.Test.YtfjjmhbffbhhdaaGreatDoorInv
import Derived.Test.YtfjjmhbffbhhdaaGreatDoorDivN
import Derived.Deep.RegionWith
import Derived.Lib.Hide
namespace Go.Proofs.YtfjjmhbffbhhdaaGreatDoor
open Go.RowKit

set_option maxRecDepth 100000 in
set_option maxHeartbeats 400000 in
theorem small_1 (w : World) : Calls Tryz.prog 52 #[.int .u64 1, .int .i64 10] w fun e w' => e = .returned (.string ⟨#[49]⟩) ∧ w = w' := by
  go_enter Tryz.func52, Tryz.ntmps52
  go_wp2
  go_ret
  exact ⟨rfl, rfl⟩
set_option maxRecDepth 100000 in
set_option maxHeartbeats 400000 in
theorem small_4 (w : World) : Calls Tryz.prog 52 #[.int .u64 4, .int .i64 10] w fun e w' => e = .returned (.string ⟨#[52]⟩) ∧ w = w' := by
  go_enter Tryz.func52, Tryz.ntmps52
  go_wp2
  go_ret
  exact ⟨rfl, rfl⟩

set_option maxHeartbeats 400000 in
theorem text_short (n : Int) (t : ByteArray) (w : World) (H : ∀ w, Calls Tryz.prog 52 #[.int .u64 n, .int .i64 10] w fun e w' => e = .returned (.string t) ∧ w = w') :
    Calls Tryz.prog 31 #[.agg #[.int .u64 n, .slice none 0 0]] w fun e w' => e = .returned (.string t) ∧ Below w.heap.size w w' := by
  have HH := Lib.hid H; clear H
  go_enter Tryz.func31, Tryz.ntmps31
  go_wp2_with fail
  refine (short_yes _ _ _ _).mono ?_
  rintro e w1 ⟨rfl, hb⟩
  obtain ⟨hc, hf⟩ := bcell hb
  go_wp2_with fail
  refine (HH.out w1).mono ?_
  rintro e w2 ⟨rfl, rfl⟩
  go_wp2
  go_ret
  exact ⟨rfl, (by repeat' first | exact Below.refl _ _ | refine below_alloc ?_ _ | refine below_step ?_ (by assumption))⟩

end Go.Proofs.YtfjjmhbffbhhdaaGreatDoor

/- Two numbers of two arguments, the program's and the document's. -/
namespace Go.Proofs.YtfjjmhbffbhhdaaGreatDoor
open Go.RowKit

end Go.Proofs.YtfjjmhbffbhhdaaGreatDoor

/- What the laws over two numbers share. -/
namespace Go.Proofs.YtfjjmhbffbhhdaaGreatDoor
end Go.Proofs.YtfjjmhbffbhhdaaGreatDoor

/- NatQuotients: quotients and what is left are the document's; division by 0 is refused. -/
namespace Go.Proofs.YtfjjmhbffbhhdaaGreatDoor
open Go.RowKit

end Go.Proofs.YtfjjmhbffbhhdaaGreatDoor
