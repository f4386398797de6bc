/- The document's quotient of integers, rounded down. -/
import Derived.Test.YtfjjmhbffbhhdaaGreatDoorFrm
import Derived.Test.YtfjjmhbffbhhdaaGreatDoorISums3
import Derived.Test.YtfjjmhbffbhhdaaGreatDoorRefQuot2
import Derived.Test.YtfjjmhbffbhhdaaGreatDoorRefShift
import Derived.Test.YtfjjmhbffbhhdaaGreatDoorRefProd
import Derived.Test.YtfjjmhbffbhhdaaGreatDoorDivide
import Derived.Test.YtfjjmhbffbhhdaaGreatDoorInv
import Derived.Test.YtfjjmhbffbhhdaaGreatDoorDivN
import Derived.Test.YtfjjmhbffbhhdaaGreatDoorQuot
import Derived.Test.YtfjjmhbffbhhdaaGreatDoorRefCmp
import Derived.Deep.RegionWith
import Derived.Test.YtfjjmhbffbhhdaaGreatDoorDivS
import Derived.Test.YtfjjmhbffbhhdaaGreatDoorShiftS
import Derived.Lib.Hide
namespace Go.Proofs.YtfjjmhbffbhhdaaGreatDoor
open Go.RowKit

theorem rI_gives (w : World) (g : Bool) (u : Value) (n : Nat) (z : Int) (hz : sgn g n = z) (h : RNum w u n) : Calls Tryz.prog 16 #[.bool g, u] w (Gives w (.rint z)) :=
  (rI_want w g u n z hz h).mono fun _ _ ⟨v, h1, h2, h3⟩ => ⟨v, h1, h2, h3⟩
theorem run_rI : RowKit.Hid (∀ (a : Array Value) (w : World), Sem.run Tryz.prog (callFunc 16 a) w = .ok (.enter 16 a) w) := fun a w => by go_simp
end Go.Proofs.YtfjjmhbffbhhdaaGreatDoor
