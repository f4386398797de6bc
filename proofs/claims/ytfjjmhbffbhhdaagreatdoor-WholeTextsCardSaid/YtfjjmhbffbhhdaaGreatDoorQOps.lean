/- Fractions: what Make makes; sums, products, differences, quotients, the order. -/
import Derived.Test.YtfjjmhbffbhhdaaGreatDoorQFun
namespace Go.Proofs.YtfjjmhbffbhhdaaGreatDoor
open Go.RowKit

theorem run_nMul : RowKit.Hid (∀ (a : Array Value) (w : World), Sem.run Tryz.prog (callFunc 39 a) w = .ok (.enter 39 a) w) := fun a w => by go_simp
theorem QB.ds {x : Rat} (h : QB x 600) : (ds x.num.natAbs).length ≤ 10 ∧ (ds x.den).length ≤ 10 := ⟨ds_bl (by omega) (Nat.le_trans h.1 (by omega)), ds_bl (by omega) (Nat.le_trans h.2 (by omega))⟩
theorem nMul_gives (w : World) (u v : Value) (m n : Nat) (hm : (ds m).length ≤ 60) (hn : (ds n).length ≤ 60) (h1 : Num w u m) (h2 : Num w v n) : Calls Tryz.prog 39 #[u, v] w (Gives w (.num (m * n))) :=
  (mul_want w u v m n hm hn h1 h2).mono fun _ _ ⟨v, h1, h2, h3⟩ => ⟨v, h1, h2, h3⟩
end Go.Proofs.YtfjjmhbffbhhdaaGreatDoor
