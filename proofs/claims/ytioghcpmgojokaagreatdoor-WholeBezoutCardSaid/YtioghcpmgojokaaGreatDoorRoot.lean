/- The root, out of what quotients, sums and halves do. -/
import Derived.Test.YtioghcpmgojokaaGreatDoorDivS
import Derived.Test.YtioghcpmgojokaaGreatDoorShiftS
import Derived.Test.YtioghcpmgojokaaGreatDoorCmp
import Derived.Deep.LoopGhost
namespace Go.Proofs.YtioghcpmgojokaaGreatDoor
open Go.RowKit

theorem newton_ge {n r x : Nat} (hr : r * r ≤ n) (hx : 0 < x) : r ≤ (x + n / x) / 2 := by
  by_cases h : 2 * r ≤ x + n / x
  · omega
  · exfalso
    have h1 : n < x * (n / x + 1) := Nat.lt_mul_div_succ n hx
    generalize n / x = q at *
    have hle : x ≤ 2 * r := by omega
    obtain ⟨y, hy⟩ : ∃ y, x + y = 2 * r := ⟨2 * r - x, by omega⟩
    have h2 : q + 1 ≤ y := by omega
    have h3 : x * (q + 1) ≤ x * y := Nat.mul_le_mul_left x h2
    have h4 : x * y ≤ r * r := by
      rcases Nat.le_total x r with h | h
      · obtain ⟨d, rfl⟩ := Nat.exists_eq_add_of_le h
        have : y = x + d + d := by omega
        subst this
        have e : (x + d) * (x + d) = x * (x + d + d) + d * d := by grind
        omega
      · obtain ⟨d, rfl⟩ := Nat.exists_eq_add_of_le h
        have : y + d = r := by omega
        subst this
        have e : (y + d) * (y + d) = (y + d + d) * y + d * d := by grind
        omega
    omega

theorem newton_lt {n r x : Nat} (hr : n < (r + 1) * (r + 1)) (hx : r < x) : (x + n / x) / 2 < x := by
  have h0 : 0 < x := by omega
  have h1 : (r + 1) * (r + 1) ≤ x * x := Nat.mul_le_mul (by omega) (by omega)
  have h2 : n / x < x := (Nat.div_lt_iff_lt_mul h0).2 (by omega)
  omega

theorem start_ge {n r k : Nat} (hr : r * r ≤ n) (hn : n < 2 ^ k * 2 ^ k) : r ≤ 2 ^ k := by
  by_cases h : r ≤ 2 ^ k
  · exact h
  · exfalso
    have : 2 ^ k * 2 ^ k ≤ r * r := Nat.mul_le_mul (by omega) (by omega)
    omega

end Go.Proofs.YtioghcpmgojokaaGreatDoor
