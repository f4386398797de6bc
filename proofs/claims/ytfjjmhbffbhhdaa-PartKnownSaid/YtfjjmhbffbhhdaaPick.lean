/- Raw numbers as small ones. -/
import Derived.Test.YtfjjmhbffbhhdaaB8
import Derived.Lib.Hide
namespace Go.Proofs.Ytfjjmhbffbhhdaa
open Go.RowKit

theorem pick_any (n : Int) (m : Nat) (w : World) (h1 : -9223372036854775808 ≤ n) (h2 : n ≤ 9223372036854775807) (hm : 0 < m) (hm2 : m ≤ 4611686018427387904) :
    Calls Try.prog 15 #[.int .i64 n, .int .i64 (m : Int)] w fun e w' => w = w' ∧ e = .returned (.int .i64 (n % (m : Int))) := by
  have n0 : ¬ m = 0 := by omega
  have d0 : ((m : Int) == 0) = false := beq_eq_false_iff_ne.2 (by omega)
  obtain ⟨t, ht⟩ : ∃ t, t = n.tmod m := ⟨_, rfl⟩
  have hlt : n.tmod m < m := Int.tmod_lt_of_pos n (by omega)
  have hgt : -(m : Int) < n.tmod m := by
    have := Int.tmod_lt_of_pos (-n) (show (0 : Int) < m by omega)
    rw [Int.neg_tmod] at this
    omega
  have he : n % (m : Int) = if n.tmod m < 0 then n.tmod m + m else n.tmod m := by
    have h3 := Int.tmod_eq_emod (a := n) (b := (m : Int))
    have h4 := Int.emod_nonneg n (show (m : Int) ≠ 0 by omega)
    have h5 := Int.emod_lt_of_pos n (show (0 : Int) < m by omega)
    split <;> rename_i hneg
    · rw [h3] at hneg ⊢
      split at hneg <;> rename_i hc <;> first | omega | (split <;> omega)
    · rw [h3] at hneg ⊢
      split at hneg <;> rename_i hc <;> first | omega | (split <;> omega)
  rw [← ht] at hlt hgt he
  have wt : IntKind.i64.wrap (n.tmod m) = t := by rw [← ht, IntKind.wrap_i64]; omega
  have wt2 : n.tmod m = t := ht.symm
  have HE := Lib.hid he
  have HM2 := Lib.hid hm2
  clear he ht hm2
  rcases Int.lt_or_le t 0 with hneg | hneg
  · have hw : IntKind.i64.wrap (t + m) = t + m := by have := HM2.out; rw [IntKind.wrap_i64]; omega
    go_enter Try.func15, Try.ntmps15
    go_wp2
    go_ret
    rw [HE.out, if_pos hneg]
    exact ⟨rfl, rfl⟩
  · go_enter Try.func15, Try.ntmps15
    go_wp2
    go_ret
    rw [HE.out, if_neg (by omega)]
    exact ⟨rfl, rfl⟩
end Go.Proofs.Ytfjjmhbffbhhdaa
