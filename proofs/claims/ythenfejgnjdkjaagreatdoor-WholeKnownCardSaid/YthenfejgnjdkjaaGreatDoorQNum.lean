/- Fractions in lowest terms, by Lean's own: sizes, sums, products and the order by their parts. -/
import Derived.Test.YthenfejgnjdkjaaGreatDoorShiftS
import Derived.Test.YthenfejgnjdkjaaGreatDoorInt
namespace Go.Proofs.YthenfejgnjdkjaaGreatDoor
open Go.RowKit

theorem bl_mono {m n : Nat} (h : m ≤ n) : bitLen m ≤ bitLen n := bitLen_lt_pow.1 (Nat.lt_of_le_of_lt h (bitLen_lt_pow.2 (Nat.le_refl _)))
theorem bl_mul {m n j k : Nat} (hm : bitLen m ≤ j) (hn : bitLen n ≤ k) : bitLen (m * n) ≤ j + k := by
  rw [← bitLen_lt_pow] at hm hn ⊢
  rw [Nat.pow_add]; exact Nat.mul_lt_mul'' hm hn
theorem bl_add {m n j k : Nat} (hm : bitLen m ≤ j) (hn : bitLen n ≤ k) : bitLen (m + n) ≤ max j k + 1 := by
  have h1 : bitLen m ≤ max j k := by omega
  have h2 : bitLen n ≤ max j k := by omega
  rw [← bitLen_lt_pow] at h1 h2 ⊢
  rw [Nat.pow_succ]; omega
theorem bl_div {m n j : Nat} (hm : bitLen m ≤ j) : bitLen (m / n) ≤ j := Nat.le_trans (bl_mono (Nat.div_le_self m n)) hm
theorem ds_bl {n k : Nat} (hk : 0 < k) (h : bitLen n ≤ 64 * k) : (ds n).length ≤ k := by
  rw [← bitLen_lt_pow, Nat.pow_mul] at h
  exact ds_le hk h
def QB (x : Rat) (k : Nat) : Prop := bitLen x.num.natAbs ≤ k ∧ bitLen x.den ≤ k
theorem QB.mono {x : Rat} {j k : Nat} (h : QB x j) (hk : j ≤ k) : QB x k := ⟨Nat.le_trans h.1 hk, Nat.le_trans h.2 hk⟩
theorem QB.pos {x : Rat} {k : Nat} (h : QB x k) : 1 ≤ k := by
  have h1 : bitLen 1 ≤ bitLen x.den := bl_mono x.den_pos
  have h2 : bitLen 1 = 1 := by decide
  have := h.2
  omega
theorem QB.neg {x : Rat} {k : Nat} (h : QB x k) : QB (-x) k := by
  refine ⟨?_, h.2⟩
  rw [Rat.neg_num, Int.natAbs_neg]; exact h.1
theorem mkRat_bits {n : Int} {d k : Nat} (h1 : bitLen n.natAbs ≤ k) (h2 : bitLen d ≤ k) (hk : 1 ≤ k) : QB (mkRat n d) k := by
  refine ⟨?_, ?_⟩
  · rw [Rat.num_mkRat]
    split
    · simp [bitLen]
    · refine Nat.le_trans (bl_mono ?_) h1
      rw [Int.natAbs_ediv_of_dvd (Int.ofNat_dvd_left.2 (Nat.gcd_dvd_right _ _)), Int.natAbs_natCast]
      exact Nat.div_le_self _ _
  · rw [Rat.den_mkRat]
    split
    · have h2 : bitLen 1 = 1 := by decide
      omega
    · exact bl_div h2
theorem QB.add {x y : Rat} {j k : Nat} (h1 : QB x j) (h2 : QB y k) : QB (x + y) (j + k + 1) := by
  rw [Rat.add_def']
  refine mkRat_bits ?_ (Nat.le_trans (bl_mul h1.2 h2.2) (by omega)) (by omega)
  refine Nat.le_trans (bl_mono (Int.natAbs_add_le _ _)) ?_
  rw [Int.natAbs_mul, Int.natAbs_mul, Int.natAbs_natCast, Int.natAbs_natCast]
  refine Nat.le_trans (bl_add (bl_mul h1.1 h2.2) (bl_mul h2.1 h1.2)) (by omega)
theorem QB.sub {x y : Rat} {j k : Nat} (h1 : QB x j) (h2 : QB y k) : QB (x - y) (j + k + 1) := by
  rw [Rat.sub_eq_add_neg]; exact h1.add h2.neg
end Go.Proofs.YthenfejgnjdkjaaGreatDoor
