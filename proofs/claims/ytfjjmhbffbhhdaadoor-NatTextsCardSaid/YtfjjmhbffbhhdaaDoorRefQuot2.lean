/- The numbers of the document's long division: digits of 32 bits in words of 64. -/
import Derived.Test.YtfjjmhbffbhhdaaDoorRTxt
import Derived.Test.YtfjjmhbffbhhdaaDoorDiv64
import Derived.Test.YtfjjmhbffbhhdaaDoorRefCmp
import Derived.Test.YtfjjmhbffbhhdaaDoorGuess
namespace Go.Proofs.YtfjjmhbffbhhdaaDoor
open Go.RowKit

end Go.Proofs.YtfjjmhbffbhhdaaDoor

/- The document's quotient where no long division is asked for. -/
namespace Go.Proofs.YtfjjmhbffbhhdaaDoor
open Go.RowKit

end Go.Proofs.YtfjjmhbffbhhdaaDoor

/- The numbers of the document's guess at a digit, and of the start of its long division. -/
namespace Go.Proofs.YtfjjmhbffbhhdaaDoor
open Go.RowKit

structure RGuess (b p p2 d1 d2 g r : Nat) : Prop where
  eq : g * d1 + r = p
  over : b ≤ g + 1 ∨ p * b + p2 < (g + 1) * (d1 * b + d2)

theorem RGuess.start {b p p2 d1 d2 : Nat} (h1 : 0 < d1) (h2 : p2 < b) : RGuess b p p2 d1 d2 (p / d1) (p % d1) :=
  ⟨by rw [Nat.mul_comm]; exact Nat.div_add_mod p d1, Or.inr (guess_start h1 h2)⟩

theorem RGuess.pos {b p2 d2 g r : Nat} (hb : 0 < b) (hc : b ≤ g ∨ r * b + p2 < g * d2) : 0 < g := by
  rcases hc with h | h
  · omega
  · rcases Nat.eq_zero_or_pos g with h0 | h0
    · rw [h0, Nat.zero_mul] at h; omega
    · exact h0

theorem RGuess.step {b p p2 d1 d2 g r : Nat} (h : RGuess b p p2 d1 d2 g r) (hb : 0 < b) (hc : b ≤ g ∨ r * b + p2 < g * d2) : RGuess b p p2 d1 d2 (g - 1) (r + d1) := by
  have hp := RGuess.pos hb hc
  have he := h.eq
  obtain ⟨k, rfl⟩ : ∃ k, g = k + 1 := ⟨g - 1, by omega⟩
  rw [Nat.add_sub_cancel]
  refine ⟨by rw [← he, Nat.add_mul]; omega, ?_⟩
  rcases hc with hc | hc
  · exact Or.inl hc
  · exact Or.inr (guess_over he hc)

theorem RGuess.most {b p0 p1 p2 d1 d2 g r : Nat} (h : RGuess b (p0 * b + p1) p2 d1 d2 g r) (h0 : p0 ≤ d1) (h1 : p1 < b) (hr : b ≤ r + d1) : g ≤ b := by
  rcases Nat.lt_or_ge b g with hg | hg
  · have he := h.eq
    have e1 : (b + 1) * d1 ≤ g * d1 := Nat.mul_le_mul_right _ hg
    have e2 : p0 * b ≤ d1 * b := Nat.mul_le_mul_right _ h0
    rw [Nat.add_mul, Nat.one_mul, Nat.mul_comm b d1] at e1
    omega
  · exact hg
theorem RGuess.top {b p0 p1 p2 d1 d2 g r : Nat} (h : RGuess b (p0 * b + p1) p2 d1 d2 g r) (h0 : p0 ≤ d1) (h1 : p1 < b) (hd : b ≤ 2 * d1) : g ≤ b + 1 := by
  rcases Nat.lt_or_ge (b + 1) g with hg | hg
  · have he := h.eq
    have e1 : (b + 2) * d1 ≤ g * d1 := Nat.mul_le_mul_right _ hg
    have e2 : p0 * b ≤ d1 * b := Nat.mul_le_mul_right _ h0
    rw [Nat.add_mul, Nat.mul_comm b d1] at e1
    omega
  · exact hg

end Go.Proofs.YtfjjmhbffbhhdaaDoor
