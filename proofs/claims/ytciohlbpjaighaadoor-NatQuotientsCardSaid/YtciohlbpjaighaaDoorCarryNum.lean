/- Sums, differences and products of lists of digits, digit by digit: no program stands in this text. -/
import Derived.Test.YtciohlbpjaighaaDoorNum
namespace Go.Proofs.YtciohlbpjaighaaDoor

theorem take_set_self (xs : List Nat) (k y : Nat) : (xs.set k y).take k = xs.take k := by
  rw [List.take_set_of_le (Nat.le_refl k)]

theorem drop_set_succ (xs : List Nat) (k y : Nat) : (xs.set k y).drop (k + 1) = xs.drop (k + 1) := by
  rw [List.drop_set_of_lt (by omega)]

theorem getD_of_drop {xs ys : List Nat} {k : Nat} (h : xs.drop k = ys.drop k) (hl : xs.length = ys.length) : xs.getD k 0 = ys.getD k 0 := by
  by_cases hk : k < xs.length
  · have h1 : (xs.drop k)[0]? = (ys.drop k)[0]? := by rw [h]
    rw [List.getElem?_drop, List.getElem?_drop, Nat.add_zero] at h1
    simp only [List.getD, h1]
  · simp only [List.getD, List.getElem?_eq_none (by omega : xs.length ≤ k), List.getElem?_eq_none (by omega : ys.length ≤ k)]

theorem drop_succ_of {xs ys : List Nat} {k : Nat} (h : xs.drop k = ys.drop k) : xs.drop (k + 1) = ys.drop (k + 1) := by
  rw [← List.drop_drop, ← List.drop_drop, h]

theorem val_take_succ' (b : Nat) (xs : List Nat) (k : Nat) : val b (xs.take (k + 1)) = val b (xs.take k) + b ^ k * xs.getD k 0 := by
  by_cases h : k < xs.length
  · exact val_take_succ b xs k h
  · rw [List.take_of_length_le (by omega), List.take_of_length_le (by omega)]
    simp [List.getD, List.getElem?_eq_none (by omega : xs.length ≤ k)]

theorem set_all_lt {b : Nat} {xs : List Nat} (h : ∀ x ∈ xs, x < b) {k y : Nat} (hy : y < b) : ∀ x ∈ xs.set k y, x < b := by
  intro x hx
  rcases List.mem_or_eq_of_mem_set hx with h1 | h1
  · exact h x h1
  · rw [h1]; exact hy

theorem getD_set_self (xs : List Nat) (k y : Nat) (h : k < xs.length) : (xs.set k y).getD k 0 = y := by simp [List.getD, h]

/-- After k digits of a sum into zs. -/
structure AddInv (b : Nat) (zs xs zs' : List Nat) (k c : Nat) : Prop where
  len : zs'.length = zs.length
  lt : ∀ x ∈ zs', x < b
  carry : c ≤ 1
  rest : zs'.drop k = zs.drop k
  sum : val b (zs'.take k) + b ^ k * c = val b (zs.take k) + val b (xs.take k)

theorem AddInv.start (b : Nat) (zs xs : List Nat) (h : ∀ x ∈ zs, x < b) : AddInv b zs xs zs 0 0 := ⟨rfl, h, by omega, rfl, by simp [val]⟩

theorem AddInv.step {b : Nat} {zs xs zs' : List Nat} {k c s d : Nat} (h : AddInv b zs xs zs' k c) (hk : k < zs.length) (hs : s < b) (hd : d ≤ 1)
    (e : zs'.getD k 0 + xs.getD k 0 + c = s + b * d) : AddInv b zs xs (zs'.set k s) (k + 1) d := by
  have hl := h.len
  refine ⟨by simpa using hl, set_all_lt h.lt hs, hd, by rw [drop_set_succ]; exact drop_succ_of h.rest, ?_⟩
  rw [val_take_succ' b (zs'.set k s), take_set_self, getD_set_self _ _ _ (by omega), val_take_succ' b zs, val_take_succ' b xs, Nat.pow_succ]
  rw [getD_of_drop h.rest hl] at e
  have h1 := h.sum
  generalize zs.getD k 0 = z at *
  generalize xs.getD k 0 = x at *
  have e2 : b ^ k * (z + x + c) = b ^ k * (s + b * d) := by rw [e]
  grind

theorem AddInv.done {b : Nat} {zs xs zs' : List Nat} {k c : Nat} (h : AddInv b zs xs zs' k c) (hk : xs.length ≤ k) (hkz : k ≤ zs.length) (hc : c = 0 ∨ k = zs.length) :
    val b zs' + b ^ zs.length * c = val b zs + val b xs := by
  have h1 := h.sum
  rw [List.take_of_length_le hk] at h1
  rcases hc with rfl | rfl
  · rw [val_split b zs' k (by rw [h.len]; exact hkz), h.rest, val_split b zs k hkz]
    simp only [Nat.mul_zero, Nat.add_zero] at h1 ⊢
    omega
  · rw [List.take_of_length_le (by rw [h.len]; omega), List.take_of_length_le (Nat.le_refl _)] at h1
    exact h1

/-- After k digits of a difference from zs. -/
structure SubInv (b : Nat) (zs xs zs' : List Nat) (k c : Nat) : Prop where
  len : zs'.length = zs.length
  lt : ∀ x ∈ zs', x < b
  carry : c ≤ 1
  rest : zs'.drop k = zs.drop k
  sum : val b (zs'.take k) + val b (xs.take k) = val b (zs.take k) + b ^ k * c

theorem SubInv.start (b : Nat) (zs xs : List Nat) (h : ∀ x ∈ zs, x < b) : SubInv b zs xs zs 0 0 := ⟨rfl, h, by omega, rfl, by simp [val]⟩

theorem SubInv.step {b : Nat} {zs xs zs' : List Nat} {k c s d : Nat} (h : SubInv b zs xs zs' k c) (hk : k < zs.length) (hs : s < b) (hd : d ≤ 1)
    (e : zs'.getD k 0 + b * d = s + xs.getD k 0 + c) : SubInv b zs xs (zs'.set k s) (k + 1) d := by
  have hl := h.len
  refine ⟨by simpa using hl, set_all_lt h.lt hs, hd, by rw [drop_set_succ]; exact drop_succ_of h.rest, ?_⟩
  rw [val_take_succ' b (zs'.set k s), take_set_self, getD_set_self _ _ _ (by omega), val_take_succ' b zs, val_take_succ' b xs, Nat.pow_succ]
  rw [getD_of_drop h.rest hl] at e
  have h1 := h.sum
  generalize zs.getD k 0 = z at *
  generalize xs.getD k 0 = x at *
  have e2 : b ^ k * (z + b * d) = b ^ k * (s + x + c) := by rw [e]
  grind

theorem SubInv.done {b : Nat} {zs xs zs' : List Nat} {k c : Nat} (h : SubInv b zs xs zs' k c) (hk : xs.length ≤ k) (hkz : k ≤ zs.length) (hc : c = 0 ∨ k = zs.length) :
    val b zs' + val b xs = val b zs + b ^ zs.length * c := by
  have h1 := h.sum
  rw [List.take_of_length_le hk] at h1
  rcases hc with rfl | rfl
  · rw [val_split b zs' k (by rw [h.len]; exact hkz), h.rest, val_split b zs k hkz]
    simp only [Nat.mul_zero, Nat.add_zero] at h1 ⊢
    omega
  · rw [List.take_of_length_le (by rw [h.len]; omega), List.take_of_length_le (Nat.le_refl _)] at h1
    exact h1

/-- After k digits of a multiple of xs, added to zs, which is as long. -/
structure MulInv (b : Nat) (zs xs : List Nat) (y : Nat) (zs' : List Nat) (k c : Nat) : Prop where
  len : zs'.length = zs.length
  lt : ∀ x ∈ zs', x < b
  carry : c < b
  rest : zs'.drop k = zs.drop k
  sum : val b (zs'.take k) + b ^ k * c = val b (zs.take k) + val b (xs.take k) * y

theorem MulInv.start {b : Nat} (hb : 0 < b) (zs xs : List Nat) (y : Nat) (h : ∀ x ∈ zs, x < b) : MulInv b zs xs y zs 0 0 := ⟨rfl, h, hb, rfl, by simp [val]⟩

theorem MulInv.step {b : Nat} {zs xs zs' : List Nat} {y k c s d : Nat} (h : MulInv b zs xs y zs' k c) (hk : k < zs.length) (hs : s < b) (hd : d < b)
    (e : xs.getD k 0 * y + zs'.getD k 0 + c = s + b * d) : MulInv b zs xs y (zs'.set k s) (k + 1) d := by
  have hl := h.len
  refine ⟨by simpa using hl, set_all_lt h.lt hs, hd, by rw [drop_set_succ]; exact drop_succ_of h.rest, ?_⟩
  rw [val_take_succ' b (zs'.set k s), take_set_self, getD_set_self _ _ _ (by omega), val_take_succ' b zs, val_take_succ' b xs, Nat.pow_succ]
  rw [getD_of_drop h.rest hl] at e
  have h1 := h.sum
  generalize zs.getD k 0 = z at *
  generalize xs.getD k 0 = x at *
  have e2 : b ^ k * (x * y + z + c) = b ^ k * (s + b * d) := by rw [e]
  grind

theorem MulInv.done {b : Nat} {zs xs zs' : List Nat} {y c : Nat} (h : MulInv b zs xs y zs' zs.length c) (hx : xs.length = zs.length) :
    val b zs' + b ^ zs.length * c = val b zs + val b xs * y := by
  have h1 := h.sum
  rw [List.take_of_length_le (by rw [h.len]; omega), List.take_of_length_le (Nat.le_refl _), List.take_of_length_le (by omega)] at h1
  exact h1

/-- One digit of it fits: no carry is lost. -/
theorem mul_step_bound {b x y z c : Nat} (hx : x < b) (hy : y < b) (hz : z < b) (hc : c < b) : (x * y + z + c) / b < b := by
  have h1 : x * y ≤ (b - 1) * (b - 1) := Nat.mul_le_mul (by omega) (by omega)
  obtain ⟨d, rfl⟩ : ∃ d, b = d + 1 := ⟨b - 1, by omega⟩
  simp only [Nat.add_sub_cancel] at h1
  rw [Nat.div_lt_iff_lt_mul (by omega)]
  have : (d + 1) * (d + 1) = d * d + d + d + 1 := by grind
  omega

end Go.Proofs.YtciohlbpjaighaaDoor
