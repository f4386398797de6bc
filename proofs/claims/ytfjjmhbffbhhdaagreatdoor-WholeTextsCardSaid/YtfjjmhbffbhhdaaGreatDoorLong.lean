/- Sums, differences and products of lists of digits, digit by digit: no program stands in this text. -/
import Derived.Test.YtfjjmhbffbhhdaaGreatDoorDecTxt
import Derived.Test.YtfjjmhbffbhhdaaGreatDoorShiftS
namespace Go.Proofs.YtfjjmhbffbhhdaaGreatDoor

theorem take_set_self (xs : List Nat) (k y : Nat) : (xs.set k y).take k = xs.take k := by
  rw [List.take_set_of_le (Nat.le_refl k)]

theorem drop_set_succ (xs : List Nat) (k y : Nat) : (xs.set k y).drop (k + 1) = xs.drop (k + 1) := by
  rw [List.drop_set_of_lt (by omega)]

theorem getD_of_drop {xs ys : List Nat} {k : Nat} (h : xs.drop k = ys.drop k) (hl : xs.length = ys.length) : xs.getD k 0 = ys.getD k 0 := by
  by_cases hk : k < xs.length
  · have h1 : (xs.drop k)[0]? = (ys.drop k)[0]? := by rw [h]
    rw [List.getElem?_drop, List.getElem?_drop, Nat.add_zero] at h1
    simp only [List.getD, h1]
  · simp only [List.getD, List.getElem?_eq_none (by omega : xs.length ≤ k), List.getElem?_eq_none (by omega : ys.length ≤ k)]

theorem drop_succ_of {xs ys : List Nat} {k : Nat} (h : xs.drop k = ys.drop k) : xs.drop (k + 1) = ys.drop (k + 1) := by
  rw [← List.drop_drop, ← List.drop_drop, h]

theorem val_take_succ' (b : Nat) (xs : List Nat) (k : Nat) : val b (xs.take (k + 1)) = val b (xs.take k) + b ^ k * xs.getD k 0 := by
  by_cases h : k < xs.length
  · exact val_take_succ b xs k h
  · rw [List.take_of_length_le (by omega), List.take_of_length_le (by omega)]
    simp [List.getD, List.getElem?_eq_none (by omega : xs.length ≤ k)]

theorem set_all_lt {b : Nat} {xs : List Nat} (h : ∀ x ∈ xs, x < b) {k y : Nat} (hy : y < b) : ∀ x ∈ xs.set k y, x < b := by
  intro x hx
  rcases List.mem_or_eq_of_mem_set hx with h1 | h1
  · exact h x h1
  · rw [h1]; exact hy

theorem getD_set_self (xs : List Nat) (k y : Nat) (h : k < xs.length) : (xs.set k y).getD k 0 = y := by simp [List.getD, h]

structure AddInv (b : Nat) (zs xs zs' : List Nat) (k c : Nat) : Prop where
  len : zs'.length = zs.length
  lt : ∀ x ∈ zs', x < b
  carry : c ≤ 1
  rest : zs'.drop k = zs.drop k
  sum : val b (zs'.take k) + b ^ k * c = val b (zs.take k) + val b (xs.take k)

theorem AddInv.start (b : Nat) (zs xs : List Nat) (h : ∀ x ∈ zs, x < b) : AddInv b zs xs zs 0 0 := ⟨rfl, h, by omega, rfl, by simp [val]⟩

theorem AddInv.step {b : Nat} {zs xs zs' : List Nat} {k c s d : Nat} (h : AddInv b zs xs zs' k c) (hk : k < zs.length) (hs : s < b) (hd : d ≤ 1)
    (e : zs'.getD k 0 + xs.getD k 0 + c = s + b * d) : AddInv b zs xs (zs'.set k s) (k + 1) d := by
  have hl := h.len
  refine ⟨by simpa using hl, set_all_lt h.lt hs, hd, by rw [drop_set_succ]; exact drop_succ_of h.rest, ?_⟩
  rw [val_take_succ' b (zs'.set k s), take_set_self, getD_set_self _ _ _ (by omega), val_take_succ' b zs, val_take_succ' b xs, Nat.pow_succ]
  rw [getD_of_drop h.rest hl] at e
  have h1 := h.sum
  generalize zs.getD k 0 = z at *
  generalize xs.getD k 0 = x at *
  have e2 : b ^ k * (z + x + c) = b ^ k * (s + b * d) := by rw [e]
  grind

theorem AddInv.done {b : Nat} {zs xs zs' : List Nat} {k c : Nat} (h : AddInv b zs xs zs' k c) (hk : xs.length ≤ k) (hkz : k ≤ zs.length) (hc : c = 0 ∨ k = zs.length) :
    val b zs' + b ^ zs.length * c = val b zs + val b xs := by
  have h1 := h.sum
  rw [List.take_of_length_le hk] at h1
  rcases hc with rfl | rfl
  · rw [val_split b zs' k (by rw [h.len]; exact hkz), h.rest, val_split b zs k hkz]
    simp only [Nat.mul_zero, Nat.add_zero] at h1 ⊢
    omega
  · rw [List.take_of_length_le (by rw [h.len]; omega), List.take_of_length_le (Nat.le_refl _)] at h1
    exact h1

structure SubInv (b : Nat) (zs xs zs' : List Nat) (k c : Nat) : Prop where
  len : zs'.length = zs.length
  lt : ∀ x ∈ zs', x < b
  carry : c ≤ 1
  rest : zs'.drop k = zs.drop k
  sum : val b (zs'.take k) + val b (xs.take k) = val b (zs.take k) + b ^ k * c

theorem SubInv.start (b : Nat) (zs xs : List Nat) (h : ∀ x ∈ zs, x < b) : SubInv b zs xs zs 0 0 := ⟨rfl, h, by omega, rfl, by simp [val]⟩

theorem SubInv.step {b : Nat} {zs xs zs' : List Nat} {k c s d : Nat} (h : SubInv b zs xs zs' k c) (hk : k < zs.length) (hs : s < b) (hd : d ≤ 1)
    (e : zs'.getD k 0 + b * d = s + xs.getD k 0 + c) : SubInv b zs xs (zs'.set k s) (k + 1) d := by
  have hl := h.len
  refine ⟨by simpa using hl, set_all_lt h.lt hs, hd, by rw [drop_set_succ]; exact drop_succ_of h.rest, ?_⟩
  rw [val_take_succ' b (zs'.set k s), take_set_self, getD_set_self _ _ _ (by omega), val_take_succ' b zs, val_take_succ' b xs, Nat.pow_succ]
  rw [getD_of_drop h.rest hl] at e
  have h1 := h.sum
  generalize zs.getD k 0 = z at *
  generalize xs.getD k 0 = x at *
  have e2 : b ^ k * (z + b * d) = b ^ k * (s + x + c) := by rw [e]
  grind

theorem SubInv.done {b : Nat} {zs xs zs' : List Nat} {k c : Nat} (h : SubInv b zs xs zs' k c) (hk : xs.length ≤ k) (hkz : k ≤ zs.length) (hc : c = 0 ∨ k = zs.length) :
    val b zs' + val b xs = val b zs + b ^ zs.length * c := by
  have h1 := h.sum
  rw [List.take_of_length_le hk] at h1
  rcases hc with rfl | rfl
  · rw [val_split b zs' k (by rw [h.len]; exact hkz), h.rest, val_split b zs k hkz]
    simp only [Nat.mul_zero, Nat.add_zero] at h1 ⊢
    omega
  · rw [List.take_of_length_le (by rw [h.len]; omega), List.take_of_length_le (Nat.le_refl _)] at h1
    exact h1

structure MulInv (b : Nat) (zs xs : List Nat) (y : Nat) (zs' : List Nat) (k c : Nat) : Prop where
  len : zs'.length = zs.length
  lt : ∀ x ∈ zs', x < b
  carry : c < b
  rest : zs'.drop k = zs.drop k
  sum : val b (zs'.take k) + b ^ k * c = val b (zs.take k) + val b (xs.take k) * y

theorem MulInv.start {b : Nat} (hb : 0 < b) (zs xs : List Nat) (y : Nat) (h : ∀ x ∈ zs, x < b) : MulInv b zs xs y zs 0 0 := ⟨rfl, h, hb, rfl, by simp [val]⟩

theorem MulInv.step {b : Nat} {zs xs zs' : List Nat} {y k c s d : Nat} (h : MulInv b zs xs y zs' k c) (hk : k < zs.length) (hs : s < b) (hd : d < b)
    (e : xs.getD k 0 * y + zs'.getD k 0 + c = s + b * d) : MulInv b zs xs y (zs'.set k s) (k + 1) d := by
  have hl := h.len
  refine ⟨by simpa using hl, set_all_lt h.lt hs, hd, by rw [drop_set_succ]; exact drop_succ_of h.rest, ?_⟩
  rw [val_take_succ' b (zs'.set k s), take_set_self, getD_set_self _ _ _ (by omega), val_take_succ' b zs, val_take_succ' b xs, Nat.pow_succ]
  rw [getD_of_drop h.rest hl] at e
  have h1 := h.sum
  generalize zs.getD k 0 = z at *
  generalize xs.getD k 0 = x at *
  have e2 : b ^ k * (x * y + z + c) = b ^ k * (s + b * d) := by rw [e]
  grind

theorem MulInv.done {b : Nat} {zs xs zs' : List Nat} {y c : Nat} (h : MulInv b zs xs y zs' zs.length c) (hx : xs.length = zs.length) :
    val b zs' + b ^ zs.length * c = val b zs + val b xs * y := by
  have h1 := h.sum
  rw [List.take_of_length_le (by rw [h.len]; omega), List.take_of_length_le (Nat.le_refl _), List.take_of_length_le (by omega)] at h1
  exact h1

theorem mul_step_bound {b x y z c : Nat} (hx : x < b) (hy : y < b) (hz : z < b) (hc : c < b) : (x * y + z + c) / b < b := by
  have h1 : x * y ≤ (b - 1) * (b - 1) := Nat.mul_le_mul (by omega) (by omega)
  obtain ⟨d, rfl⟩ : ∃ d, b = d + 1 := ⟨b - 1, by omega⟩
  simp only [Nat.add_sub_cancel] at h1
  rw [Nat.div_lt_iff_lt_mul (by omega)]
  have : (d + 1) * (d + 1) = d * d + d + d + 1 := by grind
  omega

end Go.Proofs.YtfjjmhbffbhhdaaGreatDoor

/- Long division and moves by bits, in numbers and lists of digits alone: no program stands in this text. -/
namespace Go.Proofs.YtfjjmhbffbhhdaaGreatDoor

theorem guess_fits {b d1 d2 p p2 q r : Nat} (h : q * d1 + r = p) (hle : q * d2 ≤ r * b + p2) : q * (d1 * b + d2) ≤ p * b + p2 := by
  subst h
  have e1 : q * (d1 * b + d2) = q * d1 * b + q * d2 := by grind
  have e2 : (q * d1 + r) * b = q * d1 * b + r * b := by grind
  omega
theorem guess_over {b d1 d2 p p2 q r : Nat} (h : q * d1 + r = p) (hgt : r * b + p2 < q * d2) : p * b + p2 < q * (d1 * b + d2) := by
  subst h
  have e1 : q * (d1 * b + d2) = q * d1 * b + q * d2 := by grind
  have e2 : (q * d1 + r) * b = q * d1 * b + r * b := by grind
  omega
theorem guess_start {b d1 d2 p p2 : Nat} (h1 : 0 < d1) (h2 : p2 < b) : p * b + p2 < (p / d1 + 1) * (d1 * b + d2) := by
  have h := Nat.lt_mul_div_succ p h1
  generalize p / d1 = q at *
  have h3 : (p + 1) * b ≤ d1 * (q + 1) * b := Nat.mul_le_mul_right b h
  have h4 : (q + 1) * (d1 * b + d2) = d1 * (q + 1) * b + (q + 1) * d2 := by grind
  have h5 : (p + 1) * b = p * b + b := by grind
  omega

theorem guess_near {K P D p3 d2 pl dl : Nat} (hK : 0 < K) (hP : P = p3 * K + pl) (hpl : pl < K) (hD : D = d2 * K + dl) (hdl : dl < K) (hd2 : 0 < d2) (hq : p3 / d2 ≤ d2) :
    P / D ≤ p3 / d2 ∧ p3 / d2 ≤ P / D + 1 := by
  have hD0 : 0 < D := by
    have : 0 < d2 * K := Nat.mul_pos hd2 hK
    omega
  constructor
  · refine (Nat.le_div_iff_mul_le hd2).2 ?_
    have h1 : P / D * D ≤ P := Nat.div_mul_le_self P D
    generalize P / D = q at *
    have h2 : q * d2 * K ≤ q * D := by
      rw [Nat.mul_assoc]
      exact Nat.mul_le_mul_left q (by omega)
    have h3 : q * d2 * K < (p3 + 1) * K := by
      have : (p3 + 1) * K = p3 * K + K := by grind
      omega
    have := Nat.lt_of_mul_lt_mul_right h3
    omega
  · have h1 : p3 / d2 * d2 ≤ p3 := Nat.div_mul_le_self p3 d2
    generalize p3 / d2 = g at *
    rcases Nat.eq_zero_or_pos g with h0 | h0
    · rw [h0]; exact Nat.zero_le _
    · obtain ⟨k, rfl⟩ : ∃ k, g = k + 1 := ⟨g - 1, by omega⟩
      have : k ≤ P / D := by
        refine (Nat.le_div_iff_mul_le hD0).2 ?_
        have h2 : (k + 1) * d2 * K ≤ p3 * K := Nat.mul_le_mul_right K h1
        have h3 : (k + 1) * d2 * K = k * d2 * K + d2 * K := by grind
        have h4 : k * D = k * d2 * K + k * dl := by rw [hD]; grind
        have h5 : k * dl ≤ d2 * K := Nat.mul_le_mul (by omega) (by omega)
        omega
      omega

theorem guess_top {B K d1 P D dl : Nat} (hB : 2 ≤ B) (hD : D = d1 * K + dl) (hdl : dl < K) (hd : B ≤ 2 * d1) (hP : d1 * B * K ≤ P) (hlt : P < B * D) :
    P / D ≤ B - 1 ∧ B - 1 ≤ P / D + 1 := by
  have hD0 : 0 < D := by
    rcases Nat.eq_zero_or_pos D with h | h
    · rw [h] at hlt; omega
    · exact h
  constructor
  · have : P / D < B := (Nat.div_lt_iff_lt_mul hD0).2 hlt
    omega
  · obtain ⟨e, rfl⟩ : ∃ e, B = e + 2 := ⟨B - 2, by omega⟩
    have : e ≤ P / D := by
      refine (Nat.le_div_iff_mul_le hD0).2 ?_
      have h1 : e * D = e * d1 * K + e * dl := by rw [hD]; grind
      have h2 : d1 * (e + 2) * K = e * d1 * K + (2 * d1) * K := by grind
      have h3 : e * dl ≤ (2 * d1) * K := Nat.mul_le_mul (by omega) (by omega)
      omega
    omega

structure TimesInv (b : Nat) (zs xs : List Nat) (y : Nat) (zs' : List Nat) (k c : Nat) : Prop where
  len : zs'.length = zs.length
  lt : ∀ x ∈ zs', x < b
  carry : c < b
  rest : zs'.drop k = zs.drop k
  sum : val b (zs'.take k) + val b (xs.take k) * y = val b (zs.take k) + b ^ k * c

theorem TimesInv.start {b : Nat} (hb : 0 < b) (zs xs : List Nat) (y : Nat) (h : ∀ x ∈ zs, x < b) : TimesInv b zs xs y zs 0 0 := ⟨rfl, h, hb, rfl, by simp [val]⟩

theorem TimesInv.step {b : Nat} {zs xs zs' : List Nat} {y k c s d : Nat} (h : TimesInv b zs xs y zs' k c) (hk : k < zs.length) (hs : s < b) (hd : d < b)
    (e : s + xs.getD k 0 * y + c = zs'.getD k 0 + b * d) : TimesInv b zs xs y (zs'.set k s) (k + 1) d := by
  have hl := h.len
  refine ⟨by simpa using hl, set_all_lt h.lt hs, hd, by rw [drop_set_succ]; exact drop_succ_of h.rest, ?_⟩
  rw [val_take_succ' b (zs'.set k s), take_set_self, getD_set_self _ _ _ (by omega), val_take_succ' b zs, val_take_succ' b xs, Nat.pow_succ]
  rw [getD_of_drop h.rest hl] at e
  have h1 := h.sum
  generalize zs.getD k 0 = z at *
  generalize xs.getD k 0 = x at *
  have e2 : b ^ k * (s + x * y + c) = b ^ k * (z + b * d) := by rw [e]
  grind

theorem TimesInv.done {b : Nat} {zs xs zs' : List Nat} {y k c s d : Nat} (h : TimesInv b zs xs y zs' k c) (hx : xs.length = k) (hz : zs.length = k + 1)
    (e : zs'.getD k 0 + b * d = s + c) : val b (zs'.set k s) + val b xs * y = val b zs + b ^ (k + 1) * d := by
  have hl := h.len
  have h1 := h.sum
  rw [List.take_of_length_le (l := xs) (by omega)] at h1
  have e1 : val b (zs'.set k s) = val b (zs'.take k) + b ^ k * s := by
    have := val_take_succ' b (zs'.set k s) k
    rw [take_set_self, getD_set_self _ _ _ (by omega), List.take_of_length_le (by rw [List.length_set]; omega)] at this
    exact this
  have e2 : val b zs = val b (zs.take k) + b ^ k * zs.getD k 0 := by
    have := val_take_succ' b zs k
    rw [List.take_of_length_le (by omega)] at this
    exact this
  rw [getD_of_drop h.rest hl] at e
  rw [e1, e2, Nat.pow_succ]
  generalize zs.getD k 0 = z at *
  have e3 : b ^ k * (z + b * d) = b ^ k * (s + c) := by rw [e]
  grind

theorem times_step {b x y z c : Nat} (hx : x < b) (hy : y < b) (hz : z < b) (hc : c < b) : ∃ s d, s + x * y + c = z + b * d ∧ s < b ∧ d < b := by
  have h1 : x * y ≤ (b - 1) * (b - 1) := Nat.mul_le_mul (by omega) (by omega)
  obtain ⟨e, rfl⟩ : ∃ e, b = e + 1 := ⟨b - 1, by omega⟩
  simp only [Nat.add_sub_cancel] at h1
  generalize x * y = p at *
  have hm := Nat.mod_add_div (p + c) (e + 1)
  have hlt := Nat.mod_lt (p + c) (by omega : 0 < e + 1)
  generalize (p + c) % (e + 1) = t at *
  generalize hq : (p + c) / (e + 1) = q at *
  have hsq : (e + 1) * e = e * e + e := by grind
  by_cases ht : t ≤ z
  · refine ⟨z - t, q, by omega, by omega, ?_⟩
    rcases Nat.lt_or_ge q (e + 1) with h | h
    · exact h
    · have : (e + 1) * (e + 1) ≤ (e + 1) * q := Nat.mul_le_mul_left _ h
      have : (e + 1) * (e + 1) = e * e + e + (e + 1) := by grind
      omega
  · refine ⟨z + (e + 1) - t, q + 1, by have : (e + 1) * (q + 1) = (e + 1) * q + (e + 1) := by grind
                                       omega, by omega, ?_⟩
    rcases Nat.lt_or_ge q e with h | h
    · omega
    · have : (e + 1) * e ≤ (e + 1) * q := Nat.mul_le_mul_left _ h
      omega

structure LongInv (b n D : Nat) (rs0 rs qs : List Nat) (i : Nat) : Prop where
  len : rs.length = rs0.length
  qlen : qs.length + n = rs0.length
  lt : ∀ x ∈ rs, x < b
  qlt : ∀ x ∈ qs, x < b
  low : rs.take i = rs0.take i
  small : val b (rs.drop i) < D
  sum : val b (rs.drop i) + val b (qs.drop i) * D = val b (rs0.drop i)

theorem val_nil_ge {b : Nat} {xs : List Nat} {k : Nat} (_hb : 0 < b) (h : val b xs < b ^ k) : val b (xs.take k) = val b xs ∧ val b (xs.drop k) = 0 := by
  rcases Nat.lt_or_ge xs.length k with hl | hl
  · rw [List.take_of_length_le (by omega), List.drop_eq_nil_of_le (by omega)]; exact ⟨rfl, rfl⟩
  · have h1 := val_split b xs k hl
    rcases Nat.eq_zero_or_pos (val b (xs.drop k)) with h0 | h0
    · rw [h0] at h1; exact ⟨by omega, h0⟩
    · have : b ^ k * 1 ≤ b ^ k * val b (xs.drop k) := Nat.mul_le_mul_left _ h0
      omega

theorem getD_of_take {xs ys : List Nat} {i : Nat} (h : xs.take (i + 1) = ys.take (i + 1)) : xs.getD i 0 = ys.getD i 0 := by
  have h1 : (xs.take (i + 1))[i]? = (ys.take (i + 1))[i]? := by rw [h]
  rw [List.getElem?_take_of_lt (by omega), List.getElem?_take_of_lt (by omega)] at h1
  simp only [List.getD, h1]
theorem take_of_take {xs ys : List Nat} {i : Nat} (h : xs.take (i + 1) = ys.take (i + 1)) : xs.take i = ys.take i := by
  have h1 : (xs.take (i + 1)).take i = (ys.take (i + 1)).take i := by rw [h]
  rwa [List.take_take, List.take_take, Nat.min_eq_left (by omega)] at h1

theorem LongInv.part {b n D : Nat} {rs0 rs qs : List Nat} {i : Nat} (h : LongInv b n D rs0 rs qs (i + 1)) (hb : 0 < b) (hD : D ≤ b ^ n) (hi : i < qs.length) :
    val b ((rs.drop i).take (n + 1)) = val b (rs.drop i) ∧ val b (rs.drop i) < b * D ∧ val b (rs.drop (i + (n + 1))) = 0 ∧ val b (rs.drop i) = rs0.getD i 0 + b * val b (rs.drop (i + 1)) := by
  have h1 := h.len
  have h2 := h.qlen
  have e1 := val_drop_cons b rs i (by omega)
  have e2 := getD_lt h.lt hb i
  rw [getD_of_take h.low] at e1 e2
  have h3 := h.small
  have hlt : val b (rs.drop i) < b * D := by
    have : b * (val b (rs.drop (i + 1)) + 1) ≤ b * D := Nat.mul_le_mul_left b h3
    rw [Nat.mul_add] at this
    omega
  have hlt2 : val b (rs.drop i) < b ^ (n + 1) := by
    rw [Nat.pow_succ, Nat.mul_comm (b ^ n)]
    exact Nat.lt_of_lt_of_le hlt (Nat.mul_le_mul_left b hD)
  obtain ⟨e3, e4⟩ := val_nil_ge hb hlt2
  rw [List.drop_drop] at e4
  exact ⟨e3, hlt, e4, e1⟩

theorem LongInv.step {b n D : Nat} {rs0 rs qs : List Nat} {i q : Nat} {zs : List Nat} (h : LongInv b n D rs0 rs qs (i + 1)) (hb : 0 < b) (hD : D ≤ b ^ n) (hi : i < qs.length) (hzl : zs.length = n + 1) (hz : ∀ x ∈ zs, x < b) (hq : q < b)
    (hs : val b zs < D) (e : val b zs + q * D = val b ((rs.drop i).take (n + 1))) : LongInv b n D rs0 (rs.take i ++ zs ++ rs.drop (i + (n + 1))) (qs.set i q) i := by
  obtain ⟨p1, p2, p3, p4⟩ := h.part hb hD hi
  have h1 := h.len
  have h2 := h.qlen
  have hil : (rs.take i).length = i := by rw [List.length_take]; omega
  have hdrop : (rs.take i ++ zs ++ rs.drop (i + (n + 1))).drop i = zs ++ rs.drop (i + (n + 1)) := by
    rw [List.append_assoc, List.drop_append_of_le_length (by omega), List.drop_eq_nil_of_le (by omega), List.nil_append]
  have hval : val b (zs ++ rs.drop (i + (n + 1))) = val b zs := by rw [val_append, p3]; simp
  refine ⟨?_, by rw [List.length_set]; exact h2, ?_, set_all_lt h.qlt hq, ?_, by rw [hdrop, hval]; exact hs, ?_⟩
  · rw [List.length_append, List.length_append, hil, hzl, List.length_drop]; omega
  · intro x hx
    rcases List.mem_append.1 hx with hx | hx
    · rcases List.mem_append.1 hx with hx | hx
      · exact h.lt x (List.mem_of_mem_take hx)
      · exact hz x hx
    · exact h.lt x (List.mem_of_mem_drop hx)
  · rw [List.append_assoc, List.take_append_of_le_length (by omega), List.take_of_length_le (by omega)]
    exact take_of_take h.low
  · rw [hdrop, hval, val_drop_cons b (qs.set i q) i (by rw [List.length_set]; exact hi), drop_set_succ, getD_set_self _ _ _ hi, val_drop_cons b rs0 i (by omega), ← h.sum]
    rw [p1, p4] at e
    generalize val b (qs.drop (i + 1)) = Q at *
    generalize val b (rs.drop (i + 1)) = R at *
    have e5 : (q + b * Q) * D = q * D + b * (Q * D) := by grind
    rw [e5]
    have e6 : b * (R + Q * D) = b * R + b * (Q * D) := by grind
    omega

structure WordInv (b d : Nat) (ws ws' : List Nat) (i r : Nat) : Prop where
  len : ws'.length = ws.length
  lt : ∀ x ∈ ws', x < b
  low : ws'.take i = ws.take i
  rest : r < d
  sum : val b (ws'.drop i) * d + r = val b (ws.drop i)

theorem WordInv.start {b d : Nat} {ws : List Nat} (hd : 0 < d) (h : ∀ x ∈ ws, x < b) : WordInv b d ws ws ws.length 0 :=
  ⟨rfl, h, rfl, hd, by rw [List.drop_eq_nil_of_le (Nat.le_refl _)]; simp [val]⟩

theorem WordInv.step {b d : Nat} {ws ws' : List Nat} {i r q s : Nat} (h : WordInv b d ws ws' (i + 1) r) (hi : i < ws.length) (hq : q < b) (hs : s < d) (e : q * d + s = r * b + ws'.getD i 0) :
    WordInv b d ws (ws'.set i q) i s := by
  have hl := h.len
  refine ⟨by rw [List.length_set]; exact hl, set_all_lt h.lt hq, by rw [take_set_self]; exact take_of_take h.low, hs, ?_⟩
  rw [val_drop_cons b (ws'.set i q) i (by rw [List.length_set]; omega), drop_set_succ, getD_set_self _ _ _ (by omega), val_drop_cons b ws i hi, ← h.sum]
  rw [getD_of_take h.low] at e
  generalize val b (ws'.drop (i + 1)) = V at *
  have e1 : (q + b * V) * d = q * d + b * (V * d) := by grind
  have e2 : b * (V * d + r) = b * (V * d) + r * b := by grind
  omega
theorem word_digit {b d r x : Nat} (hr : r < d) (hx : x < b) : (r * b + x) / d < b := by
  refine (Nat.div_lt_iff_lt_mul (by omega)).2 ?_
  have : (r + 1) * b ≤ d * b := Nat.mul_le_mul_right b hr
  have e : (r + 1) * b = r * b + b := by grind
  have : d * b = b * d := Nat.mul_comm _ _
  omega

structure UpInv (xs zs : List Nat) (skip part k : Nat) : Prop where
  len : zs.length = xs.length + skip + 1
  lt : ∀ x ∈ zs, x < 2 ^ 64
  top : zs.getD (skip + k) 0 < 2 ^ part
  rest : ∀ j, skip + k < j → zs.getD j 0 = 0
  sum : val (2 ^ 64) zs = val (2 ^ 64) (xs.take k) * 2 ^ part * (2 ^ 64) ^ skip

theorem UpInv.start (xs : List Nat) (skip part : Nat) : UpInv xs (List.replicate (xs.length + skip + 1) 0) skip part 0 := by
  have hz : ∀ j, (List.replicate (xs.length + skip + 1) 0).getD j 0 = 0 := by
    intro j
    by_cases h : j < xs.length + skip + 1
    · simp [List.getD, h]
    · simp [List.getD, h]
  refine ⟨by simp, fun x hx => by rw [List.eq_of_mem_replicate hx]; omega, by rw [hz]; exact Nat.two_pow_pos part, fun j _ => hz j, ?_⟩
  rw [val_replicate_zero]; simp [val]

theorem up_digit {x part : Nat} (hx : x < 2 ^ 64) (hp : part < 64) : x * 2 ^ part = x * 2 ^ part % 2 ^ 64 + 2 ^ 64 * (x / 2 ^ (64 - part)) ∧ x / 2 ^ (64 - part) < 2 ^ part ∧ 2 ^ part ∣ x * 2 ^ part % 2 ^ 64 := by
  have hpow : 2 ^ 64 = 2 ^ (64 - part) * 2 ^ part := by rw [← Nat.pow_add]; congr 1; omega
  refine ⟨?_, ?_, ?_⟩
  · have h1 : x * 2 ^ part / 2 ^ 64 = x / 2 ^ (64 - part) := by rw [hpow, Nat.mul_div_mul_right _ _ (Nat.two_pow_pos part)]
    rw [← h1]; exact (Nat.mod_add_div _ _).symm
  · rw [Nat.div_lt_iff_lt_mul (Nat.two_pow_pos _), Nat.mul_comm, ← hpow]; exact hx
  · refine (Nat.dvd_mod_iff ?_).2 (Nat.dvd_mul_left _ _)
    rw [hpow]; exact Nat.dvd_mul_left _ _

theorem add_fits {z m part : Nat} (hp : part < 64) (hz : z < 2 ^ part) (hm : m < 2 ^ 64) (hd : 2 ^ part ∣ m) : z + m < 2 ^ 64 := by
  obtain ⟨q, rfl⟩ := hd
  have hpow : 2 ^ 64 = 2 ^ part * 2 ^ (64 - part) := by rw [← Nat.pow_add]; congr 1; omega
  rw [hpow] at hm ⊢
  have h1 : q < 2 ^ (64 - part) := Nat.lt_of_mul_lt_mul_left hm
  have h2 : 2 ^ part * (q + 1) ≤ 2 ^ part * 2 ^ (64 - part) := Nat.mul_le_mul_left _ h1
  rw [Nat.mul_add] at h2
  omega

theorem UpInv.step {xs zs : List Nat} {skip part k : Nat} (h : UpInv xs zs skip part k) (hk : k < xs.length) (hX : ∀ x ∈ xs, x < 2 ^ 64) (hp : part < 64) :
    UpInv xs ((zs.set (skip + k) (zs.getD (skip + k) 0 + xs.getD k 0 * 2 ^ part % 2 ^ 64)).set (skip + k + 1) (xs.getD k 0 / 2 ^ (64 - part))) skip part (k + 1) := by
  have hl := h.len
  have hx := getD_lt hX (by omega) k
  obtain ⟨e1, e2, e3⟩ := up_digit hx hp
  have hml : xs.getD k 0 * 2 ^ part % 2 ^ 64 < 2 ^ 64 := Nat.mod_lt _ (by omega)
  have hfit := add_fits hp h.top hml e3
  have hhi : xs.getD k 0 / 2 ^ (64 - part) < 2 ^ 64 := Nat.lt_of_le_of_lt (Nat.div_le_self _ _) hx
  have h2 : skip + k + 1 < zs.length := by omega
  refine ⟨by simpa using hl, set_all_lt (set_all_lt h.lt hfit) hhi, ?_, ?_, ?_⟩
  · rw [show skip + (k + 1) = skip + k + 1 from by omega, getD_set_self _ _ _ (by rw [List.length_set]; exact h2)]; exact e2
  · intro j hj
    have h3 := h.rest j (by omega)
    have h4 : ¬ skip + k + 1 = j := by omega
    have h5 : ¬ skip + k = j := by omega
    simp only [List.getD] at h3 ⊢
    rw [List.getElem?_set_ne h4, List.getElem?_set_ne h5]
    exact h3
  · have v1 := val_set (2 ^ 64) zs (skip + k) (zs.getD (skip + k) 0 + xs.getD k 0 * 2 ^ part % 2 ^ 64) (by omega)
    have v2 := val_set (2 ^ 64) (zs.set (skip + k) (zs.getD (skip + k) 0 + xs.getD k 0 * 2 ^ part % 2 ^ 64)) (skip + k + 1) (xs.getD k 0 / 2 ^ (64 - part)) (by rw [List.length_set]; exact h2)
    have h3 : (zs.set (skip + k) (zs.getD (skip + k) 0 + xs.getD k 0 * 2 ^ part % 2 ^ 64)).getD (skip + k + 1) 0 = 0 := by
      have h3 := h.rest (skip + k + 1) (by omega)
      simp only [List.getD] at h3 ⊢
      rw [List.getElem?_set_ne (by omega)]
      exact h3
    rw [h3] at v2
    rw [h.sum] at v1
    rw [val_take_succ' (2 ^ 64) xs]
    generalize val (2 ^ 64) (zs.set (skip + k) (zs.getD (skip + k) 0 + xs.getD k 0 * 2 ^ part % 2 ^ 64)) = V1 at *
    generalize val (2 ^ 64) (List.set _ _ _) = V2 at *
    generalize zs.getD (skip + k) 0 = z at *
    generalize val (2 ^ 64) (xs.take k) = X at *
    generalize xs.getD k 0 = x at *
    generalize x * 2 ^ part % 2 ^ 64 = lo at *
    generalize x / 2 ^ (64 - part) = hi at *
    generalize 2 ^ part = p at *
    rw [Nat.pow_succ (2 ^ 64), Nat.pow_add (2 ^ 64)] at v2
    rw [Nat.pow_add (2 ^ 64)] at v1
    generalize (2 ^ 64) ^ skip = S at *
    generalize (2 ^ 64) ^ k = T at *
    generalize (2 ^ 64 : Nat) = B at *
    have e4 : S * T * (x * p) = S * T * (lo + B * hi) := by rw [e1]
    grind

structure DownInv (z0 zs : List Nat) (part k : Nat) : Prop where
  len : zs.length = z0.length
  lt : ∀ x ∈ zs, x < 2 ^ 64
  rest : zs.drop k = z0.drop k
  sum : val (2 ^ 64) (zs.take k) * 2 ^ part + z0.getD 0 0 % 2 ^ part = val (2 ^ 64) (z0.take k) + (2 ^ 64) ^ k * (z0.getD k 0 % 2 ^ part)

theorem DownInv.start (z0 : List Nat) (part : Nat) (h : ∀ x ∈ z0, x < 2 ^ 64) : DownInv z0 z0 part 0 := ⟨rfl, h, rfl, by simp [val]⟩

theorem down_digit {y part : Nat} (hp : part < 64) : y * 2 ^ (64 - part) % 2 ^ 64 = y % 2 ^ part * 2 ^ (64 - part) := by
  have hpow : 2 ^ 64 = 2 ^ part * 2 ^ (64 - part) := by rw [← Nat.pow_add]; congr 1; omega
  rw [hpow, Nat.mul_mod_mul_right]

theorem down_fits {x y part : Nat} (hx : x < 2 ^ 64) (hp : part < 64) : x / 2 ^ part < 2 ^ (64 - part) ∧ x / 2 ^ part + y % 2 ^ part * 2 ^ (64 - part) < 2 ^ 64 := by
  have hpow : 2 ^ 64 = 2 ^ part * 2 ^ (64 - part) := by rw [← Nat.pow_add]; congr 1; omega
  have h1 : x / 2 ^ part < 2 ^ (64 - part) := by rw [Nat.div_lt_iff_lt_mul (Nat.two_pow_pos _), Nat.mul_comm, ← hpow]; exact hx
  have h2 : y % 2 ^ part < 2 ^ part := Nat.mod_lt _ (Nat.two_pow_pos _)
  refine ⟨h1, ?_⟩
  rw [hpow]
  have h3 : (y % 2 ^ part + 1) * 2 ^ (64 - part) ≤ 2 ^ part * 2 ^ (64 - part) := Nat.mul_le_mul_right _ h2
  rw [Nat.add_mul] at h3
  omega

theorem DownInv.step {z0 zs : List Nat} {part k : Nat} (h : DownInv z0 zs part k) (hk : k < z0.length) (hZ : ∀ x ∈ z0, x < 2 ^ 64) (hp : part < 64) :
    DownInv z0 (zs.set k (z0.getD k 0 / 2 ^ part + z0.getD (k + 1) 0 % 2 ^ part * 2 ^ (64 - part))) part (k + 1) := by
  have hl := h.len
  have hx := getD_lt hZ (by omega) k
  refine ⟨by simpa using hl, set_all_lt h.lt (down_fits hx hp).2, by rw [drop_set_succ]; exact drop_succ_of h.rest, ?_⟩
  rw [val_take_succ' (2 ^ 64) (zs.set k _), take_set_self, getD_set_self _ _ _ (by omega), val_take_succ' (2 ^ 64) z0]
  have h1 := h.sum
  have h2 := Nat.mod_add_div (z0.getD k 0) (2 ^ part)
  have hpow : 2 ^ 64 = 2 ^ part * 2 ^ (64 - part) := by rw [← Nat.pow_add]; congr 1; omega
  rw [Nat.pow_succ (2 ^ 64)]
  generalize z0.getD k 0 % 2 ^ part = a at *
  generalize z0.getD k 0 / 2 ^ part = q at *
  generalize z0.getD k 0 = x at *
  generalize z0.getD (k + 1) 0 % 2 ^ part = c at *
  generalize z0.getD 0 0 % 2 ^ part = f at *
  generalize val (2 ^ 64) (zs.take k) = V at *
  generalize val (2 ^ 64) (z0.take k) = Z at *
  generalize (2 ^ 64) ^ k = T at *
  rw [hpow]
  generalize 2 ^ part = p at *
  generalize 2 ^ (64 - part) = s at *
  subst h2
  grind

theorem DownInv.done {z0 zs : List Nat} {part : Nat} (h : DownInv z0 zs part z0.length) : val (2 ^ 64) zs = val (2 ^ 64) z0 / 2 ^ part := by
  have h1 := h.sum
  rw [List.take_of_length_le (by rw [h.len]; omega), List.take_of_length_le (Nat.le_refl _)] at h1
  have h2 : z0.getD z0.length 0 = 0 := by simp [List.getD]
  rw [h2, Nat.zero_mod, Nat.mul_zero, Nat.add_zero] at h1
  have h3 : z0.getD 0 0 % 2 ^ part < 2 ^ part := Nat.mod_lt _ (Nat.two_pow_pos _)
  symm
  refine Nat.div_eq_of_lt_le (by omega) ?_
  rw [Nat.add_mul]; omega
end Go.Proofs.YtfjjmhbffbhhdaaGreatDoor

/- Sums and differences of rows, in place. -/
namespace Go.Proofs.YtfjjmhbffbhhdaaGreatDoor
open Go.RowKit

def RetAdd (w : World) (bz oz lz : Nat) (zs xs : List Nat) : Ending → World → Prop := fun e w' => e = .returned (.tuple #[]) ∧
  ∃ zs' c, zs'.length = lz ∧ (∀ x ∈ zs', x < 2 ^ 64) ∧ c ≤ 1 ∧ val (2 ^ 64) zs' + (2 ^ 64) ^ lz * c = val (2 ^ 64) zs + val (2 ^ 64) xs ∧ At w' .u64 bz oz zs' ∧ Only w w' bz oz lz

set_option maxHeartbeats 1000000 in
theorem addTo_any (bz oz cz bx ox cx lz lx : Nat) (zs xs : List Nat) (w : World) (hz : zs.length = lz) (hx : xs.length = lx) (hle : lx ≤ lz) (hlz : lz ≤ 4000000)
    (hne : bx ≠ bz) (h1 : At w .u64 bz oz zs) (hF : Fr w bz oz lz) (h2 : At w .u64 bx ox xs) (hZ : ∀ x ∈ zs, x < 2 ^ 64) (hX : ∀ x ∈ xs, x < 2 ^ 64) :
    Calls Tryz.prog 89 #[.slice (some ⟨bz, oz, none⟩) lz cz, .slice (some ⟨bx, ox, none⟩) lx cx] w (RetAdd w bz oz lz zs xs) := by
  have H1 := Lib.hid h1; have HF := Lib.hid hF; have H2 := Lib.hid h2; have HZ := Lib.hid hZ; have HX := Lib.hid hX; have HLZ := Lib.hid hz; have HLX := Lib.hid hx
  clear h1 hF h2 hZ hX hz hx
  go_enter Tryz.func89, Tryz.ntmps89
  go_wp2
  go_loopw [4, 10] (fun c i wr => ∃ k c' : Nat, k ≤ lx ∧ i = .int .i64 k ∧ c = .int .u64 (c' : Int) ∧ ∃ zs', Hid (AddInv (2 ^ 64) zs xs zs' k c') ∧ At wr .u64 bz oz zs' ∧ Only w wr bz oz lz) (fun _ i _ => lx - (intOf i).toNat)
  case atStart => exact ⟨0, 0, Nat.zero_le _, rfl, rfl, zs, Lib.hid (AddInv.start _ _ _ HZ.out), H1.out, Only.refl _ _ _ _⟩
  case round =>
    obtain ⟨k, c, hk, rfl, rfl, zs', HI, hA, hO⟩ := hrel
    by_cases hlt : k < lx
    · have hzl : zs'.length = lz := by rw [HI.out.len, HLZ.out]
      have c1 := hA k (by omega)
      have f1 := (HF.out.only hO) k (by omega)
      have c2 := (H2.out.only hO hne) k (by rw [HLX.out]; omega)
      have hx1 := getD_lt HX.out (by omega) k
      have hz1 := getD_lt HI.out.lt (by omega) k
      have hc1 := HI.out.carry
      obtain ⟨s, d, hs, hs2, hd⟩ : ∃ s d, zs'.getD k 0 + xs.getD k 0 + c = s + 2 ^ 64 * d ∧ s < 2 ^ 64 ∧ d ≤ 1 := ⟨(zs'.getD k 0 + xs.getD k 0 + c) % 2 ^ 64, (zs'.getD k 0 + xs.getD k 0 + c) / 2 ^ 64, by omega, by omega, by omega⟩
      have hadd := call_add64' _ _ _ _ _ hc1 hs hs2
      have HN := Lib.hid (HI.out.step (by rw [HLZ.out]; omega) hs2 hd hs)
      generalize zs'.getD k 0 = z at *
      generalize xs.getD k 0 = x at *
      have i1 : (0 : Int) ≤ k := by omega
      have i2 : (k : Int) < lz := by omega
      have i3 : (k : Int) < lx := by omega
      clear hs hs2 hx1 hz1 hc1 hd HI
      go_wp2
      go_roundw
      case rel => exact ⟨k + 1, d, by omega, by go_num, rfl, zs'.set k s, HN, hA.set k s (by omega), hO.setCell _ (by omega) (by omega) _⟩
      case measure => simp [intOf]; omega
    · obtain rfl : k = lx := by omega
      go_wp2
      clear hlt
      go_loopw [4, 7] (fun c i wr => ∃ j c' : Nat, k ≤ j ∧ j ≤ lz ∧ i = .int .i64 j ∧ c = .int .u64 (c' : Int) ∧ ∃ zs', Hid (AddInv (2 ^ 64) zs xs zs' j c') ∧ At wr .u64 bz oz zs' ∧ Only w wr bz oz lz) (fun _ i _ => lz - (intOf i).toNat)
      case atStart => exact ⟨k, c, Nat.le_refl _, by omega, rfl, rfl, zs', HI, hA, hO⟩
      case round =>
        clear HI hA hO
        obtain ⟨j, c, hkj, hj, rfl, rfl, zs', HI, hA, hO⟩ := hrel
        have fin : (c = 0 ∨ j = lz) → RetAdd w bz oz lz zs xs (.returned (.tuple #[])) wr := fun hc =>
          ⟨rfl, zs', c, by rw [HI.out.len, HLZ.out], HI.out.lt, HI.out.carry, by have := HI.out.done (by rw [HLX.out]; omega) (by rw [HLZ.out]; omega) (by rw [HLZ.out]; exact hc); rwa [HLZ.out] at this, hA, hO⟩
        have FIN := Lib.hid fin; clear fin
        by_cases h0 : c = 0
        · subst h0
          go_wp2
          go_end0
          exact FIN.out (by simp)
        · have d0 : ((c : Int) != 0) = true := by rw [bne_iff_ne]; omega
          by_cases hlt : j < lz
          · have hzl : zs'.length = lz := by rw [HI.out.len, HLZ.out]
            have c1 := hA j (by omega)
            have f1 := (HF.out.only hO) j (by omega)
            have hz1 := getD_lt HI.out.lt (by omega) j
            have hc1 := HI.out.carry
            have hx0 : xs.getD j 0 = 0 := by simp only [List.getD, List.getElem?_eq_none (by rw [HLX.out]; omega : xs.length ≤ j)]; rfl
            obtain ⟨s, d, hs, hs2, hd⟩ : ∃ s d, zs'.getD j 0 + c + 0 = s + 2 ^ 64 * d ∧ s < 2 ^ 64 ∧ d ≤ 1 := ⟨(zs'.getD j 0 + c) % 2 ^ 64, (zs'.getD j 0 + c) / 2 ^ 64, by omega, by omega, by omega⟩
            have hadd := call_add64' _ _ 0 _ _ (by omega) hs hs2
            rw [Int.natCast_zero] at hadd
            have HN := Lib.hid (HI.out.step (by rw [HLZ.out]; omega) hs2 hd (by rw [hx0]; omega))
            generalize zs'.getD j 0 = z at *
            have i1 : (0 : Int) ≤ j := by omega
            have i2 : (j : Int) < lz := by omega
            clear hs hs2 hz1 hc1 hd HI hx0 FIN h0
            go_wp2
            go_roundw
            case rel => exact ⟨j + 1, d, by omega, by omega, by go_num, rfl, zs'.set j s, HN, hA.set j s (by omega), hO.setCell _ (by omega) (by omega) _⟩
            case measure => simp [intOf]; omega
          · have i2 : ¬ ((j : Int) < lz) := by omega
            go_wp2
            go_end0
            exact FIN.out (Or.inr (by omega))
end Go.Proofs.YtfjjmhbffbhhdaaGreatDoor

/- Differences of rows, in place. -/
namespace Go.Proofs.YtfjjmhbffbhhdaaGreatDoor
open Go.RowKit

def RetSub (w : World) (bz oz lz : Nat) (zs xs : List Nat) : Ending → World → Prop := fun e w' => e = .returned (.tuple #[]) ∧
  ∃ zs' c, zs'.length = lz ∧ (∀ x ∈ zs', x < 2 ^ 64) ∧ c ≤ 1 ∧ val (2 ^ 64) zs' + val (2 ^ 64) xs = val (2 ^ 64) zs + (2 ^ 64) ^ lz * c ∧ At w' .u64 bz oz zs' ∧ Only w w' bz oz lz

set_option maxHeartbeats 1000000 in
theorem subFrom_any (bz oz cz bx ox cx lz lx : Nat) (zs xs : List Nat) (w : World) (hz : zs.length = lz) (hx : xs.length = lx) (hle : lx ≤ lz) (hlz : lz ≤ 4000000)
    (hne : bx ≠ bz) (h1 : At w .u64 bz oz zs) (hF : Fr w bz oz lz) (h2 : At w .u64 bx ox xs) (hZ : ∀ x ∈ zs, x < 2 ^ 64) (hX : ∀ x ∈ xs, x < 2 ^ 64) :
    Calls Tryz.prog 74 #[.slice (some ⟨bz, oz, none⟩) lz cz, .slice (some ⟨bx, ox, none⟩) lx cx] w (RetSub w bz oz lz zs xs) := by
  have H1 := Lib.hid h1; have HF := Lib.hid hF; have H2 := Lib.hid h2; have HZ := Lib.hid hZ; have HX := Lib.hid hX; have HLZ := Lib.hid hz; have HLX := Lib.hid hx
  clear h1 hF h2 hZ hX hz hx
  go_enter Tryz.func74, Tryz.ntmps74
  go_wp2
  go_loopw [4, 10] (fun c i wr => ∃ k c' : Nat, k ≤ lx ∧ i = .int .i64 k ∧ c = .int .u64 (c' : Int) ∧ ∃ zs', Hid (SubInv (2 ^ 64) zs xs zs' k c') ∧ At wr .u64 bz oz zs' ∧ Only w wr bz oz lz) (fun _ i _ => lx - (intOf i).toNat)
  case atStart => exact ⟨0, 0, Nat.zero_le _, rfl, rfl, zs, Lib.hid (SubInv.start _ _ _ HZ.out), H1.out, Only.refl _ _ _ _⟩
  case round =>
    obtain ⟨k, c, hk, rfl, rfl, zs', HI, hA, hO⟩ := hrel
    by_cases hlt : k < lx
    · have hzl : zs'.length = lz := by rw [HI.out.len, HLZ.out]
      have c1 := hA k (by omega)
      have f1 := (HF.out.only hO) k (by omega)
      have c2 := (H2.out.only hO hne) k (by rw [HLX.out]; omega)
      have hx1 := getD_lt HX.out (by omega) k
      have hz1 := getD_lt HI.out.lt (by omega) k
      have hc1 := HI.out.carry
      obtain ⟨s, d, hs, hs2, hd⟩ : ∃ s d, zs'.getD k 0 + 2 ^ 64 * d = s + xs.getD k 0 + c ∧ s < 2 ^ 64 ∧ d ≤ 1 := by
        by_cases hb : xs.getD k 0 + c ≤ zs'.getD k 0
        · exact ⟨zs'.getD k 0 - (xs.getD k 0 + c), 0, by omega, by omega, by omega⟩
        · exact ⟨zs'.getD k 0 + 2 ^ 64 - (xs.getD k 0 + c), 1, by omega, by omega, by omega⟩
      have hadd := call_sub64' _ _ _ _ _ hc1 hz1 hx1 hs hs2
      have HN := Lib.hid (HI.out.step (by rw [HLZ.out]; omega) hs2 hd hs)
      generalize zs'.getD k 0 = z at *
      generalize xs.getD k 0 = x at *
      have i1 : (0 : Int) ≤ k := by omega
      have i2 : (k : Int) < lz := by omega
      have i3 : (k : Int) < lx := by omega
      clear hs hs2 hx1 hz1 hc1 hd HI
      go_wp2
      go_roundw
      case rel => exact ⟨k + 1, d, by omega, by go_num, rfl, zs'.set k s, HN, hA.set k s (by omega), hO.setCell _ (by omega) (by omega) _⟩
      case measure => simp [intOf]; omega
    · obtain rfl : k = lx := by omega
      go_wp2
      clear hlt
      go_loopw [4, 7] (fun c i wr => ∃ j c' : Nat, k ≤ j ∧ j ≤ lz ∧ i = .int .i64 j ∧ c = .int .u64 (c' : Int) ∧ ∃ zs', Hid (SubInv (2 ^ 64) zs xs zs' j c') ∧ At wr .u64 bz oz zs' ∧ Only w wr bz oz lz) (fun _ i _ => lz - (intOf i).toNat)
      case atStart => exact ⟨k, c, Nat.le_refl _, by omega, rfl, rfl, zs', HI, hA, hO⟩
      case round =>
        clear HI hA hO
        obtain ⟨j, c, hkj, hj, rfl, rfl, zs', HI, hA, hO⟩ := hrel
        have fin : (c = 0 ∨ j = lz) → RetSub w bz oz lz zs xs (.returned (.tuple #[])) wr := fun hc =>
          ⟨rfl, zs', c, by rw [HI.out.len, HLZ.out], HI.out.lt, HI.out.carry, by have := HI.out.done (by rw [HLX.out]; omega) (by rw [HLZ.out]; omega) (by rw [HLZ.out]; exact hc); rwa [HLZ.out] at this, hA, hO⟩
        have FIN := Lib.hid fin; clear fin
        by_cases h0 : c = 0
        · subst h0
          go_wp2
          go_end0
          exact FIN.out (by simp)
        · have d0 : ((c : Int) != 0) = true := by rw [bne_iff_ne]; omega
          by_cases hlt : j < lz
          · have hzl : zs'.length = lz := by rw [HI.out.len, HLZ.out]
            have c1 := hA j (by omega)
            have f1 := (HF.out.only hO) j (by omega)
            have hz1 := getD_lt HI.out.lt (by omega) j
            have hc1 := HI.out.carry
            have hx0 : xs.getD j 0 = 0 := by simp only [List.getD, List.getElem?_eq_none (by rw [HLX.out]; omega : xs.length ≤ j)]; rfl
            obtain ⟨s, d, hs, hs2, hd⟩ : ∃ s d, zs'.getD j 0 + 2 ^ 64 * d = s + c + 0 ∧ s < 2 ^ 64 ∧ d ≤ 1 := by
              by_cases hb : c ≤ zs'.getD j 0
              · exact ⟨zs'.getD j 0 - c, 0, by omega, by omega, by omega⟩
              · exact ⟨zs'.getD j 0 + 2 ^ 64 - c, 1, by omega, by omega, by omega⟩
            have hadd := call_sub64' _ _ 0 _ _ (by omega) hz1 (by omega) hs hs2
            rw [Int.natCast_zero] at hadd
            have HN := Lib.hid (HI.out.step (by rw [HLZ.out]; omega) hs2 hd (by rw [hx0]; omega))
            generalize zs'.getD j 0 = z at *
            have i1 : (0 : Int) ≤ j := by omega
            have i2 : (j : Int) < lz := by omega
            clear hs hs2 hz1 hc1 hd HI hx0 FIN h0
            go_wp2
            go_roundw
            case rel => exact ⟨j + 1, d, by omega, by omega, by go_num, rfl, zs'.set j s, HN, hA.set j s (by omega), hO.setCell _ (by omega) (by omega) _⟩
            case measure => simp [intOf]; omega
          · have i2 : ¬ ((j : Int) < lz) := by omega
            go_wp2
            go_end0
            exact FIN.out (Or.inr (by omega))
end Go.Proofs.YtfjjmhbffbhhdaaGreatDoor
