/- Plain facts on numbers as lists of digits, the lowest first: no program stands in this text. -/
import Derived.WalkKit
namespace Go.Proofs.Ytfjjmhbffbhhdaa

/-- The number that stands in a list of digits of base b, the lowest first. -/
def val (b : Nat) : List Nat → Nat
  | [] => 0
  | x :: xs => x + b * val b xs

theorem val_append (b : Nat) (xs ys : List Nat) : val b (xs ++ ys) = val b xs + b ^ xs.length * val b ys := by
  induction xs with
  | nil => simp [val]
  | cons x xs ih => simp only [List.cons_append, val, ih, List.length_cons, Nat.pow_succ]; grind

theorem val_snoc (b : Nat) (xs : List Nat) (y : Nat) : val b (xs ++ [y]) = val b xs + b ^ xs.length * y := by
  rw [val_append]; simp [val]

theorem val_take_succ (b : Nat) (xs : List Nat) (k : Nat) (h : k < xs.length) : val b (xs.take (k + 1)) = val b (xs.take k) + b ^ k * xs.getD k 0 := by
  rw [List.take_succ_eq_append_getElem h, val_snoc, List.length_take, Nat.min_eq_left (by omega)]
  simp [List.getD, h]

theorem val_split (b : Nat) (xs : List Nat) (k : Nat) (h : k ≤ xs.length) : val b xs = val b (xs.take k) + b ^ k * val b (xs.drop k) := by
  have h1 := val_append b (xs.take k) (xs.drop k)
  rw [List.take_append_drop, List.length_take, Nat.min_eq_left h] at h1
  exact h1

theorem val_drop_cons (b : Nat) (xs : List Nat) (k : Nat) (h : k < xs.length) : val b (xs.drop k) = xs.getD k 0 + b * val b (xs.drop (k + 1)) := by
  rw [List.drop_eq_getElem_cons h]
  simp [val, List.getD, h]

theorem val_replicate_zero (b n : Nat) : val b (List.replicate n 0) = 0 := by
  induction n with
  | zero => rfl
  | succ n ih => simp [List.replicate_succ, val, ih]

theorem val_lt (b : Nat) (xs : List Nat) (h : ∀ x ∈ xs, x < b) : val b xs < b ^ xs.length := by
  induction xs with
  | nil => simp [val]
  | cons x xs ih =>
    have h1 := ih (fun y hy => h y (List.mem_cons_of_mem _ hy))
    have h2 := h x (List.mem_cons_self ..)
    simp only [val, List.length_cons, Nat.pow_succ]
    have h3 : b * (val b xs + 1) ≤ b * b ^ xs.length := Nat.mul_le_mul_left b h1
    rw [Nat.mul_add] at h3
    have h4 : b ^ xs.length * b = b * b ^ xs.length := Nat.mul_comm _ _
    omega

theorem getD_lt {b : Nat} {xs : List Nat} (h : ∀ x ∈ xs, x < b) (hb : 0 < b) (i : Nat) : xs.getD i 0 < b := by
  by_cases hi : i < xs.length
  · simp only [List.getD, List.getElem?_eq_getElem hi, Option.getD_some]
    exact h _ (List.getElem_mem hi)
  · simp only [List.getD, List.getElem?_eq_none (by omega : xs.length ≤ i), Option.getD_none]; exact hb

theorem val_set (b : Nat) (xs : List Nat) (i y : Nat) (h : i < xs.length) : val b (xs.set i y) + b ^ i * xs.getD i 0 = val b xs + b ^ i * y := by
  induction xs generalizing i with
  | nil => simp at h
  | cons x xs ih =>
    cases i with
    | zero => simp [val]; omega
    | succ i =>
      have h1 := ih i (by simpa using h)
      have e : (x :: xs).getD (i + 1) 0 = xs.getD i 0 := rfl
      rw [List.set_cons_succ, e]
      simp only [val, Nat.pow_succ]
      have h2 : b * (val b (xs.set i y) + b ^ i * xs.getD i 0) = b * (val b xs + b ^ i * y) := by rw [h1]
      grind

theorem val_take_lt (b : Nat) (xs : List Nat) (k : Nat) (h : ∀ x ∈ xs, x < b) (hk : k ≤ xs.length) : val b (xs.take k) < b ^ k := by
  have := val_lt b (xs.take k) (fun x hx => h x (List.mem_of_mem_take hx))
  rwa [List.length_take, Nat.min_eq_left hk] at this

theorem val_pad (b : Nat) (xs : List Nat) (n : Nat) : val b (xs ++ List.replicate n 0) = val b xs := by
  rw [val_append, val_replicate_zero]; simp

/-- Two lists of one length that hold digits and one number are one. -/
theorem val_inj (b : Nat) (xs ys : List Nat) (hl : xs.length = ys.length) (hx : ∀ x ∈ xs, x < b) (hy : ∀ x ∈ ys, x < b) (h : val b xs = val b ys) : xs = ys := by
  induction xs generalizing ys with
  | nil => cases ys with
    | nil => rfl
    | cons y ys => simp at hl
  | cons x xs ih => cases ys with
    | nil => simp at hl
    | cons y ys =>
      simp only [val] at h
      have h1 := hx x (List.mem_cons_self ..)
      have h2 := hy y (List.mem_cons_self ..)
      have e1 : (x + b * val b xs) % b = x := by rw [Nat.add_mul_mod_self_left, Nat.mod_eq_of_lt h1]
      have e2 : (y + b * val b ys) % b = y := by rw [Nat.add_mul_mod_self_left, Nat.mod_eq_of_lt h2]
      have e3 : x = y := by rw [← e1, h, e2]
      subst e3
      have hb : 0 < b := by omega
      have e4 : val b xs = val b ys := Nat.eq_of_mul_eq_mul_left hb (by omega)
      rw [ih ys (by simpa using hl) (fun z hz => hx z (List.mem_cons_of_mem _ hz)) (fun z hz => hy z (List.mem_cons_of_mem _ hz)) e4]

/-- Of two lists of digits of one length the first place from the top where they differ decides. -/
theorem val_lt_of_top {b : Nat} {xs ys : List Nat} {m : Nat} (hl : xs.length = ys.length) (hm : m < xs.length) (hx : ∀ x ∈ xs, x < b) (he : xs.drop (m + 1) = ys.drop (m + 1)) (hlt : xs.getD m 0 < ys.getD m 0) :
    val b xs < val b ys := by
  rw [val_split b xs (m + 1) (by omega), val_split b ys (m + 1) (by omega), he, val_take_succ b xs m hm, val_take_succ b ys m (by omega)]
  have h1 := val_take_lt b xs m hx (by omega)
  have h2 : b ^ m * (xs.getD m 0 + 1) ≤ b ^ m * ys.getD m 0 := Nat.mul_le_mul_left _ hlt
  rw [Nat.mul_add] at h2
  omega

/-- The digits of a number in base b (2 or more), none of 0 at the end; of 0 none. -/
def digs (b n : Nat) : List Nat :=
  if _h : n = 0 ∨ b < 2 then [] else n % b :: digs b (n / b)
termination_by n
decreasing_by exact Nat.div_lt_self (by omega) (by omega)

theorem digs_zero (b : Nat) : digs b 0 = [] := by rw [digs]; simp
theorem digs_pos {b n : Nat} (hb : 2 ≤ b) (hn : n ≠ 0) : digs b n = n % b :: digs b (n / b) := by
  rw [digs]; rw [dif_neg (by omega)]

theorem val_digs {b : Nat} (hb : 2 ≤ b) (n : Nat) : val b (digs b n) = n := by
  induction n using Nat.strongRecOn with
  | _ n ih =>
    by_cases hn : n = 0
    · subst hn; rw [digs_zero]; rfl
    · rw [digs_pos hb hn, val, ih _ (Nat.div_lt_self (by omega) (by omega))]
      exact Nat.mod_add_div n b

theorem digs_lt {b : Nat} (hb : 2 ≤ b) (n : Nat) : ∀ x ∈ digs b n, x < b := by
  induction n using Nat.strongRecOn with
  | _ n ih =>
    by_cases hn : n = 0
    · subst hn; rw [digs_zero]; intro x hx; cases hx
    · rw [digs_pos hb hn]
      intro x hx
      rcases List.mem_cons.1 hx with rfl | hx
      · exact Nat.mod_lt _ (by omega)
      · exact ih _ (Nat.div_lt_self (by omega) (by omega)) x hx

theorem digs_ne_nil {b n : Nat} (hb : 2 ≤ b) (hn : n ≠ 0) : digs b n ≠ [] := by rw [digs_pos hb hn]; simp

/-- The last digit is not 0. -/
theorem digs_last {b n : Nat} (hb : 2 ≤ b) (hn : n ≠ 0) : (digs b n).getD ((digs b n).length - 1) 0 ≠ 0 := by
  induction n using Nat.strongRecOn with
  | _ n ih =>
    rw [digs_pos hb hn]
    by_cases h : n / b = 0
    · rw [h, digs_zero]
      simp only [List.length_cons, List.length_nil]
      have : n % b = n := Nat.mod_eq_of_lt (by rcases Nat.div_eq_zero_iff.1 h with h | h <;> omega)
      simpa [this] using hn
    · have h1 := ih _ (Nat.div_lt_self (by omega) (by omega)) h
      have h2 : 0 < (digs b (n / b)).length := List.length_pos_iff.2 (digs_ne_nil hb h)
      have e : (n % b :: digs b (n / b)).length - 1 = ((digs b (n / b)).length - 1) + 1 := by simp; omega
      rw [e]
      simpa using h1

/-- A list of digits without a 0 at its end is the digits of its number. -/
theorem digs_val {b : Nat} (hb : 2 ≤ b) (xs : List Nat) (hx : ∀ x ∈ xs, x < b) (hl : xs ≠ [] → xs.getD (xs.length - 1) 0 ≠ 0) : digs b (val b xs) = xs := by
  induction xs with
  | nil => rw [val, digs_zero]
  | cons x xs ih =>
    have h1 := hx x (List.mem_cons_self ..)
    have h2 : xs ≠ [] → xs.getD (xs.length - 1) 0 ≠ 0 := by
      intro hne
      have h3 := hl (by simp)
      have h2 : 0 < xs.length := List.length_pos_iff.2 hne
      have e : (x :: xs).length - 1 = (xs.length - 1) + 1 := by simp; omega
      rw [e] at h3
      simpa using h3
    have h3 := ih (fun z hz => hx z (List.mem_cons_of_mem _ hz)) h2
    have hne : val b (x :: xs) ≠ 0 := by
      rw [val]
      by_cases hxs : xs = []
      · subst hxs
        have := hl (by simp)
        simp at this
        omega
      · have h5 : val b xs ≠ 0 := by
          intro h0
          rw [h0, digs_zero] at h3
          exact hxs h3.symm
        have : 0 < b * val b xs := Nat.mul_pos (by omega) (by omega)
        omega
    rw [digs_pos hb hne, val]
    have e1 : (x + b * val b xs) % b = x := by rw [Nat.add_mul_mod_self_left, Nat.mod_eq_of_lt h1]
    have e2 : (x + b * val b xs) / b = val b xs := by
      rw [Nat.add_mul_div_left _ _ (by omega), Nat.div_eq_of_lt h1]; simp
    rw [e1, e2, h3]

theorem digs_length_le {b n k : Nat} (hb : 2 ≤ b) (h : n < b ^ k) : (digs b n).length ≤ k := by
  induction k generalizing n with
  | zero => have : n = 0 := by simpa using h
            subst this; rw [digs_zero]; simp
  | succ k ih =>
    by_cases hn : n = 0
    · subst hn; rw [digs_zero]; simp
    · rw [digs_pos hb hn]
      have h1 : n / b < b ^ k := by
        rw [Nat.div_lt_iff_lt_mul (by omega)]
        rwa [Nat.pow_succ] at h
      have := ih h1
      simpa using this

theorem lt_pow_digs {b : Nat} (hb : 2 ≤ b) (n : Nat) : n < b ^ (digs b n).length := by
  have := val_lt b (digs b n) (digs_lt hb n)
  rwa [val_digs hb] at this

theorem digs_length_lt {b n k : Nat} (hb : 2 ≤ b) (h : b ^ k ≤ n) : k < (digs b n).length := by
  have h1 := lt_pow_digs hb n
  by_cases hk : k < (digs b n).length
  · exact hk
  · exfalso
    have : b ^ (digs b n).length ≤ b ^ k := Nat.pow_le_pow_right (by omega) (by omega)
    omega

theorem pow_le_digs {b n : Nat} (hb : 2 ≤ b) (hn : n ≠ 0) : b ^ ((digs b n).length - 1) ≤ n := by
  by_cases h : b ^ ((digs b n).length - 1) ≤ n
  · exact h
  · exfalso
    have h1 := digs_length_le (k := (digs b n).length - 1) hb (by omega : n < _)
    have h2 : 0 < (digs b n).length := List.length_pos_iff.2 (digs_ne_nil hb hn)
    omega

theorem digs_length_mono {b m n : Nat} (hb : 2 ≤ b) (h : m ≤ n) : (digs b m).length ≤ (digs b n).length :=
  digs_length_le hb (Nat.lt_of_le_of_lt h (lt_pow_digs hb n))

/-- A list from which the zeros at the end are taken. -/
theorem digs_take {b : Nat} (hb : 2 ≤ b) (xs : List Nat) (n : Nat) (hx : ∀ x ∈ xs, x < b) (hn : n ≤ xs.length) (h0 : ∀ i, n ≤ i → i < xs.length → xs.getD i 0 = 0)
    (hl : n ≠ 0 → xs.getD (n - 1) 0 ≠ 0) : xs.take n = digs b (val b xs) := by
  have e : val b (xs.drop n) = 0 := by
    have : xs.drop n = List.replicate (xs.length - n) 0 := by
      apply List.ext_getElem
      · simp
      · intro i h1 h2
        simp only [List.length_drop] at h1
        have h3 := h0 (n + i) (by omega) (by omega)
        rw [List.getElem_drop, List.getElem_replicate]
        simpa [List.getD, List.getElem?_eq_getElem (by omega : n + i < xs.length)] using h3
    rw [this, val_replicate_zero]
  rw [val_split b xs n hn, e, Nat.mul_zero, Nat.add_zero]
  refine (digs_val hb (xs.take n) (fun x h => hx x (List.mem_of_mem_take h)) fun hne => ?_).symm
  have hln : (xs.take n).length = n := by simp; omega
  have hn0 : n ≠ 0 := by intro h; subst h; simp at hne
  rw [hln]
  have := hl hn0
  simpa [List.getD, List.getElem?_take, (by omega : n - 1 < n)] using this


theorem digs_getD {b : Nat} (hb : 2 ≤ b) (n i : Nat) : (digs b n).getD i 0 = n / b ^ i % b := by
  induction i generalizing n with
  | zero =>
    by_cases hn : n = 0
    · subst hn; rw [digs_zero]; simp
    · rw [digs_pos hb hn]; simp
  | succ i ih =>
    by_cases hn : n = 0
    · subst hn; rw [digs_zero]; simp
    · rw [digs_pos hb hn, Nat.pow_succ, Nat.mul_comm, ← Nat.div_div_eq_div_mul, ← ih (n / b)]
      rfl

/-- How long the digits are, by the bits. -/
theorem bitLen_lt_pow {n k : Nat} : n < 2 ^ k ↔ bitLen n ≤ k := by
  have h := bitLen_spec n
  constructor
  · intro hk
    by_cases h0 : n = 0
    · subst h0; simp [bitLen]
    · have h1 := h.2 h0
      by_cases hle : bitLen n ≤ k
      · exact hle
      · have : 2 ^ k ≤ 2 ^ (bitLen n - 1) := Nat.pow_le_pow_right (by omega) (by omega)
        omega
  · intro hk
    have : 2 ^ bitLen n ≤ 2 ^ k := Nat.pow_le_pow_right (by omega) hk
    omega

theorem bitLen_pos {n : Nat} (h : n ≠ 0) : 0 < bitLen n := by unfold bitLen; rw [if_neg h]; omega

/-- The bits of a number by those of its last digit. -/
theorem bitLen_top {e n : Nat} (he : 0 < e) (hn : n ≠ 0) :
    bitLen n = e * ((digs (2 ^ e) n).length - 1) + bitLen ((digs (2 ^ e) n).getD ((digs (2 ^ e) n).length - 1) 0) := by
  have hb : 2 ≤ 2 ^ e := by
    have : 2 ^ 1 ≤ 2 ^ e := Nat.pow_le_pow_right (by omega) he
    omega
  have hlast := digs_last hb hn
  have hlen : 0 < (digs (2 ^ e) n).length := List.length_pos_iff.2 (digs_ne_nil hb hn)
  rw [digs_getD hb] at hlast ⊢
  have hlt := lt_pow_digs hb n
  generalize (digs (2 ^ e) n).length = l at *
  have e1 : n / (2 ^ e) ^ (l - 1) % 2 ^ e = n / 2 ^ (e * (l - 1)) := by
    rw [← Nat.pow_mul]
    apply Nat.mod_eq_of_lt
    rw [Nat.div_lt_iff_lt_mul (Nat.two_pow_pos _), ← Nat.pow_add]
    rw [← Nat.pow_mul] at hlt
    have : e * l = e + e * (l - 1) := by
      have : l = (l - 1) + 1 := by omega
      conv => lhs; rw [this, Nat.mul_add]
      omega
    rwa [this] at hlt
  rw [e1] at hlast ⊢
  exact bitLen_shift n _ hlast

/-- How many digits of 8 bits. -/
theorem digs_len_bits (n : Nat) : (digs 256 n).length = (bitLen n + 7) / 8 := by
  by_cases hn : n = 0
  · subst hn; rw [digs_zero]; simp [bitLen]
  · have h := bitLen_top (e := 8) (by omega) hn
    have hl : (digs (2 ^ 8) n).getD ((digs (2 ^ 8) n).length - 1) 0 < 2 ^ 8 := getD_lt (digs_lt (by omega) n) (by omega) _
    have h1 := bitLen_lt_pow.1 hl
    have h2 := bitLen_pos (digs_last (b := 2 ^ 8) (by omega) hn)
    have h3 : 0 < (digs (2 ^ 8) n).length := List.length_pos_iff.2 (digs_ne_nil (by omega) hn)
    have h4 : (2 : Nat) ^ 8 = 256 := rfl
    rw [h4] at h h1 h2 h3
    omega

/-- A byte of a number, out of its digits of e times 8 bits. -/
theorem byte_of_digit (e n i : Nat) (he : 0 < e) : n / (2 ^ (8 * e)) ^ (i / e) % 2 ^ (8 * e) / 2 ^ (8 * (i % e)) % 256 = n / 256 ^ i % 256 := by
  have h1 : i % e < e := Nat.mod_lt _ he
  have h2 : (256 : Nat) ^ i = (2 ^ (8 * e)) ^ (i / e) * 2 ^ (8 * (i % e)) := by
    rw [show (256 : Nat) = 2 ^ 8 from rfl, ← Nat.pow_mul, ← Nat.pow_mul, ← Nat.pow_add]
    congr 1
    have := Nat.div_add_mod i e
    have e2 : 8 * e * (i / e) = 8 * (e * (i / e)) := Nat.mul_assoc ..
    omega
  rw [h2, ← Nat.div_div_eq_div_mul]
  generalize n / (2 ^ (8 * e)) ^ (i / e) = m
  have h3 : 2 ^ (8 * e) = 2 ^ (8 * (i % e)) * (256 * 2 ^ (8 * (e - 1 - i % e))) := by
    rw [show (256 : Nat) = 2 ^ 8 from rfl, ← Nat.pow_add, ← Nat.pow_add]
    congr 1; omega
  rw [h3, Nat.mod_mul_right_div_self, Nat.mod_mul_right_mod]

end Go.Proofs.Ytfjjmhbffbhhdaa
