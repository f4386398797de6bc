/- Plain facts on numbers as lists of digits, the lowest first: no program stands in this text. -/
import Derived.WalkKit
import Derived.Test.YthjeidgmkkkmbaaGreatDoorRows
import Derived.Deep.QuietTactic
import Derived.WalkSpells
import Derived.WalkLawsBesides
import Derived.BigQuiet
import Derived.BigRegion
import Derived.Laws.BitsAllLaws
import Derived.Lib.Hide
import Derived.OwnWalk
import Derived.Laws.AppendOwnNone
import Derived.Laws.MakeOwn
namespace Go.Proofs.YthjeidgmkkkmbaaGreatDoor

/-- The number that stands in a list of digits of base b, the lowest first. -/
def val (b : Nat) : List Nat → Nat
  | [] => 0
  | x :: xs => x + b * val b xs

theorem val_append (b : Nat) (xs ys : List Nat) : val b (xs ++ ys) = val b xs + b ^ xs.length * val b ys := by
  induction xs with
  | nil => simp [val]
  | cons x xs ih => simp only [List.cons_append, val, ih, List.length_cons, Nat.pow_succ]; grind

theorem val_snoc (b : Nat) (xs : List Nat) (y : Nat) : val b (xs ++ [y]) = val b xs + b ^ xs.length * y := by
  rw [val_append]; simp [val]

theorem val_take_succ (b : Nat) (xs : List Nat) (k : Nat) (h : k < xs.length) : val b (xs.take (k + 1)) = val b (xs.take k) + b ^ k * xs.getD k 0 := by
  rw [List.take_succ_eq_append_getElem h, val_snoc, List.length_take, Nat.min_eq_left (by omega)]
  simp [List.getD, h]

theorem val_split (b : Nat) (xs : List Nat) (k : Nat) (h : k ≤ xs.length) : val b xs = val b (xs.take k) + b ^ k * val b (xs.drop k) := by
  have h1 := val_append b (xs.take k) (xs.drop k)
  rw [List.take_append_drop, List.length_take, Nat.min_eq_left h] at h1
  exact h1

theorem val_drop_cons (b : Nat) (xs : List Nat) (k : Nat) (h : k < xs.length) : val b (xs.drop k) = xs.getD k 0 + b * val b (xs.drop (k + 1)) := by
  rw [List.drop_eq_getElem_cons h]
  simp [val, List.getD, h]

theorem val_replicate_zero (b n : Nat) : val b (List.replicate n 0) = 0 := by
  induction n with
  | zero => rfl
  | succ n ih => simp [List.replicate_succ, val, ih]

theorem val_lt (b : Nat) (xs : List Nat) (h : ∀ x ∈ xs, x < b) : val b xs < b ^ xs.length := by
  induction xs with
  | nil => simp [val]
  | cons x xs ih =>
    have h1 := ih (fun y hy => h y (List.mem_cons_of_mem _ hy))
    have h2 := h x (List.mem_cons_self ..)
    simp only [val, List.length_cons, Nat.pow_succ]
    have h3 : b * (val b xs + 1) ≤ b * b ^ xs.length := Nat.mul_le_mul_left b h1
    rw [Nat.mul_add] at h3
    have h4 : b ^ xs.length * b = b * b ^ xs.length := Nat.mul_comm _ _
    omega

theorem getD_lt {b : Nat} {xs : List Nat} (h : ∀ x ∈ xs, x < b) (hb : 0 < b) (i : Nat) : xs.getD i 0 < b := by
  by_cases hi : i < xs.length
  · simp only [List.getD, List.getElem?_eq_getElem hi, Option.getD_some]
    exact h _ (List.getElem_mem hi)
  · simp only [List.getD, List.getElem?_eq_none (by omega : xs.length ≤ i), Option.getD_none]; exact hb

theorem val_set (b : Nat) (xs : List Nat) (i y : Nat) (h : i < xs.length) : val b (xs.set i y) + b ^ i * xs.getD i 0 = val b xs + b ^ i * y := by
  induction xs generalizing i with
  | nil => simp at h
  | cons x xs ih =>
    cases i with
    | zero => simp [val]; omega
    | succ i =>
      have h1 := ih i (by simpa using h)
      have e : (x :: xs).getD (i + 1) 0 = xs.getD i 0 := rfl
      rw [List.set_cons_succ, e]
      simp only [val, Nat.pow_succ]
      have h2 : b * (val b (xs.set i y) + b ^ i * xs.getD i 0) = b * (val b xs + b ^ i * y) := by rw [h1]
      grind

theorem val_take_lt (b : Nat) (xs : List Nat) (k : Nat) (h : ∀ x ∈ xs, x < b) (hk : k ≤ xs.length) : val b (xs.take k) < b ^ k := by
  have := val_lt b (xs.take k) (fun x hx => h x (List.mem_of_mem_take hx))
  rwa [List.length_take, Nat.min_eq_left hk] at this

/-- Of two lists of digits of one length the first place from the top where they differ decides. -/
theorem val_lt_of_top {b : Nat} {xs ys : List Nat} {m : Nat} (hl : xs.length = ys.length) (hm : m < xs.length) (hx : ∀ x ∈ xs, x < b) (he : xs.drop (m + 1) = ys.drop (m + 1)) (hlt : xs.getD m 0 < ys.getD m 0) :
    val b xs < val b ys := by
  rw [val_split b xs (m + 1) (by omega), val_split b ys (m + 1) (by omega), he, val_take_succ b xs m hm, val_take_succ b ys m (by omega)]
  have h1 := val_take_lt b xs m hx (by omega)
  have h2 : b ^ m * (xs.getD m 0 + 1) ≤ b ^ m * ys.getD m 0 := Nat.mul_le_mul_left _ hlt
  rw [Nat.mul_add] at h2
  omega

/-- The digits of a number in base b (2 or more), none of 0 at the end; of 0 none. -/
def digs (b n : Nat) : List Nat :=
  if _h : n = 0 ∨ b < 2 then [] else n % b :: digs b (n / b)
termination_by n
decreasing_by exact Nat.div_lt_self (by omega) (by omega)

theorem digs_zero (b : Nat) : digs b 0 = [] := by rw [digs]; simp
theorem digs_pos {b n : Nat} (hb : 2 ≤ b) (hn : n ≠ 0) : digs b n = n % b :: digs b (n / b) := by
  rw [digs]; rw [dif_neg (by omega)]

theorem val_digs {b : Nat} (hb : 2 ≤ b) (n : Nat) : val b (digs b n) = n := by
  induction n using Nat.strongRecOn with
  | _ n ih =>
    by_cases hn : n = 0
    · subst hn; rw [digs_zero]; rfl
    · rw [digs_pos hb hn, val, ih _ (Nat.div_lt_self (by omega) (by omega))]
      exact Nat.mod_add_div n b

theorem digs_lt {b : Nat} (hb : 2 ≤ b) (n : Nat) : ∀ x ∈ digs b n, x < b := by
  induction n using Nat.strongRecOn with
  | _ n ih =>
    by_cases hn : n = 0
    · subst hn; rw [digs_zero]; intro x hx; cases hx
    · rw [digs_pos hb hn]
      intro x hx
      rcases List.mem_cons.1 hx with rfl | hx
      · exact Nat.mod_lt _ (by omega)
      · exact ih _ (Nat.div_lt_self (by omega) (by omega)) x hx

theorem digs_ne_nil {b n : Nat} (hb : 2 ≤ b) (hn : n ≠ 0) : digs b n ≠ [] := by rw [digs_pos hb hn]; simp

/-- The last digit is not 0. -/
theorem digs_last {b n : Nat} (hb : 2 ≤ b) (hn : n ≠ 0) : (digs b n).getD ((digs b n).length - 1) 0 ≠ 0 := by
  induction n using Nat.strongRecOn with
  | _ n ih =>
    rw [digs_pos hb hn]
    by_cases h : n / b = 0
    · rw [h, digs_zero]
      simp only [List.length_cons, List.length_nil]
      have : n % b = n := Nat.mod_eq_of_lt (by rcases Nat.div_eq_zero_iff.1 h with h | h <;> omega)
      simpa [this] using hn
    · have h1 := ih _ (Nat.div_lt_self (by omega) (by omega)) h
      have h2 : 0 < (digs b (n / b)).length := List.length_pos_iff.2 (digs_ne_nil hb h)
      have e : (n % b :: digs b (n / b)).length - 1 = ((digs b (n / b)).length - 1) + 1 := by simp; omega
      rw [e]
      simpa using h1

/-- A list of digits without a 0 at its end is the digits of its number. -/
theorem digs_val {b : Nat} (hb : 2 ≤ b) (xs : List Nat) (hx : ∀ x ∈ xs, x < b) (hl : xs ≠ [] → xs.getD (xs.length - 1) 0 ≠ 0) : digs b (val b xs) = xs := by
  induction xs with
  | nil => rw [val, digs_zero]
  | cons x xs ih =>
    have h1 := hx x (List.mem_cons_self ..)
    have h2 : xs ≠ [] → xs.getD (xs.length - 1) 0 ≠ 0 := by
      intro hne
      have h3 := hl (by simp)
      have h2 : 0 < xs.length := List.length_pos_iff.2 hne
      have e : (x :: xs).length - 1 = (xs.length - 1) + 1 := by simp; omega
      rw [e] at h3
      simpa using h3
    have h3 := ih (fun z hz => hx z (List.mem_cons_of_mem _ hz)) h2
    have hne : val b (x :: xs) ≠ 0 := by
      rw [val]
      by_cases hxs : xs = []
      · subst hxs
        have := hl (by simp)
        simp at this
        omega
      · have h5 : val b xs ≠ 0 := by
          intro h0
          rw [h0, digs_zero] at h3
          exact hxs h3.symm
        have : 0 < b * val b xs := Nat.mul_pos (by omega) (by omega)
        omega
    rw [digs_pos hb hne, val]
    have e1 : (x + b * val b xs) % b = x := by rw [Nat.add_mul_mod_self_left, Nat.mod_eq_of_lt h1]
    have e2 : (x + b * val b xs) / b = val b xs := by
      rw [Nat.add_mul_div_left _ _ (by omega), Nat.div_eq_of_lt h1]; simp
    rw [e1, e2, h3]

theorem digs_length_le {b n k : Nat} (hb : 2 ≤ b) (h : n < b ^ k) : (digs b n).length ≤ k := by
  induction k generalizing n with
  | zero => have : n = 0 := by simpa using h
            subst this; rw [digs_zero]; simp
  | succ k ih =>
    by_cases hn : n = 0
    · subst hn; rw [digs_zero]; simp
    · rw [digs_pos hb hn]
      have h1 : n / b < b ^ k := by
        rw [Nat.div_lt_iff_lt_mul (by omega)]
        rwa [Nat.pow_succ] at h
      have := ih h1
      simpa using this

theorem lt_pow_digs {b : Nat} (hb : 2 ≤ b) (n : Nat) : n < b ^ (digs b n).length := by
  have := val_lt b (digs b n) (digs_lt hb n)
  rwa [val_digs hb] at this

theorem digs_length_lt {b n k : Nat} (hb : 2 ≤ b) (h : b ^ k ≤ n) : k < (digs b n).length := by
  have h1 := lt_pow_digs hb n
  by_cases hk : k < (digs b n).length
  · exact hk
  · exfalso
    have : b ^ (digs b n).length ≤ b ^ k := Nat.pow_le_pow_right (by omega) (by omega)
    omega

theorem pow_le_digs {b n : Nat} (hb : 2 ≤ b) (hn : n ≠ 0) : b ^ ((digs b n).length - 1) ≤ n := by
  by_cases h : b ^ ((digs b n).length - 1) ≤ n
  · exact h
  · exfalso
    have h1 := digs_length_le (k := (digs b n).length - 1) hb (by omega : n < _)
    have h2 : 0 < (digs b n).length := List.length_pos_iff.2 (digs_ne_nil hb hn)
    omega

theorem digs_length_mono {b m n : Nat} (hb : 2 ≤ b) (h : m ≤ n) : (digs b m).length ≤ (digs b n).length :=
  digs_length_le hb (Nat.lt_of_le_of_lt h (lt_pow_digs hb n))

/-- A list from which the zeros at the end are taken. -/
theorem digs_take {b : Nat} (hb : 2 ≤ b) (xs : List Nat) (n : Nat) (hx : ∀ x ∈ xs, x < b) (hn : n ≤ xs.length) (h0 : ∀ i, n ≤ i → i < xs.length → xs.getD i 0 = 0)
    (hl : n ≠ 0 → xs.getD (n - 1) 0 ≠ 0) : xs.take n = digs b (val b xs) := by
  have e : val b (xs.drop n) = 0 := by
    have : xs.drop n = List.replicate (xs.length - n) 0 := by
      apply List.ext_getElem
      · simp
      · intro i h1 h2
        simp only [List.length_drop] at h1
        have h3 := h0 (n + i) (by omega) (by omega)
        rw [List.getElem_drop, List.getElem_replicate]
        simpa [List.getD, List.getElem?_eq_getElem (by omega : n + i < xs.length)] using h3
    rw [this, val_replicate_zero]
  rw [val_split b xs n hn, e, Nat.mul_zero, Nat.add_zero]
  refine (digs_val hb (xs.take n) (fun x h => hx x (List.mem_of_mem_take h)) fun hne => ?_).symm
  have hln : (xs.take n).length = n := by simp; omega
  have hn0 : n ≠ 0 := by intro h; subst h; simp at hne
  rw [hln]
  have := hl hn0
  simpa [List.getD, List.getElem?_take, (by omega : n - 1 < n)] using this


theorem digs_getD {b : Nat} (hb : 2 ≤ b) (n i : Nat) : (digs b n).getD i 0 = n / b ^ i % b := by
  induction i generalizing n with
  | zero =>
    by_cases hn : n = 0
    · subst hn; rw [digs_zero]; simp
    · rw [digs_pos hb hn]; simp
  | succ i ih =>
    by_cases hn : n = 0
    · subst hn; rw [digs_zero]; simp
    · rw [digs_pos hb hn, Nat.pow_succ, Nat.mul_comm, ← Nat.div_div_eq_div_mul, ← ih (n / b)]
      rfl

/-- How long the digits are, by the bits. -/
theorem bitLen_lt_pow {n k : Nat} : n < 2 ^ k ↔ bitLen n ≤ k := by
  have h := bitLen_spec n
  constructor
  · intro hk
    by_cases h0 : n = 0
    · subst h0; simp [bitLen]
    · have h1 := h.2 h0
      by_cases hle : bitLen n ≤ k
      · exact hle
      · have : 2 ^ k ≤ 2 ^ (bitLen n - 1) := Nat.pow_le_pow_right (by omega) (by omega)
        omega
  · intro hk
    have : 2 ^ bitLen n ≤ 2 ^ k := Nat.pow_le_pow_right (by omega) hk
    omega

theorem bitLen_pos {n : Nat} (h : n ≠ 0) : 0 < bitLen n := by unfold bitLen; rw [if_neg h]; omega

/-- The bits of a number by those of its last digit. -/
theorem bitLen_top {e n : Nat} (he : 0 < e) (hn : n ≠ 0) :
    bitLen n = e * ((digs (2 ^ e) n).length - 1) + bitLen ((digs (2 ^ e) n).getD ((digs (2 ^ e) n).length - 1) 0) := by
  have hb : 2 ≤ 2 ^ e := by
    have : 2 ^ 1 ≤ 2 ^ e := Nat.pow_le_pow_right (by omega) he
    omega
  have hlast := digs_last hb hn
  have hlen : 0 < (digs (2 ^ e) n).length := List.length_pos_iff.2 (digs_ne_nil hb hn)
  rw [digs_getD hb] at hlast ⊢
  have hlt := lt_pow_digs hb n
  generalize (digs (2 ^ e) n).length = l at *
  have e1 : n / (2 ^ e) ^ (l - 1) % 2 ^ e = n / 2 ^ (e * (l - 1)) := by
    rw [← Nat.pow_mul]
    apply Nat.mod_eq_of_lt
    rw [Nat.div_lt_iff_lt_mul (Nat.two_pow_pos _), ← Nat.pow_add]
    rw [← Nat.pow_mul] at hlt
    have : e * l = e + e * (l - 1) := by
      have : l = (l - 1) + 1 := by omega
      conv => lhs; rw [this, Nat.mul_add]
      omega
    rwa [this] at hlt
  rw [e1] at hlast ⊢
  exact bitLen_shift n _ hlast

/-- How many digits of 8 bits. -/
theorem digs_len_bits (n : Nat) : (digs 256 n).length = (bitLen n + 7) / 8 := by
  by_cases hn : n = 0
  · subst hn; rw [digs_zero]; simp [bitLen]
  · have h := bitLen_top (e := 8) (by omega) hn
    have hl : (digs (2 ^ 8) n).getD ((digs (2 ^ 8) n).length - 1) 0 < 2 ^ 8 := getD_lt (digs_lt (by omega) n) (by omega) _
    have h1 := bitLen_lt_pow.1 hl
    have h2 := bitLen_pos (digs_last (b := 2 ^ 8) (by omega) hn)
    have h3 : 0 < (digs (2 ^ 8) n).length := List.length_pos_iff.2 (digs_ne_nil (by omega) hn)
    have h4 : (2 : Nat) ^ 8 = 256 := rfl
    rw [h4] at h h1 h2 h3
    omega

/-- A byte of a number, out of its digits of e times 8 bits. -/
theorem byte_of_digit (e n i : Nat) (he : 0 < e) : n / (2 ^ (8 * e)) ^ (i / e) % 2 ^ (8 * e) / 2 ^ (8 * (i % e)) % 256 = n / 256 ^ i % 256 := by
  have h1 : i % e < e := Nat.mod_lt _ he
  have h2 : (256 : Nat) ^ i = (2 ^ (8 * e)) ^ (i / e) * 2 ^ (8 * (i % e)) := by
    rw [show (256 : Nat) = 2 ^ 8 from rfl, ← Nat.pow_mul, ← Nat.pow_mul, ← Nat.pow_add]
    congr 1
    have := Nat.div_add_mod i e
    have e2 : 8 * e * (i / e) = 8 * (e * (i / e)) := Nat.mul_assoc ..
    omega
  rw [h2, ← Nat.div_div_eq_div_mul]
  generalize n / (2 ^ (8 * e)) ^ (i / e) = m
  have h3 : 2 ^ (8 * e) = 2 ^ (8 * (i % e)) * (256 * 2 ^ (8 * (e - 1 - i % e))) := by
    rw [show (256 : Nat) = 2 ^ 8 from rfl, ← Nat.pow_add, ← Nat.pow_add]
    congr 1; omega
  rw [h3, Nat.mod_mul_right_div_self, Nat.mod_mul_right_mod]

end Go.Proofs.YthjeidgmkkkmbaaGreatDoor

/- What stands in memory: rows of numbers, the program's numbers, and what a call leaves as it was. -/
namespace Go.Proofs.YthjeidgmkkkmbaaGreatDoor
open Go.RowKit

/-- From place off of block b on stand these numbers, a cell each. -/
def At (w : World) (k : IntKind) (b off : Nat) (xs : List Nat) : Prop :=
  ∀ i, i < xs.length → w.cell? ⟨b, off + i, none⟩ = some (.int k ((xs.getD i 0 : Nat) : Int))

/-- These places may be written. -/
def Fr (w : World) (b off n : Nat) : Prop := ∀ i, i < n → w.frozen? ⟨b, off + i, none⟩ = false

theorem At.lt {w : World} {k : IntKind} {b off : Nat} {xs : List Nat} (h : At w k b off xs) (h0 : 0 < xs.length) : b < w.heap.size :=
  World.block_lt_of_cell? w ⟨b, off + 0, none⟩ (h 0 h0)

theorem At.zero {w : World} {k : IntKind} {b : Nat} {xs : List Nat} (h : At w k b 0 xs) (i : Nat) (hi : i < xs.length) : w.cell? ⟨b, i, none⟩ = some (.int k ((xs.getD i 0 : Nat) : Int)) := by
  have := h i hi
  rwa [Nat.zero_add] at this
theorem Fr.zero {w : World} {b n : Nat} (h : Fr w b 0 n) (i : Nat) (hi : i < n) : w.frozen? ⟨b, i, none⟩ = false := by
  have := h i hi
  rwa [Nat.zero_add] at this
theorem getD_set (xs : List Nat) (i j y : Nat) (hi : i < xs.length) : (xs.set i y).getD j 0 = if j = i then y else xs.getD j 0 := by
  by_cases e : j = i
  · subst e; simp [List.getD, hi]
  · have e' : ¬ i = j := fun h => e h.symm
    simp [List.getD, e, e']

theorem shr_cast (x s m : Nat) : ((x / 2 ^ s % m : Nat) : Int) = (x : Int) / 2 ^ s % m := by
  rw [Int.natCast_emod, Int.natCast_ediv, Int.natCast_pow]; rfl

theorem At.nil (w : World) (k : IntKind) (b off : Nat) : At w k b off [] := fun i hi => by simp at hi

theorem At.mono {w w' : World} {k : IntKind} {b off : Nat} {xs : List Nat} (h : At w k b off xs) (hb : Below w.heap.size w w') : At w' k b off xs := by
  intro i hi
  have h1 := h i hi
  have h2 := World.block_lt_of_cell? _ _ h1
  rw [hb.cell (p := ⟨b, off + i, none⟩) h2]; exact h1

theorem Fr.mono {w w' : World} {b off n : Nat} (h : Fr w b off n) (hb : Below w.heap.size w w') (hl : b < w.heap.size) : Fr w' b off n := by
  intro i hi
  rw [hb.frozen (p := ⟨b, off + i, none⟩) hl]; exact h i hi

theorem Fr.sub {w : World} {b off n k m : Nat} (h : Fr w b off n) (hk : k + m ≤ n) : Fr w b (off + k) m := by
  intro i hi
  rw [Nat.add_assoc]; exact h (k + i) (by omega)

/-- A part of a row. -/
theorem At.drop {w : World} {k : IntKind} {b off : Nat} {xs : List Nat} (h : At w k b off xs) (n : Nat) : At w k b (off + n) (xs.drop n) := by
  intro i hi
  rw [List.length_drop] at hi
  rw [Nat.add_assoc, h (n + i) (by omega)]
  simp [List.getD, List.getElem?_drop]

theorem At.take {w : World} {k : IntKind} {b off : Nat} {xs : List Nat} (h : At w k b off xs) (n : Nat) : At w k b off (xs.take n) := by
  intro i hi
  rw [List.length_take] at hi
  rw [h i (by omega)]
  simp [List.getD, (by omega : i < n)]

theorem At.set {w : World} {k : IntKind} {b off : Nat} {xs : List Nat} (h : At w k b off xs) (j y : Nat) (hj : j < xs.length) :
    At (w.setCell ⟨b, off + j, none⟩ (.int k (y : Int))) k b off (xs.set j y) := by
  intro i hi
  rw [List.length_set] at hi
  by_cases e : i = j
  · subst e
    rw [World.cell?_setCell_same _ _ _ (h i hi)]
    simp [List.getD, hi]
  · have e' : ¬ j = i := fun h => e h.symm
    rw [World.cell?_setCell_other _ _ _ _ (by intro e2; injection e2; omega), h i hi]
    simp [List.getD, e']

theorem At.setOther {w : World} {k : IntKind} {b off : Nat} {xs : List Nat} (h : At w k b off xs) (a : Addr) (v : Value) (hj : a.block ≠ b) :
    At (w.setCell a v) k b off xs := by
  intro i hi
  rw [World.cell?_setCell_other _ _ _ _ (by intro e; exact hj (by rw [e])), h i hi]

theorem Fr.setCell {w : World} {b off n : Nat} (h : Fr w b off n) (a : Addr) (v : Value) : Fr (w.setCell a v) b off n := by
  intro i hi
  rw [World.frozen?_setCell]; exact h i hi

/-- The call has written to n places of block b from place off on, and to new blocks: all else is as it was. -/
structure Only (w w' : World) (b off n : Nat) : Prop where
  os : w'.os = w.os
  tape : w'.tape = w.tape
  output : w'.output = w.output
  size : w.heap.size ≤ w'.heap.size
  block : ∀ k, k < w.heap.size → k ≠ b → w'.heap[k]? = w.heap[k]?
  cell : ∀ o, (o < off ∨ off + n ≤ o) → w'.cell? ⟨b, o, none⟩ = w.cell? ⟨b, o, none⟩
  frozen : ∀ o, w'.frozen? ⟨b, o, none⟩ = w.frozen? ⟨b, o, none⟩

theorem Only.refl (w : World) (b off n : Nat) : Only w w b off n :=
  ⟨rfl, rfl, rfl, Nat.le_refl _, fun _ _ _ => rfl, fun _ _ => rfl, fun _ => rfl⟩

theorem Only.trans {w w1 w2 : World} {b off n : Nat} (h : Only w w1 b off n) (k : Only w1 w2 b off n) : Only w w2 b off n :=
  ⟨k.os.trans h.os, k.tape.trans h.tape, k.output.trans h.output, Nat.le_trans h.size k.size, fun i hi hb => (k.block i (Nat.lt_of_lt_of_le hi h.size) hb).trans (h.block i hi hb),
    fun o ho => (k.cell o ho).trans (h.cell o ho), fun o => (k.frozen o).trans (h.frozen o)⟩

theorem Only.wider {w w' : World} {b off n off' n' : Nat} (h : Only w w' b off n) (h1 : off' ≤ off) (h2 : off + n ≤ off' + n') : Only w w' b off' n' :=
  ⟨h.os, h.tape, h.output, h.size, h.block, fun o ho => h.cell o (by omega), h.frozen⟩

theorem Only.setCell {w w' : World} {b off n : Nat} (h : Only w w' b off n) (j : Nat) (h1 : off ≤ j) (h2 : j < off + n) (v : Value) : Only w (w'.setCell ⟨b, j, none⟩ v) b off n :=
  h.trans ⟨rfl, rfl, rfl, by simp [World.setCell], fun k _ hb => Below.heap_setCell _ _ _ _ hb,
    fun o ho => World.cell?_setCell_other _ _ _ _ (by intro e2; injection e2; omega), fun o => World.frozen?_setCell _ _ _ _⟩

theorem Only.of_below {w w' : World} {b off n : Nat} (h : Below w.heap.size w w') (hb : b < w.heap.size) : Only w w' b off n :=
  ⟨h.os, h.tape, h.output, h.size, fun k hk _ => h.block k hk, fun o _ => h.cell (p := ⟨b, o, none⟩) hb, fun o => h.frozen (p := ⟨b, o, none⟩) hb⟩

theorem Only.drew {w w' : World} {b off n : Nat} (h : Only w w' b off n) : Only w w'.drew b off n :=
  h.trans ⟨rfl, rfl, rfl, Nat.le_refl _, fun _ _ _ => rfl, fun _ _ => rfl, fun _ => rfl⟩

/-- Below a block of the call's own all is as it was. -/
theorem Only.below {w w' : World} {b off n B : Nat} (h : Only w w' b off n) (hB : B ≤ b) (hw : B ≤ w.heap.size) : Below B w w' :=
  ⟨h.os, h.tape, h.output, h.size, fun k hk => h.block k (by omega) (by omega)⟩

theorem At.only {w w' : World} {k : IntKind} {b off bz oz n : Nat} {xs : List Nat} (h : At w k b off xs) (ho : Only w w' bz oz n) (hb : b ≠ bz) : At w' k b off xs := by
  intro i hi
  have h1 := h i hi
  have h2 := World.block_lt_of_cell? _ _ h1
  rw [← h1]
  exact World.cell?_of_block (w := w) (ho.block b h2 hb)

/-- A part of the very block that lies outside of what was written. -/
theorem At.onlyOut {w w' : World} {k : IntKind} {b off oz n : Nat} {xs : List Nat} (h : At w k b off xs) (ho : Only w w' b oz n) (hd : off + xs.length ≤ oz ∨ oz + n ≤ off) : At w' k b off xs := by
  intro i hi
  rw [← h i hi]
  exact ho.cell _ (by omega)

theorem Fr.only {w w' : World} {b off m oz n : Nat} (h : Fr w b off m) (ho : Only w w' b oz n) : Fr w' b off m := by
  intro i hi
  rw [ho.frozen]; exact h i hi

theorem Fr.onlyOther {w w' : World} {b off m bz oz n : Nat} (h : Fr w b off m) (ho : Only w w' bz oz n) (hl : b < w.heap.size) (hb : b ≠ bz) : Fr w' b off m := by
  intro i hi
  rw [← h i hi]
  exact World.frozen?_of_block (w := w) (ho.block b hl hb)

theorem At.append {w : World} {k : IntKind} {b off : Nat} {xs ys : List Nat} (h : At w k b off xs) (h2 : At w k b (off + xs.length) ys) : At w k b off (xs ++ ys) := by
  intro i hi
  rw [List.length_append] at hi
  by_cases hx : i < xs.length
  · rw [h i hx]; simp [List.getD, List.getElem?_append, hx]
  · have := h2 (i - xs.length) (by omega)
    rw [show off + xs.length + (i - xs.length) = off + i from by omega] at this
    rw [this]; simp [List.getD, List.getElem?_append, hx]

/-- What a contract's 'Below' says of the cells that were there. -/
theorem bcell {W w1 : World} (hb : Below W.heap.size W w1) : (∀ b o, b < W.heap.size → w1.cell? ⟨b, o, none⟩ = W.cell? ⟨b, o, none⟩) ∧ (∀ b o, b < W.heap.size → w1.frozen? ⟨b, o, none⟩ = W.frozen? ⟨b, o, none⟩) :=
  ⟨fun b o h => hb.cell (p := ⟨b, o, none⟩) h, fun b o h => hb.frozen (p := ⟨b, o, none⟩) h⟩

/-- The digits of 64 bits; the digits as the program has them: of 0 one. -/
def dw (n : Nat) : List Nat := digs (2 ^ 64) n
def ds (n : Nat) : List Nat := if n = 0 then [0] else dw n

theorem ds_small {n : Nat} (h : n < 2 ^ 64) : ds n = [n] := by
  unfold ds dw
  by_cases h0 : n = 0
  · simp [h0]
  · rw [if_neg h0, digs_pos (by omega) h0, Nat.mod_eq_of_lt h, Nat.div_eq_of_lt h, digs_zero]
theorem ds_big {n : Nat} (h : n ≠ 0) : ds n = dw n := by unfold ds; rw [if_neg h]
theorem val_ds (n : Nat) : val (2 ^ 64) (ds n) = n := by
  unfold ds
  split
  · subst_vars; rfl
  · exact val_digs (by omega) n
theorem ds_lt (n : Nat) : ∀ x ∈ ds n, x < 2 ^ 64 := by
  unfold ds
  split
  · intro x hx; simp at hx; omega
  · exact digs_lt (by omega) n
theorem ds_pos (n : Nat) : 0 < (ds n).length := by
  unfold ds
  split
  · simp
  · rename_i h; exact List.length_pos_iff.2 (digs_ne_nil (by omega) h)
theorem ds_two {n : Nat} (h : 2 ^ 64 ≤ n) : 2 ≤ (ds n).length := by
  rw [ds_big (by omega)]; exact digs_length_lt (k := 1) (by omega) (by omega)
theorem ds_one {n : Nat} (h : n < 2 ^ 64) : (ds n).length = 1 := by rw [ds_small h]; rfl
theorem ds_mono {m n : Nat} (h : m ≤ n) : (ds m).length ≤ (ds n).length := by
  by_cases h0 : m = 0
  · subst h0; rw [ds_one (by omega)]; exact ds_pos n
  · rw [ds_big h0, ds_big (by omega)]; exact digs_length_mono (by omega) h
theorem lt_ds (n : Nat) : n < (2 ^ 64) ^ (ds n).length := by
  have := val_lt (2 ^ 64) (ds n) (ds_lt n)
  rwa [val_ds] at this
theorem ds_le {n k : Nat} (hk : 0 < k) (h : n < (2 ^ 64) ^ k) : (ds n).length ≤ k := by
  by_cases h0 : n = 0
  · subst h0; rw [ds_one (by omega)]; exact hk
  · rw [ds_big h0]; exact digs_length_le (by omega) h
theorem ds_last {n : Nat} (h : n ≠ 0) : (ds n).getD ((ds n).length - 1) 0 ≠ 0 := by
  rw [ds_big h]; exact digs_last (by omega) h

/-- The parts of a value of the program's type of numbers say the number n. -/
def IsN (w : World) (s : Int) (p : Option Addr) (l c : Nat) (n : Nat) : Prop :=
  (n < 2 ^ 64 ∧ s = (n : Int) ∧ p = none ∧ l = 0 ∧ c = 0) ∨
  (2 ^ 64 ≤ n ∧ s = 0 ∧ ∃ b off, p = some ⟨b, off, none⟩ ∧ l = (ds n).length ∧ l ≤ c ∧ At w .u64 b off (ds n))

theorem IsN.mono {w w' : World} {s : Int} {p : Option Addr} {l c n : Nat} (h : IsN w s p l c n) (hb : Below w.heap.size w w') : IsN w' s p l c n := by
  rcases h with h | ⟨h1, h2, b, off, h3, h4, h5, h6⟩
  · exact Or.inl h
  · exact Or.inr ⟨h1, h2, b, off, h3, h4, h5, h6.mono hb⟩

theorem IsN.short {w : World} {n : Nat} (h : n < 2 ^ 64) : IsN w (n : Int) none 0 0 n := Or.inl ⟨h, rfl, rfl, rfl, rfl⟩

/-- What a call that returns a number leaves. -/
def RetN (W : World) (n : Nat) : Ending → World → Prop := fun e w' =>
  ∃ s p l c, e = .returned (.agg #[.int .u64 s, .slice p l c]) ∧ IsN w' s p l c n ∧ Below W.heap.size W w'

theorem RetN.short {W w' : World} {n : Nat} (h : n < 2 ^ 64) (hb : Below W.heap.size W w') : RetN W n (.returned (.agg #[.int .u64 (n : Int), .slice none 0 0])) w' :=
  ⟨_, _, _, _, rfl, .short h, hb⟩

/-- What a call that returns a row leaves: of memory of its own; or of any memory. -/
def RetW (W : World) (k : IntKind) (xs : List Nat) : Ending → World → Prop := fun e w' =>
  ∃ b off c, e = .returned (.slice (some ⟨b, off, none⟩) xs.length c) ∧ xs.length ≤ c ∧ W.heap.size ≤ b ∧ At w' k b off xs ∧ Fr w' b off xs.length ∧ Below W.heap.size W w'
def RetL (W : World) (k : IntKind) (xs : List Nat) : Ending → World → Prop := fun e w' =>
  ∃ b off c, e = .returned (.slice (some ⟨b, off, none⟩) xs.length c) ∧ xs.length ≤ c ∧ At w' k b off xs ∧ Below W.heap.size W w'

/-- What the trimming of a row leaves: its head, up to the last digit that is not 0. -/
def RetTrim (W : World) (base b off c : Nat) (xs : List Nat) : Ending → World → Prop := fun e w' =>
  W = w' ∧ e = .returned (.slice (some ⟨b, off, none⟩) (digs base (val base xs)).length c) ∧ xs.take (digs base (val base xs)).length = digs base (val base xs)

theorem RetTrim.mk {W : World} {base b off c : Nat} {xs : List Nat} {n : Nat} (hb : 2 ≤ base) (hx : ∀ x ∈ xs, x < base) (hn : n ≤ xs.length) (h0 : ∀ i, n ≤ i → i < xs.length → xs.getD i 0 = 0)
    (hl : n ≠ 0 → xs.getD (n - 1) 0 ≠ 0) : RetTrim W base b off c xs (.returned (.slice (some ⟨b, off, none⟩) n c)) W := by
  have h := digs_take hb xs n hx hn h0 hl
  have e : (digs base (val base xs)).length = n := by rw [← h, List.length_take]; omega
  exact ⟨rfl, by rw [e], by rw [e, h]⟩

/-- -1, 0 or 1. -/
def cmp3 (x y : Int) : Int := if x < y then -1 else if y < x then 1 else 0
theorem cmp3_lt {x y : Int} (h : x < y) : cmp3 x y = -1 := by unfold cmp3; rw [if_pos h]
theorem cmp3_gt {x y : Int} (h : y < x) : cmp3 x y = 1 := by unfold cmp3; rw [if_neg (by omega), if_pos h]
theorem cmp3_eq (x : Int) : cmp3 x x = 0 := by unfold cmp3; rw [if_neg (by omega), if_neg (by omega)]

theorem ret_slice {p : Option Addr} {l l' c : Nat} (h : l = l') : Ending.returned (.slice p l c) = .returned (.slice p l' c) := by rw [h]
theorem ret_int {k : IntKind} {a b : Int} (h : a = b) : Ending.returned (.int k a) = .returned (.int k b) := by rw [h]
theorem ret_bool {a b : Bool} (h : a = b) : Ending.returned (.bool a) = .returned (.bool b) := by rw [h]

/-- A cell of an aggregate's block that was just made. -/
theorem At.new1 (w : World) (k : IntKind) (x : Nat) (t : TypeId) : At (w.alloc (.cells #[.int k (x : Int)] t)) k w.heap.size 0 [x] := by
  intro i hi
  have : i = 0 := by simpa using hi
  subst this
  exact World.cell?_alloc_at _ _ _ _ rfl
theorem At.new2 (w : World) (k : IntKind) (x y : Nat) (t : TypeId) : At (w.alloc (.cells #[.int k (x : Int), .int k (y : Int)] t)) k w.heap.size 0 [x, y] := by
  intro i hi
  have : i = 0 ∨ i = 1 := by simp at hi; omega
  rcases this with rfl | rfl
  · exact World.cell?_alloc_at _ _ _ _ rfl
  · exact World.cell?_alloc_at _ _ _ _ rfl

theorem below_alloc {W w : World} (h : Below W.heap.size W w) (o : Obj) : Below W.heap.size W (w.alloc o) := h.alloc h.size o

theorem below_drewN {B : Nat} {a w : World} (h : Below B a w) (n : Nat) : Below B a (w.drewN n) := ⟨h.os, h.tape, h.output, h.size, h.block⟩
theorem quiet_of_eq {P : Program} {f : FuncId} {args : Array Value} {w : World} {n : Nat} {v : Value}
    (h : Calls P f args (w.drewN n) fun e w' => w.drewN n = w' ∧ e = .returned v) : Calls P f args (w.drewN n) fun e w'' => e = .returned v ∧ ∃ m, w'' = w.drewN m :=
  h.mono fun _ _ ⟨hm, he⟩ => ⟨he, n, hm.symm⟩

theorem quiet_eq_add {P : Program} {f : FuncId} {args : Array Value} {w : World} {a n : Nat} {v : Value}
    (h : Calls P f args (w.drewN (a + n)) fun e w' => w.drewN (a + n) = w' ∧ e = .returned v) :
    Calls P f args (w.drewN (a + n)) fun e w'' => e = .returned v ∧ ∃ m, w'' = w.drewN (a + m) :=
  h.mono fun _ _ ⟨hm, he⟩ => ⟨he, n, hm.symm⟩

/-- A step that leaves all older blocks alone, behind another. -/
theorem below_step {W w w' : World} (h : Below W.heap.size W w) (h' : Below w.heap.size w w') : Below W.heap.size W w' := h.trans (h'.mono h.size)

end Go.Proofs.YthjeidgmkkkmbaaGreatDoor

/- Rows of bytes: a slice that says bytes; the first bytes of an argument. -/
namespace Go.Proofs.YthjeidgmkkkmbaaGreatDoor
open Go.RowKit

theorem Tryz.infoU8 : (Tryz.prog.info? 5).map (fun i => (i.zero, i.size, i.bytes)) = some (some (.int .u8 0), 1, 1) := by kernel_rfl
theorem Tryz.cellsU8 : Tryz.prog.cellsOf 5 = 1 := by kernel_rfl

theorem run_make_one {P : Program} (t e : TypeId) (k : IntKind) (by_ n : Nat) (ht : P.underlying t = some (.slice e)) (hi : (P.info? e).map (fun i => (i.zero, i.size, i.bytes)) = some (some (.int k 0), 1, by_))
    (hb : by_ ≤ 8) (hn : n ≤ 1099511627776) (w : World) :
    (Instr.makeSlice t (.int .i64 (n : Int)) (.int .i64 (n : Int))).run P w = .ok (.slice (some ⟨w.heap.size, 0, none⟩) n n) (w.alloc (.cells (madeCells #[.int k 0] n) e)) := by
  obtain ⟨i0, h1, h2, h3, h4⟩ := info_parts hi
  have hbb : i0.bytes * n ≤ 8 * n := Nat.mul_le_mul_right n (by omega)
  have hb' : (i0.bytes : Int) * (n : Int) ≤ 281474976710656 := by
    have h : ((i0.bytes * n : Nat) : Int) ≤ 281474976710656 := by omega
    rwa [Int.natCast_mul] at h
  have hr := run_make (P := P) w t e i0 _ ht h1 h2 .i64 .i64 n n (by omega) (by omega) hb' (by omega)
  simp only [Int.toNat_natCast, h3, Nat.mul_one] at hr
  exact hr

theorem make_u8 (n : Nat) (hn : n ≤ 1099511627776) (w : World) : (Instr.makeSlice 22 (.int .i64 (n : Int)) (.int .i64 (n : Int))).run Tryz.prog w = .ok (.slice (some ⟨w.heap.size, 0, none⟩) n n) (w.alloc (.cells (madeCells #[.int .u8 0] n) 5)) :=
  run_make_one _ _ _ 1 n Tryz.underlying22 Tryz.infoU8 (by omega) hn w
theorem At.made (w : World) (k : IntKind) (n : Nat) (t : TypeId) : At (w.alloc (.cells (madeCells #[.int k 0] n) t)) k w.heap.size 0 (List.replicate n 0) := by
  intro i hi
  have hi' : i < n := by simpa using hi
  rw [World.cell?_alloc_at _ _ _ _ rfl]
  simp [madeCells, hi', Nat.mod_one]

theorem Fr.made (w : World) (k : IntKind) (n m : Nat) (t : TypeId) : Fr (w.alloc (.cells (madeCells #[.int k 0] n) t)) w.heap.size 0 m :=
  fun _ _ => World.frozen?_alloc_at _ _ _ _ rfl

/-- The cells of a row. -/
def cellsOfRow (k : IntKind) (xs : List Nat) : List Value := xs.map fun (x : Nat) => Value.int k (x : Int)

/-- The parts of a slice say the bytes bs. -/
def IsB (w : World) (p : Option Addr) (l c : Nat) (bs : List Nat) : Prop :=
  bs.length = l ∧ (∀ x ∈ bs, x < 256) ∧ ((p = none ∧ l = 0 ∧ c = 0) ∨ ∃ b off sp, p = some ⟨b, off, sp⟩ ∧ l ≤ c ∧ ∀ i, i < bs.length → w.cell? ((⟨b, off, sp⟩ : Addr).add i) = some (.int .u8 ((bs.getD i 0 : Nat) : Int)))

theorem IsB.mono {w w' : World} {p : Option Addr} {l c : Nat} {bs : List Nat} (h : IsB w p l c bs) (hb : Below w.heap.size w w') : IsB w' p l c bs := by
  obtain ⟨h1, h2, h3 | ⟨b, off, sp, h3, h4, h5⟩⟩ := h
  · exact ⟨h1, h2, Or.inl h3⟩
  · exact ⟨h1, h2, Or.inr ⟨b, off, sp, h3, h4, fun i hi => by have h6 := h5 i hi; rw [hb.cell (World.block_lt_of_cell? _ _ h6)]; exact h6⟩⟩

theorem ret_own {W w2 : World} {k : IntKind} {t : TypeId} {v : Value} {bs : List Nat} (h : w2.ownsRow W.heap.size t 1 v bs.length (cellsOfRow k bs)) (hn : v ≠ .slice none 0 0) (hb : Below W.heap.size W w2) :
    RetW W k bs (.returned v) w2 := by
  rcases h.2 with ⟨h1, _⟩ | ⟨g, cap, cur, rfl, hg, _, hcap, _, _, _⟩
  · exact absurd h1 hn
  · refine ⟨g, 0, cap, rfl, hcap, hg, fun i hi => ?_, fun i _ => ?_, hb⟩
    · rw [Nat.zero_add, World.ownsRow.cellAt h i (by omega)]
      simp [cellsOfRow, List.getD, hi]
    · rw [Nat.zero_add]; exact World.ownsRow.frozenAt h i

set_option maxHeartbeats 1000000 in
theorem few_some (b off c l n : Nat) (sp : Option Nat) (bs : List Nat) (w : World) (hl : bs.length = l) (hlc : l ≤ c) (hl2 : n ≤ 1000000000) (h : ∀ i, i < bs.length → w.cell? ((⟨b, off, sp⟩ : Addr).add i) = some (.int .u8 ((bs.getD i 0 : Nat) : Int))) :
    Calls Tryz.prog 15 #[.slice (some ⟨b, off, sp⟩) l c, .int .i64 (n : Int)] w (RetW w .u8 (bs.take n)) := by
  obtain ⟨i0, hi, hz0, hz1, hz2⟩ := info_parts Tryz.infoU8
  obtain ⟨m, hmm⟩ : ∃ m, m = min l n := ⟨_, rfl⟩
  have hm : (bs.take n).length = m := by rw [List.length_take]; omega
  have hmin : min (l : Int) (n : Int) = (m : Int) := by omega
  have hite : (if n < l then (n : Int) else (l : Int)) = (m : Int) := by split <;> omega
  have hnews : ∀ j u, (cellsOfRow .u8 (bs.take n))[j]? = some u → (w.alloc (.cells #[] 5)).cell? ((⟨b, off, sp⟩ : Addr).add j) = some u := by
    intro j u hj
    have hjl : j < (bs.take n).length := by
      rcases Nat.lt_or_ge j (bs.take n).length with h | h
      · exact h
      · rw [List.getElem?_eq_none (by simpa [cellsOfRow] using h)] at hj; cases hj
    have hjb : j < bs.length := by rw [List.length_take] at hjl; omega
    have h1 := h j hjb
    have h2 : (w.alloc (.cells #[] 5)).cell? ((⟨b, off, sp⟩ : Addr).add j) = w.cell? ((⟨b, off, sp⟩ : Addr).add j) := (below_alloc (Below.refl w.heap.size w) (.cells #[] 5)).cell (World.block_lt_of_cell? _ _ h1)
    have h3 : bs.getD j 0 = (bs.take n).getD j 0 := by
      rw [List.length_take] at hjl
      simp [List.getD, show j < n by omega]
    rw [h2, h1, h3, ← hj]
    generalize bs.take n = bt at *
    simp [cellsOfRow, List.getD, hjl]
  have hm2 : m ≤ c := by omega
  have hm3 : m ≤ 1000000000 := by omega
  have HM := Lib.hid hm
  have HN := Lib.hid hnews
  clear hnews hm h hmm
  go_enter Tryz.func15, Tryz.ntmps15
  go_wp2_with (at_builtin; go_loud (refine wpList_append_own _ rfl (.tmp 5) (.tmp 11) 22 rfl w.heap.size 5 i0 (.int .u8 0) 1 1 Tryz.underlying22 hi hz0 hz1 hz2 rfl (by decide) (.slice (some ⟨w.heap.size, 0, none⟩) 0 0) 0 [] rfl ?own ⟨b, off, sp⟩ m c (cellsOfRow .u8 (bs.take n)) rfl ?c1 HN.out ?c3 ?c4 ?c5 ?c6 ?_))
  case own => exact World.ownsRow_made w #[] 0 (Nat.le_refl _) (by simp [maxLen]) (by simp)
  case c1 => rw [cellsOfRow, List.length_map, HM.out, Nat.mul_one]
  case c3 =>
    intro u hu
    simp only [cellsOfRow, List.mem_map] at hu
    obtain ⟨x, _, rfl⟩ := hu
    rfl
  case c4 => unfold maxLen; omega
  case c5 => omega
  case c6 => simp
  intro v' w2 hown hg hnil
  have hb : Below w.heap.size w w2 := (below_alloc (Below.refl w.heap.size w) (.cells #[] 5)).grown hg (by simp) (fun k hk => by simp [Value.ownBlock] at hk; omega)
  have HO := Lib.hid hown; have HNN := Lib.hid hnil; have HB := Lib.hid hb
  clear hown hg hnil hb
  go_wp2
  go_ret
  have ho := HO.out
  rw [← HM.out] at ho
  exact ret_own ho HNN.out HB.out

set_option maxHeartbeats 1000000 in
theorem few_none (n : Nat) (w : World) (hl2 : n ≤ 1000000000) :
    Calls Tryz.prog 15 #[.slice none 0 0, .int .i64 (n : Int)] w (RetW w .u8 []) := by
  obtain ⟨i0, hi, hz0, hz1, hz2⟩ := info_parts Tryz.infoU8
  go_enter Tryz.func15, Tryz.ntmps15
  go_wp2_with (at_builtin; go_loud (refine wpList_append_own_none rfl (.tmp 5) (.tmp 11) 22 rfl w.heap.size 5 i0 1 Tryz.underlying22 hi (.slice (some ⟨w.heap.size, 0, none⟩) 0 0) 0 [] rfl ?own rfl ?_))
  case own => exact World.ownsRow_made w #[] 0 (Nat.le_refl _) (by simp [maxLen]) (by simp)
  go_wp2
  go_ret
  exact ⟨w.heap.size, 0, 0, rfl, Nat.le_refl _, Nat.le_refl _, At.nil _ _ _ _, fun i hi => by simp at hi, below_alloc (Below.refl _ _) _⟩

theorem few_any (p : Option Addr) (l c n : Nat) (bs : List Nat) (w : World) (hl2 : n ≤ 1000000000) (h : IsB w p l c bs) :
    Calls Tryz.prog 15 #[.slice p l c, .int .i64 (n : Int)] w (RetW w .u8 (bs.take n)) := by
  obtain ⟨h1, h2, ⟨rfl, rfl, rfl⟩ | ⟨b, off, sp, rfl, h4, h5⟩⟩ := h
  · have : bs = [] := List.eq_nil_of_length_eq_zero h1
    subst this
    rw [List.take_nil]
    exact few_none n w hl2
  · exact few_some b off c l n sp bs w h1 h4 hl2 h5
end Go.Proofs.YthjeidgmkkkmbaaGreatDoor

/- Raw numbers as small ones. -/
namespace Go.Proofs.YthjeidgmkkkmbaaGreatDoor
open Go.RowKit

end Go.Proofs.YthjeidgmkkkmbaaGreatDoor

/- A raw number as a place in a slice of whatever length; a slice of bytes cut there. -/
namespace Go.Proofs.YthjeidgmkkkmbaaGreatDoor
open Go.RowKit

theorem IsB.pre {w : World} {p : Option Addr} {l c : Nat} {bs : List Nat} (h : IsB w p l c bs) (v : Nat) (hv : v ≤ l) : IsB w p v c (bs.take v) := by
  obtain ⟨h1, h2, h3⟩ := h
  refine ⟨by rw [List.length_take]; omega, fun x hx => h2 x (List.mem_of_mem_take hx), ?_⟩
  rcases h3 with ⟨rfl, rfl, rfl⟩ | ⟨b, off, sp, rfl, hc, hat⟩
  · exact Or.inl ⟨rfl, by omega, rfl⟩
  · refine Or.inr ⟨b, off, sp, rfl, by omega, fun i hi => ?_⟩
    rw [List.length_take] at hi
    have e : (bs.take v).getD i 0 = bs.getD i 0 := by simp [List.getD, List.getElem?_take_of_lt (by omega : i < v)]
    rw [e]; exact hat i (by omega)

theorem pick_of (n M t v : Int) (w : World) (hm : ¬ M = 0) (ht : n.tmod M = t) (wt : IntKind.i64.wrap t = t) (hv : v = if t < 0 then IntKind.i64.wrap (t + M) else t) :
    Calls Tryz.prog 7 #[.int .i64 n, .int .i64 M] w fun e w' => w = w' ∧ e = .returned (.int .i64 v) := by
  have HV := Lib.hid hv
  clear hv
  rcases Int.lt_or_le t 0 with hneg | hneg
  · obtain ⟨u, hu⟩ : ∃ u, IntKind.i64.wrap (t + M) = u := ⟨_, rfl⟩
    have HU := Lib.hid hu
    have wt2 : IntKind.i64.wrap (n.tmod M) = t := by rw [ht]; exact wt
    go_enter Tryz.func7, Tryz.ntmps7
    go_wp2
    go_ret
    rw [HV.out, if_pos hneg, HU.out]
    exact ⟨rfl, rfl⟩
  · have wt2 : IntKind.i64.wrap (n.tmod M) = t := by rw [ht]; exact wt
    go_enter Tryz.func7, Tryz.ntmps7
    go_wp2
    go_ret
    rw [HV.out, if_neg (by omega)]
    exact ⟨rfl, rfl⟩

end Go.Proofs.YthjeidgmkkkmbaaGreatDoor
