/- The document's reading of a record: numbers; the first loop. -/
import Derived.Test.YtdmoiagliflecaaO10
import Derived.Test.YtdmoiagliflecaaO13
namespace Go.Proofs.Ytdmoiagliflecaa
open Go.RowKit

/-- The number of the first nine groups at most. -/
def firsts (t : List Nat) (k : Nat) : Nat := groups (t.take (min k 9))
theorem groups_take_succ (t : List Nat) (k : Nat) (hk : k < t.length) : groups (t.take (k + 1)) = groups (t.take k) + t.getD k 0 % 128 * 2 ^ (7 * k) := by
  unfold groups
  rw [List.map_take, List.map_take, val_take_succ _ _ _ (by simpa using hk), Nat.mul_comm (128 ^ k), show (128 : Nat) = 2 ^ 7 from rfl, ← Nat.pow_mul]
  congr 2
  simp [List.getD, hk]
theorem groups_take_lt (t : List Nat) (k : Nat) : groups (t.take k) < 2 ^ (7 * k) := by
  unfold groups
  have h := val_lt 128 ((t.take k).map (· % 128)) (fun x hx => by obtain ⟨a, _, rfl⟩ := List.mem_map.1 hx; exact Nat.mod_lt _ (by decide))
  rw [Nat.pow_mul]
  refine Nat.lt_of_lt_of_le h (Nat.pow_le_pow_right (by decide) ?_)
  rw [List.length_map, List.length_take]; omega
theorem firsts_le {t : List Nat} {k : Nat} (hk : k ≤ 9) : firsts t k = groups (t.take k) := by unfold firsts; rw [Nat.min_eq_left hk]
theorem firsts_ge {t : List Nat} {k : Nat} (hk : 9 ≤ k) : firsts t (k + 1) = firsts t k := by unfold firsts; rw [Nat.min_eq_right hk, Nat.min_eq_right (by omega)]
theorem firsts_succ {t : List Nat} {k N d D : Nat} (hk : k < t.length) (h9 : k ≤ 8) (hN : N = firsts t k) (hd : d = t.getD k 0 % 128) (hD : D = d * 2 ^ (7 * k)) : firsts t (k + 1) = N + D ∧ N ||| D = N + D ∧ N + D < 2 ^ 63 ∧ D < 2 ^ 63 := by
  have h1 := groups_take_succ t k hk
  have h2 := groups_take_lt t k
  have h3 := groups_take_lt t (k + 1)
  rw [firsts_le (by omega)] at hN
  rw [← hN, ← hd, ← hD] at h1
  have h4 : 2 ^ (7 * (k + 1)) ≤ 2 ^ 63 := Nat.pow_le_pow_right (by decide) (by omega)
  rw [← hN] at h2
  refine ⟨by rw [firsts_le (by omega), h1], ?_, by omega, by omega⟩
  have h5 := Nat.two_pow_add_eq_or_of_lt h2 d
  rw [Nat.mul_comm, ← hD] at h5
  rw [Nat.or_comm, ← h5]; omega

/-- A number out of its bytes, the most significant one first. -/
def beVal (l : List Nat) : Nat := l.foldl (fun h x => h * 256 + x) 0
theorem beVal_snoc (l : List Nat) (x : Nat) : beVal (l ++ [x]) = beVal l * 256 + x := by simp [beVal]
theorem beVal_take_succ (l : List Nat) (k : Nat) (hk : k < l.length) : beVal (l.take (k + 1)) = beVal (l.take k) * 256 + l.getD k 0 := by
  rw [List.take_succ_eq_append_getElem hk, beVal_snoc, show l.getD k 0 = l[k] from by simp [List.getD, hk]]
theorem beVal_lt (l : List Nat) (h : ∀ x ∈ l, x < 256) : beVal l < 256 ^ l.length := by
  suffices H : ∀ (l : List Nat) (a k : Nat), (∀ x ∈ l, x < 256) → a < 256 ^ k → l.foldl (fun h x => h * 256 + x) a < 256 ^ (k + l.length) by
    have := H l 0 0 h (by decide)
    rwa [Nat.zero_add] at this
  intro l
  induction l with
  | nil => intro a k _ h; exact h
  | cons x l ih =>
    intro a k hx h
    rw [List.foldl_cons, List.length_cons, show k + (l.length + 1) = (k + 1) + l.length from by omega]
    refine ih _ _ (fun y hy => hx y (List.mem_cons_of_mem _ hy)) ?_
    have := hx x (List.mem_cons_self ..)
    rw [Nat.pow_succ]
    omega
theorem beVal_be8 {D : List Nat} {F : Nat} (hl : D.length = 8) (hx : ∀ x ∈ D, x < 256) (hF : F < 2 ^ 64) : beVal D = F ↔ D = be8 F := by
  match D, hl with
  | [a, b, c, d, e, f, g, h], _ =>
    have ha := hx a (by simp); have hb := hx b (by simp); have hc := hx c (by simp); have hd := hx d (by simp)
    have he := hx e (by simp); have hf := hx f (by simp); have hg := hx g (by simp); have hh := hx h (by simp)
    simp only [beVal, List.foldl_cons, List.foldl_nil, be8, List.cons.injEq, and_true]
    omega

/-- What is known where the first loop ends with a whole count. -/
theorem findSpec_num {t : List Nat} {i N : Nat} (h0 : 0 < t.length) (hx0 : t.getD 0 0 ≠ 0) (hi : lastAt (t.drop 1) + 1 = i) (hlt : i < t.length) (h9 : i ≤ 9) (hN : N = firsts (t.drop 1) i) (hform : ¬ (1 < i ∧ t.getD i 0 = 0)) :
    findSpec t = if 4194304 < N then (0, 0, 4) else (1 + i, 1 + i + N, 0) := by
  have hd : ∀ k, (t.drop 1).getD k 0 = t.getD (1 + k) 0 := fun k => by rw [List.getD_eq_getElem?_getD, List.getElem?_drop, List.getD_eq_getElem?_getD]
  have hr : readSpec (t.drop 1) = if 2 ^ 62 < N then (0, 0, 4) else (N, i, 0) := by
    rw [readSpec_num (by rw [List.length_drop]; omega) (by rintro ⟨h1, h2⟩; rw [hd, show 1 + lastAt (t.drop 1) = i from by omega] at h2; exact hform ⟨by omega, h2⟩) (by omega), hi, hN, firsts_le h9]
  unfold findSpec
  rw [if_neg (by omega), if_neg hx0, hr]
  by_cases h62 : 2 ^ 62 < N
  · rw [if_pos h62, if_pos (by decide), if_pos (by omega)]
  · rw [if_neg h62, if_neg (fun h => h rfl)]
theorem findSpec_long {t : List Nat} {i : Nat} (h0 : 0 < t.length) (hx0 : t.getD 0 0 ≠ 0) (hi : lastAt (t.drop 1) + 1 = i) (hlt : i < t.length) (h9 : 9 < i) (hform : t.getD i 0 ≠ 0) : findSpec t = (0, 0, 4) := by
  have hd : ∀ k, (t.drop 1).getD k 0 = t.getD (1 + k) 0 := fun k => by rw [List.getD_eq_getElem?_getD, List.getElem?_drop, List.getD_eq_getElem?_getD]
  have hr : readSpec (t.drop 1) = (0, 0, 4) :=
    readSpec_long (by rw [List.length_drop]; omega) (by rintro ⟨h1, h2⟩; rw [hd, show 1 + lastAt (t.drop 1) = i from by omega] at h2; exact hform h2) (by omega)
  unfold findSpec
  rw [if_neg (by omega), if_neg hx0, hr, if_pos (by decide)]
theorem findSpec_form {t : List Nat} {i : Nat} (h0 : 0 < t.length) (hx0 : t.getD 0 0 ≠ 0) (hi : lastAt (t.drop 1) + 1 = i) (hlt : i < t.length) (h1 : 1 < i) (hform : t.getD i 0 = 0) : findSpec t = (0, 0, 2) := by
  have hd : ∀ k, (t.drop 1).getD k 0 = t.getD (1 + k) 0 := fun k => by rw [List.getD_eq_getElem?_getD, List.getElem?_drop, List.getD_eq_getElem?_getD]
  have hr : readSpec (t.drop 1) = (0, 0, 2) :=
    readSpec_form (by rw [List.length_drop]; omega) (by omega) (by rw [hd, show 1 + lastAt (t.drop 1) = i from by omega]; exact hform)
  unfold findSpec
  rw [if_neg (by omega), if_neg hx0, hr, if_pos (by decide)]
theorem findSpec_short {t : List Nat} (h0 : 0 < t.length) (hx0 : t.getD 0 0 ≠ 0) (hi : lastAt (t.drop 1) = t.length - 1) : findSpec t = (0, 0, 3) := by
  have hr : readSpec (t.drop 1) = (0, 0, 3) := readSpec_short (by rw [List.length_drop]; exact hi)
  unfold findSpec
  rw [if_neg (by omega), if_neg hx0, hr, if_pos (by decide)]
theorem nextSpec_err {t : List Nat} {e : Nat} (h : findSpec t = (0, 0, e)) (he : e ≠ 0) : nextSpec t = (0, [], 0, e) := by
  rw [nextSpec_find, h, if_pos he]
end Go.Proofs.Ytdmoiagliflecaa
