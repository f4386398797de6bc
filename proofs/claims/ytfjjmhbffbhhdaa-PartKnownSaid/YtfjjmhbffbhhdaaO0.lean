/- Plain facts on bytes: a checksum, counts in groups of seven bits, records. No program stands in this text. -/
import Derived.Test.YtfjjmhbffbhhdaaNum
namespace Go.Proofs.Ytfjjmhbffbhhdaa

/-- One byte more in the checksum. -/
def fnvStep (h c : Nat) : Nat := (h ^^^ c) * 1099511628211 % 2 ^ 64
def fnvFrom (h : Nat) (bs : List Nat) : Nat := bs.foldl fnvStep h
def fnv (bs : List Nat) : Nat := fnvFrom 14695981039346656037 bs

theorem foldl_cons' {f : Nat → Nat → Nat} (h c : Nat) (bs : List Nat) : List.foldl f h (c :: bs) = List.foldl f (f h c) bs := rfl
theorem foldl_snoc' {f : Nat → Nat → Nat} (h y : Nat) (bs : List Nat) : List.foldl f h (bs ++ [y]) = f (List.foldl f h bs) y := by rw [List.foldl_append]; rfl
theorem foldl_app' {f : Nat → Nat → Nat} (h : Nat) (xs ys : List Nat) : List.foldl f h (xs ++ ys) = List.foldl f (List.foldl f h xs) ys := List.foldl_append ..
theorem fnvFrom_cons (h c : Nat) (bs : List Nat) : fnvFrom h (c :: bs) = fnvFrom (fnvStep h c) bs := foldl_cons' h c bs
theorem fnvStep_lt (h c : Nat) : fnvStep h c < 2 ^ 64 := Nat.mod_lt _ (by decide)
theorem fnvFrom_lt (bs : List Nat) (h : Nat) (hh : h < 2 ^ 64) : fnvFrom h bs < 2 ^ 64 := by
  induction bs generalizing h with
  | nil => exact hh
  | cons c bs ih => rw [fnvFrom_cons]; exact ih _ (fnvStep_lt _ _)
theorem fnv_lt (bs : List Nat) : fnv bs < 2 ^ 64 := by unfold fnv; exact fnvFrom_lt bs _ (by omega)
theorem fnvFrom_append (h : Nat) (xs ys : List Nat) : fnvFrom h (xs ++ ys) = fnvFrom (fnvFrom h xs) ys := foldl_app' h xs ys
theorem fnvFrom_snoc (h : Nat) (xs : List Nat) (y : Nat) : fnvFrom h (xs ++ [y]) = fnvStep (fnvFrom h xs) y := foldl_snoc' h y xs
theorem fnv_take_succ (bs : List Nat) (k : Nat) (hk : k < bs.length) : fnv (bs.take (k + 1)) = fnvStep (fnv (bs.take k)) (bs.getD k 0) := by
  rw [List.take_succ_eq_append_getElem hk]
  unfold fnv
  rw [fnvFrom_snoc, show bs.getD k 0 = bs[k] from by simp [List.getD, hk]]

/-- An odd factor can be taken away again. -/
theorem mul_inj {a b : Nat} (ha : a < 2 ^ 64) (hb : b < 2 ^ 64) (h : a * 1099511628211 % 2 ^ 64 = b * 1099511628211 % 2 ^ 64) : a = b := by
  have h1 : a * 1099511628211 % 2 ^ 64 * 14886173955864302971 % 2 ^ 64 = b * 1099511628211 % 2 ^ 64 * 14886173955864302971 % 2 ^ 64 := by rw [h]
  rw [Nat.mod_mul_mod, Nat.mod_mul_mod, Nat.mul_assoc, Nat.mul_assoc, ← Nat.mul_mod_mod a, ← Nat.mul_mod_mod b] at h1
  rw [show 1099511628211 * 14886173955864302971 % 2 ^ 64 = 1 from by decide, Nat.mul_one, Nat.mul_one, Nat.mod_eq_of_lt ha, Nat.mod_eq_of_lt hb] at h1
  exact h1
theorem xor_inj {a b c : Nat} (h : a ^^^ c = b ^^^ c) : a = b := by
  have : a ^^^ c ^^^ c = b ^^^ c ^^^ c := by rw [h]
  rwa [Nat.xor_assoc, Nat.xor_assoc, Nat.xor_self, Nat.xor_zero, Nat.xor_zero] at this
theorem xor_lt64 {a b : Nat} (ha : a < 2 ^ 64) (hb : b < 256) : a ^^^ b < 2 ^ 64 := Nat.xor_lt_two_pow ha (by omega)

theorem fnvStep_inj1 {a b c : Nat} (ha : a < 2 ^ 64) (hb : b < 2 ^ 64) (hc : c < 256) (h : fnvStep a c = fnvStep b c) : a = b :=
  xor_inj (mul_inj (xor_lt64 ha hc) (xor_lt64 hb hc) h)
theorem fnvStep_inj2 {a b c : Nat} (ha : a < 2 ^ 64) (hb : b < 256) (hc : c < 256) (h : fnvStep a b = fnvStep a c) : b = c := by
  have := mul_inj (xor_lt64 ha hb) (xor_lt64 ha hc) h
  rw [Nat.xor_comm a b, Nat.xor_comm a c] at this
  exact xor_inj this
theorem fnvFrom_inj (bs : List Nat) (a b : Nat) (ha : a < 2 ^ 64) (hb : b < 2 ^ 64) (hx : ∀ x ∈ bs, x < 256) (h : fnvFrom a bs = fnvFrom b bs) : a = b := by
  induction bs generalizing a b with
  | nil => exact h
  | cons c bs ih =>
    rw [fnvFrom_cons, fnvFrom_cons] at h
    exact fnvStep_inj1 ha hb (hx c (List.mem_cons_self ..)) (ih _ _ (fnvStep_lt _ _) (fnvStep_lt _ _) (fun x hm => hx x (List.mem_cons_of_mem _ hm)) h)

/-- Another byte is another checksum. -/
theorem fnv_set_ne (bs : List Nat) (i y : Nat) (hx : ∀ x ∈ bs, x < 256) (hi : i < bs.length) (hy : y < 256) (hne : y ≠ bs.getD i 0) : fnv (bs.set i y) ≠ fnv bs := by
  intro h
  have e1 : bs = bs.take i ++ bs.getD i 0 :: bs.drop (i + 1) := by
    have : bs.getD i 0 = bs[i] := by simp [List.getD, hi]
    rw [this, List.getElem_cons_drop, List.take_append_drop]
  have e2 : bs.set i y = bs.take i ++ y :: bs.drop (i + 1) := by
    rw [List.set_eq_take_append_cons_drop, if_pos hi]
  have hlt : fnv (bs.take i) < 2 ^ 64 := fnv_lt _
  have h2 : fnvFrom (fnvStep (fnv (bs.take i)) y) (bs.drop (i + 1)) = fnvFrom (fnvStep (fnv (bs.take i)) (bs.getD i 0)) (bs.drop (i + 1)) := by
    have a1 : fnv (bs.set i y) = fnvFrom (fnvStep (fnv (bs.take i)) y) (bs.drop (i + 1)) := by
      rw [e2]; unfold fnv; rw [fnvFrom_append, fnvFrom_cons]
    have a2 : fnv bs = fnvFrom (fnvStep (fnv (bs.take i)) (bs.getD i 0)) (bs.drop (i + 1)) := by
      conv => lhs; rw [e1]
      unfold fnv; rw [fnvFrom_append, fnvFrom_cons]
    rw [← a1, ← a2, h]
  have h3 := fnvFrom_inj _ _ _ (fnvStep_lt _ _) (fnvStep_lt _ _) (fun x hm => hx x (List.mem_of_mem_drop hm)) h2
  exact hne (fnvStep_inj2 hlt hy (getD_lt hx (by omega) i) h3)

/-- Eight bytes, the most significant first. -/
def be8 (n : Nat) : List Nat := [n / 2 ^ 56 % 256, n / 2 ^ 48 % 256, n / 2 ^ 40 % 256, n / 2 ^ 32 % 256, n / 2 ^ 24 % 256, n / 2 ^ 16 % 256, n / 2 ^ 8 % 256, n % 256]
theorem be8_length (n : Nat) : (be8 n).length = 8 := rfl
theorem be8_lt (n : Nat) : ∀ x ∈ be8 n, x < 256 := by
  intro x hx
  simp [be8] at hx
  omega
theorem be8_getD (n k : Nat) (hk : k < 8) : (be8 n).getD k 0 = n / 2 ^ (8 * (7 - k)) % 256 := by
  match k, hk with
  | 0, _ | 1, _ | 2, _ | 3, _ | 4, _ | 5, _ | 6, _ => rfl
  | 7, _ => simp [be8]
theorem be8_inj {m n : Nat} (hm : m < 2 ^ 64) (hn : n < 2 ^ 64) (h : be8 m = be8 n) : m = n := by
  simp [be8] at h
  omega

/-- A count: groups of seven bits, the least first. -/
def varint (n : Nat) : List Nat := if n ≤ 127 then [n] else (n % 128 + 128) :: varint (n / 128)
theorem varint_small {n : Nat} (h : n ≤ 127) : varint n = [n] := by rw [varint, if_pos h]
theorem varint_big {n : Nat} (h : ¬ n ≤ 127) : varint n = (n % 128 + 128) :: varint (n / 128) := by rw [varint, if_neg h]
theorem varint_lt (n : Nat) : ∀ x ∈ varint n, x < 256 := by
  induction n using varint.induct with
  | case1 n h => rw [varint_small h]; intro x hx; simp at hx; omega
  | case2 n h ih => rw [varint_big h]; intro x hx; rcases List.mem_cons.1 hx with rfl | hx; omega; exact ih x hx
theorem varint_length (n : Nat) : ∀ k, n < 128 ^ k → 0 < k → (varint n).length ≤ k := by
  induction n using varint.induct with
  | case1 n h => intro k _ hk; rw [varint_small h]; exact hk
  | case2 n h ih =>
    intro k hn hk
    rw [varint_big h]
    have : 1 < k := by
      rcases Nat.lt_or_ge 1 k with h1 | h1
      · exact h1
      · have : k = 1 := by omega
        subst this; omega
    have := ih (k - 1) (by
      have e : k = (k - 1) + 1 := by omega
      rw [e, Nat.pow_succ] at hn
      omega) (by omega)
    simp; omega
theorem varint_pos (n : Nat) : 0 < (varint n).length := by
  by_cases h : n ≤ 127
  · rw [varint_small h]; simp
  · rw [varint_big h]; simp

/-- Where the first byte below 128 stands. -/
def lastAt (t : List Nat) : Nat := t.findIdx (· < 128)
/-- The groups' number. -/
def groups (t : List Nat) : Nat := val 128 (t.map (· % 128))

/-- What a count's reading yields: the number, its size, an error. -/
def readSpec (t : List Nat) : Nat × Nat × Nat :=
  if lastAt t = t.length then (0, 0, 3)
  else if 0 < lastAt t ∧ t.getD (lastAt t) 0 = 0 then (0, 0, 2)
  else if 9 ≤ lastAt t then (0, 0, 4)
  else if 2 ^ 62 < groups (t.take (lastAt t + 1)) then (0, 0, 4)
  else (groups (t.take (lastAt t + 1)), lastAt t + 1, 0)

theorem lastAt_varint (n : Nat) (r : List Nat) : lastAt (varint n ++ r) + 1 = (varint n).length := by
  unfold lastAt
  induction n using varint.induct with
  | case1 n h =>
    rw [varint_small h]
    simp only [List.cons_append, List.nil_append, List.findIdx_cons]
    rw [show decide (n < 128) = true from decide_eq_true (by omega)]; rfl
  | case2 n h ih =>
    rw [varint_big h]
    simp only [List.cons_append, List.findIdx_cons]
    rw [show decide (n % 128 + 128 < 128) = false from decide_eq_false (by omega)]
    simp only [cond_false, List.length_cons]
    rw [ih]
theorem groups_varint (n : Nat) : groups (varint n) = n := by
  unfold groups
  induction n using varint.induct with
  | case1 n h => rw [varint_small h]; simp [val]; omega
  | case2 n h ih => rw [varint_big h]; simp only [List.map_cons, val]; rw [ih]; omega
theorem varint_last (n : Nat) : (varint n).length = 1 ∨ (varint n).getD ((varint n).length - 1) 0 ≠ 0 := by
  induction n using varint.induct with
  | case1 n h => left; rw [varint_small h]; rfl
  | case2 n h ih =>
    right
    rw [varint_big h]
    have h1 := varint_pos (n / 128)
    simp only [List.length_cons]
    rw [show (varint (n / 128)).length + 1 - 1 = ((varint (n / 128)).length - 1) + 1 from by omega, List.getD_cons_succ]
    rcases ih with h2 | h2
    · by_cases h3 : n / 128 ≤ 127
      · rw [varint_small h3]; simp; omega
      · rw [varint_big h3] at h2
        have := varint_pos (n / 128 / 128)
        simp only [List.length_cons] at h2; omega
    · exact h2
/-- What was written is read. -/
theorem readSpec_varint (n : Nat) (r : List Nat) (hn : n ≤ 2 ^ 62) : readSpec (varint n ++ r) = (n, (varint n).length, 0) := by
  have h1 := lastAt_varint n r
  have h2 := varint_pos n
  have h3 : (varint n).length ≤ 9 := varint_length n 9 (by omega) (by omega)
  have h4 : lastAt (varint n ++ r) = (varint n).length - 1 := by omega
  have h5 : (varint n ++ r).take (lastAt (varint n ++ r) + 1) = varint n := by rw [h1, List.take_left]
  unfold readSpec
  rw [h5, groups_varint, h4, if_neg (by simp; omega), if_neg ?_, if_neg (by omega), if_neg (by omega), show (varint n).length - 1 + 1 = (varint n).length from by omega]
  rintro ⟨h6, h7⟩
  rw [List.getD_eq_getElem?_getD, List.getElem?_append_left (by omega), ← List.getD_eq_getElem?_getD] at h7
  rcases varint_last n with h8 | h8
  · omega
  · exact h8 h7

/-- What the reading of a record yields: the kind, the body, the size, an error. -/
def nextSpec (b : List Nat) : Nat × List Nat × Nat × Nat :=
  if b.length = 0 then (0, [], 0, 3)
  else if b.getD 0 0 = 0 then (0, [], 0, 2)
  else if (readSpec (b.drop 1)).2.2 ≠ 0 then (0, [], 0, (readSpec (b.drop 1)).2.2)
  else if 4194304 < (readSpec (b.drop 1)).1 then (0, [], 0, 4)
  else if b.length < 1 + (readSpec (b.drop 1)).2.1 + (readSpec (b.drop 1)).1 + 8 then (0, [], 0, 3)
  else if (b.drop (1 + (readSpec (b.drop 1)).2.1 + (readSpec (b.drop 1)).1)).take 8 ≠ be8 (fnv (b.take (1 + (readSpec (b.drop 1)).2.1 + (readSpec (b.drop 1)).1))) then (0, [], 0, 13)
  else (b.getD 0 0, (b.drop (1 + (readSpec (b.drop 1)).2.1)).take (readSpec (b.drop 1)).1, 1 + (readSpec (b.drop 1)).2.1 + (readSpec (b.drop 1)).1 + 8, 0)

/-- A record without its checksum; a record. -/
def unsealed (k : Nat) (body : List Nat) : List Nat := k :: (varint body.length ++ body)
def sealed (k : Nat) (body : List Nat) : List Nat := unsealed k body ++ be8 (fnv (unsealed k body))

theorem unsealed_length (k : Nat) (body : List Nat) : (unsealed k body).length = 1 + (varint body.length).length + body.length := by
  simp [unsealed]; omega
theorem sealed_length (k : Nat) (body : List Nat) : (sealed k body).length = 1 + (varint body.length).length + body.length + 8 := by
  unfold sealed; rw [List.length_append, unsealed_length, be8_length]
theorem unsealed_lt (k : Nat) (body : List Nat) (hk : k < 256) (hb : ∀ x ∈ body, x < 256) : ∀ x ∈ unsealed k body, x < 256 := by
  intro x hx
  rcases List.mem_cons.1 hx with rfl | hx
  · exact hk
  · rcases List.mem_append.1 hx with hx | hx
    · exact varint_lt _ x hx
    · exact hb x hx
theorem sealed_lt (k : Nat) (body : List Nat) (hk : k < 256) (hb : ∀ x ∈ body, x < 256) : ∀ x ∈ sealed k body, x < 256 := by
  intro x hx
  rcases List.mem_append.1 hx with hx | hx
  · exact unsealed_lt k body hk hb x hx
  · exact be8_lt _ x hx

/-- A head and a body of that length, then eight bytes that are not their checksum: refused. -/
theorem nextSpec_sum (k n : Nat) (body s : List Nat) (hk : k ≠ 0) (hn : n = body.length) (hb : n ≤ 4194304) (hs : s.length = 8) (h : s ≠ be8 (fnv (k :: (varint n ++ body)))) :
    nextSpec (k :: (varint n ++ body) ++ s) = (0, [], 0, 13) := by
  have h1 : readSpec ((k :: (varint n ++ body) ++ s).drop 1) = (n, (varint n).length, 0) := by
    rw [List.cons_append, List.drop_one, List.tail_cons, List.append_assoc]
    exact readSpec_varint n _ (by omega)
  have hl : (k :: (varint n ++ body)).length = 1 + (varint n).length + n := by simp; omega
  unfold nextSpec
  rw [h1]
  rw [if_neg (by simp), if_neg (by simpa using hk), if_neg (by simp), if_neg (by omega), if_neg (by rw [List.length_append, hl, hs]; simp)]
  rw [if_pos]
  rw [← hl, List.take_left, List.drop_left, List.take_of_length_le (by omega)]
  exact h
end Go.Proofs.Ytfjjmhbffbhhdaa
