/- Plain facts on SplitMix64, on the choice below a number, on shuffling. No program stands in this text. -/
import Derived.Test.YtfjjmhbffbhhdaaMem
namespace Go.Proofs.Ytfjjmhbffbhhdaa

/-- The state behind one draw. -/
def dstep (s : Nat) : Nat := (s + 11400714819323198485) % 18446744073709551616
/-- The bits that a state tells. -/
def dmix1 (z : Nat) : Nat := (z ^^^ z / 1073741824) * 13787848793156543929 % 18446744073709551616
def dmix2 (z : Nat) : Nat := (z ^^^ z / 134217728) * 10723151780598845931 % 18446744073709551616
def dmix3 (z : Nat) : Nat := z ^^^ z / 2147483648
def dmix (s : Nat) : Nat := dmix3 (dmix2 (dmix1 s))
theorem dstep_lt (s : Nat) : dstep s < 18446744073709551616 := Nat.mod_lt _ (by decide)
theorem dmix1_lt (s : Nat) : dmix1 s < 18446744073709551616 := Nat.mod_lt _ (by decide)
theorem dmix2_lt (s : Nat) : dmix2 s < 18446744073709551616 := Nat.mod_lt _ (by decide)
theorem dmix3_lt {s : Nat} (h : s < 18446744073709551616) : dmix3 s < 18446744073709551616 := by
  have e : (18446744073709551616 : Nat) = 2 ^ 64 := by decide +kernel
  have h2 : s / 2147483648 < 18446744073709551616 := by omega
  unfold dmix3
  generalize s / 2147483648 = y at h2
  generalize (18446744073709551616 : Nat) = m at e h h2
  subst e
  exact Nat.xor_lt_two_pow h h2
theorem dmix_lt (s : Nat) : dmix s < 18446744073709551616 := dmix3_lt (dmix2_lt _)
theorem dmix_zero : dmix 0 = 0 := by decide +kernel

/-- How many draws until the state is 0, which tells 0. -/
def dleft (s : Nat) : Nat := (18446744073709551616 - s) * 17428512612931826493 % 18446744073709551616
theorem dinv : 11400714819323198485 * 17428512612931826493 = 1 + 18446744073709551616 * 10771413168148108919 := by decide +kernel
theorem inv_next {T I M c A B : Nat} (hi : T * I = 1 + M * c) (e : Nat) (h : A + M * e = B + T) : A * I % M = (B * I % M + 1) % M := by
  have h1 : (A + M * e) * I = B * I + 1 + M * c := by rw [h, Nat.add_mul, hi, Nat.add_assoc]
  have h2 : (A + M * e) * I = A * I + M * (e * I) := by rw [Nat.add_mul, Nat.mul_assoc]
  have h3 : A * I % M = (B * I + 1) % M := by
    rw [← Nat.add_mul_mod_self_left (A * I) M (e * I), ← h2, h1, Nat.add_mul_mod_self_left]
  rw [h3, Nat.mod_add_mod]
theorem inv_zero {T I M c A : Nat} (hi : T * I = 1 + M * c) (h0 : 0 < A) (h1 : A < M) : A * I % M ≠ 0 := by
  intro h
  have h2 : A * I % M * T % M = 0 := by rw [h, Nat.zero_mul, Nat.zero_mod]
  rw [Nat.mod_mul_mod, Nat.mul_assoc, Nat.mul_comm I T, hi, Nat.mul_add, Nat.mul_one, Nat.mul_left_comm, Nat.add_mul_mod_self_left, Nat.mod_eq_of_lt h1] at h2
  omega
theorem inv_step {T I M c s t : Nat} (hi : T * I = 1 + M * c) (h0 : s ≠ 0) (h : s < M) (ht : t < M) (hst : t = s + T ∨ t + M = s + T) : (M - s) * I % M = (M - t) * I % M + 1 := by
  have h4 := inv_zero hi (A := M - s) (by omega) (by omega)
  have h5 : (M - s) * I % M = ((M - t) * I % M + 1) % M := by
    rcases hst with h3 | h3
    · exact inv_next hi 0 (by omega)
    · exact inv_next hi 1 (by omega)
  have h6 := Nat.mod_lt ((M - t) * I) (show 0 < M by omega)
  generalize (M - s) * I % M = x at h4 h5 ⊢
  generalize (M - t) * I % M = y at h5 h6 ⊢
  rcases Nat.lt_or_ge (y + 1) M with h7 | h7
  · rw [Nat.mod_eq_of_lt h7] at h5; exact h5
  · have h8 : y + 1 = M := by omega
    rw [h8, Nat.mod_self] at h5; omega
theorem dleft_step {s : Nat} (h0 : s ≠ 0) (h : s < 18446744073709551616) : dleft s = dleft (dstep s) + 1 :=
  inv_step dinv h0 h (dstep_lt s) (by unfold dstep; omega)
theorem dleft_lt (s : Nat) : dleft s < 18446744073709551616 := Nat.mod_lt _ (by decide)

/-- The first state from s on that tells no more than m. -/
def dfind (m : Nat) : Nat → Nat → Nat
  | 0, s => s
  | k + 1, s => if m < dmix s then dfind m k (dstep s) else s
def dseek (m s : Nat) : Nat := dfind m (dleft s) s
theorem dfind_zero (m s : Nat) : dfind m 0 s = s := by rw [dfind]
theorem dfind_succ (m k s : Nat) : dfind m (k + 1) s = if m < dmix s then dfind m k (dstep s) else s := by rw [dfind]
theorem dseek_more {m s : Nat} (h : s < 18446744073709551616) (hm : m < dmix s) : dseek m s = dseek m (dstep s) ∧ dleft (dstep s) < dleft s := by
  have h0 : s ≠ 0 := by
    intro e
    rw [e, dmix_zero] at hm
    exact Nat.not_lt_zero _ hm
  have h1 := dleft_step h0 h
  have h2 : dleft (dstep s) < dleft s := by rw [h1]; exact Nat.lt_succ_self _
  refine ⟨?_, h2⟩
  unfold dseek
  rw [h1, dfind_succ, if_pos hm]
theorem dseek_end {m s : Nat} (hm : ¬ m < dmix s) : dseek m s = s := by
  unfold dseek
  generalize dleft s = k
  cases k with
  | zero => exact dfind_zero m s
  | succ k => rw [dfind_succ, if_neg hm]
theorem dfind_lt {m : Nat} : ∀ (k : Nat) {s : Nat}, s < 18446744073709551616 → dfind m k s < 18446744073709551616
  | 0, s, h => by rw [dfind_zero]; exact h
  | k + 1, s, h => by
    rw [dfind_succ]
    split
    · exact dfind_lt k (dstep_lt _)
    · exact h

/-- The state behind Below(n), and what it tells. -/
def dmost (n : Nat) : Nat := 18446744073709551615 - (18446744073709551616 - n) % n
def dbelowS (n s : Nat) : Nat := dseek (dmost n) (dstep s)
def dbelowV (n s : Nat) : Nat := dmix (dbelowS n s) % n
theorem dbelowS_lt (n s : Nat) : dbelowS n s < 18446744073709551616 := dfind_lt _ (dstep_lt _)
theorem dbelowV_lt {n : Nat} (s : Nat) (h : 0 < n) : dbelowV n s < n := Nat.mod_lt _ h

/-- k choices below n: the state behind them, what they tell. -/
def ddrawS (n : Nat) : Nat → Nat → Nat
  | 0, s => s
  | k + 1, s => dbelowS n (ddrawS n k s)
def ddrawV (n k s : Nat) : List Nat := (List.range k).map fun i => dbelowV n (ddrawS n i s)
theorem ddrawV_len (n k s : Nat) : (ddrawV n k s).length = k := by simp [ddrawV]
theorem ddrawS_zero (n s : Nat) : ddrawS n 0 s = s := by rw [ddrawS]
theorem ddrawS_succ (n k s : Nat) : ddrawS n (k + 1) s = dbelowS n (ddrawS n k s) := by rw [ddrawS]
theorem ddrawS_lt (n : Nat) : ∀ (k : Nat) {s : Nat}, s < 18446744073709551616 → ddrawS n k s < 18446744073709551616
  | 0, s, h => by rw [ddrawS_zero]; exact h
  | k + 1, s, _ => by rw [ddrawS_succ]; exact dbelowS_lt _ _

/-- Two places of a row swapped. -/
def swap2 (l : List Nat) (i k : Nat) : List Nat := (l.set i (l.getD k 0)).set k (l.getD i 0)
theorem swap2_len (l : List Nat) (i k : Nat) : (swap2 l i k).length = l.length := by simp [swap2]
/-- Steps n + 1, n, .. 2. -/
def dloop {α : Type} (f : Nat → α → α) : Nat → α → α
  | 0, a => a
  | i + 1, a => dloop f i (f (i + 2) a)
theorem dloop_zero {α : Type} (f : Nat → α → α) (a : α) : dloop f 0 a = a := rfl
theorem dloop_succ {α : Type} (f : Nat → α → α) (i : Nat) (a : α) : dloop f (i + 1) a = dloop f i (f (i + 2) a) := rfl
/-- The shuffle from place i on downwards. -/
def dshufStep (n : Nat) (x : Nat × List Nat) : Nat × List Nat := (dbelowS n x.1, swap2 x.2 (n - 1) (dbelowV n x.1))
def dshufS (i s : Nat) (l : List Nat) : Nat := (dloop dshufStep i (s, l)).1
def dshuf (i s : Nat) (l : List Nat) : List Nat := (dloop dshufStep i (s, l)).2
theorem dshuf_zero (s : Nat) (l : List Nat) : dshuf 0 s l = l := by unfold dshuf; rw [dloop_zero]
theorem dshuf_step (i s : Nat) (l : List Nat) : dshufStep (i + 2) (s, l) = (dbelowS (i + 2) s, swap2 l (i + 1) (dbelowV (i + 2) s)) := by unfold dshufStep; rw [show i + 2 - 1 = i + 1 from rfl]
theorem dshuf_succ (i s : Nat) (l : List Nat) : dshuf (i + 1) s l = dshuf i (dbelowS (i + 2) s) (swap2 l (i + 1) (dbelowV (i + 2) s)) := by unfold dshuf; rw [dloop_succ, dshuf_step]
theorem dshufS_zero (s : Nat) (l : List Nat) : dshufS 0 s l = s := by unfold dshufS; rw [dloop_zero]
theorem dshufS_succ (i s : Nat) (l : List Nat) : dshufS (i + 1) s l = dshufS i (dbelowS (i + 2) s) (swap2 l (i + 1) (dbelowV (i + 2) s)) := by unfold dshufS; rw [dloop_succ, dshuf_step]
def dorder (n s : Nat) : List Nat := dshuf (n - 1) s (List.range n)
theorem dshuf_len : ∀ (i s : Nat) (l : List Nat), (dshuf i s l).length = l.length
  | 0, s, l => by rw [dshuf_zero]
  | i + 1, s, l => by rw [dshuf_succ, dshuf_len i, swap2_len]
theorem dorder_len (n s : Nat) : (dorder n s).length = n := by unfold dorder; rw [dshuf_len, List.length_range]
theorem dshufS_lt : ∀ (i : Nat) {s : Nat} (l : List Nat), s < 18446744073709551616 → dshufS i s l < 18446744073709551616
  | 0, s, l, h => by rw [dshufS_zero]; exact h
  | i + 1, s, l, _ => by rw [dshufS_succ]; exact dshufS_lt i _ (dbelowS_lt _ _)
def dorderS (n s : Nat) : Nat := dshufS (n - 1) s (List.range n)
/-- No number stands twice, and each is below n. -/
def Perm (n : Nat) (l : List Nat) : Prop := l.length = n ∧ (∀ i, i < n → l.getD i 0 < n) ∧ ∀ i j, i < n → j < n → l.getD i 0 = l.getD j 0 → i = j
theorem swap2_get (l : List Nat) (i k j : Nat) (hi : i < l.length) (hk : k < l.length) : (swap2 l i k).getD j 0 = if j = k then l.getD i 0 else if j = i then l.getD k 0 else l.getD j 0 := by
  unfold swap2
  rw [getD_set _ _ _ _ (by rw [List.length_set]; exact hk), getD_set _ _ _ _ hi]
theorem Perm.swap {n : Nat} {l : List Nat} (h : Perm n l) {i k : Nat} (hi : i < n) (hk : k < n) : Perm n (swap2 l i k) := by
  obtain ⟨h1, h2, h3⟩ := h
  refine ⟨by rw [swap2_len]; exact h1, fun j hj => ?_, fun j m hj hm => ?_⟩
  · rw [swap2_get l i k j (by omega) (by omega)]
    have := h2 i hi; have := h2 k hk; have := h2 j hj
    split
    · omega
    · split <;> omega
  · rw [swap2_get l i k j (by omega) (by omega), swap2_get l i k m (by omega) (by omega)]
    have a1 := h3 i k hi hk; have a2 := h3 i j hi hj; have a3 := h3 i m hi hm; have a4 := h3 k j hk hj; have a5 := h3 k m hk hm; have a6 := h3 j m hj hm
    have b3 := h3 m i hm hi; have b5 := h3 m k hm hk; have b2 := h3 j i hj hi; have b4 := h3 j k hj hk; have b1 := h3 k i hk hi
    intro e
    split at e <;> split at e <;> (try split at e) <;> (try split at e) <;> omega
theorem dshuf_perm {n : Nat} : ∀ (i s : Nat) (l : List Nat), i < n → Perm n l → Perm n (dshuf i s l)
  | 0, s, l, _, h => by rw [dshuf_zero]; exact h
  | i + 1, s, l, hi, h => by
    rw [dshuf_succ]
    have := dbelowV_lt (n := i + 2) s (by omega)
    exact dshuf_perm i _ _ (by omega) (h.swap hi (by omega))
theorem range_get {n i : Nat} (h : i < n) : (List.range n).getD i 0 = i := by simp [List.getD, h]
theorem dorder_perm (n s : Nat) (h : 0 < n) : Perm n (dorder n s) :=
  dshuf_perm _ _ _ (by omega) ⟨List.length_range, fun i hi => by rw [range_get hi]; exact hi, fun i j hi hj e => by rw [range_get hi, range_get hj] at e; exact e⟩
end Go.Proofs.Ytfjjmhbffbhhdaa
