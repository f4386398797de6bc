/- The document's moves by bits. -/
import Derived.Test.YtfjjmhbffbhhdaaGreatDoorRefProd
import Derived.Test.YtfjjmhbffbhhdaaGreatDoorQNum
import Derived.Test.YtfjjmhbffbhhdaaGreatDoorDiv64
import Derived.Laws.OwnMore
import Derived.Maps.AppendAt
namespace Go.Proofs.YtfjjmhbffbhhdaaGreatDoor
open Go.RowKit

structure RUp (ys xs : List Nat) (skip part k c : Nat) : Prop where
  len : xs.length = skip + k
  lt : ∀ x ∈ xs, x < 2 ^ 32
  carry : c < 2 ^ part
  sum : val (2 ^ 32) xs + (2 ^ 32) ^ (skip + k) * c = val (2 ^ 32) (ys.take k) * 2 ^ part * (2 ^ 32) ^ skip

theorem RUp.start (ys : List Nat) (skip part : Nat) : RUp ys (List.replicate skip 0) skip part 0 0 := by
  refine ⟨by simp, fun x hx => by rw [List.eq_of_mem_replicate hx]; omega, Nat.two_pow_pos part, ?_⟩
  rw [val_replicate_zero]; simp [val]

theorem rup_digit {x c part : Nat} (hx : x < 2 ^ 32) (hc : c < 2 ^ part) (hp : part < 32) : x * 2 ^ part < 2 ^ 64 ∧ c ||| x * 2 ^ part = c + x * 2 ^ part ∧ c + x * 2 ^ part < 2 ^ 64 ∧ (c + x * 2 ^ part) / 2 ^ 32 < 2 ^ part := by
  have h1 : (x + 1) * 2 ^ part ≤ 2 ^ 32 * 2 ^ part := Nat.mul_le_mul_right _ hx
  rw [Nat.add_mul] at h1
  have h2 : (2 : Nat) ^ 32 * 2 ^ part ≤ 2 ^ 64 := by rw [← Nat.pow_add]; exact Nat.pow_le_pow_right (by omega) (by omega)
  refine ⟨by have := Nat.two_pow_pos part; omega, ?_, by omega, ?_⟩
  · rw [Nat.mul_comm x, Nat.or_comm, ← Nat.two_pow_add_eq_or_of_lt hc, Nat.add_comm]
  · rw [Nat.div_lt_iff_lt_mul (by omega), Nat.mul_comm (2 ^ part)]; omega

theorem RUp.step {ys xs : List Nat} {skip part k c : Nat} (h : RUp ys xs skip part k c) (hA : ∀ x ∈ ys, x < 2 ^ 32) (hp : part < 32) :
    RUp ys (xs ++ [(c + ys.getD k 0 * 2 ^ part) % 2 ^ 32]) skip part (k + 1) ((c + ys.getD k 0 * 2 ^ part) / 2 ^ 32) := by
  have hx := getD_lt hA (by omega) k
  obtain ⟨_, _, _, e4⟩ := rup_digit hx h.carry hp
  have hl := h.len
  refine ⟨by rw [List.length_append, List.length_singleton]; omega, ?_, e4, ?_⟩
  · intro x hx
    rcases List.mem_append.1 hx with h1 | h1
    · exact h.lt x h1
    · rw [List.mem_singleton.1 h1]; exact Nat.mod_lt _ (by omega)
  · rw [val_snoc, hl, val_take_succ' (2 ^ 32) ys]
    have h1 := h.sum
    have h2 := Nat.mod_add_div (c + ys.getD k 0 * 2 ^ part) (2 ^ 32)
    rw [show skip + (k + 1) = skip + k + 1 from by omega, Nat.pow_succ (2 ^ 32)]
    generalize ys.getD k 0 = x at *
    generalize val (2 ^ 32) xs = X at *
    generalize val (2 ^ 32) (ys.take k) = Y at *
    rw [Nat.pow_add (2 ^ 32)] at h1 ⊢
    generalize (2 ^ 32) ^ skip = S at *
    generalize (2 ^ 32) ^ k = T at *
    generalize 2 ^ part = p at *
    generalize (c + x * p) % 2 ^ 32 = lo at *
    generalize (c + x * p) / 2 ^ 32 = hi at *
    have e : S * T * (lo + 2 ^ 32 * hi) = S * T * (c + x * p) := by rw [h2]
    generalize (2 ^ 32 : Nat) = B at *
    grind

theorem RUp.done {ys xs : List Nat} {skip part c n : Nat} (h : RUp ys xs skip part (ys.length + 1) c) (hA : ∀ x ∈ ys, x < 2 ^ 32) (hp : part < 32) (hn : n = 32 * skip + part) : val (2 ^ 32) xs = val (2 ^ 32) ys * 2 ^ n := by
  have h1 := h.sum
  rw [List.take_of_length_le (by omega)] at h1
  have h2 := val_lt (2 ^ 32) ys hA
  have h3 : val (2 ^ 32) ys * 2 ^ part * (2 ^ 32) ^ skip < (2 ^ 32) ^ (skip + (ys.length + 1)) := by
    have e : (2 ^ 32) ^ (skip + (ys.length + 1)) = (2 ^ 32) ^ ys.length * 2 ^ 32 * (2 ^ 32) ^ skip := by rw [Nat.pow_add, Nat.pow_succ]; exact Nat.mul_comm _ _
    rw [e]
    refine Nat.mul_lt_mul_of_pos_right ?_ (Nat.pow_pos (by omega))
    exact Nat.mul_lt_mul'' h2 (Nat.pow_lt_pow_right (by omega) hp)
  have hc : c = 0 := by
    rcases Nat.eq_zero_or_pos c with h | h
    · exact h
    · have : (2 ^ 32) ^ (skip + (ys.length + 1)) * 1 ≤ (2 ^ 32) ^ (skip + (ys.length + 1)) * c := Nat.mul_le_mul_left _ h
      omega
  rw [hc, Nat.mul_zero, Nat.add_zero] at h1
  rw [h1, hn, Nat.pow_add, Nat.pow_mul, Nat.mul_assoc, Nat.mul_comm (2 ^ part)]

structure RDown (M : Nat) (xs : List Nat) (k : Nat) : Prop where
  len : xs.length = k
  lt : ∀ x ∈ xs, x < 2 ^ 32
  sum : val (2 ^ 32) xs = M % (2 ^ 32) ^ k
theorem RDown.step {M : Nat} {xs : List Nat} {k d : Nat} (h : RDown M xs k) (hd : d = M / (2 ^ 32) ^ k % 2 ^ 32) : RDown M (xs ++ [d]) (k + 1) := by
  have hl := h.len
  refine ⟨by rw [List.length_append, List.length_singleton]; omega, fun x hx => ?_, ?_⟩
  · rcases List.mem_append.1 hx with h1 | h1
    · exact h.lt x h1
    · rw [List.mem_singleton.1 h1, hd]; exact Nat.mod_lt _ (by omega)
  · rw [val_snoc, hl, h.sum, hd]
    exact (Nat.mod_pow_succ (b := 2 ^ 32)).symm

end Go.Proofs.YtfjjmhbffbhhdaaGreatDoor
