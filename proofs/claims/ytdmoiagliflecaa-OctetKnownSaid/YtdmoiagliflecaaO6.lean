/- The reading of a count: where its last group stands; its groups, from the most significant one on. -/
import Derived.Test.YtdmoiagliflecaaO2
import Derived.Test.YtdmoiagliflecaaOBits
namespace Go.Proofs.Ytdmoiagliflecaa
open Go.RowKit

set_option maxHeartbeats 400000 in
theorem isLast_any (x : Nat) (w : World) (hx : x < 256) :
    Calls Try.prog 46 #[.int .u8 (x : Int)] w fun e w' => w = w' ∧ e = .returned (.bool (decide (x < 128))) := by
  have h1 := u8_top hx
  by_cases h : x < 128
  · rw [if_pos h] at h1
    rw [show decide (x < 128) = true from decide_eq_true h]
    have h2 : bits .and .u8 (x : Int) 128 = 0 := h1
    clear h1 h
    go_enter Try.func46, Try.ntmps46
    go_wp2
    go_ret
    exact ⟨rfl, rfl⟩
  · rw [if_neg h] at h1
    rw [show decide (x < 128) = false from decide_eq_false h]
    have h2 : bits .and .u8 (x : Int) 128 = 128 := h1
    clear h1 h
    go_enter Try.func46, Try.ntmps46
    go_wp2
    go_ret
    exact ⟨rfl, rfl⟩

theorem lastAt_le (t : List Nat) : lastAt t ≤ t.length := List.findIdx_le_length
theorem lastAt_lt {t : List Nat} {k : Nat} (h : k < lastAt t) : ¬ t.getD k 0 < 128 := by
  have h1 := List.not_of_lt_findIdx h
  have h2 : k < t.length := Nat.lt_of_lt_of_le h (lastAt_le t)
  simpa [List.getD, h2] using h1
theorem lastAt_at {t : List Nat} (h : lastAt t < t.length) : t.getD (lastAt t) 0 < 128 := by
  have h1 : decide (t[lastAt t] < 128) = true := List.findIdx_getElem (w := h)
  simpa [List.getD, h] using h1
theorem lastAt_eq {t : List Nat} {k : Nat} (_hk : k < t.length) (h : t.getD k 0 < 128) (h0 : k ≤ lastAt t) : k = lastAt t := by
  rcases Nat.lt_or_ge k (lastAt t) with h1 | h1
  · exact absurd h (lastAt_lt h1)
  · omega
theorem lastAt_ne {t : List Nat} {k : Nat} (hk : k < t.length) (h : ¬ t.getD k 0 < 128) (h0 : k ≤ lastAt t) : k + 1 ≤ lastAt t := by
  rcases Nat.lt_or_ge k (lastAt t) with h1 | h1
  · exact h1
  · have : k = lastAt t := by omega
    subst this
    exact absurd (lastAt_at hk) h

/-- What the search yields. -/
def lastInt (t : List Nat) : Int := if lastAt t = t.length then -1 else (lastAt t : Int)

set_option maxHeartbeats 1000000 in
theorem index_at (b off l c : Nat) (t : List Nat) (w : World) (hl : t.length = l) (hm : l ≤ 140737488351232) (hlt : ∀ x ∈ t, x < 256) (h : At w .u8 b off t) :
    Calls Try.prog 45 #[.slice (some ⟨b, off, none⟩) l c, .func (.func 46) #[] #[]] w fun e w' => w = w' ∧ e = .returned (.int .i64 (lastInt t)) := by
  have HX := Lib.hid h
  have HL := Lib.hid hl
  have HT := Lib.hid hlt
  clear h hl hlt
  go_enter Try.func45, Try.ntmps45
  go_wp2
  go_loop [8] (fun i => ∃ k : Nat, k ≤ l ∧ i = .int .i64 k ∧ Hid (k ≤ lastAt t)) (fun i => l - (intOf i).toNat)
  case atStart => exact ⟨0, Nat.zero_le _, rfl, Nat.zero_le _⟩
  case round =>
    obtain ⟨k, hk, rfl, HK⟩ := hrel
    by_cases hlt : k < l
    · have hcell := HX.out k (by rw [HL.out]; exact hlt)
      have hx : t.getD k 0 < 256 := getD_lt HT.out (by omega) k
      obtain ⟨x, hxe⟩ : ∃ x, x = t.getD k 0 := ⟨_, rfl⟩
      rw [← hxe] at hx hcell
      have HE := Lib.hid hxe
      clear hxe
      by_cases h128 : x < 128
      · have hd : decide (x < 128) = true := decide_eq_true h128
        have heq : k = lastAt t := lastAt_eq (by rw [HL.out]; exact hlt) (by rw [← HE.out]; exact h128) HK.out
        have hv : lastInt t = (k : Int) := by unfold lastInt; rw [← heq, HL.out, if_neg (by omega)]
        have HV := Lib.hid hv
        clear heq hv
        go_wp2_with fail
        refine (isLast_any x _ hx).mono ?_
        rintro e w2 ⟨rfl, rfl⟩
        go_wp2
        go_ret
        exact ⟨rfl, ret_int HV.out.symm⟩
      · have hd : decide (x < 128) = false := decide_eq_false h128
        have hne : Hid (k + 1 ≤ lastAt t) := lastAt_ne (by rw [HL.out]; exact hlt) (by rw [← HE.out]; exact h128) HK.out
        go_wp2_with fail
        refine (isLast_any x _ hx).mono ?_
        rintro e w2 ⟨rfl, rfl⟩
        go_wp2
        go_round
        case rel => exact ⟨k + 1, by omega, by go_num, hne⟩
        case measure => simp [intOf]; omega
    · obtain rfl : k = l := by omega
      have hv : lastInt t = -1 := by
        unfold lastInt
        rw [if_pos]
        have := lastAt_le t
        have := HK.out
        rw [HL.out] at *
        omega
      have HV := Lib.hid hv
      clear hv hlt
      go_wp2
      go_ret
      exact ⟨rfl, ret_int HV.out.symm⟩

set_option maxHeartbeats 400000 in
theorem index_nil (p : Option Addr) (c : Nat) (w : World) :
    Calls Try.prog 45 #[.slice p 0 c, .func (.func 46) #[] #[]] w fun e w' => w = w' ∧ e = .returned (.int .i64 (-1)) := by
  go_enter Try.func45, Try.ntmps45
  go_wp2
  go_loop [8] (fun i => i = .int .i64 0) (fun _ => 0)
  case atStart => exact rfl
  case round =>
    obtain rfl := hrel
    go_wp2
    go_ret
    exact ⟨rfl, rfl⟩

theorem index_any (p : Option Addr) (l c : Nat) (t : List Nat) (w : World) (hm : l ≤ 140737488351232) (h : IsB w p l c t) :
    Calls Try.prog 45 #[.slice p l c, .func (.func 46) #[] #[]] w fun e w' => w = w' ∧ e = .returned (.int .i64 (lastInt t)) := by
  rcases h.cases with ⟨rfl, rfl⟩ | ⟨b, off, rfl, _, h2, _, h4, h5⟩
  · exact index_nil p c w
  · exact index_at b off l c t w h2 hm h5 h4

/-- What has come when k rounds are over. -/
def upto {α : Type} (f : Nat → α) (k : Nat) : List α := (List.range k).map f
theorem upto_succ {α : Type} (f : Nat → α) (k : Nat) : upto f (k + 1) = upto f k ++ [f k] := by simp [upto, List.range_succ]
theorem upto_length {α : Type} (f : Nat → α) (k : Nat) : (upto f k).length = k := by simp [upto]

/-- A place and a byte. -/
abbrev GB := { x : Nat × Nat // x.2 < 256 }
def fB (t : List Nat) (h : ∀ x ∈ t, x < 256) (j : Nat) : GB := ⟨(t.length - 1 - j, t.getD (t.length - 1 - j) 0), getD_lt h (by omega) _⟩

set_option maxHeartbeats 400000 in
theorem back_any (a : Option Addr) (l c : Nat) (w : World) :
    Calls Try.prog 47 #[.slice a l c] w fun e w' => e = .returned (.func (.func 52) #[] #[.pointer (some ⟨w.heap.size, 0, none⟩)]) ∧ w' = w.alloc (.cells #[.slice a l c] 22) := by
  go_enter Try.func47, Try.ntmps47
  go_wp2
  go_ret
  exact ⟨rfl, rfl⟩
end Go.Proofs.Ytdmoiagliflecaa
