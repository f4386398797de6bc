/- Groups of seven bits: what the operations on bits yield. -/
import Derived.WalkKit
import Derived.Laws.BitsAllLaws
import Derived.Laws.Bits128
namespace Go.Proofs.Ytdmoiagliflecaa

theorem wraps_i64' (n : Int) (h0 : 0 ≤ n) (h1 : n < 2 ^ 63) : IntKind.i64.wrap n = n := by rw [IntKind.wrap_i64]; omega
theorem or_128 {x : Nat} (h : x < 128) : x ||| 128 = x + 128 := by
  have := Nat.two_pow_add_eq_or_of_lt (i := 7) (b := x) (by omega) 1
  rw [Nat.or_comm]
  simp at this
  omega
theorem i64_mask (m : Nat) : bits .and .i64 (m : Int) 127 = ((m % 128 : Nat) : Int) := by rw [i64_and127]; omega
theorem i64_more {x : Nat} (h : x < 128) : bits .or .i64 (x : Int) 128 = ((x + 128 : Nat) : Int) := by
  have := (bits_nat .i64 63 (by decide) wraps_i64' x 128 (by omega) (by omega)).2
  rw [or_128 h] at this
  exact this
theorem u64_mask (m : Nat) (h : m < 18446744073709551616) : bits .and .u64 (m : Int) 127 = ((m % 128 : Nat) : Int) := by
  rw [show (127 : Int) = ((127 : Nat) : Int) from rfl, u64_and_nat m 127 h (by omega), nat_mask7]
theorem u8_mask (m : Nat) (h : m < 256) : bits .and .u8 (m : Int) 127 = ((m % 128 : Nat) : Int) := by
  rw [show (127 : Int) = ((127 : Nat) : Int) from rfl, u8_and_nat m 127 h (by omega), nat_mask7]
theorem u8_more {x : Nat} (h : x < 128) : bits .or .u8 (x : Int) 128 = ((x + 128 : Nat) : Int) := by
  rw [show (128 : Int) = ((128 : Nat) : Int) from rfl, u8_or_nat x 128 (by omega) (by omega), or_128 h]
theorem and_128 {x : Nat} (h : x < 256) : x &&& 128 = if x < 128 then 0 else 128 := by
  rw [show (128 : Nat) = 2 ^ 7 from rfl, nat_bit 7 x]
  split <;> omega
theorem u8_top {x : Nat} (h : x < 256) : bits .and .u8 (x : Int) 128 = ((if x < 128 then 0 else 128 : Nat) : Int) := by
  rw [show (128 : Int) = ((128 : Nat) : Int) from rfl, u8_and_nat x 128 h (by omega), and_128 h]
/-- A group is joined to those above it. -/
theorem or_low {a x : Nat} (h : x < 128) : a * 128 ||| x = a * 128 + x := by
  have := Nat.two_pow_add_eq_or_of_lt (i := 7) (b := x) (by omega) a
  rw [show (2 : Nat) ^ 7 = 128 from rfl, Nat.mul_comm 128 a] at this
  exact this.symm
theorem i64_join {a x : Nat} (h : x < 128) (ha : a * 128 + 127 < 2 ^ 63) : bits .or .i64 ((a * 128 : Nat) : Int) (x : Int) = ((a * 128 + x : Nat) : Int) := by
  have := (bits_nat .i64 63 (by decide) wraps_i64' (a * 128) x (by omega) (by omega)).2
  rw [or_low h] at this
  exact this
end Go.Proofs.Ytdmoiagliflecaa
