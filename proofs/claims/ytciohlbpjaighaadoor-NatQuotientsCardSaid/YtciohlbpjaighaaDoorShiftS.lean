/- Short numbers moved by bits. -/
import Derived.Test.YtciohlbpjaighaaDoorCarry
namespace Go.Proofs.YtciohlbpjaighaaDoor
open Go.RowKit

set_option maxHeartbeats 400000 in
theorem down_s (m n : Nat) (hm : m < 2 ^ 64) (w : World) :
    Calls Tryd.prog 49 #[.agg #[.int .u64 (m : Int), .slice none 0 0], .int .i64 (n : Int)] w (RetN w (m / 2 ^ n)) := by
  have HX := Lib.hid (Nat.lt_of_le_of_lt (Nat.div_le_self m (2 ^ n)) hm)
  go_enter Tryd.func49, Tryd.ntmps49
  go_wp2_with fail
  refine (short_yes _ _ _ _).mono ?_
  rintro e w1 ⟨rfl, hb⟩
  obtain ⟨hc, hf⟩ := bcell hb
  have hz : w.heap.size + 1 < w1.heap.size := by have := hb.size; simp at this; omega
  go_wp2_with fail
  rw [show (m : Int) / 2 ^ min n 64 = ((m / 2 ^ n : Nat) : Int) from by
    rcases Nat.le_total n 64 with h | h
    · rw [Nat.min_eq_left h, Int.natCast_ediv, Int.natCast_pow]; rfl
    · rw [Nat.min_eq_right h, Nat.div_eq_of_lt (Nat.lt_of_lt_of_le hm (Nat.pow_le_pow_right (by omega) h))]
      have : m / 2 ^ 64 = 0 := Nat.div_eq_of_lt hm
      omega]
  refine (of_any _ _).mono ?_
  rintro e w2 ⟨rfl, hb2⟩
  replace hb2 := below_step hb hb2
  obtain ⟨hc2, hf2⟩ := bcell hb2
  clear hc hf
  have hz2 : w.heap.size + 1 < w2.heap.size := by have := hb2.size; simp at this; omega
  have HB : Below w.heap.size w w2 := (by repeat' first | exact Below.refl _ _ | refine below_alloc ?_ _ | refine below_step ?_ (by assumption))
  go_wp2
  exact bodyPost_ret (v := .agg #[.int .u64 ((m / 2 ^ n : Nat) : Int), .slice none 0 0]) (by simp [results, Tryd.results49, go_sem, hc2]) rfl (RetN.short HX.out (by repeat' first | exact HB | (refine Below.setCell ?_ (by simp) _)))

set_option maxHeartbeats 400000 in
theorem up_s (m n : Nat) (hm : m < 2 ^ 64) (hn : bitLen m + n ≤ 64) (w : World) :
    Calls Tryd.prog 48 #[.agg #[.int .u64 (m : Int), .slice none 0 0], .int .i64 (n : Int)] w (RetN w (m * 2 ^ n)) := by
  have HX : m * 2 ^ n < 2 ^ 64 := by
    have := (bitLen_spec m).1
    have h2 : m * 2 ^ n < 2 ^ bitLen m * 2 ^ n := Nat.mul_lt_mul_of_pos_right this (Nat.two_pow_pos n)
    rw [← Nat.pow_add] at h2
    exact Nat.lt_of_lt_of_le h2 (Nat.pow_le_pow_right (by omega) hn)
  have HX := Lib.hid HX
  go_enter Tryd.func48, Tryd.ntmps48
  go_wp2_with fail
  refine (short_yes _ _ _ _).mono ?_
  rintro e w1 ⟨rfl, hb⟩
  obtain ⟨hc, hf⟩ := bcell hb
  have hz : w.heap.size + 1 < w1.heap.size := by have := hb.size; simp at this; omega
  go_wp2_with (go_at_call 25; refine (len64_any m hm _).mono ?_; rintro e w2 ⟨rfl, rfl⟩)
  rw [show IntKind.u64.wrap ((m : Int) * 2 ^ n) = ((m * 2 ^ n : Nat) : Int) from by
    have h := HX.out
    have e : (m : Int) * 2 ^ n = ((m * 2 ^ n : Nat) : Int) := by rw [Int.natCast_mul, Int.natCast_pow]; rfl
    rw [e, IntKind.wrap_u64]
    generalize m * 2 ^ n = q at *
    omega]
  refine (of_any _ _).mono ?_
  rintro e w2 ⟨rfl, hb2⟩
  replace hb2 := below_step hb hb2
  obtain ⟨hc2, hf2⟩ := bcell hb2
  clear hc hf
  have hz2 : w.heap.size + 1 < w2.heap.size := by have := hb2.size; simp at this; omega
  have HB : Below w.heap.size w w2 := (by repeat' first | exact Below.refl _ _ | refine below_alloc ?_ _ | refine below_step ?_ (by assumption))
  go_wp2
  exact bodyPost_ret (v := .agg #[.int .u64 ((m * 2 ^ n : Nat) : Int), .slice none 0 0]) (by simp [results, Tryd.results48, go_sem, hc2]) rfl (RetN.short HX.out (by repeat' first | exact HB | (refine Below.setCell ?_ (by simp) _)))
end Go.Proofs.YtciohlbpjaighaaDoor
