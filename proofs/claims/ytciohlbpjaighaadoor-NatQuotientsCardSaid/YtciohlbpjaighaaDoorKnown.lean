/- The examples of chapter 1. -/
import Derived.Test.YtciohlbpjaighaaDoorRoot
namespace Go.Proofs.YtciohlbpjaighaaDoor
open Go.RowKit

set_option maxRecDepth 100000 in
set_option maxHeartbeats 400000 in
theorem small_1 (w : World) : Calls Tryd.prog 50 #[.int .u64 1, .int .i64 10] w fun e w' => e = .returned (.string ⟨#[49]⟩) ∧ w = w' := by
  go_enter Tryd.func50, Tryd.ntmps50
  go_wp2
  go_ret
  exact ⟨rfl, rfl⟩
set_option maxRecDepth 100000 in
set_option maxHeartbeats 400000 in
theorem small_3 (w : World) : Calls Tryd.prog 50 #[.int .u64 3, .int .i64 10] w fun e w' => e = .returned (.string ⟨#[51]⟩) ∧ w = w' := by
  go_enter Tryd.func50, Tryd.ntmps50
  go_wp2
  go_ret
  exact ⟨rfl, rfl⟩
set_option maxRecDepth 100000 in
set_option maxHeartbeats 400000 in
theorem small_4 (w : World) : Calls Tryd.prog 50 #[.int .u64 4, .int .i64 10] w fun e w' => e = .returned (.string ⟨#[52]⟩) ∧ w = w' := by
  go_enter Tryd.func50, Tryd.ntmps50
  go_wp2
  go_ret
  exact ⟨rfl, rfl⟩

set_option maxHeartbeats 400000 in
theorem text_short (n : Int) (t : ByteArray) (w : World) (H : ∀ w, Calls Tryd.prog 50 #[.int .u64 n, .int .i64 10] w fun e w' => e = .returned (.string t) ∧ w = w') :
    Calls Tryd.prog 23 #[.agg #[.int .u64 n, .slice none 0 0]] w fun e w' => e = .returned (.string t) ∧ Below w.heap.size w w' := by
  have HH := Lib.hid H; clear H
  go_enter Tryd.func23, Tryd.ntmps23
  go_wp2_with fail
  refine (short_yes _ _ _ _).mono ?_
  rintro e w1 ⟨rfl, hb⟩
  obtain ⟨hc, hf⟩ := bcell hb
  go_wp2_with fail
  refine (HH.out w1).mono ?_
  rintro e w2 ⟨rfl, rfl⟩
  go_wp2
  go_ret
  exact ⟨rfl, (by repeat' first | exact Below.refl _ _ | refine below_alloc ?_ _ | refine below_step ?_ (by assumption))⟩

set_option maxHeartbeats 400000 in
theorem dec_007 (w : World) : Calls Tryd.prog 45 #[.string ⟨#[48, 48, 55]⟩] w fun e w' => e = .returned (.bool false) ∧ w = w' := by
  go_enter Tryd.func45, Tryd.ntmps45
  go_wp2
  go_ret
  exact ⟨rfl, rfl⟩

set_option maxHeartbeats 400000 in
theorem parse_no (s : ByteArray) (w : World) (H : ∀ w, Calls Tryd.prog 45 #[.string s] w fun e w' => e = .returned (.bool false) ∧ w = w') :
    Calls Tryd.prog 21 #[.string s] w fun e w' => e = .returned (.tuple #[.agg #[.int .u64 0, .slice none 0 0], .bool false]) ∧ Below w.heap.size w w' := by
  have HH := Lib.hid H; clear H
  go_enter Tryd.func21, Tryd.ntmps21
  go_wp2_with fail
  refine (HH.out _).mono ?_
  rintro e w2 ⟨rfl, rfl⟩
  go_wp2
  exact bodyPost_ret (v := .tuple #[.agg #[.int .u64 0, .slice none 0 0], .bool false]) (by simp [results, Tryd.results21, go_sem]) rfl ⟨rfl, below_alloc (Below.refl _ _) _⟩

theorem ds_17 : (ds 17).length = 1 := ds_one (by omega)

theorem bitLen_17 : bitLen 17 = 5 := by
  unfold bitLen
  rw [if_neg (by omega)]
  decide

/-- The root of 17. -/
theorem root_17 (w : World) : Calls Tryd.prog 22 #[.agg #[.int .u64 17, .slice none 0 0]] w (RetN w 4) := by
  refine root_of 17 4 3 (by omega) (by omega) (by omega) (by rw [bitLen_17]) (by rw [ds_17]; omega) (by rw [ds_one (by omega)]; omega) (fun w => ?_) (fun w s p l c t q k d x h1 h2 h3 h4 => ?_)
    (fun w s p l c t q k d x y h1 h2 h3 h4 => ?_) (fun w s p l c x h1 h2 => ?_) w ((17 : Nat) : Int) none 0 0 (IsN.short (n := 17) (by omega))
  · exact up_s 1 3 (by omega) (by decide) w
  · rcases h1 with ⟨_, rfl, rfl, rfl, rfl⟩ | ⟨h, _⟩
    · rcases h2 with ⟨_, rfl, rfl, rfl, rfl⟩ | ⟨h, _⟩
      · exact div_ss 17 x (by omega) (by omega) h3 w
      · omega
    · omega
  · rcases h1 with ⟨_, rfl, rfl, rfl, rfl⟩ | ⟨h, _⟩
    · rcases h2 with ⟨_, rfl, rfl, rfl, rfl⟩ | ⟨h, _⟩
      · exact add_ss x y (by omega) (by omega) w
      · omega
    · omega
  · rcases h1 with ⟨_, rfl, rfl, rfl, rfl⟩ | ⟨h, _⟩
    · exact down_s x 1 (by omega) w
    · omega

set_option maxRecDepth 100000 in
set_option maxHeartbeats 1000000 in
theorem known_any (w : World) : Calls Tryd.prog 7 #[] w fun e w' => e = .returned (.bool true) ∧ Below w.heap.size w w' := by
  go_enter Tryd.func7, Tryd.ntmps7
  go_wp2_with fail
  refine (parse_no _ _ dec_007).mono ?_
  rintro e w1 ⟨rfl, hb1⟩
  go_wp2_with fail
  refine (of_any _ _).mono ?_
  rintro e w2 ⟨rfl, hb2⟩
  go_wp2_with fail
  refine (of_any _ _).mono ?_
  rintro e w3 ⟨rfl, hb3⟩
  go_wp2_with fail
  refine (div_ss 7 2 (by omega) (by omega) (by omega) _).mono ?_
  rintro e w4 ⟨s, p, l, c, t, q, k, d, rfl, h1, h2, hb4⟩
  obtain ⟨_, rfl, rfl, rfl, rfl⟩ : 7 / 2 < 2 ^ 64 ∧ s = ((7 / 2 : Nat) : Int) ∧ p = none ∧ l = 0 ∧ c = 0 := h1.resolve_right (fun h => by have := h.1; omega)
  obtain ⟨_, rfl, rfl, rfl, rfl⟩ : 7 % 2 < 2 ^ 64 ∧ t = ((7 % 2 : Nat) : Int) ∧ q = none ∧ k = 0 ∧ d = 0 := h2.resolve_right (fun h => by have := h.1; omega)
  rw [show ((7 / 2 : Nat) : Int) = 3 from rfl, show ((7 % 2 : Nat) : Int) = 1 from rfl]
  go_wp2_with fail
  refine (of_any _ _).mono ?_
  rintro e w5 ⟨rfl, hb5⟩
  obtain ⟨hc5, hf5⟩ := bcell hb5
  go_wp2_with fail
  refine (root_17 _).mono ?_
  rintro e w6 ⟨s, p, l, c, rfl, h1, hb6⟩
  obtain ⟨_, rfl, rfl, rfl, rfl⟩ : 4 < 2 ^ 64 ∧ s = ((4 : Nat) : Int) ∧ p = none ∧ l = 0 ∧ c = 0 := h1.resolve_right (fun h => by have := h.1; omega)
  go_wp2_with fail
  refine (text_short _ _ _ small_4).mono ?_
  rintro e w7 ⟨rfl, hb7⟩
  replace hb7 := below_step (below_step hb5 hb6) hb7
  obtain ⟨hc7, hf7⟩ := bcell hb7
  clear hc5 hf5
  go_wp2_with fail
  refine (text_short _ _ _ small_3).mono ?_
  rintro e w8 ⟨rfl, hb8⟩
  replace hb8 := below_step hb7 hb8
  obtain ⟨hc8, hf8⟩ := bcell hb8
  clear hc7 hf7
  go_wp2_with fail
  refine (text_short _ _ _ small_1).mono ?_
  rintro e w9 ⟨rfl, hb9⟩
  replace hb9 := below_step hb8 hb9
  go_wp2
  go_ret
  refine ⟨rfl, below_step ?_ hb9⟩
  exact (by repeat' first | exact Below.refl _ _ | refine below_alloc ?_ _ | refine below_step ?_ (by assumption))
end Go.Proofs.YtciohlbpjaighaaDoor
