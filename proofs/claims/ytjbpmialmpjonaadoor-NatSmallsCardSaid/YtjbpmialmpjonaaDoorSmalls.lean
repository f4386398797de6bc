/- NatSmalls: numbers of 64 bits go in and out; one more is too great. -/
import Derived.Test.YtjbpmialmpjonaaDoorKnown
import Derived.Test.YtjbpmialmpjonaaDoorIs
namespace Go.Proofs.YtjbpmialmpjonaaDoor
open Go.RowKit

theorem dr_len {n : Nat} (h : n < 2 ^ 64) : (dr n).length ≤ 2 := digs_length_le (b := 2 ^ 32) (by omega) (by omega)

set_option maxRecDepth 100000 in
set_option maxHeartbeats 1000000 in
theorem smalls_any (n : Nat) (hn : n < 2 ^ 64) (tb : Bool) (d0 : ((n : Int) == 0) = tb) (w : World) :
    Calls Tryd.prog 8 #[.int .u64 (n : Int)] w fun e w' => e = .returned (.bool true) ∧ Below w.heap.size w w' := by
  have HN := Lib.hid hn; clear hn
  go_enter Tryd.func8, Tryd.ntmps8
  go_wp2_with fail
  refine (of_any _ _).mono ?_
  rintro e w1 ⟨rfl, hb1⟩
  go_wp2_with fail
  refine (nsmall_any _ _ _ _ _).mono ?_
  rintro e w2 ⟨rfl, hb2⟩
  obtain ⟨hc2, hf2⟩ := bcell hb2
  go_wp2_with fail
  refine (of_any _ _).mono ?_
  rintro e w3 ⟨rfl, hb3⟩
  replace hb3 := below_step hb2 hb3
  go_wp2_with fail
  refine (of_any _ _).mono ?_
  rintro e w4 ⟨rfl, hb4⟩
  replace hb4 := below_step hb3 hb4
  go_wp2_with fail
  refine (add_ss 18446744073709551615 n (by omega) HN.out _).mono ?_
  rintro e w5 ⟨s, p, l, c, rfl, h5, hb5⟩
  replace hb5 := below_step hb4 hb5
  have hl : ((l : Int) == 0) = tb := by
    rcases h5 with ⟨a1, _, _, rfl, _⟩ | ⟨a1, _, b, off, _, a4, _⟩
    · obtain rfl : n = 0 := by omega
      exact d0
    · have := ds_two a1
      have h1 : ((l : Int) == 0) = false := beq_eq_false_iff_ne.2 (by omega)
      have h2 : ((n : Int) == 0) = false := beq_eq_false_iff_ne.2 (by omega)
      rw [h1, ← d0, h2]
  clear h5
  go_wp2_with fail
  refine (nsmall_any _ _ _ _ _).mono ?_
  rintro e w6 ⟨rfl, hb6⟩
  rw [hl]
  go_wp2_with fail
  have hb6' := below_step (below_alloc hb5 (.cells #[.int .u64 s, .slice p l c] 25)) hb6
  obtain ⟨hc6, hf6⟩ := bcell hb6'
  have HB : Below w.heap.size w w6 := below_step (below_alloc (below_step (Below.refl _ _) hb1) _) hb6'
  have q0 : w6.cell? ⟨w1.heap.size, 0, none⟩ = some (.int .u64 n) := by simp [hc6, go_sem]
  have q1 : w6.cell? ⟨w1.heap.size, 1, none⟩ = some (.slice none 0 0) := by simp [hc6, go_sem]
  generalize w1.heap.size = g at *
  clear hc2 hf2 hb2 hb3 hb4 hb5 hb6 hb6' hc6 hf6
--REGION
  refine region_phase (T := [0, 1, 2, 3, 4, 5, 6, 7, 8, 9, 10, 11, 12, 13, 14, 15, 16, 17, 18, 19, 20]) (slots := [25, 26, 27, 28, 29, 30, 31, 32, 33, 34, 35, 36, 37, 38, 39, 40, 41, 42, 43, 44, 45]) (fuel := 1) (n := 21) (deps := [0, 1, 2, 6, 10, 16, 16, 112, 144, 272, 512, 512, 2560, 5632, 8704, 24576, 32768, 32768, 163840, 360448, 557056, 2097151]) (Tm := 2097151) (Lm := 2097151)
      (L := #[true, true, true, true, true, true, true, true, true, true, true, true, true, true, true, true, true, true, true, true, true, false])
      (V := Tab [.is (.bool true), .is (.bool true), .is (.bool true), .is (.bool true), .is (.bool true), .is (.int .u64 (n : Int)), .is (.int .u64 (n : Int)), .is (.bool true), .is (.bool true), .is (.bool true), .is (.agg #[.int .u64 (n : Int), .slice none 0 0]), .is (.int .u64 (n : Int)), .rnum n, .is (.bool true), .is (.bool true), .is (.bool true), .is (.bool tb), .is (.int .u64 (n : Int)), .is (.bool tb), .is (.bool true), .is (.bool true)] 0)
      (by kernel_rfl) rfl Tab.stable (by kernel_rfl) (by kernel_rfl) (by kernel_rfl) (by kernel_rfl) (by kernel_rfl) (by kernel_rfl) (by kernel_rfl) ?_ ?_
  · skip
    refine AllGo.cons rfl (fun E W hb hc hf hE hV => ⟨rfl, ?_⟩) ?_
    · clear hE hV
      exact Does.call (w' := W) (by go_simp) ((known_any W).mono fun e w' ⟨h1, h2⟩ => ⟨_, h1, rfl, h2⟩)
    refine AllGo.cons rfl (fun E W hb hc hf hE hV => ⟨rfl, ?_⟩) ?_
    · have e1 : E (.tmp 25) = _ := hV 0 25 (by kernel_rfl) (by kernel_rfl) (by kernel_rfl)
      clear hE hV
      exact Does.value (w' := W) (by go_simp) ⟨rfl, Below.refl _ _⟩
    refine AllGo.cons rfl (fun E W hb hc hf hE hV => ⟨wanted_of (d := 26) (b := true) rfl (by kernel_rfl) (hV 1 26 (by kernel_rfl) (by kernel_rfl) (by kernel_rfl)), ?_⟩) ?_
    · have e1 : E (.tmp 5) = .bool true := hE 5 (by kernel_rfl)
      clear hE hV
      exact Does.value (w' := W) (by go_simp) ⟨rfl, Below.refl _ _⟩
    refine AllGo.cons rfl (fun E W hb hc hf hE hV => ⟨rfl, ?_⟩) ?_
    · have e1 : E (.tmp 26) = _ := hV 1 26 (by kernel_rfl) (by kernel_rfl) (by kernel_rfl)
      have e2 : E (.tmp 27) = _ := hV 2 27 (by kernel_rfl) (by kernel_rfl) (by kernel_rfl)
      clear hE hV
      exact Does.value (w' := W) (by go_simp) ⟨rfl, Below.refl _ _⟩
    refine AllGo.cons rfl (fun E W hb hc hf hE hV => ⟨rfl, ?_⟩) ?_
    · have e1 : E (.tmp 28) = _ := hV 3 28 (by kernel_rfl) (by kernel_rfl) (by kernel_rfl)
      clear hE hV
      exact Does.value (w' := W) (by go_simp) ⟨rfl, Below.refl _ _⟩
    refine AllGo.cons rfl (fun E W hb hc hf hE hV => ⟨wanted_of (d := 29) (b := true) rfl (by kernel_rfl) (hV 4 29 (by kernel_rfl) (by kernel_rfl) (by kernel_rfl)), ?_⟩) ?_
    · have e1 : E (.tmp 4) = .int .u64 (n : Int) := hE 4 (by kernel_rfl)
      clear hE hV
      exact Does.value (w' := W) (by go_simp) ⟨rfl, Below.refl _ _⟩
    refine AllGo.cons rfl (fun E W hb hc hf hE hV => ⟨wanted_of (d := 29) (b := true) rfl (by kernel_rfl) (hV 4 29 (by kernel_rfl) (by kernel_rfl) (by kernel_rfl)), ?_⟩) ?_
    · have e1 : E (.tmp 0) = .int .u64 (n : Int) := hE 0 (by kernel_rfl)
      clear hE hV
      exact Does.value (w' := W) (by go_simp) ⟨rfl, Below.refl _ _⟩
    refine AllGo.cons rfl (fun E W hb hc hf hE hV => ⟨wanted_of (d := 29) (b := true) rfl (by kernel_rfl) (hV 4 29 (by kernel_rfl) (by kernel_rfl) (by kernel_rfl)), ?_⟩) ?_
    · have e1 : E (.tmp 30) = _ := hV 5 30 (by kernel_rfl) (by kernel_rfl) (by kernel_rfl)
      have e2 : E (.tmp 31) = _ := hV 6 31 (by kernel_rfl) (by kernel_rfl) (by kernel_rfl)
      clear hE hV
      exact Does.value (w' := W) (by go_simp) ⟨rfl, Below.refl _ _⟩
    refine AllGo.cons rfl (fun E W hb hc hf hE hV => ⟨rfl, ?_⟩) ?_
    · have e1 : E (.tmp 29) = _ := hV 4 29 (by kernel_rfl) (by kernel_rfl) (by kernel_rfl)
      have e2 : E (.tmp 32) = _ := hV 7 32 (by kernel_rfl) (by kernel_rfl) (by kernel_rfl)
      clear hE hV
      exact Does.value (w' := W) (by go_simp) ⟨rfl, Below.refl _ _⟩
    refine AllGo.cons rfl (fun E W hb hc hf hE hV => ⟨rfl, ?_⟩) ?_
    · have e1 : E (.tmp 33) = _ := hV 8 33 (by kernel_rfl) (by kernel_rfl) (by kernel_rfl)
      clear hE hV
      exact Does.value (w' := W) (by go_simp) ⟨rfl, Below.refl _ _⟩
    refine AllGo.cons rfl (fun E W hb hc hf hE hV => ⟨wanted_of (d := 34) (b := true) rfl (by kernel_rfl) (hV 9 34 (by kernel_rfl) (by kernel_rfl) (by kernel_rfl)), ?_⟩) ?_
    · have e1 : E (.tmp 3) = .pointer (some ⟨g, 0, none⟩) := hE 3 (by kernel_rfl)
      have q := wcell hb q0
      have q' := wcell hb q1
      clear hE hV
      exact Does.value (w' := W) (by go_simp) ⟨rfl, Below.refl _ _⟩
    refine AllGo.cons rfl (fun E W hb hc hf hE hV => ⟨wanted_of (d := 34) (b := true) rfl (by kernel_rfl) (hV 9 34 (by kernel_rfl) (by kernel_rfl) (by kernel_rfl)), ?_⟩) ?_
    · have e1 : E (.tmp 0) = .int .u64 (n : Int) := hE 0 (by kernel_rfl)
      clear hE hV
      exact Does.value (w' := W) (by go_simp) ⟨rfl, Below.refl _ _⟩
    refine AllGo.cons rfl (fun E W hb hc hf hE hV => ⟨wanted_of (d := 34) (b := true) rfl (by kernel_rfl) (hV 9 34 (by kernel_rfl) (by kernel_rfl) (by kernel_rfl)), ?_⟩) ?_
    · have e1 : E (.tmp 36) = _ := hV 11 36 (by kernel_rfl) (by kernel_rfl) (by kernel_rfl)
      clear hE hV
      exact Does.call (w' := W) (by go_simp) ((rof_any n HN.out W).mono fun e w' ⟨p, l, c, h1, h2, h3⟩ => ⟨_, h1, ⟨p, l, c, rfl, h2⟩, h3⟩)
    refine AllGo.cons rfl (fun E W hb hc hf hE hV => ⟨wanted_of (d := 34) (b := true) rfl (by kernel_rfl) (hV 9 34 (by kernel_rfl) (by kernel_rfl) (by kernel_rfl)), ?_⟩) ?_
    · have e1 : E (.tmp 35) = _ := hV 10 35 (by kernel_rfl) (by kernel_rfl) (by kernel_rfl)
      have e2 : Means W (.rnum n) (E (.tmp 37)) := hV 12 37 (by kernel_rfl) (by kernel_rfl) (by kernel_rfl)
      clear hE hV
      obtain ⟨q, k, d, e2, hr⟩ := e2
      exact Does.call (w' := W) (by go_simp) ((is_yes n _ _ q _ _ k d W (.short HN.out) hr (by rw [ds_one HN.out]; omega) (by have := hr.1; have := dr_len HN.out; omega)).mono fun e w' ⟨h1, h2⟩ => ⟨_, h1, rfl, h2⟩)
    refine AllGo.cons rfl (fun E W hb hc hf hE hV => ⟨rfl, ?_⟩) ?_
    · have e1 : E (.tmp 34) = _ := hV 9 34 (by kernel_rfl) (by kernel_rfl) (by kernel_rfl)
      have e2 : E (.tmp 38) = _ := hV 13 38 (by kernel_rfl) (by kernel_rfl) (by kernel_rfl)
      clear hE hV
      exact Does.value (w' := W) (by go_simp) ⟨rfl, Below.refl _ _⟩
    refine AllGo.cons rfl (fun E W hb hc hf hE hV => ⟨rfl, ?_⟩) ?_
    · have e1 : E (.tmp 39) = _ := hV 14 39 (by kernel_rfl) (by kernel_rfl) (by kernel_rfl)
      clear hE hV
      exact Does.value (w' := W) (by go_simp) ⟨rfl, Below.refl _ _⟩
    refine AllGo.cons rfl (fun E W hb hc hf hE hV => ⟨wanted_of (d := 40) (b := true) rfl (by kernel_rfl) (hV 15 40 (by kernel_rfl) (by kernel_rfl) (by kernel_rfl)), ?_⟩) ?_
    · have e1 : E (.tmp 8) = .bool tb := hE 8 (by kernel_rfl)
      clear hE hV
      exact Does.value (w' := W) (by go_simp) ⟨rfl, Below.refl _ _⟩
    refine AllGo.cons rfl (fun E W hb hc hf hE hV => ⟨wanted_of (d := 40) (b := true) rfl (by kernel_rfl) (hV 15 40 (by kernel_rfl) (by kernel_rfl) (by kernel_rfl)), ?_⟩) ?_
    · have e1 : E (.tmp 0) = .int .u64 (n : Int) := hE 0 (by kernel_rfl)
      clear hE hV
      exact Does.value (w' := W) (by go_simp) ⟨rfl, Below.refl _ _⟩
    refine AllGo.cons rfl (fun E W hb hc hf hE hV => ⟨wanted_of (d := 40) (b := true) rfl (by kernel_rfl) (hV 15 40 (by kernel_rfl) (by kernel_rfl) (by kernel_rfl)), ?_⟩) ?_
    · have e1 : E (.tmp 42) = _ := hV 17 42 (by kernel_rfl) (by kernel_rfl) (by kernel_rfl)
      clear hE hV
      exact Does.value (w' := W) (by go_simp) ⟨rfl, Below.refl _ _⟩
    refine AllGo.cons rfl (fun E W hb hc hf hE hV => ⟨wanted_of (d := 40) (b := true) rfl (by kernel_rfl) (hV 15 40 (by kernel_rfl) (by kernel_rfl) (by kernel_rfl)), ?_⟩) ?_
    · have e1 : E (.tmp 41) = _ := hV 16 41 (by kernel_rfl) (by kernel_rfl) (by kernel_rfl)
      have e2 : E (.tmp 43) = _ := hV 18 43 (by kernel_rfl) (by kernel_rfl) (by kernel_rfl)
      clear hE hV
      cases tb <;> exact Does.value (w' := W) (by go_simp) ⟨rfl, Below.refl _ _⟩
    refine AllGo.cons rfl (fun E W hb hc hf hE hV => ⟨rfl, ?_⟩) ?_
    · have e1 : E (.tmp 40) = _ := hV 15 40 (by kernel_rfl) (by kernel_rfl) (by kernel_rfl)
      have e2 : E (.tmp 44) = _ := hV 19 44 (by kernel_rfl) (by kernel_rfl) (by kernel_rfl)
      clear hE hV
      exact Does.value (w' := W) (by go_simp) ⟨rfl, Below.refl _ _⟩
    exact AllGo.nil
  · intro f W hf hb
    have e45 : f 45 = .bool true := hf (20, 45) (by simp)
    have HW := Lib.hid (below_step HB hb)
    clear hf hb
    simp only [fillSlots]
    refine wpAny_ready (rs := [21]) (by kernel_rfl) (by simp) ?_
    refine AllReady.cons rfl (fun K hK => ?_) AllReady.nil
    go_simp
    refine hK _ _ ?_; clear hK K
    refine wpAny_done (by kernel_rfl) ?_ _
    go_wp2
    go_ret
    exact ⟨by simp [e45], HW.out⟩
end Go.Proofs.YtjbpmialmpjonaaDoor
