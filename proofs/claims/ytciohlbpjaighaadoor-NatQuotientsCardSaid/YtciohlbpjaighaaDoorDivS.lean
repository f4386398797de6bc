/- Quotients of two short numbers. -/
import Derived.Test.YtciohlbpjaighaaDoorCarry
import Derived.Test.YtciohlbpjaighaaDoorWant
import Derived.Deep.RegionWith
import Derived.Deep.RegionHeld3
namespace Go.Proofs.YtciohlbpjaighaaDoor
open Go.RowKit

/-- What a call that returns a quotient and what is left leaves. -/
def RetD (W : World) (m r : Nat) : Ending → World → Prop := fun e w' =>
  ∃ s p l c t q k d, e = .returned (.tuple #[.agg #[.int .u64 s, .slice p l c], .agg #[.int .u64 t, .slice q k d], .bool true]) ∧ IsN w' s p l c m ∧ IsN w' t q k d r ∧ Below W.heap.size W w'

theorem below_next {N : Nat} {W w w' : World} (h : Below N W w) (hN : N ≤ W.heap.size) (h' : Below w.heap.size w w') : Below N W w' := h.trans (h'.mono (Nat.le_trans hN h.size))
theorem ncell {N : Nat} {W w1 : World} (hb : Below N W w1) : (∀ b o, b < N → w1.cell? ⟨b, o, none⟩ = W.cell? ⟨b, o, none⟩) ∧ (∀ b o, b < N → w1.frozen? ⟨b, o, none⟩ = W.frozen? ⟨b, o, none⟩) :=
  ⟨fun b o h => hb.cell (p := ⟨b, o, none⟩) h, fun b o h => hb.frozen (p := ⟨b, o, none⟩) h⟩

set_option maxRecDepth 100000 in
set_option maxHeartbeats 1000000 in
theorem div_ss (m n : Nat) (hm : m < 2 ^ 64) (hn : n < 2 ^ 64) (h0 : 0 < n) (w : World) :
    Calls Tryd.prog 6 #[.agg #[.int .u64 (m : Int), .slice none 0 0], .agg #[.int .u64 (n : Int), .slice none 0 0]] w (RetD w (m / n) (m % n)) := by
  have HM := Lib.hid hm; have HN := Lib.hid hn
  have d0 : ((n : Int) == 0) = false := beq_eq_false_iff_ne.2 (by omega)
  have n0 : ¬ n = 0 := by omega
  have wq : IntKind.u64.wrap ((m : Int) / n) = (m : Int) / n := by
    have h1 : m / n < 2 ^ 64 := Nat.lt_of_le_of_lt (Nat.div_le_self m n) hm
    rw [← Int.natCast_ediv, IntKind.wrap_u64]
    generalize m / n = q at *
    omega
  have wr : ((m : Int)).tmod n = (m : Int) % n := Int.tmod_eq_emod_of_nonneg (by omega)
  clear hm hn
  go_enter Tryd.func6, Tryd.ntmps6
  go_wp2_with fail
  refine (short_yes _ _ _ _).mono ?_
  rintro e w1 ⟨rfl, hb⟩
  obtain ⟨hc, hf⟩ := bcell hb
  go_wp2_with fail
  refine (short_yes _ _ _ _).mono ?_
  rintro e w2 ⟨rfl, hb2⟩
  replace hb2 := below_step hb hb2
  obtain ⟨hc2, hf2⟩ := bcell hb2
  clear hc hf
  go_wp2_with fail
  refine (short_yes _ _ _ _).mono ?_
  rintro e w3 ⟨rfl, hb3⟩
  replace hb3 := below_step hb2 hb3
  obtain ⟨hc3, hf3⟩ := bcell hb3
  clear hc2 hf2 hb hb2
  go_wp2_with fail
  have HBW : Below w.heap.size w w3 := (by repeat' first | exact Below.refl _ _ | refine below_alloc ?_ _ | refine Below.drew ?_ | refine below_step ?_ (by assumption))
  have hN : w.heap.size + 1 + 1 + 1 + 1 ≤ w3.heap.size := by have := hb3.size; simp at this; omega
  obtain ⟨g, hg⟩ : ∃ g, g = w.heap.size := ⟨_, rfl⟩
  have q1 : w3.cell? ⟨g, 0, none⟩ = some (.int .u64 (m : Int)) := by simp [hg, hc3, go_sem]
  have q2 : w3.cell? ⟨g + 1, 0, none⟩ = some (.int .u64 (n : Int)) := by simp [hg, hc3, go_sem]
  have r0 : w3.cell? ⟨g + 1 + 1, 0, none⟩ = some (.int .u64 0) := by simp [hg, hc3, go_sem]
  have r1 : w3.cell? ⟨g + 1 + 1, 1, none⟩ = some (.slice none 0 0) := by simp [hg, hc3, go_sem]
  have r2 : w3.cell? ⟨g + 1 + 1 + 1, 0, none⟩ = some (.int .u64 0) := by simp [hg, hc3, go_sem]
  have r3 : w3.cell? ⟨g + 1 + 1 + 1, 1, none⟩ = some (.slice none 0 0) := by simp [hg, hc3, go_sem]
  have f0 : w3.frozen? ⟨g + 1 + 1, 0, none⟩ = false := by simp [hg, hf3, go_sem]
  have f1 : w3.frozen? ⟨g + 1 + 1, 1, none⟩ = false := by simp [hg, hf3, go_sem]
  have f2 : w3.frozen? ⟨g + 1 + 1 + 1, 0, none⟩ = false := by simp [hg, hf3, go_sem]
  have f3 : w3.frozen? ⟨g + 1 + 1 + 1, 1, none⟩ = false := by simp [hg, hf3, go_sem]
  have HG := Lib.hid hg
  rw [← hg] at hN ⊢
  clear hc3 hf3 hb3 hg
  have l0 : g < g + 1 + 1 + 1 + 1 := by omega
  have l1 : g + 1 < g + 1 + 1 + 1 + 1 := by omega
  have l2 : g + 1 + 1 < g + 1 + 1 + 1 + 1 := by omega
  have l3 : g + 1 + 1 + 1 < g + 1 + 1 + 1 + 1 := by omega
  refine region_phase (T := [0, 1, 2, 3, 4, 5, 6, 7, 8, 9, 10, 11]) (slots := [28, 29, 30, 31, 32, 33, 34, 35, 36, 37, 38, 39]) (fuel := 3) (n := 12) (deps := [0, 1, 0, 4, 10, 16, 0, 64, 0, 256, 640, 1056, 2111, 8191, 16383]) (Tm := 4095) (Lm := 4095)
      (L := #[true, true, true, true, true, true, true, true, true, true, true, true, false, false, false])
      (V := Tab [.is (.pointer (some ⟨g, 0, none⟩)), .is (.int .u64 m), .is (.pointer (some ⟨g + 1, 0, none⟩)), .is (.int .u64 n), .is (.int .u64 ((m / n : Nat) : Int)), .is (.agg #[.int .u64 ((m / n : Nat) : Int), .slice none 0 0]), .is (.pointer (some ⟨g, 0, none⟩)), .is (.int .u64 m), .is (.pointer (some ⟨g + 1, 0, none⟩)), .is (.int .u64 n), .is (.int .u64 ((m % n : Nat) : Int)), .is (.agg #[.int .u64 ((m % n : Nat) : Int), .slice none 0 0])] 0)
      (by kernel_rfl) rfl Tab.stable (by kernel_rfl) (by kernel_rfl) (by kernel_rfl) (by kernel_rfl) (by kernel_rfl) (by kernel_rfl) (by kernel_rfl) ?_ ?_
  · skip
    refine AllGo.cons rfl (fun E W hb hc hf hE hV => ⟨rfl, ?_⟩) ?_
    · have e1 : E (.tmp 2) = .pointer (some ⟨g, 0, none⟩) := hE 2 (by kernel_rfl)
      clear hE hV
      exact Does.value (w' := W) (by go_simp) ⟨rfl, Below.refl _ _⟩
    refine AllGo.cons rfl (fun E W hb hc hf hE hV => ⟨rfl, ?_⟩) ?_
    · have e1 : E (.tmp 28) = _ := hV 0 28 (by kernel_rfl) (by kernel_rfl) (by kernel_rfl)
      have q := wcell hb q1
      clear hE hV
      exact Does.value (w' := W) (by go_simp) ⟨rfl, Below.refl _ _⟩
    refine AllGo.cons rfl (fun E W hb hc hf hE hV => ⟨rfl, ?_⟩) ?_
    · have e1 : E (.tmp 3) = .pointer (some ⟨g + 1, 0, none⟩) := hE 3 (by kernel_rfl)
      clear hE hV
      exact Does.value (w' := W) (by go_simp) ⟨rfl, Below.refl _ _⟩
    refine AllGo.cons rfl (fun E W hb hc hf hE hV => ⟨rfl, ?_⟩) ?_
    · have e1 : E (.tmp 30) = _ := hV 2 30 (by kernel_rfl) (by kernel_rfl) (by kernel_rfl)
      have q := wcell hb q2
      clear hE hV
      exact Does.value (w' := W) (by go_simp) ⟨rfl, Below.refl _ _⟩
    refine AllGo.cons rfl (fun E W hb hc hf hE hV => ⟨rfl, ?_⟩) ?_
    · have e1 : E (.tmp 29) = _ := hV 1 29 (by kernel_rfl) (by kernel_rfl) (by kernel_rfl)
      have e2 : E (.tmp 31) = _ := hV 3 31 (by kernel_rfl) (by kernel_rfl) (by kernel_rfl)
      clear hE hV
      exact Does.value (w' := W) (by go_simp) ⟨rfl, Below.refl _ _⟩
    refine AllGo.cons rfl (fun E W hb hc hf hE hV => ⟨rfl, ?_⟩) ?_
    · have e1 : E (.tmp 32) = _ := hV 4 32 (by kernel_rfl) (by kernel_rfl) (by kernel_rfl)
      clear hE hV
      exact Does.call (w' := W) (by go_simp) ((of_any _ _).mono fun e w' ⟨h1, h2⟩ => ⟨_, h1, rfl, h2⟩)
    refine AllGo.cons rfl (fun E W hb hc hf hE hV => ⟨rfl, ?_⟩) ?_
    · have e1 : E (.tmp 2) = .pointer (some ⟨g, 0, none⟩) := hE 2 (by kernel_rfl)
      clear hE hV
      exact Does.value (w' := W) (by go_simp) ⟨rfl, Below.refl _ _⟩
    refine AllGo.cons rfl (fun E W hb hc hf hE hV => ⟨rfl, ?_⟩) ?_
    · have e1 : E (.tmp 34) = _ := hV 6 34 (by kernel_rfl) (by kernel_rfl) (by kernel_rfl)
      have q := wcell hb q1
      clear hE hV
      exact Does.value (w' := W) (by go_simp) ⟨rfl, Below.refl _ _⟩
    refine AllGo.cons rfl (fun E W hb hc hf hE hV => ⟨rfl, ?_⟩) ?_
    · have e1 : E (.tmp 3) = .pointer (some ⟨g + 1, 0, none⟩) := hE 3 (by kernel_rfl)
      clear hE hV
      exact Does.value (w' := W) (by go_simp) ⟨rfl, Below.refl _ _⟩
    refine AllGo.cons rfl (fun E W hb hc hf hE hV => ⟨rfl, ?_⟩) ?_
    · have e1 : E (.tmp 36) = _ := hV 8 36 (by kernel_rfl) (by kernel_rfl) (by kernel_rfl)
      have q := wcell hb q2
      clear hE hV
      exact Does.value (w' := W) (by go_simp) ⟨rfl, Below.refl _ _⟩
    refine AllGo.cons rfl (fun E W hb hc hf hE hV => ⟨rfl, ?_⟩) ?_
    · have e1 : E (.tmp 35) = _ := hV 7 35 (by kernel_rfl) (by kernel_rfl) (by kernel_rfl)
      have e2 : E (.tmp 37) = _ := hV 9 37 (by kernel_rfl) (by kernel_rfl) (by kernel_rfl)
      clear hE hV
      exact Does.value (w' := W) (by go_simp) ⟨rfl, Below.refl _ _⟩
    refine AllGo.cons rfl (fun E W hb hc hf hE hV => ⟨rfl, ?_⟩) ?_
    · have e1 : E (.tmp 38) = _ := hV 10 38 (by kernel_rfl) (by kernel_rfl) (by kernel_rfl)
      clear hE hV
      exact Does.call (w' := W) (by go_simp) ((of_any _ _).mono fun e w' ⟨h1, h2⟩ => ⟨_, h1, rfl, h2⟩)
    exact AllGo.nil
  · intro f W hf hb
    have e33 : f 33 = .agg #[.int .u64 ((m / n : Nat) : Int), .slice none 0 0] := hf (5, 33) (by simp)
    have e39 : f 39 = .agg #[.int .u64 ((m % n : Nat) : Int), .slice none 0 0] := hf (11, 39) (by simp)
    have r0 := wcell hb r0; have r1 := wcell hb r1; have r2 := wcell hb r2; have r3 := wcell hb r3
    have f0 := wfree hb (by assumption) f0; have f1 := wfree hb (by assumption) f1; have f2 := wfree hb (by assumption) f2; have f3 := wfree hb (by assumption) f3
    have HB : Below w.heap.size w W := below_step HBW hb
    clear hf hb
    simp only [fillSlots]
    refine wpAny_ready (rs := [12]) (by kernel_rfl) (by simp) ?_
    refine AllReady.cons rfl (fun K hK => ?_) AllReady.nil
    go_simp
    refine hK _ _ ?_; clear hK K
    refine wpAny_ready (rs := [13]) (by kernel_rfl) (by simp) ?_
    refine AllReady.cons rfl (fun K hK => ?_) AllReady.nil
    go_simp
    refine hK _ _ ?_; clear hK K
    refine wpAny_ready (rs := [14]) (by kernel_rfl) (by simp) ?_
    refine AllReady.cons rfl (fun K hK => ?_) AllReady.nil
    go_simp
    refine hK _ _ ?_; clear hK K
    refine wpAny_done (by kernel_rfl) ?_ _
    go_wp2
    refine bodyPost_ret (v := .tuple #[.agg #[.int .u64 ((m / n : Nat) : Int), .slice none 0 0], .agg #[.int .u64 ((m % n : Nat) : Int), .slice none 0 0], .bool true]) (by simp [results, Tryd.results6, go_sem, r0, r1, r2, r3]) rfl ?_
    have hm := HM.out
    have h1 : m / n < 2 ^ 64 := Nat.lt_of_le_of_lt (Nat.div_le_self m n) hm
    have h2 : m % n < 2 ^ 64 := Nat.lt_of_le_of_lt (Nat.mod_le m n) hm
    have hg := HG.out
    exact ⟨_, _, _, _, _, _, _, _, rfl, .short h1, .short h2, (by repeat' first | exact HB | (refine Below.setCell ?_ (by simp; omega) _))⟩
end Go.Proofs.YtciohlbpjaighaaDoor
