/- A Reader's calls in the further examples. -/
import Derived.Test.YtdmoiagliflecaaO17
namespace Go.Proofs.Ytdmoiagliflecaa
open Go.RowKit

theorem ofree {W w1 : World} (hb : Below W.heap.size W w1) {a : Addr} {v : Value} (h : W.cell? a = some v) (hf : W.frozen? a = false) : w1.frozen? a = false := by
  rw [hb.frozen (World.block_lt_of_cell? _ _ h)]; exact hf

set_option maxHeartbeats 1000000 in
theorem oSmall0 (w : World) : Calls Try.prog 44 #[.agg #[.int .u64 0, .slice none 0 0]] w fun e w' => e = .returned (.tuple #[.int .u64 0, .bool true]) ∧ Below w.heap.size w w' := by
  go_enter Try.func44, Try.ntmps44
  go_wp2_with fail
  have q0 : (w.alloc (.cells #[.int .u64 0, .slice none 0 0] 33)).cell? ⟨w.heap.size, 0, none⟩ = some (.int .u64 0) := by simp [go_sem]
  have q1 : (w.alloc (.cells #[.int .u64 0, .slice none 0 0] 33)).cell? ⟨w.heap.size, 1, none⟩ = some (.slice none 0 0) := by simp [go_sem]
  have HB := Lib.hid (below_alloc (Below.refl w.heap.size w) (.cells #[.int .u64 0, .slice none 0 0] 33))
--SMALL
  refine region_v (slots := [4, 5, 6, 7, 2, 3]) (V := OTab [.is (.pointer (some ⟨w.heap.size, 0, none⟩)), .is (.int .u64 0), .is (.agg #[.int .u64 0, .slice none 0 0]), .is (.bool true), .is (.int .u64 0), .is (.bool true)] 0) (by kernel_rfl) (by kernel_rfl) OTab.stable (by kernel_rfl) (by kernel_rfl) ?_ ?_
  · skip
    refine AllV.cons rfl (fun E W hb hc hf hE hV => Or.inl ⟨rfl, ?_⟩) ?_
    · have e1 : E (.tmp 1) = .pointer (some ⟨w.heap.size, 0, none⟩) := hE 1 (by kernel_rfl)
      clear hE hV
      exact Does.value (w' := W) (by go_simp) ⟨rfl, Below.refl _ _⟩
    refine AllV.cons rfl (fun E W hb hc hf hE hV => Or.inl ⟨rfl, ?_⟩) ?_
    · have e1 : E (.tmp 4) = _ := hV 0 4 (by kernel_rfl) (by kernel_rfl)
      have q := ocell hb q0
      clear hE hV
      exact Does.value (w' := W) (by go_simp) ⟨rfl, Below.refl _ _⟩
    refine AllV.cons rfl (fun E W hb hc hf hE hV => Or.inl ⟨rfl, ?_⟩) ?_
    · have e1 : E (.tmp 1) = .pointer (some ⟨w.heap.size, 0, none⟩) := hE 1 (by kernel_rfl)
      have q := ocell hb q0
      have q' := ocell hb q1
      clear hE hV
      exact Does.value (w' := W) (by go_simp) ⟨rfl, Below.refl _ _⟩
    refine AllV.cons rfl (fun E W hb hc hf hE hV => Or.inl ⟨rfl, ?_⟩) ?_
    · have e1 : E (.tmp 6) = _ := hV 2 6 (by kernel_rfl) (by kernel_rfl)
      clear hE hV
      exact Does.call (w' := W) (by go_simp) ((oShort 0 W).mono fun e w' ⟨h1, h2⟩ => ⟨_, h1, rfl, h2⟩)
    refine AllV.cons rfl (fun E W hb hc hf hE hV => Or.inl ⟨rfl, ?_⟩) ?_
    · have e1 : E (.tmp 5) = _ := hV 1 5 (by kernel_rfl) (by kernel_rfl)
      clear hE hV
      exact Does.value (w' := W) (by go_simp) ⟨rfl, Below.refl _ _⟩
    refine AllV.cons rfl (fun E W hb hc hf hE hV => Or.inl ⟨rfl, ?_⟩) ?_
    · have e1 : E (.tmp 7) = _ := hV 3 7 (by kernel_rfl) (by kernel_rfl)
      clear hE hV
      exact Does.value (w' := W) (by go_simp) ⟨rfl, Below.refl _ _⟩
    exact AllV.nil
--ENDSMALL
  · intro f W hf hb
    have e2 : f 2 = .int .u64 0 := hf (4, 2) (by decide)
    have e3 : f 3 = .bool true := hf (5, 3) (by decide)
    have HB := Lib.hid (below_step HB.out hb)
    clear hf hb
    simp only [fillSlots, List.setIfInBounds_toArray, List.set_cons_succ, List.set_cons_zero, e2, e3]
    go_wp2
    go_ret2
    exact ⟨rfl, HB.out⟩

set_option maxHeartbeats 400000 in
theorem oIsZero (w : World) : Calls Try.prog 36 #[.agg #[.int .u64 0, .slice none 0 0]] w fun e w' => e = .returned (.bool true) ∧ Below w.heap.size w w' := by
  go_enter Try.func36, Try.ntmps36
  go_wp2_with fail
  refine (oSmall0 _).mono ?_
  rintro e w2 ⟨rfl, hb⟩
  have HB := Lib.hid ((below_alloc (Below.refl w.heap.size w) _).trans (hb.mono (by simp)))
  clear hb
  go_wp2
  go_ret
  exact ⟨rfl, HB.out⟩

set_option maxHeartbeats 1000000 in
theorem oFrom0 (w : World) : Calls Try.prog 32 #[.bool true, .agg #[.int .u64 0, .slice none 0 0]] w fun e w' => e = .returned (.agg #[.bool false, .int .u64 0, .slice none 0 0]) ∧ Below w.heap.size w w' := by
  go_enter Try.func32, Try.ntmps32
  go_wp2_with fail
  obtain ⟨w1, hw1⟩ : ∃ w1, w1 = (w.alloc (.cells #[.int .u64 0, .slice none 0 0] 33)).alloc (.cells #[.bool false, .int .u64 0, .slice none 0 0] 35) := ⟨_, rfl⟩
  have q0 : w1.cell? ⟨w.heap.size, 0, none⟩ = some (.int .u64 0) := by rw [hw1]; simp [go_sem]
  have q1 : w1.cell? ⟨w.heap.size, 1, none⟩ = some (.slice none 0 0) := by rw [hw1]; simp [go_sem]
  have r0 : w1.cell? ⟨w.heap.size + 1, 0, none⟩ = some (.bool false) := by rw [hw1]; simp [go_sem]
  have r1 : w1.cell? ⟨w.heap.size + 1, 1, none⟩ = some (.int .u64 0) := by rw [hw1]; simp [go_sem]
  have r2 : w1.cell? ⟨w.heap.size + 1, 2, none⟩ = some (.slice none 0 0) := by rw [hw1]; simp [go_sem]
  have f0 : w1.frozen? ⟨w.heap.size + 1, 0, none⟩ = false := by rw [hw1]; simp [go_sem]
  have f1 : w1.frozen? ⟨w.heap.size + 1, 1, none⟩ = false := by rw [hw1]; simp [go_sem]
  have f2 : w1.frozen? ⟨w.heap.size + 1, 2, none⟩ = false := by rw [hw1]; simp [go_sem]
  have HB := Lib.hid (show Below w.heap.size w w1 by rw [hw1]; exact below_alloc (below_alloc (Below.refl _ _) _) _)
  rw [← hw1]
  clear hw1
--FROM
  refine region_phase (T := [0, 1, 2, 3, 4, 5, 6, 7]) (slots := [5, 6, 7, 8, 9, 10, 11, 12]) (fuel := 1) (n := 8) (deps := [0, 1, 2, 6, 10, 18, 0, 96, 255]) (Tm := 255) (Lm := 255)
      (L := #[true, true, true, true, true, true, true, true, false])
      (V := OTab [.is (.bool true), .is (.bool true), .is (.agg #[.int .u64 0, .slice none 0 0]), .is (.bool true), .is (.bool false), .is (.bool false), .is (.agg #[.int .u64 0, .slice none 0 0]), .is (.agg #[.bool false, .int .u64 0, .slice none 0 0])] 0)
      (by kernel_rfl) rfl OTab.stable (by kernel_rfl) (by kernel_rfl) (by kernel_rfl) (by kernel_rfl) (by kernel_rfl) (by kernel_rfl) (by kernel_rfl) ?_ ?_
  · skip
    refine AllGo.cons rfl (fun E W hb hc hf hE hV => ⟨rfl, ?_⟩) ?_
    · have e1 : E (.tmp 0) = .bool true := hE 0 (by kernel_rfl)
      clear hE hV
      exact Does.value (w' := W) (by go_simp) ⟨rfl, Below.refl _ _⟩
    refine AllGo.cons rfl (fun E W hb hc hf hE hV => ⟨rfl, ?_⟩) ?_
    · have e1 : E (.tmp 5) = _ := hV 0 5 (by kernel_rfl) (by kernel_rfl) (by kernel_rfl)
      clear hE hV
      exact Does.value (w' := W) (by go_simp) ⟨rfl, Below.refl _ _⟩
    refine AllGo.cons rfl (fun E W hb hc hf hE hV => ⟨wanted_of (d := 6) (b := true) rfl (by kernel_rfl) (hV 1 6 (by kernel_rfl) (by kernel_rfl) (by kernel_rfl)), ?_⟩) ?_
    · have e1 : E (.tmp 3) = .pointer (some ⟨w.heap.size, 0, none⟩) := hE 3 (by kernel_rfl)
      have q := ocell hb q0
      have q' := ocell hb q1
      clear hE hV
      exact Does.value (w' := W) (by go_simp) ⟨rfl, Below.refl _ _⟩
    refine AllGo.cons rfl (fun E W hb hc hf hE hV => ⟨wanted_of (d := 6) (b := true) rfl (by kernel_rfl) (hV 1 6 (by kernel_rfl) (by kernel_rfl) (by kernel_rfl)), ?_⟩) ?_
    · have e1 : E (.tmp 7) = _ := hV 2 7 (by kernel_rfl) (by kernel_rfl) (by kernel_rfl)
      clear hE hV
      exact Does.call (w' := W) (by go_simp) ((oIsZero W).mono fun e w' ⟨h1, h2⟩ => ⟨_, h1, rfl, h2⟩)
    refine AllGo.cons rfl (fun E W hb hc hf hE hV => ⟨wanted_of (d := 6) (b := true) rfl (by kernel_rfl) (hV 1 6 (by kernel_rfl) (by kernel_rfl) (by kernel_rfl)), ?_⟩) ?_
    · have e1 : E (.tmp 8) = _ := hV 3 8 (by kernel_rfl) (by kernel_rfl) (by kernel_rfl)
      clear hE hV
      exact Does.value (w' := W) (by go_simp) ⟨rfl, Below.refl _ _⟩
    refine AllGo.cons rfl (fun E W hb hc hf hE hV => ⟨rfl, ?_⟩) ?_
    · have e1 : E (.tmp 6) = _ := hV 1 6 (by kernel_rfl) (by kernel_rfl) (by kernel_rfl)
      have e2 : E (.tmp 9) = _ := hV 4 9 (by kernel_rfl) (by kernel_rfl) (by kernel_rfl)
      clear hE hV
      exact Does.value (w' := W) (by go_simp) ⟨rfl, Below.refl _ _⟩
    refine AllGo.cons rfl (fun E W hb hc hf hE hV => ⟨rfl, ?_⟩) ?_
    · have e1 : E (.tmp 3) = .pointer (some ⟨w.heap.size, 0, none⟩) := hE 3 (by kernel_rfl)
      have q := ocell hb q0
      have q' := ocell hb q1
      clear hE hV
      exact Does.value (w' := W) (by go_simp) ⟨rfl, Below.refl _ _⟩
    refine AllGo.cons rfl (fun E W hb hc hf hE hV => ⟨rfl, ?_⟩) ?_
    · have e1 : E (.tmp 10) = _ := hV 5 10 (by kernel_rfl) (by kernel_rfl) (by kernel_rfl)
      have e2 : E (.tmp 11) = _ := hV 6 11 (by kernel_rfl) (by kernel_rfl) (by kernel_rfl)
      clear hE hV
      exact Does.value (w' := W) (by go_simp) ⟨rfl, Below.refl _ _⟩
    exact AllGo.nil
--ENDFROM
  · intro f W hf hb
    have e12 : f 12 = .agg #[.bool false, .int .u64 0, .slice none 0 0] := hf (7, 12) (by decide)
    have f0 := ofree hb r0 f0; have f1 := ofree hb r1 f1; have f2 := ofree hb r2 f2
    have r0 := ocell hb r0; have r1 := ocell hb r1; have r2 := ocell hb r2
    have HB := Lib.hid (below_step HB.out hb)
    clear hf
    simp only [fillSlots, List.setIfInBounds_toArray, List.set_cons_succ, List.set_cons_zero, e12]
    refine wpAny_ready (rs := [8]) (by kernel_rfl) (by simp) ?_
    refine AllReady.cons rfl (fun K hK => ?_) AllReady.nil
    go_simp
    refine hK _ _ ?_; clear hK K
    refine wpAny_done (by kernel_rfl) ?_ _
    go_wp2
    exact bodyPost_ret (v := .agg #[.bool false, .int .u64 0, .slice none 0 0]) (by simp [results, Try.results32, go_sem, r0, r1, r2]) rfl ⟨rfl, by repeat' first | exact HB.out | refine Below.setCell ?_ (by simp) _⟩

theorem make_u64' (w : World) : (Instr.makeSlice 31 (.int .i64 0) (.int .i64 0)).run Try.prog w = .ok (.slice (some ⟨w.heap.size, 0, none⟩) 0 0) (w.alloc (.cells (madeCells #[.int .u64 0] 0) 30)) :=
  run_make_one (P := Try.prog) 31 30 .u64 8 0 Try.underlying31 (by kernel_rfl) (by omega) (by omega) w

set_option maxHeartbeats 1000000 in
theorem oFromBytes0 (p : Option Addr) (c : Nat) (w : World) : Calls Try.prog 40 #[.slice p 0 c] w fun e w' => e = .returned (.agg #[.int .u64 0, .slice none 0 0]) ∧ Below w.heap.size w w' := by
  go_enter Try.func40, Try.ntmps40
  have hmk := make_u64' (w.alloc (.cells #[.int .u64 0, .slice none 0 0] 33))
  rw [World.size_alloc] at hmk
  go_wp2_with fail
  obtain ⟨w1, hw1⟩ : ∃ w1, w1 = (w.alloc (.cells #[.int .u64 0, .slice none 0 0] 33)).alloc (.cells (madeCells #[.int .u64 0] 0) 30) := ⟨_, rfl⟩
  have r0 : w1.cell? ⟨w.heap.size, 0, none⟩ = some (.int .u64 0) := by rw [hw1]; simp [go_sem]
  have r1 : w1.cell? ⟨w.heap.size, 1, none⟩ = some (.slice none 0 0) := by rw [hw1]; simp [go_sem]
  have f0 : w1.frozen? ⟨w.heap.size, 0, none⟩ = false := by rw [hw1]; simp [go_sem]
  have f1 : w1.frozen? ⟨w.heap.size, 1, none⟩ = false := by rw [hw1]; simp [go_sem]
  have HB := Lib.hid (show Below w.heap.size w w1 by rw [hw1]; exact below_alloc (below_alloc (Below.refl _ _) _) _)
  rw [← hw1]
  clear hw1 hmk
  go_loop [13] (fun i => i = .int .i64 0) (fun _ => 0)
  case atStart => exact rfl
  case round =>
    obtain rfl := hrel
    go_wp2_with fail
    refine (oOfWords0 _ _).mono ?_
    rintro e w2 ⟨rfl, hb⟩
    have f0 := ofree hb r0 f0; have f1 := ofree hb r1 f1
    have r0 := ocell hb r0; have r1 := ocell hb r1
    have HB := Lib.hid (below_step HB.out hb)
    clear hb
    go_wp2
    exact bodyPost_ret (v := .agg #[.int .u64 0, .slice none 0 0]) (by simp [results, Try.results40, go_sem, r0, r1]) rfl ⟨rfl, by repeat' first | exact HB.out | refine Below.setCell ?_ (by simp) _⟩

set_option maxHeartbeats 400000 in
theorem oSign0 (w : World) : Calls Try.prog 12 #[.agg #[.bool false, .int .u64 0, .slice none 0 0]] w fun e w' => e = .returned (.int .i64 0) ∧ Below w.heap.size w w' := by
  go_enter Try.func12, Try.ntmps12
  go_wp2_with fail
  refine (oIsZero _).mono ?_
  rintro e w2 ⟨rfl, hb⟩
  have HB := Lib.hid ((below_alloc (Below.refl w.heap.size w) _).trans (hb.mono (by simp)))
  clear hb
  go_wp2
  go_ret
  exact ⟨rfl, HB.out⟩

/-- A Reader in block b. -/
structure RdIs (w : World) (b : Nat) (p : Option Addr) (l c : Nat) (bad : Bool) : Prop where
  c0 : w.cell? ⟨b, 0, none⟩ = some (.slice p l c)
  c1 : w.cell? ⟨b, 1, none⟩ = some (.bool bad)
  f0 : w.frozen? ⟨b, 0, none⟩ = false
  f1 : w.frozen? ⟨b, 1, none⟩ = false
theorem RdIs.below {w w' : World} {b : Nat} {p : Option Addr} {l c : Nat} {bad : Bool} (h : RdIs w b p l c bad) (hb : Below w.heap.size w w') : RdIs w' b p l c bad :=
  ⟨ocell hb h.c0, ocell hb h.c1, ofree hb h.c0 h.f0, ofree hb h.c1 h.f1⟩
theorem RdIs.set0 {w : World} {b : Nat} {p : Option Addr} {l c : Nat} {bad : Bool} (h : RdIs w b p l c bad) (q : Option Addr) (m d : Nat) : RdIs (w.setCell ⟨b, 0, none⟩ (.slice q m d)) b q m d bad :=
  ⟨World.cell?_setCell_same _ _ _ h.c0, by rw [World.cell?_setCell_other _ _ _ _ (by simp)]; exact h.c1, by rw [World.frozen?_setCell]; exact h.f0, by rw [World.frozen?_setCell]; exact h.f1⟩
theorem RdIs.set1 {w : World} {b : Nat} {p : Option Addr} {l c : Nat} {bad : Bool} (h : RdIs w b p l c bad) (x : Bool) : RdIs (w.setCell ⟨b, 1, none⟩ (.bool x)) b p l c x :=
  ⟨by rw [World.cell?_setCell_other _ _ _ _ (by simp)]; exact h.c0, World.cell?_setCell_same _ _ _ h.c1, by rw [World.frozen?_setCell]; exact h.f0, by rw [World.frozen?_setCell]; exact h.f1⟩

set_option maxHeartbeats 400000 in
theorem oFail (b : Nat) (p : Option Addr) (l c : Nat) (bad : Bool) (w : World) (h : RdIs w b p l c bad) :
    Calls Try.prog 31 #[.pointer (some ⟨b, 0, none⟩)] w fun e w' => e = .returned (.tuple #[]) ∧ w' = (w.setCell ⟨b, 0, none⟩ (.slice none 0 0)).setCell ⟨b, 1, none⟩ (.bool true) := by
  obtain ⟨c0, c1, f0, f1⟩ := h
  go_enter Try.func31, Try.ntmps31
  go_wp2
  go_end0
  exact ⟨rfl, rfl⟩
end Go.Proofs.Ytdmoiagliflecaa
