/- A Reader's calls in the further examples; the law's walk. -/
import Derived.Test.YtdmoiagliflecaaO18
namespace Go.Proofs.Ytdmoiagliflecaa
open Go.RowKit

theorem only_cell {w w' : World} {b off n x o : Nat} {v : Value} (h : Only w w' b off n) (hc : w.cell? ⟨x, o, none⟩ = some v) (hx : x ≠ b) : w'.cell? ⟨x, o, none⟩ = some v :=
  (World.cell?_of_block (w := w) (h.block x (World.block_lt_of_cell? _ _ hc) hx)).trans hc
theorem only_free {w w' : World} {b off n x o : Nat} {v : Value} (h : Only w w' b off n) (hc : w.cell? ⟨x, o, none⟩ = some v) (hx : x ≠ b) (hf : w.frozen? ⟨x, o, none⟩ = false) : w'.frozen? ⟨x, o, none⟩ = false :=
  (World.frozen?_of_block (w := w) (h.block x (World.block_lt_of_cell? _ _ hc) hx)).trans hf
/-- A store to a block that came since. -/
theorem only_later {w w1 : World} {b : Nat} (h : Only w w1 b 0 2) {a : Addr} (ha : w.heap.size ≤ a.block) (hb : b < w.heap.size) (v : Value) : Only w (w1.setCell a v) b 0 2 :=
  ⟨h.os, h.tape, h.output, Nat.le_trans h.size (by simp [World.setCell]), fun k hk hkb => (Below.heap_setCell _ _ _ _ (by omega)).trans (h.block k hk hkb),
    fun o ho => (World.cell?_setCell_other _ _ _ _ (by intro e; rw [e] at ha; simp at ha; omega)).trans (h.cell o ho), fun o => (World.frozen?_setCell _ _ _ _).trans (h.frozen o)⟩
theorem RdIs.other {w : World} {b : Nat} {p : Option Addr} {l c : Nat} {bad : Bool} (h : RdIs w b p l c bad) {a : Addr} (ha : a.block ≠ b) (v : Value) : RdIs (w.setCell a v) b p l c bad :=
  ⟨by rw [World.cell?_setCell_other _ _ _ _ (by intro e; rw [e] at ha; exact ha rfl)]; exact h.c0, by rw [World.cell?_setCell_other _ _ _ _ (by intro e; rw [e] at ha; exact ha rfl)]; exact h.c1, by rw [World.frozen?_setCell]; exact h.f0, by rw [World.frozen?_setCell]; exact h.f1⟩
theorem RdIs.lt {w : World} {b : Nat} {p : Option Addr} {l c : Nat} {bad : Bool} (h : RdIs w b p l c bad) : b < w.heap.size := World.block_lt_of_cell? _ _ h.c0

set_option maxHeartbeats 1000000 in
/-- One of two bytes is taken. -/
theorem oTake1 (b g : Nat) (w : World) (h : RdIs w b (some ⟨g, 0, none⟩) 2 2 false) :
    Calls Try.prog 37 #[.pointer (some ⟨b, 0, none⟩), .int .i64 1] w fun e w' => e = .returned (.slice (some ⟨g, 0, none⟩) 1 1) ∧ RdIs w' b (some ⟨g, 1, none⟩) 1 1 false ∧ Only w w' b 0 2 := by
  have H := Lib.hid h
  obtain ⟨c0, c1, f0, f1⟩ := h
  go_enter Try.func37, Try.ntmps37
  go_wp2
  go_ret
  exact ⟨rfl, H.out.set0 _ _ _, (Only.refl w b 0 2).setCell 0 (by omega) (by omega) _⟩

set_option maxHeartbeats 1000000 in
/-- Nothing is taken of nothing. -/
theorem oTake0 (b : Nat) (bad : Bool) (w : World) (h : RdIs w b none 0 0 bad) :
    Calls Try.prog 37 #[.pointer (some ⟨b, 0, none⟩), .int .i64 0] w fun e w' => e = .returned (.slice none 0 0) ∧ RdIs w' b none 0 0 bad ∧ Only w w' b 0 2 := by
  have H := Lib.hid h
  obtain ⟨c0, c1, f0, f1⟩ := h
  go_enter Try.func37, Try.ntmps37
  go_wp2
  go_ret
  exact ⟨rfl, H.out.set0 _ _ _, (Only.refl w b 0 2).setCell 0 (by omega) (by omega) _⟩

set_option maxHeartbeats 1000000 in
/-- Too much is asked for. -/
theorem oTakeNo (b : Nat) (bad : Bool) (w : World) (h : RdIs w b none 0 0 bad) :
    Calls Try.prog 37 #[.pointer (some ⟨b, 0, none⟩), .int .i64 1] w fun e w' => e = .returned (.slice none 0 0) ∧ RdIs w' b none 0 0 true ∧ Only w w' b 0 2 := by
  have H := Lib.hid h
  have hf := oFail b none 0 0 bad w h
  have HF := Lib.hid hf
  obtain ⟨c0, c1, f0, f1⟩ := h
  clear hf
  go_enter Try.func37, Try.ntmps37
  go_wp2_with fail
  refine HF.out.mono ?_
  rintro e w2 ⟨rfl, rfl⟩
  go_wp2
  go_ret
  exact ⟨rfl, (H.out.set0 _ _ _).set1 _, ((Only.refl w b 0 2).setCell 0 (by omega) (by omega) _).setCell 1 (by omega) (by omega) _⟩

set_option maxHeartbeats 1000000 in
theorem oCount1 (b g : Nat) (w : World) (h : RdIs w b (some ⟨g, 0, none⟩) 2 2 false) (ha : At w .u8 g 0 [1, 5]) :
    Calls Try.prog 30 #[.pointer (some ⟨b, 0, none⟩), .int .i64 4611686018427387904] w fun e w' => e = .returned (.int .i64 1) ∧ RdIs w' b (some ⟨g, 1, none⟩) 1 1 false ∧ Only w w' b 0 2 := by
  have H := Lib.hid h
  have hb := h.lt
  have hr := read_any (some ⟨g, 0, none⟩) 2 2 [1, 5] w (by omega) (IsB.of_at ha rfl (by omega) (by decide))
  rw [read_k1] at hr
  have HR := Lib.hid hr
  obtain ⟨c0, c1, f0, f1⟩ := h
  clear hr ha
  go_enter Try.func30, Try.ntmps30
  go_wp2_with fail
  refine HR.out.mono ?_
  rintro e w2 ⟨rfl, hb2⟩
  have H2 := Lib.hid (H.out.below hb2)
  have HB := Lib.hid (Only.of_below (b := b) (off := 0) (n := 2) hb2 hb)
  clear hb2 c0 c1 f0 f1
  go_wp2_with fail
  refine (oTake1 b g w2 H2.out).mono ?_
  rintro e w3 ⟨rfl, h3, hb3⟩
  have H3 := Lib.hid h3
  have HB3 := Lib.hid (HB.out.trans hb3)
  clear h3 hb3
  go_wp2
  go_ret
  exact ⟨rfl, H3.out, HB3.out⟩

set_option maxHeartbeats 1000000 in
theorem oCountNo (b : Nat) (bad : Bool) (w : World) (h : RdIs w b none 0 0 bad) :
    Calls Try.prog 30 #[.pointer (some ⟨b, 0, none⟩), .int .i64 9] w fun e w' => e = .returned (.int .i64 0) ∧ RdIs w' b none 0 0 true ∧ Only w w' b 0 2 := by
  have H := Lib.hid h
  have hb := h.lt
  have hr := read_any none 0 0 [] w (by omega) ⟨rfl, by simp, Or.inl ⟨rfl, rfl, rfl⟩⟩
  rw [read_k0] at hr
  have HR := Lib.hid hr
  obtain ⟨c0, c1, f0, f1⟩ := h
  clear hr
  go_enter Try.func30, Try.ntmps30
  go_wp2_with fail
  refine HR.out.mono ?_
  rintro e w2 ⟨rfl, hb2⟩
  have H2 := Lib.hid (H.out.below hb2)
  have HB := Lib.hid (Only.of_below (b := b) (off := 0) (n := 2) hb2 hb)
  clear hb2 c0 c1 f0 f1
  go_wp2_with fail
  refine (oFail b none 0 0 bad w2 H2.out).mono ?_
  rintro e w3 ⟨rfl, rfl⟩
  have H3 := Lib.hid ((H2.out.set0 none 0 0).set1 true)
  have HB3 := Lib.hid ((HB.out.setCell 0 (by omega) (by omega) (.slice none 0 0)).setCell 1 (by omega) (by omega) (.bool true))
  go_wp2
  go_ret
  exact ⟨rfl, H3.out, HB3.out⟩

set_option maxHeartbeats 1000000 in
theorem oNumber0 (b : Nat) (bad : Bool) (w : World) (h : RdIs w b none 0 0 bad) :
    Calls Try.prog 33 #[.pointer (some ⟨b, 0, none⟩), .int .i64 0] w fun e w' => e = .returned (.agg #[.int .u64 0, .slice none 0 0]) ∧ RdIs w' b none 0 0 bad ∧ Only w w' b 0 2 := by
  have H := Lib.hid h
  have hb := h.lt
  clear h
  go_enter Try.func33, Try.ntmps33
  go_wp2_with fail
  obtain ⟨w1, hw1⟩ : ∃ w1, w1 = w.alloc (.cells #[.int .u64 0, .slice none 0 0] 33) := ⟨_, rfl⟩
  have r0 : w1.cell? ⟨w.heap.size, 0, none⟩ = some (.int .u64 0) := by rw [hw1]; simp [go_sem]
  have r1 : w1.cell? ⟨w.heap.size, 1, none⟩ = some (.slice none 0 0) := by rw [hw1]; simp [go_sem]
  have f0 : w1.frozen? ⟨w.heap.size, 0, none⟩ = false := by rw [hw1]; simp [go_sem]
  have f1 : w1.frozen? ⟨w.heap.size, 1, none⟩ = false := by rw [hw1]; simp [go_sem]
  have H1 := Lib.hid (show RdIs w1 b none 0 0 bad by rw [hw1]; exact H.out.below (below_alloc (Below.refl _ _) _))
  have HB := Lib.hid (show Only w w1 b 0 2 by rw [hw1]; exact Only.of_below (below_alloc (Below.refl _ _) _) hb)
  rw [← hw1]
  clear hw1
  refine (oTake0 b bad w1 H1.out).mono ?_
  rintro e w2 ⟨rfl, h2, ho⟩
  have f0 := only_free ho r0 (by omega) f0; have f1 := only_free ho r1 (by omega) f1
  have r0 := only_cell ho r0 (by omega); have r1 := only_cell ho r1 (by omega)
  have H2 := Lib.hid h2
  have HB2 := Lib.hid (HB.out.trans ho)
  clear h2 ho
  go_wp2_with fail
  refine (oFromBytes0 none 0 w2).mono ?_
  rintro e w3 ⟨rfl, hb3⟩
  have f0 := ofree hb3 r0 f0; have f1 := ofree hb3 r1 f1
  have r0 := ocell hb3 r0; have r1 := ocell hb3 r1
  have H3 := Lib.hid (H2.out.below hb3)
  have HB3 := Lib.hid (HB2.out.trans (Only.of_below hb3 H2.out.lt))
  clear hb3
  go_wp2
  refine bodyPost_ret (v := .agg #[.int .u64 0, .slice none 0 0]) (by simp [results, Try.results33, go_sem, r0, r1]) rfl ⟨rfl, ?_, only_later (only_later HB3.out (Nat.le_refl _) hb _) (Nat.le_refl _) hb _⟩
  exact (H3.out.other (by show w.heap.size ≠ b; omega) _).other (by show w.heap.size ≠ b; omega) _

set_option maxHeartbeats 1000000 in
/-- A negative 0 is refused. -/
theorem oWholeBad (b g : Nat) (w : World) (h : RdIs w b (some ⟨g, 0, none⟩) 2 2 false) (ha : At w .u8 g 0 [1, 5]) (_hg : g ≠ b) :
    Calls Try.prog 9 #[.pointer (some ⟨b, 0, none⟩)] w fun e w' => e = .returned (.agg #[.bool false, .int .u64 0, .slice none 0 0]) ∧ RdIs w' b none 0 0 true ∧ Only w w' b 0 2 := by
  have H := Lib.hid h
  have hb := h.lt
  have HA := Lib.hid ha
  clear h ha
  go_enter Try.func9, Try.ntmps9
  go_wp2_with fail
  obtain ⟨w1, hw1⟩ : ∃ w1, w1 = w.alloc (.cells #[.bool false, .int .u64 0, .slice none 0 0] 35) := ⟨_, rfl⟩
  have r0 : w1.cell? ⟨w.heap.size, 0, none⟩ = some (.bool false) := by rw [hw1]; simp [go_sem]
  have r1 : w1.cell? ⟨w.heap.size, 1, none⟩ = some (.int .u64 0) := by rw [hw1]; simp [go_sem]
  have r2 : w1.cell? ⟨w.heap.size, 2, none⟩ = some (.slice none 0 0) := by rw [hw1]; simp [go_sem]
  have f0 : w1.frozen? ⟨w.heap.size, 0, none⟩ = false := by rw [hw1]; simp [go_sem]
  have f1 : w1.frozen? ⟨w.heap.size, 1, none⟩ = false := by rw [hw1]; simp [go_sem]
  have f2 : w1.frozen? ⟨w.heap.size, 2, none⟩ = false := by rw [hw1]; simp [go_sem]
  have H1 := Lib.hid (show RdIs w1 b (some ⟨g, 0, none⟩) 2 2 false by rw [hw1]; exact H.out.below (below_alloc (Below.refl _ _) _))
  have HA1 := Lib.hid (show At w1 .u8 g 0 [1, 5] by rw [hw1]; exact HA.out.mono (below_alloc (Below.refl _ _) _))
  have HB := Lib.hid (show Only w w1 b 0 2 by rw [hw1]; exact Only.of_below (below_alloc (Below.refl _ _) _) hb)
  rw [← hw1]
  clear hw1
  refine (oCount1 b g w1 H1.out HA1.out).mono ?_
  rintro e w2 ⟨rfl, h2, ho⟩
  have f0 := only_free ho r0 (by omega) f0; have f1 := only_free ho r1 (by omega) f1; have f2 := only_free ho r2 (by omega) f2
  have r0 := only_cell ho r0 (by omega); have r1 := only_cell ho r1 (by omega); have r2 := only_cell ho r2 (by omega)
  have H2 := Lib.hid h2
  have HB2 := Lib.hid (HB.out.trans ho)
  clear h2 ho
  go_wp2_with fail
  refine (oFail b _ 1 1 false w2 H2.out).mono ?_
  rintro e w3 ⟨rfl, hw3⟩
  have ho : Only w2 w3 b 0 2 := by rw [hw3]; exact ((Only.refl w2 b 0 2).setCell 0 (by omega) (by omega) _).setCell 1 (by omega) (by omega) _
  have H3 := Lib.hid (show RdIs w3 b none 0 0 true by rw [hw3]; exact (H2.out.set0 none 0 0).set1 true)
  have f0 := only_free ho r0 (by omega) f0; have f1 := only_free ho r1 (by omega) f1; have f2 := only_free ho r2 (by omega) f2
  have r0 := only_cell ho r0 (by omega); have r1 := only_cell ho r1 (by omega); have r2 := only_cell ho r2 (by omega)
  have HB3 := Lib.hid (HB2.out.trans ho)
  clear ho hw3
  go_wp2_with fail
  refine (oNumber0 b true w3 H3.out).mono ?_
  rintro e w4 ⟨rfl, h4, ho⟩
  have f0 := only_free ho r0 (by omega) f0; have f1 := only_free ho r1 (by omega) f1; have f2 := only_free ho r2 (by omega) f2
  have r0 := only_cell ho r0 (by omega); have r1 := only_cell ho r1 (by omega); have r2 := only_cell ho r2 (by omega)
  have H4 := Lib.hid h4
  have HB4 := Lib.hid (HB3.out.trans ho)
  clear h4 ho
  go_wp2_with fail
  refine (oFrom0 w4).mono ?_
  rintro e w5 ⟨rfl, hb5⟩
  have f0 := ofree hb5 r0 f0; have f1 := ofree hb5 r1 f1; have f2 := ofree hb5 r2 f2
  have r0 := ocell hb5 r0; have r1 := ocell hb5 r1; have r2 := ocell hb5 r2
  have H5 := Lib.hid (H4.out.below hb5)
  have HB5 := Lib.hid (HB4.out.trans (Only.of_below hb5 H4.out.lt))
  clear hb5
  go_wp2
  refine bodyPost_ret (v := .agg #[.bool false, .int .u64 0, .slice none 0 0]) (by simp [results, Try.results9, go_sem, r0, r1, r2]) rfl ⟨rfl, ?_, only_later (only_later (only_later HB5.out (Nat.le_refl _) hb _) (Nat.le_refl _) hb _) (Nat.le_refl _) hb _⟩
  exact ((H5.out.other (by show w.heap.size ≠ b; omega) _).other (by show w.heap.size ≠ b; omega) _).other (by show w.heap.size ≠ b; omega) _

set_option maxHeartbeats 400000 in
theorem oBad (b : Nat) (w : World) (h : RdIs w b none 0 0 true) : Calls Try.prog 13 #[.pointer (some ⟨b, 0, none⟩)] w fun e w' => e = .returned (.bool true) ∧ w = w' := by
  obtain ⟨c0, c1, f0, f1⟩ := h
  go_enter Try.func13, Try.ntmps13
  go_wp2
  go_ret
  exact ⟨rfl, rfl⟩
set_option maxHeartbeats 400000 in
theorem oLeft (b : Nat) (w : World) (h : RdIs w b none 0 0 true) : Calls Try.prog 14 #[.pointer (some ⟨b, 0, none⟩)] w fun e w' => e = .returned (.int .i64 0) ∧ w = w' := by
  obtain ⟨c0, c1, f0, f1⟩ := h
  go_enter Try.func14, Try.ntmps14
  go_wp2
  go_ret
  exact ⟨rfl, rfl⟩
set_option maxHeartbeats 400000 in
theorem oBool (b : Nat) (w : World) (h : RdIs w b none 0 0 true) : Calls Try.prog 15 #[.pointer (some ⟨b, 0, none⟩)] w fun e w' => e = .returned (.bool false) ∧ RdIs w' b none 0 0 true ∧ Only w w' b 0 2 := by
  have H := Lib.hid h
  clear h
  go_enter Try.func15, Try.ntmps15
  go_wp2_with fail
  refine (oTakeNo b true w H.out).mono ?_
  rintro e w2 ⟨rfl, h2, ho⟩
  have H2 := Lib.hid h2; have HO := Lib.hid ho
  clear h2 ho
  go_wp2
  go_ret
  exact ⟨rfl, H2.out, HO.out⟩
set_option maxHeartbeats 400000 in
theorem oText (b : Nat) (w : World) (h : RdIs w b none 0 0 true) : Calls Try.prog 16 #[.pointer (some ⟨b, 0, none⟩), .int .i64 9] w fun e w' => e = .returned (.string ByteArray.empty) ∧ Only w w' b 0 2 := by
  have H := Lib.hid h
  clear h
  go_enter Try.func16, Try.ntmps16
  go_wp2_with fail
  refine (oCountNo b true w H.out).mono ?_
  rintro e w2 ⟨rfl, h2, ho⟩
  have H2 := Lib.hid h2; have HO := Lib.hid ho
  clear h2 ho
  go_wp2_with fail
  refine (oTake0 b true w2 H2.out).mono ?_
  rintro e w3 ⟨rfl, h3, ho⟩
  have HO3 := Lib.hid (HO.out.trans ho)
  have hcv := run_convert_bytes_nil (P := Try.prog) w3 22 5 Try.underlying22 Try.underlying5 0 0 9 Try.underlying9
  clear h3 ho
  go_wp2
  go_ret
  exact ⟨rfl, HO3.out⟩

set_option maxHeartbeats 400000 in
theorem oNewReader (g o c : Nat) (w : World) (ha : At w .u8 g o [1, 5]) :
    Calls Try.prog 8 #[.slice (some ⟨g, o, none⟩) 2 c] w fun e w' => ∃ b g2, e = .returned (.pointer (some ⟨b, 0, none⟩)) ∧ RdIs w' b (some ⟨g2, 0, none⟩) 2 2 false ∧ At w' .u8 g2 0 [1, 5] ∧ g2 ≠ b ∧ w.heap.size ≤ b ∧ Below w.heap.size w w' := by
  have HA := Lib.hid ha
  clear ha
  go_enter Try.func8, Try.ntmps8
  go_wp2_with fail
  refine (exact_at g o 2 c [1, 5] w rfl (by omega) (by omega) HA.out).mono ?_
  rintro e w2 ⟨⟨h, _⟩ | ⟨g2, h1, rfl, h2, h3, h4⟩, hb⟩
  · cases h
  · have A2 := Lib.hid h3
    have hg2 : g2 < w2.heap.size := h3.lt (by decide)
    have HB := Lib.hid hb
    clear h1 h2 h3 h4 hb
    go_wp2
    go_ret
    refine ⟨w2.heap.size, g2, rfl, ⟨by simp [go_sem], by simp [go_sem], by simp [go_sem], by simp [go_sem]⟩, A2.out.mono (below_alloc (Below.refl _ _) _), by omega, HB.out.size, below_step HB.out (below_alloc (Below.refl _ _) _)⟩
end Go.Proofs.Ytdmoiagliflecaa
