/- The examples of chapter 4 that every law runs. -/
import Derived.Test.YtdmoiagliflecaaO9
import Derived.Test.YtdmoiagliflecaaO5
namespace Go.Proofs.Ytdmoiagliflecaa
open Go.RowKit

theorem retC_isS {W W' : World} {bs : List Nat} {e : Ending} (h : RetC W bs e W') (ht : ∀ x ∈ bs, x < 256) : ∃ v, e = .returned v ∧ (∃ p l c, v = .slice p l c ∧ IsS W' p l c bs) ∧ Below W.heap.size W W' := by
  obtain ⟨⟨rfl, rfl⟩ | ⟨g, h1, rfl, h2, h3, h4⟩, hb⟩ := h
  · exact ⟨_, rfl, ⟨none, 0, 0, rfl, rfl, ht, Or.inl ⟨rfl, rfl, rfl⟩⟩, hb⟩
  · exact ⟨_, rfl, ⟨_, _, _, rfl, rfl, ht, Or.inr ⟨g, 0, rfl, Nat.le_refl _, h3⟩⟩, hb⟩
theorem ocell' {W w1 : World} (hb : Below W.heap.size W w1) {a : Addr} {v : Value} (h : W.cell? a = some v) : w1.cell? a = some v := by
  rw [hb.cell (World.block_lt_of_cell? _ _ h)]; exact h

set_option maxHeartbeats 400000 in
theorem oShort (n : Int) (w : World) : Calls Try.prog 51 #[.agg #[.int .u64 n, .slice none 0 0]] w fun e w' => e = .returned (.bool true) ∧ Below w.heap.size w w' := by
  go_enter Try.func51, Try.ntmps51
  go_wp2
  go_ret
  exact ⟨rfl, below_alloc (Below.refl _ _) _⟩

set_option maxHeartbeats 400000 in
theorem oList (n : Nat) (w : World) : Calls Try.prog 49 #[.agg #[.int .u64 (n : Int), .slice none 0 0]] w fun e w' => ∃ g, e = .returned (.slice (some ⟨g, 0, none⟩) 1 1) ∧ w.heap.size ≤ g ∧ At w' .u64 g 0 [n] ∧ Below w.heap.size w w' := by
  go_enter Try.func49, Try.ntmps49
  go_wp2_with fail
  refine (oShort _ _).mono ?_
  rintro e w2 ⟨rfl, hb⟩
  obtain ⟨hc, hf⟩ := bcell hb
  have hz : w.heap.size + 1 ≤ w2.heap.size := by have := hb.size; simp at this; omega
  have A := Lib.hid (At.new1 w2 .u64 n 30)
  have HB := Lib.hid (show Below w.heap.size w w2 from (below_alloc (Below.refl _ _) _).trans (hb.mono (by simp)))
  clear hb hf
  go_wp2
  go_ret
  exact ⟨w2.heap.size, rfl, by omega, A.out, below_step HB.out (below_alloc (Below.refl _ _) _)⟩

set_option maxRecDepth 100000 in
set_option maxHeartbeats 400000 in
theorem oLen1 (w : World) : Calls Try.prog 54 #[.int .u64 1] w fun e w' => e = .returned (.int .i64 1) ∧ w = w' := by
  go_enter Try.func54, Try.ntmps54
  go_wp2
  go_ret
  exact ⟨ret_int (by kernel_rfl), rfl⟩

set_option maxHeartbeats 400000 in
theorem oBits1 (w : World) : Calls Try.prog 50 #[.agg #[.int .u64 1, .slice none 0 0]] w fun e w' => e = .returned (.int .i64 1) ∧ Below w.heap.size w w' := by
  go_enter Try.func50, Try.ntmps50
  go_wp2_with fail
  refine (oList 1 _).mono ?_
  rintro e w2 ⟨g, rfl, hg, ha, hb⟩
  have hcell : w2.cell? ⟨g, 0, none⟩ = some (.int .u64 1) := ha 0 (by decide)
  have HB := Lib.hid (show Below w.heap.size w w2 from (below_alloc (Below.refl _ _) _).trans (hb.mono (by simp)))
  clear ha hb
  go_wp2_with fail
  refine (oLen1 _).mono ?_
  rintro e w3 ⟨rfl, rfl⟩
  go_wp2
  go_ret
  exact ⟨rfl, HB.out⟩

set_option maxHeartbeats 1000000 in
theorem oBytes1 (w : World) : Calls Try.prog 42 #[.agg #[.int .u64 1, .slice none 0 0]] w (RetW w .u8 [1]) := by
  go_enter Try.func42, Try.ntmps42
  go_wp2_with fail
  refine (oList 1 _).mono ?_
  rintro e w2 ⟨g, rfl, hg, ha, hb⟩
  have hcell : w2.cell? ⟨g, 0, none⟩ = some (.int .u64 1) := ha 0 (by decide)
  have hgl : g < w2.heap.size := World.block_lt_of_cell? _ _ hcell
  obtain ⟨hc, hf⟩ := bcell hb
  have HB := Lib.hid (show Below w.heap.size w w2 from (below_alloc (Below.refl _ _) _).trans (hb.mono (by simp)))
  clear ha hb
  go_wp2_with fail
  refine (oBits1 _).mono ?_
  rintro e w3 ⟨rfl, hb⟩
  have hcell : w3.cell? ⟨g, 0, none⟩ = some (.int .u64 1) := ocell' hb hcell
  have hgl : g < w3.heap.size := Nat.lt_of_lt_of_le hgl hb.size
  have HB := Lib.hid (below_step HB.out hb)
  clear hb hc hf
  have hmk : (Instr.makeSlice 22 (.int .i64 1) (.int .i64 1)).run Try.prog w3 = .ok (.slice (some ⟨w3.heap.size, 0, none⟩) 1 1) (w3.alloc (.cells (madeCells #[.int .u8 0] 1) 5)) := make_u8 1 (by omega) w3
  have A0 := Lib.hid (At.made w3 .u8 1 5)
  have F0 := Lib.hid (Fr.made w3 .u8 1 1 5)
  obtain ⟨w4, hw4⟩ : ∃ w4, w4 = w3.alloc (.cells (madeCells #[.int .u8 0] 1) 5) := ⟨_, rfl⟩
  obtain ⟨h, hh⟩ : ∃ h, h = w3.heap.size := ⟨_, rfl⟩
  rw [← hw4, ← hh] at hmk
  rw [← hw4, ← hh] at A0 F0
  have hcell : w4.cell? ⟨g, 0, none⟩ = some (.int .u64 1) := by rw [hw4]; exact ocell' (below_alloc (Below.refl _ _) _) hcell
  have HB := Lib.hid (show Below w.heap.size w w4 by rw [hw4]; exact below_step HB.out (below_alloc (Below.refl _ _) _))
  have hgh : g < h := by rw [hh]; exact hgl
  have hwh : w.heap.size ≤ h := by have := HB.out.size; rw [hh]; have := hg; simp at this; omega
  clear hw4 hh
  go_wp2_with fail
  go_loopw [15] (fun i wr => ∃ k : Nat, k ≤ 1 ∧ i = .int .i64 k ∧ Hid (At wr .u8 h 0 [k]) ∧ Hid (Fr wr h 0 1) ∧ Hid (Below w.heap.size w wr) ∧ wr.cell? ⟨g, 0, none⟩ = some (.int .u64 1)) (fun i _ => 1 - (intOf i).toNat)
  case atStart => exact ⟨0, by omega, rfl, A0, F0, HB, hcell⟩
  case round =>
    obtain ⟨k, hk, rfl, HA, HF, HB, hcell⟩ := hrel
    by_cases hk0 : k < 1
    · obtain rfl : k = 0 := by omega
      have c0 : wr.cell? ⟨h, 0, none⟩ = some (.int .u8 0) := HA.out 0 (by decide)
      have f0 : wr.frozen? ⟨h, 0, none⟩ = false := HF.out 0 (by decide)
      go_wp2
      go_roundw
      case rel =>
        refine ⟨1, by omega, rfl, HA.out.set0 0 1 (by decide), HF.out.setCell _ _, HB.out.setCell hwh _, ?_⟩
        rw [World.cell?_setCell_other _ _ _ _ (by intro e; injection e with e; omega)]; exact hcell
      case measure => simp [intOf]
    · obtain rfl : k = 1 := by omega
      go_wp2
      go_ret
      exact ⟨h, 0, 1, rfl, Nat.le_refl _, hwh, HA.out, HF.out, HB.out⟩

set_option maxHeartbeats 400000 in
theorem oOf1 (w : World) : Calls Try.prog 43 #[.int .u64 1] w fun e w' => e = .returned (.agg #[.int .u64 1, .slice none 0 0]) ∧ Below w.heap.size w w' := by
  go_enter Try.func43, Try.ntmps43
  go_wp2
  exact bodyPost_ret (v := .agg #[.int .u64 1, .slice none 0 0]) (by simp [results, Try.results43, go_sem]) rfl ⟨rfl, by repeat' first | exact Below.refl _ _ | refine below_alloc ?_ _ | refine Below.setCell ?_ (Nat.le_refl _) _⟩

set_option maxHeartbeats 400000 in
theorem oOfNeg (w : World) : Calls Try.prog 35 #[.int .i64 (-1)] w fun e w' => e = .returned (.agg #[.bool true, .int .u64 1, .slice none 0 0]) ∧ Below w.heap.size w w' := by
  go_enter Try.func35, Try.ntmps35
  go_wp2_with fail
  refine (oOf1 _).mono ?_
  rintro e w2 ⟨rfl, hb⟩
  obtain ⟨hc, hf⟩ := bcell hb
  have hz : w.heap.size + 1 ≤ w2.heap.size := by have := hb.size; simp at this; omega
  have HB := Lib.hid (show Below w.heap.size w w2 from (below_alloc (Below.refl _ _) _).trans (hb.mono (by simp)))
  clear hb
  go_wp2
  exact bodyPost_ret (v := .agg #[.bool true, .int .u64 1, .slice none 0 0]) (by simp [results, Try.results35, go_sem, hc]) rfl ⟨rfl, ((HB.out.setCell (p := ⟨w.heap.size, 0, none⟩) (Nat.le_refl _) _).setCell (p := ⟨w.heap.size, 1, none⟩) (Nat.le_refl _) _).setCell (p := ⟨w.heap.size, 2, none⟩) (Nat.le_refl _) _⟩

set_option maxHeartbeats 400000 in
theorem oSignNeg (n : Int) (w : World) : Calls Try.prog 12 #[.agg #[.bool true, .int .u64 n, .slice none 0 0]] w fun e w' => e = .returned (.int .i64 (-1)) ∧ Below w.heap.size w w' := by
  go_enter Try.func12, Try.ntmps12
  go_wp2
  go_ret
  exact ⟨rfl, below_alloc (Below.refl _ _) _⟩

set_option maxHeartbeats 400000 in
theorem oAbs (g : Bool) (n : Int) (w : World) : Calls Try.prog 41 #[.agg #[.bool g, .int .u64 n, .slice none 0 0]] w fun e w' => e = .returned (.agg #[.int .u64 n, .slice none 0 0]) ∧ Below w.heap.size w w' := by
  go_enter Try.func41, Try.ntmps41
  go_wp2
  exact bodyPost_ret (v := .agg #[.int .u64 n, .slice none 0 0]) (by simp [results, Try.results41, go_sem]) rfl ⟨rfl, by repeat' first | exact Below.refl _ _ | refine below_alloc ?_ _ | refine Below.setCell ?_ (by simp) _⟩

set_option maxHeartbeats 1000000 in
theorem oWholeNeg (n0 b : Nat) (v : Value) (bs : List Nat) (w : World) (hw : WrV n0 w b v bs) (hn : n0 ≤ w.heap.size) (hmax : bs.length ≤ 1000) :
    Calls Try.prog 34 #[.pointer (some ⟨b, 0, none⟩), .agg #[.bool true, .int .u64 1, .slice none 0 0]] w (RetWr n0 w b v (bs ++ [3] ++ [1])) := by
  have HW := Lib.hid hw
  clear hw
  go_enter Try.func34, Try.ntmps34
  go_wp2_with fail
  refine (oAbs true 1 _).mono ?_
  rintro e w2 ⟨rfl, hb⟩
  obtain ⟨hc, hf⟩ := bcell hb
  have hb2 : Below w.heap.size w w2 := (below_alloc (Below.refl _ _) _).trans (hb.mono (by simp))
  have hz : w.heap.size + 1 ≤ w2.heap.size := by have := hb.size; simp at this; omega
  have q0 : w2.cell? ⟨w.heap.size, 0, none⟩ = some (.bool true) := by simp [hc, go_sem]
  have q1 : w2.cell? ⟨w.heap.size, 1, none⟩ = some (.int .u64 1) := by simp [hc, go_sem]
  have q2 : w2.cell? ⟨w.heap.size, 2, none⟩ = some (.slice none 0 0) := by simp [hc, go_sem]
  have HB := Lib.hid hb2
  clear hb hb2 hc hf
  go_wp2_with fail
  refine (oBytes1 _).mono ?_
  rintro e w3 ⟨g, o, c, rfl, h1, h2, h3, h4, hb⟩
  have q0 := ocell' hb q0; have q1 := ocell' hb q1; have q2 := ocell' hb q2
  have HB := Lib.hid (below_step HB.out hb)
  have hz3 : w.heap.size + 1 ≤ w3.heap.size := by have := hb.size; omega
  have A3 := Lib.hid h3
  have hgz : w.heap.size + 1 ≤ g := by omega
  have H1 := Lib.hid h1
  clear hb h3 h4 h1
  go_wp2_with fail
  refine (oSignNeg 1 _).mono ?_
  rintro e w4 ⟨rfl, hb⟩
  have HB := Lib.hid (below_step HB.out hb)
  have A4 := Lib.hid (A3.out.mono hb)
  have HW4 := Lib.hid (HW.out.below HB.out)
  have hz4 : n0 ≤ w4.heap.size := by have := HB.out.size; omega
  have hbl : b < w.heap.size := HW.out.box.lt
  clear hb
  go_wp2_with fail
  refine (count_any n0 b 3 v bs w4 HW4.out hz4 (by omega) (by omega)).mono ?_
  rintro e w5 ⟨g5, c5, rfl, hw5, hs5⟩
  rw [varint_small (by omega)] at hw5 hs5
  have A5 := Lib.hid (hs5.at (g := g) (by omega) (fun e => by
    have h1 := (HW.out.row.lt g e.symm).2
    omega) A4.out)
  have HW5 := Lib.hid hw5
  have hz5 : n0 ≤ w5.heap.size := by have := hs5.size; omega
  have HS5 := Lib.hid ((WStep.of_below (v := v) (b := b) HB.out).trans hs5)
  clear hw5 hs5
  go_wp2_with fail
  refine (add_at n0 b g o 1 c _ _ [1] w5 HW5.out hz5 rfl A5.out (by decide) (by omega) (by simp; omega)).mono ?_
  rintro e w6 ⟨g6, c6, rfl, hw6, hs6⟩
  have HW6 := Lib.hid hw6
  have HS6 := Lib.hid (HS5.out.trans hs6)
  clear hw6 hs6
  go_wp2
  go_end0
  exact ⟨g6, c6, rfl, HW6.out, HS6.out⟩

set_option maxHeartbeats 1000000 in
/-- The examples. -/
theorem known4_any (w : World) : Calls Try.prog 10 #[] w fun e w' => e = .returned (.bool true) ∧ Below w.heap.size w w' := by
  go_enter Try.func10, Try.ntmps10
  go_wp2_with fail
  refine (newWriter_any _).mono ?_
  rintro e w1 ⟨hw1, rfl⟩
  have W1 := Lib.hid (WrV.new w)
  rw [← hw1] at W1
  have B1 := Lib.hid (show Below w.heap.size w w1 by rw [hw1]; exact below_alloc (Below.refl _ _) _)
  have hz1 : w.heap.size ≤ w1.heap.size := B1.out.size
  obtain ⟨n0, hn0⟩ : ∃ n0, n0 = w.heap.size := ⟨_, rfl⟩
  rw [← hn0] at W1 B1 hz1 ⊢
  have HN0 := Lib.hid hn0
  clear hw1 hn0
  go_wp2_with fail
  refine (count_any n0 n0 300 _ [] w1 W1.out hz1 (by simp) (by omega)).mono ?_
  rintro e w2 ⟨g2, c2, rfl, hw2, hs2⟩
  have hb2 := B1.out.trans (hs2.below W1.out hz1)
  have hz2 : n0 ≤ w2.heap.size := by have := hs2.size; omega
  have W2 := Lib.hid hw2; have B2 := Lib.hid hb2
  clear hw2 hs2 hb2
  go_wp2_with fail
  refine (oOfNeg _).mono ?_
  rintro e w3 ⟨rfl, hb3⟩
  have W3 := Lib.hid (W2.out.below hb3)
  have hz3 : n0 ≤ w3.heap.size := by have := hb3.size; omega
  have B3 := Lib.hid (B2.out.trans (hb3.mono hz2))
  clear hb3
  have hv : (varint 300).length = 2 := by rw [varint_big (by omega), varint_small (by omega)]; rfl
  go_wp2_with fail
  refine (oWholeNeg n0 n0 _ _ w3 W3.out hz3 (by rw [List.nil_append, hv]; omega)).mono ?_
  rintro e w4 ⟨g4, c4, rfl, hw4, hs4⟩
  have hb4 := B3.out.trans (hs4.below W3.out hz3)
  have hz4 : n0 ≤ w4.heap.size := by have := hs4.size; omega
  have hx : [] ++ varint 300 ++ [3] ++ [1] = [172, 2, 3, 1] := by rw [varint_big (by omega), varint_small (by omega)]; rfl
  rw [hx] at hw4
  have W4 := Lib.hid hw4; have B4 := Lib.hid hb4
  clear hw4 hs4 hb4 hx hv
  go_wp2_with fail
  refine (wBytes_any n0 n0 g4 4 c4 [172, 2, 3, 1] w4 W4.out rfl (by omega) (by omega)).mono ?_
  rintro e w5 h5
  obtain ⟨v5, rfl, ⟨p5, l5, c5, rfl, hs5⟩, hb5⟩ := retC_isS h5 (by decide)
  have hr := run_str hs5
  have hbs : (bstr [172, 2, 3, 1]).toList = [172, 2, 3, 1] := by rw [ByteArray.toList_eq]; rfl
  obtain ⟨s, hse⟩ : ∃ s, s = bstr [172, 2, 3, 1] := ⟨_, rfl⟩
  rw [← hse] at hr hbs
  have B5 := Lib.hid (B4.out.trans (hb5.mono hz4))
  clear hs5 hb5 hse h5
  go_wp2
  go_ret
  exact ⟨rfl, by rw [← HN0.out]; exact B5.out⟩
end Go.Proofs.Ytdmoiagliflecaa
