/- Quotients of the program's numbers. -/
import Derived.Test.YtfjjmhbffbhhdaaGreatDoorDivide
import Derived.Test.YtfjjmhbffbhhdaaGreatDoorDivS
namespace Go.Proofs.YtfjjmhbffbhhdaaGreatDoor
open Go.RowKit

theorem lt_of_pos {w : World} {s : Int} {p : Option Addr} {l c n : Nat} (h : IsN w s p l c n) (hl : 0 < l) : 2 ^ 64 ≤ n := by
  rcases h with ⟨_, _, _, h, _⟩ | ⟨h, _⟩
  · omega
  · exact h
theorem word_of {s : Int} {p : Option Addr} {l c n : Nat} {w : World} (h : IsN w s p l c n) (hl : l = 0) : s = (n : Int) ∧ p = none ∧ c = 0 ∧ n < 2 ^ 64 := by
  rcases h with ⟨h1, h2, h3, _, h4⟩ | ⟨h1, _, b, off, _, h2, _⟩
  · exact ⟨h2, h3, h4, h1⟩
  · have := ds_pos n; omega
theorem IsN.row {w : World} {s : Int} {p : Option Addr} {l c n : Nat} (h : IsN w s p l c n) (hl : 0 < l) : 2 ^ 64 ≤ n ∧ s = 0 ∧ ∃ b off, p = some ⟨b, off, none⟩ ∧ l = (ds n).length ∧ l ≤ c ∧ At w .u64 b off (ds n) := by
  rcases h with ⟨_, _, _, h, _⟩ | h
  · omega
  · exact h

set_option maxRecDepth 100000 in
set_option maxHeartbeats 4000000 in
theorem div_lt_s (s t : Int) (p q : Option Addr) (l c k d m n : Nat) (w : World) (hm2 : (ds m).length ≤ 281474976710656) (hlt : m < n) (hl : l = 0) (hk : 0 < k) (h1 : IsN w s p l c m) (h2 : IsN w t q k d n) :
    Calls Tryz.prog 45 #[.agg #[.int .u64 s, .slice p l c], .agg #[.int .u64 t, .slice q k d]] w (RetD w (m / n) (m % n)) := by
  subst hl
  have H1 := Lib.hid h1; have H2 := Lib.hid h2; have HLT := Lib.hid hlt
  clear h1 h2 hlt
  go_enter Tryz.func45, Tryz.ntmps45
  go_wp2_with fail
  refine (short_no _ _ _ _ hk _).mono ?_
  rintro e w1 ⟨rfl, hb1⟩
  obtain ⟨hc1, hf1⟩ := bcell hb1
  go_wp2_with fail
  refine (short_yes _ _ _ _).mono ?_
  rintro e w2 ⟨rfl, hb2⟩
  replace hb2 := below_step hb1 hb2
  obtain ⟨hc2, hf2⟩ := bcell hb2
  clear hc1 hf1
  go_wp2_with fail
  refine (short_no _ _ _ _ hk _).mono ?_
  rintro e w3 ⟨rfl, hb3⟩
  replace hb3 := below_step hb2 hb3
  obtain ⟨hc3, hf3⟩ := bcell hb3
  clear hc2 hf2
  skip
  go_wp2_with fail
  refine (cmp_any _ _ _ _ _ _ _ _ m n _ (H1.out.mono (by repeat' first | exact Below.refl _ _ | refine below_alloc ?_ _ | refine Below.drew ?_ | refine below_step ?_ (by assumption))) (H2.out.mono (by repeat' first | exact Below.refl _ _ | refine below_alloc ?_ _ | refine Below.drew ?_ | refine below_step ?_ (by assumption))) hm2).mono ?_
  rintro e w4 ⟨rfl, hb4⟩
  replace hb4 := below_step hb3 hb4
  obtain ⟨hc4, hf4⟩ := bcell hb4
  clear hc3 hf3
  skip
  rw [cmp3_lt (by exact_mod_cast HLT.out)]
  go_wp2_with fail
  have HBW : Below w.heap.size w w4 := (by repeat' first | exact Below.refl _ _ | refine below_alloc ?_ _ | refine Below.drew ?_ | refine below_step ?_ (by assumption))
  have hN : w.heap.size + 1 + 1 + 1 + 1 ≤ w4.heap.size := by have := hb4.size; simp at this; omega
  obtain ⟨g, hg⟩ : ∃ g, g = w.heap.size := ⟨_, rfl⟩
  have q0 : w4.cell? ⟨g, 0, none⟩ = some (.int .u64 s) := by simp [hg, hc4, go_sem]
  have q1 : w4.cell? ⟨g, 1, none⟩ = some (.slice p 0 c) := by simp [hg, hc4, go_sem]
  have q2 : w4.cell? ⟨g + 1, 0, none⟩ = some (.int .u64 t) := by simp [hg, hc4, go_sem]
  have q3 : w4.cell? ⟨g + 1, 1, none⟩ = some (.slice q k d) := by simp [hg, hc4, go_sem]
  have r0 : w4.cell? ⟨g + 1 + 1, 0, none⟩ = some (.int .u64 0) := by simp [hg, hc4, go_sem]
  have r1 : w4.cell? ⟨g + 1 + 1, 1, none⟩ = some (.slice none 0 0) := by simp [hg, hc4, go_sem]
  have r2 : w4.cell? ⟨g + 1 + 1 + 1, 0, none⟩ = some (.int .u64 0) := by simp [hg, hc4, go_sem]
  have r3 : w4.cell? ⟨g + 1 + 1 + 1, 1, none⟩ = some (.slice none 0 0) := by simp [hg, hc4, go_sem]
  have f0 : w4.frozen? ⟨g + 1 + 1, 0, none⟩ = false := by simp [hg, hf4, go_sem]
  have f1 : w4.frozen? ⟨g + 1 + 1, 1, none⟩ = false := by simp [hg, hf4, go_sem]
  have f2 : w4.frozen? ⟨g + 1 + 1 + 1, 0, none⟩ = false := by simp [hg, hf4, go_sem]
  have f3 : w4.frozen? ⟨g + 1 + 1 + 1, 1, none⟩ = false := by simp [hg, hf4, go_sem]
  have HG := Lib.hid hg
  have HBB := Lib.hid HBW
  rw [← hg] at hN ⊢
  clear hb1 hb2 hb3 hb4 hc4 hf4 hg HBW
  have N1 := Lib.hid (H1.out.mono HBB.out)
  generalize w4 = W at *
  go_big_region
  go_wp2
  rw [Nat.div_eq_of_lt HLT.out, Nat.mod_eq_of_lt HLT.out]
  have hg := HG.out
  exact bodyPost_ret (v := .tuple #[.agg #[.int .u64 0, .slice none 0 0], .agg #[.int .u64 s, .slice p 0 c], .bool true]) (by simp [results, Tryz.results45, go_sem, r0, r1, r2, r3]) rfl
    ⟨_, _, _, _, _, _, _, _, rfl, Or.inl ⟨by omega, rfl, rfl, rfl, rfl⟩, ((N1.out.box r1).box (q := none) (k := 0) (d := 0) (by simp [go_sem, r3])).mono (Below.refl _ _).drew, (by repeat' first | exact HBB.out | refine Below.drew ?_ | (refine Below.setCell ?_ (by simp; omega) _))⟩

set_option maxRecDepth 100000 in
set_option maxHeartbeats 4000000 in
theorem div_lt_l (s t : Int) (p q : Option Addr) (l c k d m n : Nat) (w : World) (hm2 : (ds m).length ≤ 281474976710656) (hlt : m < n) (hl : 0 < l) (hk : 0 < k) (h1 : IsN w s p l c m) (h2 : IsN w t q k d n) :
    Calls Tryz.prog 45 #[.agg #[.int .u64 s, .slice p l c], .agg #[.int .u64 t, .slice q k d]] w (RetD w (m / n) (m % n)) := by
  have H1 := Lib.hid h1; have H2 := Lib.hid h2; have HLT := Lib.hid hlt
  clear h1 h2 hlt
  go_enter Tryz.func45, Tryz.ntmps45
  go_wp2_with fail
  refine (short_no _ _ _ _ hk _).mono ?_
  rintro e w1 ⟨rfl, hb1⟩
  obtain ⟨hc1, hf1⟩ := bcell hb1
  go_wp2_with fail
  refine (short_no _ _ _ _ hl _).mono ?_
  rintro e w2 ⟨rfl, hb2⟩
  replace hb2 := below_step hb1 hb2
  obtain ⟨hc2, hf2⟩ := bcell hb2
  clear hc1 hf1
  go_wp2_with fail
  refine (cmp_any _ _ _ _ _ _ _ _ m n _ (H1.out.mono (by repeat' first | exact Below.refl _ _ | refine below_alloc ?_ _ | refine Below.drew ?_ | refine below_step ?_ (by assumption))) (H2.out.mono (by repeat' first | exact Below.refl _ _ | refine below_alloc ?_ _ | refine Below.drew ?_ | refine below_step ?_ (by assumption))) hm2).mono ?_
  rintro e w3 ⟨rfl, hb3⟩
  replace hb3 := below_step hb2 hb3
  obtain ⟨hc3, hf3⟩ := bcell hb3
  clear hc2 hf2
  skip
  rw [cmp3_lt (by exact_mod_cast HLT.out)]
  go_wp2_with fail
  have HBW : Below w.heap.size w w3 := (by repeat' first | exact Below.refl _ _ | refine below_alloc ?_ _ | refine Below.drew ?_ | refine below_step ?_ (by assumption))
  have hN : w.heap.size + 1 + 1 + 1 + 1 ≤ w3.heap.size := by have := hb3.size; simp at this; omega
  obtain ⟨g, hg⟩ : ∃ g, g = w.heap.size := ⟨_, rfl⟩
  have q0 : w3.cell? ⟨g, 0, none⟩ = some (.int .u64 s) := by simp [hg, hc3, go_sem]
  have q1 : w3.cell? ⟨g, 1, none⟩ = some (.slice p l c) := by simp [hg, hc3, go_sem]
  have q2 : w3.cell? ⟨g + 1, 0, none⟩ = some (.int .u64 t) := by simp [hg, hc3, go_sem]
  have q3 : w3.cell? ⟨g + 1, 1, none⟩ = some (.slice q k d) := by simp [hg, hc3, go_sem]
  have r0 : w3.cell? ⟨g + 1 + 1, 0, none⟩ = some (.int .u64 0) := by simp [hg, hc3, go_sem]
  have r1 : w3.cell? ⟨g + 1 + 1, 1, none⟩ = some (.slice none 0 0) := by simp [hg, hc3, go_sem]
  have r2 : w3.cell? ⟨g + 1 + 1 + 1, 0, none⟩ = some (.int .u64 0) := by simp [hg, hc3, go_sem]
  have r3 : w3.cell? ⟨g + 1 + 1 + 1, 1, none⟩ = some (.slice none 0 0) := by simp [hg, hc3, go_sem]
  have f0 : w3.frozen? ⟨g + 1 + 1, 0, none⟩ = false := by simp [hg, hf3, go_sem]
  have f1 : w3.frozen? ⟨g + 1 + 1, 1, none⟩ = false := by simp [hg, hf3, go_sem]
  have f2 : w3.frozen? ⟨g + 1 + 1 + 1, 0, none⟩ = false := by simp [hg, hf3, go_sem]
  have f3 : w3.frozen? ⟨g + 1 + 1 + 1, 1, none⟩ = false := by simp [hg, hf3, go_sem]
  have HG := Lib.hid hg
  have HBB := Lib.hid HBW
  rw [← hg] at hN ⊢
  clear hb1 hb2 hb3 hc3 hf3 hg HBW
  have N1 := Lib.hid (H1.out.mono HBB.out)
  generalize w3 = W at *
  go_big_region
  go_wp2
  rw [Nat.div_eq_of_lt HLT.out, Nat.mod_eq_of_lt HLT.out]
  have hg := HG.out
  exact bodyPost_ret (v := .tuple #[.agg #[.int .u64 0, .slice none 0 0], .agg #[.int .u64 s, .slice p l c], .bool true]) (by simp [results, Tryz.results45, go_sem, r0, r1, r2, r3]) rfl
    ⟨_, _, _, _, _, _, _, _, rfl, Or.inl ⟨by omega, rfl, rfl, rfl, rfl⟩, ((N1.out.box r1).box (q := none) (k := 0) (d := 0) (by simp [go_sem, r3])).mono (Below.refl _ _).drew, (by repeat' first | exact HBB.out | refine Below.drew ?_ | (refine Below.setCell ?_ (by simp; omega) _))⟩

set_option maxRecDepth 100000 in
set_option maxHeartbeats 4000000 in
theorem div_ge_l (s t : Int) (p q : Option Addr) (l c k d m n : Nat) (w : World) (hm2 : (ds m).length ≤ 1000000) (hle : n ≤ m) (hl : 0 < l) (hk : 0 < k) (h1 : IsN w s p l c m) (h2 : IsN w t q k d n) :
    Calls Tryz.prog 45 #[.agg #[.int .u64 s, .slice p l c], .agg #[.int .u64 t, .slice q k d]] w (RetD w (m / n) (m % n)) := by
  have hml := hm2
  obtain ⟨hm64, rfl, b, off, rfl, hl2, hlc, ha⟩ := h1.row hl
  obtain ⟨hn64, rfl, b2, off2, rfl, hk2, hkd, ha2⟩ := h2.row hk
  have h0 : 0 ≤ cmp3 m n := by unfold cmp3; rw [if_neg (by omega)]; split <;> omega
  have HDV := Lib.hid (fun W a1 a2 => divide_any b off c b2 off2 d l k (ds m) (ds n) W hl2.symm hk2.symm (ds_lt m) (ds_lt n) (by rw [hk2]; exact ds_two hn64) (by rw [hl2, hk2]; exact ds_mono hle) (by omega) (by rw [hk2]; exact ds_last (by omega)) a1 a2)
  rw [val_ds, val_ds] at HDV
  have HA := Lib.hid ha; have HA2 := Lib.hid ha2
  have H1 := Lib.hid h1; have H2 := Lib.hid h2
  clear h1 h2 ha ha2 hm64 hn64 hl2 hk2 hle
  go_enter Tryz.func45, Tryz.ntmps45
  go_wp2_with fail
  refine (short_no _ _ _ _ hk _).mono ?_
  rintro e w1 ⟨rfl, hb1⟩
  obtain ⟨hc1, hf1⟩ := bcell hb1
  go_wp2_with fail
  refine (short_no _ _ _ _ hl _).mono ?_
  rintro e w2 ⟨rfl, hb2⟩
  replace hb2 := below_step hb1 hb2
  obtain ⟨hc2, hf2⟩ := bcell hb2
  clear hc1 hf1
  go_wp2_with fail
  refine (cmp_any _ _ _ _ _ _ _ _ m n _ (H1.out.mono (by repeat' first | exact Below.refl _ _ | refine below_alloc ?_ _ | refine Below.drew ?_ | refine below_step ?_ (by assumption))) (H2.out.mono (by repeat' first | exact Below.refl _ _ | refine below_alloc ?_ _ | refine Below.drew ?_ | refine below_step ?_ (by assumption))) (by omega)).mono ?_
  rintro e w3 ⟨rfl, hb3⟩
  replace hb3 := below_step hb2 hb3
  obtain ⟨hc3, hf3⟩ := bcell hb3
  clear hc2 hf2
  skip
  go_wp2_with fail
  have HBW : Below w.heap.size w w3 := (by repeat' first | exact Below.refl _ _ | refine below_alloc ?_ _ | refine Below.drew ?_ | refine below_step ?_ (by assumption))
  have hN : w.heap.size + 1 + 1 + 1 + 1 ≤ w3.heap.size := by have := hb3.size; simp at this; omega
  obtain ⟨g, hg⟩ : ∃ g, g = w.heap.size := ⟨_, rfl⟩
  have q0 : w3.cell? ⟨g, 0, none⟩ = some (.int .u64 0) := by simp [hg, hc3, go_sem]
  have q1 : w3.cell? ⟨g, 1, none⟩ = some (.slice (some ⟨b, off, none⟩) l c) := by simp [hg, hc3, go_sem]
  have q2 : w3.cell? ⟨g + 1, 0, none⟩ = some (.int .u64 0) := by simp [hg, hc3, go_sem]
  have q3 : w3.cell? ⟨g + 1, 1, none⟩ = some (.slice (some ⟨b2, off2, none⟩) k d) := by simp [hg, hc3, go_sem]
  have r0 : w3.cell? ⟨g + 1 + 1, 0, none⟩ = some (.int .u64 0) := by simp [hg, hc3, go_sem]
  have r1 : w3.cell? ⟨g + 1 + 1, 1, none⟩ = some (.slice none 0 0) := by simp [hg, hc3, go_sem]
  have r2 : w3.cell? ⟨g + 1 + 1 + 1, 0, none⟩ = some (.int .u64 0) := by simp [hg, hc3, go_sem]
  have r3 : w3.cell? ⟨g + 1 + 1 + 1, 1, none⟩ = some (.slice none 0 0) := by simp [hg, hc3, go_sem]
  have f0 : w3.frozen? ⟨g + 1 + 1, 0, none⟩ = false := by simp [hg, hf3, go_sem]
  have f1 : w3.frozen? ⟨g + 1 + 1, 1, none⟩ = false := by simp [hg, hf3, go_sem]
  have f2 : w3.frozen? ⟨g + 1 + 1 + 1, 0, none⟩ = false := by simp [hg, hf3, go_sem]
  have f3 : w3.frozen? ⟨g + 1 + 1 + 1, 1, none⟩ = false := by simp [hg, hf3, go_sem]
  have HG := Lib.hid hg
  have HBB := Lib.hid HBW
  rw [← hg] at hN ⊢
  clear hb1 hb2 hb3 hc3 hf3 hg HBW
  have HA := Lib.hid (HA.out.mono HBB.out); have HA2 := Lib.hid (HA2.out.mono HBB.out)
  generalize w3 = W at *
  clear H1 H2
  go_wp2_with fail
  refine (short_no _ _ _ _ hk _).mono ?_
  rintro e W1 ⟨rfl, HX⟩
  have HA := Lib.hid (HA.out.mono HX); have HA2 := Lib.hid (HA2.out.mono HX)
  have q0 := wcell HX q0; have q1 := wcell HX q1; have q2 := wcell HX q2; have q3 := wcell HX q3
  have f0 := wfree HX r0 f0; have f1 := wfree HX r1 f1; have f2 := wfree HX r2 f2; have f3 := wfree HX r3 f3
  have r0 := wcell HX r0; have r1 := wcell HX r1; have r2 := wcell HX r2; have r3 := wcell HX r3
  have hN := Nat.le_trans hN HX.size
  have HBB := Lib.hid (below_step HBB.out HX)
  clear HX h0
  go_wp2_with fail
  refine (HDV.out _ HA.out HA2.out).mono ?_
  rintro e W2 ⟨bq, lq, cq, zs, br, ofr, kr, dr, rs, rfl, e1, e2, e3, e4, e5, e6, e7, e8, e9, e10, e11, e12, HX⟩
  have Z1 := Lib.hid e1; have Z4 := Lib.hid e4; have Z5 := Lib.hid e5; have Z6 := Lib.hid e6; have Z7 := Lib.hid e7; have Z9 := Lib.hid e9; have Z10 := Lib.hid e10; have Z12 := Lib.hid e12
  have L3 := Lib.hid e3; have L8 := Lib.hid e8; have L2 := Lib.hid e2; have L11 := Lib.hid e11
  have q0 := wcell HX q0; have q1 := wcell HX q1; have q2 := wcell HX q2; have q3 := wcell HX q3
  have f0 := wfree HX r0 f0; have f1 := wfree HX r1 f1; have f2 := wfree HX r2 f2; have f3 := wfree HX r3 f3
  have r0 := wcell HX r0; have r1 := wcell HX r1; have r2 := wcell HX r2; have r3 := wcell HX r3
  have hN := Nat.le_trans hN HX.size
  have HBB := Lib.hid (below_step HBB.out HX)
  clear HX e1 e2 e3 e4 e5 e6 e7 e8 e9 e10 e11 e12 HDV HA HA2
  go_wp2_with fail
  refine (ofWords_any bq 0 cq lq zs Z1.out _ Z6.out Z4.out (by have := L3.out; omega) L2.out).mono ?_
  rintro e W3 ⟨s1, p1, l1, c1, rfl, n1, HX⟩
  rw [Z5.out] at n1
  have N1 := Lib.hid n1
  have Z12 := Lib.hid (Z12.out.mono HX)
  have q0 := wcell HX q0; have q1 := wcell HX q1; have q2 := wcell HX q2; have q3 := wcell HX q3
  have f0 := wfree HX r0 f0; have f1 := wfree HX r1 f1; have f2 := wfree HX r2 f2; have f3 := wfree HX r3 f3
  have r0 := wcell HX r0; have r1 := wcell HX r1; have r2 := wcell HX r2; have r3 := wcell HX r3
  have hN := Nat.le_trans hN HX.size
  have HBB := Lib.hid (below_step HBB.out HX)
  clear HX n1 Z1 Z4 Z5 Z6
  go_wp2_with fail
  refine (ofWords_any br ofr dr kr rs Z7.out _ Z12.out Z9.out (by have := L8.out; omega) L11.out).mono ?_
  rintro e W4 ⟨s2, p2, l2, c2, rfl, n2, HX⟩
  rw [Z10.out] at n2
  have N2 := Lib.hid n2
  have N1 := Lib.hid (N1.out.mono HX)
  have q0 := wcell HX q0; have q1 := wcell HX q1; have q2 := wcell HX q2; have q3 := wcell HX q3
  have f0 := wfree HX r0 f0; have f1 := wfree HX r1 f1; have f2 := wfree HX r2 f2; have f3 := wfree HX r3 f3
  have r0 := wcell HX r0; have r1 := wcell HX r1; have r2 := wcell HX r2; have r3 := wcell HX r3
  have hN := Nat.le_trans hN HX.size
  have HBB := Lib.hid (below_step HBB.out HX)
  clear HX n2 Z7 Z9 Z10 Z12
  go_wp2
  have hg := HG.out
  exact bodyPost_ret (v := .tuple #[.agg #[.int .u64 s1, .slice p1 l1 c1], .agg #[.int .u64 s2, .slice p2 l2 c2], .bool true]) (by simp [results, Tryz.results45, go_sem, r0, r1, r2, r3]) rfl
    ⟨_, _, _, _, _, _, _, _, rfl, (N1.out.box r1).box (q := none) (k := 0) (d := 0) (by simp [go_sem, r3]), (N2.out.box r1).box (q := none) (k := 0) (d := 0) (by simp [go_sem, r3]), (by repeat' first | exact HBB.out | refine Below.drew ?_ | (refine Below.setCell ?_ (by simp; omega) _))⟩

set_option maxRecDepth 100000 in
set_option maxHeartbeats 4000000 in
theorem div_word (s t : Int) (p q : Option Addr) (l c k d m n : Nat) (w : World) (hm2 : (ds m).length ≤ 1000000) (hn : 0 < n) (hl : 0 < l) (hk : k = 0) (h1 : IsN w s p l c m) (h2 : IsN w t q k d n) :
    Calls Tryz.prog 45 #[.agg #[.int .u64 s, .slice p l c], .agg #[.int .u64 t, .slice q k d]] w (RetD w (m / n) (m % n)) := by
  obtain ⟨hm64, rfl, b, off, rfl, hl2, hlc, ha⟩ := h1.row hl
  obtain ⟨rfl, rfl, rfl, hn64⟩ := word_of h2 hk
  subst hk
  have h0 : 0 ≤ cmp3 m n := by unfold cmp3; rw [if_neg (by omega)]; split <;> omega
  have d0 : ((n : Int) == 0) = false := beq_eq_false_iff_ne.2 (by omega)
  have hll : l ≤ 1000000 := by omega
  have HCL := Lib.hid (fun W a1 => clone_any b off c l (ds m) W hl2.symm hll a1)
  have HDW := Lib.hid (fun W g o cc a1 a2 => divByWord_any g o cc l n (ds m) W hl2.symm hl hll hn hn64 a1 a2 (ds_lt m))
  rw [val_ds] at HDW
  have HA := Lib.hid ha; have HL2 := Lib.hid hl2; have HLL := Lib.hid hll; have HNN := Lib.hid (show m % n < 2 ^ 64 from Nat.lt_trans (Nat.mod_lt _ hn) hn64)
  have H1 := Lib.hid h1; have H2 := Lib.hid h2; have HM2 := Lib.hid (show (ds m).length ≤ 281474976710656 by omega)
  clear h1 h2 ha hm64 hn64 hl2 hm2 hn hll
  go_enter Tryz.func45, Tryz.ntmps45
  go_wp2_with fail
  refine (short_yes _ _ _ _).mono ?_
  rintro e w1 ⟨rfl, hb1⟩
  obtain ⟨hc1, hf1⟩ := bcell hb1
  go_wp2_with fail
  refine (short_no _ _ _ _ hl _).mono ?_
  rintro e w2 ⟨rfl, hb2⟩
  replace hb2 := below_step hb1 hb2
  obtain ⟨hc2, hf2⟩ := bcell hb2
  clear hc1 hf1
  go_wp2_with fail
  refine (cmp_any _ _ _ _ _ _ _ _ m n _ (H1.out.mono (by repeat' first | exact Below.refl _ _ | refine below_alloc ?_ _ | refine Below.drew ?_ | refine below_step ?_ (by assumption))) (H2.out.mono (by repeat' first | exact Below.refl _ _ | refine below_alloc ?_ _ | refine Below.drew ?_ | refine below_step ?_ (by assumption))) HM2.out).mono ?_
  rintro e w3 ⟨rfl, hb3⟩
  replace hb3 := below_step hb2 hb3
  obtain ⟨hc3, hf3⟩ := bcell hb3
  clear hc2 hf2
  skip
  go_wp2_with fail
  have HBW : Below w.heap.size w w3 := (by repeat' first | exact Below.refl _ _ | refine below_alloc ?_ _ | refine Below.drew ?_ | refine below_step ?_ (by assumption))
  have hN : w.heap.size + 1 + 1 + 1 + 1 ≤ w3.heap.size := by have := hb3.size; simp at this; omega
  obtain ⟨g, hg⟩ : ∃ g, g = w.heap.size := ⟨_, rfl⟩
  have q0 : w3.cell? ⟨g, 0, none⟩ = some (.int .u64 0) := by simp [hg, hc3, go_sem]
  have q1 : w3.cell? ⟨g, 1, none⟩ = some (.slice (some ⟨b, off, none⟩) l c) := by simp [hg, hc3, go_sem]
  have q2 : w3.cell? ⟨g + 1, 0, none⟩ = some (.int .u64 (n : Int)) := by simp [hg, hc3, go_sem]
  have q3 : w3.cell? ⟨g + 1, 1, none⟩ = some (.slice none 0 0) := by simp [hg, hc3, go_sem]
  have r0 : w3.cell? ⟨g + 1 + 1, 0, none⟩ = some (.int .u64 0) := by simp [hg, hc3, go_sem]
  have r1 : w3.cell? ⟨g + 1 + 1, 1, none⟩ = some (.slice none 0 0) := by simp [hg, hc3, go_sem]
  have r2 : w3.cell? ⟨g + 1 + 1 + 1, 0, none⟩ = some (.int .u64 0) := by simp [hg, hc3, go_sem]
  have r3 : w3.cell? ⟨g + 1 + 1 + 1, 1, none⟩ = some (.slice none 0 0) := by simp [hg, hc3, go_sem]
  have f0 : w3.frozen? ⟨g + 1 + 1, 0, none⟩ = false := by simp [hg, hf3, go_sem]
  have f1 : w3.frozen? ⟨g + 1 + 1, 1, none⟩ = false := by simp [hg, hf3, go_sem]
  have f2 : w3.frozen? ⟨g + 1 + 1 + 1, 0, none⟩ = false := by simp [hg, hf3, go_sem]
  have f3 : w3.frozen? ⟨g + 1 + 1 + 1, 1, none⟩ = false := by simp [hg, hf3, go_sem]
  have HG := Lib.hid hg
  have HBB := Lib.hid HBW
  rw [← hg] at hN ⊢
  clear hb1 hb2 hb3 hc3 hf3 hg HBW
  have HA := Lib.hid (HA.out.mono HBB.out)
  generalize w3 = W at *
  clear H1 H2
  go_wp2_with fail
  refine (short_yes _ _ _ _).mono ?_
  rintro e W1 ⟨rfl, HX⟩
  have HA := Lib.hid (HA.out.mono HX)
  have q0 := wcell HX q0; have q1 := wcell HX q1; have q2 := wcell HX q2; have q3 := wcell HX q3
  have f0 := wfree HX r0 f0; have f1 := wfree HX r1 f1; have f2 := wfree HX r2 f2; have f3 := wfree HX r3 f3
  have r0 := wcell HX r0; have r1 := wcell HX r1; have r2 := wcell HX r2; have r3 := wcell HX r3
  have hN := Nat.le_trans hN HX.size
  have HBB := Lib.hid (below_step HBB.out HX)
  clear HX h0
  go_wp2_with fail
  refine (HCL.out _ HA.out).mono ?_
  rintro e W2 ⟨gc, oc, cc, rfl, e1, e2, e3, e4, HX⟩
  rw [← HL2.out] at e1 e4 ⊢
  have L1 := Lib.hid e1; have L2 := Lib.hid e2; have A3 := Lib.hid e3; have F3 := Lib.hid e4
  have hNc : g + 1 + 1 + 1 + 1 ≤ gc := Nat.le_trans hN e2
  have q0 := wcell HX q0; have q1 := wcell HX q1; have q2 := wcell HX q2; have q3 := wcell HX q3
  have f0 := wfree HX r0 f0; have f1 := wfree HX r1 f1; have f2 := wfree HX r2 f2; have f3 := wfree HX r3 f3
  have r0 := wcell HX r0; have r1 := wcell HX r1; have r2 := wcell HX r2; have r3 := wcell HX r3
  have hN := Nat.le_trans hN HX.size
  have HBB := Lib.hid (below_step HBB.out HX)
  clear HX e1 e2 e3 e4 HCL HA
  go_wp2_with fail
  refine (HDW.out _ _ _ _ A3.out F3.out).mono ?_
  rintro e W3 ⟨ws, r, rfl, e1, e2, e3, e4, e5, e6⟩
  have HX := e6.below (B := g + 1 + 1 + 1 + 1) hNc hN
  have hN3 := Nat.le_trans hN HX.size
  have q0 := (HX.cell (p := ⟨g, 0, none⟩) (by simp <;> omega)).trans q0; have q1 := (HX.cell (p := ⟨g, 1, none⟩) (by simp <;> omega)).trans q1
  have f0 := (HX.frozen (p := ⟨g + 1 + 1, 0, none⟩) (by simp)).trans f0; have f1 := (HX.frozen (p := ⟨g + 1 + 1, 1, none⟩) (by simp)).trans f1
  have f2 := (HX.frozen (p := ⟨g + 1 + 1 + 1, 0, none⟩) (by simp)).trans f2; have f3 := (HX.frozen (p := ⟨g + 1 + 1 + 1, 1, none⟩) (by simp)).trans f3
  have q2 := (HX.cell (p := ⟨g + 1, 0, none⟩) (by simp <;> omega)).trans q2; have q3 := (HX.cell (p := ⟨g + 1, 1, none⟩) (by simp <;> omega)).trans q3
  have r0 := (HX.cell (p := ⟨g + 1 + 1, 0, none⟩) (by simp)).trans r0; have r1 := (HX.cell (p := ⟨g + 1 + 1, 1, none⟩) (by simp)).trans r1
  have r2 := (HX.cell (p := ⟨g + 1 + 1 + 1, 0, none⟩) (by simp)).trans r2; have r3 := (HX.cell (p := ⟨g + 1 + 1 + 1, 1, none⟩) (by simp)).trans r3
  have HBB := Lib.hid (HBB.out.trans (e6.below (B := w.heap.size) (by have := HG.out; omega) HBB.out.size))
  have hN := hN3
  have E1 := Lib.hid e1; have E2 := Lib.hid e2; have E3 := Lib.hid e3; have E4 := Lib.hid e4; have E5 := Lib.hid e5
  clear HX e1 e2 e3 e4 e5 e6 HDW A3 F3
  go_wp2_with fail
  refine (ofWords_any gc oc cc l ws E2.out _ E5.out E3.out (by have := HLL.out; omega) L1.out).mono ?_
  rintro e W4 ⟨s1, p1, l1, c1, rfl, n1, HX⟩
  rw [E4.out] at n1
  have N1 := Lib.hid n1
  have q0 := wcell HX q0; have q1 := wcell HX q1; have q2 := wcell HX q2; have q3 := wcell HX q3
  have f0 := wfree HX r0 f0; have f1 := wfree HX r1 f1; have f2 := wfree HX r2 f2; have f3 := wfree HX r3 f3
  have r0 := wcell HX r0; have r1 := wcell HX r1; have r2 := wcell HX r2; have r3 := wcell HX r3
  have hN := Nat.le_trans hN HX.size
  have HBB := Lib.hid (below_step HBB.out HX)
  clear HX n1 E2 E3 E4 E5
  go_wp2_with fail
  refine (of_any _ _).mono ?_
  rintro e W5 ⟨rfl, HX⟩
  have N1 := Lib.hid (N1.out.mono HX)
  have q0 := wcell HX q0; have q1 := wcell HX q1; have q2 := wcell HX q2; have q3 := wcell HX q3
  have f0 := wfree HX r0 f0; have f1 := wfree HX r1 f1; have f2 := wfree HX r2 f2; have f3 := wfree HX r3 f3
  have r0 := wcell HX r0; have r1 := wcell HX r1; have r2 := wcell HX r2; have r3 := wcell HX r3
  have hN := Nat.le_trans hN HX.size
  have HBB := Lib.hid (below_step HBB.out HX)
  clear HX
  go_wp2
  have hg := HG.out
  have er := E1.out
  have hr := HNN.out
  rw [← er] at hr ⊢
  exact bodyPost_ret (v := .tuple #[.agg #[.int .u64 s1, .slice p1 l1 c1], .agg #[.int .u64 (r : Int), .slice none 0 0], .bool true]) (by simp [results, Tryz.results45, go_sem, r0, r1, r2, r3]) rfl
    ⟨_, _, _, _, _, _, _, _, rfl, (N1.out.box r1).box (q := none) (k := 0) (d := 0) (by simp [go_sem, r3]), .short hr, (by repeat' first | exact HBB.out | refine Below.drew ?_ | (refine Below.setCell ?_ (by simp; omega) _))⟩

theorem div_any (s t : Int) (p q : Option Addr) (l c k d m n : Nat) (w : World) (hm : (ds m).length ≤ 1000000) (hn : 0 < n) (h1 : IsN w s p l c m) (h2 : IsN w t q k d n) :
    Calls Tryz.prog 45 #[.agg #[.int .u64 s, .slice p l c], .agg #[.int .u64 t, .slice q k d]] w (RetD w (m / n) (m % n)) := by
  rcases Nat.eq_zero_or_pos k with hk | hk
  · rcases Nat.eq_zero_or_pos l with hl | hl
    · obtain ⟨rfl, rfl, rfl, hm2⟩ := word_of h1 hl
      obtain ⟨rfl, rfl, rfl, hn2⟩ := word_of h2 hk
      subst hl; subst hk
      exact div_ss m n hm2 hn2 hn w
    · exact div_word s t p q l c k d m n w hm hn hl hk h1 h2
  · rcases Nat.lt_or_ge m n with h | h
    · rcases Nat.eq_zero_or_pos l with hl | hl
      · exact div_lt_s s t p q l c k d m n w (by omega) h hl hk h1 h2
      · exact div_lt_l s t p q l c k d m n w (by omega) h hl hk h1 h2
    · rcases Nat.eq_zero_or_pos l with hl | hl
      · exfalso
        have h3 := lt_of_pos h2 hk
        obtain ⟨_, _, _, hm2⟩ := word_of h1 hl
        omega
      · exact div_ge_l s t p q l c k d m n w hm h hl hk h1 h2
end Go.Proofs.YtfjjmhbffbhhdaaGreatDoor
