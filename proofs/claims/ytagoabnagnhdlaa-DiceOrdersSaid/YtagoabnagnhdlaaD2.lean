/- Forks: the law's walk. -/
import Derived.Test.YtagoabnagnhdlaaD1
namespace Go.Proofs.Ytagoabnagnhdlaa
open Go.RowKit

theorem dk1 : dstep 0 = 11400714819323198485 := by decide +kernel
theorem dk2 : dmix (dstep 0) = 16294208416658607535 := by decide +kernel

set_option maxRecDepth 100000 in
set_option maxHeartbeats 1000000 in
theorem known5_any (w : World) : Calls Try.prog 6 #[] w fun e w' => e = .returned (.bool true) ∧ Below w.heap.size w w' := by
  go_enter Try.func6, Try.ntmps6
  go_wp2_with fail
  refine (dNew_any 0 w).mono ?_
  rintro e w1 ⟨rfl, hw1⟩
  have H1 := Lib.hid (show IsD w1 w.heap.size 0 from by rw [hw1]; exact IsD.made w (by decide))
  have B1 := Lib.hid (show Below w.heap.size w w1 from by rw [hw1]; exact below_alloc (Below.refl _ _) _)
  clear hw1
  go_wp2_with fail
  refine (dNext_any w.heap.size 0 w1 H1.out).mono ?_
  rintro e w2 ⟨rfl, hw2⟩
  have D2 := Lib.hid (show IsD w2 w.heap.size (dstep 0) from by rw [hw2]; exact H1.out.put (dstep_lt 0))
  have B2 := Lib.hid (show Below w.heap.size w w2 from by rw [hw2]; exact B1.out.setCell (by simp) _)
  clear hw2
  rw [dk2]
  go_wp2_with fail
  refine (dState_any w.heap.size (dstep 0) w2 D2.out).mono ?_
  rintro e w3 ⟨rfl, rfl⟩
  rw [dk1]
  go_wp2
  go_ret
  exact ⟨rfl, B2.out⟩

theorem beq_nat (a b : Nat) : ((a : Int) == (b : Int)) = decide (a = b) := by
  by_cases h : a = b
  · subst h; rw [decide_eq_true rfl]; exact beq_self_eq_true _
  · rw [decide_eq_false h]; exact beq_eq_false_iff_ne.2 (by omega)
theorem IsD.at {w : World} {b s t : Nat} (h : IsD w b s) (e : s = t) : IsD w b t := e ▸ h
theorem Drawn.at {w w' : World} {b s t : Nat} (h : Drawn w w' b s) (e : s = t) : Drawn w w' b t := e ▸ h
set_option maxRecDepth 100000 in
set_option maxHeartbeats 2000000 in
/-- The walk of the law on forks. -/
theorem forksLaw (q : Nat) (s t : ByteArray) (w : World) (hq : q < 18446744073709551616) (hs : s.size ≤ 9223372036854775807) (ht : t.size ≤ 9223372036854775807) :
    Calls Try.prog 4 #[.int .u64 (q : Int), .string s, .string t] w fun e w' => e = .returned (.bool true) ∧ Below w.heap.size w w' := by
  obtain ⟨f1, hf1⟩ : ∃ f, f = fnv (bytesOf s) := ⟨_, rfl⟩
  obtain ⟨f2, hf2⟩ : ∃ f, f = fnv (bytesOf t) := ⟨_, rfl⟩
  obtain ⟨n, hn⟩ : ∃ n, n = dmix (dstep q) := ⟨_, rfl⟩
  obtain ⟨u, hu⟩ : ∃ u, u = dstep q := ⟨_, rfl⟩
  have hn1 : n < 18446744073709551616 := by rw [hn]; exact dmix_lt _
  have hl1 : f1 < 18446744073709551616 := by rw [hf1]; exact fnv_lt _
  have hl2 : f2 < 18446744073709551616 := by rw [hf2]; exact fnv_lt _
  have F1 := Lib.hid (fun W b h => dFork_any b q s W h hs)
  have F2 := Lib.hid (fun W b h => dFork_any b q t W h ht)
  have N1 := Lib.hid (fun W b h => dNext_any b q W h)
  have S1 := Lib.hid (fun p l c W h => sum_any p l c (bytesOf s) W h)
  have S2 := Lib.hid (fun p l c W h => sum_any p l c (bytesOf t) W h)
  have B1 := Lib.hid (fun W => bytes_laid W s); have B2 := Lib.hid (fun W => bytes_laid W t)
  have R1 := Lib.hid (fun W => run_bytes W s); have R2 := Lib.hid (fun W => run_bytes W t)
  rw [← hf1, ← hn, ← hu] at F1
  rw [← hf2, ← hn, ← hu] at F2
  rw [← hn, ← hu] at N1
  rw [← hf1] at S1
  rw [← hf2] at S2
  have hx1 := u64_xor_nat n f1 hn1 hl1
  obtain ⟨x1, hx1e⟩ : ∃ x, x = n ^^^ f1 := ⟨_, rfl⟩
  obtain ⟨x2, hx2e⟩ : ∃ x, x = n ^^^ f2 := ⟨_, rfl⟩
  have hx12 : decide (x1 = x2) = decide (f1 = f2) := by
    rw [hx1e, hx2e]
    by_cases h : f1 = f2
    · rw [decide_eq_true h, decide_eq_true (by rw [h])]
    · rw [decide_eq_false h]
      refine decide_eq_false (fun e => h ?_)
      rw [Nat.xor_comm n f1, Nat.xor_comm n f2] at e
      exact xor_inj e
  rw [← hx1e] at hx1 F1
  rw [← hx2e] at F2
  obtain ⟨d, hd⟩ : ∃ d, d = decide (f1 = f2) := ⟨_, rfl⟩
  have HX := Lib.hid (show ((x1 : Int) == (x2 : Int)) = d from by rw [hd, ← hx12]; exact beq_nat x1 x2)
  have HF := Lib.hid (show ((f1 : Int) == (f2 : Int)) = d from by rw [hd]; exact beq_nat f1 f2)
  have HX1 := Lib.hid hx1
  clear hf1 hf2 hn hu hn1 hl1 hl2 hx1e hx2e hx12 hd hx1
  go_enter Try.func4, Try.ntmps4
  go_wp2_with fail
  refine (dNew_any q w).mono ?_
  rintro e w1 ⟨rfl, hw1⟩
  obtain ⟨a, ha⟩ : ∃ a, a = w.heap.size := ⟨_, rfl⟩
  rw [← ha]
  have A1 := Lib.hid (show IsD w1 a q from by rw [hw1, ha]; exact IsD.made w hq)
  have W1 := Lib.hid (show Below w.heap.size w w1 from by rw [hw1]; exact below_alloc (Below.refl _ _) _)
  have hwa : w.heap.size ≤ a := by omega
  clear hw1 ha
  go_wp2_with fail
  refine (dNew_any q w1).mono ?_
  rintro e w2 ⟨rfl, hw2⟩
  obtain ⟨b, hb⟩ : ∃ b, b = w1.heap.size := ⟨_, rfl⟩
  rw [← hb]
  have hab : a < b := by have := A1.out.lt; omega
  have hst2 : Below w1.heap.size w1 w2 := by rw [hw2]; exact below_alloc (Below.refl _ _) _
  have A2 := Lib.hid (A1.out.mono hst2)
  have C2 := Lib.hid (show IsD w2 b q from by rw [hw2, hb]; exact IsD.made w1 hq)
  have W2 := Lib.hid (below_step W1.out hst2)
  clear hw2 hst2 A1 W1 hb
  go_wp2_with fail
  refine (dNew_any q w2).mono ?_
  rintro e w3 ⟨rfl, hw3⟩
  obtain ⟨c, hc⟩ : ∃ c, c = w2.heap.size := ⟨_, rfl⟩
  rw [← hc]
  have hbc : b < c := by have := C2.out.lt; omega
  have hst3 : Below w2.heap.size w2 w3 := by rw [hw3]; exact below_alloc (Below.refl _ _) _
  have A3 := Lib.hid (A2.out.mono hst3)
  have C3 := Lib.hid (C2.out.mono hst3)
  have E3 := Lib.hid (show IsD w3 c q from by rw [hw3, hc]; exact IsD.made w2 hq)
  have W3 := Lib.hid (below_step W2.out hst3)
  clear hw3 hst3 A2 C2 W2 hc
  go_wp2_with fail
  refine (known5_any w3).mono ?_
  rintro e w4 ⟨rfl, hst4⟩
  have A4 := Lib.hid (A3.out.mono hst4)
  have C4 := Lib.hid (C3.out.mono hst4)
  have E4 := Lib.hid (E3.out.mono hst4)
  have W4 := Lib.hid (below_step W3.out hst4)
  clear hst4 A3 C3 E3 W3
  go_wp2_with fail
  refine (F1.out w4 a A4.out).mono ?_
  rintro e w5 ⟨x, rfl, hx, hX, hD⟩
  have hac : b ≠ a := by omega
  have C5 := Lib.hid (C4.out.only hD.2 hac)
  have E5 := Lib.hid (E4.out.only hD.2 (by omega))
  have A5 := Lib.hid hD.1
  have X5 := Lib.hid hX
  have hxc : c < x := by have := E4.out.lt; omega
  have W5 := Lib.hid (W4.out.trans (hD.2.below hwa (by have := W4.out.size; omega)))
  clear hX hD A4 C4 E4 W4 hx
  go_wp2_with fail
  refine (F2.out w5 b C5.out).mono ?_
  rintro e w6 ⟨y, rfl, hy, hY, hD⟩
  have A6 := Lib.hid (A5.out.only hD.2 (by omega))
  have E6 := Lib.hid (E5.out.only hD.2 (by omega))
  have C6 := Lib.hid hD.1
  have X6 := Lib.hid (X5.out.only hD.2 (by omega))
  have Y6 := Lib.hid hY
  have hxy : x < y := by have := X5.out.lt; omega
  have W6 := Lib.hid (W5.out.trans (hD.2.below (by omega) (by have := W5.out.size; omega)))
  clear hY hD A5 C5 E5 X5 W5 hy
  go_wp2_with fail
  refine (N1.out w6 c E6.out).mono ?_
  rintro e w7 ⟨rfl, hw7⟩
  have D7 : Drawn w6 w7 c u := by rw [hw7]; exact ⟨E6.out.put (by have := A6.out.2.2; exact this), (Only.refl w6 c 0 1).setCell 0 (Nat.le_refl _) (by omega) _⟩
  have A7 := Lib.hid (A6.out.only D7.2 (by omega))
  have E7 := Lib.hid D7.1
  have C7 := Lib.hid (C6.out.only D7.2 (by omega))
  have X7 := Lib.hid (X6.out.only D7.2 (by omega))
  have Y7 := Lib.hid (Y6.out.only D7.2 (by omega))
  have W7 := Lib.hid (W6.out.trans (D7.2.below (by omega) (by have := W6.out.size; omega)))
  clear hw7 D7 A6 E6 C6 X6 Y6 W6
  go_wp2_with fail
  refine (dState_any a u w7 A7.out).mono ?_
  rintro e w' ⟨rfl, rfl⟩
  go_wp2_with fail
  refine (dState_any b u w7 C7.out).mono ?_
  rintro e w' ⟨rfl, rfl⟩
  go_wp2_with fail
  refine (dState_any a u w7 A7.out).mono ?_
  rintro e w' ⟨rfl, rfl⟩
  go_wp2_with fail
  refine (dState_any c u w7 E7.out).mono ?_
  rintro e w' ⟨rfl, rfl⟩
  go_wp2_with fail
  refine (dState_any x x1 w7 X7.out).mono ?_
  rintro e w' ⟨rfl, rfl⟩
  go_wp2_with fail
  refine (dState_any y x2 w7 Y7.out).mono ?_
  rintro e w' ⟨rfl, rfl⟩
  have hX := HX.out
  have hr8 := R1.out w7
  obtain ⟨g8, hg8⟩ : ∃ g, g = w7.heap.size := ⟨_, rfl⟩
  have hb8 := B1.out w7
  obtain ⟨k8, hk8⟩ : ∃ c, c = grownCap w7 s.size 0 5 := ⟨_, rfl⟩
  rw [← hk8, ← hg8] at hr8 hb8
  obtain ⟨w8, hw8⟩ : ∃ w2, w2 = w7.drew.alloc (.cells (bytesRow s k8) 5 ((bytesRow s k8).size, (bytesRow s k8).size + 1)) := ⟨_, rfl⟩
  rw [← hw8] at hr8 hb8
  have hst8 : Below w7.heap.size w7 w8 := by rw [hw8]; exact below_alloc (Below.drew (Below.refl _ _)) _
  have W8 := Lib.hid (below_step W7.out hst8)
  have X8 := Lib.hid (X7.out.mono hst8)
  have V8 := Lib.hid hb8
  clear hw8 hst8 hb8 hk8 hg8
  go_wp2_with fail
  refine (S1.out _ _ _ w8 hs V8.out).mono ?_
  rintro e w' ⟨rfl, rfl⟩
  clear hr8
  have hr9 := R2.out w8
  obtain ⟨g9, hg9⟩ : ∃ g, g = w8.heap.size := ⟨_, rfl⟩
  have hb9 := B2.out w8
  obtain ⟨k9, hk9⟩ : ∃ c, c = grownCap w8 t.size 0 5 := ⟨_, rfl⟩
  rw [← hk9, ← hg9] at hr9 hb9
  obtain ⟨w9, hw9⟩ : ∃ w2, w2 = w8.drew.alloc (.cells (bytesRow t k9) 5 ((bytesRow t k9).size, (bytesRow t k9).size + 1)) := ⟨_, rfl⟩
  rw [← hw9] at hr9 hb9
  have hst9 : Below w8.heap.size w8 w9 := by rw [hw9]; exact below_alloc (Below.drew (Below.refl _ _)) _
  have W9 := Lib.hid (below_step W8.out hst9)
  have X9 := Lib.hid (X8.out.mono hst9)
  have V9 := Lib.hid hb9
  clear hw9 hst9 hb9 hk9 hg9
  go_wp2_with fail
  refine (S2.out _ _ _ w9 ht V9.out).mono ?_
  rintro e w' ⟨rfl, rfl⟩
  clear hr9
  have hF := HF.out
  go_wp2_with fail
  refine (dState_any x x1 w9 X9.out).mono ?_
  rintro e w' ⟨rfl, rfl⟩
  clear hF
  have hr10 := R1.out w9
  obtain ⟨g10, hg10⟩ : ∃ g, g = w9.heap.size := ⟨_, rfl⟩
  have hb10 := B1.out w9
  obtain ⟨k10, hk10⟩ : ∃ c, c = grownCap w9 s.size 0 5 := ⟨_, rfl⟩
  rw [← hk10, ← hg10] at hr10 hb10
  obtain ⟨w10, hw10⟩ : ∃ w2, w2 = w9.drew.alloc (.cells (bytesRow s k10) 5 ((bytesRow s k10).size, (bytesRow s k10).size + 1)) := ⟨_, rfl⟩
  rw [← hw10] at hr10 hb10
  have hst10 : Below w9.heap.size w9 w10 := by rw [hw10]; exact below_alloc (Below.drew (Below.refl _ _)) _
  have W10 := Lib.hid (below_step W9.out hst10)
  have V10 := Lib.hid hb10
  clear hw10 hst10 hb10 hk10 hg10
  go_wp2_with fail
  refine (S1.out _ _ _ w10 hs V10.out).mono ?_
  rintro e w' ⟨rfl, rfl⟩
  have hx1 := HX1.out
  clear hr10
  go_wp2
  go_ret
  exact ⟨rfl, W10.out⟩
end Go.Proofs.Ytagoabnagnhdlaa
