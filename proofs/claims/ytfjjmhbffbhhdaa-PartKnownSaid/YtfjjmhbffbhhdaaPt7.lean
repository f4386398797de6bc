/- The known cases of package part: the law's walk. -/
import Derived.Test.YtfjjmhbffbhhdaaPt3
import Derived.Test.YtfjjmhbffbhhdaaPt4
import Derived.Test.YtfjjmhbffbhhdaaPt6
namespace Go.Proofs.Ytfjjmhbffbhhdaa
open Go.RowKit

theorem order_two : dorder 2 1 = [0, 1] := by decide +kernel
theorem srt_two : srt [0, 1] = [0, 1] := by unfold srt; exact List.mergeSort_of_pairwise (by simp)

set_option maxRecDepth 100000 in
set_option maxHeartbeats 4000000 in
theorem knownLaw (w : World) : Calls Try.prog 3 #[] w fun e w' => e = .returned (.bool true) ∧ Below w.heap.size w w' := by
  go_enter Try.func3, Try.ntmps3
  go_wp2_with fail
  refine (dNew_any 1 w).mono ?_
  rintro e w1 ⟨rfl, hw1⟩
  obtain ⟨b, hb⟩ : ∃ b, b = w.heap.size := ⟨_, rfl⟩
  rw [← hb]
  have A1 := Lib.hid (show IsD w1 b 1 from by rw [hw1, hb]; exact IsD.made w (by omega))
  have W1 := Lib.hid (show Below w.heap.size w w1 from by rw [hw1]; exact below_alloc (Below.refl _ _) _)
  have hwb : w.heap.size ≤ b := by omega
  clear hw1 hb
  go_wp2_with fail
  refine (known8_any w1).mono ?_
  rintro e w2 ⟨rfl, hst⟩
  have A2 := Lib.hid (A1.out.mono hst)
  have W2 := Lib.hid (below_step W1.out hst)
  clear hst A1 W1
  go_wp2_with fail
  refine (dState_any b 1 _ A2.out).mono ?_
  rintro e w' ⟨rfl, rfl⟩
  go_wp2_with fail
  refine (halves_no 3 4 _ _ (.inr (by omega))).mono ?_
  rintro e w' ⟨rfl, rfl⟩
  go_wp2_with fail
  refine (folds_no 3 1 _ _ (by omega) (by omega)).mono ?_
  rintro e w' ⟨rfl, rfl⟩
  go_wp2_with fail
  refine (folds_no 3 4 _ _ (by omega) (by omega)).mono ?_
  rintro e w' ⟨rfl, rfl⟩
  go_wp2_with fail
  obtain ⟨w3, hw3⟩ : ∃ w3, w3 = w2.alloc (.cells #[.int .i64 0, .int .i64 12] 3) := ⟨_, rfl⟩
  have hst : Below w2.heap.size w2 w3 := by rw [hw3]; exact below_alloc (Below.refl _ _) _
  have h0 : w3.cell? ⟨w2.heap.size, 0, none⟩ = some (.int .i64 0) := by rw [hw3, World.cell?_alloc_at _ _ _ _ rfl]; rfl
  have h1 : w3.cell? ⟨w2.heap.size, 1, none⟩ = some (.int .i64 12) := by rw [hw3, World.cell?_alloc_at _ _ _ _ rfl]; rfl
  rw [← hw3]
  have A3 := Lib.hid (A2.out.mono hst)
  have W3 := Lib.hid (below_step W2.out hst)
  have E3 := even_no2 w2.heap.size (.pointer (some ⟨b, 0, none⟩)) w3 h0 h1
  clear hst A2 W2 hw3 h0 h1
  refine E3.mono ?_
  rintro e w4 ⟨rfl, hst⟩
  have A4 := Lib.hid (A3.out.mono hst)
  have W4 := Lib.hid (below_step W3.out hst)
  clear hst A3 W3 E3
  go_wp2_with fail
  obtain ⟨w5, hw5⟩ : ∃ w5, w5 = w4.alloc (.cells #[.int .i64 0] 3) := ⟨_, rfl⟩
  have hst : Below w4.heap.size w4 w5 := by rw [hw5]; exact below_alloc (Below.refl _ _) _
  rw [← hw5]
  have A5 := Lib.hid (A4.out.mono hst)
  have W5 := Lib.hid (below_step W4.out hst)
  have E5 := even_no1 w4.heap.size (.pointer (some ⟨b, 0, none⟩)) w5
  clear hst A4 W4 hw5
  refine E5.mono ?_
  rintro e w6 ⟨rfl, hst⟩
  have A6 := Lib.hid (A5.out.mono hst)
  have W6 := Lib.hid (below_step W5.out hst)
  clear hst A5 W5 E5
  go_wp2_with fail
  refine (boot_none _ _).mono ?_
  rintro e w' ⟨rfl, rfl⟩
  go_wp2_with fail
  refine (halves_no 301 0 _ _ (.inl (by omega))).mono ?_
  rintro e w' ⟨rfl, rfl⟩
  go_wp2_with fail
  refine (dState_any b 1 _ A6.out).mono ?_
  rintro e w' ⟨rfl, rfl⟩
  go_wp2_with fail
  have H2 := halves_any 2 2 b 1 w6 A6.out (by omega) (by omega) (by omega)
  rw [order_two, show ([0, 1] : List Nat).take 2 = [0, 1] from rfl, show ([0, 1] : List Nat).drop 2 = [] from rfl, srt_two, show srt [] = [] from by simp [srt]] at H2
  refine H2.mono ?_
  rintro e w7 ⟨v1, v2, rfl, hr1, hr2, hd⟩
  have W7 := Lib.hid (W6.out.trans (hd.2.below (by omega) W6.out.size))
  have R2 := Lib.hid hr2
  clear hd hr2 H2 A6 W6
  have hv1 : ∃ a c, v1 = .slice a 0 c := by
    rcases hr1 with ⟨rfl, _⟩ | ⟨g1, c1, rfl, _⟩
    · exact ⟨_, _, rfl⟩
    · exact ⟨_, _, rfl⟩
  obtain ⟨a1, c1, rfl⟩ := hv1
  clear hr1
  go_wp2_with fail
  obtain ⟨w8, hw8⟩ : ∃ w8, w8 = w7.alloc (.cells #[.int .i64 0, .int .i64 1] 3) := ⟨_, rfl⟩
  have hst : Below w7.heap.size w7 w8 := by rw [hw8]; exact below_alloc (Below.refl _ _) _
  have hn : At w8 .i64 w7.heap.size 0 [0, 1] := by
    intro i hi
    rw [hw8, World.cell?_alloc_at _ _ _ _ rfl]
    have hi2 : i < 2 := hi
    rcases (by omega : i = 0 ∨ i = 1) with rfl | rfl <;> rfl
  rw [← hw8]
  have hr : v2 = .slice none 0 0 ∧ ([0, 1] : List Nat) = [] ∨ ∃ g c, v2 = .slice (some ⟨g, 0, none⟩) ([0, 1] : List Nat).length c ∧ At w8 .i64 g 0 [0, 1] := by
    rcases R2.out with h | ⟨g, c, h1, _, h3, _⟩
    · exact .inl h
    · exact .inr ⟨g, c, h1, h3.mono hst⟩
  have HS := sameInts_rows v2 (.slice (some ⟨w7.heap.size, 0, none⟩) 2 2) [0, 1] w8 (by simp) hr (.inr ⟨_, 2, rfl, hn⟩)
  have W8 := Lib.hid (below_step W7.out hst)
  clear hst hn hr hw8 R2 W7
  refine HS.mono ?_
  rintro e w9 ⟨rfl, hb9⟩
  have W9 := Lib.hid (below_step W8.out hb9)
  clear hb9 HS W8
  go_wp2_with fail
  refine (rest_none _).mono ?_
  rintro e w' ⟨rfl, rfl⟩
  go_wp2
  go_ret
  exact ⟨rfl, W9.out⟩
end Go.Proofs.Ytfjjmhbffbhhdaa
