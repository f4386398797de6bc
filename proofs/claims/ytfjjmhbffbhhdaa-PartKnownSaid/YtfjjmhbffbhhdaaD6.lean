/- Orders, and rows that are alike. -/
import Derived.Test.YtfjjmhbffbhhdaaD5
import Derived.Test.YtfjjmhbffbhhdaaPick
namespace Go.Proofs.Ytfjjmhbffbhhdaa
open Go.RowKit

set_option maxRecDepth 100000 in
set_option maxHeartbeats 1000000 in
theorem dOrder_anyF (b s n : Nat) (w : World) (h : IsD w b s) (hn : 0 < n) (hn2 : n ≤ 65536) :
    Calls Try.prog 18 #[.pointer (some ⟨b, 0, none⟩), .int .i64 (n : Int)] w (RetRowF w b (dorderS n s) (dorder n s)) := by
  have d1 : ¬ (n : Int) < 1 := by omega
  have d3 : ¬ (65536 : Int) < (n : Int) := by omega
  have hmf : ∀ (fn : Fn) (first cap : Array Value) (w : World), (Instr.makeFunc fn first cap).run Try.prog w = .ok (.func fn first cap) w := fun _ _ _ _ => rfl
  have HS := Lib.hid (shuffled_anyF b s n w h hn hn2)
  obtain ⟨T, hT⟩ : ∃ T, T = dorderS n s := ⟨_, rfl⟩
  obtain ⟨D, hD⟩ : ∃ D, D = dorder n s := ⟨_, rfl⟩
  rw [← hT, ← hD] at HS ⊢
  clear h hT hD
  go_enter Try.func18, Try.ntmps18
  go_wp2_with fail
  refine HS.out.mono ?_
  rintro e w2 ⟨g, rfl, h2⟩
  have HH := Lib.hid h2
  clear h2
  go_wp2
  go_ret
  exact ⟨g, rfl, HH.out⟩
theorem dOrder_any (b s n : Nat) (w : World) (h : IsD w b s) (hn : 0 < n) (hn2 : n ≤ 65536) :
    Calls Try.prog 18 #[.pointer (some ⟨b, 0, none⟩), .int .i64 (n : Int)] w (RetRow w b (dorderS n s) (dorder n s)) :=
  (dOrder_anyF b s n w h hn hn2).mono fun _ _ h => h.row

set_option maxRecDepth 100000 in
set_option maxHeartbeats 1000000 in
theorem sameInts_at (g1 g2 n : Nat) (xs : List Nat) (w : World) (hn : xs.length = n) (hn2 : n ≤ 1000000) (h1 : At w .i64 g1 0 xs) (h2 : At w .i64 g2 0 xs) :
    Calls Try.prog 13 #[.slice (some ⟨g1, 0, none⟩) n n, .slice (some ⟨g2, 0, none⟩) n n] w fun e w' => e = .returned (.bool true) ∧ Below w.heap.size w w' := by
  have H1 := Lib.hid h1; have H2 := Lib.hid h2
  clear h1 h2
  go_enter Try.func13, Try.ntmps13
  go_wp2_with fail
  go_loopw [5] (fun i wr => ∃ j : Nat, j ≤ n ∧ i = .int .i64 j ∧ Hid (Below w.heap.size w wr)) (fun i _ => n - (intOf i).toNat)
  case atStart => exact ⟨0, Nat.zero_le _, rfl, Lib.hid (Below.refl _ _)⟩
  case round =>
    obtain ⟨j, hj, rfl, HB⟩ := hrel
    by_cases hlt : j < n
    · have c1 := (H1.out.mono HB.out).zero j (by omega)
      have c2 := (H2.out.mono HB.out).zero j (by omega)
      have i1 : (0 : Int) ≤ j := by omega
      have i2 : (j : Int) < n := by omega
      generalize xs.getD j 0 = x at c1 c2
      go_wp2
      go_region_with fail
      all_goals go_wp2
      all_goals exact ⟨⟨j + 1, by omega, by go_num, Lib.hid (HB.out.trans (Below.drew (Below.refl _ _)))⟩, by simp [intOf]; omega⟩
    · obtain rfl : j = n := by omega
      go_wp2
      go_ret
      exact ⟨rfl, HB.out⟩
theorem sameInts_none (w : World) :
    Calls Try.prog 13 #[.slice none 0 0, .slice none 0 0] w fun e w' => e = .returned (.bool true) ∧ w = w' := by
  go_enter Try.func13, Try.ntmps13
  go_wp2_with fail
  go_loop [5] (fun i => i = .int .i64 0) (fun _ => 0)
  case atStart => exact rfl
  case round =>
    obtain rfl := hrel
    go_wp2
    go_ret
    exact ⟨rfl, rfl⟩
end Go.Proofs.Ytfjjmhbffbhhdaa
