/- What package part refuses. -/
import Derived.Test.YtfjjmhbffbhhdaaPt2
import Derived.Handy
namespace Go.Proofs.Ytfjjmhbffbhhdaa
open Go.RowKit

set_option maxRecDepth 100000 in
set_option maxHeartbeats 1000000 in
theorem halves_no (n t : Int) (b : Value) (w : World) (h : (300 < n ∧ n ≤ 1000) ∨ (n ≤ 300 ∧ 0 ≤ t ∧ n < t ∧ t ≤ 1000)) :
    Calls Try.prog 9 #[.int .i64 n, .int .i64 t, b] w fun e w' => e = .returned (.tuple #[.slice none 0 0, .slice none 0 0, .int .i64 1]) ∧ w = w' := by
  rcases h with h | ⟨h1, h2, h3, h4⟩
  · have i1 : (300 : Int) < n := h.1
    go_enter Try.func9, Try.ntmps9
    go_wp2
    refine bodyPost_ret (v := .tuple #[.slice none 0 0, .slice none 0 0, .int .i64 1]) (by simp [results, Try.results9, go_sem]) rfl ?_
    exact ⟨rfl, rfl⟩
  · have i1 : ¬ (300 : Int) < n := by omega
    have i2 : ¬ t < 0 := by omega
    go_enter Try.func9, Try.ntmps9
    go_wp2
    refine bodyPost_ret (v := .tuple #[.slice none 0 0, .slice none 0 0, .int .i64 1]) (by simp [results, Try.results9, go_sem]) rfl ?_
    exact ⟨rfl, rfl⟩
set_option maxRecDepth 100000 in
set_option maxHeartbeats 1000000 in
theorem folds_no (n k : Int) (b : Value) (w : World) (h1 : n ≤ 300) (h2 : k < 2 ∨ n < k) :
    Calls Try.prog 10 #[.int .i64 n, .int .i64 k, b] w fun e w' => e = .returned (.tuple #[.slice none 0 0, .int .i64 1]) ∧ w = w' := by
  by_cases i2 : 2 ≤ k
  · have i3 : ¬ k ≤ n := by omega
    go_enter Try.func10, Try.ntmps10
    go_wp2
    go_ret2
    exact ⟨rfl, rfl⟩
  · go_enter Try.func10, Try.ntmps10
    go_wp2
    go_ret2
    exact ⟨rfl, rfl⟩
set_option maxRecDepth 100000 in
set_option maxHeartbeats 1000000 in
theorem boot_none (b : Value) (w : World) : Calls Try.prog 12 #[.int .i64 0, b] w fun e w' => e = .returned (.tuple #[.slice none 0 0, .slice none 0 0]) ∧ w = w' := by
  go_enter Try.func12, Try.ntmps12
  go_wp2
  go_ret2
  exact ⟨rfl, rfl⟩
set_option maxRecDepth 100000 in
set_option maxHeartbeats 1000000 in
theorem rest_none (w : World) : Calls Try.prog 14 #[.int .i64 301, .slice none 0 0] w fun e w' => e = .returned (.slice none 0 0) ∧ w = w' := by
  go_enter Try.func14, Try.ntmps14
  go_wp2
  go_ret
  exact ⟨rfl, rfl⟩
set_option maxRecDepth 100000 in
set_option maxHeartbeats 2000000 in
theorem even_no1 (g : Nat) (b : Value) (w : World) : Calls Try.prog 11 #[.slice (some ⟨g, 0, none⟩) 1 1, .int .i64 2, b] w fun e w' => e = .returned (.tuple #[.slice none 0 0, .int .i64 1]) ∧ Below w.heap.size w w' := by
  go_enter Try.func11, Try.ntmps11
  go_wp2
  go_ret2
  exact ⟨rfl, (by repeat' first | exact Below.refl _ _ | refine below_alloc ?_ _)⟩
set_option maxRecDepth 100000 in
set_option maxHeartbeats 4000000 in
theorem even_no2 (g : Nat) (b : Value) (w : World) (h0 : w.cell? ⟨g, 0, none⟩ = some (.int .i64 0)) (h1 : w.cell? ⟨g, 1, none⟩ = some (.int .i64 12)) : Calls Try.prog 11 #[.slice (some ⟨g, 0, none⟩) 2 2, .int .i64 2, b] w fun e w' => e = .returned (.tuple #[.slice none 0 0, .int .i64 1]) ∧ Below w.heap.size w w' := by
  have hg : g < w.heap.size := World.block_lt_of_cell? w ⟨g, 0, none⟩ h0
  have hst : Below w.heap.size w (w.alloc (.cells #[.slice (some ⟨g, 0, none⟩) 2 2] 27)) := below_alloc (Below.refl _ _) _
  have c0 := (hst.cell (p := ⟨g, 0, none⟩) hg).trans h0
  have c1 := (hst.cell (p := ⟨g, 1, none⟩) hg).trans h1
  have HB := Lib.hid hst
  clear hst h0 h1
  go_enter Try.func11, Try.ntmps11
  go_wp2
  go_rounds 3
  all_goals
    first
    | (go_ret2; exact ⟨rfl, HB.out⟩)
    | trace_state
end Go.Proofs.Ytfjjmhbffbhhdaa
