/- Integers of 64 bits; the program's integer of a document's; the two of the laws. -/
import Derived.Test.YthenfejgnjdkjaaGreatDoorIntWant
import Derived.Test.YthenfejgnjdkjaaGreatDoorRefKit
namespace Go.Proofs.YthenfejgnjdkjaaGreatDoor
open Go.RowKit

set_option maxHeartbeats 400000 in
theorem iOf_any (n : Int) (w : World) (h1 : -9223372036854775808 ≤ n) (h2 : n ≤ 9223372036854775807) : Calls Tryz.prog 4 #[.int .i64 n] w (RetI w n) := by
  rcases Int.lt_or_le n 0 with hn | hn
  · obtain ⟨m, hm⟩ : ∃ m : Nat, m = n.natAbs := ⟨_, rfl⟩
    have wn : IntKind.u64.wrap (-IntKind.u64.wrap n) = (m : Int) := by rw [IntKind.wrap_u64, IntKind.wrap_u64]; omega
    have HI : Hid (∀ W, IsI W true (m : Int) none 0 0 n) := Lib.hid (fun W => ⟨(decide_eq_true hn).symm, by rw [← hm]; exact Or.inl ⟨by omega, rfl, rfl, rfl, rfl⟩⟩)
    clear h1 h2 hm
    go_enter Tryz.func4, Tryz.ntmps4
    go_wp2_with fail
    refine (of_any _ _).mono ?_
    rintro e w1 ⟨rfl, hb⟩
    obtain ⟨hc, hf⟩ := bcell hb
    have r0 : w1.cell? ⟨w.heap.size, 0, none⟩ = some (.bool false) := by simp [hc, go_sem]
    have r1 : w1.cell? ⟨w.heap.size, 1, none⟩ = some (.int .u64 0) := by simp [hc, go_sem]
    have r2 : w1.cell? ⟨w.heap.size, 2, none⟩ = some (.slice none 0 0) := by simp [hc, go_sem]
    go_wp2
    exact bodyPost_ret (v := .agg #[.bool true, .int .u64 m, .slice none 0 0]) (by simp [results, Tryz.results4, go_sem, r0, r1, r2]) rfl ⟨_, _, _, _, _, rfl, HI.out _, below_iset (below_step (below_alloc (Below.refl _ _) _) hb) (Nat.le_refl _)⟩
  · have wn : IntKind.u64.wrap n = n := by rw [IntKind.wrap_u64]; omega
    have HI : Hid (∀ W, IsI W false n none 0 0 n) := Lib.hid (fun W => ⟨(decide_eq_false (by omega)).symm, Or.inl ⟨by omega, by omega, rfl, rfl, rfl⟩⟩)
    have hn' : ¬ n < 0 := by omega
    clear h1 h2 hn
    go_enter Tryz.func4, Tryz.ntmps4
    go_wp2_with fail
    refine (of_any _ _).mono ?_
    rintro e w1 ⟨rfl, hb⟩
    obtain ⟨hc, hf⟩ := bcell hb
    have r0 : w1.cell? ⟨w.heap.size, 0, none⟩ = some (.bool false) := by simp [hc, go_sem]
    have r1 : w1.cell? ⟨w.heap.size, 1, none⟩ = some (.int .u64 0) := by simp [hc, go_sem]
    have r2 : w1.cell? ⟨w.heap.size, 2, none⟩ = some (.slice none 0 0) := by simp [hc, go_sem]
    go_wp2
    exact bodyPost_ret (v := .agg #[.bool false, .int .u64 n, .slice none 0 0]) (by simp [results, Tryz.results4, go_sem, r0, r1, r2]) rfl ⟨_, _, _, _, _, rfl, HI.out _, below_iset (below_step (below_alloc (Below.refl _ _) _) hb) (Nat.le_refl _)⟩

end Go.Proofs.YthenfejgnjdkjaaGreatDoor
