/- The small functions of package frac. -/
import Derived.Test.YtfjjmhbffbhhdaaDoorQKit
import Derived.Test.YtfjjmhbffbhhdaaDoorDivN
namespace Go.Proofs.YtfjjmhbffbhhdaaDoor
open Go.RowKit

theorem run_Of : RowKit.Hid (∀ (a : Array Value) (w : World), Sem.run Tryd.prog (callFunc 6 a) w = .ok (.enter 6 a) w) := fun a w => by go_simp
theorem run_nDiv : RowKit.Hid (∀ (a : Array Value) (w : World), Sem.run Tryd.prog (callFunc 8 a) w = .ok (.enter 8 a) w) := fun a w => by go_simp
theorem run_nSmall : RowKit.Hid (∀ (a : Array Value) (w : World), Sem.run Tryd.prog (callFunc 9 a) w = .ok (.enter 9 a) w) := fun a w => by go_simp
theorem small_lt (w : World) (u : Value) (n : Nat) (hn : n < 2 ^ 64) (h : Num w u n) : Calls Tryd.prog 9 #[u] w (Gives w (.two (.is (.int .u64 (n : Int))) (.is (.bool true)))) := by
  obtain ⟨s, p, l, c, rfl, h | h⟩ := h
  · obtain ⟨-, rfl, -, rfl, -⟩ := h
    exact (nsmall_any _ p 0 c w).mono fun _ _ ⟨h, hb⟩ => ⟨_, h, ⟨_, _, rfl, rfl, rfl⟩, hb⟩
  · omega
theorem of_gives (n : Nat) (hn : n < 2 ^ 64) (w : World) : Calls Tryd.prog 6 #[.int .u64 (n : Int)] w (Gives w (.num n)) :=
  (of_any _ w).mono fun _ _ ⟨h, hb⟩ => ⟨_, h, ⟨_, _, _, _, rfl, Or.inl ⟨hn, rfl, rfl, rfl, rfl⟩⟩, hb⟩
end Go.Proofs.YtfjjmhbffbhhdaaDoor
