/- The small functions of package frac. -/
import Derived.Test.YtfjjmhbffbhhdaaGreatDoorQKit
import Derived.Test.YtfjjmhbffbhhdaaGreatDoorDivN
namespace Go.Proofs.YtfjjmhbffbhhdaaGreatDoor
open Go.RowKit

theorem run_Of : RowKit.Hid (∀ (a : Array Value) (w : World), Sem.run Tryz.prog (callFunc 24 a) w = .ok (.enter 24 a) w) := fun a w => by go_simp
theorem run_nSmall : RowKit.Hid (∀ (a : Array Value) (w : World), Sem.run Tryz.prog (callFunc 25 a) w = .ok (.enter 25 a) w) := fun a w => by go_simp
theorem ev_eqlU {E : Operand → Value} {w : World} {d : Option Tmp} {ty : TypeId} {pos : String} {af : Array Edge} {gd : Option (Nat × Bool)} {x y : Operand} {a b : Int} (h1 : E x = .int .u64 a) (h2 : E y = .int .u64 b) {v : Bool} (hv : (a == b) = v) : Does Tryz.prog ⟨d, .binOp .eql 23 x y 23, ty, pos, af, gd⟩ E w fun v' w' => v' = .bool v ∧ Below w.heap.size w w' :=
  Does.value (w' := w) (by go_simp) ⟨congrArg Value.bool hv, Below.refl _ _⟩
theorem small_lt (w : World) (u : Value) (n : Nat) (hn : n < 2 ^ 64) (h : Num w u n) : Calls Tryz.prog 25 #[u] w (Gives w (.two (.is (.int .u64 (n : Int))) (.is (.bool true)))) := by
  obtain ⟨s, p, l, c, rfl, h | h⟩ := h
  · obtain ⟨-, rfl, -, rfl, -⟩ := h
    exact (nsmall_any _ p 0 c w).mono fun _ _ ⟨h, hb⟩ => ⟨_, h, ⟨_, _, rfl, rfl, rfl⟩, hb⟩
  · omega
theorem small_ge (w : World) (u : Value) (n : Nat) (hn : 2 ^ 64 ≤ n) (h : Num w u n) : Calls Tryz.prog 25 #[u] w (Gives w (.two (.is (.int .u64 0)) (.is (.bool false)))) := by
  obtain ⟨s, p, l, c, rfl, h | h⟩ := h
  · omega
  · obtain ⟨-, rfl, -, -, -, hl, -⟩ := h
    have e : (((l : Nat) : Int) == 0) = false := beq_eq_false_iff_ne.2 (by have := ds_pos n; omega)
    have := nsmall_any 0 p l c w
    rw [e] at this
    exact this.mono fun _ _ ⟨h, hb⟩ => ⟨_, h, ⟨_, _, rfl, rfl, rfl⟩, hb⟩
theorem of_gives (n : Nat) (hn : n < 2 ^ 64) (w : World) : Calls Tryz.prog 24 #[.int .u64 (n : Int)] w (Gives w (.num n)) :=
  (of_any _ w).mono fun _ _ ⟨h, hb⟩ => ⟨_, h, ⟨_, _, _, _, rfl, Or.inl ⟨hn, rfl, rfl, rfl, rfl⟩⟩, hb⟩
end Go.Proofs.YtfjjmhbffbhhdaaGreatDoor
