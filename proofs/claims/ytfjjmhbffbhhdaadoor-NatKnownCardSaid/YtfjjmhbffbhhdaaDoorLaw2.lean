/- The examples of chapter 2. -/
import Derived.Test.YtfjjmhbffbhhdaaDoorBez
import Derived.Test.YtfjjmhbffbhhdaaDoorRoots0
namespace Go.Proofs.YtfjjmhbffbhhdaaDoor
open Go.RowKit

end Go.Proofs.YtfjjmhbffbhhdaaDoor

/- What the laws of stage 2 share. -/
namespace Go.Proofs.YtfjjmhbffbhhdaaDoor
open Go.RowKit

theorem Box.lt {w : World} {a : Nat} {g : Bool} {s : Int} {p : Option Addr} {l c : Nat} (h : Box w a g s p l c) : a < w.heap.size := World.block_lt_of_cell? _ _ h.1
theorem Box.away {w w' : World} {bs : List Nat} {a : Nat} {g : Bool} {s : Int} {p : Option Addr} {l c : Nat} (h : Box w a g s p l c) (hA : Away bs w w') (hn : a ∉ bs) : Box w' a g s p l c := ⟨hA.cell h.1 hn, hA.cell h.2.1 hn, hA.cell h.2.2 hn⟩
end Go.Proofs.YtfjjmhbffbhhdaaDoor

/- What single operations yield, said once: so an open statement's operations need no reckoning in a great context. -/
namespace Go.Proofs.YtfjjmhbffbhhdaaDoor
open Go.RowKit

section
variable {P : Program} {E : Operand → Value} {w : World} {d : Option Tmp} {ty : TypeId} {pos : String} {af : Array Edge} {gd : Option (Nat × Bool)}
theorem ev_move (x : Operand) {v : Value} (h : E x = v) : Does P ⟨d, .move x, ty, pos, af, gd⟩ E w fun v' w' => v' = v ∧ Below w.heap.size w w' :=
  Does.value (v := E x) (w' := w) (by go_simp) ⟨h, Below.refl _ _⟩
theorem ev_assign (x : Operand) {v : Value} (h : E x = v) : Does P ⟨d, .assign x, ty, pos, af, gd⟩ E w fun v' w' => v' = v ∧ Below w.heap.size w w' :=
  Does.value (v := E x) (w' := w) (by go_simp) ⟨h, Below.refl _ _⟩
theorem ev_not {x : Operand} {T : TypeId} {b : Bool} (h : E x = .bool b) {v : Bool} (hv : (!b) = v) : Does P ⟨d, .unOp .not T x, ty, pos, af, gd⟩ E w fun v' w' => v' = .bool v ∧ Below w.heap.size w w' :=
  Does.value (w' := w) (by go_simp) ⟨congrArg Value.bool hv, Below.refl _ _⟩
theorem ev_pick {x a b : Operand} {c : Bool} {v : Value} (h : E x = .bool c) (h2 : (if c then E a else E b) = v) : Does P ⟨d, .pick x a b, ty, pos, af, gd⟩ E w fun v' w' => v' = v ∧ Below w.heap.size w w' := by
  cases c with
  | true => exact Does.value (v := E a) (w' := w) (by go_simp) ⟨h2, Below.refl _ _⟩
  | false => exact Does.value (v := E b) (w' := w) (by go_simp) ⟨h2, Below.refl _ _⟩
end
section
variable {E : Operand → Value} {w : World} {d : Option Tmp} {ty : TypeId} {pos : String} {af : Array Edge} {gd : Option (Nat × Bool)}
theorem ev_neq {x y : Operand} {a b : Int} (h1 : E x = .int .i64 a) (h2 : E y = .int .i64 b) {v : Bool} (hv : (a != b) = v) : Does Tryd.prog ⟨d, .binOp .neq 3 x y 3, ty, pos, af, gd⟩ E w fun v' w' => v' = .bool v ∧ Below w.heap.size w w' :=
  Does.value (w' := w) (by go_simp) ⟨congrArg Value.bool hv, Below.refl _ _⟩
theorem ev_lss {x y : Operand} {a b : Int} (h1 : E x = .int .i64 a) (h2 : E y = .int .i64 b) {v : Bool} (hv : (decide (a < b)) = v) : Does Tryd.prog ⟨d, .binOp .lss 3 x y 3, ty, pos, af, gd⟩ E w fun v' w' => v' = .bool v ∧ Below w.heap.size w w' :=
  Does.value (w' := w) (by go_simp) ⟨congrArg Value.bool hv, Below.refl _ _⟩
theorem ev_call0 {f : FuncId} {ts : Array TypeId} {R : Value → World → Prop} (hf : E (.func f) = .func (.func f) #[] #[]) (hr : RowKit.Hid (∀ (a : Array Value) (w : World), Sem.run Tryd.prog (callFunc f a) w = .ok (.enter f a) w)) (h : Calls Tryd.prog f #[] w fun e w' => ∃ v, e = .returned v ∧ R v w') : Does Tryd.prog ⟨d, .call ⟨.value (.func f), #[], ts⟩, ty, pos, af, gd⟩ E w R :=
  Does.call (w' := w) (by go_simp; exact hr.out _ _) h
theorem ev_call1 {f : FuncId} {x : Operand} {ts : Array TypeId} {R : Value → World → Prop} (hf : E (.func f) = .func (.func f) #[] #[]) (hr : RowKit.Hid (∀ (a : Array Value) (w : World), Sem.run Tryd.prog (callFunc f a) w = .ok (.enter f a) w)) (h : Calls Tryd.prog f #[E x] w fun e w' => ∃ v, e = .returned v ∧ R v w') : Does Tryd.prog ⟨d, .call ⟨.value (.func f), #[x], ts⟩, ty, pos, af, gd⟩ E w R :=
  Does.call (w' := w) (by go_simp; exact hr.out _ _) h
theorem ev_call2 {f : FuncId} {x y : Operand} {ts : Array TypeId} {R : Value → World → Prop} (hf : E (.func f) = .func (.func f) #[] #[]) (hr : RowKit.Hid (∀ (a : Array Value) (w : World), Sem.run Tryd.prog (callFunc f a) w = .ok (.enter f a) w)) (h : Calls Tryd.prog f #[E x, E y] w fun e w' => ∃ v, e = .returned v ∧ R v w') : Does Tryd.prog ⟨d, .call ⟨.value (.func f), #[x, y], ts⟩, ty, pos, af, gd⟩ E w R :=
  Does.call (w' := w) (by go_simp; exact hr.out _ _) h
theorem run_nCmp : RowKit.Hid (∀ (a : Array Value) (w : World), Sem.run Tryd.prog (callFunc 15 a) w = .ok (.enter 15 a) w) := fun a w => by go_simp
end
end Go.Proofs.YtfjjmhbffbhhdaaDoor
