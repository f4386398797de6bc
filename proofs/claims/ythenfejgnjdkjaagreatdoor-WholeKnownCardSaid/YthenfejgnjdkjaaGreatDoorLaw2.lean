/- What the laws of stage 2 share. -/
import Derived.Test.YthenfejgnjdkjaaGreatDoorKnown2
namespace Go.Proofs.YthenfejgnjdkjaaGreatDoor
open Go.RowKit

theorem iSign_val (w : World) (u : Value) (x k : Int) (hk : cmp3 x 0 = k) (h : INum w u x) : Calls Tryz.prog 13 #[u] w fun e w' => ∃ v', e = .returned v' ∧ v' = .int .i64 k ∧ Below w.heap.size w w' := by
  rw [← hk]; exact iSign_want w u x h
set_option maxHeartbeats 400000 in
theorem iAbs_any (z : Int) (g : Bool) (s : Int) (p : Option Addr) (l c : Nat) (w : World) (h : IsI w g s p l c z) :
    Calls Tryz.prog 17 #[.agg #[.bool g, .int .u64 s, .slice p l c]] w (RetN w z.natAbs) := by
  have H := Lib.hid h.2
  clear h
  go_enter Tryz.func17, Tryz.ntmps17
  go_wp2
  exact bodyPost_ret (v := .agg #[.int .u64 s, .slice p l c]) (by simp [results, Tryz.results17, go_sem]) rfl ⟨_, _, _, _, rfl, H.out.mono (below_alloc (below_alloc (Below.refl _ _) _) _), below_alloc (below_alloc (Below.refl _ _) _) _⟩
theorem iAbs_want (w : World) (u : Value) (z : Int) (h : INum w u z) : Calls Tryz.prog 17 #[u] w fun e w' => ∃ v', e = .returned v' ∧ Num w' v' z.natAbs ∧ Below w.heap.size w w' := by
  obtain ⟨g, s, p, l, c, rfl, h⟩ := h
  exact (iAbs_any z g s p l c w h).mono fun _ _ h => h.want

theorem boxesI (w : World) (g1 g2 : Bool) (s1 s2 : Int) (p1 p2 : Option Addr) (l1 c1 l2 c2 : Nat) :
    ∃ W a b, W = (w.alloc (.cells #[.bool g1, .int .u64 s1, .slice p1 l1 c1] 27)).alloc (.cells #[.bool g2, .int .u64 s2, .slice p2 l2 c2] 27) ∧ b = w.heap.size + 1 ∧ a = w.heap.size ∧
      Box W a g1 s1 p1 l1 c1 ∧ Box W b g2 s2 p2 l2 c2 ∧ Below w.heap.size w W := by
  refine ⟨_, _, _, rfl, rfl, rfl, ⟨?_, ?_, ?_⟩, ⟨?_, ?_, ?_⟩, below_alloc (below_alloc (Below.refl _ _) _) _⟩
  all_goals simp [go_sem]
theorem Box.lt {w : World} {a : Nat} {g : Bool} {s : Int} {p : Option Addr} {l c : Nat} (h : Box w a g s p l c) : a < w.heap.size := World.block_lt_of_cell? _ _ h.1
theorem Box.away {w w' : World} {bs : List Nat} {a : Nat} {g : Bool} {s : Int} {p : Option Addr} {l c : Nat} (h : Box w a g s p l c) (hA : Away bs w w') (hn : a ∉ bs) : Box w' a g s p l c := ⟨hA.cell h.1 hn, hA.cell h.2.1 hn, hA.cell h.2.2 hn⟩
end Go.Proofs.YthenfejgnjdkjaaGreatDoor

/- What single operations yield, said once: so an open statement's operations need no reckoning in a great context. -/
namespace Go.Proofs.YthenfejgnjdkjaaGreatDoor
open Go.RowKit

section
variable {P : Program} {E : Operand → Value} {w : World} {d : Option Tmp} {ty : TypeId} {pos : String} {af : Array Edge} {gd : Option (Nat × Bool)}
theorem ev_move (x : Operand) {v : Value} (h : E x = v) : Does P ⟨d, .move x, ty, pos, af, gd⟩ E w fun v' w' => v' = v ∧ Below w.heap.size w w' :=
  Does.value (v := E x) (w' := w) (by go_simp) ⟨h, Below.refl _ _⟩
theorem ev_assign (x : Operand) {v : Value} (h : E x = v) : Does P ⟨d, .assign x, ty, pos, af, gd⟩ E w fun v' w' => v' = v ∧ Below w.heap.size w w' :=
  Does.value (v := E x) (w' := w) (by go_simp) ⟨h, Below.refl _ _⟩
theorem ev_not {x : Operand} {T : TypeId} {b : Bool} (h : E x = .bool b) {v : Bool} (hv : (!b) = v) : Does P ⟨d, .unOp .not T x, ty, pos, af, gd⟩ E w fun v' w' => v' = .bool v ∧ Below w.heap.size w w' :=
  Does.value (w' := w) (by go_simp) ⟨congrArg Value.bool hv, Below.refl _ _⟩
theorem ev_pick {x a b : Operand} {c : Bool} {v : Value} (h : E x = .bool c) (h2 : (if c then E a else E b) = v) : Does P ⟨d, .pick x a b, ty, pos, af, gd⟩ E w fun v' w' => v' = v ∧ Below w.heap.size w w' := by
  cases c with
  | true => exact Does.value (v := E a) (w' := w) (by go_simp) ⟨h2, Below.refl _ _⟩
  | false => exact Does.value (v := E b) (w' := w) (by go_simp) ⟨h2, Below.refl _ _⟩
end
section
variable {E : Operand → Value} {w : World} {d : Option Tmp} {ty : TypeId} {pos : String} {af : Array Edge} {gd : Option (Nat × Bool)}
theorem ev_call0 {f : FuncId} {ts : Array TypeId} {R : Value → World → Prop} (hf : E (.func f) = .func (.func f) #[] #[]) (hr : RowKit.Hid (∀ (a : Array Value) (w : World), Sem.run Tryz.prog (callFunc f a) w = .ok (.enter f a) w)) (h : Calls Tryz.prog f #[] w fun e w' => ∃ v, e = .returned v ∧ R v w') : Does Tryz.prog ⟨d, .call ⟨.value (.func f), #[], ts⟩, ty, pos, af, gd⟩ E w R :=
  Does.call (w' := w) (by go_simp; exact hr.out _ _) h
theorem ev_call1 {f : FuncId} {x : Operand} {ts : Array TypeId} {R : Value → World → Prop} (hf : E (.func f) = .func (.func f) #[] #[]) (hr : RowKit.Hid (∀ (a : Array Value) (w : World), Sem.run Tryz.prog (callFunc f a) w = .ok (.enter f a) w)) (h : Calls Tryz.prog f #[E x] w fun e w' => ∃ v, e = .returned v ∧ R v w') : Does Tryz.prog ⟨d, .call ⟨.value (.func f), #[x], ts⟩, ty, pos, af, gd⟩ E w R :=
  Does.call (w' := w) (by go_simp; exact hr.out _ _) h
theorem ev_call2 {f : FuncId} {x y : Operand} {ts : Array TypeId} {R : Value → World → Prop} (hf : E (.func f) = .func (.func f) #[] #[]) (hr : RowKit.Hid (∀ (a : Array Value) (w : World), Sem.run Tryz.prog (callFunc f a) w = .ok (.enter f a) w)) (h : Calls Tryz.prog f #[E x, E y] w fun e w' => ∃ v, e = .returned v ∧ R v w') : Does Tryz.prog ⟨d, .call ⟨.value (.func f), #[x, y], ts⟩, ty, pos, af, gd⟩ E w R :=
  Does.call (w' := w) (by go_simp; exact hr.out _ _) h
theorem run_iNeg : RowKit.Hid (∀ (a : Array Value) (w : World), Sem.run Tryz.prog (callFunc 8 a) w = .ok (.enter 8 a) w) := fun a w => by go_simp
theorem run_iSign : RowKit.Hid (∀ (a : Array Value) (w : World), Sem.run Tryz.prog (callFunc 13 a) w = .ok (.enter 13 a) w) := fun a w => by go_simp
theorem run_iAbs : RowKit.Hid (∀ (a : Array Value) (w : World), Sem.run Tryz.prog (callFunc 17 a) w = .ok (.enter 17 a) w) := fun a w => by go_simp
theorem run_known2 : RowKit.Hid (∀ (a : Array Value) (w : World), Sem.run Tryz.prog (callFunc 11 a) w = .ok (.enter 11 a) w) := fun a w => by go_simp
end
end Go.Proofs.YthenfejgnjdkjaaGreatDoor
