/- The examples of chapter 2. -/
import Derived.Test.YtjhjlecnjkjbbaaGreatDoorBez
import Derived.Test.YtjhjlecnjkjbbaaGreatDoorQuot
namespace Go.Proofs.YtjhjlecnjkjbbaaGreatDoor
open Go.RowKit

set_option maxRecDepth 100000 in
set_option maxHeartbeats 400000 in
theorem small_2 (w : World) : Calls Tryz.prog 80 #[.int .u64 2, .int .i64 10] w fun e w' => e = .returned (.string ⟨#[50]⟩) ∧ w = w' := by
  go_enter Tryz.func80, Tryz.ntmps80
  go_wp2
  go_ret
  exact ⟨rfl, rfl⟩

theorem isI_small {w : World} {g : Bool} {s : Int} {p : Option Addr} {l c : Nat} {z : Int} (h : IsI w g s p l c z) (hz : z.natAbs < 2 ^ 64) : g = decide (z < 0) ∧ s = (z.natAbs : Int) ∧ p = none ∧ l = 0 ∧ c = 0 := by
  refine ⟨h.1, ?_⟩
  rcases h.2 with ⟨_, h2⟩ | ⟨h2, _⟩
  · exact h2
  · omega

set_option maxHeartbeats 400000 in
theorem iText_pos (n : Int) (t : ByteArray) (w : World) (H : ∀ w, Calls Tryz.prog 80 #[.int .u64 n, .int .i64 10] w fun e w' => e = .returned (.string t) ∧ w = w') :
    Calls Tryz.prog 103 #[.agg #[.bool false, .int .u64 n, .slice none 0 0]] w fun e w' => e = .returned (.string t) ∧ Below w.heap.size w w' := by
  have HH := Lib.hid (fun w => text_short n t w H); clear H
  go_enter Tryz.func103, Tryz.ntmps103
  go_wp2_with fail
  refine (HH.out _).mono ?_
  rintro e w1 ⟨rfl, hb⟩
  go_wp2
  go_ret
  exact ⟨rfl, below_step (below_alloc (Below.refl _ _) _) hb⟩
set_option maxHeartbeats 400000 in
theorem iText_m1 (w : World) : Calls Tryz.prog 103 #[.agg #[.bool true, .int .u64 1, .slice none 0 0]] w fun e w' => e = .returned (.string ⟨#[45, 49]⟩) ∧ Below w.heap.size w w' := by
  have HH := Lib.hid (fun w => text_short 1 _ w small_1)
  go_enter Tryz.func103, Tryz.ntmps103
  go_wp2_with fail
  refine (HH.out _).mono ?_
  rintro e w1 ⟨rfl, hb⟩
  go_wp2
  go_ret
  exact ⟨rfl, below_step (below_alloc (Below.refl _ _) _) hb⟩

end Go.Proofs.YtjhjlecnjkjbbaaGreatDoor

/- What the laws of stage 2 share. -/
namespace Go.Proofs.YtjhjlecnjkjbbaaGreatDoor
open Go.RowKit

theorem ds_natAbs_add (x y : Int) : (ds (x + y).natAbs).length ≤ (ds x.natAbs).length + (ds y.natAbs).length :=
  Nat.le_trans (ds_mono (Int.natAbs_add_le x y)) (ds_add _ _)
theorem iCmp_val (w : World) (u v : Value) (x y k : Int) (hk : cmp3 x y = k) (hx : (ds x.natAbs).length ≤ 60) (hy : (ds y.natAbs).length ≤ 60) (h1 : INum w u x) (h2 : INum w v y) :
    Calls Tryz.prog 67 #[u, v] w fun e w' => ∃ v', e = .returned v' ∧ v' = .int .i64 k ∧ Below w.heap.size w w' := by
  rw [← hk]; exact iCmp_want w u v x y hx hy h1 h2
theorem iSign_val (w : World) (u : Value) (x k : Int) (hk : cmp3 x 0 = k) (h : INum w u x) : Calls Tryz.prog 69 #[u] w fun e w' => ∃ v', e = .returned v' ∧ v' = .int .i64 k ∧ Below w.heap.size w w' := by
  rw [← hk]; exact iSign_want w u x h
theorem nCmp_val (w : World) (u v : Value) (m n : Nat) (k : Int) (hk : cmp3 m n = k) (hm : (ds m).length ≤ 60) (h1 : Num w u m) (h2 : Num w v n) :
    Calls Tryz.prog 55 #[u, v] w fun e w' => ∃ v', e = .returned v' ∧ v' = .int .i64 k ∧ Below w.heap.size w w' := by
  rw [← hk]; exact cmp_want w u v m n hm h1 h2
set_option maxHeartbeats 400000 in
theorem iAbs_any (z : Int) (g : Bool) (s : Int) (p : Option Addr) (l c : Nat) (w : World) (h : IsI w g s p l c z) :
    Calls Tryz.prog 46 #[.agg #[.bool g, .int .u64 s, .slice p l c]] w (RetN w z.natAbs) := by
  have H := Lib.hid h.2
  clear h
  go_enter Tryz.func46, Tryz.ntmps46
  go_wp2
  exact bodyPost_ret (v := .agg #[.int .u64 s, .slice p l c]) (by simp [results, Tryz.results46, go_sem]) rfl ⟨_, _, _, _, rfl, H.out.mono (below_alloc (below_alloc (Below.refl _ _) _) _), below_alloc (below_alloc (Below.refl _ _) _) _⟩
theorem iAbs_want (w : World) (u : Value) (z : Int) (h : INum w u z) : Calls Tryz.prog 46 #[u] w fun e w' => ∃ v', e = .returned v' ∧ Num w' v' z.natAbs ∧ Below w.heap.size w w' := by
  obtain ⟨g, s, p, l, c, rfl, h⟩ := h
  exact (iAbs_any z g s p l c w h).mono fun _ _ h => h.want

theorem Box.lt {w : World} {a : Nat} {g : Bool} {s : Int} {p : Option Addr} {l c : Nat} (h : Box w a g s p l c) : a < w.heap.size := World.block_lt_of_cell? _ _ h.1
theorem Box.away {w w' : World} {bs : List Nat} {a : Nat} {g : Bool} {s : Int} {p : Option Addr} {l c : Nat} (h : Box w a g s p l c) (hA : Away bs w w') (hn : a ∉ bs) : Box w' a g s p l c := ⟨hA.cell h.1 hn, hA.cell h.2.1 hn, hA.cell h.2.2 hn⟩
end Go.Proofs.YtjhjlecnjkjbbaaGreatDoor

/- What single operations yield, said once: so an open statement's operations need no reckoning in a great context. -/
namespace Go.Proofs.YtjhjlecnjkjbbaaGreatDoor
open Go.RowKit

section
variable {P : Program} {E : Operand → Value} {w : World} {d : Option Tmp} {ty : TypeId} {pos : String} {af : Array Edge} {gd : Option (Nat × Bool)}
theorem ev_move (x : Operand) {v : Value} (h : E x = v) : Does P ⟨d, .move x, ty, pos, af, gd⟩ E w fun v' w' => v' = v ∧ Below w.heap.size w w' :=
  Does.value (v := E x) (w' := w) (by go_simp) ⟨h, Below.refl _ _⟩
theorem ev_assign (x : Operand) {v : Value} (h : E x = v) : Does P ⟨d, .assign x, ty, pos, af, gd⟩ E w fun v' w' => v' = v ∧ Below w.heap.size w w' :=
  Does.value (v := E x) (w' := w) (by go_simp) ⟨h, Below.refl _ _⟩
theorem ev_not {x : Operand} {T : TypeId} {b : Bool} (h : E x = .bool b) {v : Bool} (hv : (!b) = v) : Does P ⟨d, .unOp .not T x, ty, pos, af, gd⟩ E w fun v' w' => v' = .bool v ∧ Below w.heap.size w w' :=
  Does.value (w' := w) (by go_simp) ⟨congrArg Value.bool hv, Below.refl _ _⟩
theorem ev_pick {x a b : Operand} {c : Bool} {v : Value} (h : E x = .bool c) (h2 : (if c then E a else E b) = v) : Does P ⟨d, .pick x a b, ty, pos, af, gd⟩ E w fun v' w' => v' = v ∧ Below w.heap.size w w' := by
  cases c with
  | true => exact Does.value (v := E a) (w' := w) (by go_simp) ⟨h2, Below.refl _ _⟩
  | false => exact Does.value (v := E b) (w' := w) (by go_simp) ⟨h2, Below.refl _ _⟩
end
section
variable {E : Operand → Value} {w : World} {d : Option Tmp} {ty : TypeId} {pos : String} {af : Array Edge} {gd : Option (Nat × Bool)}
theorem ev_eql {x y : Operand} {a b : Int} (h1 : E x = .int .i64 a) (h2 : E y = .int .i64 b) {v : Bool} (hv : (a == b) = v) : Does Tryz.prog ⟨d, .binOp .eql 3 x y 3, ty, pos, af, gd⟩ E w fun v' w' => v' = .bool v ∧ Below w.heap.size w w' :=
  Does.value (w' := w) (by go_simp) ⟨congrArg Value.bool hv, Below.refl _ _⟩
theorem ev_neq {x y : Operand} {a b : Int} (h1 : E x = .int .i64 a) (h2 : E y = .int .i64 b) {v : Bool} (hv : (a != b) = v) : Does Tryz.prog ⟨d, .binOp .neq 3 x y 3, ty, pos, af, gd⟩ E w fun v' w' => v' = .bool v ∧ Below w.heap.size w w' :=
  Does.value (w' := w) (by go_simp) ⟨congrArg Value.bool hv, Below.refl _ _⟩
theorem ev_neqB {x y : Operand} {a b : Bool} (h1 : E x = .bool a) (h2 : E y = .bool b) {v : Bool} (hv : (!(a == b)) = v) : Does Tryz.prog ⟨d, .binOp .neq 4 x y 4, ty, pos, af, gd⟩ E w fun v' w' => v' = .bool v ∧ Below w.heap.size w w' :=
  Does.value (w' := w) (by go_simp) ⟨congrArg Value.bool hv, Below.refl _ _⟩
theorem ev_lss {x y : Operand} {a b : Int} (h1 : E x = .int .i64 a) (h2 : E y = .int .i64 b) {v : Bool} (hv : (decide (a < b)) = v) : Does Tryz.prog ⟨d, .binOp .lss 3 x y 3, ty, pos, af, gd⟩ E w fun v' w' => v' = .bool v ∧ Below w.heap.size w w' :=
  Does.value (w' := w) (by go_simp) ⟨congrArg Value.bool hv, Below.refl _ _⟩
theorem ev_call0 {f : FuncId} {ts : Array TypeId} {R : Value → World → Prop} (hf : E (.func f) = .func (.func f) #[] #[]) (hr : RowKit.Hid (∀ (a : Array Value) (w : World), Sem.run Tryz.prog (callFunc f a) w = .ok (.enter f a) w)) (h : Calls Tryz.prog f #[] w fun e w' => ∃ v, e = .returned v ∧ R v w') : Does Tryz.prog ⟨d, .call ⟨.value (.func f), #[], ts⟩, ty, pos, af, gd⟩ E w R :=
  Does.call (w' := w) (by go_simp; exact hr.out _ _) h
theorem ev_call1 {f : FuncId} {x : Operand} {ts : Array TypeId} {R : Value → World → Prop} (hf : E (.func f) = .func (.func f) #[] #[]) (hr : RowKit.Hid (∀ (a : Array Value) (w : World), Sem.run Tryz.prog (callFunc f a) w = .ok (.enter f a) w)) (h : Calls Tryz.prog f #[E x] w fun e w' => ∃ v, e = .returned v ∧ R v w') : Does Tryz.prog ⟨d, .call ⟨.value (.func f), #[x], ts⟩, ty, pos, af, gd⟩ E w R :=
  Does.call (w' := w) (by go_simp; exact hr.out _ _) h
theorem ev_call2 {f : FuncId} {x y : Operand} {ts : Array TypeId} {R : Value → World → Prop} (hf : E (.func f) = .func (.func f) #[] #[]) (hr : RowKit.Hid (∀ (a : Array Value) (w : World), Sem.run Tryz.prog (callFunc f a) w = .ok (.enter f a) w)) (h : Calls Tryz.prog f #[E x, E y] w fun e w' => ∃ v, e = .returned v ∧ R v w') : Does Tryz.prog ⟨d, .call ⟨.value (.func f), #[x, y], ts⟩, ty, pos, af, gd⟩ E w R :=
  Does.call (w' := w) (by go_simp; exact hr.out _ _) h
theorem run_iAdd : RowKit.Hid (∀ (a : Array Value) (w : World), Sem.run Tryz.prog (callFunc 54 a) w = .ok (.enter 54 a) w) := fun a w => by go_simp
theorem run_iMul : RowKit.Hid (∀ (a : Array Value) (w : World), Sem.run Tryz.prog (callFunc 60 a) w = .ok (.enter 60 a) w) := fun a w => by go_simp
theorem run_iNeg : RowKit.Hid (∀ (a : Array Value) (w : World), Sem.run Tryz.prog (callFunc 71 a) w = .ok (.enter 71 a) w) := fun a w => by go_simp
theorem run_iCmp : RowKit.Hid (∀ (a : Array Value) (w : World), Sem.run Tryz.prog (callFunc 67 a) w = .ok (.enter 67 a) w) := fun a w => by go_simp
theorem run_iSign : RowKit.Hid (∀ (a : Array Value) (w : World), Sem.run Tryz.prog (callFunc 69 a) w = .ok (.enter 69 a) w) := fun a w => by go_simp
theorem run_iAbs : RowKit.Hid (∀ (a : Array Value) (w : World), Sem.run Tryz.prog (callFunc 46 a) w = .ok (.enter 46 a) w) := fun a w => by go_simp
theorem run_nCmp : RowKit.Hid (∀ (a : Array Value) (w : World), Sem.run Tryz.prog (callFunc 55 a) w = .ok (.enter 55 a) w) := fun a w => by go_simp
end
end Go.Proofs.YtjhjlecnjkjbbaaGreatDoor
