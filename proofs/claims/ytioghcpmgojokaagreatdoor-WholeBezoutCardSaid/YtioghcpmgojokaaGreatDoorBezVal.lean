/- What the laws of stage 2 share. -/
import Derived.Test.YtioghcpmgojokaaGreatDoorKnown2
import Derived.Test.YtioghcpmgojokaaGreatDoorGcd
import Derived.Test.YtioghcpmgojokaaGreatDoorBezNone
namespace Go.Proofs.YtioghcpmgojokaaGreatDoor
open Go.RowKit

theorem ds_natAbs_add (x y : Int) : (ds (x + y).natAbs).length ≤ (ds x.natAbs).length + (ds y.natAbs).length :=
  Nat.le_trans (ds_mono (Int.natAbs_add_le x y)) (ds_add _ _)
theorem ds_natAbs_sub (x y : Int) : (ds (x - y).natAbs).length ≤ (ds x.natAbs).length + (ds y.natAbs).length :=
  Nat.le_trans (ds_mono (by omega : (x - y).natAbs ≤ x.natAbs + y.natAbs)) (ds_add _ _)
theorem iCmp_val (w : World) (u v : Value) (x y k : Int) (hk : cmp3 x y = k) (hx : (ds x.natAbs).length ≤ 60) (hy : (ds y.natAbs).length ≤ 60) (h1 : INum w u x) (h2 : INum w v y) :
    Calls Tryz.prog 9 #[u, v] w fun e w' => ∃ v', e = .returned v' ∧ v' = .int .i64 k ∧ Below w.heap.size w w' := by
  rw [← hk]; exact iCmp_want w u v x y hx hy h1 h2
theorem iSign_val (w : World) (u : Value) (x k : Int) (hk : cmp3 x 0 = k) (h : INum w u x) : Calls Tryz.prog 10 #[u] w fun e w' => ∃ v', e = .returned v' ∧ v' = .int .i64 k ∧ Below w.heap.size w w' := by
  rw [← hk]; exact iSign_want w u x h
theorem nCmp_val (w : World) (u v : Value) (m n : Nat) (k : Int) (hk : cmp3 m n = k) (hm : (ds m).length ≤ 60) (h1 : Num w u m) (h2 : Num w v n) :
    Calls Tryz.prog 13 #[u, v] w fun e w' => ∃ v', e = .returned v' ∧ v' = .int .i64 k ∧ Below w.heap.size w w' := by
  rw [← hk]; exact cmp_want w u v m n hm h1 h2
theorem cmp_same {x y : Int} (h : x = y) : cmp3 x y = 0 := by rw [h]; exact cmp3_eq _

set_option maxHeartbeats 400000 in
theorem iAbs_any (z : Int) (g : Bool) (s : Int) (p : Option Addr) (l c : Nat) (w : World) (h : IsI w g s p l c z) :
    Calls Tryz.prog 14 #[.agg #[.bool g, .int .u64 s, .slice p l c]] w (RetN w z.natAbs) := by
  have H := Lib.hid h.2
  clear h
  go_enter Tryz.func14, Tryz.ntmps14
  go_wp2
  exact bodyPost_ret (v := .agg #[.int .u64 s, .slice p l c]) (by simp [results, Tryz.results14, go_sem]) rfl ⟨_, _, _, _, rfl, H.out.mono (below_alloc (below_alloc (Below.refl _ _) _) _), below_alloc (below_alloc (Below.refl _ _) _) _⟩
theorem iAbs_want (w : World) (u : Value) (z : Int) (h : INum w u z) : Calls Tryz.prog 14 #[u] w fun e w' => ∃ v', e = .returned v' ∧ Num w' v' z.natAbs ∧ Below w.heap.size w w' := by
  obtain ⟨g, s, p, l, c, rfl, h⟩ := h
  exact (iAbs_any z g s p l c w h).mono fun _ _ h => h.want

/-- The boxes of the four results of 'two'. -/
theorem boxesF (w : World) (g1 g2 g3 g4 : Bool) (s1 s2 : Int) (p1 p2 p3 p4 : Option Addr) (l1 c1 l2 c2 l3 c3 l4 c4 : Nat) :
    ∃ W a b, W = (((w.alloc (.cells #[.bool g1, .int .u64 s1, .slice p1 l1 c1] 28)).alloc (.cells #[.bool g2, .int .u64 s2, .slice p2 l2 c2] 28)).alloc (.cells #[.bool g3, .slice p3 l3 c3] 32)).alloc (.cells #[.bool g4, .slice p4 l4 c4] 32) ∧ b = w.heap.size + 1 ∧ a = w.heap.size ∧
      Box W a g1 s1 p1 l1 c1 ∧ Box W b g2 s2 p2 l2 c2 ∧ Below w.heap.size w W := by
  refine ⟨_, _, _, rfl, rfl, rfl, ⟨?_, ?_, ?_⟩, ⟨?_, ?_, ?_⟩, below_alloc (below_alloc (below_alloc (below_alloc (Below.refl _ _) _) _) _) _⟩
  all_goals simp [go_sem]
/-- The boxes of two integers. -/
theorem boxesI (w : World) (g1 g2 : Bool) (s1 s2 : Int) (p1 p2 : Option Addr) (l1 c1 l2 c2 : Nat) :
    ∃ W a b, W = (w.alloc (.cells #[.bool g1, .int .u64 s1, .slice p1 l1 c1] 28)).alloc (.cells #[.bool g2, .int .u64 s2, .slice p2 l2 c2] 28) ∧ b = w.heap.size + 1 ∧ a = w.heap.size ∧
      Box W a g1 s1 p1 l1 c1 ∧ Box W b g2 s2 p2 l2 c2 ∧ Below w.heap.size w W := by
  refine ⟨_, _, _, rfl, rfl, rfl, ⟨?_, ?_, ?_⟩, ⟨?_, ?_, ?_⟩, below_alloc (below_alloc (Below.refl _ _) _) _⟩
  all_goals simp [go_sem]
theorem Box.lt {w : World} {a : Nat} {g : Bool} {s : Int} {p : Option Addr} {l c : Nat} (h : Box w a g s p l c) : a < w.heap.size := World.block_lt_of_cell? _ _ h.1
theorem Box.away {w w' : World} {bs : List Nat} {a : Nat} {g : Bool} {s : Int} {p : Option Addr} {l c : Nat} (h : Box w a g s p l c) (hA : Away bs w w') (hn : a ∉ bs) : Box w' a g s p l c := ⟨hA.cell h.1 hn, hA.cell h.2.1 hn, hA.cell h.2.2 hn⟩
theorem Away.below0 {w w' : World} (hA : Away [] w w') : Below w.heap.size w w' := hA.below (by intro b hb; cases hb) (Nat.le_refl _)
end Go.Proofs.YtioghcpmgojokaaGreatDoor

/- What single operations yield, said once: so an open statement's operations need no reckoning in a great context. -/
namespace Go.Proofs.YtioghcpmgojokaaGreatDoor
open Go.RowKit

section
variable {P : Program} {E : Operand → Value} {w : World} {d : Option Tmp} {ty : TypeId} {pos : String} {af : Array Edge} {gd : Option (Nat × Bool)}
theorem ev_move (x : Operand) {v : Value} (h : E x = v) : Does P ⟨d, .move x, ty, pos, af, gd⟩ E w fun v' w' => v' = v ∧ Below w.heap.size w w' :=
  Does.value (v := E x) (w' := w) (by go_simp) ⟨h, Below.refl _ _⟩
theorem ev_assign (x : Operand) {v : Value} (h : E x = v) : Does P ⟨d, .assign x, ty, pos, af, gd⟩ E w fun v' w' => v' = v ∧ Below w.heap.size w w' :=
  Does.value (v := E x) (w' := w) (by go_simp) ⟨h, Below.refl _ _⟩
theorem ev_not {x : Operand} {T : TypeId} {b : Bool} (h : E x = .bool b) {v : Bool} (hv : (!b) = v) : Does P ⟨d, .unOp .not T x, ty, pos, af, gd⟩ E w fun v' w' => v' = .bool v ∧ Below w.heap.size w w' :=
  Does.value (w' := w) (by go_simp) ⟨congrArg Value.bool hv, Below.refl _ _⟩
theorem ev_pick {x a b : Operand} {c : Bool} {v : Value} (h : E x = .bool c) (h2 : (if c then E a else E b) = v) : Does P ⟨d, .pick x a b, ty, pos, af, gd⟩ E w fun v' w' => v' = v ∧ Below w.heap.size w w' := by
  cases c with
  | true => exact Does.value (v := E a) (w' := w) (by go_simp) ⟨h2, Below.refl _ _⟩
  | false => exact Does.value (v := E b) (w' := w) (by go_simp) ⟨h2, Below.refl _ _⟩
end
section
variable {E : Operand → Value} {w : World} {d : Option Tmp} {ty : TypeId} {pos : String} {af : Array Edge} {gd : Option (Nat × Bool)}
theorem ev_eql {x y : Operand} {a b : Int} (h1 : E x = .int .i64 a) (h2 : E y = .int .i64 b) {v : Bool} (hv : (a == b) = v) : Does Tryz.prog ⟨d, .binOp .eql 3 x y 3, ty, pos, af, gd⟩ E w fun v' w' => v' = .bool v ∧ Below w.heap.size w w' :=
  Does.value (w' := w) (by go_simp) ⟨congrArg Value.bool hv, Below.refl _ _⟩
theorem ev_neq {x y : Operand} {a b : Int} (h1 : E x = .int .i64 a) (h2 : E y = .int .i64 b) {v : Bool} (hv : (a != b) = v) : Does Tryz.prog ⟨d, .binOp .neq 3 x y 3, ty, pos, af, gd⟩ E w fun v' w' => v' = .bool v ∧ Below w.heap.size w w' :=
  Does.value (w' := w) (by go_simp) ⟨congrArg Value.bool hv, Below.refl _ _⟩
theorem ev_neqB {x y : Operand} {a b : Bool} (h1 : E x = .bool a) (h2 : E y = .bool b) {v : Bool} (hv : (!(a == b)) = v) : Does Tryz.prog ⟨d, .binOp .neq 4 x y 4, ty, pos, af, gd⟩ E w fun v' w' => v' = .bool v ∧ Below w.heap.size w w' :=
  Does.value (w' := w) (by go_simp) ⟨congrArg Value.bool hv, Below.refl _ _⟩
theorem ev_lss {x y : Operand} {a b : Int} (h1 : E x = .int .i64 a) (h2 : E y = .int .i64 b) {v : Bool} (hv : (decide (a < b)) = v) : Does Tryz.prog ⟨d, .binOp .lss 3 x y 3, ty, pos, af, gd⟩ E w fun v' w' => v' = .bool v ∧ Below w.heap.size w w' :=
  Does.value (w' := w) (by go_simp) ⟨congrArg Value.bool hv, Below.refl _ _⟩
theorem ev_loadI {x : Operand} {b : Nat} {g : Bool} {s : Int} {p : Option Addr} {l c : Nat} {z : Int} (h : E x = .pointer (some ⟨b, 0, none⟩)) (h0 : w.cell? ⟨b, 0, none⟩ = some (.bool g)) (h1 : w.cell? ⟨b, 1, none⟩ = some (.int .u64 s)) (h2 : w.cell? ⟨b, 2, none⟩ = some (.slice p l c)) (hm : Means w (.int z) (.agg #[.bool g, .int .u64 s, .slice p l c])) :
    Does Tryz.prog ⟨d, .load 28 x, ty, pos, af, gd⟩ E w fun v' w' => Means w' (.int z) v' ∧ Below w.heap.size w w' :=
  Does.value (v := .agg #[.bool g, .int .u64 s, .slice p l c]) (w' := w) (by go_simp) ⟨hm, Below.refl _ _⟩
theorem ev_call0 {f : FuncId} {ts : Array TypeId} {R : Value → World → Prop} (hf : E (.func f) = .func (.func f) #[] #[]) (hr : RowKit.Hid (∀ (a : Array Value) (w : World), Sem.run Tryz.prog (callFunc f a) w = .ok (.enter f a) w)) (h : Calls Tryz.prog f #[] w fun e w' => ∃ v, e = .returned v ∧ R v w') : Does Tryz.prog ⟨d, .call ⟨.value (.func f), #[], ts⟩, ty, pos, af, gd⟩ E w R :=
  Does.call (w' := w) (by go_simp; exact hr.out _ _) h
theorem ev_call1 {f : FuncId} {x : Operand} {ts : Array TypeId} {R : Value → World → Prop} (hf : E (.func f) = .func (.func f) #[] #[]) (hr : RowKit.Hid (∀ (a : Array Value) (w : World), Sem.run Tryz.prog (callFunc f a) w = .ok (.enter f a) w)) (h : Calls Tryz.prog f #[E x] w fun e w' => ∃ v, e = .returned v ∧ R v w') : Does Tryz.prog ⟨d, .call ⟨.value (.func f), #[x], ts⟩, ty, pos, af, gd⟩ E w R :=
  Does.call (w' := w) (by go_simp; exact hr.out _ _) h
theorem ev_call2 {f : FuncId} {x y : Operand} {ts : Array TypeId} {R : Value → World → Prop} (hf : E (.func f) = .func (.func f) #[] #[]) (hr : RowKit.Hid (∀ (a : Array Value) (w : World), Sem.run Tryz.prog (callFunc f a) w = .ok (.enter f a) w)) (h : Calls Tryz.prog f #[E x, E y] w fun e w' => ∃ v, e = .returned v ∧ R v w') : Does Tryz.prog ⟨d, .call ⟨.value (.func f), #[x, y], ts⟩, ty, pos, af, gd⟩ E w R :=
  Does.call (w' := w) (by go_simp; exact hr.out _ _) h
theorem run_iAdd : RowKit.Hid (∀ (a : Array Value) (w : World), Sem.run Tryz.prog (callFunc 8 a) w = .ok (.enter 8 a) w) := fun a w => by go_simp
theorem run_iSub : RowKit.Hid (∀ (a : Array Value) (w : World), Sem.run Tryz.prog (callFunc 23 a) w = .ok (.enter 23 a) w) := fun a w => by go_simp
theorem run_iMul : RowKit.Hid (∀ (a : Array Value) (w : World), Sem.run Tryz.prog (callFunc 7 a) w = .ok (.enter 7 a) w) := fun a w => by go_simp
theorem run_iNeg : RowKit.Hid (∀ (a : Array Value) (w : World), Sem.run Tryz.prog (callFunc 47 a) w = .ok (.enter 47 a) w) := fun a w => by go_simp
theorem run_iCmp : RowKit.Hid (∀ (a : Array Value) (w : World), Sem.run Tryz.prog (callFunc 9 a) w = .ok (.enter 9 a) w) := fun a w => by go_simp
theorem run_iSign : RowKit.Hid (∀ (a : Array Value) (w : World), Sem.run Tryz.prog (callFunc 10 a) w = .ok (.enter 10 a) w) := fun a w => by go_simp
theorem run_iAbs : RowKit.Hid (∀ (a : Array Value) (w : World), Sem.run Tryz.prog (callFunc 14 a) w = .ok (.enter 14 a) w) := fun a w => by go_simp
theorem run_nCmp : RowKit.Hid (∀ (a : Array Value) (w : World), Sem.run Tryz.prog (callFunc 13 a) w = .ok (.enter 13 a) w) := fun a w => by go_simp
theorem run_known2 : RowKit.Hid (∀ (a : Array Value) (w : World), Sem.run Tryz.prog (callFunc 6 a) w = .ok (.enter 6 a) w) := fun a w => by go_simp
end
end Go.Proofs.YtioghcpmgojokaaGreatDoor

/- What the law of Bezout's factors rests on. -/
namespace Go.Proofs.YtioghcpmgojokaaGreatDoor
open Go.RowKit

theorem sized_of {m : Nat} (h : (ds m).length ≤ 100) : Sized m := by
  intro k hk
  have h1 := ds_mono hk
  have h2 := bitLen_ds k
  have h3 := bitLen_lt_pow.1 (getD_lt (ds_lt k) (by omega) ((ds k).length - 1))
  exact ⟨by omega, by omega⟩
theorem iGcd_val (w : World) (u v : Value) (x y : Int) (n : Nat) (hn : Nat.gcd x.natAbs y.natAbs = n) (hx : (ds x.natAbs).length ≤ 40) (hy : (ds y.natAbs).length ≤ 40) (hT : Tab64 w) (h1 : INum w u x) (h2 : INum w v y) :
    Calls Tryz.prog 12 #[u, v] w fun e w' => ∃ v', e = .returned v' ∧ Num w' v' n ∧ Below w.heap.size w w' := by
  obtain ⟨g, s, p, l, c, rfl, h1⟩ := h1
  obtain ⟨f, t, q, k, d, rfl, h2⟩ := h2
  subst hn
  exact (gcd_any (x.natAbs + y.natAbs) x.natAbs y.natAbs g f s t p q l c k d w (sized_of (by have := ds_add x.natAbs y.natAbs; omega)) (by omega) (by omega) h1.2 h2.2 hT).mono fun e w' ⟨s, p, l, c, h, hi, hb⟩ => ⟨_, h, ⟨s, p, l, c, rfl, hi⟩, hb⟩
theorem iFrom_val (w : World) (u : Value) (n : Nat) (h : Num w u n) : Calls Tryz.prog 11 #[.bool false, u] w fun e w' => ∃ v', e = .returned v' ∧ INum w' v' (n : Int) ∧ Below w.heap.size w w' :=
  iFrom_want w u false n h
theorem iAbs_val (w : World) (u : Value) (z : Int) (n : Nat) (hn : z.natAbs = n) (h : INum w u z) : Calls Tryz.prog 14 #[u] w fun e w' => ∃ v', e = .returned v' ∧ Num w' v' n ∧ Below w.heap.size w w' := by
  subst hn; exact iAbs_want w u z h
theorem nText_one (w : World) (u : Value) (h : Num w u 1) : Calls Tryz.prog 16 #[u] w fun e w' => ∃ v', e = .returned v' ∧ v' = .string ⟨#[49]⟩ ∧ Below w.heap.size w w' := by
  obtain ⟨s, p, l, c, rfl, ⟨_, h2, h3, h4, h5⟩ | ⟨h, _⟩⟩ := h
  · subst h2 h3 h4 h5
    exact (text_short 1 _ w small_1).mono fun e w' ⟨h, hb⟩ => ⟨_, h, rfl, hb⟩
  · omega
theorem run_iGcd : RowKit.Hid (∀ (a : Array Value) (w : World), Sem.run Tryz.prog (callFunc 12 a) w = .ok (.enter 12 a) w) := fun a w => by go_simp
theorem run_iFrom : RowKit.Hid (∀ (a : Array Value) (w : World), Sem.run Tryz.prog (callFunc 11 a) w = .ok (.enter 11 a) w) := fun a w => by go_simp
theorem run_nText : RowKit.Hid (∀ (a : Array Value) (w : World), Sem.run Tryz.prog (callFunc 16 a) w = .ok (.enter 16 a) w) := fun a w => by go_simp
theorem ev_geq {E : Operand → Value} {w : World} {d : Option Tmp} {ty : TypeId} {pos : String} {af : Array Edge} {gd : Option (Nat × Bool)} {x y : Operand} {a b : Int} (h1 : E x = .int .i64 a) (h2 : E y = .int .i64 b) {v : Bool} (hv : (decide (b ≤ a)) = v) : Does Tryz.prog ⟨d, .binOp .geq 3 x y 3, ty, pos, af, gd⟩ E w fun v' w' => v' = .bool v ∧ Below w.heap.size w w' :=
  Does.value (w' := w) (by go_simp) ⟨congrArg Value.bool hv, Below.refl _ _⟩
/-- The boxes of three integers. -/
theorem boxes3I (w : World) (g1 g2 g3 : Bool) (s1 s2 s3 : Int) (p1 p2 p3 : Option Addr) (l1 c1 l2 c2 l3 c3 : Nat) :
    ∃ W a b d, W = ((w.alloc (.cells #[.bool g1, .int .u64 s1, .slice p1 l1 c1] 28)).alloc (.cells #[.bool g2, .int .u64 s2, .slice p2 l2 c2] 28)).alloc (.cells #[.bool g3, .int .u64 s3, .slice p3 l3 c3] 28) ∧ d = w.heap.size + 1 + 1 ∧ b = w.heap.size + 1 ∧ a = w.heap.size ∧
      Box W a g1 s1 p1 l1 c1 ∧ Box W b g2 s2 p2 l2 c2 ∧ Box W d g3 s3 p3 l3 c3 ∧ Below w.heap.size w W := by
  refine ⟨_, _, _, _, rfl, rfl, rfl, rfl, ⟨?_, ?_, ?_⟩, ⟨?_, ?_, ?_⟩, ⟨?_, ?_, ?_⟩, below_alloc (below_alloc (below_alloc (Below.refl _ _) _) _) _⟩
  all_goals simp [go_sem]

theorem qdiv_of_dvd {z : Int} {d : Nat} (h0 : 0 < d) (h : d ∣ z.natAbs) : qmod z (d : Int) = 0 ∧ (qdiv z (d : Int)).natAbs * d = z.natAbs := by
  obtain ⟨t, rfl⟩ : (d : Int) ∣ z := Int.natAbs_dvd_natAbs.1 (by rw [Int.natAbs_natCast]; exact h)
  have h1 := qdiv_unique (x := (d : Int) * t) (y := (d : Int)) (q := t) (r := 0) (by rw [Int.mul_comm, Int.add_zero]) (Or.inl ⟨by omega, by omega⟩)
  rw [← h1.1, ← h1.2, Int.natAbs_mul, Int.natAbs_natCast, Nat.mul_comm]
  exact ⟨rfl, rfl⟩
/-- What is left of both has nothing in common. -/
theorem bez_parts {x y : Int} {d : Nat} (hd : Nat.gcd x.natAbs y.natAbs = d) (h0 : 0 < d) :
    qmod x (d : Int) = 0 ∧ qmod y (d : Int) = 0 ∧ Nat.gcd (qdiv x (d : Int)).natAbs (qdiv y (d : Int)).natAbs = 1 ∧ (qdiv y (d : Int)).natAbs = y.natAbs / d ∧ (qdiv x (d : Int)).natAbs ≤ x.natAbs ∧ (qdiv y (d : Int)).natAbs ≤ y.natAbs := by
  have h1 := qdiv_of_dvd (z := x) h0 (hd ▸ Nat.gcd_dvd_left _ _)
  have h2 := qdiv_of_dvd (z := y) h0 (hd ▸ Nat.gcd_dvd_right _ _)
  refine ⟨h1.1, h2.1, ?_, ?_, ?_, ?_⟩
  · have h3 : Nat.gcd (qdiv x (d : Int)).natAbs (qdiv y (d : Int)).natAbs * d = 1 * d := by rw [← Nat.gcd_mul_right, h1.2, h2.2, hd, Nat.one_mul]
    exact Nat.eq_of_mul_eq_mul_right h0 h3
  · rw [← h2.2, Nat.mul_div_cancel _ h0]
  · rw [← h1.2]; exact Nat.le_mul_of_pos_right _ h0
  · rw [← h2.2]; exact Nat.le_mul_of_pos_right _ h0
theorem mul_sign (x : Int) : x * cmp3 x 0 = (x.natAbs : Int) := by
  unfold cmp3
  split
  · omega
  · split <;> omega
theorem bez_eq {x y X Y : Int} {d : Nat} (hs : BezSpec x y X Y) (hd : Nat.gcd x.natAbs y.natAbs = d) : x * X + y * Y = (d : Int) := by
  by_cases hy : y = 0
  · obtain ⟨h1, h2⟩ := hs.1 hy
    rw [h1, h2, mul_sign, hy, ← hd, hy]
    simp
  · rw [← hd]; exact (hs.2 hy).1
theorem bez_sizes {x y X Y : Int} (hs : BezSpec x y X Y) (hx : (ds x.natAbs).length ≤ 5) (hy : (ds y.natAbs).length ≤ 5) : (ds X.natAbs).length ≤ 5 ∧ (ds Y.natAbs).length ≤ 15 := by
  have h5 : (ds 1).length = 1 := ds_one (by omega)
  by_cases h0 : y = 0
  · obtain ⟨h1, h2⟩ := hs.1 h0
    have h3 : X.natAbs ≤ 1 := by rw [h1]; unfold cmp3; split <;> (try split) <;> omega
    have h4 := ds_mono h3
    have h6 := ds_mono (show Y.natAbs ≤ 1 by rw [h2]; decide)
    omega
  · obtain ⟨h1, h2, h3⟩ := hs.2 h0
    have hg0 : 0 < Nat.gcd x.natAbs y.natAbs := Nat.gcd_pos_of_pos_right _ (by omega)
    have hgy : Nat.gcd x.natAbs y.natAbs ≤ y.natAbs := Nat.gcd_le_right _ (by omega)
    have h4 : X.natAbs ≤ y.natAbs := by have := Nat.div_le_self y.natAbs (Nat.gcd x.natAbs y.natAbs); omega
    have h6 := ds_mono h4
    have h7 := ds_natAbs_mul x X
    have h8 : Y.natAbs ≤ y.natAbs + (x * X).natAbs := by
      have e1 : (y * Y).natAbs ≤ y.natAbs + (x * X).natAbs := by omega
      rw [Int.natAbs_mul] at e1
      exact Nat.le_trans (Nat.le_mul_of_pos_left _ (by omega)) e1
    have h9 := ds_mono h8
    have h10 := ds_add y.natAbs (x * X).natAbs
    omega
end Go.Proofs.YtioghcpmgojokaaGreatDoor
