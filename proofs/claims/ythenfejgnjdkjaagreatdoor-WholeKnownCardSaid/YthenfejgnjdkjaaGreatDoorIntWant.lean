/- The quotient of the program's integers. -/
import Derived.Test.YthenfejgnjdkjaaGreatDoorInt2
import Derived.Test.YthenfejgnjdkjaaGreatDoorDivN
import Derived.Test.YthenfejgnjdkjaaGreatDoorReg
namespace Go.Proofs.YthenfejgnjdkjaaGreatDoor
open Go.RowKit

def qdiv (x y : Int) : Int := if 0 < y then x / y else (-x) / (-y)
def qmod (x y : Int) : Int := x - qdiv x y * y
theorem qdiv_unique {x y q r : Int} (h : x = q * y + r) (hr : (0 ≤ r ∧ r < y) ∨ (y < r ∧ r ≤ 0)) : q = qdiv x y ∧ r = qmod x y := by
  have h1 : q = qdiv x y := by
    unfold qdiv
    rcases hr with ⟨h1, h2⟩ | ⟨h1, h2⟩
    · rw [if_pos (by omega)]
      exact (Int.ediv_emod_unique (a := x) (b := y) (r := r) (q := q) (by omega)).2 ⟨by rw [h, Int.mul_comm]; omega, h1, h2⟩ |>.1.symm
    · rw [if_neg (by omega)]
      exact (Int.ediv_emod_unique (a := -x) (b := -y) (r := -r) (q := q) (by omega)).2 ⟨by rw [h]; grind, by omega, by omega⟩ |>.1.symm
  refine ⟨h1, ?_⟩
  unfold qmod
  rw [← h1]
  omega
theorem qdiv_parts {x y : Int} (hy : y ≠ 0) : x = qdiv x y * y + qmod x y ∧ ((0 ≤ qmod x y ∧ qmod x y < y) ∨ (y < qmod x y ∧ qmod x y ≤ 0)) := by
  refine ⟨by unfold qmod; omega, ?_⟩
  rcases Int.lt_or_le 0 y with h | h
  · left
    have e : qmod x y = x % y := by unfold qmod qdiv; rw [if_pos h, Int.mul_comm]; have := Int.mul_ediv_add_emod x y; omega
    rw [e]; exact ⟨Int.emod_nonneg _ (by omega), Int.emod_lt_of_pos _ h⟩
  · right
    have e : qmod x y = -((-x) % (-y)) := by unfold qmod qdiv; rw [if_neg (by omega)]; have := Int.mul_ediv_add_emod (-x) (-y); grind
    have h1 := Int.emod_nonneg (-x) (b := -y) (by omega)
    have h2 := Int.emod_lt_of_pos (-x) (b := -y) (by omega)
    rw [e]; omega

theorem parts_same {x y : Int} (hy : y ≠ 0) (h : decide (x < 0) = decide (y < 0)) : sgn false (x.natAbs / y.natAbs) = qdiv x y ∧ sgn (decide (y < 0)) (x.natAbs % y.natAbs) = qmod x y := by
  obtain ⟨m, hm⟩ := int_cases x
  obtain ⟨n, hn⟩ := int_cases y
  have hn0 : n ≠ 0 := by rcases hn with ⟨h1, _, _⟩ | ⟨_, h1, _, _⟩ <;> omega
  have h1 := Nat.div_add_mod m n
  have h2 := Nat.mod_lt m (show 0 < n by omega)
  have h3 : ((n * (m / n) + m % n : Nat) : Int) = m := by rw [h1]
  rw [Int.natCast_add, Int.natCast_mul] at h3
  have e1 : x.natAbs = m := by rcases hm with h | h <;> exact (by first | exact h.2.2 | exact h.2.2.2)
  have e2 : y.natAbs = n := by rcases hn with h | h <;> exact (by first | exact h.2.2 | exact h.2.2.2)
  rw [e1, e2]
  generalize m / n = Q at *
  generalize m % n = R at *
  refine qdiv_unique ?_ ?_
  · rcases hm with ⟨rfl, d1, _⟩ | ⟨rfl, _, d1, _⟩ <;> rcases hn with ⟨rfl, d2, _⟩ | ⟨rfl, _, d2, _⟩ <;> rw [d1, d2] at h <;> first | exact absurd h (by decide) | (rw [d2]; simp only [sgn, if_true, if_false, Bool.false_eq_true]; grind)
  · rcases hm with ⟨rfl, d1, _⟩ | ⟨rfl, _, d1, _⟩ <;> rcases hn with ⟨rfl, d2, _⟩ | ⟨rfl, _, d2, _⟩ <;> rw [d1, d2] at h <;> first | exact absurd h (by decide) | (rw [d2]; simp only [sgn, if_true, if_false, Bool.false_eq_true]; omega)
theorem parts_zero {x y : Int} (hy : y ≠ 0) (h : decide (x < 0) ≠ decide (y < 0)) (h0 : x.natAbs % y.natAbs = 0) : sgn true (x.natAbs / y.natAbs) = qdiv x y ∧ sgn (decide (y < 0)) (x.natAbs % y.natAbs) = qmod x y := by
  obtain ⟨m, hm⟩ := int_cases x
  obtain ⟨n, hn⟩ := int_cases y
  have hn0 : n ≠ 0 := by rcases hn with ⟨h1, _, _⟩ | ⟨_, h1, _, _⟩ <;> omega
  have h1 := Nat.div_add_mod m n
  have h3 : ((n * (m / n) + m % n : Nat) : Int) = m := by rw [h1]
  rw [Int.natCast_add, Int.natCast_mul] at h3
  have e1 : x.natAbs = m := by rcases hm with h | h <;> exact (by first | exact h.2.2 | exact h.2.2.2)
  have e2 : y.natAbs = n := by rcases hn with h | h <;> exact (by first | exact h.2.2 | exact h.2.2.2)
  rw [e1, e2] at h0 ⊢
  rw [h0] at h3 ⊢
  generalize m / n = Q at *
  refine qdiv_unique ?_ ?_
  · rcases hm with ⟨rfl, d1, _⟩ | ⟨rfl, _, d1, _⟩ <;> rcases hn with ⟨rfl, d2, _⟩ | ⟨rfl, _, d2, _⟩ <;> rw [d1, d2] at h <;> first | exact absurd rfl h | (rw [d2]; simp only [sgn, if_true, if_false, Bool.false_eq_true]; grind)
  · rcases hm with ⟨rfl, d1, _⟩ | ⟨rfl, _, d1, _⟩ <;> rcases hn with ⟨rfl, d2, _⟩ | ⟨rfl, _, d2, _⟩ <;> rw [d1, d2] at h <;> first | exact absurd rfl h | (rw [d2]; simp only [sgn, if_true, if_false, Bool.false_eq_true]; omega)
theorem parts_more {x y : Int} (hy : y ≠ 0) (h : decide (x < 0) ≠ decide (y < 0)) (h0 : x.natAbs % y.natAbs ≠ 0) : sgn true (x.natAbs / y.natAbs + 1) = qdiv x y ∧ sgn (decide (y < 0)) (y.natAbs - x.natAbs % y.natAbs) = qmod x y := by
  obtain ⟨m, hm⟩ := int_cases x
  obtain ⟨n, hn⟩ := int_cases y
  have hn0 : n ≠ 0 := by rcases hn with ⟨h1, _, _⟩ | ⟨_, h1, _, _⟩ <;> omega
  have h1 := Nat.div_add_mod m n
  have h2 := Nat.mod_lt m (show 0 < n by omega)
  have h3 : ((n * (m / n) + m % n : Nat) : Int) = m := by rw [h1]
  rw [Int.natCast_add, Int.natCast_mul] at h3
  have e1 : x.natAbs = m := by rcases hm with h | h <;> exact (by first | exact h.2.2 | exact h.2.2.2)
  have e2 : y.natAbs = n := by rcases hn with h | h <;> exact (by first | exact h.2.2 | exact h.2.2.2)
  rw [e1, e2] at h0 ⊢
  generalize m / n = Q at *
  generalize m % n = R at *
  obtain ⟨D, hD⟩ : ∃ D, D = n - R := ⟨_, rfl⟩
  have hDn : (D : Int) = n - R := by omega
  rw [← hD]
  refine qdiv_unique ?_ ?_
  · rcases hm with ⟨rfl, d1, _⟩ | ⟨rfl, _, d1, _⟩ <;> rcases hn with ⟨rfl, d2, _⟩ | ⟨rfl, _, d2, _⟩ <;> rw [d1, d2] at h <;> first | exact absurd rfl h | (rw [d2]; simp only [sgn, if_true, if_false, Bool.false_eq_true, Int.natCast_add]; grind)
  · rcases hm with ⟨rfl, d1, _⟩ | ⟨rfl, _, d1, _⟩ <;> rcases hn with ⟨rfl, d2, _⟩ | ⟨rfl, _, d2, _⟩ <;> rw [d1, d2] at h <;> first | exact absurd rfl h | (rw [d2]; simp only [sgn, if_true, if_false, Bool.false_eq_true]; omega)

end Go.Proofs.YthenfejgnjdkjaaGreatDoor

/- The operations on integers, in the words of an open statement. -/
namespace Go.Proofs.YthenfejgnjdkjaaGreatDoor
open Go.RowKit

theorem iFrom_want (w : World) (u : Value) (g : Bool) (n : Nat) (h : Num w u n) : Calls Tryz.prog 16 #[.bool g, u] w fun e w' => ∃ v', e = .returned v' ∧ INum w' v' (sgn g n) ∧ Below w.heap.size w w' := by
  obtain ⟨s, p, l, c, rfl, h⟩ := h
  exact (iFrom_any g n s p l c w h).mono fun _ _ h => h.want
theorem iNeg_want (w : World) (u : Value) (x : Int) (h : INum w u x) : Calls Tryz.prog 8 #[u] w fun e w' => ∃ v', e = .returned v' ∧ INum w' v' (-x) ∧ Below w.heap.size w w' := by
  obtain ⟨g, s, p, l, c, rfl, h⟩ := h
  exact (iNeg_any x g s p l c w h).mono fun _ _ h => h.want
theorem iSign_want (w : World) (u : Value) (x : Int) (h : INum w u x) : Calls Tryz.prog 13 #[u] w fun e w' => ∃ v', e = .returned v' ∧ v' = .int .i64 (cmp3 x 0) ∧ Below w.heap.size w w' := by
  obtain ⟨g, s, p, l, c, rfl, h⟩ := h
  exact (iSign_any x g s p l c w h).mono fun _ _ ⟨h1, h2⟩ => ⟨_, h1, rfl, h2⟩
theorem iSub_want (w : World) (u v : Value) (x y : Int) (hx : (ds x.natAbs).length ≤ 60) (hy : (ds y.natAbs).length ≤ 60) (h1 : INum w u x) (h2 : INum w v y) :
    Calls Tryz.prog 29 #[u, v] w fun e w' => ∃ v', e = .returned v' ∧ INum w' v' (x - y) ∧ Below w.heap.size w w' := by
  obtain ⟨g, s, p, l, c, rfl, h1⟩ := h1
  obtain ⟨f, t, q, k, d, rfl, h2⟩ := h2
  exact (iSub_any x y g f s t p q l c k d w (by omega) (by omega) h1 h2).mono fun _ _ h => h.want
theorem iMul_want (w : World) (u v : Value) (x y : Int) (hx : (ds x.natAbs).length ≤ 60) (hy : (ds y.natAbs).length ≤ 60) (h1 : INum w u x) (h2 : INum w v y) :
    Calls Tryz.prog 27 #[u, v] w fun e w' => ∃ v', e = .returned v' ∧ INum w' v' (x * y) ∧ Below w.heap.size w w' := by
  obtain ⟨g, s, p, l, c, rfl, h1⟩ := h1
  obtain ⟨f, t, q, k, d, rfl, h2⟩ := h2
  exact (iMul_any x y g f s t p q l c k d w (by omega) (by omega) (Or.inl (by omega)) h1 h2).mono fun _ _ h => h.want
end Go.Proofs.YthenfejgnjdkjaaGreatDoor
