/- The operations on integers, in the words of an open statement. -/
import Derived.Test.YtjjhkmdeamoifaaGreatDoorReg
import Derived.Test.YtjjhkmdeamoifaaGreatDoorInt2
import Derived.Test.YtjjhkmdeamoifaaGreatDoorIntDiv0
namespace Go.Proofs.YtjjhkmdeamoifaaGreatDoor
open Go.RowKit

theorem iZero_want (w : World) (u : Value) (n : Nat) (h : Num w u n) : Calls Tryz.prog 37 #[u] w fun e w' => ∃ v', e = .returned v' ∧ v' = .bool (decide (n = 0)) ∧ Below w.heap.size w w' := by
  obtain ⟨s, p, l, c, rfl, h⟩ := h
  exact (izero_any n s p l c w h).mono fun _ _ ⟨h1, h2⟩ => ⟨_, h1, rfl, h2⟩
theorem iFrom_want (w : World) (u : Value) (g : Bool) (n : Nat) (h : Num w u n) : Calls Tryz.prog 31 #[.bool g, u] w fun e w' => ∃ v', e = .returned v' ∧ INum w' v' (sgn g n) ∧ Below w.heap.size w w' := by
  obtain ⟨s, p, l, c, rfl, h⟩ := h
  exact (iFrom_any g n s p l c w h).mono fun _ _ h => h.want
theorem iNeg_want (w : World) (u : Value) (x : Int) (h : INum w u x) : Calls Tryz.prog 15 #[u] w fun e w' => ∃ v', e = .returned v' ∧ INum w' v' (-x) ∧ Below w.heap.size w w' := by
  obtain ⟨g, s, p, l, c, rfl, h⟩ := h
  exact (iNeg_any x g s p l c w h).mono fun _ _ h => h.want
theorem iSign_want (w : World) (u : Value) (x : Int) (h : INum w u x) : Calls Tryz.prog 17 #[u] w fun e w' => ∃ v', e = .returned v' ∧ v' = .int .i64 (cmp3 x 0) ∧ Below w.heap.size w w' := by
  obtain ⟨g, s, p, l, c, rfl, h⟩ := h
  exact (iSign_any x g s p l c w h).mono fun _ _ ⟨h1, h2⟩ => ⟨_, h1, rfl, h2⟩
theorem iAdd_want (w : World) (u v : Value) (x y : Int) (hx : (ds x.natAbs).length ≤ 60) (hy : (ds y.natAbs).length ≤ 60) (h1 : INum w u x) (h2 : INum w v y) :
    Calls Tryz.prog 7 #[u, v] w fun e w' => ∃ v', e = .returned v' ∧ INum w' v' (x + y) ∧ Below w.heap.size w w' := by
  obtain ⟨g, s, p, l, c, rfl, h1⟩ := h1
  obtain ⟨f, t, q, k, d, rfl, h2⟩ := h2
  exact (iAdd_any x y g f s t p q l c k d w (by omega) (by omega) h1 h2).mono fun _ _ h => h.want
theorem iSub_want (w : World) (u v : Value) (x y : Int) (hx : (ds x.natAbs).length ≤ 60) (hy : (ds y.natAbs).length ≤ 60) (h1 : INum w u x) (h2 : INum w v y) :
    Calls Tryz.prog 9 #[u, v] w fun e w' => ∃ v', e = .returned v' ∧ INum w' v' (x - y) ∧ Below w.heap.size w w' := by
  obtain ⟨g, s, p, l, c, rfl, h1⟩ := h1
  obtain ⟨f, t, q, k, d, rfl, h2⟩ := h2
  exact (iSub_any x y g f s t p q l c k d w (by omega) (by omega) h1 h2).mono fun _ _ h => h.want
theorem iMul_want (w : World) (u v : Value) (x y : Int) (hx : (ds x.natAbs).length ≤ 60) (hy : (ds y.natAbs).length ≤ 60) (h1 : INum w u x) (h2 : INum w v y) :
    Calls Tryz.prog 11 #[u, v] w fun e w' => ∃ v', e = .returned v' ∧ INum w' v' (x * y) ∧ Below w.heap.size w w' := by
  obtain ⟨g, s, p, l, c, rfl, h1⟩ := h1
  obtain ⟨f, t, q, k, d, rfl, h2⟩ := h2
  exact (iMul_any x y g f s t p q l c k d w (by omega) (by omega) (Or.inl (by omega)) h1 h2).mono fun _ _ h => h.want
theorem iCmp_want (w : World) (u v : Value) (x y : Int) (hx : (ds x.natAbs).length ≤ 60) (hy : (ds y.natAbs).length ≤ 60) (h1 : INum w u x) (h2 : INum w v y) :
    Calls Tryz.prog 13 #[u, v] w fun e w' => ∃ v', e = .returned v' ∧ v' = .int .i64 (cmp3 x y) ∧ Below w.heap.size w w' := by
  obtain ⟨g, s, p, l, c, rfl, h1⟩ := h1
  obtain ⟨f, t, q, k, d, rfl, h2⟩ := h2
  exact (iCmp_any x y g f s t p q l c k d w (by omega) (by omega) h1 h2).mono fun _ _ ⟨h, hb⟩ => ⟨_, h, rfl, hb⟩
end Go.Proofs.YtjjhkmdeamoifaaGreatDoor
