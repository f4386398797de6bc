/- Roots of any number; boxes; the moves and the root in the words of an open statement. -/
import Derived.Test.YtmhpaadanpianaaDoorShiftL
import Derived.Test.YtmhpaadanpianaaDoorRoot
import Derived.Test.YtmhpaadanpianaaDoorLawKit
namespace Go.Proofs.YtmhpaadanpianaaDoor
open Go.RowKit

theorem bx_other {W : World} {x b o : Nat} {u v y : Value} (h : W.cell? ⟨x, o, none⟩ = some y) (hx : x ≠ b) : ((W.setCell ⟨b, 0, none⟩ u).setCell ⟨b, 1, none⟩ v).cell? ⟨x, o, none⟩ = some y := by
  rw [World.cell?_setCell_other _ _ _ _ (by intro e; injection e with e; exact hx e.symm), World.cell?_setCell_other _ _ _ _ (by intro e; injection e with e; exact hx e.symm)]; exact h
theorem bx_zero {W : World} {b : Nat} {u v y : Value} (h : W.cell? ⟨b, 0, none⟩ = some y) : ((W.setCell ⟨b, 0, none⟩ u).setCell ⟨b, 1, none⟩ v).cell? ⟨b, 0, none⟩ = some u := by
  simp [go_sem, h]
theorem bx_one {W : World} {b : Nat} {u v z : Value} (h1 : W.cell? ⟨b, 1, none⟩ = some z) : ((W.setCell ⟨b, 0, none⟩ u).setCell ⟨b, 1, none⟩ v).cell? ⟨b, 1, none⟩ = some v := by
  simp [go_sem, h1]

theorem root_exists (n : Nat) : ∃ r, r * r ≤ n ∧ n < (r + 1) * (r + 1) := by
  induction n with
  | zero => exact ⟨0, by omega, by omega⟩
  | succ n ih =>
    obtain ⟨r, h1, h2⟩ := ih
    rcases Nat.lt_or_ge (n + 1) ((r + 1) * (r + 1)) with h | h
    · exact ⟨r, by omega, h⟩
    · refine ⟨r + 1, h, ?_⟩
      have : (r + 1 + 1) * (r + 1 + 1) = (r + 1) * (r + 1) + (r + 1) + (r + 1) + 1 := by grind
      omega

theorem ds_pow (K : Nat) : (ds (2 ^ K)).length ≤ K / 64 + 1 := by
  refine ds_le (by omega) ?_
  rw [← Nat.pow_mul]
  exact Nat.pow_lt_pow_right (by omega) (by omega)

theorem root_any (n r : Nat) (s : Int) (p : Option Addr) (l c : Nat) (w : World) (hr : r * r ≤ n) (hr2 : n < (r + 1) * (r + 1)) (hn : (ds n).length ≤ 200000) (h : IsN w s p l c n) :
    Calls Tryd.prog 20 #[.agg #[.int .u64 s, .slice p l c]] w (RetN w r) := by
  by_cases h0 : n = 0
  · subst h0
    have : r = 0 := by
      rcases Nat.eq_zero_or_pos r with h | h
      · exact h
      · have : 1 * 1 ≤ r * r := Nat.mul_le_mul h h
        omega
    subst this
    exact root_zero w s p l c h
  · have hb : bitLen n ≤ 64 * (ds n).length := by
      apply bitLen_lt_pow.1
      rw [Nat.pow_mul]
      exact lt_ds n
    obtain ⟨K, hK⟩ : ∃ K, K = (bitLen n + 1) / 2 := ⟨_, rfl⟩
    have hp := ds_pow K
    have hd1 := ds_add (2 ^ K) n
    have hpos := ds_pos n
    refine root_of n r K hr hr2 h0 hK (by omega) (by omega) (fun w => ?_) (fun w s p l c t q k d x h1 h2 h3 _ => div_any s t p q l c k d n x w (by omega) h3 h1 h2)
      (fun w s p l c t q k d x y h1 h2 h3 h4 => add_any s t p q l c k d x y w (Nat.le_trans (ds_mono h3) (by omega)) (Nat.le_trans (ds_mono h4) (by omega)) h1 h2)
      (fun w s p l c x h1 h2 => ?_) w s p l c h
    · have := up_any 1 K 1 none 0 0 w (by rw [ds_one (by omega)]; omega) (by omega) (Or.inl ⟨by omega, rfl, rfl, rfl, rfl⟩)
      rwa [Nat.one_mul] at this
    · have := down_any x 1 s p l c w (Nat.le_trans (ds_mono h2) (by omega)) (by omega) h1
      exact this

theorem root_want (w : World) (u : Value) (n r : Nat) (hr : r * r ≤ n) (hr2 : n < (r + 1) * (r + 1)) (hn : (ds n).length ≤ 200000) (h1 : Num w u n) :
    Calls Tryd.prog 20 #[u] w fun e w' => ∃ v', e = .returned v' ∧ Num w' v' r ∧ Below w.heap.size w w' := by
  obtain ⟨s, p, l, c, rfl, h1⟩ := h1
  exact (root_any n r s p l c w hr hr2 hn h1).mono fun _ _ h => h.want
theorem shiftUp_want (w : World) (u : Value) (m n : Nat) (hm : (ds m).length ≤ 1000000) (hn : n ≤ 65536) (h1 : Num w u m) :
    Calls Tryd.prog 24 #[u, .int .i64 (n : Int)] w fun e w' => ∃ v', e = .returned v' ∧ Num w' v' (m * 2 ^ n) ∧ Below w.heap.size w w' := by
  obtain ⟨s, p, l, c, rfl, h1⟩ := h1
  exact (shift_up m n s p l c w hm hn h1).mono fun _ _ h => h.want
theorem shiftDown_want (w : World) (u : Value) (m n : Nat) (hm : (ds m).length ≤ 1000000) (h0 : 0 < n) (hn : n ≤ 65536) (h1 : Num w u m) :
    Calls Tryd.prog 24 #[u, .int .i64 (-(n : Int))] w fun e w' => ∃ v', e = .returned v' ∧ Num w' v' (m / 2 ^ n) ∧ Below w.heap.size w w' := by
  obtain ⟨s, p, l, c, rfl, h1⟩ := h1
  exact (shift_down m n s p l c w hm h0 hn h1).mono fun _ _ h => h.want
end Go.Proofs.YtmhpaadanpianaaDoor
