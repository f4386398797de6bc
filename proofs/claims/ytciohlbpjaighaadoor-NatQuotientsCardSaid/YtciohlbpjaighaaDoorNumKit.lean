/- The program's operations on numbers, in the words of an open statement; how long their results are; boxes. -/
import Derived.Test.YtciohlbpjaighaaDoorSub
import Derived.Test.YtciohlbpjaighaaDoorArith
import Derived.Test.YtciohlbpjaighaaDoorTwo
namespace Go.Proofs.YtciohlbpjaighaaDoor
open Go.RowKit

theorem ds_add (m n : Nat) : (ds (m + n)).length ≤ (ds m).length + (ds n).length := by
  have h1 := lt_ds m
  have h2 := lt_ds n
  have p1 := ds_pos m; have p2 := ds_pos n
  refine ds_le (by omega) ?_
  rw [Nat.pow_add]
  generalize (ds m).length = i at *
  generalize (ds n).length = j at *
  have e1 : 2 ≤ (2 ^ 64) ^ i := Nat.le_trans (show 2 ≤ (2 ^ 64) ^ 1 by omega) (Nat.pow_le_pow_right (by omega) p1)
  have e2 : 2 ≤ (2 ^ 64) ^ j := Nat.le_trans (show 2 ≤ (2 ^ 64) ^ 1 by omega) (Nat.pow_le_pow_right (by omega) p2)
  generalize (2 ^ 64) ^ i = P at *
  generalize (2 ^ 64) ^ j = Q at *
  have : P + Q ≤ P * Q := by
    obtain ⟨a, rfl⟩ := Nat.exists_eq_add_of_le e1
    obtain ⟨b, rfl⟩ := Nat.exists_eq_add_of_le e2
    grind
  omega
theorem ds_mul (m n : Nat) : (ds (m * n)).length ≤ (ds m).length + (ds n).length := by
  have h1 := lt_ds m
  have h2 := lt_ds n
  have p1 := ds_pos m
  refine ds_le (by omega) ?_
  rw [Nat.pow_add]
  exact Nat.mul_lt_mul'' h1 h2

theorem IsR.box {w : World} {p q : Option Addr} {l c k d n g : Nat} {x : Int} {u v : Value} (h : IsR w p l c n) (h0 : w.cell? ⟨g, 0, none⟩ = some (.int .u64 x)) (h1 : w.cell? ⟨g, 1, none⟩ = some (.slice q k d)) :
    IsR ((w.setCell ⟨g, 0, none⟩ u).setCell ⟨g, 1, none⟩ v) p l c n := by
  obtain ⟨a1, a2, a3⟩ := h
  refine ⟨a1, a2, fun hn => ?_⟩
  obtain ⟨b, off, a4, a5⟩ := a3 hn
  refine ⟨b, off, a4, fun i hi => ?_⟩
  have h2 := a5 i hi
  have e0 : (⟨g, 0, none⟩ : Addr) ≠ ⟨b, off + i, none⟩ := by intro e; rw [← e, h0] at h2; cases h2
  have e1 : (⟨g, 1, none⟩ : Addr) ≠ ⟨b, off + i, none⟩ := by intro e; rw [← e, h1] at h2; cases h2
  rw [World.cell?_setCell_other _ _ _ _ e1, World.cell?_setCell_other _ _ _ _ e0]
  exact h2
theorem nb_lt (bs : List Nat) (k : Nat) (hb : ∀ x ∈ bs, x < 256) (hk : bs.length ≤ k) : nb bs < 256 ^ k := by
  have h1 := val_lt 256 bs.reverse (fun x hx => hb x (List.mem_reverse.1 hx))
  rw [List.length_reverse] at h1
  exact Nat.lt_of_lt_of_le h1 (Nat.pow_le_pow_right (by omega) hk)
theorem dr_nb (bs : List Nat) (hb : ∀ x ∈ bs, x < 256) (hk : bs.length ≤ 240) : (dr (nb bs)).length ≤ 60 := by
  refine digs_length_le (by omega) ?_
  have h1 := nb_lt bs (4 * 60) hb (by omega)
  rw [Nat.pow_mul] at h1
  exact h1
theorem ds_nb (bs : List Nat) (hb : ∀ x ∈ bs, x < 256) : (ds (nb (bs.take 48))).length ≤ 6 := by
  refine ds_le (by omega) ?_
  have h1 := nb_lt (bs.take 48) 48 (fun x hx => hb x (List.mem_of_mem_take hx)) (by rw [List.length_take]; omega)
  rw [show (48 : Nat) = 8 * 6 from rfl, Nat.pow_mul] at h1
  exact h1

theorem bx_other {W : World} {x b o : Nat} {u v y : Value} (h : W.cell? ⟨x, o, none⟩ = some y) (hx : x ≠ b) : ((W.setCell ⟨b, 0, none⟩ u).setCell ⟨b, 1, none⟩ v).cell? ⟨x, o, none⟩ = some y := by
  rw [World.cell?_setCell_other _ _ _ _ (by intro e; injection e with e; exact hx e.symm), World.cell?_setCell_other _ _ _ _ (by intro e; injection e with e; exact hx e.symm)]; exact h
theorem bx_zero {W : World} {b : Nat} {u v y : Value} (h : W.cell? ⟨b, 0, none⟩ = some y) : ((W.setCell ⟨b, 0, none⟩ u).setCell ⟨b, 1, none⟩ v).cell? ⟨b, 0, none⟩ = some u := by
  simp [go_sem, h]
theorem bx_one {W : World} {b : Nat} {u v z : Value} (h1 : W.cell? ⟨b, 1, none⟩ = some z) : ((W.setCell ⟨b, 0, none⟩ u).setCell ⟨b, 1, none⟩ v).cell? ⟨b, 1, none⟩ = some v := by
  simp [go_sem, h1]

theorem add_want (w : World) (u v : Value) (m n : Nat) (hm : (ds m).length ≤ 60) (hn : (ds n).length ≤ 60) (h1 : Num w u m) (h2 : Num w v n) :
    Calls Tryd.prog 47 #[u, v] w fun e w' => ∃ v', e = .returned v' ∧ Num w' v' (m + n) ∧ Below w.heap.size w w' := by
  obtain ⟨s, p, l, c, rfl, h1⟩ := h1
  obtain ⟨t, q, k, d, rfl, h2⟩ := h2
  exact (add_any s t p q l c k d m n w (by omega) (by omega) h1 h2).mono fun _ _ h => h.want
theorem mul_want (w : World) (u v : Value) (m n : Nat) (hm : (ds m).length ≤ 60) (hn : (ds n).length ≤ 60) (h1 : Num w u m) (h2 : Num w v n) :
    Calls Tryd.prog 46 #[u, v] w fun e w' => ∃ v', e = .returned v' ∧ Num w' v' (m * n) ∧ Below w.heap.size w w' := by
  obtain ⟨s, p, l, c, rfl, h1⟩ := h1
  obtain ⟨t, q, k, d, rfl, h2⟩ := h2
  exact (mul_any s t p q l c k d m n w (by omega) (by omega) (Or.inl (by omega)) h1 h2).mono fun _ _ h => h.want
theorem cmp_want (w : World) (u v : Value) (m n : Nat) (hm : (ds m).length ≤ 60) (h1 : Num w u m) (h2 : Num w v n) :
    Calls Tryd.prog 16 #[u, v] w fun e w' => ∃ v', e = .returned v' ∧ v' = .int .i64 (cmp3 m n) ∧ Below w.heap.size w w' := by
  obtain ⟨s, p, l, c, rfl, h1⟩ := h1
  obtain ⟨t, q, k, d, rfl, h2⟩ := h2
  exact (cmp_any _ _ _ _ _ _ _ _ m n w h1 h2 (by omega)).mono fun _ _ ⟨h, hb⟩ => ⟨_, h, rfl, hb⟩
end Go.Proofs.YtciohlbpjaighaaDoor
