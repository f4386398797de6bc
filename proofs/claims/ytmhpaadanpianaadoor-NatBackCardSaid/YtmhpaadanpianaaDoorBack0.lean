/- Two boxes are filled: all else stays as it was. -/
import Derived.Test.YtmhpaadanpianaaDoorEnds2
import Derived.Test.YtmhpaadanpianaaDoorRoots0
namespace Go.Proofs.YtmhpaadanpianaaDoor
open Go.RowKit

/-- All but the first two places of two blocks is as it was. -/
structure Rest (x y : Nat) (w w' : World) : Prop where
  os : w'.os = w.os
  tape : w'.tape = w.tape
  output : w'.output = w.output
  size : w.heap.size ≤ w'.heap.size
  block : ∀ k, k < w.heap.size → k ≠ x → k ≠ y → w'.heap[k]? = w.heap[k]?
  high : ∀ k o, k < w.heap.size → 2 ≤ o → w'.cell? ⟨k, o, none⟩ = w.cell? ⟨k, o, none⟩

theorem Rest.refl (x y : Nat) (w : World) : Rest x y w w := ⟨rfl, rfl, rfl, Nat.le_refl _, fun _ _ _ _ => rfl, fun _ _ _ _ => rfl⟩
theorem Rest.alloc {x y : Nat} {w w' : World} (h : Rest x y w w') (o : Obj) : Rest x y w (w'.alloc o) := by
  have hb := below_alloc (Below.refl w'.heap.size w') o
  exact ⟨hb.os.trans h.os, hb.tape.trans h.tape, hb.output.trans h.output, Nat.le_trans h.size hb.size, fun k hk h1 h2 => (hb.block k (Nat.lt_of_lt_of_le hk h.size)).trans (h.block k hk h1 h2),
    fun k o hk ho => (hb.cell (p := ⟨k, o, none⟩) (Nat.lt_of_lt_of_le hk h.size)).trans (h.high k o hk ho)⟩
theorem Rest.setCell {x y b o : Nat} {w w' : World} (h : Rest x y w w') (hp : b = x ∨ b = y) (ho : o < 2) (u : Value) : Rest x y w (w'.setCell ⟨b, o, none⟩ u) :=
  ⟨h.os, h.tape, h.output, by simpa [World.setCell] using h.size, fun k hk h1 h2 => by
    rw [← h.block k hk h1 h2]
    exact Below.heap_setCell w' ⟨b, o, none⟩ u k (by rcases hp with hp | hp <;> rw [hp] <;> assumption),
   fun k o' hk ho' => by
    rw [← h.high k o' hk ho']
    exact World.cell?_setCell_other _ _ _ _ (by intro e; injection e with _ e; omega)⟩
theorem Rest.cell {x y k o : Nat} {w w' : World} {v : Value} (h : Rest x y w w') (hc : w.cell? ⟨k, o, none⟩ = some v) (h1 : k ≠ x) (h2 : k ≠ y) : w'.cell? ⟨k, o, none⟩ = some v := by
  rw [← hc]
  exact World.cell?_of_block (w := w) (h.block k (World.block_lt_of_cell? _ _ hc) h1 h2)
theorem Rest.below {x y B : Nat} {w0 w w' : World} (h : Rest x y w w') (hb : Below B w0 w) (hB : B ≤ w0.heap.size) (h1 : B ≤ x) (h2 : B ≤ y) : Below B w0 w' :=
  ⟨h.os.trans hb.os, h.tape.trans hb.tape, h.output.trans hb.output, Nat.le_trans hb.size h.size, fun k hk => (h.block k (by have := hb.size; omega) (by omega) (by omega)).trans (hb.block k hk)⟩

/-- A number's row is no box. -/
theorem IsN.rest {x y : Nat} {w w' : World} {s : Int} {p : Option Addr} {l c n : Nat} (h : IsN w s p l c n) (hr : Rest x y w w')
    (hx : w.heap.size ≤ x ∨ w.cell? ⟨x, 1, none⟩ = some (.slice none 0 0)) (hy : w.heap.size ≤ y ∨ w.cell? ⟨y, 1, none⟩ = some (.slice none 0 0)) : IsN w' s p l c n := by
  rcases h with h | ⟨a1, a2, b, off, a3, a4, a5, a6⟩
  · exact Or.inl h
  · have h2 := ds_two a1
    have hlt := a6.lt (by omega)
    have hne : ∀ z, (w.heap.size ≤ z ∨ w.cell? ⟨z, 1, none⟩ = some (.slice none 0 0)) → off ≤ 1 → b ≠ z := by
      rintro z hz h0 rfl
      rcases hz with hz | hz
      · omega
      · have h5 := a6 (1 - off) (by omega)
        rw [show off + (1 - off) = 1 from by omega, hz] at h5
        cases h5
    refine Or.inr ⟨a1, a2, b, off, a3, a4, a5, fun i hi => ?_⟩
    by_cases h0 : off ≤ 1
    · exact hr.cell (a6 i hi) (hne x hx h0) (hne y hy h0)
    · rw [hr.high b (off + i) hlt (by omega)]
      exact a6 i hi

theorem div_want (w : World) (u v : Value) (m n : Nat) (hm : (ds m).length ≤ 60) (hn : 0 < n) (h1 : Num w u m) (h2 : Num w v n) :
    Calls Tryd.prog 15 #[u, v] w fun e w' => ∃ v', e = .returned v' ∧ (∃ a b c, v' = .tuple #[a, b, c] ∧ Num w' a (m / n) ∧ Num w' b (m % n) ∧ c = .bool true) ∧ Below w.heap.size w w' := by
  obtain ⟨s, p, l, c, rfl, h1⟩ := h1
  obtain ⟨t, q, k, d, rfl, h2⟩ := h2
  refine (div_any s t p q l c k d m n w (by omega) hn h1 h2).mono ?_
  rintro e w' ⟨s, p, l, c, t, q, k, d, rfl, h3, h4, hb⟩
  exact ⟨_, rfl, ⟨_, _, _, rfl, ⟨s, p, l, c, rfl, h3⟩, ⟨t, q, k, d, rfl, h4⟩, rfl⟩, hb⟩
end Go.Proofs.YtmhpaadanpianaaDoor
