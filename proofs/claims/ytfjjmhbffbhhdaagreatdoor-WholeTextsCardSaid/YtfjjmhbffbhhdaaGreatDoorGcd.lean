/- The greatest divisor of two integers: the program's. -/
import Derived.Test.YtfjjmhbffbhhdaaGreatDoorLeapNum
import Derived.Test.YtfjjmhbffbhhdaaGreatDoorTz
import Derived.Test.YtfjjmhbffbhhdaaGreatDoorDivN
import Derived.Test.YtfjjmhbffbhhdaaGreatDoorIntDiv
namespace Go.Proofs.YtfjjmhbffbhhdaaGreatDoor
open Go.RowKit

structure GK (w wr : World) (bR bX bY : Nat) : Prop where
  r0 : wr.cell? ⟨bR, 0, none⟩ = some (.int .u64 0)
  r1 : wr.cell? ⟨bR, 1, none⟩ = some (.slice none 0 0)
  f0 : wr.frozen? ⟨bR, 0, none⟩ = false
  f1 : wr.frozen? ⟨bR, 1, none⟩ = false
  x0 : wr.frozen? ⟨bX, 0, none⟩ = false
  x1 : wr.frozen? ⟨bX, 1, none⟩ = false
  y0 : wr.frozen? ⟨bY, 0, none⟩ = false
  y1 : wr.frozen? ⟨bY, 1, none⟩ = false
  t : Tab64 wr
  b : Below w.heap.size w wr
  lx : bX < wr.heap.size
  ly : bY < wr.heap.size
  ne : bR ≠ bX ∧ bR ≠ bY ∧ bX ≠ bY ∧ w.heap.size ≤ bR ∧ w.heap.size ≤ bX ∧ w.heap.size ≤ bY
  g : 5 < w.heap.size
theorem GK.mono {w wr w' : World} {bR bX bY : Nat} (h : GK w wr bR bX bY) (hb : Below wr.heap.size wr w') : GK w w' bR bX bY :=
  have hR : bR < wr.heap.size := World.block_lt_of_cell? _ _ h.r0
  ⟨wcell hb h.r0, wcell hb h.r1, wfree hb h.r0 h.f0, wfree hb h.r1 h.f1, by rw [hb.frozen (p := ⟨bX, 0, none⟩) h.lx]; exact h.x0, by rw [hb.frozen (p := ⟨bX, 1, none⟩) h.lx]; exact h.x1,
    by rw [hb.frozen (p := ⟨bY, 0, none⟩) h.ly]; exact h.y0, by rw [hb.frozen (p := ⟨bY, 1, none⟩) h.ly]; exact h.y1, h.t.mono hb, below_step h.b hb, Nat.lt_of_lt_of_le h.lx hb.size, Nat.lt_of_lt_of_le h.ly hb.size, h.ne, h.g⟩
theorem GK.set {w wr : World} {bR bX bY : Nat} (h : GK w wr bR bX bY) {z : Nat} (hz : z = bX ∨ z = bY) (o : Nat) (v : Value) : GK w (wr.setCell ⟨z, o, none⟩ v) bR bX bY := by
  have hne := h.ne
  have hs : (wr.setCell ⟨z, o, none⟩ v).heap.size = wr.heap.size := by simp [World.setCell]
  have hzR : z ≠ bR := by omega
  have hzt : z ≠ 5 := by have := h.g; omega
  refine ⟨?_, ?_, ?_, ?_, ?_, ?_, ?_, ?_, fun j hj => ?_, h.b.setCell (by show w.heap.size ≤ z; omega) v, by rw [hs]; exact h.lx, by rw [hs]; exact h.ly, hne, h.g⟩
  · rw [World.cell?_setCell_other _ _ _ _ (by intro e; injection e; omega)]; exact h.r0
  · rw [World.cell?_setCell_other _ _ _ _ (by intro e; injection e; omega)]; exact h.r1
  · rw [World.frozen?_setCell]; exact h.f0
  · rw [World.frozen?_setCell]; exact h.f1
  · rw [World.frozen?_setCell]; exact h.x0
  · rw [World.frozen?_setCell]; exact h.x1
  · rw [World.frozen?_setCell]; exact h.y0
  · rw [World.frozen?_setCell]; exact h.y1
  · rw [World.cell?_setCell_other _ _ _ _ (by intro e; injection e; omega)]; exact h.t j hj
def GBox (wr : World) (bX bY : Nat) (s : Int) (p : Option Addr) (l c : Nat) (t : Int) (q : Option Addr) (k d : Nat) : Prop :=
  wr.cell? ⟨bX, 0, none⟩ = some (.int .u64 s) ∧ wr.cell? ⟨bX, 1, none⟩ = some (.slice p l c) ∧ wr.cell? ⟨bY, 0, none⟩ = some (.int .u64 t) ∧ wr.cell? ⟨bY, 1, none⟩ = some (.slice q k d)
theorem GBox.mono {wr w' : World} {bX bY : Nat} {s t : Int} {p q : Option Addr} {l c k d : Nat} (h : GBox wr bX bY s p l c t q k d) (hb : Below wr.heap.size wr w') : GBox w' bX bY s p l c t q k d :=
  ⟨wcell hb h.1, wcell hb h.2.1, wcell hb h.2.2.1, wcell hb h.2.2.2⟩

end Go.Proofs.YtfjjmhbffbhhdaaGreatDoor
