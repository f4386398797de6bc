/- The greatest divisor by halves and differences; a difference of two multiples, word by word (numbers alone). -/
import Derived.Test.YtfjjmhbffbhhdaaGreatDoorDecTxt
import Derived.Test.YtfjjmhbffbhhdaaGreatDoorSum
import Derived.Test.YtfjjmhbffbhhdaaGreatDoorShiftS
import Derived.Test.YtfjjmhbffbhhdaaGreatDoorFmt
import Derived.Lib.TrailingZeros
import Derived.Laws.Bits64b
import Derived.Laws.BitsAllLaws
import Derived.Lib.Hide
import Derived.WalkSpells
import Derived.WalkLawsBesides
import Derived.BigQuiet
import Derived.BigRegion
namespace Go.Proofs.YtfjjmhbffbhhdaaGreatDoor

structure DiffInv (b p q : Nat) (xs ys zs : List Nat) (i cx cy bw : Nat) : Prop where
  eq : p * val b (xs.take i) + (cy + bw) * b ^ i = val b (zs.take i) + q * val b (ys.take i) + cx * b ^ i
  cx : cx < b
  cy : cy < b
  bw : bw ≤ 1
theorem DiffInv.start {b p q : Nat} (hb : 0 < b) (xs ys zs : List Nat) : DiffInv b p q xs ys zs 0 0 0 0 := ⟨by simp [val], hb, hb, by omega⟩
theorem DiffInv.step {b p q : Nat} {xs ys zs : List Nat} {i cx cy bw fx fy z cx' cy' bw' : Nat} (h : DiffInv b p q xs ys zs i cx cy bw) (hx : i < xs.length) (hy : i < ys.length) (hz : i < zs.length)
    (ex : p * xs.getD i 0 + cx = fx + cx' * b) (ey : q * ys.getD i 0 + cy = fy + cy' * b) (ez : fx + bw' * b = z + fy + bw) (hcx : cx' < b) (hcy : cy' < b) (hbw : bw' ≤ 1) :
    DiffInv b p q xs ys (zs.set i z) (i + 1) cx' cy' bw' := by
  refine ⟨?_, hcx, hcy, hbw⟩
  have he := h.eq
  rw [val_take_succ b xs i hx, val_take_succ b ys i hy, val_take_succ b (zs.set i z) i (by rw [List.length_set]; exact hz)]
  have h1 : (zs.set i z).take i = zs.take i := List.take_set_of_le (Nat.le_refl _)
  have h2 : (zs.set i z).getD i 0 = z := by rw [List.getD_eq_getElem?_getD, List.getElem?_set_self hz]; rfl
  rw [h1, h2, Nat.pow_succ]
  generalize val b (xs.take i) = X at *
  generalize val b (ys.take i) = Y at *
  generalize val b (zs.take i) = Z at *
  generalize xs.getD i 0 = x at *
  generalize ys.getD i 0 = y at *
  generalize b ^ i = E at *
  clear h h1 h2 hcx hcy hbw hx hy hz
  grind
theorem DiffInv.done {b p q : Nat} {xs ys zs : List Nat} {n cx cy bw D : Nat} (h : DiffInv b p q xs ys zs n cx cy bw) (hx : xs.length = n) (hy : ys.length = n) (hz : zs.length = n) (hzb : ∀ z ∈ zs, z < b)
    (hD : D + q * val b ys = p * val b xs) (hDn : D < b ^ n) : val b zs = D := by
  have he := h.eq
  rw [List.take_of_length_le (by omega), List.take_of_length_le (by omega), List.take_of_length_le (by omega)] at he
  have hZ : val b zs < b ^ n := by rw [← hz]; exact val_lt b zs hzb
  have h1 : D + (cy + bw) * b ^ n = val b zs + cx * b ^ n := by omega
  have h2 := congrArg (· % b ^ n) h1
  simp only [Nat.add_mul_mod_self_right] at h2
  rwa [Nat.mod_eq_of_lt hDn, Nat.mod_eq_of_lt hZ, eq_comm] at h2
end Go.Proofs.YtfjjmhbffbhhdaaGreatDoor

/- A difference of two multiples, word by word: the program's. -/
namespace Go.Proofs.YtfjjmhbffbhhdaaGreatDoor
open Go.RowKit

end Go.Proofs.YtfjjmhbffbhhdaaGreatDoor

/- Trailing zeros of a word; the greatest divisor of two words, by halves and differences. -/
namespace Go.Proofs.YtfjjmhbffbhhdaaGreatDoor
open Go.RowKit

def Tab64 (w : World) : Prop := ∀ j, j < 64 → w.cell? ⟨5, j, none⟩ = some (.int .u8 ((Lib.deBruijn64tab.getD j 0 : Nat) : Int))
theorem Tab64.mono {w w' : World} (h : Tab64 w) (hb : Below w.heap.size w w') : Tab64 w' := by
  intro j hj
  have h1 := h j hj
  rw [hb.cell (p := ⟨5, j, none⟩) (World.block_lt_of_cell? _ _ h1)]; exact h1
theorem Tab64.monoB {w w' : World} {B : Nat} (h : Tab64 w) (hb : Below B w w') (hB : 5 < B) : Tab64 w' := by
  intro j hj
  rw [hb.cell (p := ⟨5, j, none⟩) hB]; exact h j hj

end Go.Proofs.YtfjjmhbffbhhdaaGreatDoor
