/- The document's products. -/
import Derived.Test.YtciohlbpjaighaaDoorRefSum
import Derived.Test.YtciohlbpjaighaaDoorDrew
import Derived.Test.YtciohlbpjaighaaDoorMulWords
namespace Go.Proofs.YtciohlbpjaighaaDoor
open Go.RowKit

/-- A product's row while a digit is multiplied in: before it, the window, behind it. -/
def midRow (L zs : List Nat) (i l : Nat) : List Nat := L.take i ++ zs ++ L.drop (i + l)
theorem midRow_start (L : List Nat) (i l : Nat) (_h : i + l ≤ L.length) : midRow L ((L.drop i).take l) i l = L := by
  unfold midRow
  rw [← List.drop_drop, List.append_assoc, List.take_append_drop, List.take_append_drop]
theorem midRow_length {L zs : List Nat} {i l : Nat} (h : i + l ≤ L.length) (hz : zs.length = l) : (midRow L zs i l).length = L.length := by
  unfold midRow
  simp only [List.length_append, List.length_take, List.length_drop]; omega
theorem midRow_getD {L zs : List Nat} {i l k : Nat} (h : i + l ≤ L.length) (hz : zs.length = l) (hk : k < l) : (midRow L zs i l).getD (i + k) 0 = zs.getD k 0 := by
  unfold midRow
  have h1 : (L.take i).length = i := by rw [List.length_take]; omega
  simp only [List.getD]
  rw [List.append_assoc, List.getElem?_append_right (by rw [h1]; omega), h1, Nat.add_sub_cancel_left, List.getElem?_append_left (by omega)]
theorem midRow_set {L zs : List Nat} {i l k v : Nat} (h : i + l ≤ L.length) (hz : zs.length = l) (hk : k < l) : (midRow L zs i l).set (i + k) v = midRow L (zs.set k v) i l := by
  unfold midRow
  have h1 : (L.take i).length = i := by rw [List.length_take]; omega
  rw [List.append_assoc, List.set_append_right _ _ (by rw [h1]; omega), h1, Nat.add_sub_cancel_left, List.set_append_left _ _ (by omega), List.append_assoc]

theorem mul_lt_bound {x y z c : Nat} (hx : x < 2 ^ 32) (hy : y < 2 ^ 32) (hz : z < 2 ^ 32) (hc : c < 2 ^ 32) : c + z + x * y < 2 ^ 64 := by
  have : x * y ≤ (2 ^ 32 - 1) * (2 ^ 32 - 1) := Nat.mul_le_mul (by omega) (by omega)
  omega

end Go.Proofs.YtciohlbpjaighaaDoor
