/- Draws leave what was written. -/
import Derived.Test.YtjhjlecnjkjbbaaGreatDoorCut
import Derived.Test.YtjhjlecnjkjbbaaGreatDoorFill
import Derived.Test.YtjhjlecnjkjbbaaGreatDoorSum
import Derived.Test.YtjhjlecnjkjbbaaGreatDoorRefCmp
namespace Go.Proofs.YtjhjlecnjkjbbaaGreatDoor
open Go.RowKit

theorem Only.drewN {w w' : World} {b off n : Nat} (h : Only w w' b off n) : ∀ k, Only w (w'.drewN k) b off n
  | 0 => h
  | k + 1 => (Only.drewN h k).drew
theorem At.drewN {w : World} {k : IntKind} {b off : Nat} {xs : List Nat} (h : At w k b off xs) (n : Nat) : At (w.drewN n) k b off xs := h.mono (below_drewN (Below.refl _ _) n)
end Go.Proofs.YtjhjlecnjkjbbaaGreatDoor

/- The document's sums. -/
namespace Go.Proofs.YtjhjlecnjkjbbaaGreatDoor
open Go.RowKit

theorem rAt_any (n i : Nat) (p : Option Addr) (l c : Nat) (w : World) (h : IsR w p l c n) (hi : i ≤ 1000000) :
    Calls Tryz.prog 155 #[.slice p l c, .int .i64 (i : Int)] w fun e w' => w = w' ∧ e = .returned (.int .u64 (((dr n).getD i 0 : Nat) : Int)) := by
  obtain ⟨h1, h2, h3⟩ := h
  by_cases hl : i < l
  · have hn : n ≠ 0 := fun e => by subst e; rw [dr_zero] at h1; simp at h1; omega
    obtain ⟨b, off, rfl, h4⟩ := h3 hn
    have c1 := h4 i (by omega)
    have hx := getD_lt (dr_lt n) (by omega) i
    generalize (dr n).getD i 0 = x at *
    clear h3 h4 h1
    go_enter Tryz.func155, Tryz.ntmps155
    go_wp2
    go_ret
    exact ⟨rfl, rfl⟩
  · have hx : (dr n).getD i 0 = 0 := by simp [List.getD, List.getElem?_eq_none (show (dr n).length ≤ i by omega)]
    rw [hx]
    clear h3 h1 hx
    go_enter Tryz.func155, Tryz.ntmps155
    go_wp2
    go_ret
    exact ⟨rfl, rfl⟩

structure RSum (b : Nat) (xs ys zs : List Nat) (k c : Nat) : Prop where
  lt : ∀ x ∈ zs, x < b
  one : c ≤ 1
  sum : val b (zs.take k) + b ^ k * c = val b (xs.take k) + val b (ys.take k)

theorem RSum.start {b : Nat} (hb : 0 < b) (xs ys : List Nat) (n : Nat) : RSum b xs ys (List.replicate n 0) 0 0 :=
  ⟨fun x hx => by rw [List.eq_of_mem_replicate hx]; exact hb, by omega, by simp [val]⟩

theorem RSum.step {b : Nat} {xs ys zs : List Nat} {k c : Nat} (h : RSum b xs ys zs k c) (hb : 2 ≤ b) (hX : ∀ x ∈ xs, x < b) (hY : ∀ x ∈ ys, x < b) (hk : k < zs.length) :
    RSum b xs ys (zs.set k ((c + xs.getD k 0 + ys.getD k 0) % b)) (k + 1) ((c + xs.getD k 0 + ys.getD k 0) / b) := by
  have h1 := getD_lt hX (by omega) k
  have h2 := getD_lt hY (by omega) k
  have h3 := h.one
  refine ⟨set_all_lt h.lt (Nat.mod_lt _ (by omega)), ?_, ?_⟩
  · have : (c + xs.getD k 0 + ys.getD k 0) / b < 2 := by rw [Nat.div_lt_iff_lt_mul (by omega)]; omega
    omega
  · rw [val_take_succ', take_set_self, getD_set_self _ _ _ hk, val_take_succ', val_take_succ']
    have h4 := h.sum
    have h5 := Nat.div_add_mod (c + xs.getD k 0 + ys.getD k 0) b
    generalize (c + xs.getD k 0 + ys.getD k 0) / b = d at *
    generalize (c + xs.getD k 0 + ys.getD k 0) % b = r at *
    rw [Nat.pow_succ]
    generalize b ^ k = P at *
    generalize xs.getD k 0 = x at *
    generalize ys.getD k 0 = y at *
    grind

theorem RSum.done {b : Nat} {xs ys zs : List Nat} {k c : Nat} (h : RSum b xs ys zs (k + 1) c) (hb : 2 ≤ b) (hz : zs.length = k + 1) (hx : xs.length ≤ k) (hy : ys.length ≤ k) (hX : ∀ x ∈ xs, x < b) (hY : ∀ x ∈ ys, x < b) :
    val b zs = val b xs + val b ys := by
  have h1 := h.sum
  rw [List.take_of_length_le (by omega), List.take_of_length_le (by omega), List.take_of_length_le (by omega)] at h1
  have h2 := Nat.lt_of_lt_of_le (val_lt b xs hX) (Nat.pow_le_pow_right (by omega) hx)
  have h3 := Nat.lt_of_lt_of_le (val_lt b ys hY) (Nat.pow_le_pow_right (by omega) hy)
  have h4 : b ^ k * 2 ≤ b ^ (k + 1) := by rw [Nat.pow_succ]; exact Nat.mul_le_mul_left _ hb
  have h5 : c = 0 := by
    rcases Nat.eq_zero_or_pos c with h | h
    · exact h
    · have : b ^ (k + 1) * 1 ≤ b ^ (k + 1) * c := Nat.mul_le_mul_left _ h
      omega
  subst h5
  omega

theorem IsR.keeps {w w1 w2 : World} {p : Option Addr} {l c n g o z : Nat} (h : IsR w p l c n) (hb : Below w.heap.size w w1) (ho : Only w1 w2 g o z) (hg : w.heap.size ≤ g) : IsR w2 p l c n := by
  obtain ⟨a1, a2, a3⟩ := h
  refine ⟨a1, a2, fun hn => ?_⟩
  obtain ⟨b, off, a4, a5⟩ := a3 hn
  have hlt := a5.lt (dr_pos hn)
  exact ⟨b, off, a4, (a5.mono hb).only ho (by omega)⟩

end Go.Proofs.YtjhjlecnjkjbbaaGreatDoor

/- The document's differences. -/
namespace Go.Proofs.YtjhjlecnjkjbbaaGreatDoor
open Go.RowKit

structure RDiff (b : Nat) (xs ys zs : List Nat) (k c : Nat) : Prop where
  lt : ∀ x ∈ zs, x < b
  one : c ≤ 1
  sum : val b (zs.take k) + val b (ys.take k) = val b (xs.take k) + b ^ k * c

theorem RDiff.start {b : Nat} (hb : 0 < b) (xs ys : List Nat) (n : Nat) : RDiff b xs ys (List.replicate n 0) 0 0 :=
  ⟨fun x hx => by rw [List.eq_of_mem_replicate hx]; exact hb, by omega, by simp [val]⟩

theorem RDiff.step {b : Nat} {xs ys zs : List Nat} {k c s d : Nat} (h : RDiff b xs ys zs k c) (hk : k < zs.length) (hs : s < b) (hd : d ≤ 1)
    (e : s + ys.getD k 0 + c = xs.getD k 0 + b * d) : RDiff b xs ys (zs.set k s) (k + 1) d := by
  refine ⟨set_all_lt h.lt hs, hd, ?_⟩
  rw [val_take_succ', take_set_self, getD_set_self _ _ _ hk, val_take_succ', val_take_succ']
  have h4 := h.sum
  rw [Nat.pow_succ]
  generalize b ^ k = P at *
  generalize xs.getD k 0 = x at *
  generalize ys.getD k 0 = y at *
  have e2 : P * (s + y + c) = P * (x + b * d) := by rw [e]
  grind

theorem RDiff.done {b : Nat} {xs ys zs : List Nat} {k c : Nat} (h : RDiff b xs ys zs k c) (hz : zs.length = k) (hx : xs.length = k) (hy : ys.length ≤ k) (hle : val b ys ≤ val b xs) :
    val b zs = val b xs - val b ys := by
  have h1 := h.sum
  rw [List.take_of_length_le (by omega), List.take_of_length_le (by omega), List.take_of_length_le (by omega)] at h1
  have h2 := val_lt b zs h.lt
  rw [hz] at h2
  have h5 : c = 0 := by
    rcases Nat.eq_zero_or_pos c with h | h
    · exact h
    · have : b ^ k * 1 ≤ b ^ k * c := Nat.mul_le_mul_left _ h
      omega
  subst h5
  omega

end Go.Proofs.YtjhjlecnjkjbbaaGreatDoor

/- The document's products. -/
namespace Go.Proofs.YtjhjlecnjkjbbaaGreatDoor
open Go.RowKit

def midRow (L zs : List Nat) (i l : Nat) : List Nat := L.take i ++ zs ++ L.drop (i + l)
theorem midRow_start (L : List Nat) (i l : Nat) (_h : i + l ≤ L.length) : midRow L ((L.drop i).take l) i l = L := by
  unfold midRow
  rw [← List.drop_drop, List.append_assoc, List.take_append_drop, List.take_append_drop]
theorem midRow_length {L zs : List Nat} {i l : Nat} (h : i + l ≤ L.length) (hz : zs.length = l) : (midRow L zs i l).length = L.length := by
  unfold midRow
  simp only [List.length_append, List.length_take, List.length_drop]; omega
theorem midRow_getD {L zs : List Nat} {i l k : Nat} (h : i + l ≤ L.length) (hz : zs.length = l) (hk : k < l) : (midRow L zs i l).getD (i + k) 0 = zs.getD k 0 := by
  unfold midRow
  have h1 : (L.take i).length = i := by rw [List.length_take]; omega
  simp only [List.getD]
  rw [List.append_assoc, List.getElem?_append_right (by rw [h1]; omega), h1, Nat.add_sub_cancel_left, List.getElem?_append_left (by omega)]
theorem midRow_set {L zs : List Nat} {i l k v : Nat} (h : i + l ≤ L.length) (hz : zs.length = l) (hk : k < l) : (midRow L zs i l).set (i + k) v = midRow L (zs.set k v) i l := by
  unfold midRow
  have h1 : (L.take i).length = i := by rw [List.length_take]; omega
  rw [List.append_assoc, List.set_append_right _ _ (by rw [h1]; omega), h1, Nat.add_sub_cancel_left, List.set_append_left _ _ (by omega), List.append_assoc]

end Go.Proofs.YtjhjlecnjkjbbaaGreatDoor
