/- A generator: made, asked for its state, asked for 64 bits, forked. -/
import Derived.Test.YtfjjmhbffbhhdaaD0
import Derived.Test.YtfjjmhbffbhhdaaO1
import Derived.Laws.IdiomStrings
import Derived.Deep.RegionWith
namespace Go.Proofs.Ytfjjmhbffbhhdaa
open Go.RowKit

/-- Block b holds a generator of state s. -/
def IsD (w : World) (b s : Nat) : Prop := w.cell? ⟨b, 0, none⟩ = some (.int .u64 (s : Int)) ∧ w.frozen? ⟨b, 0, none⟩ = false ∧ s < 18446744073709551616
theorem IsD.lt {w : World} {b s : Nat} (h : IsD w b s) : b < w.heap.size := World.block_lt_of_cell? w ⟨b, 0, none⟩ h.1
theorem IsD.mono {w w' : World} {b s : Nat} (h : IsD w b s) (hb : Below w.heap.size w w') : IsD w' b s :=
  ⟨by rw [hb.cell (p := ⟨b, 0, none⟩) h.lt]; exact h.1, by rw [hb.frozen (p := ⟨b, 0, none⟩) h.lt]; exact h.2.1, h.2.2⟩
theorem IsD.only {w w' : World} {b s c o n : Nat} (h : IsD w b s) (hb : Only w w' c o n) (hc : b ≠ c) : IsD w' b s :=
  ⟨by rw [World.cell?_of_block (w := w) (hb.block b h.lt hc)]; exact h.1, by rw [World.frozen?_of_block (w := w) (hb.block b h.lt hc)]; exact h.2.1, h.2.2⟩
theorem IsD.put {w : World} {b s : Nat} (h : IsD w b s) {t : Nat} (ht : t < 18446744073709551616) : IsD (w.setCell ⟨b, 0, none⟩ (.int .u64 (t : Int))) b t :=
  ⟨World.cell?_setCell_same _ _ _ h.1, by rw [World.frozen?_setCell]; exact h.2.1, ht⟩
theorem IsD.made (w : World) {s : Nat} (h : s < 18446744073709551616) : IsD (w.alloc (.cells #[.int .u64 (s : Int)] 45)) w.heap.size s :=
  ⟨by rw [World.cell?_alloc_at _ _ _ _ rfl]; rfl, World.frozen?_alloc_at _ _ _ _ rfl, h⟩
/-- The call has put the generator in block b to state t, and else has made new blocks only. -/
def Drawn (w w' : World) (b t : Nat) : Prop := IsD w' b t ∧ Only w w' b 0 1
theorem Drawn.trans {w w1 w2 : World} {b t u : Nat} (h : Drawn w w1 b t) (k : Drawn w1 w2 b u) : Drawn w w2 b u := ⟨k.1, h.2.trans k.2⟩

set_option maxHeartbeats 400000 in
theorem dNew_any (s : Nat) (w : World) :
    Calls Try.prog 6 #[.int .u64 (s : Int)] w fun e w' => e = .returned (.pointer (some ⟨w.heap.size, 0, none⟩)) ∧ w' = w.alloc (.cells #[.int .u64 (s : Int)] 45) := by
  go_enter Try.func6, Try.ntmps6
  go_wp2
  go_ret
  exact ⟨rfl, rfl⟩

set_option maxHeartbeats 400000 in
theorem dState_any (b s : Nat) (w : World) (h : IsD w b s) :
    Calls Try.prog 8 #[.pointer (some ⟨b, 0, none⟩)] w fun e w' => w = w' ∧ e = .returned (.int .u64 (s : Int)) := by
  have h1 := h.1
  have H := Lib.hid h
  clear h
  go_enter Try.func8, Try.ntmps8
  go_wp2
  go_ret
  exact ⟨rfl, rfl⟩

theorem xor_part {t m : Nat} (ht : t < 18446744073709551616) : bits .xor .u64 (t : Int) ((t / m : Nat) : Int) = ((t ^^^ t / m : Nat) : Int) :=
  u64_xor_nat t (t / m) ht (Nat.lt_of_le_of_lt (Nat.div_le_self t m) ht)
theorem mix_1 {t : Nat} (ht : t < 18446744073709551616) : IntKind.u64.wrap (bits .xor .u64 (t : Int) ((t : Int) / 1073741824) * 13787848793156543929) = ((dmix1 t : Nat) : Int) := by
  rw [show (t : Int) / 1073741824 = ((t / 1073741824 : Nat) : Int) from by omega, xor_part ht, IntKind.wrap_u64]
  unfold dmix1
  generalize t ^^^ t / 1073741824 = y
  omega
theorem mix_2 {t : Nat} (ht : t < 18446744073709551616) : IntKind.u64.wrap (bits .xor .u64 (t : Int) ((t : Int) / 134217728) * 10723151780598845931) = ((dmix2 t : Nat) : Int) := by
  rw [show (t : Int) / 134217728 = ((t / 134217728 : Nat) : Int) from by omega, xor_part ht, IntKind.wrap_u64]
  unfold dmix2
  generalize t ^^^ t / 134217728 = y
  omega
theorem mix_3 {t : Nat} (ht : t < 18446744073709551616) : bits .xor .u64 (t : Int) ((t : Int) / 2147483648) = ((dmix3 t : Nat) : Int) := by
  rw [show (t : Int) / 2147483648 = ((t / 2147483648 : Nat) : Int) from by omega, xor_part ht]
  rfl

set_option maxHeartbeats 400000 in
theorem dNext_any (b s : Nat) (w : World) (h : IsD w b s) :
    Calls Try.prog 37 #[.pointer (some ⟨b, 0, none⟩)] w fun e w' => e = .returned (.int .u64 ((dmix (dstep s) : Nat) : Int)) ∧ w' = w.setCell ⟨b, 0, none⟩ (.int .u64 ((dstep s : Nat) : Int)) := by
  have h1 := h.1
  have h2 := h.2.1
  have ht := dstep_lt s
  have hw : IntKind.u64.wrap ((s : Int) + 11400714819323198485) = ((dstep s : Nat) : Int) := by rw [IntKind.wrap_u64]; unfold dstep; omega
  obtain ⟨t, hte⟩ : ∃ t, t = dstep s := ⟨_, rfl⟩
  rw [← hte] at hw ht ⊢
  have hc := World.cell?_setCell_same w ⟨b, 0, none⟩ (.int .u64 (t : Int)) h1
  have HW := Lib.hid hw
  have HM := Lib.hid (show bits .xor .u64 ((dmix2 (dmix1 t) : Nat) : Int) (((dmix2 (dmix1 t) : Nat) : Int) / 2147483648) = ((dmix t : Nat) : Int) from mix_3 (dmix2_lt _))
  have HT := Lib.hid ht
  clear h hw hte
  go_enter Try.func37, Try.ntmps37
  go_wp2
  go_ret
  exact ⟨ret_int (by rw [HW.out, mix_1 HT.out, mix_2 (dmix1_lt t)]; exact HM.out), by rw [HW.out]⟩

/-- The bytes of a string. -/
def bytesOf (t : ByteArray) : List Nat := t.data.toList.map UInt8.toNat
theorem bytesOf_len (t : ByteArray) : (bytesOf t).length = t.size := by simp [bytesOf]
theorem bytesOf_lt (t : ByteArray) : ∀ x ∈ bytesOf t, x < 256 := by
  intro x hx
  obtain ⟨y, _, rfl⟩ := List.mem_map.1 hx
  exact y.toNat_lt
/-- A string's bytes as a slice. -/
theorem bytes_laid (w : World) (t : ByteArray) : IsB (w.drew.alloc (.cells (bytesRow t (grownCap w t.size 0 5)) 5 ((bytesRow t (grownCap w t.size 0 5)).size, (bytesRow t (grownCap w t.size 0 5)).size + 1)))
    (some ⟨w.heap.size, 0, none⟩) t.size (grownCap w t.size 0 5) (bytesOf t) := by
  refine ⟨bytesOf_len t, bytesOf_lt t, Or.inr ⟨w.heap.size, 0, none, rfl, ?_, fun i hi => ?_⟩⟩
  · exact grownCap_ge _ _ _ _
  · rw [bytesOf_len] at hi
    rw [Go.WideShapes.add_plain, Nat.zero_add]
    have h1 : (w.drew.alloc (.cells (bytesRow t (grownCap w t.size 0 5)) 5 ((bytesRow t (grownCap w t.size 0 5)).size, (bytesRow t (grownCap w t.size 0 5)).size + 1))).cell? ⟨w.heap.size, i, none⟩ = (bytesRow t (grownCap w t.size 0 5))[i]? :=
      World.cell?_alloc_mark w.drew _ _ _ i
    rw [h1, bytesRow_at t _ i hi]
    congr 3
    have hd : i < t.data.size := hi
    simp [bytesOf, List.getD, Array.getElem?_eq_getElem hd]
end Go.Proofs.Ytfjjmhbffbhhdaa
