/- Seal: the program's records. -/
import Derived.Test.YtdmoiagliflecaaO4
namespace Go.Proofs.Ytdmoiagliflecaa
open Go.RowKit

/-- What a call leaves that returns a record and no error. -/
def RetSeal (W : World) (bs : List Nat) : Ending → World → Prop := fun e w' =>
  ∃ g, e = .returned (.tuple #[.slice (some ⟨g, 0, none⟩) bs.length bs.length, .int .i64 0]) ∧ W.heap.size ≤ g ∧ At w' .u8 g 0 bs ∧ Fr w' g 0 bs.length ∧ Below W.heap.size W w'

/-- A row below all that is the Writer's own stays. -/
theorem At.below {w w' : World} {n0 : Nat} {k : IntKind} {b off : Nat} {xs : List Nat} (h : At w k b off xs) (hb : Below n0 w w') (hn : w.heap.size ≤ n0) : At w' k b off xs := by
  intro i hi
  have h1 := h i hi
  rw [hb.cell (p := ⟨b, off + i, none⟩) (Nat.lt_of_lt_of_le (World.block_lt_of_cell? _ _ h1) hn)]; exact h1

set_option maxHeartbeats 2000000 in
theorem seal_any (k b off l c : Nat) (body : List Nat) (w : World) (hk1 : 1 ≤ k) (hk2 : k ≤ 255) (hl : body.length = l) (hl2 : l ≤ 4194304) (hlt : ∀ x ∈ body, x < 256) (h : At w .u8 b off body) :
    Calls Try.prog 6 #[.int .i64 (k : Int), .slice (some ⟨b, off, none⟩) l c] w (RetSeal w (sealed k body)) := by
  have HX := Lib.hid h; have HL := Lib.hid hl; have HT := Lib.hid hlt
  clear h hl hlt
  have hk256 : (k : Int) % 256 = (k : Int) := by omega
  go_enter Try.func6, Try.ntmps6
  go_wp2_with fail
  refine (newWriter_any _).mono ?_
  rintro e w1 ⟨hw1, rfl⟩
  have W1 := Lib.hid (WrV.new w)
  rw [← hw1] at W1
  have B1 : Below w.heap.size w w1 := by rw [hw1]; exact below_alloc (Below.refl _ _) _
  have hz1 : w.heap.size + 1 = w1.heap.size := by rw [hw1]; simp
  have HZ1 := Lib.hid hz1
  have HB1 := Lib.hid B1
  obtain ⟨n0, hn0⟩ : ∃ n0, n0 = w.heap.size := ⟨_, rfl⟩
  rw [← hn0] at W1 HZ1 HB1 ⊢
  have HN0 := Lib.hid hn0
  clear hw1 hz1 B1 hn0
  have A1 := Lib.hid (At.new1 w1 .u8 k 5)
  go_wp2_with fail
  refine (add_at n0 n0 w1.heap.size 0 1 1 _ [] [k] _ (W1.out.alloc _) (by have := HZ1.out; simp; omega) rfl A1.out (fun x hx => by simp at hx; omega) (by decide) (by decide)).mono ?_
  rintro e w2 ⟨g2, cap2, rfl, hW2, hs2⟩
  have hs2' := (WStep.alloc (b := n0) (v := .slice none 0 0) (w := w1) (.cells #[.int .u8 (k : Int)] 5)).trans hs2
  have hb2 : Below n0 w w2 := HB1.out.trans (hs2'.below W1.out (by have := HZ1.out; omega))
  have hz2 : n0 ≤ w2.heap.size := by have := hs2'.size; have := HZ1.out; omega
  have HW2 := Lib.hid hW2; have HB2 := Lib.hid hb2
  clear hs2 hs2' hb2 A1 hk256 hW2
  go_wp2_with fail
  refine (count_any n0 n0 l _ _ w2 HW2.out hz2 (by simp) (by omega)).mono ?_
  rintro e w3 ⟨g3, cap3, rfl, hW3, hs3⟩
  have hb3 : Below n0 w w3 := HB2.out.trans (hs3.below HW2.out hz2)
  have hz3 : n0 ≤ w3.heap.size := by have := hs3.size; omega
  have HW3 := Lib.hid hW3; have HB3 := Lib.hid hb3
  have A3 := Lib.hid (HX.out.below hb3 (by rw [HN0.out]; exact Nat.le_refl _))
  clear hs3 hb3 hW3
  go_wp2_with fail
  refine (add_at n0 n0 b off l c _ _ body w3 HW3.out hz3 HL.out A3.out HT.out (by simp; omega) (by have := varint_length l 9 (by omega) (by omega); simp; omega)).mono ?_
  rintro e w4 ⟨g4, cap4, rfl, hW4, hs4⟩
  have hb4 : Below n0 w w4 := HB3.out.trans (hs4.below HW3.out hz3)
  have hz4 : n0 ≤ w4.heap.size := by have := hs4.size; omega
  have hu : [] ++ [k] ++ varint l ++ body = unsealed k body := by rw [← HL.out]; simp [unsealed]
  rw [hu] at hW4
  obtain ⟨u, hu2⟩ : ∃ u, u = unsealed k body := ⟨_, rfl⟩
  have hul : u.length ≤ 4194304 + 20 := by
    rw [hu2, unsealed_length, HL.out]
    have := varint_length l 9 (by omega) (by omega)
    omega
  have hul0 : 0 < u.length := by rw [hu2, unsealed_length]; omega
  rw [← hu2] at hW4
  have HU := Lib.hid hu2
  obtain ⟨hi1, hi2, hi3⟩ := hW4.isB rfl
  have hc4 := hW4.box.cell
  have I4 := Lib.hid (show IsB w4 (some ⟨g4, 0, none⟩) u.length cap4 u from ⟨rfl, hW4.lt, Or.inr ⟨g4, 0, none, rfl, hi2, fun i hi => by rw [Go.WideShapes.add_plain]; exact hi3 i hi⟩⟩)
  have HW4 := Lib.hid hW4; have HB4 := Lib.hid hb4
  clear hs4 hb4 hW4 hu hu2 hi1 hi2 hi3 A3
  go_wp2_with fail
  refine (written_any _ _ _ u w4 (by omega) I4.out).mono ?_
  rintro e w5 ⟨g5, o5, c5, rfl, h51, h52, h53, h54, hb5⟩
  have hW5 := HW4.out.below hb5
  have hb5' : Below n0 w w5 := HB4.out.trans (hb5.mono hz4)
  have hz5 : n0 ≤ w5.heap.size := by have := hb5.size; omega
  have HW5 := Lib.hid hW5; have HB5 := Lib.hid hb5'; have A5 := Lib.hid h53
  clear hb5 hb5' hW5 h51 h52 h53 h54 I4 hc4
  go_wp2_with fail
  refine (add_at n0 n0 g5 o5 8 c5 _ u (be8 (fnv u)) w5 HW5.out hz5 rfl A5.out (be8_lt _) (by omega) (by omega)).mono ?_
  rintro e w6 ⟨g6, cap6, rfl, hW6, hs6⟩
  have hb6 : Below n0 w w6 := HB5.out.trans (hs6.below HW5.out hz5)
  have hz6 : n0 ≤ w6.heap.size := by have := hs6.size; omega
  have hse : u ++ be8 (fnv u) = sealed k body := by rw [HU.out]; rfl
  rw [hse] at hW6
  obtain ⟨s, hs⟩ : ∃ s, s = sealed k body := ⟨_, rfl⟩
  have hsl : 0 < s.length ∧ s.length ≤ 4194304 + 30 := by rw [hs, ← hse, List.length_append, be8_length]; omega
  rw [← hs] at hW6
  have HSS := Lib.hid hs
  have HW6 := Lib.hid hW6; have HB6 := Lib.hid hb6
  clear hs6 hb6 hW6 A5 hse hs HU
  go_wp2_with fail
  refine (wBytes_any n0 n0 g6 s.length cap6 s w6 HW6.out rfl hsl.1 (by omega)).mono ?_
  rintro e w7 ⟨⟨rfl, rfl⟩ | ⟨g7, h1, rfl, h2, h3, h4⟩, hb⟩
  · simp at hsl
  · have H2 := Lib.hid h2; have H3 := Lib.hid h3; have H4 := Lib.hid h4
    have HB := Lib.hid (HB6.out.trans (hb.mono hz6))
    clear h2 h3 h4 hb
    go_wp2
    go_ret2
    rw [← HSS.out]
    refine ⟨g7, rfl, ?_, H3.out, H4.out, ?_⟩
    · rw [← HN0.out]; exact Nat.le_trans hz6 H2.out
    · rw [← HN0.out]; exact HB.out
end Go.Proofs.Ytdmoiagliflecaa
