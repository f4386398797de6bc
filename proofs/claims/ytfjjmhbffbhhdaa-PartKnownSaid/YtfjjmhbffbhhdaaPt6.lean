/- Halves of any rows. -/
import Derived.Test.YtfjjmhbffbhhdaaPt5
import Derived.Test.YtfjjmhbffbhhdaaVals
namespace Go.Proofs.Ytfjjmhbffbhhdaa
open Go.RowKit

inductive HWant where
  | is (v : Value)
  | row (B : Nat) (xs : List Nat)
  | any
def HMeans (w : World) : HWant → Value → Prop
  | .is x, v => v = x
  | .row B xs, v => RowV w B v xs
  | .any, _ => True
def HTab (t : List HWant) (off : Nat) (i : Nat) (v : Value) (w : World) : Prop := HMeans w (t.getD (i - off) .any) v
theorem HTab.stable {t : List HWant} {off : Nat} : ∀ i v w w', Below w.heap.size w w' → HTab t off i v w → HTab t off i v w' := by
  intro i v w w' hb h
  unfold HTab at h ⊢
  cases hx : t.getD (i - off) .any with
  | is x => rw [hx] at h; exact h
  | row B xs => rw [hx] at h; exact RowV.mono h hb
  | any => exact trivial
theorem RowV.lower {w : World} {B B' : Nat} {v : Value} {xs : List Nat} (h : RowV w B v xs) (hB : B' ≤ B) : RowV w B' v xs := by
  rcases h with h | ⟨g, c, h1, h2, h3⟩
  · exact .inl h
  · exact .inr ⟨g, c, h1, by omega, h3⟩
theorem at_drop {w : World} {k : IntKind} {b off : Nat} {xs : List Nat} (h : At w k b off xs) (t : Nat) : At w k b (off + t) (xs.drop t) := by
  intro i hi
  rw [List.length_drop] at hi
  have := h (t + i) (by omega)
  rw [← Nat.add_assoc] at this
  rw [this]
  simp [List.getD, List.getElem?_drop]

set_option maxRecDepth 100000 in
set_option maxHeartbeats 2000000 in
theorem halves_any (n t b s : Nat) (w : World) (h : IsD w b s) (hn : 0 < n) (hn2 : n ≤ 300) (ht : t ≤ n) :
    Calls Try.prog 9 #[.int .i64 (n : Int), .int .i64 (t : Int), .pointer (some ⟨b, 0, none⟩)] w fun e w' => ∃ v1 v2, e = .returned (.tuple #[v1, v2, .int .i64 0]) ∧
      RowV w' w.heap.size v1 (srt ((dorder n s).drop t)) ∧ RowV w' w.heap.size v2 (srt ((dorder n s).take t)) ∧ Drawn w w' b (dorderS n s) := by
  have d1 : ¬ (300 : Int) < (n : Int) := by omega
  have d2 : ¬ (t : Int) < 0 := by omega
  have d3 : ¬ (n : Int) < (t : Int) := by omega
  have hl := dorder_len n s
  have hD := dOrder_anyF b s n w h hn (by omega)
  obtain ⟨L, hL⟩ : ∃ L, L = dorder n s := ⟨_, rfl⟩
  obtain ⟨T, hT⟩ : ∃ T, T = dorderS n s := ⟨_, rfl⟩
  rw [← hL] at hl hD ⊢
  rw [← hT] at hD ⊢
  have HD := Lib.hid hD; have HL := Lib.hid hl
  have hbl := h.lt
  clear hD h hL hT hl
  go_enter Try.func9, Try.ntmps9
  go_wp2_with fail
  refine HD.out.mono ?_
  rintro e w1 ⟨g, rfl, hg, hA, hF, hdr⟩
  rw [HL.out] at hF ⊢
  have hgl : g < w1.heap.size := hA.lt (by rw [HL.out]; exact hn)
  obtain ⟨o, ho⟩ : ∃ o, o = if n = t then 0 else t := ⟨_, rfl⟩
  have AD := Lib.hid (show At w1 .i64 g o (L.drop t) from by
    have h1 := at_drop hA t
    rw [Nat.zero_add] at h1
    by_cases e : n = t
    · intro i hi
      rw [List.length_drop, HL.out] at hi
      omega
    · rw [ho, if_neg e]; exact h1)
  have AT := Lib.hid (show At w1 .i64 g 0 (L.take t) from hA.take t)
  have HDR := Lib.hid hdr
  have hsz := hdr.2.size
  clear hA hF hdr HD
  go_wp2
--REGION4
  refine region_v (slots := [24, 25, 26, 27, 28, 29, 30, 31, 6, 7, 8]) (V := HTab [.is (.slice (some ⟨g, 0, none⟩) n n), .is (.int .i64 (t : Int)), .is (.slice (some ⟨g, o, none⟩) (n - t) (n - t)), .row w.heap.size (srt (L.drop t)), .is (.slice (some ⟨g, 0, none⟩) n n), .is (.int .i64 (t : Int)), .is (.slice (some ⟨g, 0, none⟩) t n), .row w.heap.size (srt (L.take t)), .row w.heap.size (srt (L.drop t)), .row w.heap.size (srt (L.take t)), .is (.int .i64 0)] 0) (by kernel_rfl) (by kernel_rfl) HTab.stable (by kernel_rfl) (by kernel_rfl) ?_ ?_
  · skip
    refine AllV.cons rfl (fun E W hb hc hf hE hV => Or.inl ⟨rfl, ?_⟩) ?_
    · have e1 : E (.tmp 9) = .slice (some ⟨g, 0, none⟩) n n := hE 9 (by kernel_rfl)
      clear hE hV
      exact Does.value (w' := W) (by go_simp) ⟨rfl, Below.refl _ _⟩
    refine AllV.cons rfl (fun E W hb hc hf hE hV => Or.inl ⟨rfl, ?_⟩) ?_
    · have e1 : E (.tmp 1) = .int .i64 (t : Int) := hE 1 (by kernel_rfl)
      clear hE hV
      exact Does.value (w' := W) (by go_simp) ⟨rfl, Below.refl _ _⟩
    refine AllV.cons rfl (fun E W hb hc hf hE hV => Or.inl ⟨rfl, ?_⟩) ?_
    · have e1 : E (.tmp 24) = _ := hV 0 24 (by kernel_rfl) (by kernel_rfl)
      have e2 : E (.tmp 25) = _ := hV 1 25 (by kernel_rfl) (by kernel_rfl)
      clear hE hV
      exact Does.value (w' := W) (by go_simp <;> first | rfl | omega | (split <;> simp_all)) ⟨rfl, Below.refl _ _⟩
    refine AllV.cons rfl (fun E W hb hc hf hE hV => Or.inl ⟨rfl, ?_⟩) ?_
    · have e1 : E (.tmp 26) = _ := hV 2 26 (by kernel_rfl) (by kernel_rfl)
      clear hE hV
      refine Does.call (w' := W) (by go_simp) ((asc_any g o (n - t) (n - t) (L.drop t) (by rw [List.length_drop, HL.out]) (by omega) W (by have := hb.size; omega) (AD.out.mono hb)).mono ?_)
      rintro e w' ⟨v, rfl, hr, hb2⟩
      exact ⟨v, rfl, RowV.lower hr (by have := hb.size; omega), hb2⟩
    refine AllV.cons rfl (fun E W hb hc hf hE hV => Or.inl ⟨rfl, ?_⟩) ?_
    · have e1 : E (.tmp 9) = .slice (some ⟨g, 0, none⟩) n n := hE 9 (by kernel_rfl)
      clear hE hV
      exact Does.value (w' := W) (by go_simp) ⟨rfl, Below.refl _ _⟩
    refine AllV.cons rfl (fun E W hb hc hf hE hV => Or.inl ⟨rfl, ?_⟩) ?_
    · have e1 : E (.tmp 1) = .int .i64 (t : Int) := hE 1 (by kernel_rfl)
      clear hE hV
      exact Does.value (w' := W) (by go_simp) ⟨rfl, Below.refl _ _⟩
    refine AllV.cons rfl (fun E W hb hc hf hE hV => Or.inl ⟨rfl, ?_⟩) ?_
    · have e1 : E (.tmp 28) = _ := hV 4 28 (by kernel_rfl) (by kernel_rfl)
      have e2 : E (.tmp 29) = _ := hV 5 29 (by kernel_rfl) (by kernel_rfl)
      clear hE hV
      exact Does.value (w' := W) (by go_simp <;> first | rfl | omega | (split <;> simp_all)) ⟨rfl, Below.refl _ _⟩
    refine AllV.cons rfl (fun E W hb hc hf hE hV => Or.inl ⟨rfl, ?_⟩) ?_
    · have e1 : E (.tmp 30) = _ := hV 6 30 (by kernel_rfl) (by kernel_rfl)
      clear hE hV
      refine Does.call (w' := W) (by go_simp) ((asc_any g 0 n t (L.take t) (by rw [List.length_take, HL.out]; omega) (by omega) W (by have := hb.size; omega) (AT.out.mono hb)).mono ?_)
      rintro e w' ⟨v, rfl, hr, hb2⟩
      exact ⟨v, rfl, RowV.lower hr (by have := hb.size; omega), hb2⟩
    refine AllV.cons rfl (fun E W hb hc hf hE hV => Or.inl ⟨rfl, ?_⟩) ?_
    · have e1 : HMeans W (.row w.heap.size (srt (L.drop t))) (E (.tmp 27)) := hV 3 27 (by kernel_rfl) (by kernel_rfl)
      clear hE hV
      exact Does.value (w' := W) (by go_simp) ⟨e1, Below.refl _ _⟩
    refine AllV.cons rfl (fun E W hb hc hf hE hV => Or.inl ⟨rfl, ?_⟩) ?_
    · have e1 : HMeans W (.row w.heap.size (srt (L.take t))) (E (.tmp 31)) := hV 7 31 (by kernel_rfl) (by kernel_rfl)
      clear hE hV
      exact Does.value (w' := W) (by go_simp) ⟨e1, Below.refl _ _⟩
    refine AllV.cons rfl (fun E W hb hc hf hE hV => Or.inl ⟨rfl, ?_⟩) ?_
    · clear hE hV
      exact Does.value (w' := W) (by go_simp) ⟨rfl, Below.refl _ _⟩
    exact AllV.nil
--END4
  intro f W hf hb
  have g3 : RowV W w.heap.size (f 6) (srt (L.drop t)) := hf (8, 6) (by decide)
  have g4 : RowV W w.heap.size (f 7) (srt (L.take t)) := hf (9, 7) (by decide)
  have g5 : f 8 = .int .i64 0 := hf (10, 8) (by decide)
  have W5 := Lib.hid hb; have G3 := Lib.hid g3; have G4 := Lib.hid g4
  clear hf hb g3 g4
  simp only [fillSlots, List.setIfInBounds_toArray, List.set_cons_succ, List.set_cons_zero, g5]
  clear g5
  obtain ⟨v1, hv1⟩ : ∃ v1, v1 = f 6 := ⟨_, rfl⟩
  obtain ⟨v2, hv2⟩ : ∃ v2, v2 = f 7 := ⟨_, rfl⟩
  rw [← hv1] at G3 ⊢
  rw [← hv2] at G4 ⊢
  clear hv1 hv2
  go_wp2
  refine bodyPost_ret (v := .tuple #[v1, v2, .int .i64 0]) (by simp [results, Try.results9, go_sem]) rfl ?_
  exact ⟨v1, v2, rfl, G3.out, G4.out, HDR.out.1.mono W5.out, HDR.out.2.trans (Only.of_below W5.out HDR.out.1.lt)⟩
end Go.Proofs.Ytfjjmhbffbhhdaa
