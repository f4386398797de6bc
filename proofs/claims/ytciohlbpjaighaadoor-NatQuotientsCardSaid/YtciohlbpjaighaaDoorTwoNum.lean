/- Two numbers of two arguments, the program's and the document's. -/
import Derived.Test.YtciohlbpjaighaaDoorNumKit
namespace Go.Proofs.YtciohlbpjaighaaDoor
open Go.RowKit

/-- What 'two' leaves: the program's numbers m, n; the document's. -/
def RetTwo (W : World) (m n : Nat) : Ending → World → Prop := fun e w' =>
  ∃ s p l c t q k d p' l' c' q' k' d', e = .returned (.tuple #[.agg #[.int .u64 s, .slice p l c], .agg #[.int .u64 t, .slice q k d], .slice p' l' c', .slice q' k' d']) ∧
    IsN w' s p l c m ∧ IsN w' t q k d n ∧ IsR w' p' l' c' m ∧ IsR w' q' k' d' n ∧ Below W.heap.size W w'

set_option maxHeartbeats 1000000 in
theorem two_any (p q : Option Addr) (l c k d : Nat) (bs cs : List Nat) (w : World) (h1 : IsB w p l c bs) (h2 : IsB w q k d cs) :
    Calls Tryd.prog 4 #[.slice p l c, .slice q k d] w (RetTwo w (nb (bs.take 48)) (nb (cs.take 48))) := by
  have H1 := Lib.hid h1; have H2 := Lib.hid h2
  have hb1 : ∀ x ∈ bs.take 48, x < 256 := fun x hx => h1.2.1 x (List.mem_of_mem_take hx)
  have hb2 : ∀ x ∈ cs.take 48, x < 256 := fun x hx => h2.2.1 x (List.mem_of_mem_take hx)
  have hl1 : (bs.take 48).length ≤ 48 := by rw [List.length_take]; omega
  have hl2 : (cs.take 48).length ≤ 48 := by rw [List.length_take]; omega
  have T1 := Lib.hid (fun w => few_any p l c 48 bs w (by omega))
  have T2 := Lib.hid (fun w => few_any q k d 48 cs w (by omega))
  have D1 := dr_nb _ hb1 (by omega)
  have D2 := dr_nb _ hb2 (by omega)
  generalize bs.take 48 = B1 at *
  generalize cs.take 48 = B2 at *
  have HB1 := Lib.hid hb1; have HB2 := Lib.hid hb2
  clear h1 h2 hb1 hb2
  go_enter Tryd.func4, Tryd.ntmps4
  go_wp2_with fail
  refine (T1.out _ (H1.out.mono (below_alloc (below_alloc (Below.refl _ _) _) _))).mono ?_
  rintro e w1 ⟨g1, o1, c1, rfl, x1, x2, x3, x4, hb⟩
  obtain ⟨hc, hf⟩ := bcell hb
  have X3 := Lib.hid x3; clear x3 x4
  go_wp2_with fail
  refine (rFrom_any g1 o1 c1 _ B1 w1 rfl (by omega) X3.out HB1.out).mono ?_
  rintro e w2 ⟨p1, l1, e1, rfl, r1, hb2⟩
  have R1 := Lib.hid r1; clear r1
  replace hb := below_step hb hb2
  clear hc hf hb2
  obtain ⟨hc, hf⟩ := bcell hb
  have HBa : Below w.heap.size w w2 := (by repeat' first | exact Below.refl _ _ | refine below_alloc ?_ _ | refine below_step ?_ (by assumption))
  have HB := Lib.hid HBa; clear HBa
  go_wp2_with fail
  refine (T2.out _ (H2.out.mono HB.out)).mono ?_
  rintro e w3 ⟨g2, o2, c2, rfl, y1, y2, y3, y4, hb2⟩
  have Y3 := Lib.hid y3; clear y3 y4
  have R1 := Lib.hid (R1.out.mono hb2)
  have HB := Lib.hid (below_step HB.out hb2)
  replace hb := below_step hb hb2
  clear hc hf hb2
  obtain ⟨hc, hf⟩ := bcell hb
  go_wp2_with fail
  refine (rFrom_any g2 o2 c2 _ B2 w3 rfl (by omega) Y3.out HB2.out).mono ?_
  rintro e w4 ⟨p2, l2, e2, rfl, r2, hb2⟩
  have R2 := Lib.hid r2; clear r2
  have R1 := Lib.hid (R1.out.mono hb2)
  have HB := Lib.hid (below_step HB.out hb2)
  replace hb := below_step hb hb2
  clear hc hf hb2
  obtain ⟨hc, hf⟩ := bcell hb
  go_wp2_with fail
  refine (hNat_any (nb B1) p1 l1 e1 w4 R1.out (by omega)).mono ?_
  rintro e w5 ⟨s5, p5, l5, c5, rfl, n5, hb2⟩
  have N5 := Lib.hid n5; clear n5
  have R1 := Lib.hid (R1.out.mono hb2)
  have R2 := Lib.hid (R2.out.mono hb2)
  have HB := Lib.hid (below_step HB.out hb2)
  replace hb := below_step hb hb2
  clear hc hf hb2
  obtain ⟨hc, hf⟩ := bcell hb
  go_wp2_with fail
  refine (hNat_any (nb B2) p2 l2 e2 w5 R2.out (by omega)).mono ?_
  rintro e w6 ⟨s6, p6, l6, c6, rfl, n6, hb2⟩
  have N6 := Lib.hid n6; clear n6
  have N5 := Lib.hid (N5.out.mono hb2)
  have R1 := Lib.hid (R1.out.mono hb2)
  have R2 := Lib.hid (R2.out.mono hb2)
  have HB := Lib.hid (below_step HB.out hb2)
  replace hb := below_step hb hb2
  clear hc hf hb2
  obtain ⟨hc, hf⟩ := bcell hb
  have a0 : w6.cell? ⟨w.heap.size, 0, none⟩ = some (.int .u64 0) := by simp [hc, go_sem]
  have a1 : w6.cell? ⟨w.heap.size, 1, none⟩ = some (.slice none 0 0) := by simp [hc, go_sem]
  have b0 : w6.cell? ⟨w.heap.size + 1, 0, none⟩ = some (.int .u64 0) := by simp [hc, go_sem]
  have b1 : w6.cell? ⟨w.heap.size + 1, 1, none⟩ = some (.slice none 0 0) := by simp [hc, go_sem]
  have fa0 : w6.frozen? ⟨w.heap.size, 0, none⟩ = false := by simp [hf, go_sem]
  have fa1 : w6.frozen? ⟨w.heap.size, 1, none⟩ = false := by simp [hf, go_sem]
  have fb0 : w6.frozen? ⟨w.heap.size + 1, 0, none⟩ = false := by simp [hf, go_sem]
  have fb1 : w6.frozen? ⟨w.heap.size + 1, 1, none⟩ = false := by simp [hf, go_sem]
  clear hc hf hb
  go_wp2
  have HBB : Below w.heap.size w ((((w6.setCell ⟨w.heap.size, 0, none⟩ (.int .u64 s5)).setCell ⟨w.heap.size, 1, none⟩ (.slice p5 l5 c5)).setCell ⟨w.heap.size + 1, 0, none⟩ (.int .u64 s6)).setCell ⟨w.heap.size + 1, 1, none⟩ (.slice p6 l6 c6)) :=
    (((HB.out.setCell (by simp) _).setCell (by simp) _).setCell (by simp) _).setCell (by simp) _
  have N5' := N5.out.box (u := .int .u64 s5) (v := .slice p5 l5 c5) a1
  have N6' := N6.out.box (u := .int .u64 s5) (v := .slice p5 l5 c5) a1
  have R1' := R1.out.box (u := .int .u64 s5) (v := .slice p5 l5 c5) a0 a1
  have R2' := R2.out.box (u := .int .u64 s5) (v := .slice p5 l5 c5) a0 a1
  have b0' : ((w6.setCell ⟨w.heap.size, 0, none⟩ (.int .u64 s5)).setCell ⟨w.heap.size, 1, none⟩ (.slice p5 l5 c5)).cell? ⟨w.heap.size + 1, 0, none⟩ = some (.int .u64 0) := by simp [go_sem, b0]
  have b1' : ((w6.setCell ⟨w.heap.size, 0, none⟩ (.int .u64 s5)).setCell ⟨w.heap.size, 1, none⟩ (.slice p5 l5 c5)).cell? ⟨w.heap.size + 1, 1, none⟩ = some (.slice none 0 0) := by simp [go_sem, b1]
  refine bodyPost_ret (v := .tuple #[.agg #[.int .u64 s5, .slice p5 l5 c5], .agg #[.int .u64 s6, .slice p6 l6 c6], .slice p1 l1 e1, .slice p2 l2 e2]) (by simp [results, Tryd.results4, go_sem, a0, a1, b0, b1]) rfl
    ⟨s5, p5, l5, c5, s6, p6, l6, c6, p1, l1, e1, p2, l2, e2, rfl, N5'.box b1', N6'.box b1', R1'.box b0' b1', R2'.box b0' b1', HBB⟩
end Go.Proofs.YtciohlbpjaighaaDoor
