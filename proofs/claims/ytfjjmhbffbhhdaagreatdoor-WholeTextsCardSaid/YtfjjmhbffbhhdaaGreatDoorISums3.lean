/- WholeSums: any two integers are added, taken away, multiplied and compared as the document says. -/
import Derived.Test.YtfjjmhbffbhhdaaGreatDoorISums2
namespace Go.Proofs.YtfjjmhbffbhhdaaGreatDoor
open Go.RowKit

set_option maxRecDepth 100000 in
set_option maxHeartbeats 2000000 in
theorem is2_any (z : Int) (g g2 : Bool) (s : Int) (p p2 : Option Addr) (l c l2 c2 : Nat) (w : World) (hz : (ds z.natAbs).length ≤ 400) (h1 : IsI w g s p l c z) (h2 : IsRI w g2 p2 l2 c2 z) :
    Calls Tryz.prog 11 #[.agg #[.bool g, .int .u64 s, .slice p l c], .agg #[.bool g2, .slice p2 l2 c2]] w fun e w' => e = .returned (.bool true) ∧ Below w.heap.size w w' := by
  have HZ := Lib.hid hz; have H := Lib.hid h1; have H2 := Lib.hid h2
  clear h1 h2 hz
  go_enter Tryz.func11, Tryz.ntmps11
  obtain ⟨W, hW⟩ : ∃ W, W = (w.alloc (.cells #[.bool g, .int .u64 s, .slice p l c] 28)).alloc (.cells #[.bool g2, .slice p2 l2 c2] 32) := ⟨_, rfl⟩
  obtain ⟨b, hb⟩ : ∃ r, r = w.heap.size + 1 := ⟨_, rfl⟩
  obtain ⟨a, ha⟩ : ∃ a, a = w.heap.size := ⟨_, rfl⟩
  have HB : Below w.heap.size w W := by rw [hW]; exact below_alloc (below_alloc (Below.refl _ _) _) _
  have A0 : W.cell? ⟨a, 0, none⟩ = some (.bool g) := by simp [hW, ha, go_sem]
  have A1 : W.cell? ⟨a, 1, none⟩ = some (.int .u64 s) := by simp [hW, ha, go_sem]
  have A2 : W.cell? ⟨a, 2, none⟩ = some (.slice p l c) := by simp [hW, ha, go_sem]
  have B0 : W.cell? ⟨b, 0, none⟩ = some (.bool g2) := by simp [hW, hb, go_sem]
  have B1 : W.cell? ⟨b, 1, none⟩ = some (.slice p2 l2 c2) := by simp [hW, hb, go_sem]
  go_wp2_with fail
  rw [← hW]
  clear A0 A1 A2
  refine (hOutInt_any z g s p l c W HZ.out (H.out.mono HB)).mono ?_
  rintro e w1 ⟨g5, p5, l5, c5, rfl, hI, hb'⟩
  have B0 := wcell hb' B0; have B1 := wcell hb' B1
  obtain ⟨k1, n1⟩ := hI
  obtain ⟨k2, n2⟩ := H2.out
  obtain rfl : g5 = g2 := k1.trans k2.symm
  have h5 := n1.short HZ.out
  have HC := Lib.hid (fun W a b => rCmp_any p5 p2 l5 l2 c5 c2 z.natAbs z.natAbs W (by omega) a b)
  unfold RetC at HC
  rw [cmp3_eq] at HC
  have N1 := Lib.hid n1; have N2 := Lib.hid ((n2.mono HB).mono hb')
  have HB := Lib.hid (below_step HB hb')
  have C0 : (w1.alloc (.cells #[.bool g5, .slice p5 l5 c5] 32)).cell? ⟨w.heap.size + 1, 0, none⟩ = some (.bool g5) := by rw [← hb]; exact wcell (below_alloc (Below.refl _ _) _) B0
  have C1 : (w1.alloc (.cells #[.bool g5, .slice p5 l5 c5] 32)).cell? ⟨w.heap.size + 1, 1, none⟩ = some (.slice p2 l2 c2) := by rw [← hb]; exact wcell (below_alloc (Below.refl _ _) _) B1
  clear k1 k2 n1 n2 h5 hb' hW B0 B1 hb ha
  go_wp2_with fail
  refine (HC.out _ (N1.out.mono (below_alloc (Below.refl _ _) _)) (N2.out.mono (below_alloc (Below.refl _ _) _))).mono ?_
  rintro e w2 ⟨rfl, hb⟩
  have HB := Lib.hid (below_step HB.out (below_step (below_alloc (Below.refl _ _) _) hb))
  clear hb C0 C1
  go_wp2
  go_ret
  exact ⟨rfl, HB.out⟩
theorem is2_want (w : World) (u v : Value) (z : Int) (hz : (ds z.natAbs).length ≤ 400) (h1 : INum w u z) (h2 : RINum w v z) :
    Calls Tryz.prog 11 #[u, v] w fun e w' => ∃ v', e = .returned v' ∧ v' = .bool true ∧ Below w.heap.size w w' := by
  obtain ⟨g, s, p, l, c, rfl, h1⟩ := h1
  obtain ⟨f, q, k, d, rfl, h2⟩ := h2
  exact (is2_any z g f s p q l c k d w hz h1 h2).mono fun _ _ ⟨h, hb⟩ => ⟨_, h, rfl, hb⟩
theorem run_is2 : RowKit.Hid (∀ (a : Array Value) (w : World), Sem.run Tryz.prog (callFunc 11 a) w = .ok (.enter 11 a) w) := fun a w => by go_simp

end Go.Proofs.YtfjjmhbffbhhdaaGreatDoor
