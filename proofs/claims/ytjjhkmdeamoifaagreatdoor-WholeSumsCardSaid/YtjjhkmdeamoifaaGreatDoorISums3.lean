/- The document's integers: signs, sums, products, comparisons; the document's integer of a program's; whether a program's integer is the document's. -/
import Derived.Test.YtjjhkmdeamoifaaGreatDoorLaw2
import Derived.Test.YtjjhkmdeamoifaaGreatDoorRefProd
namespace Go.Proofs.YtjjhkmdeamoifaaGreatDoor
open Go.RowKit

theorem RetRI.want {W w' : World} {z : Int} {e : Ending} (h : RetRI W z e w') : ∃ v, e = .returned v ∧ RINum w' v z ∧ Below W.heap.size W w' := by
  obtain ⟨g, p, l, c, rfl, h1, h2⟩ := h
  exact ⟨_, rfl, ⟨g, p, l, c, rfl, h1⟩, h2⟩
theorem RetR.want {W w' : World} {n : Nat} {e : Ending} (h : RetR W n e w') : ∃ v, e = .returned v ∧ RNum w' v n ∧ Below W.heap.size W w' := by
  obtain ⟨p, l, c, rfl, h1, h2⟩ := h
  exact ⟨_, rfl, ⟨p, l, c, rfl, h1⟩, h2⟩
/-- A box of a document's integer. -/
def RBox (w : World) (a : Nat) (g : Bool) (p : Option Addr) (l c : Nat) : Prop := w.cell? ⟨a, 0, none⟩ = some (.bool g) ∧ w.cell? ⟨a, 1, none⟩ = some (.slice p l c)
/-- The boxes of two of the document's integers, and one for what is returned. -/
theorem rboxes2 (w : World) (g1 g2 : Bool) (p1 p2 : Option Addr) (l1 c1 l2 c2 : Nat) :
    ∃ W a b r, W = ((w.alloc (.cells #[.bool g1, .slice p1 l1 c1] 32)).alloc (.cells #[.bool g2, .slice p2 l2 c2] 32)).alloc (.cells #[.bool false, .slice none 0 0] 32) ∧ r = w.heap.size + 1 + 1 ∧ b = w.heap.size + 1 ∧ a = w.heap.size ∧
      RBox W a g1 p1 l1 c1 ∧ RBox W b g2 p2 l2 c2 ∧ (BoxHas W r .rint (.agg #[.bool false, .slice none 0 0]) ∧ BoxFree W r .rint) ∧ a ∉ [r] ∧ b ∉ [r] ∧ w.heap.size ≤ r ∧ Below w.heap.size w W := by
  refine ⟨_, _, _, _, rfl, rfl, rfl, rfl, ⟨?_, ?_⟩, ⟨?_, ?_⟩, ⟨.mkRint ?_ ?_, free2 ?_ ?_ rfl⟩, ?_, ?_, by omega, below_alloc (below_alloc (below_alloc (Below.refl _ _) _) _) _⟩
  all_goals simp [go_sem]
  omega
theorem rboxes1 (w : World) (g1 : Bool) (p1 : Option Addr) (l1 c1 : Nat) :
    ∃ W a r, W = (w.alloc (.cells #[.bool g1, .slice p1 l1 c1] 32)).alloc (.cells #[.bool false, .slice none 0 0] 32) ∧ r = w.heap.size + 1 ∧ a = w.heap.size ∧
      RBox W a g1 p1 l1 c1 ∧ (BoxHas W r .rint (.agg #[.bool false, .slice none 0 0]) ∧ BoxFree W r .rint) ∧ a ∉ [r] ∧ w.heap.size ≤ r ∧ Below w.heap.size w W := by
  refine ⟨_, _, _, rfl, rfl, rfl, ⟨?_, ?_⟩, ⟨.mkRint ?_ ?_, free2 ?_ ?_ rfl⟩, ?_, by omega, below_alloc (below_alloc (Below.refl _ _) _) _⟩
  all_goals simp [go_sem]
theorem IsR.rintbox {w : World} {p q : Option Addr} {l c k d n g : Nat} {x : Bool} {u v : Value} (h : IsR w p l c n) (h0 : w.cell? ⟨g, 0, none⟩ = some (.bool x)) (h1 : w.cell? ⟨g, 1, none⟩ = some (.slice q k d)) :
    IsR ((w.setCell ⟨g, 0, none⟩ u).setCell ⟨g, 1, none⟩ v) p l c n := by
  obtain ⟨a1, a2, a3⟩ := h
  refine ⟨a1, a2, fun hn => ?_⟩
  obtain ⟨b, off, a4, a5⟩ := a3 hn
  refine ⟨b, off, a4, fun i hi => ?_⟩
  have h2 := a5 i hi
  have e0 : (⟨g, 0, none⟩ : Addr) ≠ ⟨b, off + i, none⟩ := by intro e; rw [← e, h0] at h2; cases h2
  have e1 : (⟨g, 1, none⟩ : Addr) ≠ ⟨b, off + i, none⟩ := by intro e; rw [← e, h1] at h2; cases h2
  rw [World.cell?_setCell_other _ _ _ _ e1, World.cell?_setCell_other _ _ _ _ e0]
  exact h2
theorem IsRI.setRint {w : World} {p q : Option Addr} {l c k d b : Nat} {g x : Bool} {z : Int} {u v : Value} (h : IsRI w g p l c z) (h0 : w.cell? ⟨b, 0, none⟩ = some (.bool x)) (h1 : w.cell? ⟨b, 1, none⟩ = some (.slice q k d)) :
    IsRI ((w.setCell ⟨b, 0, none⟩ u).setCell ⟨b, 1, none⟩ v) g p l c z := ⟨h.1, h.2.rintbox h0 h1⟩
theorem sgn_not {z : Int} {g : Bool} (h : g = decide (z < 0)) : sgn (!g) z.natAbs = -z := by
  rw [h]; unfold sgn
  by_cases hz : z < 0
  · rw [decide_eq_true hz]; simp; omega
  · rw [decide_eq_false hz]; simp; omega
theorem sgn_add {x y : Int} {g : Bool} (h1 : g = decide (x < 0)) (h2 : g = decide (y < 0)) : sgn g (x.natAbs + y.natAbs) = x + y := by
  unfold sgn
  by_cases hx : x < 0
  · rw [decide_eq_true hx] at h1; rw [h1, eq_comm, decide_eq_true_eq] at h2; rw [h1]; simp; omega
  · rw [decide_eq_false hx] at h1; rw [h1, eq_comm, decide_eq_false_iff_not] at h2; rw [h1]; simp; omega

set_option maxHeartbeats 400000 in
theorem rISign_any (z : Int) (g : Bool) (p : Option Addr) (l c : Nat) (w : World) (h : IsRI w g p l c z) :
    Calls Tryz.prog 18 #[.agg #[.bool g, .slice p l c]] w fun e w' => e = .returned (.int .i64 (cmp3 z 0)) ∧ Below w.heap.size w w' := by
  obtain ⟨hg, h⟩ := h
  have hz := h.zero_iff
  by_cases h0 : z = 0
  · subst h0
    obtain rfl : l = 0 := hz.2 rfl
    rw [cmp3_eq]
    clear hg h hz
    go_enter Tryz.func18, Tryz.ntmps18
    go_wp2
    go_ret
    exact ⟨rfl, below_alloc (Below.refl _ _) _⟩
  · have hl : 0 < l := by have : l ≠ 0 := fun e => h0 (by have := hz.1 e; omega); omega
    rcases Int.lt_or_le z 0 with hn | hn
    · rw [cmp3_lt hn]
      obtain rfl : g = true := by rw [hg]; exact decide_eq_true hn
      clear hg h hz hn h0
      go_enter Tryz.func18, Tryz.ntmps18
      go_wp2
      go_ret
      exact ⟨rfl, below_alloc (Below.refl _ _) _⟩
    · rw [cmp3_gt (show (0 : Int) < z by omega)]
      obtain rfl : g = false := by rw [hg]; exact decide_eq_false (by omega)
      clear hg h hz hn h0
      go_enter Tryz.func18, Tryz.ntmps18
      go_wp2
      go_ret
      exact ⟨rfl, below_alloc (Below.refl _ _) _⟩

set_option maxHeartbeats 1000000 in
theorem rINeg_any (z : Int) (g : Bool) (p : Option Addr) (l c : Nat) (w : World) (h : IsRI w g p l c z) :
    Calls Tryz.prog 16 #[.agg #[.bool g, .slice p l c]] w (RetRI w (-z)) := by
  obtain ⟨hg, h⟩ := h
  have HF := Lib.hid (fun W a => rI_any (!g) z.natAbs p l c W a)
  rw [sgn_not hg] at HF
  have H := Lib.hid h
  clear hg h
  go_enter Tryz.func16, Tryz.ntmps16
  obtain ⟨W, a, r, hW, hr, ha, ⟨A0, A1⟩, OLD_r, ia, zw, HB⟩ := rboxes1 w g p l c
  go_wp2_with fail
  rw [← hW, ← hr]
  clear hW hr ha
  refine (HF.out _ (H.out.mono HB)).mono ?_
  rintro e w1 ⟨g5, p5, l5, c5, rfl, h5, hb⟩
  obtain ⟨_, _, _, _, r0, r1⟩ := (OLD_r.1.mono hb).rint
  have f0 := (OLD_r.2.mono OLD_r.1 hb) 0 (by decide); have f1 := (OLD_r.2.mono OLD_r.1 hb) 1 (by decide)
  have H5 := Lib.hid h5
  have HB := Lib.hid (below_step HB hb)
  clear OLD_r h5 hb A0 A1 ia
  replace r0 := r1.1; replace r1 := r1.2
  go_wp2
  exact bodyPost_ret (v := .agg #[.bool g5, .slice p5 l5 c5]) (by simp [results, Tryz.results16, go_sem, r0, r1]) rfl ⟨_, _, _, _, rfl, H5.out.setRint r0 r1, (HB.out.setCell zw _).setCell zw _⟩

set_option maxRecDepth 100000 in
set_option maxHeartbeats 2000000 in
theorem rIAdd_same (x y : Int) (g1 g2 : Bool) (p1 p2 : Option Addr) (l1 c1 l2 c2 : Nat) (w : World) (hd : g1 = g2) (hx : l1 ≤ 100000) (hy : l2 ≤ 100000) (h1 : IsRI w g1 p1 l1 c1 x) (h2 : IsRI w g2 p2 l2 c2 y) :
    Calls Tryz.prog 8 #[.agg #[.bool g1, .slice p1 l1 c1], .agg #[.bool g2, .slice p2 l2 c2]] w (RetRI w (x + y)) := by
  subst hd
  obtain ⟨e1, h1⟩ := h1
  obtain ⟨e2, h2⟩ := h2
  have HM := Lib.hid (fun W a b => rAdd_any p1 p2 l1 c1 l2 c2 x.natAbs y.natAbs W hx hy a b)
  have HF := Lib.hid (fun p l c W a => rI_any g1 (x.natAbs + y.natAbs) p l c W a)
  rw [sgn_add e1 e2] at HF
  have H1 := Lib.hid h1; have H2 := Lib.hid h2
  clear e1 e2 h1 h2 hx hy
  go_enter Tryz.func8, Tryz.ntmps8
  go_wp2
  obtain ⟨W, a, b, r, hW, hr, hbb, ha, ⟨A0, A1⟩, ⟨B0, B1⟩, OLD_r, ia, ib, zw, HB⟩ := rboxes2 w g1 g1 p1 p2 l1 c1 l2 c2
  rw [← hW, ← hr, ← hbb, ← ha]
  clear hW hr hbb ha
  refine region_told (T := [0, 1, 2, 3, 4, 5, 6, 7]) (slots := [10, 11, 12, 13, 14, 15, 16, 17])
      (tab := [.is (.pointer (some ⟨a, 0, none⟩)), .is (.bool g1), .is (.pointer (some ⟨a, 1, none⟩)), .is (.slice p1 l1 c1), .is (.pointer (some ⟨b, 1, none⟩)), .is (.slice p2 l2 c2), .rnum (x.natAbs + y.natAbs), .rint (x + y), .any])
      (D := [⟨r, .rint, none, 8, (.rint (x + y)), (.agg #[.bool false, .slice none 0 0])⟩])
      (F := [(.slice p1 l1 c1, .rnum x.natAbs), (.slice p2 l2 c2, .rnum y.natAbs)])
      (by kernel_rfl) (by kernel_rfl) (by kernel_rfl) (by kernel_rfl) (by kernel_rfl) (by kernel_rfl) (by kernel_rfl) ?_ ?_ ?_ ?_ ?_
  · skip
    refine List.Pairwise.cons (fun y hy => ?_) ?_
    · cases hy
    exact List.Pairwise.nil
  · intro f hf; simp only [List.mem_cons, List.not_mem_nil, or_false] at hf; rcases hf with rfl | rfl
    · exact ⟨_, _, _, rfl, H1.out.mono HB⟩
    · exact ⟨_, _, _, rfl, H2.out.mono HB⟩
  · intro x hx hal; simp only [List.mem_cons, List.not_mem_nil, or_false] at hx; rcases hx with rfl
    · exact ⟨OLD_r.1, OLD_r.2, OLD_r.1.lt rfl⟩
  · skip
    refine AllTold.cons rfl (fun β E W hA hF hc hf hE hV hP hB hS => Or.inl ⟨rfl, (by kernel_rfl), ?_⟩) ?_
    · have e1 : E (.tmp 2) = .pointer (some ⟨a, 0, none⟩) := hE 2 (by kernel_rfl)
      clear hE hV hP hB hS
      exact Does.value (w' := W) (by go_simp) ⟨rfl, Below.refl _ _⟩
    refine AllTold.cons rfl (fun β E W hA hF hc hf hE hV hP hB hS => Or.inl ⟨rfl, (by kernel_rfl), ?_⟩) ?_
    · have e1 : E (.tmp 10) = (.pointer (some ⟨a, 0, none⟩)) := hV 0 10 (by kernel_rfl) rfl
      have q0 := hA.cell A0 ia
      clear hE hV hP hB hS
      exact Does.value (w' := W) (by go_simp) ⟨rfl, Below.refl _ _⟩
    refine AllTold.cons rfl (fun β E W hA hF hc hf hE hV hP hB hS => Or.inl ⟨rfl, (by kernel_rfl), ?_⟩) ?_
    · have e1 : E (.tmp 2) = .pointer (some ⟨a, 0, none⟩) := hE 2 (by kernel_rfl)
      clear hE hV hP hB hS
      exact Does.value (w' := W) (by go_simp) ⟨rfl, Below.refl _ _⟩
    refine AllTold.cons rfl (fun β E W hA hF hc hf hE hV hP hB hS => Or.inl ⟨rfl, (by kernel_rfl), ?_⟩) ?_
    · have e1 : E (.tmp 12) = (.pointer (some ⟨a, 1, none⟩)) := hV 2 12 (by kernel_rfl) rfl
      have q0 := hA.cell A1 ia
      clear hE hV hP hB hS
      exact Does.value (w' := W) (by go_simp) ⟨rfl, Below.refl _ _⟩
    refine AllTold.cons rfl (fun β E W hA hF hc hf hE hV hP hB hS => Or.inl ⟨rfl, (by kernel_rfl), ?_⟩) ?_
    · have e1 : E (.tmp 3) = .pointer (some ⟨b, 0, none⟩) := hE 3 (by kernel_rfl)
      clear hE hV hP hB hS
      exact Does.value (w' := W) (by go_simp) ⟨rfl, Below.refl _ _⟩
    refine AllTold.cons rfl (fun β E W hA hF hc hf hE hV hP hB hS => Or.inl ⟨rfl, (by kernel_rfl), ?_⟩) ?_
    · have e1 : E (.tmp 14) = (.pointer (some ⟨b, 1, none⟩)) := hV 4 14 (by kernel_rfl) rfl
      have q0 := hA.cell B1 ib
      clear hE hV hP hB hS
      exact Does.value (w' := W) (by go_simp) ⟨rfl, Below.refl _ _⟩
    refine AllTold.cons rfl (fun β E W hA hF hc hf hE hV hP hB hS => Or.inl ⟨rfl, (by kernel_rfl), ?_⟩) ?_
    · have e1 : E (.tmp 13) = (.slice p1 l1 c1) := hV 3 13 (by kernel_rfl) rfl
      have e2 : E (.tmp 15) = (.slice p2 l2 c2) := hV 5 15 (by kernel_rfl) rfl
      clear hE hV hP hB hS
      exact Does.call (w' := W) (by go_simp) ((HM.out W (hF (_, _) (List.mem_cons_self ..)).isR (hF (_, _) (List.mem_cons_of_mem _ (List.mem_cons_self ..))).isR).mono fun e w' h => h.want)
    refine AllTold.cons rfl (fun β E W hA hF hc hf hE hV hP hB hS => Or.inl ⟨rfl, (by kernel_rfl), ?_⟩) ?_
    · have e1 : E (.tmp 11) = (.bool g1) := hV 1 11 (by kernel_rfl) rfl
      have e2 : Means W (.rnum (x.natAbs + y.natAbs)) (E (.tmp 16)) := hV 6 16 (by kernel_rfl) rfl
      clear hE hV hP hB hS
      obtain ⟨q, k, d, e2', hI⟩ := e2
      exact Does.call (w' := W) (by go_simp) ((HF.out q k d W hI).mono fun e w' h => h.want)
    refine AllTold.cons rfl (fun β E W hA hF hc hf hE hV hP hB hS => Or.inr (Or.inl ⟨rfl, ⟨_, (List.mem_cons_self ..), rfl, (by kernel_rfl), rfl, ?_⟩⟩)) ?_
    · have e1 : E (.tmp 4) = .pointer (some ⟨r, 0, none⟩) := hE 4 (by kernel_rfl)
      have e2 : Means W (.rint (x + y)) (E (.tmp 17)) := hV 7 17 (by kernel_rfl) rfl
      obtain ⟨hbx, hfr⟩ := hB _ (List.mem_cons_self ..) (by kernel_rfl) (by kernel_rfl)
      replace hbx : BoxHas W r .rint _ := hbx
      replace hfr : BoxFree W r .rint := hfr
      obtain ⟨_, _, _, _, _, q0, q1⟩ := hbx.rint
      have t0 := hfr 0 (by show 0 < 2; decide)
      have t1 := hfr 1 (by show 1 < 2; decide)
      obtain ⟨g, p, l, c, e2', hI⟩ := e2
      clear hE hV hP hB hS
      exact Does.skip (by go_simp) ⟨_, Stored.mkRint (b := r), ⟨g, p, l, c, rfl, hI⟩⟩
    exact AllTold.nil
  · intro β f W' hf hS hN hA _ _ _ _
    obtain ⟨g5, p5, l5, c5, r0, r1, hI1⟩ := (show Says W' r .rint (.rint (x + y)) from (hS _ (List.mem_cons_self ..)).1).rint
    have HBW := Lib.hid (HB.trans (hA.below (B := w.heap.size) (by simp [oldBlocks]; exact zw) HB.size))
    have I1 := Lib.hid hI1
    clear hf hS hN hA hI1
    simp only [fillSlots, List.setIfInBounds_toArray, List.set_cons_succ, List.set_cons_zero]
    go_wp2
    exact bodyPost_ret (v := .agg #[.bool g5, .slice p5 l5 c5]) (by simp [results, Tryz.results8, go_sem, r0, r1]) rfl ⟨_, _, _, _, rfl, I1.out, HBW.out⟩

set_option maxRecDepth 100000 in
set_option maxHeartbeats 2000000 in
theorem rIAdd_ge (x y : Int) (g1 g2 : Bool) (p1 p2 : Option Addr) (l1 c1 l2 c2 : Nat) (w : World) (hd : (g1 == g2) = false) (hle : y.natAbs ≤ x.natAbs) (hx : l1 ≤ 100000) (_hy : l2 ≤ 100000) (h1 : IsRI w g1 p1 l1 c1 x) (h2 : IsRI w g2 p2 l2 c2 y) :
    Calls Tryz.prog 8 #[.agg #[.bool g1, .slice p1 l1 c1], .agg #[.bool g2, .slice p2 l2 c2]] w (RetRI w (x + y)) := by
  obtain ⟨e1, h1⟩ := h1
  obtain ⟨e2, h2⟩ := h2
  have hne : decide (x < 0) ≠ decide (y < 0) := by rw [← e1, ← e2]; intro h; rw [h] at hd; simp at hd
  have HM := Lib.hid (fun W a b => rSub_any p1 p2 l1 c1 l2 c2 x.natAbs y.natAbs W hx hle a b)
  have HC := Lib.hid (fun W a b => rCmp_any p1 p2 l1 l2 c1 c2 x.natAbs y.natAbs W (by omega) a b)
  obtain ⟨k, hk, hk0⟩ : ∃ k : Int, k = cmp3 x.natAbs y.natAbs ∧ 0 ≤ k := ⟨_, rfl, by unfold cmp3; split <;> (try split) <;> omega⟩
  unfold RetC at HC
  rw [← hk] at HC
  have HF := Lib.hid (fun p l c W a => rI_any g1 (x.natAbs - y.natAbs) p l c W a)
  rw [add_diff1 e1 hne hle] at HF
  have H1 := Lib.hid h1; have H2 := Lib.hid h2
  clear e1 e2 h1 h2 hx _hy hk hle hne
  go_enter Tryz.func8, Tryz.ntmps8
  obtain ⟨W, a, b, r, hW, hr, hbb, ha, ⟨A0, A1⟩, ⟨B0, B1⟩, OLD_r, ia, ib, zw, HB⟩ := rboxes2 w g1 g2 p1 p2 l1 c1 l2 c2
  go_wp2_with fail
  rw [← hW, ← hr, ← hbb, ← ha]
  clear hW hr hbb ha
  refine (HC.out _ (H1.out.mono HB) (H2.out.mono HB)).mono ?_
  rintro e w1 ⟨rfl, hb⟩
  have A0 := wcell hb A0; have A1 := wcell hb A1; have B0 := wcell hb B0; have B1 := wcell hb B1
  have OLD_r : BoxHas w1 r .rint (.agg #[.bool false, .slice none 0 0]) ∧ BoxFree w1 r .rint := ⟨OLD_r.1.mono hb, OLD_r.2.mono OLD_r.1 hb⟩
  have HB := below_step HB hb
  clear hb HC
  go_wp2
  refine region_told (T := [0, 1, 2, 3, 4, 5, 6, 7]) (slots := [24, 25, 26, 27, 28, 29, 30, 31])
      (tab := [.is (.pointer (some ⟨a, 0, none⟩)), .is (.bool g1), .is (.pointer (some ⟨a, 1, none⟩)), .is (.slice p1 l1 c1), .is (.pointer (some ⟨b, 1, none⟩)), .is (.slice p2 l2 c2), .rnum (x.natAbs - y.natAbs), .rint (x + y), .any])
      (D := [⟨r, .rint, none, 8, (.rint (x + y)), (.agg #[.bool false, .slice none 0 0])⟩])
      (F := [(.slice p1 l1 c1, .rnum x.natAbs), (.slice p2 l2 c2, .rnum y.natAbs)])
      (by kernel_rfl) (by kernel_rfl) (by kernel_rfl) (by kernel_rfl) (by kernel_rfl) (by kernel_rfl) (by kernel_rfl) ?_ ?_ ?_ ?_ ?_
  · skip
    refine List.Pairwise.cons (fun y hy => ?_) ?_
    · cases hy
    exact List.Pairwise.nil
  · intro f hf; simp only [List.mem_cons, List.not_mem_nil, or_false] at hf; rcases hf with rfl | rfl
    · exact ⟨_, _, _, rfl, H1.out.mono HB⟩
    · exact ⟨_, _, _, rfl, H2.out.mono HB⟩
  · intro x hx hal; simp only [List.mem_cons, List.not_mem_nil, or_false] at hx; rcases hx with rfl
    · exact ⟨OLD_r.1, OLD_r.2, OLD_r.1.lt rfl⟩
  · skip
    refine AllTold.cons rfl (fun β E W hA hF hc hf hE hV hP hB hS => Or.inl ⟨rfl, (by kernel_rfl), ?_⟩) ?_
    · have e1 : E (.tmp 2) = .pointer (some ⟨a, 0, none⟩) := hE 2 (by kernel_rfl)
      clear hE hV hP hB hS
      exact Does.value (w' := W) (by go_simp) ⟨rfl, Below.refl _ _⟩
    refine AllTold.cons rfl (fun β E W hA hF hc hf hE hV hP hB hS => Or.inl ⟨rfl, (by kernel_rfl), ?_⟩) ?_
    · have e1 : E (.tmp 24) = (.pointer (some ⟨a, 0, none⟩)) := hV 0 24 (by kernel_rfl) rfl
      have q0 := hA.cell A0 ia
      clear hE hV hP hB hS
      exact Does.value (w' := W) (by go_simp) ⟨rfl, Below.refl _ _⟩
    refine AllTold.cons rfl (fun β E W hA hF hc hf hE hV hP hB hS => Or.inl ⟨rfl, (by kernel_rfl), ?_⟩) ?_
    · have e1 : E (.tmp 2) = .pointer (some ⟨a, 0, none⟩) := hE 2 (by kernel_rfl)
      clear hE hV hP hB hS
      exact Does.value (w' := W) (by go_simp) ⟨rfl, Below.refl _ _⟩
    refine AllTold.cons rfl (fun β E W hA hF hc hf hE hV hP hB hS => Or.inl ⟨rfl, (by kernel_rfl), ?_⟩) ?_
    · have e1 : E (.tmp 26) = (.pointer (some ⟨a, 1, none⟩)) := hV 2 26 (by kernel_rfl) rfl
      have q0 := hA.cell A1 ia
      clear hE hV hP hB hS
      exact Does.value (w' := W) (by go_simp) ⟨rfl, Below.refl _ _⟩
    refine AllTold.cons rfl (fun β E W hA hF hc hf hE hV hP hB hS => Or.inl ⟨rfl, (by kernel_rfl), ?_⟩) ?_
    · have e1 : E (.tmp 3) = .pointer (some ⟨b, 0, none⟩) := hE 3 (by kernel_rfl)
      clear hE hV hP hB hS
      exact Does.value (w' := W) (by go_simp) ⟨rfl, Below.refl _ _⟩
    refine AllTold.cons rfl (fun β E W hA hF hc hf hE hV hP hB hS => Or.inl ⟨rfl, (by kernel_rfl), ?_⟩) ?_
    · have e1 : E (.tmp 28) = (.pointer (some ⟨b, 1, none⟩)) := hV 4 28 (by kernel_rfl) rfl
      have q0 := hA.cell B1 ib
      clear hE hV hP hB hS
      exact Does.value (w' := W) (by go_simp) ⟨rfl, Below.refl _ _⟩
    refine AllTold.cons rfl (fun β E W hA hF hc hf hE hV hP hB hS => Or.inl ⟨rfl, (by kernel_rfl), ?_⟩) ?_
    · have e1 : E (.tmp 27) = (.slice p1 l1 c1) := hV 3 27 (by kernel_rfl) rfl
      have e2 : E (.tmp 29) = (.slice p2 l2 c2) := hV 5 29 (by kernel_rfl) rfl
      clear hE hV hP hB hS
      exact Does.call (w' := W) (by go_simp) ((HM.out W (hF (_, _) (List.mem_cons_self ..)).isR (hF (_, _) (List.mem_cons_of_mem _ (List.mem_cons_self ..))).isR).mono fun e w' h => h.want)
    refine AllTold.cons rfl (fun β E W hA hF hc hf hE hV hP hB hS => Or.inl ⟨rfl, (by kernel_rfl), ?_⟩) ?_
    · have e1 : E (.tmp 25) = (.bool g1) := hV 1 25 (by kernel_rfl) rfl
      have e2 : Means W (.rnum (x.natAbs - y.natAbs)) (E (.tmp 30)) := hV 6 30 (by kernel_rfl) rfl
      clear hE hV hP hB hS
      obtain ⟨q, k, d, e2', hI⟩ := e2
      exact Does.call (w' := W) (by go_simp) ((HF.out q k d W hI).mono fun e w' h => h.want)
    refine AllTold.cons rfl (fun β E W hA hF hc hf hE hV hP hB hS => Or.inr (Or.inl ⟨rfl, ⟨_, (List.mem_cons_self ..), rfl, (by kernel_rfl), rfl, ?_⟩⟩)) ?_
    · have e1 : E (.tmp 4) = .pointer (some ⟨r, 0, none⟩) := hE 4 (by kernel_rfl)
      have e2 : Means W (.rint (x + y)) (E (.tmp 31)) := hV 7 31 (by kernel_rfl) rfl
      obtain ⟨hbx, hfr⟩ := hB _ (List.mem_cons_self ..) (by kernel_rfl) (by kernel_rfl)
      replace hbx : BoxHas W r .rint _ := hbx
      replace hfr : BoxFree W r .rint := hfr
      obtain ⟨_, _, _, _, _, q0, q1⟩ := hbx.rint
      have t0 := hfr 0 (by show 0 < 2; decide)
      have t1 := hfr 1 (by show 1 < 2; decide)
      obtain ⟨g, p, l, c, e2', hI⟩ := e2
      clear hE hV hP hB hS
      exact Does.skip (by go_simp) ⟨_, Stored.mkRint (b := r), ⟨g, p, l, c, rfl, hI⟩⟩
    exact AllTold.nil
  · intro β f W' hf hS hN hA _ _ _ _
    obtain ⟨g5, p5, l5, c5, r0, r1, hI1⟩ := (show Says W' r .rint (.rint (x + y)) from (hS _ (List.mem_cons_self ..)).1).rint
    have HBW := Lib.hid (HB.trans (hA.below (B := w.heap.size) (by simp [oldBlocks]; exact zw) HB.size))
    have I1 := Lib.hid hI1
    clear hf hS hN hA hI1
    simp only [fillSlots, List.setIfInBounds_toArray, List.set_cons_succ, List.set_cons_zero]
    go_wp2
    exact bodyPost_ret (v := .agg #[.bool g5, .slice p5 l5 c5]) (by simp [results, Tryz.results8, go_sem, r0, r1]) rfl ⟨_, _, _, _, rfl, I1.out, HBW.out⟩

set_option maxRecDepth 100000 in
set_option maxHeartbeats 2000000 in
theorem rIAdd_lt (x y : Int) (g1 g2 : Bool) (p1 p2 : Option Addr) (l1 c1 l2 c2 : Nat) (w : World) (hd : (g1 == g2) = false) (hle : x.natAbs < y.natAbs) (hx : l1 ≤ 100000) (hy : l2 ≤ 100000) (h1 : IsRI w g1 p1 l1 c1 x) (h2 : IsRI w g2 p2 l2 c2 y) :
    Calls Tryz.prog 8 #[.agg #[.bool g1, .slice p1 l1 c1], .agg #[.bool g2, .slice p2 l2 c2]] w (RetRI w (x + y)) := by
  obtain ⟨e1, h1⟩ := h1
  obtain ⟨e2, h2⟩ := h2
  have hne : decide (x < 0) ≠ decide (y < 0) := by rw [← e1, ← e2]; intro h; rw [h] at hd; simp at hd
  have HM := Lib.hid (fun W a b => rSub_any p2 p1 l2 c2 l1 c1 y.natAbs x.natAbs W hy (by omega) a b)
  have HC := Lib.hid (fun W a b => rCmp_any p1 p2 l1 l2 c1 c2 x.natAbs y.natAbs W (by omega) a b)
  obtain ⟨k, hk, hk0⟩ : ∃ k : Int, k = cmp3 x.natAbs y.natAbs ∧ k < 0 := ⟨_, rfl, by unfold cmp3; split <;> (try split) <;> omega⟩
  unfold RetC at HC
  rw [← hk] at HC
  have HF := Lib.hid (fun p l c W a => rI_any g2 (y.natAbs - x.natAbs) p l c W a)
  rw [(show sgn g2 (y.natAbs - x.natAbs) = x + y by have := add_diff1 (x := y) (y := x) e2 (fun h => hne h.symm) (by omega); rw [this]; omega)] at HF
  have H1 := Lib.hid h1; have H2 := Lib.hid h2
  clear e1 e2 h1 h2 hx hy hk hle hne
  go_enter Tryz.func8, Tryz.ntmps8
  obtain ⟨W, a, b, r, hW, hr, hbb, ha, ⟨A0, A1⟩, ⟨B0, B1⟩, OLD_r, ia, ib, zw, HB⟩ := rboxes2 w g1 g2 p1 p2 l1 c1 l2 c2
  go_wp2_with fail
  rw [← hW, ← hr, ← hbb, ← ha]
  clear hW hr hbb ha
  refine (HC.out _ (H1.out.mono HB) (H2.out.mono HB)).mono ?_
  rintro e w1 ⟨rfl, hb⟩
  have A0 := wcell hb A0; have A1 := wcell hb A1; have B0 := wcell hb B0; have B1 := wcell hb B1
  have OLD_r : BoxHas w1 r .rint (.agg #[.bool false, .slice none 0 0]) ∧ BoxFree w1 r .rint := ⟨OLD_r.1.mono hb, OLD_r.2.mono OLD_r.1 hb⟩
  have HB := below_step HB hb
  clear hb HC
  go_wp2
  refine region_told (T := [0, 1, 2, 3, 4, 5, 6, 7]) (slots := [32, 33, 34, 35, 36, 37, 38, 39])
      (tab := [.is (.pointer (some ⟨b, 0, none⟩)), .is (.bool g2), .is (.pointer (some ⟨b, 1, none⟩)), .is (.slice p2 l2 c2), .is (.pointer (some ⟨a, 1, none⟩)), .is (.slice p1 l1 c1), .rnum (y.natAbs - x.natAbs), .rint (x + y), .any])
      (D := [⟨r, .rint, none, 8, (.rint (x + y)), (.agg #[.bool false, .slice none 0 0])⟩])
      (F := [(.slice p1 l1 c1, .rnum x.natAbs), (.slice p2 l2 c2, .rnum y.natAbs)])
      (by kernel_rfl) (by kernel_rfl) (by kernel_rfl) (by kernel_rfl) (by kernel_rfl) (by kernel_rfl) (by kernel_rfl) ?_ ?_ ?_ ?_ ?_
  · skip
    refine List.Pairwise.cons (fun y hy => ?_) ?_
    · cases hy
    exact List.Pairwise.nil
  · intro f hf; simp only [List.mem_cons, List.not_mem_nil, or_false] at hf; rcases hf with rfl | rfl
    · exact ⟨_, _, _, rfl, H1.out.mono HB⟩
    · exact ⟨_, _, _, rfl, H2.out.mono HB⟩
  · intro x hx hal; simp only [List.mem_cons, List.not_mem_nil, or_false] at hx; rcases hx with rfl
    · exact ⟨OLD_r.1, OLD_r.2, OLD_r.1.lt rfl⟩
  · skip
    refine AllTold.cons rfl (fun β E W hA hF hc hf hE hV hP hB hS => Or.inl ⟨rfl, (by kernel_rfl), ?_⟩) ?_
    · have e1 : E (.tmp 3) = .pointer (some ⟨b, 0, none⟩) := hE 3 (by kernel_rfl)
      clear hE hV hP hB hS
      exact Does.value (w' := W) (by go_simp) ⟨rfl, Below.refl _ _⟩
    refine AllTold.cons rfl (fun β E W hA hF hc hf hE hV hP hB hS => Or.inl ⟨rfl, (by kernel_rfl), ?_⟩) ?_
    · have e1 : E (.tmp 32) = (.pointer (some ⟨b, 0, none⟩)) := hV 0 32 (by kernel_rfl) rfl
      have q0 := hA.cell B0 ib
      clear hE hV hP hB hS
      exact Does.value (w' := W) (by go_simp) ⟨rfl, Below.refl _ _⟩
    refine AllTold.cons rfl (fun β E W hA hF hc hf hE hV hP hB hS => Or.inl ⟨rfl, (by kernel_rfl), ?_⟩) ?_
    · have e1 : E (.tmp 3) = .pointer (some ⟨b, 0, none⟩) := hE 3 (by kernel_rfl)
      clear hE hV hP hB hS
      exact Does.value (w' := W) (by go_simp) ⟨rfl, Below.refl _ _⟩
    refine AllTold.cons rfl (fun β E W hA hF hc hf hE hV hP hB hS => Or.inl ⟨rfl, (by kernel_rfl), ?_⟩) ?_
    · have e1 : E (.tmp 34) = (.pointer (some ⟨b, 1, none⟩)) := hV 2 34 (by kernel_rfl) rfl
      have q0 := hA.cell B1 ib
      clear hE hV hP hB hS
      exact Does.value (w' := W) (by go_simp) ⟨rfl, Below.refl _ _⟩
    refine AllTold.cons rfl (fun β E W hA hF hc hf hE hV hP hB hS => Or.inl ⟨rfl, (by kernel_rfl), ?_⟩) ?_
    · have e1 : E (.tmp 2) = .pointer (some ⟨a, 0, none⟩) := hE 2 (by kernel_rfl)
      clear hE hV hP hB hS
      exact Does.value (w' := W) (by go_simp) ⟨rfl, Below.refl _ _⟩
    refine AllTold.cons rfl (fun β E W hA hF hc hf hE hV hP hB hS => Or.inl ⟨rfl, (by kernel_rfl), ?_⟩) ?_
    · have e1 : E (.tmp 36) = (.pointer (some ⟨a, 1, none⟩)) := hV 4 36 (by kernel_rfl) rfl
      have q0 := hA.cell A1 ia
      clear hE hV hP hB hS
      exact Does.value (w' := W) (by go_simp) ⟨rfl, Below.refl _ _⟩
    refine AllTold.cons rfl (fun β E W hA hF hc hf hE hV hP hB hS => Or.inl ⟨rfl, (by kernel_rfl), ?_⟩) ?_
    · have e1 : E (.tmp 35) = (.slice p2 l2 c2) := hV 3 35 (by kernel_rfl) rfl
      have e2 : E (.tmp 37) = (.slice p1 l1 c1) := hV 5 37 (by kernel_rfl) rfl
      clear hE hV hP hB hS
      exact Does.call (w' := W) (by go_simp) ((HM.out W (hF (_, _) (List.mem_cons_of_mem _ (List.mem_cons_self ..))).isR (hF (_, _) (List.mem_cons_self ..)).isR).mono fun e w' h => h.want)
    refine AllTold.cons rfl (fun β E W hA hF hc hf hE hV hP hB hS => Or.inl ⟨rfl, (by kernel_rfl), ?_⟩) ?_
    · have e1 : E (.tmp 33) = (.bool g2) := hV 1 33 (by kernel_rfl) rfl
      have e2 : Means W (.rnum (y.natAbs - x.natAbs)) (E (.tmp 38)) := hV 6 38 (by kernel_rfl) rfl
      clear hE hV hP hB hS
      obtain ⟨q, k, d, e2', hI⟩ := e2
      exact Does.call (w' := W) (by go_simp) ((HF.out q k d W hI).mono fun e w' h => h.want)
    refine AllTold.cons rfl (fun β E W hA hF hc hf hE hV hP hB hS => Or.inr (Or.inl ⟨rfl, ⟨_, (List.mem_cons_self ..), rfl, (by kernel_rfl), rfl, ?_⟩⟩)) ?_
    · have e1 : E (.tmp 4) = .pointer (some ⟨r, 0, none⟩) := hE 4 (by kernel_rfl)
      have e2 : Means W (.rint (x + y)) (E (.tmp 39)) := hV 7 39 (by kernel_rfl) rfl
      obtain ⟨hbx, hfr⟩ := hB _ (List.mem_cons_self ..) (by kernel_rfl) (by kernel_rfl)
      replace hbx : BoxHas W r .rint _ := hbx
      replace hfr : BoxFree W r .rint := hfr
      obtain ⟨_, _, _, _, _, q0, q1⟩ := hbx.rint
      have t0 := hfr 0 (by show 0 < 2; decide)
      have t1 := hfr 1 (by show 1 < 2; decide)
      obtain ⟨g, p, l, c, e2', hI⟩ := e2
      clear hE hV hP hB hS
      exact Does.skip (by go_simp) ⟨_, Stored.mkRint (b := r), ⟨g, p, l, c, rfl, hI⟩⟩
    exact AllTold.nil
  · intro β f W' hf hS hN hA _ _ _ _
    obtain ⟨g5, p5, l5, c5, r0, r1, hI1⟩ := (show Says W' r .rint (.rint (x + y)) from (hS _ (List.mem_cons_self ..)).1).rint
    have HBW := Lib.hid (HB.trans (hA.below (B := w.heap.size) (by simp [oldBlocks]; exact zw) HB.size))
    have I1 := Lib.hid hI1
    clear hf hS hN hA hI1
    simp only [fillSlots, List.setIfInBounds_toArray, List.set_cons_succ, List.set_cons_zero]
    go_wp2
    exact bodyPost_ret (v := .agg #[.bool g5, .slice p5 l5 c5]) (by simp [results, Tryz.results8, go_sem, r0, r1]) rfl ⟨_, _, _, _, rfl, I1.out, HBW.out⟩

theorem rIAdd_any (x y : Int) (g1 g2 : Bool) (p1 p2 : Option Addr) (l1 c1 l2 c2 : Nat) (w : World) (hx : l1 ≤ 100000) (hy : l2 ≤ 100000) (h1 : IsRI w g1 p1 l1 c1 x) (h2 : IsRI w g2 p2 l2 c2 y) :
    Calls Tryz.prog 8 #[.agg #[.bool g1, .slice p1 l1 c1], .agg #[.bool g2, .slice p2 l2 c2]] w (RetRI w (x + y)) := by
  by_cases hg : g1 = g2
  · exact rIAdd_same x y g1 g2 p1 p2 l1 c1 l2 c2 w hg hx hy h1 h2
  · have hd : (g1 == g2) = false := beq_eq_false_iff_ne.2 hg
    rcases Nat.lt_or_ge x.natAbs y.natAbs with h | h
    · exact rIAdd_lt x y g1 g2 p1 p2 l1 c1 l2 c2 w hd h hx hy h1 h2
    · exact rIAdd_ge x y g1 g2 p1 p2 l1 c1 l2 c2 w hd h hx hy h1 h2
end Go.Proofs.YtjjhkmdeamoifaaGreatDoor

/- Differences, products and comparisons of the document's integers; the document's integer of a program's; whether they are alike. -/
namespace Go.Proofs.YtjjhkmdeamoifaaGreatDoor
open Go.RowKit

theorem RetRI.wants {W w' : World} {z : Int} {e : Ending} (h : RetRI W z e w') : ∃ v, e = .returned v ∧ RINum w' v z ∧ Below W.heap.size W w' := h.want
theorem rINeg_want (w : World) (u : Value) (x : Int) (h : RINum w u x) : Calls Tryz.prog 16 #[u] w fun e w' => ∃ v', e = .returned v' ∧ RINum w' v' (-x) ∧ Below w.heap.size w w' := by
  obtain ⟨g, p, l, c, rfl, h⟩ := h
  exact (rINeg_any x g p l c w h).mono fun _ _ h => h.want
theorem rISign_want (w : World) (u : Value) (x : Int) (h : RINum w u x) : Calls Tryz.prog 18 #[u] w fun e w' => ∃ v', e = .returned v' ∧ v' = .int .i64 (cmp3 x 0) ∧ Below w.heap.size w w' := by
  obtain ⟨g, p, l, c, rfl, h⟩ := h
  exact (rISign_any x g p l c w h).mono fun _ _ ⟨h, hb⟩ => ⟨_, h, rfl, hb⟩
theorem rIAdd_want (w : World) (u v : Value) (x y : Int) (hx : (ds x.natAbs).length ≤ 400) (hy : (ds y.natAbs).length ≤ 400) (h1 : RINum w u x) (h2 : RINum w v y) :
    Calls Tryz.prog 8 #[u, v] w fun e w' => ∃ v', e = .returned v' ∧ RINum w' v' (x + y) ∧ Below w.heap.size w w' := by
  obtain ⟨g, p, l, c, rfl, h1⟩ := h1
  obtain ⟨f, q, k, d, rfl, h2⟩ := h2
  have := h1.2.short hx; have := h2.2.short hy
  exact (rIAdd_any x y g f p q l c k d w (by omega) (by omega) h1 h2).mono fun _ _ h => h.want
theorem cmp3_sub (x y : Int) : cmp3 (x - y) 0 = cmp3 x y := by unfold cmp3; split <;> split <;> (try split) <;> (try split) <;> omega

set_option maxRecDepth 100000 in
set_option maxHeartbeats 2000000 in
theorem rISub_any (x y : Int) (g1 g2 : Bool) (p1 p2 : Option Addr) (l1 c1 l2 c2 : Nat) (w : World) (hx : (ds x.natAbs).length ≤ 60) (hy : (ds y.natAbs).length ≤ 60) (h1 : IsRI w g1 p1 l1 c1 x) (h2 : IsRI w g2 p2 l2 c2 y) :
    Calls Tryz.prog 10 #[.agg #[.bool g1, .slice p1 l1 c1], .agg #[.bool g2, .slice p2 l2 c2]] w (RetRI w (x - y)) := by
  have HX := Lib.hid hx; have HY := Lib.hid (show (ds (-y).natAbs).length ≤ 400 by rw [ds_neg]; omega)
  rw [Int.sub_eq_add_neg]
  have H1 := Lib.hid h1; have H2 := Lib.hid h2
  clear h1 h2 hx hy
  go_enter Tryz.func10, Tryz.ntmps10
  go_wp2
  obtain ⟨W, a, b, r, hW, hr, hbb, ha, ⟨A0, A1⟩, ⟨B0, B1⟩, OLD_r, ia, ib, zw, HB⟩ := rboxes2 w g1 g2 p1 p2 l1 c1 l2 c2
  rw [← hW, ← hr, ← hbb, ← ha]
  clear hW hr hbb ha
  refine region_told (T := [0, 1, 2, 3]) (slots := [5, 6, 7, 8])
      (tab := [.rint x, .rint y, .rint (-y), .rint (x + -y), .any])
      (D := [⟨r, .rint, none, 4, (.rint (x + -y)), (.agg #[.bool false, .slice none 0 0])⟩])
      (F := [(.agg #[.bool g1, .slice p1 l1 c1], .rint x), (.agg #[.bool g2, .slice p2 l2 c2], .rint y)])
      (by kernel_rfl) (by kernel_rfl) (by kernel_rfl) (by kernel_rfl) (by kernel_rfl) (by kernel_rfl) (by kernel_rfl) ?_ ?_ ?_ ?_ ?_
  · skip
    refine List.Pairwise.cons (fun y hy => ?_) ?_
    · cases hy
    exact List.Pairwise.nil
  · intro f hf; simp only [List.mem_cons, List.not_mem_nil, or_false] at hf; rcases hf with rfl | rfl
    · exact ⟨_, _, _, _, rfl, H1.out.mono HB⟩
    · exact ⟨_, _, _, _, rfl, H2.out.mono HB⟩
  · intro x hx hal; simp only [List.mem_cons, List.not_mem_nil, or_false] at hx; rcases hx with rfl
    · exact ⟨OLD_r.1, OLD_r.2, OLD_r.1.lt rfl⟩
  · skip
    refine AllTold.cons rfl (fun β E W hA hF hc hf hE hV hP hB hS => Or.inl ⟨rfl, (by kernel_rfl), ?_⟩) ?_
    · have e1 : E (.tmp 2) = .pointer (some ⟨a, 0, none⟩) := hE 2 (by kernel_rfl)
      have q0 := hA.cell A0 ia
      have q1 := hA.cell A1 ia
      clear hE hV hP hB hS
      exact Does.value (v := .agg #[.bool g1, .slice p1 l1 c1]) (w' := W) (by go_simp) ⟨hF (_, _) (List.mem_cons_self ..), Below.refl _ _⟩
    refine AllTold.cons rfl (fun β E W hA hF hc hf hE hV hP hB hS => Or.inl ⟨rfl, (by kernel_rfl), ?_⟩) ?_
    · have e1 : E (.tmp 3) = .pointer (some ⟨b, 0, none⟩) := hE 3 (by kernel_rfl)
      have q0 := hA.cell B0 ib
      have q1 := hA.cell B1 ib
      clear hE hV hP hB hS
      exact Does.value (v := .agg #[.bool g2, .slice p2 l2 c2]) (w' := W) (by go_simp) ⟨hF (_, _) (List.mem_cons_of_mem _ (List.mem_cons_self ..)), Below.refl _ _⟩
    refine AllTold.cons rfl (fun β E W hA hF hc hf hE hV hP hB hS => Or.inl ⟨rfl, (by kernel_rfl), ?_⟩) ?_
    · have e1 : Means W (.rint y) (E (.tmp 6)) := hV 1 6 (by kernel_rfl) rfl
      clear hE hV hP hB hS
      exact Does.call (w' := W) (by go_simp) ((rINeg_want W _ y e1).mono fun e w' ⟨v, h1, h2, h3⟩ => ⟨v, h1, h2, h3⟩)
    refine AllTold.cons rfl (fun β E W hA hF hc hf hE hV hP hB hS => Or.inl ⟨rfl, (by kernel_rfl), ?_⟩) ?_
    · have e1 : Means W (.rint x) (E (.tmp 5)) := hV 0 5 (by kernel_rfl) rfl
      have e2 : Means W (.rint (-y)) (E (.tmp 7)) := hV 2 7 (by kernel_rfl) rfl
      clear hE hV hP hB hS
      exact Does.call (w' := W) (by go_simp) ((rIAdd_want W _ _ x (-y) (by have := HX.out; omega) HY.out e1 e2).mono fun e w' ⟨v, h1, h2, h3⟩ => ⟨v, h1, h2, h3⟩)
    refine AllTold.cons rfl (fun β E W hA hF hc hf hE hV hP hB hS => Or.inr (Or.inl ⟨rfl, ⟨_, (List.mem_cons_self ..), rfl, (by kernel_rfl), rfl, ?_⟩⟩)) ?_
    · have e1 : E (.tmp 4) = .pointer (some ⟨r, 0, none⟩) := hE 4 (by kernel_rfl)
      have e2 : Means W (.rint (x + -y)) (E (.tmp 8)) := hV 3 8 (by kernel_rfl) rfl
      obtain ⟨hbx, hfr⟩ := hB _ (List.mem_cons_self ..) (by kernel_rfl) (by kernel_rfl)
      replace hbx : BoxHas W r .rint _ := hbx
      replace hfr : BoxFree W r .rint := hfr
      obtain ⟨_, _, _, _, _, q0, q1⟩ := hbx.rint
      have t0 := hfr 0 (by show 0 < 2; decide)
      have t1 := hfr 1 (by show 1 < 2; decide)
      obtain ⟨g, p, l, c, e2', hI⟩ := e2
      clear hE hV hP hB hS
      exact Does.skip (by go_simp) ⟨_, Stored.mkRint (b := r), ⟨g, p, l, c, rfl, hI⟩⟩
    exact AllTold.nil
  · intro β f W' hf hS hN hA _ _ _ _
    obtain ⟨g5, p5, l5, c5, r0, r1, hI1⟩ := (show Says W' r .rint (.rint (x + -y)) from (hS _ (List.mem_cons_self ..)).1).rint
    have HBW := Lib.hid (HB.trans (hA.below (B := w.heap.size) (by simp [oldBlocks]; exact zw) HB.size))
    have I1 := Lib.hid hI1
    clear hf hS hN hA hI1
    simp only [fillSlots, List.setIfInBounds_toArray, List.set_cons_succ, List.set_cons_zero]
    go_wp2
    exact bodyPost_ret (v := .agg #[.bool g5, .slice p5 l5 c5]) (by simp [results, Tryz.results10, go_sem, r0, r1]) rfl ⟨_, _, _, _, rfl, I1.out, HBW.out⟩
theorem rISub_want (w : World) (u v : Value) (x y : Int) (hx : (ds x.natAbs).length ≤ 60) (hy : (ds y.natAbs).length ≤ 60) (h1 : RINum w u x) (h2 : RINum w v y) :
    Calls Tryz.prog 10 #[u, v] w fun e w' => ∃ v', e = .returned v' ∧ RINum w' v' (x - y) ∧ Below w.heap.size w w' := by
  obtain ⟨g, p, l, c, rfl, h1⟩ := h1
  obtain ⟨f, q, k, d, rfl, h2⟩ := h2
  exact (rISub_any x y g f p q l c k d w hx hy h1 h2).mono fun _ _ h => h.want

set_option maxRecDepth 100000 in
set_option maxHeartbeats 2000000 in
theorem rIMul_any (x y : Int) (g1 g2 : Bool) (p1 p2 : Option Addr) (l1 c1 l2 c2 : Nat) (w : World) (hx : (ds x.natAbs).length ≤ 60) (hy : (ds y.natAbs).length ≤ 60) (h1 : IsRI w g1 p1 l1 c1 x) (h2 : IsRI w g2 p2 l2 c2 y) :
    Calls Tryz.prog 12 #[.agg #[.bool g1, .slice p1 l1 c1], .agg #[.bool g2, .slice p2 l2 c2]] w (RetRI w (x * y)) := by
  obtain ⟨e1, h1⟩ := h1
  obtain ⟨e2, h2⟩ := h2
  have k1 := h1.short hx; have k2 := h2.short hy
  have HM := Lib.hid (fun W a b => rMul_any p1 p2 l1 c1 l2 c2 x.natAbs y.natAbs W (by omega) (by omega) a b)
  have HF := Lib.hid (fun p l c W a => rI_any (g1 != g2) (x.natAbs * y.natAbs) p l c W a)
  rw [show sgn (g1 != g2) (x.natAbs * y.natAbs) = x * y by rw [e1, e2]; exact sgn_mul x y] at HF
  have H1 := Lib.hid h1; have H2 := Lib.hid h2
  clear e1 e2 h1 h2 hx hy k1 k2
  go_enter Tryz.func12, Tryz.ntmps12
  go_wp2
  obtain ⟨W, a, b, r, hW, hr, hbb, ha, ⟨A0, A1⟩, ⟨B0, B1⟩, OLD_r, ia, ib, zw, HB⟩ := rboxes2 w g1 g2 p1 p2 l1 c1 l2 c2
  rw [← hW, ← hr, ← hbb, ← ha]
  clear hW hr hbb ha
  refine region_told (T := [0, 1, 2, 3, 4, 5, 6, 7, 8, 9, 10]) (slots := [5, 6, 7, 8, 9, 10, 11, 12, 13, 14, 15])
      (tab := [.is (.pointer (some ⟨a, 0, none⟩)), .is (.bool g1), .is (.pointer (some ⟨b, 0, none⟩)), .is (.bool g2), .is (.bool (g1 != g2)), .is (.pointer (some ⟨a, 1, none⟩)), .is (.slice p1 l1 c1), .is (.pointer (some ⟨b, 1, none⟩)), .is (.slice p2 l2 c2), .rnum (x.natAbs * y.natAbs), .rint (x * y), .any])
      (D := [⟨r, .rint, none, 11, (.rint (x * y)), (.agg #[.bool false, .slice none 0 0])⟩])
      (F := [(.slice p1 l1 c1, .rnum x.natAbs), (.slice p2 l2 c2, .rnum y.natAbs)])
      (by kernel_rfl) (by kernel_rfl) (by kernel_rfl) (by kernel_rfl) (by kernel_rfl) (by kernel_rfl) (by kernel_rfl) ?_ ?_ ?_ ?_ ?_
  · skip
    refine List.Pairwise.cons (fun y hy => ?_) ?_
    · cases hy
    exact List.Pairwise.nil
  · intro f hf; simp only [List.mem_cons, List.not_mem_nil, or_false] at hf; rcases hf with rfl | rfl
    · exact ⟨_, _, _, rfl, H1.out.mono HB⟩
    · exact ⟨_, _, _, rfl, H2.out.mono HB⟩
  · intro x hx hal; simp only [List.mem_cons, List.not_mem_nil, or_false] at hx; rcases hx with rfl
    · exact ⟨OLD_r.1, OLD_r.2, OLD_r.1.lt rfl⟩
  · skip
    refine AllTold.cons rfl (fun β E W hA hF hc hf hE hV hP hB hS => Or.inl ⟨rfl, (by kernel_rfl), ?_⟩) ?_
    · have e1 : E (.tmp 2) = .pointer (some ⟨a, 0, none⟩) := hE 2 (by kernel_rfl)
      clear hE hV hP hB hS
      exact Does.value (w' := W) (by go_simp) ⟨rfl, Below.refl _ _⟩
    refine AllTold.cons rfl (fun β E W hA hF hc hf hE hV hP hB hS => Or.inl ⟨rfl, (by kernel_rfl), ?_⟩) ?_
    · have e1 : E (.tmp 5) = (.pointer (some ⟨a, 0, none⟩)) := hV 0 5 (by kernel_rfl) rfl
      have q0 := hA.cell A0 ia
      clear hE hV hP hB hS
      exact Does.value (w' := W) (by go_simp) ⟨rfl, Below.refl _ _⟩
    refine AllTold.cons rfl (fun β E W hA hF hc hf hE hV hP hB hS => Or.inl ⟨rfl, (by kernel_rfl), ?_⟩) ?_
    · have e1 : E (.tmp 3) = .pointer (some ⟨b, 0, none⟩) := hE 3 (by kernel_rfl)
      clear hE hV hP hB hS
      exact Does.value (w' := W) (by go_simp) ⟨rfl, Below.refl _ _⟩
    refine AllTold.cons rfl (fun β E W hA hF hc hf hE hV hP hB hS => Or.inl ⟨rfl, (by kernel_rfl), ?_⟩) ?_
    · have e1 : E (.tmp 7) = (.pointer (some ⟨b, 0, none⟩)) := hV 2 7 (by kernel_rfl) rfl
      have q0 := hA.cell B0 ib
      clear hE hV hP hB hS
      exact Does.value (w' := W) (by go_simp) ⟨rfl, Below.refl _ _⟩
    refine AllTold.cons rfl (fun β E W hA hF hc hf hE hV hP hB hS => Or.inl ⟨rfl, (by kernel_rfl), ?_⟩) ?_
    · have e1 : E (.tmp 6) = (.bool g1) := hV 1 6 (by kernel_rfl) rfl
      have e2 : E (.tmp 8) = (.bool g2) := hV 3 8 (by kernel_rfl) rfl
      clear hE hV hP hB hS
      exact ev_neqB e1 e2 rfl
    refine AllTold.cons rfl (fun β E W hA hF hc hf hE hV hP hB hS => Or.inl ⟨rfl, (by kernel_rfl), ?_⟩) ?_
    · have e1 : E (.tmp 2) = .pointer (some ⟨a, 0, none⟩) := hE 2 (by kernel_rfl)
      clear hE hV hP hB hS
      exact Does.value (w' := W) (by go_simp) ⟨rfl, Below.refl _ _⟩
    refine AllTold.cons rfl (fun β E W hA hF hc hf hE hV hP hB hS => Or.inl ⟨rfl, (by kernel_rfl), ?_⟩) ?_
    · have e1 : E (.tmp 10) = (.pointer (some ⟨a, 1, none⟩)) := hV 5 10 (by kernel_rfl) rfl
      have q0 := hA.cell A1 ia
      clear hE hV hP hB hS
      exact Does.value (w' := W) (by go_simp) ⟨rfl, Below.refl _ _⟩
    refine AllTold.cons rfl (fun β E W hA hF hc hf hE hV hP hB hS => Or.inl ⟨rfl, (by kernel_rfl), ?_⟩) ?_
    · have e1 : E (.tmp 3) = .pointer (some ⟨b, 0, none⟩) := hE 3 (by kernel_rfl)
      clear hE hV hP hB hS
      exact Does.value (w' := W) (by go_simp) ⟨rfl, Below.refl _ _⟩
    refine AllTold.cons rfl (fun β E W hA hF hc hf hE hV hP hB hS => Or.inl ⟨rfl, (by kernel_rfl), ?_⟩) ?_
    · have e1 : E (.tmp 12) = (.pointer (some ⟨b, 1, none⟩)) := hV 7 12 (by kernel_rfl) rfl
      have q0 := hA.cell B1 ib
      clear hE hV hP hB hS
      exact Does.value (w' := W) (by go_simp) ⟨rfl, Below.refl _ _⟩
    refine AllTold.cons rfl (fun β E W hA hF hc hf hE hV hP hB hS => Or.inl ⟨rfl, (by kernel_rfl), ?_⟩) ?_
    · have e1 : E (.tmp 11) = (.slice p1 l1 c1) := hV 6 11 (by kernel_rfl) rfl
      have e2 : E (.tmp 13) = (.slice p2 l2 c2) := hV 8 13 (by kernel_rfl) rfl
      clear hE hV hP hB hS
      exact Does.call (w' := W) (by go_simp) ((HM.out W (hF (_, _) (List.mem_cons_self ..)).isR (hF (_, _) (List.mem_cons_of_mem _ (List.mem_cons_self ..))).isR).mono fun e w' h => h.want)
    refine AllTold.cons rfl (fun β E W hA hF hc hf hE hV hP hB hS => Or.inl ⟨rfl, (by kernel_rfl), ?_⟩) ?_
    · have e1 : E (.tmp 9) = (.bool (g1 != g2)) := hV 4 9 (by kernel_rfl) rfl
      have e2 : Means W (.rnum (x.natAbs * y.natAbs)) (E (.tmp 14)) := hV 9 14 (by kernel_rfl) rfl
      clear hE hV hP hB hS
      obtain ⟨q, k, d, e2', hI⟩ := e2
      exact Does.call (w' := W) (by go_simp) ((HF.out q k d W hI).mono fun e w' h => h.want)
    refine AllTold.cons rfl (fun β E W hA hF hc hf hE hV hP hB hS => Or.inr (Or.inl ⟨rfl, ⟨_, (List.mem_cons_self ..), rfl, (by kernel_rfl), rfl, ?_⟩⟩)) ?_
    · have e1 : E (.tmp 4) = .pointer (some ⟨r, 0, none⟩) := hE 4 (by kernel_rfl)
      have e2 : Means W (.rint (x * y)) (E (.tmp 15)) := hV 10 15 (by kernel_rfl) rfl
      obtain ⟨hbx, hfr⟩ := hB _ (List.mem_cons_self ..) (by kernel_rfl) (by kernel_rfl)
      replace hbx : BoxHas W r .rint _ := hbx
      replace hfr : BoxFree W r .rint := hfr
      obtain ⟨_, _, _, _, _, q0, q1⟩ := hbx.rint
      have t0 := hfr 0 (by show 0 < 2; decide)
      have t1 := hfr 1 (by show 1 < 2; decide)
      obtain ⟨g, p, l, c, e2', hI⟩ := e2
      clear hE hV hP hB hS
      exact Does.skip (by go_simp) ⟨_, Stored.mkRint (b := r), ⟨g, p, l, c, rfl, hI⟩⟩
    exact AllTold.nil
  · intro β f W' hf hS hN hA _ _ _ _
    obtain ⟨g5, p5, l5, c5, r0, r1, hI1⟩ := (show Says W' r .rint (.rint (x * y)) from (hS _ (List.mem_cons_self ..)).1).rint
    have HBW := Lib.hid (HB.trans (hA.below (B := w.heap.size) (by simp [oldBlocks]; exact zw) HB.size))
    have I1 := Lib.hid hI1
    clear hf hS hN hA hI1
    simp only [fillSlots, List.setIfInBounds_toArray, List.set_cons_succ, List.set_cons_zero]
    go_wp2
    exact bodyPost_ret (v := .agg #[.bool g5, .slice p5 l5 c5]) (by simp [results, Tryz.results12, go_sem, r0, r1]) rfl ⟨_, _, _, _, rfl, I1.out, HBW.out⟩
theorem rIMul_want (w : World) (u v : Value) (x y : Int) (hx : (ds x.natAbs).length ≤ 60) (hy : (ds y.natAbs).length ≤ 60) (h1 : RINum w u x) (h2 : RINum w v y) :
    Calls Tryz.prog 12 #[u, v] w fun e w' => ∃ v', e = .returned v' ∧ RINum w' v' (x * y) ∧ Below w.heap.size w w' := by
  obtain ⟨g, p, l, c, rfl, h1⟩ := h1
  obtain ⟨f, q, k, d, rfl, h2⟩ := h2
  exact (rIMul_any x y g f p q l c k d w hx hy h1 h2).mono fun _ _ h => h.want

/-- The boxes of two of the document's integers. -/
theorem rboxes (w : World) (g1 g2 : Bool) (p1 p2 : Option Addr) (l1 c1 l2 c2 : Nat) :
    ∃ W a b, W = (w.alloc (.cells #[.bool g1, .slice p1 l1 c1] 32)).alloc (.cells #[.bool g2, .slice p2 l2 c2] 32) ∧ b = w.heap.size + 1 ∧ a = w.heap.size ∧ RBox W a g1 p1 l1 c1 ∧ RBox W b g2 p2 l2 c2 ∧ Below w.heap.size w W := by
  refine ⟨_, _, _, rfl, rfl, rfl, ⟨?_, ?_⟩, ⟨?_, ?_⟩, below_alloc (below_alloc (Below.refl _ _) _) _⟩
  all_goals simp [go_sem]

set_option maxRecDepth 100000 in
set_option maxHeartbeats 2000000 in
theorem rICmp_any (x y : Int) (g1 g2 : Bool) (p1 p2 : Option Addr) (l1 c1 l2 c2 : Nat) (w : World) (hx : (ds x.natAbs).length ≤ 60) (hy : (ds y.natAbs).length ≤ 60) (h1 : IsRI w g1 p1 l1 c1 x) (h2 : IsRI w g2 p2 l2 c2 y) :
    Calls Tryz.prog 14 #[.agg #[.bool g1, .slice p1 l1 c1], .agg #[.bool g2, .slice p2 l2 c2]] w fun e w' => e = .returned (.int .i64 (cmp3 x y)) ∧ Below w.heap.size w w' := by
  have HX := Lib.hid hx; have HY := Lib.hid hy
  rw [← cmp3_sub]
  have H1 := Lib.hid h1; have H2 := Lib.hid h2
  clear h1 h2 hx hy
  go_enter Tryz.func14, Tryz.ntmps14
  obtain ⟨W, a, b, hW, hbb, ha, ⟨A0, A1⟩, ⟨B0, B1⟩, HB⟩ := rboxes w g1 g2 p1 p2 l1 c1 l2 c2
  go_wp2_with fail
  rw [← hW]
  clear hW hbb ha A0 A1 B0 B1
  refine (rISub_any x y g1 g2 p1 p2 l1 c1 l2 c2 W HX.out HY.out (H1.out.mono HB) (H2.out.mono HB)).mono ?_
  rintro e w1 ⟨g3, p3, l3, c3, rfl, h3, hb⟩
  have H3 := Lib.hid h3
  have HB := Lib.hid (below_step HB hb)
  clear h3 hb
  go_wp2_with fail
  refine (rISign_any (x - y) g3 p3 l3 c3 w1 H3.out).mono ?_
  rintro e w2 ⟨rfl, hb⟩
  have HB := Lib.hid (below_step HB.out hb)
  clear hb
  go_wp2
  go_ret
  exact ⟨rfl, HB.out⟩
theorem rICmp_want (w : World) (u v : Value) (x y : Int) (hx : (ds x.natAbs).length ≤ 60) (hy : (ds y.natAbs).length ≤ 60) (h1 : RINum w u x) (h2 : RINum w v y) :
    Calls Tryz.prog 14 #[u, v] w fun e w' => ∃ v', e = .returned v' ∧ v' = .int .i64 (cmp3 x y) ∧ Below w.heap.size w w' := by
  obtain ⟨g, p, l, c, rfl, h1⟩ := h1
  obtain ⟨f, q, k, d, rfl, h2⟩ := h2
  exact (rICmp_any x y g f p q l c k d w hx hy h1 h2).mono fun _ _ ⟨h, hb⟩ => ⟨_, h, rfl, hb⟩

set_option maxHeartbeats 1000000 in
theorem hOutNat_any (n : Nat) (s : Int) (p : Option Addr) (l c : Nat) (w : World) (hl : (ds n).length ≤ 400) (h : IsN w s p l c n) :
    Calls Tryz.prog 44 #[.agg #[.int .u64 s, .slice p l c]] w (RetR w n) := by
  have hmb : (be n).length ≤ 1000000 := by
    have h1 := bitLen_ds n
    have h2 := bitLen_lt_pow.1 (getD_lt (ds_lt n) (by omega) ((ds n).length - 1))
    have := ds_pos n
    rw [be_length]
    omega
  have H := Lib.hid h; have HL := Lib.hid hl
  clear h hl
  go_enter Tryz.func44, Tryz.ntmps44
  go_wp2_with fail
  refine (nbytes_any n s p l c _ (H.out.mono (below_alloc (Below.refl _ _) _)) (by have := HL.out; omega)).mono ?_
  rintro e w1 ⟨b, off, c1, rfl, _, _, x4, _, hb⟩
  have X4 := Lib.hid x4
  have HB := Lib.hid (below_step (below_alloc (Below.refl _ _) _) hb)
  clear x4 hb
  go_wp2_with fail
  refine (rFrom_any b off c1 _ (be n) w1 rfl hmb X4.out (be_lt n)).mono ?_
  rintro e w2 ⟨p1, l1, e1, rfl, h1, hb⟩
  rw [nb_be] at h1
  have H1 := Lib.hid h1
  have HB := Lib.hid (below_step HB.out hb)
  clear h1 hb
  go_wp2
  exact bodyPost_ret (v := .slice p1 l1 e1) (by simp [results, Tryz.results44, go_sem]) rfl ⟨_, _, _, rfl, H1.out, HB.out⟩
theorem hOutNat_want (w : World) (u : Value) (n : Nat) (hl : (ds n).length ≤ 400) (h : Num w u n) : Calls Tryz.prog 44 #[u] w fun e w' => ∃ v', e = .returned v' ∧ RNum w' v' n ∧ Below w.heap.size w w' := by
  obtain ⟨s, p, l, c, rfl, h⟩ := h
  exact (hOutNat_any n s p l c w hl h).mono fun _ _ h => h.want
theorem rI_want (w : World) (g : Bool) (u : Value) (n : Nat) (z : Int) (hz : sgn g n = z) (h : RNum w u n) : Calls Tryz.prog 19 #[.bool g, u] w fun e w' => ∃ v', e = .returned v' ∧ RINum w' v' z ∧ Below w.heap.size w w' := by
  obtain ⟨p, l, c, rfl, h⟩ := h
  rw [← hz]
  exact (rI_any g n p l c w h).mono fun _ _ h => h.want
theorem cmp3_neg (z : Int) : decide (cmp3 z 0 < 0) = decide (z < 0) := by unfold cmp3; split <;> (try split) <;> simp <;> omega

set_option maxRecDepth 100000 in
set_option maxHeartbeats 2000000 in
theorem hOutInt_any (z : Int) (g : Bool) (s : Int) (p : Option Addr) (l c : Nat) (w : World) (hz : (ds z.natAbs).length ≤ 400) (h : IsI w g s p l c z) :
    Calls Tryz.prog 27 #[.agg #[.bool g, .int .u64 s, .slice p l c]] w (RetRI w z) := by
  have HZ := Lib.hid hz; have H := Lib.hid h
  clear h hz
  go_enter Tryz.func27, Tryz.ntmps27
  go_wp2
  obtain ⟨W, hW⟩ : ∃ W, W = (w.alloc (.cells #[.bool g, .int .u64 s, .slice p l c] 28)).alloc (.cells #[.bool false, .slice none 0 0] 32) := ⟨_, rfl⟩
  obtain ⟨r, hr⟩ : ∃ r, r = w.heap.size + 1 := ⟨_, rfl⟩
  obtain ⟨a, ha⟩ : ∃ a, a = w.heap.size := ⟨_, rfl⟩
  have HB : Below w.heap.size w W := by rw [hW]; exact below_alloc (below_alloc (Below.refl _ _) _) _
  have A0 : W.cell? ⟨a, 0, none⟩ = some (.bool g) := by simp [hW, ha, go_sem]
  have A1 : W.cell? ⟨a, 1, none⟩ = some (.int .u64 s) := by simp [hW, ha, go_sem]
  have A2 : W.cell? ⟨a, 2, none⟩ = some (.slice p l c) := by simp [hW, ha, go_sem]
  have OLD_r : BoxHas W r .rint (.agg #[.bool false, .slice none 0 0]) ∧ BoxFree W r .rint := ⟨.mkRint (by simp [hW, hr, go_sem]) (by simp [hW, hr, go_sem]), free2 (by simp [hW, hr, go_sem]) (by simp [hW, hr, go_sem]) rfl⟩
  have ia : a ∉ [r] := by simp; omega
  have zw : w.heap.size ≤ r := by omega
  rw [← hW, ← hr, ← ha]
  clear hW hr ha
  refine region_told (T := [0, 1, 2, 3, 4, 5, 6]) (slots := [3, 4, 5, 6, 7, 8, 9])
      (tab := [.int z, .is (.int .i64 (cmp3 z 0)), .is (.bool (decide (z < 0))), .int z, .num z.natAbs, .rnum z.natAbs, .rint z, .any])
      (D := [⟨r, .rint, none, 7, (.rint z), (.agg #[.bool false, .slice none 0 0])⟩])
      (F := [(.agg #[.bool g, .int .u64 s, .slice p l c], .int z)])
      (by kernel_rfl) (by kernel_rfl) (by kernel_rfl) (by kernel_rfl) (by kernel_rfl) (by kernel_rfl) (by kernel_rfl) ?_ ?_ ?_ ?_ ?_
  · skip
    refine List.Pairwise.cons (fun y hy => ?_) ?_
    · cases hy
    exact List.Pairwise.nil
  · intro f hf; simp only [List.mem_cons, List.not_mem_nil, or_false] at hf; rcases hf with rfl
    · exact ⟨_, _, _, _, _, rfl, H.out.mono HB⟩
  · intro x hx hal; simp only [List.mem_cons, List.not_mem_nil, or_false] at hx; rcases hx with rfl
    · exact ⟨OLD_r.1, OLD_r.2, OLD_r.1.lt rfl⟩
  · skip
    refine AllTold.cons rfl (fun β E W hA hF hc hf hE hV hP hB hS => Or.inl ⟨rfl, (by kernel_rfl), ?_⟩) ?_
    · have e1 : E (.tmp 1) = .pointer (some ⟨a, 0, none⟩) := hE 1 (by kernel_rfl)
      have q0 := hA.cell A0 ia
      have q1 := hA.cell A1 ia
      have q2 := hA.cell A2 ia
      clear hE hV hP hB hS
      exact ev_loadI e1 q0 q1 q2 (hF (_, _) (List.mem_cons_self ..))
    refine AllTold.cons rfl (fun β E W hA hF hc hf hE hV hP hB hS => Or.inl ⟨rfl, (by kernel_rfl), ?_⟩) ?_
    · have e1 : Means W (.int z) (E (.tmp 3)) := hV 0 3 (by kernel_rfl) rfl
      clear hE hV hP hB hS
      exact Does.call (w' := W) (by go_simp) ((iSign_want W _ z e1).mono fun e w' ⟨v, h1, h2, h3⟩ => ⟨v, h1, h2, h3⟩)
    refine AllTold.cons rfl (fun β E W hA hF hc hf hE hV hP hB hS => Or.inl ⟨rfl, (by kernel_rfl), ?_⟩) ?_
    · have e1 : E (.tmp 4) = (.int .i64 (cmp3 z 0)) := hV 1 4 (by kernel_rfl) rfl
      clear hE hV hP hB hS
      exact ev_lss e1 (hc _) (cmp3_neg z)
    refine AllTold.cons rfl (fun β E W hA hF hc hf hE hV hP hB hS => Or.inl ⟨rfl, (by kernel_rfl), ?_⟩) ?_
    · have e1 : E (.tmp 1) = .pointer (some ⟨a, 0, none⟩) := hE 1 (by kernel_rfl)
      have q0 := hA.cell A0 ia
      have q1 := hA.cell A1 ia
      have q2 := hA.cell A2 ia
      clear hE hV hP hB hS
      exact ev_loadI e1 q0 q1 q2 (hF (_, _) (List.mem_cons_self ..))
    refine AllTold.cons rfl (fun β E W hA hF hc hf hE hV hP hB hS => Or.inl ⟨rfl, (by kernel_rfl), ?_⟩) ?_
    · have e1 : Means W (.int z) (E (.tmp 6)) := hV 3 6 (by kernel_rfl) rfl
      clear hE hV hP hB hS
      exact Does.call (w' := W) (by go_simp) ((iAbs_want W _ z e1).mono fun e w' ⟨v, h1, h2, h3⟩ => ⟨v, h1, h2, h3⟩)
    refine AllTold.cons rfl (fun β E W hA hF hc hf hE hV hP hB hS => Or.inl ⟨rfl, (by kernel_rfl), ?_⟩) ?_
    · have e1 : Means W (.num z.natAbs) (E (.tmp 7)) := hV 4 7 (by kernel_rfl) rfl
      clear hE hV hP hB hS
      exact Does.call (w' := W) (by go_simp) ((hOutNat_want W _ z.natAbs HZ.out e1).mono fun e w' ⟨v, h1, h2, h3⟩ => ⟨v, h1, h2, h3⟩)
    refine AllTold.cons rfl (fun β E W hA hF hc hf hE hV hP hB hS => Or.inl ⟨rfl, (by kernel_rfl), ?_⟩) ?_
    · have e1 : E (.tmp 5) = (.bool (decide (z < 0))) := hV 2 5 (by kernel_rfl) rfl
      have e2 : Means W (.rnum z.natAbs) (E (.tmp 8)) := hV 5 8 (by kernel_rfl) rfl
      clear hE hV hP hB hS
      exact Does.call (w' := W) (by go_simp) ((rI_want W _ _ z.natAbs z (sgn_is z) e2).mono fun e w' ⟨v, h1, h2, h3⟩ => ⟨v, h1, h2, h3⟩)
    refine AllTold.cons rfl (fun β E W hA hF hc hf hE hV hP hB hS => Or.inr (Or.inl ⟨rfl, ⟨_, (List.mem_cons_self ..), rfl, (by kernel_rfl), rfl, ?_⟩⟩)) ?_
    · have e1 : E (.tmp 2) = .pointer (some ⟨r, 0, none⟩) := hE 2 (by kernel_rfl)
      have e2 : Means W (.rint z) (E (.tmp 9)) := hV 6 9 (by kernel_rfl) rfl
      obtain ⟨hbx, hfr⟩ := hB _ (List.mem_cons_self ..) (by kernel_rfl) (by kernel_rfl)
      replace hbx : BoxHas W r .rint _ := hbx
      replace hfr : BoxFree W r .rint := hfr
      obtain ⟨_, _, _, _, _, q0, q1⟩ := hbx.rint
      have t0 := hfr 0 (by show 0 < 2; decide)
      have t1 := hfr 1 (by show 1 < 2; decide)
      obtain ⟨g, p, l, c, e2', hI⟩ := e2
      clear hE hV hP hB hS
      exact Does.skip (by go_simp) ⟨_, Stored.mkRint (b := r), ⟨g, p, l, c, rfl, hI⟩⟩
    exact AllTold.nil
  · intro β f W' hf hS hN hA _ _ _ _
    obtain ⟨g5, p5, l5, c5, r0, r1, hI1⟩ := (show Says W' r .rint (.rint (z)) from (hS _ (List.mem_cons_self ..)).1).rint
    have HBW := Lib.hid (HB.trans (hA.below (B := w.heap.size) (by simp [oldBlocks]; exact zw) HB.size))
    have I1 := Lib.hid hI1
    clear hf hS hN hA hI1
    simp only [fillSlots, List.setIfInBounds_toArray, List.set_cons_succ, List.set_cons_zero]
    go_wp2
    exact bodyPost_ret (v := .agg #[.bool g5, .slice p5 l5 c5]) (by simp [results, Tryz.results27, go_sem, r0, r1]) rfl ⟨_, _, _, _, rfl, I1.out, HBW.out⟩
theorem hOutInt_want (w : World) (u : Value) (z : Int) (hz : (ds z.natAbs).length ≤ 400) (h : INum w u z) : Calls Tryz.prog 27 #[u] w fun e w' => ∃ v', e = .returned v' ∧ RINum w' v' z ∧ Below w.heap.size w w' := by
  obtain ⟨g, s, p, l, c, rfl, h⟩ := h
  exact (hOutInt_any z g s p l c w hz h).mono fun _ _ h => h.want
end Go.Proofs.YtjjhkmdeamoifaaGreatDoor

/- WholeSums: any two integers are added, taken away, multiplied and compared as the document says. -/
namespace Go.Proofs.YtjjhkmdeamoifaaGreatDoor
open Go.RowKit

set_option maxRecDepth 100000 in
set_option maxHeartbeats 2000000 in
theorem is2_any (z : Int) (g g2 : Bool) (s : Int) (p p2 : Option Addr) (l c l2 c2 : Nat) (w : World) (hz : (ds z.natAbs).length ≤ 400) (h1 : IsI w g s p l c z) (h2 : IsRI w g2 p2 l2 c2 z) :
    Calls Tryz.prog 6 #[.agg #[.bool g, .int .u64 s, .slice p l c], .agg #[.bool g2, .slice p2 l2 c2]] w fun e w' => e = .returned (.bool true) ∧ Below w.heap.size w w' := by
  have HZ := Lib.hid hz; have H := Lib.hid h1; have H2 := Lib.hid h2
  clear h1 h2 hz
  go_enter Tryz.func6, Tryz.ntmps6
  obtain ⟨W, hW⟩ : ∃ W, W = (w.alloc (.cells #[.bool g, .int .u64 s, .slice p l c] 28)).alloc (.cells #[.bool g2, .slice p2 l2 c2] 32) := ⟨_, rfl⟩
  obtain ⟨b, hb⟩ : ∃ r, r = w.heap.size + 1 := ⟨_, rfl⟩
  obtain ⟨a, ha⟩ : ∃ a, a = w.heap.size := ⟨_, rfl⟩
  have HB : Below w.heap.size w W := by rw [hW]; exact below_alloc (below_alloc (Below.refl _ _) _) _
  have A0 : W.cell? ⟨a, 0, none⟩ = some (.bool g) := by simp [hW, ha, go_sem]
  have A1 : W.cell? ⟨a, 1, none⟩ = some (.int .u64 s) := by simp [hW, ha, go_sem]
  have A2 : W.cell? ⟨a, 2, none⟩ = some (.slice p l c) := by simp [hW, ha, go_sem]
  have B0 : W.cell? ⟨b, 0, none⟩ = some (.bool g2) := by simp [hW, hb, go_sem]
  have B1 : W.cell? ⟨b, 1, none⟩ = some (.slice p2 l2 c2) := by simp [hW, hb, go_sem]
  go_wp2_with fail
  rw [← hW]
  clear A0 A1 A2
  refine (hOutInt_any z g s p l c W HZ.out (H.out.mono HB)).mono ?_
  rintro e w1 ⟨g5, p5, l5, c5, rfl, hI, hb'⟩
  have B0 := wcell hb' B0; have B1 := wcell hb' B1
  obtain ⟨k1, n1⟩ := hI
  obtain ⟨k2, n2⟩ := H2.out
  obtain rfl : g5 = g2 := k1.trans k2.symm
  have h5 := n1.short HZ.out
  have HC := Lib.hid (fun W a b => rCmp_any p5 p2 l5 l2 c5 c2 z.natAbs z.natAbs W (by omega) a b)
  unfold RetC at HC
  rw [cmp3_eq] at HC
  have N1 := Lib.hid n1; have N2 := Lib.hid ((n2.mono HB).mono hb')
  have HB := Lib.hid (below_step HB hb')
  have C0 : (w1.alloc (.cells #[.bool g5, .slice p5 l5 c5] 32)).cell? ⟨w.heap.size + 1, 0, none⟩ = some (.bool g5) := by rw [← hb]; exact wcell (below_alloc (Below.refl _ _) _) B0
  have C1 : (w1.alloc (.cells #[.bool g5, .slice p5 l5 c5] 32)).cell? ⟨w.heap.size + 1, 1, none⟩ = some (.slice p2 l2 c2) := by rw [← hb]; exact wcell (below_alloc (Below.refl _ _) _) B1
  clear k1 k2 n1 n2 h5 hb' hW B0 B1 hb ha
  go_wp2_with fail
  refine (HC.out _ (N1.out.mono (below_alloc (Below.refl _ _) _)) (N2.out.mono (below_alloc (Below.refl _ _) _))).mono ?_
  rintro e w2 ⟨rfl, hb⟩
  have HB := Lib.hid (below_step HB.out (below_step (below_alloc (Below.refl _ _) _) hb))
  clear hb C0 C1
  go_wp2
  go_ret
  exact ⟨rfl, HB.out⟩
theorem is2_want (w : World) (u v : Value) (z : Int) (hz : (ds z.natAbs).length ≤ 400) (h1 : INum w u z) (h2 : RINum w v z) :
    Calls Tryz.prog 6 #[u, v] w fun e w' => ∃ v', e = .returned v' ∧ v' = .bool true ∧ Below w.heap.size w w' := by
  obtain ⟨g, s, p, l, c, rfl, h1⟩ := h1
  obtain ⟨f, q, k, d, rfl, h2⟩ := h2
  exact (is2_any z g f s p q l c k d w hz h1 h2).mono fun _ _ ⟨h, hb⟩ => ⟨_, h, rfl, hb⟩
theorem run_rIAdd : RowKit.Hid (∀ (a : Array Value) (w : World), Sem.run Tryz.prog (callFunc 8 a) w = .ok (.enter 8 a) w) := fun a w => by go_simp
theorem run_rISub : RowKit.Hid (∀ (a : Array Value) (w : World), Sem.run Tryz.prog (callFunc 10 a) w = .ok (.enter 10 a) w) := fun a w => by go_simp
theorem run_rIMul : RowKit.Hid (∀ (a : Array Value) (w : World), Sem.run Tryz.prog (callFunc 12 a) w = .ok (.enter 12 a) w) := fun a w => by go_simp
theorem run_rINeg : RowKit.Hid (∀ (a : Array Value) (w : World), Sem.run Tryz.prog (callFunc 16 a) w = .ok (.enter 16 a) w) := fun a w => by go_simp
theorem run_rICmp : RowKit.Hid (∀ (a : Array Value) (w : World), Sem.run Tryz.prog (callFunc 14 a) w = .ok (.enter 14 a) w) := fun a w => by go_simp
theorem run_rISign : RowKit.Hid (∀ (a : Array Value) (w : World), Sem.run Tryz.prog (callFunc 18 a) w = .ok (.enter 18 a) w) := fun a w => by go_simp
theorem run_is2 : RowKit.Hid (∀ (a : Array Value) (w : World), Sem.run Tryz.prog (callFunc 6 a) w = .ok (.enter 6 a) w) := fun a w => by go_simp

/-- The boxes of the four results of 'two'. -/
theorem boxes4i (w : World) (g1 g2 g3 g4 : Bool) (s1 s2 : Int) (p1 p2 p3 p4 : Option Addr) (l1 c1 l2 c2 l3 c3 l4 c4 : Nat) :
    ∃ W a b c d, W = (((w.alloc (.cells #[.bool g1, .int .u64 s1, .slice p1 l1 c1] 28)).alloc (.cells #[.bool g2, .int .u64 s2, .slice p2 l2 c2] 28)).alloc (.cells #[.bool g3, .slice p3 l3 c3] 32)).alloc (.cells #[.bool g4, .slice p4 l4 c4] 32) ∧ d = w.heap.size + 1 + 1 + 1 ∧ c = w.heap.size + 1 + 1 ∧ b = w.heap.size + 1 ∧ a = w.heap.size ∧
      Box W a g1 s1 p1 l1 c1 ∧ Box W b g2 s2 p2 l2 c2 ∧ RBox W c g3 p3 l3 c3 ∧ RBox W d g4 p4 l4 c4 ∧ Below w.heap.size w W := by
  refine ⟨_, _, _, _, _, rfl, rfl, rfl, rfl, rfl, ⟨?_, ?_, ?_⟩, ⟨?_, ?_, ?_⟩, ⟨?_, ?_⟩, ⟨?_, ?_⟩, below_alloc (below_alloc (below_alloc (below_alloc (Below.refl _ _) _) _) _) _⟩
  all_goals simp [go_sem]

set_option maxRecDepth 100000 in
set_option maxHeartbeats 8000000 in
theorem wsums_any (p q : Option Addr) (l c k d : Nat) (f g : Bool) (xs ys : List Nat) (w : World) (h1 : IsB w p l c xs) (h2 : IsB w q k d ys) :
    Calls Tryz.prog 3 #[.slice p l c, .slice q k d, .bool f, .bool g] w fun e w' => e = .returned (.bool true) ∧ Below w.heap.size w w' := by
  have sx : (ds (sgn f (nb (xs.take 40))).natAbs).length ≤ 5 := by rw [sgn_abs]; exact ds_nb40 xs h1.2.1
  have sy : (ds (sgn g (nb (ys.take 40))).natAbs).length ≤ 5 := by rw [sgn_abs]; exact ds_nb40 ys h2.2.1
  have T1 := Lib.hid (fun W a b => two2_any p q l c k d xs ys f g W a b)
  have H1 := Lib.hid h1; have H2 := Lib.hid h2
  generalize sgn f (nb (xs.take 40)) = x at *
  generalize sgn g (nb (ys.take 40)) = y at *
  clear h1 h2
  go_enter Tryz.func3, Tryz.ntmps3
  go_wp2_with fail
  refine (T1.out _ H1.out H2.out).mono ?_
  rintro e w1 ⟨g1, s1, p1, l1, c1, g2, s2, p2, l2, c2, g3, p3, l3, c3, g4, p4, l4, c4, rfl, i1, i2, i3, i4, hb⟩
  have I1 := Lib.hid i1; have I2 := Lib.hid i2; have I3 := Lib.hid i3; have I4 := Lib.hid i4; have HB := Lib.hid hb
  clear i1 i2 i3 i4 hb T1
  obtain ⟨V, a, b, a', b', hV, h4, h3, h2, h1, BA, BB, BC, BD, hb⟩ := boxes4i w1 g1 g2 g3 g4 s1 s2 p1 p2 p3 p4 l1 c1 l2 c2 l3 c3 l4 c4
  have BA := Lib.hid BA; have BB := Lib.hid BB; have BC := Lib.hid BC; have BD := Lib.hid BD
  go_wp2
  rw [← hV, ← h4, ← h3, ← h2, ← h1]
  have I1 := Lib.hid (I1.out.mono hb); have I2 := Lib.hid (I2.out.mono hb); have I3 := Lib.hid (I3.out.mono hb); have I4 := Lib.hid (I4.out.mono hb); have HB := Lib.hid (below_step HB.out hb)
  clear hV h4 h3 h2 h1 hb
  have := ds_natAbs_add x y
  have := ds_natAbs_sub x y
  have := ds_natAbs_mul x y
  have := ds_neg x
  refine region_told (T := [0, 1, 2, 3, 4, 5, 6, 7, 8, 9, 10, 11, 12, 13, 14, 15, 16, 17, 18, 19, 20, 21, 22, 23, 24, 25, 26, 27, 28, 29, 30, 31, 32, 33, 34, 35, 36, 37, 38, 39, 40, 41, 42, 43, 44, 45, 46, 47, 48, 49, 50, 51]) (slots := [23, 24, 25, 26, 27, 28, 29, 30, 31, 32, 33, 34, 35, 36, 37, 38, 39, 40, 41, 42, 43, 44, 45, 46, 47, 48, 49, 50, 51, 52, 53, 54, 55, 56, 57, 58, 59, 60, 61, 62, 63, 64, 65, 66, 67, 68, 69, 70, 71, 72, 73, 8])
      (tab := [.is (.bool true), .is (.bool true), .int x, .int y, .int (x + y), .rint x, .rint y, .rint (x + y), .is (.bool true), .is (.bool true), .is (.bool true), .int x, .int y, .int (x - y), .rint x, .rint y, .rint (x - y), .is (.bool true), .is (.bool true), .is (.bool true), .int x, .int y, .int (x * y), .rint x, .rint y, .rint (x * y), .is (.bool true), .is (.bool true), .is (.bool true), .int x, .int y, .is (.int .i64 (cmp3 x y)), .rint x, .rint y, .is (.int .i64 (cmp3 x y)), .is (.bool true), .is (.bool true), .is (.bool true), .int x, .int (-x), .rint x, .rint (-x), .is (.bool true), .is (.bool true), .is (.bool true), .int x, .is (.int .i64 (cmp3 x 0)), .rint x, .is (.int .i64 (cmp3 x 0)), .is (.bool true), .is (.bool true), .is (.bool true)])
      (D := [])
      (F := [(.agg #[.bool g1, .int .u64 s1, .slice p1 l1 c1], .int x), (.agg #[.bool g2, .int .u64 s2, .slice p2 l2 c2], .int y), (.agg #[.bool g3, .slice p3 l3 c3], .rint x), (.agg #[.bool g4, .slice p4 l4 c4], .rint y)])
      (by kernel_rfl) (by kernel_rfl) (by kernel_rfl) (by kernel_rfl) (by kernel_rfl) (by kernel_rfl) (by kernel_rfl) ?_ ?_ ?_ ?_ ?_
  · exact List.Pairwise.nil
  · intro f hf; simp only [List.mem_cons, List.not_mem_nil, or_false] at hf; rcases hf with rfl | rfl | rfl | rfl
    · exact ⟨_, _, _, _, _, rfl, I1.out⟩
    · exact ⟨_, _, _, _, _, rfl, I2.out⟩
    · exact ⟨_, _, _, _, rfl, I3.out⟩
    · exact ⟨_, _, _, _, rfl, I4.out⟩
  · intro x hx; cases hx
  · skip
    refine AllTold.cons rfl (fun β E W hA hF hc hf hE hV hP hB hS => Or.inl ⟨rfl, (by kernel_rfl), ?_⟩) ?_
    · clear hE hV hP hB hS
      exact ev_call0 (hf _) run_known2 ((known2_any W).mono fun e w' ⟨h1, h2⟩ => ⟨_, h1, rfl, h2⟩)
    refine AllTold.cons rfl (fun β E W hA hF hc hf hE hV hP hB hS => Or.inl ⟨rfl, (by kernel_rfl), ?_⟩) ?_
    · have e1 : E (.tmp 23) = (.bool true) := hV 0 23 (by kernel_rfl) rfl
      clear hE hV hP hB hS
      exact ev_move _ e1
    refine AllTold.cons rfl (fun β E W hA hF hc hf hE hV hP hB hS => Or.inl ⟨wanted_of (d := 24) (b := true) rfl (by kernel_rfl) (hV 1 24 (by kernel_rfl) rfl), (by kernel_rfl), ?_⟩) ?_
    · have e1 : E (.tmp 9) = .pointer (some ⟨a, 0, none⟩) := hE 9 (by kernel_rfl)
      have q0 := hA.cell BA.out.1 (by intro h; cases h)
      have q1 := hA.cell BA.out.2.1 (by intro h; cases h)
      have q2 := hA.cell BA.out.2.2 (by intro h; cases h)
      clear hE hV hP hB hS
      exact ev_loadI e1 q0 q1 q2 (hF (_, _) (List.mem_cons_self ..))
    refine AllTold.cons rfl (fun β E W hA hF hc hf hE hV hP hB hS => Or.inl ⟨wanted_of (d := 24) (b := true) rfl (by kernel_rfl) (hV 1 24 (by kernel_rfl) rfl), (by kernel_rfl), ?_⟩) ?_
    · have e1 : E (.tmp 10) = .pointer (some ⟨b, 0, none⟩) := hE 10 (by kernel_rfl)
      have q0 := hA.cell BB.out.1 (by intro h; cases h)
      have q1 := hA.cell BB.out.2.1 (by intro h; cases h)
      have q2 := hA.cell BB.out.2.2 (by intro h; cases h)
      clear hE hV hP hB hS
      exact ev_loadI e1 q0 q1 q2 (hF (_, _) (List.mem_cons_of_mem _ (List.mem_cons_self ..)))
    refine AllTold.cons rfl (fun β E W hA hF hc hf hE hV hP hB hS => Or.inl ⟨wanted_of (d := 24) (b := true) rfl (by kernel_rfl) (hV 1 24 (by kernel_rfl) rfl), (by kernel_rfl), ?_⟩) ?_
    · have e1 : Means W (.int x) (E (.tmp 25)) := hV 2 25 (by kernel_rfl) rfl
      have e2 : Means W (.int y) (E (.tmp 26)) := hV 3 26 (by kernel_rfl) rfl
      clear hE hV hP hB hS
      exact ev_call2 (hf _) run_iAdd ((iAdd_want W _ _ x y (by omega) (by omega) e1 e2).mono fun e w' ⟨v, h1, h2, h3⟩ => ⟨v, h1, h2, h3⟩)
    refine AllTold.cons rfl (fun β E W hA hF hc hf hE hV hP hB hS => Or.inl ⟨wanted_of (d := 24) (b := true) rfl (by kernel_rfl) (hV 1 24 (by kernel_rfl) rfl), (by kernel_rfl), ?_⟩) ?_
    · have e1 : E (.tmp 11) = .pointer (some ⟨a', 0, none⟩) := hE 11 (by kernel_rfl)
      have q0 := hA.cell BC.out.1 (by intro h; cases h)
      have q1 := hA.cell BC.out.2 (by intro h; cases h)
      clear hE hV hP hB hS
      exact Does.value (v := .agg #[.bool g3, .slice p3 l3 c3]) (w' := W) (by go_simp) ⟨hF (_, _) (List.mem_cons_of_mem _ (List.mem_cons_of_mem _ (List.mem_cons_self ..))), Below.refl _ _⟩
    refine AllTold.cons rfl (fun β E W hA hF hc hf hE hV hP hB hS => Or.inl ⟨wanted_of (d := 24) (b := true) rfl (by kernel_rfl) (hV 1 24 (by kernel_rfl) rfl), (by kernel_rfl), ?_⟩) ?_
    · have e1 : E (.tmp 12) = .pointer (some ⟨b', 0, none⟩) := hE 12 (by kernel_rfl)
      have q0 := hA.cell BD.out.1 (by intro h; cases h)
      have q1 := hA.cell BD.out.2 (by intro h; cases h)
      clear hE hV hP hB hS
      exact Does.value (v := .agg #[.bool g4, .slice p4 l4 c4]) (w' := W) (by go_simp) ⟨hF (_, _) (List.mem_cons_of_mem _ (List.mem_cons_of_mem _ (List.mem_cons_of_mem _ (List.mem_cons_self ..)))), Below.refl _ _⟩
    refine AllTold.cons rfl (fun β E W hA hF hc hf hE hV hP hB hS => Or.inl ⟨wanted_of (d := 24) (b := true) rfl (by kernel_rfl) (hV 1 24 (by kernel_rfl) rfl), (by kernel_rfl), ?_⟩) ?_
    · have e1 : Means W (.rint x) (E (.tmp 28)) := hV 5 28 (by kernel_rfl) rfl
      have e2 : Means W (.rint y) (E (.tmp 29)) := hV 6 29 (by kernel_rfl) rfl
      clear hE hV hP hB hS
      exact ev_call2 (hf _) run_rIAdd ((rIAdd_want W _ _ x y (by omega) (by omega) e1 e2).mono fun e w' ⟨v, h1, h2, h3⟩ => ⟨v, h1, h2, h3⟩)
    refine AllTold.cons rfl (fun β E W hA hF hc hf hE hV hP hB hS => Or.inl ⟨wanted_of (d := 24) (b := true) rfl (by kernel_rfl) (hV 1 24 (by kernel_rfl) rfl), (by kernel_rfl), ?_⟩) ?_
    · have e1 : Means W (.int (x + y)) (E (.tmp 27)) := hV 4 27 (by kernel_rfl) rfl
      have e2 : Means W (.rint (x + y)) (E (.tmp 30)) := hV 7 30 (by kernel_rfl) rfl
      clear hE hV hP hB hS
      exact ev_call2 (hf _) run_is2 ((is2_want W _ _ (x + y) (by omega) e1 e2).mono fun e w' ⟨v, h1, h2, h3⟩ => ⟨v, h1, h2, h3⟩)
    refine AllTold.cons rfl (fun β E W hA hF hc hf hE hV hP hB hS => Or.inl ⟨rfl, (by kernel_rfl), ?_⟩) ?_
    · have e1 : E (.tmp 24) = (.bool true) := hV 1 24 (by kernel_rfl) rfl
      have e2 : E (.tmp 31) = (.bool true) := hV 8 31 (by kernel_rfl) rfl
      clear hE hV hP hB hS
      exact ev_pick e1 e2
    refine AllTold.cons rfl (fun β E W hA hF hc hf hE hV hP hB hS => Or.inl ⟨rfl, (by kernel_rfl), ?_⟩) ?_
    · have e1 : E (.tmp 32) = (.bool true) := hV 9 32 (by kernel_rfl) rfl
      clear hE hV hP hB hS
      exact ev_move _ e1
    refine AllTold.cons rfl (fun β E W hA hF hc hf hE hV hP hB hS => Or.inl ⟨wanted_of (d := 33) (b := true) rfl (by kernel_rfl) (hV 10 33 (by kernel_rfl) rfl), (by kernel_rfl), ?_⟩) ?_
    · have e1 : E (.tmp 9) = .pointer (some ⟨a, 0, none⟩) := hE 9 (by kernel_rfl)
      have q0 := hA.cell BA.out.1 (by intro h; cases h)
      have q1 := hA.cell BA.out.2.1 (by intro h; cases h)
      have q2 := hA.cell BA.out.2.2 (by intro h; cases h)
      clear hE hV hP hB hS
      exact ev_loadI e1 q0 q1 q2 (hF (_, _) (List.mem_cons_self ..))
    refine AllTold.cons rfl (fun β E W hA hF hc hf hE hV hP hB hS => Or.inl ⟨wanted_of (d := 33) (b := true) rfl (by kernel_rfl) (hV 10 33 (by kernel_rfl) rfl), (by kernel_rfl), ?_⟩) ?_
    · have e1 : E (.tmp 10) = .pointer (some ⟨b, 0, none⟩) := hE 10 (by kernel_rfl)
      have q0 := hA.cell BB.out.1 (by intro h; cases h)
      have q1 := hA.cell BB.out.2.1 (by intro h; cases h)
      have q2 := hA.cell BB.out.2.2 (by intro h; cases h)
      clear hE hV hP hB hS
      exact ev_loadI e1 q0 q1 q2 (hF (_, _) (List.mem_cons_of_mem _ (List.mem_cons_self ..)))
    refine AllTold.cons rfl (fun β E W hA hF hc hf hE hV hP hB hS => Or.inl ⟨wanted_of (d := 33) (b := true) rfl (by kernel_rfl) (hV 10 33 (by kernel_rfl) rfl), (by kernel_rfl), ?_⟩) ?_
    · have e1 : Means W (.int x) (E (.tmp 34)) := hV 11 34 (by kernel_rfl) rfl
      have e2 : Means W (.int y) (E (.tmp 35)) := hV 12 35 (by kernel_rfl) rfl
      clear hE hV hP hB hS
      exact ev_call2 (hf _) run_iSub ((iSub_want W _ _ x y (by omega) (by omega) e1 e2).mono fun e w' ⟨v, h1, h2, h3⟩ => ⟨v, h1, h2, h3⟩)
    refine AllTold.cons rfl (fun β E W hA hF hc hf hE hV hP hB hS => Or.inl ⟨wanted_of (d := 33) (b := true) rfl (by kernel_rfl) (hV 10 33 (by kernel_rfl) rfl), (by kernel_rfl), ?_⟩) ?_
    · have e1 : E (.tmp 11) = .pointer (some ⟨a', 0, none⟩) := hE 11 (by kernel_rfl)
      have q0 := hA.cell BC.out.1 (by intro h; cases h)
      have q1 := hA.cell BC.out.2 (by intro h; cases h)
      clear hE hV hP hB hS
      exact Does.value (v := .agg #[.bool g3, .slice p3 l3 c3]) (w' := W) (by go_simp) ⟨hF (_, _) (List.mem_cons_of_mem _ (List.mem_cons_of_mem _ (List.mem_cons_self ..))), Below.refl _ _⟩
    refine AllTold.cons rfl (fun β E W hA hF hc hf hE hV hP hB hS => Or.inl ⟨wanted_of (d := 33) (b := true) rfl (by kernel_rfl) (hV 10 33 (by kernel_rfl) rfl), (by kernel_rfl), ?_⟩) ?_
    · have e1 : E (.tmp 12) = .pointer (some ⟨b', 0, none⟩) := hE 12 (by kernel_rfl)
      have q0 := hA.cell BD.out.1 (by intro h; cases h)
      have q1 := hA.cell BD.out.2 (by intro h; cases h)
      clear hE hV hP hB hS
      exact Does.value (v := .agg #[.bool g4, .slice p4 l4 c4]) (w' := W) (by go_simp) ⟨hF (_, _) (List.mem_cons_of_mem _ (List.mem_cons_of_mem _ (List.mem_cons_of_mem _ (List.mem_cons_self ..)))), Below.refl _ _⟩
    refine AllTold.cons rfl (fun β E W hA hF hc hf hE hV hP hB hS => Or.inl ⟨wanted_of (d := 33) (b := true) rfl (by kernel_rfl) (hV 10 33 (by kernel_rfl) rfl), (by kernel_rfl), ?_⟩) ?_
    · have e1 : Means W (.rint x) (E (.tmp 37)) := hV 14 37 (by kernel_rfl) rfl
      have e2 : Means W (.rint y) (E (.tmp 38)) := hV 15 38 (by kernel_rfl) rfl
      clear hE hV hP hB hS
      exact ev_call2 (hf _) run_rISub ((rISub_want W _ _ x y (by omega) (by omega) e1 e2).mono fun e w' ⟨v, h1, h2, h3⟩ => ⟨v, h1, h2, h3⟩)
    refine AllTold.cons rfl (fun β E W hA hF hc hf hE hV hP hB hS => Or.inl ⟨wanted_of (d := 33) (b := true) rfl (by kernel_rfl) (hV 10 33 (by kernel_rfl) rfl), (by kernel_rfl), ?_⟩) ?_
    · have e1 : Means W (.int (x - y)) (E (.tmp 36)) := hV 13 36 (by kernel_rfl) rfl
      have e2 : Means W (.rint (x - y)) (E (.tmp 39)) := hV 16 39 (by kernel_rfl) rfl
      clear hE hV hP hB hS
      exact ev_call2 (hf _) run_is2 ((is2_want W _ _ (x - y) (by omega) e1 e2).mono fun e w' ⟨v, h1, h2, h3⟩ => ⟨v, h1, h2, h3⟩)
    refine AllTold.cons rfl (fun β E W hA hF hc hf hE hV hP hB hS => Or.inl ⟨rfl, (by kernel_rfl), ?_⟩) ?_
    · have e1 : E (.tmp 33) = (.bool true) := hV 10 33 (by kernel_rfl) rfl
      have e2 : E (.tmp 40) = (.bool true) := hV 17 40 (by kernel_rfl) rfl
      clear hE hV hP hB hS
      exact ev_pick e1 e2
    refine AllTold.cons rfl (fun β E W hA hF hc hf hE hV hP hB hS => Or.inl ⟨rfl, (by kernel_rfl), ?_⟩) ?_
    · have e1 : E (.tmp 41) = (.bool true) := hV 18 41 (by kernel_rfl) rfl
      clear hE hV hP hB hS
      exact ev_move _ e1
    refine AllTold.cons rfl (fun β E W hA hF hc hf hE hV hP hB hS => Or.inl ⟨wanted_of (d := 42) (b := true) rfl (by kernel_rfl) (hV 19 42 (by kernel_rfl) rfl), (by kernel_rfl), ?_⟩) ?_
    · have e1 : E (.tmp 9) = .pointer (some ⟨a, 0, none⟩) := hE 9 (by kernel_rfl)
      have q0 := hA.cell BA.out.1 (by intro h; cases h)
      have q1 := hA.cell BA.out.2.1 (by intro h; cases h)
      have q2 := hA.cell BA.out.2.2 (by intro h; cases h)
      clear hE hV hP hB hS
      exact ev_loadI e1 q0 q1 q2 (hF (_, _) (List.mem_cons_self ..))
    refine AllTold.cons rfl (fun β E W hA hF hc hf hE hV hP hB hS => Or.inl ⟨wanted_of (d := 42) (b := true) rfl (by kernel_rfl) (hV 19 42 (by kernel_rfl) rfl), (by kernel_rfl), ?_⟩) ?_
    · have e1 : E (.tmp 10) = .pointer (some ⟨b, 0, none⟩) := hE 10 (by kernel_rfl)
      have q0 := hA.cell BB.out.1 (by intro h; cases h)
      have q1 := hA.cell BB.out.2.1 (by intro h; cases h)
      have q2 := hA.cell BB.out.2.2 (by intro h; cases h)
      clear hE hV hP hB hS
      exact ev_loadI e1 q0 q1 q2 (hF (_, _) (List.mem_cons_of_mem _ (List.mem_cons_self ..)))
    refine AllTold.cons rfl (fun β E W hA hF hc hf hE hV hP hB hS => Or.inl ⟨wanted_of (d := 42) (b := true) rfl (by kernel_rfl) (hV 19 42 (by kernel_rfl) rfl), (by kernel_rfl), ?_⟩) ?_
    · have e1 : Means W (.int x) (E (.tmp 43)) := hV 20 43 (by kernel_rfl) rfl
      have e2 : Means W (.int y) (E (.tmp 44)) := hV 21 44 (by kernel_rfl) rfl
      clear hE hV hP hB hS
      exact ev_call2 (hf _) run_iMul ((iMul_want W _ _ x y (by omega) (by omega) e1 e2).mono fun e w' ⟨v, h1, h2, h3⟩ => ⟨v, h1, h2, h3⟩)
    refine AllTold.cons rfl (fun β E W hA hF hc hf hE hV hP hB hS => Or.inl ⟨wanted_of (d := 42) (b := true) rfl (by kernel_rfl) (hV 19 42 (by kernel_rfl) rfl), (by kernel_rfl), ?_⟩) ?_
    · have e1 : E (.tmp 11) = .pointer (some ⟨a', 0, none⟩) := hE 11 (by kernel_rfl)
      have q0 := hA.cell BC.out.1 (by intro h; cases h)
      have q1 := hA.cell BC.out.2 (by intro h; cases h)
      clear hE hV hP hB hS
      exact Does.value (v := .agg #[.bool g3, .slice p3 l3 c3]) (w' := W) (by go_simp) ⟨hF (_, _) (List.mem_cons_of_mem _ (List.mem_cons_of_mem _ (List.mem_cons_self ..))), Below.refl _ _⟩
    refine AllTold.cons rfl (fun β E W hA hF hc hf hE hV hP hB hS => Or.inl ⟨wanted_of (d := 42) (b := true) rfl (by kernel_rfl) (hV 19 42 (by kernel_rfl) rfl), (by kernel_rfl), ?_⟩) ?_
    · have e1 : E (.tmp 12) = .pointer (some ⟨b', 0, none⟩) := hE 12 (by kernel_rfl)
      have q0 := hA.cell BD.out.1 (by intro h; cases h)
      have q1 := hA.cell BD.out.2 (by intro h; cases h)
      clear hE hV hP hB hS
      exact Does.value (v := .agg #[.bool g4, .slice p4 l4 c4]) (w' := W) (by go_simp) ⟨hF (_, _) (List.mem_cons_of_mem _ (List.mem_cons_of_mem _ (List.mem_cons_of_mem _ (List.mem_cons_self ..)))), Below.refl _ _⟩
    refine AllTold.cons rfl (fun β E W hA hF hc hf hE hV hP hB hS => Or.inl ⟨wanted_of (d := 42) (b := true) rfl (by kernel_rfl) (hV 19 42 (by kernel_rfl) rfl), (by kernel_rfl), ?_⟩) ?_
    · have e1 : Means W (.rint x) (E (.tmp 46)) := hV 23 46 (by kernel_rfl) rfl
      have e2 : Means W (.rint y) (E (.tmp 47)) := hV 24 47 (by kernel_rfl) rfl
      clear hE hV hP hB hS
      exact ev_call2 (hf _) run_rIMul ((rIMul_want W _ _ x y (by omega) (by omega) e1 e2).mono fun e w' ⟨v, h1, h2, h3⟩ => ⟨v, h1, h2, h3⟩)
    refine AllTold.cons rfl (fun β E W hA hF hc hf hE hV hP hB hS => Or.inl ⟨wanted_of (d := 42) (b := true) rfl (by kernel_rfl) (hV 19 42 (by kernel_rfl) rfl), (by kernel_rfl), ?_⟩) ?_
    · have e1 : Means W (.int (x * y)) (E (.tmp 45)) := hV 22 45 (by kernel_rfl) rfl
      have e2 : Means W (.rint (x * y)) (E (.tmp 48)) := hV 25 48 (by kernel_rfl) rfl
      clear hE hV hP hB hS
      exact ev_call2 (hf _) run_is2 ((is2_want W _ _ (x * y) (by omega) e1 e2).mono fun e w' ⟨v, h1, h2, h3⟩ => ⟨v, h1, h2, h3⟩)
    refine AllTold.cons rfl (fun β E W hA hF hc hf hE hV hP hB hS => Or.inl ⟨rfl, (by kernel_rfl), ?_⟩) ?_
    · have e1 : E (.tmp 42) = (.bool true) := hV 19 42 (by kernel_rfl) rfl
      have e2 : E (.tmp 49) = (.bool true) := hV 26 49 (by kernel_rfl) rfl
      clear hE hV hP hB hS
      exact ev_pick e1 e2
    refine AllTold.cons rfl (fun β E W hA hF hc hf hE hV hP hB hS => Or.inl ⟨rfl, (by kernel_rfl), ?_⟩) ?_
    · have e1 : E (.tmp 50) = (.bool true) := hV 27 50 (by kernel_rfl) rfl
      clear hE hV hP hB hS
      exact ev_move _ e1
    refine AllTold.cons rfl (fun β E W hA hF hc hf hE hV hP hB hS => Or.inl ⟨wanted_of (d := 51) (b := true) rfl (by kernel_rfl) (hV 28 51 (by kernel_rfl) rfl), (by kernel_rfl), ?_⟩) ?_
    · have e1 : E (.tmp 9) = .pointer (some ⟨a, 0, none⟩) := hE 9 (by kernel_rfl)
      have q0 := hA.cell BA.out.1 (by intro h; cases h)
      have q1 := hA.cell BA.out.2.1 (by intro h; cases h)
      have q2 := hA.cell BA.out.2.2 (by intro h; cases h)
      clear hE hV hP hB hS
      exact ev_loadI e1 q0 q1 q2 (hF (_, _) (List.mem_cons_self ..))
    refine AllTold.cons rfl (fun β E W hA hF hc hf hE hV hP hB hS => Or.inl ⟨wanted_of (d := 51) (b := true) rfl (by kernel_rfl) (hV 28 51 (by kernel_rfl) rfl), (by kernel_rfl), ?_⟩) ?_
    · have e1 : E (.tmp 10) = .pointer (some ⟨b, 0, none⟩) := hE 10 (by kernel_rfl)
      have q0 := hA.cell BB.out.1 (by intro h; cases h)
      have q1 := hA.cell BB.out.2.1 (by intro h; cases h)
      have q2 := hA.cell BB.out.2.2 (by intro h; cases h)
      clear hE hV hP hB hS
      exact ev_loadI e1 q0 q1 q2 (hF (_, _) (List.mem_cons_of_mem _ (List.mem_cons_self ..)))
    refine AllTold.cons rfl (fun β E W hA hF hc hf hE hV hP hB hS => Or.inl ⟨wanted_of (d := 51) (b := true) rfl (by kernel_rfl) (hV 28 51 (by kernel_rfl) rfl), (by kernel_rfl), ?_⟩) ?_
    · have e1 : Means W (.int x) (E (.tmp 52)) := hV 29 52 (by kernel_rfl) rfl
      have e2 : Means W (.int y) (E (.tmp 53)) := hV 30 53 (by kernel_rfl) rfl
      clear hE hV hP hB hS
      exact ev_call2 (hf _) run_iCmp ((iCmp_val W _ _ x y (cmp3 x y) rfl (by omega) (by omega) e1 e2).mono fun e w' ⟨v, h1, h2, h3⟩ => ⟨v, h1, h2, h3⟩)
    refine AllTold.cons rfl (fun β E W hA hF hc hf hE hV hP hB hS => Or.inl ⟨wanted_of (d := 51) (b := true) rfl (by kernel_rfl) (hV 28 51 (by kernel_rfl) rfl), (by kernel_rfl), ?_⟩) ?_
    · have e1 : E (.tmp 11) = .pointer (some ⟨a', 0, none⟩) := hE 11 (by kernel_rfl)
      have q0 := hA.cell BC.out.1 (by intro h; cases h)
      have q1 := hA.cell BC.out.2 (by intro h; cases h)
      clear hE hV hP hB hS
      exact Does.value (v := .agg #[.bool g3, .slice p3 l3 c3]) (w' := W) (by go_simp) ⟨hF (_, _) (List.mem_cons_of_mem _ (List.mem_cons_of_mem _ (List.mem_cons_self ..))), Below.refl _ _⟩
    refine AllTold.cons rfl (fun β E W hA hF hc hf hE hV hP hB hS => Or.inl ⟨wanted_of (d := 51) (b := true) rfl (by kernel_rfl) (hV 28 51 (by kernel_rfl) rfl), (by kernel_rfl), ?_⟩) ?_
    · have e1 : E (.tmp 12) = .pointer (some ⟨b', 0, none⟩) := hE 12 (by kernel_rfl)
      have q0 := hA.cell BD.out.1 (by intro h; cases h)
      have q1 := hA.cell BD.out.2 (by intro h; cases h)
      clear hE hV hP hB hS
      exact Does.value (v := .agg #[.bool g4, .slice p4 l4 c4]) (w' := W) (by go_simp) ⟨hF (_, _) (List.mem_cons_of_mem _ (List.mem_cons_of_mem _ (List.mem_cons_of_mem _ (List.mem_cons_self ..)))), Below.refl _ _⟩
    refine AllTold.cons rfl (fun β E W hA hF hc hf hE hV hP hB hS => Or.inl ⟨wanted_of (d := 51) (b := true) rfl (by kernel_rfl) (hV 28 51 (by kernel_rfl) rfl), (by kernel_rfl), ?_⟩) ?_
    · have e1 : Means W (.rint x) (E (.tmp 55)) := hV 32 55 (by kernel_rfl) rfl
      have e2 : Means W (.rint y) (E (.tmp 56)) := hV 33 56 (by kernel_rfl) rfl
      clear hE hV hP hB hS
      exact ev_call2 (hf _) run_rICmp ((rICmp_want W _ _ x y (by omega) (by omega) e1 e2).mono fun e w' ⟨v, h1, h2, h3⟩ => ⟨v, h1, h2, h3⟩)
    refine AllTold.cons rfl (fun β E W hA hF hc hf hE hV hP hB hS => Or.inl ⟨wanted_of (d := 51) (b := true) rfl (by kernel_rfl) (hV 28 51 (by kernel_rfl) rfl), (by kernel_rfl), ?_⟩) ?_
    · have e1 : E (.tmp 54) = (.int .i64 (cmp3 x y)) := hV 31 54 (by kernel_rfl) rfl
      have e2 : E (.tmp 57) = (.int .i64 (cmp3 x y)) := hV 34 57 (by kernel_rfl) rfl
      clear hE hV hP hB hS
      exact ev_eql e1 e2 (beq_self_eq_true _)
    refine AllTold.cons rfl (fun β E W hA hF hc hf hE hV hP hB hS => Or.inl ⟨rfl, (by kernel_rfl), ?_⟩) ?_
    · have e1 : E (.tmp 51) = (.bool true) := hV 28 51 (by kernel_rfl) rfl
      have e2 : E (.tmp 58) = (.bool true) := hV 35 58 (by kernel_rfl) rfl
      clear hE hV hP hB hS
      exact ev_pick e1 e2
    refine AllTold.cons rfl (fun β E W hA hF hc hf hE hV hP hB hS => Or.inl ⟨rfl, (by kernel_rfl), ?_⟩) ?_
    · have e1 : E (.tmp 59) = (.bool true) := hV 36 59 (by kernel_rfl) rfl
      clear hE hV hP hB hS
      exact ev_move _ e1
    refine AllTold.cons rfl (fun β E W hA hF hc hf hE hV hP hB hS => Or.inl ⟨wanted_of (d := 60) (b := true) rfl (by kernel_rfl) (hV 37 60 (by kernel_rfl) rfl), (by kernel_rfl), ?_⟩) ?_
    · have e1 : E (.tmp 9) = .pointer (some ⟨a, 0, none⟩) := hE 9 (by kernel_rfl)
      have q0 := hA.cell BA.out.1 (by intro h; cases h)
      have q1 := hA.cell BA.out.2.1 (by intro h; cases h)
      have q2 := hA.cell BA.out.2.2 (by intro h; cases h)
      clear hE hV hP hB hS
      exact ev_loadI e1 q0 q1 q2 (hF (_, _) (List.mem_cons_self ..))
    refine AllTold.cons rfl (fun β E W hA hF hc hf hE hV hP hB hS => Or.inl ⟨wanted_of (d := 60) (b := true) rfl (by kernel_rfl) (hV 37 60 (by kernel_rfl) rfl), (by kernel_rfl), ?_⟩) ?_
    · have e1 : Means W (.int x) (E (.tmp 61)) := hV 38 61 (by kernel_rfl) rfl
      clear hE hV hP hB hS
      exact ev_call1 (hf _) run_iNeg ((iNeg_want W _ x e1).mono fun e w' ⟨v, h1, h2, h3⟩ => ⟨v, h1, h2, h3⟩)
    refine AllTold.cons rfl (fun β E W hA hF hc hf hE hV hP hB hS => Or.inl ⟨wanted_of (d := 60) (b := true) rfl (by kernel_rfl) (hV 37 60 (by kernel_rfl) rfl), (by kernel_rfl), ?_⟩) ?_
    · have e1 : E (.tmp 11) = .pointer (some ⟨a', 0, none⟩) := hE 11 (by kernel_rfl)
      have q0 := hA.cell BC.out.1 (by intro h; cases h)
      have q1 := hA.cell BC.out.2 (by intro h; cases h)
      clear hE hV hP hB hS
      exact Does.value (v := .agg #[.bool g3, .slice p3 l3 c3]) (w' := W) (by go_simp) ⟨hF (_, _) (List.mem_cons_of_mem _ (List.mem_cons_of_mem _ (List.mem_cons_self ..))), Below.refl _ _⟩
    refine AllTold.cons rfl (fun β E W hA hF hc hf hE hV hP hB hS => Or.inl ⟨wanted_of (d := 60) (b := true) rfl (by kernel_rfl) (hV 37 60 (by kernel_rfl) rfl), (by kernel_rfl), ?_⟩) ?_
    · have e1 : Means W (.rint x) (E (.tmp 63)) := hV 40 63 (by kernel_rfl) rfl
      clear hE hV hP hB hS
      exact ev_call1 (hf _) run_rINeg ((rINeg_want W _ x e1).mono fun e w' ⟨v, h1, h2, h3⟩ => ⟨v, h1, h2, h3⟩)
    refine AllTold.cons rfl (fun β E W hA hF hc hf hE hV hP hB hS => Or.inl ⟨wanted_of (d := 60) (b := true) rfl (by kernel_rfl) (hV 37 60 (by kernel_rfl) rfl), (by kernel_rfl), ?_⟩) ?_
    · have e1 : Means W (.int (-x)) (E (.tmp 62)) := hV 39 62 (by kernel_rfl) rfl
      have e2 : Means W (.rint (-x)) (E (.tmp 64)) := hV 41 64 (by kernel_rfl) rfl
      clear hE hV hP hB hS
      exact ev_call2 (hf _) run_is2 ((is2_want W _ _ (-x) (by omega) e1 e2).mono fun e w' ⟨v, h1, h2, h3⟩ => ⟨v, h1, h2, h3⟩)
    refine AllTold.cons rfl (fun β E W hA hF hc hf hE hV hP hB hS => Or.inl ⟨rfl, (by kernel_rfl), ?_⟩) ?_
    · have e1 : E (.tmp 60) = (.bool true) := hV 37 60 (by kernel_rfl) rfl
      have e2 : E (.tmp 65) = (.bool true) := hV 42 65 (by kernel_rfl) rfl
      clear hE hV hP hB hS
      exact ev_pick e1 e2
    refine AllTold.cons rfl (fun β E W hA hF hc hf hE hV hP hB hS => Or.inl ⟨rfl, (by kernel_rfl), ?_⟩) ?_
    · have e1 : E (.tmp 66) = (.bool true) := hV 43 66 (by kernel_rfl) rfl
      clear hE hV hP hB hS
      exact ev_move _ e1
    refine AllTold.cons rfl (fun β E W hA hF hc hf hE hV hP hB hS => Or.inl ⟨wanted_of (d := 67) (b := true) rfl (by kernel_rfl) (hV 44 67 (by kernel_rfl) rfl), (by kernel_rfl), ?_⟩) ?_
    · have e1 : E (.tmp 9) = .pointer (some ⟨a, 0, none⟩) := hE 9 (by kernel_rfl)
      have q0 := hA.cell BA.out.1 (by intro h; cases h)
      have q1 := hA.cell BA.out.2.1 (by intro h; cases h)
      have q2 := hA.cell BA.out.2.2 (by intro h; cases h)
      clear hE hV hP hB hS
      exact ev_loadI e1 q0 q1 q2 (hF (_, _) (List.mem_cons_self ..))
    refine AllTold.cons rfl (fun β E W hA hF hc hf hE hV hP hB hS => Or.inl ⟨wanted_of (d := 67) (b := true) rfl (by kernel_rfl) (hV 44 67 (by kernel_rfl) rfl), (by kernel_rfl), ?_⟩) ?_
    · have e1 : Means W (.int x) (E (.tmp 68)) := hV 45 68 (by kernel_rfl) rfl
      clear hE hV hP hB hS
      exact ev_call1 (hf _) run_iSign ((iSign_val W _ x (cmp3 x 0) rfl e1).mono fun e w' ⟨v, h1, h2, h3⟩ => ⟨v, h1, h2, h3⟩)
    refine AllTold.cons rfl (fun β E W hA hF hc hf hE hV hP hB hS => Or.inl ⟨wanted_of (d := 67) (b := true) rfl (by kernel_rfl) (hV 44 67 (by kernel_rfl) rfl), (by kernel_rfl), ?_⟩) ?_
    · have e1 : E (.tmp 11) = .pointer (some ⟨a', 0, none⟩) := hE 11 (by kernel_rfl)
      have q0 := hA.cell BC.out.1 (by intro h; cases h)
      have q1 := hA.cell BC.out.2 (by intro h; cases h)
      clear hE hV hP hB hS
      exact Does.value (v := .agg #[.bool g3, .slice p3 l3 c3]) (w' := W) (by go_simp) ⟨hF (_, _) (List.mem_cons_of_mem _ (List.mem_cons_of_mem _ (List.mem_cons_self ..))), Below.refl _ _⟩
    refine AllTold.cons rfl (fun β E W hA hF hc hf hE hV hP hB hS => Or.inl ⟨wanted_of (d := 67) (b := true) rfl (by kernel_rfl) (hV 44 67 (by kernel_rfl) rfl), (by kernel_rfl), ?_⟩) ?_
    · have e1 : Means W (.rint x) (E (.tmp 70)) := hV 47 70 (by kernel_rfl) rfl
      clear hE hV hP hB hS
      exact ev_call1 (hf _) run_rISign ((rISign_want W _ x e1).mono fun e w' ⟨v, h1, h2, h3⟩ => ⟨v, h1, h2, h3⟩)
    refine AllTold.cons rfl (fun β E W hA hF hc hf hE hV hP hB hS => Or.inl ⟨wanted_of (d := 67) (b := true) rfl (by kernel_rfl) (hV 44 67 (by kernel_rfl) rfl), (by kernel_rfl), ?_⟩) ?_
    · have e1 : E (.tmp 69) = (.int .i64 (cmp3 x 0)) := hV 46 69 (by kernel_rfl) rfl
      have e2 : E (.tmp 71) = (.int .i64 (cmp3 x 0)) := hV 48 71 (by kernel_rfl) rfl
      clear hE hV hP hB hS
      exact ev_eql e1 e2 (beq_self_eq_true _)
    refine AllTold.cons rfl (fun β E W hA hF hc hf hE hV hP hB hS => Or.inl ⟨rfl, (by kernel_rfl), ?_⟩) ?_
    · have e1 : E (.tmp 67) = (.bool true) := hV 44 67 (by kernel_rfl) rfl
      have e2 : E (.tmp 72) = (.bool true) := hV 49 72 (by kernel_rfl) rfl
      clear hE hV hP hB hS
      exact ev_pick e1 e2
    refine AllTold.cons rfl (fun β E W hA hF hc hf hE hV hP hB hS => Or.inl ⟨rfl, (by kernel_rfl), ?_⟩) ?_
    · have e1 : E (.tmp 73) = (.bool true) := hV 50 73 (by kernel_rfl) rfl
      clear hE hV hP hB hS
      exact ev_assign _ e1
    exact AllTold.nil
  · intro β f' W' hf hS hN hA _ _ _ _
    have e8 : f' 8 = .bool true := hf (51, 8) (by simp)
    have HB := Lib.hid (below_step HB.out hA.below0)
    clear hf hS hN hA
    simp only [fillSlots, e8, List.setIfInBounds_toArray, List.set_cons_succ, List.set_cons_zero]
    go_wp2
    go_ret
    exact ⟨rfl, HB.out⟩
end Go.Proofs.YtjjhkmdeamoifaaGreatDoor
