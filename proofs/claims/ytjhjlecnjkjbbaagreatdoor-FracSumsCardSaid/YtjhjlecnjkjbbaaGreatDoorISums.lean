/- The document's integers: signs, sums, products, comparisons; the document's integer of a program's; whether a program's integer is the document's. -/
import Derived.Test.YtjhjlecnjkjbbaaGreatDoorLaw2
import Derived.Test.YtjhjlecnjkjbbaaGreatDoorRefProd
import Derived.Test.YtjhjlecnjkjbbaaGreatDoorRefCmp
namespace Go.Proofs.YtjhjlecnjkjbbaaGreatDoor
open Go.RowKit

theorem RetRI.want {W w' : World} {z : Int} {e : Ending} (h : RetRI W z e w') : ∃ v, e = .returned v ∧ RINum w' v z ∧ Below W.heap.size W w' := by
  obtain ⟨g, p, l, c, rfl, h1, h2⟩ := h
  exact ⟨_, rfl, ⟨g, p, l, c, rfl, h1⟩, h2⟩
theorem RetR.want {W w' : World} {n : Nat} {e : Ending} (h : RetR W n e w') : ∃ v, e = .returned v ∧ RNum w' v n ∧ Below W.heap.size W w' := by
  obtain ⟨p, l, c, rfl, h1, h2⟩ := h
  exact ⟨_, rfl, ⟨p, l, c, rfl, h1⟩, h2⟩
def RBox (w : World) (a : Nat) (g : Bool) (p : Option Addr) (l c : Nat) : Prop := w.cell? ⟨a, 0, none⟩ = some (.bool g) ∧ w.cell? ⟨a, 1, none⟩ = some (.slice p l c)
theorem rboxes2 (w : World) (g1 g2 : Bool) (p1 p2 : Option Addr) (l1 c1 l2 c2 : Nat) :
    ∃ W a b r, W = ((w.alloc (.cells #[.bool g1, .slice p1 l1 c1] 28)).alloc (.cells #[.bool g2, .slice p2 l2 c2] 28)).alloc (.cells #[.bool false, .slice none 0 0] 28) ∧ r = w.heap.size + 1 + 1 ∧ b = w.heap.size + 1 ∧ a = w.heap.size ∧
      RBox W a g1 p1 l1 c1 ∧ RBox W b g2 p2 l2 c2 ∧ (BoxHas W r .rint (.agg #[.bool false, .slice none 0 0]) ∧ BoxFree W r .rint) ∧ a ∉ [r] ∧ b ∉ [r] ∧ w.heap.size ≤ r ∧ Below w.heap.size w W := by
  refine ⟨_, _, _, _, rfl, rfl, rfl, rfl, ⟨?_, ?_⟩, ⟨?_, ?_⟩, ⟨.mkRint ?_ ?_, free2 ?_ ?_ rfl⟩, ?_, ?_, by omega, below_alloc (below_alloc (below_alloc (Below.refl _ _) _) _) _⟩
  all_goals simp [go_sem]
  omega
theorem rboxes1 (w : World) (g1 : Bool) (p1 : Option Addr) (l1 c1 : Nat) :
    ∃ W a r, W = (w.alloc (.cells #[.bool g1, .slice p1 l1 c1] 28)).alloc (.cells #[.bool false, .slice none 0 0] 28) ∧ r = w.heap.size + 1 ∧ a = w.heap.size ∧
      RBox W a g1 p1 l1 c1 ∧ (BoxHas W r .rint (.agg #[.bool false, .slice none 0 0]) ∧ BoxFree W r .rint) ∧ a ∉ [r] ∧ w.heap.size ≤ r ∧ Below w.heap.size w W := by
  refine ⟨_, _, _, rfl, rfl, rfl, ⟨?_, ?_⟩, ⟨.mkRint ?_ ?_, free2 ?_ ?_ rfl⟩, ?_, by omega, below_alloc (below_alloc (Below.refl _ _) _) _⟩
  all_goals simp [go_sem]
theorem IsR.rintbox {w : World} {p q : Option Addr} {l c k d n g : Nat} {x : Bool} {u v : Value} (h : IsR w p l c n) (h0 : w.cell? ⟨g, 0, none⟩ = some (.bool x)) (h1 : w.cell? ⟨g, 1, none⟩ = some (.slice q k d)) :
    IsR ((w.setCell ⟨g, 0, none⟩ u).setCell ⟨g, 1, none⟩ v) p l c n := by
  obtain ⟨a1, a2, a3⟩ := h
  refine ⟨a1, a2, fun hn => ?_⟩
  obtain ⟨b, off, a4, a5⟩ := a3 hn
  refine ⟨b, off, a4, fun i hi => ?_⟩
  have h2 := a5 i hi
  have e0 : (⟨g, 0, none⟩ : Addr) ≠ ⟨b, off + i, none⟩ := by intro e; rw [← e, h0] at h2; cases h2
  have e1 : (⟨g, 1, none⟩ : Addr) ≠ ⟨b, off + i, none⟩ := by intro e; rw [← e, h1] at h2; cases h2
  rw [World.cell?_setCell_other _ _ _ _ e1, World.cell?_setCell_other _ _ _ _ e0]
  exact h2
theorem IsRI.setRint {w : World} {p q : Option Addr} {l c k d b : Nat} {g x : Bool} {z : Int} {u v : Value} (h : IsRI w g p l c z) (h0 : w.cell? ⟨b, 0, none⟩ = some (.bool x)) (h1 : w.cell? ⟨b, 1, none⟩ = some (.slice q k d)) :
    IsRI ((w.setCell ⟨b, 0, none⟩ u).setCell ⟨b, 1, none⟩ v) g p l c z := ⟨h.1, h.2.rintbox h0 h1⟩
theorem sgn_not {z : Int} {g : Bool} (h : g = decide (z < 0)) : sgn (!g) z.natAbs = -z := by
  rw [h]; unfold sgn
  by_cases hz : z < 0
  · rw [decide_eq_true hz]; simp; omega
  · rw [decide_eq_false hz]; simp; omega
theorem sgn_add {x y : Int} {g : Bool} (h1 : g = decide (x < 0)) (h2 : g = decide (y < 0)) : sgn g (x.natAbs + y.natAbs) = x + y := by
  unfold sgn
  by_cases hx : x < 0
  · rw [decide_eq_true hx] at h1; rw [h1, eq_comm, decide_eq_true_eq] at h2; rw [h1]; simp; omega
  · rw [decide_eq_false hx] at h1; rw [h1, eq_comm, decide_eq_false_iff_not] at h2; rw [h1]; simp; omega

set_option maxHeartbeats 400000 in
theorem rISign_any (z : Int) (g : Bool) (p : Option Addr) (l c : Nat) (w : World) (h : IsRI w g p l c z) :
    Calls Tryz.prog 70 #[.agg #[.bool g, .slice p l c]] w fun e w' => e = .returned (.int .i64 (cmp3 z 0)) ∧ Below w.heap.size w w' := by
  obtain ⟨hg, h⟩ := h
  have hz := h.zero_iff
  by_cases h0 : z = 0
  · subst h0
    obtain rfl : l = 0 := hz.2 rfl
    rw [cmp3_eq]
    clear hg h hz
    go_enter Tryz.func70, Tryz.ntmps70
    go_wp2
    go_ret
    exact ⟨rfl, below_alloc (Below.refl _ _) _⟩
  · have hl : 0 < l := by have : l ≠ 0 := fun e => h0 (by have := hz.1 e; omega); omega
    rcases Int.lt_or_le z 0 with hn | hn
    · rw [cmp3_lt hn]
      obtain rfl : g = true := by rw [hg]; exact decide_eq_true hn
      clear hg h hz hn h0
      go_enter Tryz.func70, Tryz.ntmps70
      go_wp2
      go_ret
      exact ⟨rfl, below_alloc (Below.refl _ _) _⟩
    · rw [cmp3_gt (show (0 : Int) < z by omega)]
      obtain rfl : g = false := by rw [hg]; exact decide_eq_false (by omega)
      clear hg h hz hn h0
      go_enter Tryz.func70, Tryz.ntmps70
      go_wp2
      go_ret
      exact ⟨rfl, below_alloc (Below.refl _ _) _⟩

set_option maxHeartbeats 1000000 in
theorem rINeg_any (z : Int) (g : Bool) (p : Option Addr) (l c : Nat) (w : World) (h : IsRI w g p l c z) :
    Calls Tryz.prog 72 #[.agg #[.bool g, .slice p l c]] w (RetRI w (-z)) := by
  obtain ⟨hg, h⟩ := h
  have HF := Lib.hid (fun W a => rI_any (!g) z.natAbs p l c W a)
  rw [sgn_not hg] at HF
  have H := Lib.hid h
  clear hg h
  go_enter Tryz.func72, Tryz.ntmps72
  obtain ⟨W, a, r, hW, hr, ha, ⟨A0, A1⟩, OLD_r, ia, zw, HB⟩ := rboxes1 w g p l c
  go_wp2_with fail
  rw [← hW, ← hr]
  clear hW hr ha
  refine (HF.out _ (H.out.mono HB)).mono ?_
  rintro e w1 ⟨g5, p5, l5, c5, rfl, h5, hb⟩
  obtain ⟨_, _, _, _, r0, r1⟩ := (OLD_r.1.mono hb).rint
  have f0 := (OLD_r.2.mono OLD_r.1 hb) 0 (by decide); have f1 := (OLD_r.2.mono OLD_r.1 hb) 1 (by decide)
  have H5 := Lib.hid h5
  have HB := Lib.hid (below_step HB hb)
  clear OLD_r h5 hb A0 A1 ia
  replace r0 := r1.1; replace r1 := r1.2
  go_wp2
  exact bodyPost_ret (v := .agg #[.bool g5, .slice p5 l5 c5]) (by simp [results, Tryz.results72, go_sem, r0, r1]) rfl ⟨_, _, _, _, rfl, H5.out.setRint r0 r1, (HB.out.setCell zw _).setCell zw _⟩

set_option maxRecDepth 100000 in
set_option maxHeartbeats 2000000 in
theorem rIAdd_same (x y : Int) (g1 g2 : Bool) (p1 p2 : Option Addr) (l1 c1 l2 c2 : Nat) (w : World) (hd : g1 = g2) (hx : l1 ≤ 100000) (hy : l2 ≤ 100000) (h1 : IsRI w g1 p1 l1 c1 x) (h2 : IsRI w g2 p2 l2 c2 y) :
    Calls Tryz.prog 62 #[.agg #[.bool g1, .slice p1 l1 c1], .agg #[.bool g2, .slice p2 l2 c2]] w (RetRI w (x + y)) := by
  subst hd
  obtain ⟨e1, h1⟩ := h1
  obtain ⟨e2, h2⟩ := h2
  have HM := Lib.hid (fun W a b => rAdd_any p1 p2 l1 c1 l2 c2 x.natAbs y.natAbs W hx hy a b)
  have HF := Lib.hid (fun p l c W a => rI_any g1 (x.natAbs + y.natAbs) p l c W a)
  rw [sgn_add e1 e2] at HF
  have H1 := Lib.hid h1; have H2 := Lib.hid h2
  clear e1 e2 h1 h2 hx hy
  go_enter Tryz.func62, Tryz.ntmps62
  go_wp2
  obtain ⟨W, a, b, r, hW, hr, hbb, ha, ⟨A0, A1⟩, ⟨B0, B1⟩, OLD_r, ia, ib, zw, HB⟩ := rboxes2 w g1 g1 p1 p2 l1 c1 l2 c2
  rw [← hW, ← hr, ← hbb, ← ha]
  clear hW hr hbb ha
  refine region_told (T := [0, 1, 2, 3, 4, 5, 6, 7]) (slots := [10, 11, 12, 13, 14, 15, 16, 17])
      (tab := [.is (.pointer (some ⟨a, 0, none⟩)), .is (.bool g1), .is (.pointer (some ⟨a, 1, none⟩)), .is (.slice p1 l1 c1), .is (.pointer (some ⟨b, 1, none⟩)), .is (.slice p2 l2 c2), .rnum (x.natAbs + y.natAbs), .rint (x + y), .any])
      (D := [⟨r, .rint, none, 8, (.rint (x + y)), (.agg #[.bool false, .slice none 0 0])⟩])
      (F := [(.slice p1 l1 c1, .rnum x.natAbs), (.slice p2 l2 c2, .rnum y.natAbs)])
      (by kernel_rfl) (by kernel_rfl) (by kernel_rfl) (by kernel_rfl) (by kernel_rfl) (by kernel_rfl) (by kernel_rfl) ?_ ?_ ?_ ?_ ?_
  · skip
    refine List.Pairwise.cons (fun y hy => ?_) ?_
    · cases hy
    exact List.Pairwise.nil
  · intro f hf; simp only [List.mem_cons, List.not_mem_nil, or_false] at hf; rcases hf with rfl | rfl
    · exact ⟨_, _, _, rfl, H1.out.mono HB⟩
    · exact ⟨_, _, _, rfl, H2.out.mono HB⟩
  · intro x hx hal; simp only [List.mem_cons, List.not_mem_nil, or_false] at hx; rcases hx with rfl
    · exact ⟨OLD_r.1, OLD_r.2, OLD_r.1.lt rfl⟩
  · skip
    refine AllTold.cons rfl (fun β E W hA hF hc hf hE hV hP hB hS => Or.inl ⟨rfl, (by kernel_rfl), ?_⟩) ?_
    · have e1 : E (.tmp 2) = .pointer (some ⟨a, 0, none⟩) := hE 2 (by kernel_rfl)
      clear hE hV hP hB hS
      exact Does.value (w' := W) (by go_simp) ⟨rfl, Below.refl _ _⟩
    refine AllTold.cons rfl (fun β E W hA hF hc hf hE hV hP hB hS => Or.inl ⟨rfl, (by kernel_rfl), ?_⟩) ?_
    · have e1 : E (.tmp 10) = (.pointer (some ⟨a, 0, none⟩)) := hV 0 10 (by kernel_rfl) rfl
      have q0 := hA.cell A0 ia
      clear hE hV hP hB hS
      exact Does.value (w' := W) (by go_simp) ⟨rfl, Below.refl _ _⟩
    refine AllTold.cons rfl (fun β E W hA hF hc hf hE hV hP hB hS => Or.inl ⟨rfl, (by kernel_rfl), ?_⟩) ?_
    · have e1 : E (.tmp 2) = .pointer (some ⟨a, 0, none⟩) := hE 2 (by kernel_rfl)
      clear hE hV hP hB hS
      exact Does.value (w' := W) (by go_simp) ⟨rfl, Below.refl _ _⟩
    refine AllTold.cons rfl (fun β E W hA hF hc hf hE hV hP hB hS => Or.inl ⟨rfl, (by kernel_rfl), ?_⟩) ?_
    · have e1 : E (.tmp 12) = (.pointer (some ⟨a, 1, none⟩)) := hV 2 12 (by kernel_rfl) rfl
      have q0 := hA.cell A1 ia
      clear hE hV hP hB hS
      exact Does.value (w' := W) (by go_simp) ⟨rfl, Below.refl _ _⟩
    refine AllTold.cons rfl (fun β E W hA hF hc hf hE hV hP hB hS => Or.inl ⟨rfl, (by kernel_rfl), ?_⟩) ?_
    · have e1 : E (.tmp 3) = .pointer (some ⟨b, 0, none⟩) := hE 3 (by kernel_rfl)
      clear hE hV hP hB hS
      exact Does.value (w' := W) (by go_simp) ⟨rfl, Below.refl _ _⟩
    refine AllTold.cons rfl (fun β E W hA hF hc hf hE hV hP hB hS => Or.inl ⟨rfl, (by kernel_rfl), ?_⟩) ?_
    · have e1 : E (.tmp 14) = (.pointer (some ⟨b, 1, none⟩)) := hV 4 14 (by kernel_rfl) rfl
      have q0 := hA.cell B1 ib
      clear hE hV hP hB hS
      exact Does.value (w' := W) (by go_simp) ⟨rfl, Below.refl _ _⟩
    refine AllTold.cons rfl (fun β E W hA hF hc hf hE hV hP hB hS => Or.inl ⟨rfl, (by kernel_rfl), ?_⟩) ?_
    · have e1 : E (.tmp 13) = (.slice p1 l1 c1) := hV 3 13 (by kernel_rfl) rfl
      have e2 : E (.tmp 15) = (.slice p2 l2 c2) := hV 5 15 (by kernel_rfl) rfl
      clear hE hV hP hB hS
      exact Does.call (w' := W) (by go_simp) ((HM.out W (hF (_, _) mb0).isR (hF (_, _) mb1).isR).mono fun e w' h => h.want)
    refine AllTold.cons rfl (fun β E W hA hF hc hf hE hV hP hB hS => Or.inl ⟨rfl, (by kernel_rfl), ?_⟩) ?_
    · have e1 : E (.tmp 11) = (.bool g1) := hV 1 11 (by kernel_rfl) rfl
      have e2 : Means W (.rnum (x.natAbs + y.natAbs)) (E (.tmp 16)) := hV 6 16 (by kernel_rfl) rfl
      clear hE hV hP hB hS
      obtain ⟨q, k, d, e2', hI⟩ := e2
      exact Does.call (w' := W) (by go_simp) ((HF.out q k d W hI).mono fun e w' h => h.want)
    refine AllTold.cons rfl (fun β E W hA hF hc hf hE hV hP hB hS => Or.inr (Or.inl ⟨rfl, ⟨_, mb0, rfl, (by kernel_rfl), rfl, ?_⟩⟩)) ?_
    · have e1 : E (.tmp 4) = .pointer (some ⟨r, 0, none⟩) := hE 4 (by kernel_rfl)
      have e2 : Means W (.rint (x + y)) (E (.tmp 17)) := hV 7 17 (by kernel_rfl) rfl
      obtain ⟨hbx, hfr⟩ := hB _ mb0 (by kernel_rfl) (by kernel_rfl)
      replace hbx : BoxHas W r .rint _ := hbx
      replace hfr : BoxFree W r .rint := hfr
      obtain ⟨_, _, _, _, _, q0, q1⟩ := hbx.rint
      have t0 := hfr 0 (by show 0 < 2; decide)
      have t1 := hfr 1 (by show 1 < 2; decide)
      obtain ⟨g, p, l, c, e2', hI⟩ := e2
      clear hE hV hP hB hS
      exact Does.skip (by go_simp) ⟨_, Stored.mkRint (b := r), ⟨g, p, l, c, rfl, hI⟩⟩
    exact AllTold.nil
  · intro β f W' hf hS hN hA _ _ _ _
    obtain ⟨g5, p5, l5, c5, r0, r1, hI1⟩ := (show Says W' r .rint (.rint (x + y)) from (hS _ mb0).1).rint
    have HBW := Lib.hid (HB.trans (hA.below (B := w.heap.size) (by simp [oldBlocks]; exact zw) HB.size))
    have I1 := Lib.hid hI1
    clear hf hS hN hA hI1
    simp only [fillSlots, List.setIfInBounds_toArray, List.set_cons_succ, List.set_cons_zero]
    go_wp2
    exact bodyPost_ret (v := .agg #[.bool g5, .slice p5 l5 c5]) (by simp [results, Tryz.results62, go_sem, r0, r1]) rfl ⟨_, _, _, _, rfl, I1.out, HBW.out⟩

set_option maxRecDepth 100000 in
set_option maxHeartbeats 2000000 in
theorem rIAdd_ge (x y : Int) (g1 g2 : Bool) (p1 p2 : Option Addr) (l1 c1 l2 c2 : Nat) (w : World) (hd : (g1 == g2) = false) (hle : y.natAbs ≤ x.natAbs) (hx : l1 ≤ 100000) (_hy : l2 ≤ 100000) (h1 : IsRI w g1 p1 l1 c1 x) (h2 : IsRI w g2 p2 l2 c2 y) :
    Calls Tryz.prog 62 #[.agg #[.bool g1, .slice p1 l1 c1], .agg #[.bool g2, .slice p2 l2 c2]] w (RetRI w (x + y)) := by
  obtain ⟨e1, h1⟩ := h1
  obtain ⟨e2, h2⟩ := h2
  have hne : decide (x < 0) ≠ decide (y < 0) := by rw [← e1, ← e2]; intro h; rw [h] at hd; simp at hd
  have HM := Lib.hid (fun W a b => rSub_any p1 p2 l1 c1 l2 c2 x.natAbs y.natAbs W hx hle a b)
  have HC := Lib.hid (fun W a b => rCmp_any p1 p2 l1 l2 c1 c2 x.natAbs y.natAbs W (by omega) a b)
  obtain ⟨k, hk, hk0⟩ : ∃ k : Int, k = cmp3 x.natAbs y.natAbs ∧ 0 ≤ k := ⟨_, rfl, by unfold cmp3; split <;> (try split) <;> omega⟩
  unfold RetC at HC
  rw [← hk] at HC
  have HF := Lib.hid (fun p l c W a => rI_any g1 (x.natAbs - y.natAbs) p l c W a)
  rw [add_diff1 e1 hne hle] at HF
  have H1 := Lib.hid h1; have H2 := Lib.hid h2
  clear e1 e2 h1 h2 hx _hy hk hle hne
  go_enter Tryz.func62, Tryz.ntmps62
  obtain ⟨W, a, b, r, hW, hr, hbb, ha, ⟨A0, A1⟩, ⟨B0, B1⟩, OLD_r, ia, ib, zw, HB⟩ := rboxes2 w g1 g2 p1 p2 l1 c1 l2 c2
  go_wp2_with fail
  rw [← hW, ← hr, ← hbb, ← ha]
  clear hW hr hbb ha
  refine (HC.out _ (H1.out.mono HB) (H2.out.mono HB)).mono ?_
  rintro e w1 ⟨rfl, hb⟩
  have A0 := wcell hb A0; have A1 := wcell hb A1; have B0 := wcell hb B0; have B1 := wcell hb B1
  have OLD_r : BoxHas w1 r .rint (.agg #[.bool false, .slice none 0 0]) ∧ BoxFree w1 r .rint := ⟨OLD_r.1.mono hb, OLD_r.2.mono OLD_r.1 hb⟩
  have HB := below_step HB hb
  clear hb HC
  go_wp2
  refine region_told (T := [0, 1, 2, 3, 4, 5, 6, 7]) (slots := [24, 25, 26, 27, 28, 29, 30, 31])
      (tab := [.is (.pointer (some ⟨a, 0, none⟩)), .is (.bool g1), .is (.pointer (some ⟨a, 1, none⟩)), .is (.slice p1 l1 c1), .is (.pointer (some ⟨b, 1, none⟩)), .is (.slice p2 l2 c2), .rnum (x.natAbs - y.natAbs), .rint (x + y), .any])
      (D := [⟨r, .rint, none, 8, (.rint (x + y)), (.agg #[.bool false, .slice none 0 0])⟩])
      (F := [(.slice p1 l1 c1, .rnum x.natAbs), (.slice p2 l2 c2, .rnum y.natAbs)])
      (by kernel_rfl) (by kernel_rfl) (by kernel_rfl) (by kernel_rfl) (by kernel_rfl) (by kernel_rfl) (by kernel_rfl) ?_ ?_ ?_ ?_ ?_
  · skip
    refine List.Pairwise.cons (fun y hy => ?_) ?_
    · cases hy
    exact List.Pairwise.nil
  · intro f hf; simp only [List.mem_cons, List.not_mem_nil, or_false] at hf; rcases hf with rfl | rfl
    · exact ⟨_, _, _, rfl, H1.out.mono HB⟩
    · exact ⟨_, _, _, rfl, H2.out.mono HB⟩
  · intro x hx hal; simp only [List.mem_cons, List.not_mem_nil, or_false] at hx; rcases hx with rfl
    · exact ⟨OLD_r.1, OLD_r.2, OLD_r.1.lt rfl⟩
  · skip
    refine AllTold.cons rfl (fun β E W hA hF hc hf hE hV hP hB hS => Or.inl ⟨rfl, (by kernel_rfl), ?_⟩) ?_
    · have e1 : E (.tmp 2) = .pointer (some ⟨a, 0, none⟩) := hE 2 (by kernel_rfl)
      clear hE hV hP hB hS
      exact Does.value (w' := W) (by go_simp) ⟨rfl, Below.refl _ _⟩
    refine AllTold.cons rfl (fun β E W hA hF hc hf hE hV hP hB hS => Or.inl ⟨rfl, (by kernel_rfl), ?_⟩) ?_
    · have e1 : E (.tmp 24) = (.pointer (some ⟨a, 0, none⟩)) := hV 0 24 (by kernel_rfl) rfl
      have q0 := hA.cell A0 ia
      clear hE hV hP hB hS
      exact Does.value (w' := W) (by go_simp) ⟨rfl, Below.refl _ _⟩
    refine AllTold.cons rfl (fun β E W hA hF hc hf hE hV hP hB hS => Or.inl ⟨rfl, (by kernel_rfl), ?_⟩) ?_
    · have e1 : E (.tmp 2) = .pointer (some ⟨a, 0, none⟩) := hE 2 (by kernel_rfl)
      clear hE hV hP hB hS
      exact Does.value (w' := W) (by go_simp) ⟨rfl, Below.refl _ _⟩
    refine AllTold.cons rfl (fun β E W hA hF hc hf hE hV hP hB hS => Or.inl ⟨rfl, (by kernel_rfl), ?_⟩) ?_
    · have e1 : E (.tmp 26) = (.pointer (some ⟨a, 1, none⟩)) := hV 2 26 (by kernel_rfl) rfl
      have q0 := hA.cell A1 ia
      clear hE hV hP hB hS
      exact Does.value (w' := W) (by go_simp) ⟨rfl, Below.refl _ _⟩
    refine AllTold.cons rfl (fun β E W hA hF hc hf hE hV hP hB hS => Or.inl ⟨rfl, (by kernel_rfl), ?_⟩) ?_
    · have e1 : E (.tmp 3) = .pointer (some ⟨b, 0, none⟩) := hE 3 (by kernel_rfl)
      clear hE hV hP hB hS
      exact Does.value (w' := W) (by go_simp) ⟨rfl, Below.refl _ _⟩
    refine AllTold.cons rfl (fun β E W hA hF hc hf hE hV hP hB hS => Or.inl ⟨rfl, (by kernel_rfl), ?_⟩) ?_
    · have e1 : E (.tmp 28) = (.pointer (some ⟨b, 1, none⟩)) := hV 4 28 (by kernel_rfl) rfl
      have q0 := hA.cell B1 ib
      clear hE hV hP hB hS
      exact Does.value (w' := W) (by go_simp) ⟨rfl, Below.refl _ _⟩
    refine AllTold.cons rfl (fun β E W hA hF hc hf hE hV hP hB hS => Or.inl ⟨rfl, (by kernel_rfl), ?_⟩) ?_
    · have e1 : E (.tmp 27) = (.slice p1 l1 c1) := hV 3 27 (by kernel_rfl) rfl
      have e2 : E (.tmp 29) = (.slice p2 l2 c2) := hV 5 29 (by kernel_rfl) rfl
      clear hE hV hP hB hS
      exact Does.call (w' := W) (by go_simp) ((HM.out W (hF (_, _) mb0).isR (hF (_, _) mb1).isR).mono fun e w' h => h.want)
    refine AllTold.cons rfl (fun β E W hA hF hc hf hE hV hP hB hS => Or.inl ⟨rfl, (by kernel_rfl), ?_⟩) ?_
    · have e1 : E (.tmp 25) = (.bool g1) := hV 1 25 (by kernel_rfl) rfl
      have e2 : Means W (.rnum (x.natAbs - y.natAbs)) (E (.tmp 30)) := hV 6 30 (by kernel_rfl) rfl
      clear hE hV hP hB hS
      obtain ⟨q, k, d, e2', hI⟩ := e2
      exact Does.call (w' := W) (by go_simp) ((HF.out q k d W hI).mono fun e w' h => h.want)
    refine AllTold.cons rfl (fun β E W hA hF hc hf hE hV hP hB hS => Or.inr (Or.inl ⟨rfl, ⟨_, mb0, rfl, (by kernel_rfl), rfl, ?_⟩⟩)) ?_
    · have e1 : E (.tmp 4) = .pointer (some ⟨r, 0, none⟩) := hE 4 (by kernel_rfl)
      have e2 : Means W (.rint (x + y)) (E (.tmp 31)) := hV 7 31 (by kernel_rfl) rfl
      obtain ⟨hbx, hfr⟩ := hB _ mb0 (by kernel_rfl) (by kernel_rfl)
      replace hbx : BoxHas W r .rint _ := hbx
      replace hfr : BoxFree W r .rint := hfr
      obtain ⟨_, _, _, _, _, q0, q1⟩ := hbx.rint
      have t0 := hfr 0 (by show 0 < 2; decide)
      have t1 := hfr 1 (by show 1 < 2; decide)
      obtain ⟨g, p, l, c, e2', hI⟩ := e2
      clear hE hV hP hB hS
      exact Does.skip (by go_simp) ⟨_, Stored.mkRint (b := r), ⟨g, p, l, c, rfl, hI⟩⟩
    exact AllTold.nil
  · intro β f W' hf hS hN hA _ _ _ _
    obtain ⟨g5, p5, l5, c5, r0, r1, hI1⟩ := (show Says W' r .rint (.rint (x + y)) from (hS _ mb0).1).rint
    have HBW := Lib.hid (HB.trans (hA.below (B := w.heap.size) (by simp [oldBlocks]; exact zw) HB.size))
    have I1 := Lib.hid hI1
    clear hf hS hN hA hI1
    simp only [fillSlots, List.setIfInBounds_toArray, List.set_cons_succ, List.set_cons_zero]
    go_wp2
    exact bodyPost_ret (v := .agg #[.bool g5, .slice p5 l5 c5]) (by simp [results, Tryz.results62, go_sem, r0, r1]) rfl ⟨_, _, _, _, rfl, I1.out, HBW.out⟩

set_option maxRecDepth 100000 in
set_option maxHeartbeats 2000000 in
theorem rIAdd_lt (x y : Int) (g1 g2 : Bool) (p1 p2 : Option Addr) (l1 c1 l2 c2 : Nat) (w : World) (hd : (g1 == g2) = false) (hle : x.natAbs < y.natAbs) (hx : l1 ≤ 100000) (hy : l2 ≤ 100000) (h1 : IsRI w g1 p1 l1 c1 x) (h2 : IsRI w g2 p2 l2 c2 y) :
    Calls Tryz.prog 62 #[.agg #[.bool g1, .slice p1 l1 c1], .agg #[.bool g2, .slice p2 l2 c2]] w (RetRI w (x + y)) := by
  obtain ⟨e1, h1⟩ := h1
  obtain ⟨e2, h2⟩ := h2
  have hne : decide (x < 0) ≠ decide (y < 0) := by rw [← e1, ← e2]; intro h; rw [h] at hd; simp at hd
  have HM := Lib.hid (fun W a b => rSub_any p2 p1 l2 c2 l1 c1 y.natAbs x.natAbs W hy (by omega) a b)
  have HC := Lib.hid (fun W a b => rCmp_any p1 p2 l1 l2 c1 c2 x.natAbs y.natAbs W (by omega) a b)
  obtain ⟨k, hk, hk0⟩ : ∃ k : Int, k = cmp3 x.natAbs y.natAbs ∧ k < 0 := ⟨_, rfl, by unfold cmp3; split <;> (try split) <;> omega⟩
  unfold RetC at HC
  rw [← hk] at HC
  have HF := Lib.hid (fun p l c W a => rI_any g2 (y.natAbs - x.natAbs) p l c W a)
  rw [(show sgn g2 (y.natAbs - x.natAbs) = x + y by have := add_diff1 (x := y) (y := x) e2 (fun h => hne h.symm) (by omega); rw [this]; omega)] at HF
  have H1 := Lib.hid h1; have H2 := Lib.hid h2
  clear e1 e2 h1 h2 hx hy hk hle hne
  go_enter Tryz.func62, Tryz.ntmps62
  obtain ⟨W, a, b, r, hW, hr, hbb, ha, ⟨A0, A1⟩, ⟨B0, B1⟩, OLD_r, ia, ib, zw, HB⟩ := rboxes2 w g1 g2 p1 p2 l1 c1 l2 c2
  go_wp2_with fail
  rw [← hW, ← hr, ← hbb, ← ha]
  clear hW hr hbb ha
  refine (HC.out _ (H1.out.mono HB) (H2.out.mono HB)).mono ?_
  rintro e w1 ⟨rfl, hb⟩
  have A0 := wcell hb A0; have A1 := wcell hb A1; have B0 := wcell hb B0; have B1 := wcell hb B1
  have OLD_r : BoxHas w1 r .rint (.agg #[.bool false, .slice none 0 0]) ∧ BoxFree w1 r .rint := ⟨OLD_r.1.mono hb, OLD_r.2.mono OLD_r.1 hb⟩
  have HB := below_step HB hb
  clear hb HC
  go_wp2
  refine region_told (T := [0, 1, 2, 3, 4, 5, 6, 7]) (slots := [32, 33, 34, 35, 36, 37, 38, 39])
      (tab := [.is (.pointer (some ⟨b, 0, none⟩)), .is (.bool g2), .is (.pointer (some ⟨b, 1, none⟩)), .is (.slice p2 l2 c2), .is (.pointer (some ⟨a, 1, none⟩)), .is (.slice p1 l1 c1), .rnum (y.natAbs - x.natAbs), .rint (x + y), .any])
      (D := [⟨r, .rint, none, 8, (.rint (x + y)), (.agg #[.bool false, .slice none 0 0])⟩])
      (F := [(.slice p1 l1 c1, .rnum x.natAbs), (.slice p2 l2 c2, .rnum y.natAbs)])
      (by kernel_rfl) (by kernel_rfl) (by kernel_rfl) (by kernel_rfl) (by kernel_rfl) (by kernel_rfl) (by kernel_rfl) ?_ ?_ ?_ ?_ ?_
  · skip
    refine List.Pairwise.cons (fun y hy => ?_) ?_
    · cases hy
    exact List.Pairwise.nil
  · intro f hf; simp only [List.mem_cons, List.not_mem_nil, or_false] at hf; rcases hf with rfl | rfl
    · exact ⟨_, _, _, rfl, H1.out.mono HB⟩
    · exact ⟨_, _, _, rfl, H2.out.mono HB⟩
  · intro x hx hal; simp only [List.mem_cons, List.not_mem_nil, or_false] at hx; rcases hx with rfl
    · exact ⟨OLD_r.1, OLD_r.2, OLD_r.1.lt rfl⟩
  · skip
    refine AllTold.cons rfl (fun β E W hA hF hc hf hE hV hP hB hS => Or.inl ⟨rfl, (by kernel_rfl), ?_⟩) ?_
    · have e1 : E (.tmp 3) = .pointer (some ⟨b, 0, none⟩) := hE 3 (by kernel_rfl)
      clear hE hV hP hB hS
      exact Does.value (w' := W) (by go_simp) ⟨rfl, Below.refl _ _⟩
    refine AllTold.cons rfl (fun β E W hA hF hc hf hE hV hP hB hS => Or.inl ⟨rfl, (by kernel_rfl), ?_⟩) ?_
    · have e1 : E (.tmp 32) = (.pointer (some ⟨b, 0, none⟩)) := hV 0 32 (by kernel_rfl) rfl
      have q0 := hA.cell B0 ib
      clear hE hV hP hB hS
      exact Does.value (w' := W) (by go_simp) ⟨rfl, Below.refl _ _⟩
    refine AllTold.cons rfl (fun β E W hA hF hc hf hE hV hP hB hS => Or.inl ⟨rfl, (by kernel_rfl), ?_⟩) ?_
    · have e1 : E (.tmp 3) = .pointer (some ⟨b, 0, none⟩) := hE 3 (by kernel_rfl)
      clear hE hV hP hB hS
      exact Does.value (w' := W) (by go_simp) ⟨rfl, Below.refl _ _⟩
    refine AllTold.cons rfl (fun β E W hA hF hc hf hE hV hP hB hS => Or.inl ⟨rfl, (by kernel_rfl), ?_⟩) ?_
    · have e1 : E (.tmp 34) = (.pointer (some ⟨b, 1, none⟩)) := hV 2 34 (by kernel_rfl) rfl
      have q0 := hA.cell B1 ib
      clear hE hV hP hB hS
      exact Does.value (w' := W) (by go_simp) ⟨rfl, Below.refl _ _⟩
    refine AllTold.cons rfl (fun β E W hA hF hc hf hE hV hP hB hS => Or.inl ⟨rfl, (by kernel_rfl), ?_⟩) ?_
    · have e1 : E (.tmp 2) = .pointer (some ⟨a, 0, none⟩) := hE 2 (by kernel_rfl)
      clear hE hV hP hB hS
      exact Does.value (w' := W) (by go_simp) ⟨rfl, Below.refl _ _⟩
    refine AllTold.cons rfl (fun β E W hA hF hc hf hE hV hP hB hS => Or.inl ⟨rfl, (by kernel_rfl), ?_⟩) ?_
    · have e1 : E (.tmp 36) = (.pointer (some ⟨a, 1, none⟩)) := hV 4 36 (by kernel_rfl) rfl
      have q0 := hA.cell A1 ia
      clear hE hV hP hB hS
      exact Does.value (w' := W) (by go_simp) ⟨rfl, Below.refl _ _⟩
    refine AllTold.cons rfl (fun β E W hA hF hc hf hE hV hP hB hS => Or.inl ⟨rfl, (by kernel_rfl), ?_⟩) ?_
    · have e1 : E (.tmp 35) = (.slice p2 l2 c2) := hV 3 35 (by kernel_rfl) rfl
      have e2 : E (.tmp 37) = (.slice p1 l1 c1) := hV 5 37 (by kernel_rfl) rfl
      clear hE hV hP hB hS
      exact Does.call (w' := W) (by go_simp) ((HM.out W (hF (_, _) mb1).isR (hF (_, _) mb0).isR).mono fun e w' h => h.want)
    refine AllTold.cons rfl (fun β E W hA hF hc hf hE hV hP hB hS => Or.inl ⟨rfl, (by kernel_rfl), ?_⟩) ?_
    · have e1 : E (.tmp 33) = (.bool g2) := hV 1 33 (by kernel_rfl) rfl
      have e2 : Means W (.rnum (y.natAbs - x.natAbs)) (E (.tmp 38)) := hV 6 38 (by kernel_rfl) rfl
      clear hE hV hP hB hS
      obtain ⟨q, k, d, e2', hI⟩ := e2
      exact Does.call (w' := W) (by go_simp) ((HF.out q k d W hI).mono fun e w' h => h.want)
    refine AllTold.cons rfl (fun β E W hA hF hc hf hE hV hP hB hS => Or.inr (Or.inl ⟨rfl, ⟨_, mb0, rfl, (by kernel_rfl), rfl, ?_⟩⟩)) ?_
    · have e1 : E (.tmp 4) = .pointer (some ⟨r, 0, none⟩) := hE 4 (by kernel_rfl)
      have e2 : Means W (.rint (x + y)) (E (.tmp 39)) := hV 7 39 (by kernel_rfl) rfl
      obtain ⟨hbx, hfr⟩ := hB _ mb0 (by kernel_rfl) (by kernel_rfl)
      replace hbx : BoxHas W r .rint _ := hbx
      replace hfr : BoxFree W r .rint := hfr
      obtain ⟨_, _, _, _, _, q0, q1⟩ := hbx.rint
      have t0 := hfr 0 (by show 0 < 2; decide)
      have t1 := hfr 1 (by show 1 < 2; decide)
      obtain ⟨g, p, l, c, e2', hI⟩ := e2
      clear hE hV hP hB hS
      exact Does.skip (by go_simp) ⟨_, Stored.mkRint (b := r), ⟨g, p, l, c, rfl, hI⟩⟩
    exact AllTold.nil
  · intro β f W' hf hS hN hA _ _ _ _
    obtain ⟨g5, p5, l5, c5, r0, r1, hI1⟩ := (show Says W' r .rint (.rint (x + y)) from (hS _ mb0).1).rint
    have HBW := Lib.hid (HB.trans (hA.below (B := w.heap.size) (by simp [oldBlocks]; exact zw) HB.size))
    have I1 := Lib.hid hI1
    clear hf hS hN hA hI1
    simp only [fillSlots, List.setIfInBounds_toArray, List.set_cons_succ, List.set_cons_zero]
    go_wp2
    exact bodyPost_ret (v := .agg #[.bool g5, .slice p5 l5 c5]) (by simp [results, Tryz.results62, go_sem, r0, r1]) rfl ⟨_, _, _, _, rfl, I1.out, HBW.out⟩

theorem rIAdd_any (x y : Int) (g1 g2 : Bool) (p1 p2 : Option Addr) (l1 c1 l2 c2 : Nat) (w : World) (hx : l1 ≤ 100000) (hy : l2 ≤ 100000) (h1 : IsRI w g1 p1 l1 c1 x) (h2 : IsRI w g2 p2 l2 c2 y) :
    Calls Tryz.prog 62 #[.agg #[.bool g1, .slice p1 l1 c1], .agg #[.bool g2, .slice p2 l2 c2]] w (RetRI w (x + y)) := by
  by_cases hg : g1 = g2
  · exact rIAdd_same x y g1 g2 p1 p2 l1 c1 l2 c2 w hg hx hy h1 h2
  · have hd : (g1 == g2) = false := beq_eq_false_iff_ne.2 hg
    rcases Nat.lt_or_ge x.natAbs y.natAbs with h | h
    · exact rIAdd_lt x y g1 g2 p1 p2 l1 c1 l2 c2 w hd h hx hy h1 h2
    · exact rIAdd_ge x y g1 g2 p1 p2 l1 c1 l2 c2 w hd h hx hy h1 h2
end Go.Proofs.YtjhjlecnjkjbbaaGreatDoor
