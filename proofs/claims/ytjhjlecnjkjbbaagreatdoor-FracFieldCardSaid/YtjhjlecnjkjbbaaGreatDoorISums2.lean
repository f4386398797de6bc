/- Differences, products and comparisons of the document's integers; the document's integer of a program's; whether they are alike. -/
import Derived.Test.YtjhjlecnjkjbbaaGreatDoorISums
namespace Go.Proofs.YtjhjlecnjkjbbaaGreatDoor
open Go.RowKit

theorem rINeg_want (w : World) (u : Value) (x : Int) (h : RINum w u x) : Calls Tryz.prog 72 #[u] w fun e w' => ∃ v', e = .returned v' ∧ RINum w' v' (-x) ∧ Below w.heap.size w w' := by
  obtain ⟨g, p, l, c, rfl, h⟩ := h
  exact (rINeg_any x g p l c w h).mono fun _ _ h => h.want
theorem rISign_want (w : World) (u : Value) (x : Int) (h : RINum w u x) : Calls Tryz.prog 70 #[u] w fun e w' => ∃ v', e = .returned v' ∧ v' = .int .i64 (cmp3 x 0) ∧ Below w.heap.size w w' := by
  obtain ⟨g, p, l, c, rfl, h⟩ := h
  exact (rISign_any x g p l c w h).mono fun _ _ ⟨h, hb⟩ => ⟨_, h, rfl, hb⟩
theorem rIAdd_want (w : World) (u v : Value) (x y : Int) (hx : (ds x.natAbs).length ≤ 400) (hy : (ds y.natAbs).length ≤ 400) (h1 : RINum w u x) (h2 : RINum w v y) :
    Calls Tryz.prog 62 #[u, v] w fun e w' => ∃ v', e = .returned v' ∧ RINum w' v' (x + y) ∧ Below w.heap.size w w' := by
  obtain ⟨g, p, l, c, rfl, h1⟩ := h1
  obtain ⟨f, q, k, d, rfl, h2⟩ := h2
  have := h1.2.short hx; have := h2.2.short hy
  exact (rIAdd_any x y g f p q l c k d w (by omega) (by omega) h1 h2).mono fun _ _ h => h.want
theorem cmp3_sub (x y : Int) : cmp3 (x - y) 0 = cmp3 x y := by unfold cmp3; split <;> split <;> (try split) <;> (try split) <;> omega

set_option maxRecDepth 100000 in
set_option maxHeartbeats 2000000 in
theorem rISub_any (x y : Int) (g1 g2 : Bool) (p1 p2 : Option Addr) (l1 c1 l2 c2 : Nat) (w : World) (hx : (ds x.natAbs).length ≤ 60) (hy : (ds y.natAbs).length ≤ 60) (h1 : IsRI w g1 p1 l1 c1 x) (h2 : IsRI w g2 p2 l2 c2 y) :
    Calls Tryz.prog 119 #[.agg #[.bool g1, .slice p1 l1 c1], .agg #[.bool g2, .slice p2 l2 c2]] w (RetRI w (x - y)) := by
  have HX := Lib.hid hx; have HY := Lib.hid (show (ds (-y).natAbs).length ≤ 400 by rw [ds_neg]; omega)
  rw [Int.sub_eq_add_neg]
  have H1 := Lib.hid h1; have H2 := Lib.hid h2
  clear h1 h2 hx hy
  go_enter Tryz.func119, Tryz.ntmps119
  go_wp2
  obtain ⟨W, a, b, r, hW, hr, hbb, ha, ⟨A0, A1⟩, ⟨B0, B1⟩, OLD_r, ia, ib, zw, HB⟩ := rboxes2 w g1 g2 p1 p2 l1 c1 l2 c2
  rw [← hW, ← hr, ← hbb, ← ha]
  clear hW hr hbb ha
  refine region_told (T := [0, 1, 2, 3]) (slots := [5, 6, 7, 8])
      (tab := [.rint x, .rint y, .rint (-y), .rint (x + -y), .any])
      (D := [⟨r, .rint, none, 4, (.rint (x + -y)), (.agg #[.bool false, .slice none 0 0])⟩])
      (F := [(.agg #[.bool g1, .slice p1 l1 c1], .rint x), (.agg #[.bool g2, .slice p2 l2 c2], .rint y)])
      (by kernel_rfl) (by kernel_rfl) (by kernel_rfl) (by kernel_rfl) (by kernel_rfl) (by kernel_rfl) (by kernel_rfl) ?_ ?_ ?_ ?_ ?_
  · skip
    refine List.Pairwise.cons (fun y hy => ?_) ?_
    · cases hy
    exact List.Pairwise.nil
  · intro f hf; simp only [List.mem_cons, List.not_mem_nil, or_false] at hf; rcases hf with rfl | rfl
    · exact ⟨_, _, _, _, rfl, H1.out.mono HB⟩
    · exact ⟨_, _, _, _, rfl, H2.out.mono HB⟩
  · intro x hx hal; simp only [List.mem_cons, List.not_mem_nil, or_false] at hx; rcases hx with rfl
    · exact ⟨OLD_r.1, OLD_r.2, OLD_r.1.lt rfl⟩
  · skip
    refine AllTold.cons rfl (fun β E W hA hF hc hf hE hV hP hB hS => Or.inl ⟨rfl, (by kernel_rfl), ?_⟩) ?_
    · have e1 : E (.tmp 2) = .pointer (some ⟨a, 0, none⟩) := hE 2 (by kernel_rfl)
      have q0 := hA.cell A0 ia
      have q1 := hA.cell A1 ia
      clear hE hV hP hB hS
      exact Does.value (v := .agg #[.bool g1, .slice p1 l1 c1]) (w' := W) (by go_simp) ⟨hF (_, _) mb0, Below.refl _ _⟩
    refine AllTold.cons rfl (fun β E W hA hF hc hf hE hV hP hB hS => Or.inl ⟨rfl, (by kernel_rfl), ?_⟩) ?_
    · have e1 : E (.tmp 3) = .pointer (some ⟨b, 0, none⟩) := hE 3 (by kernel_rfl)
      have q0 := hA.cell B0 ib
      have q1 := hA.cell B1 ib
      clear hE hV hP hB hS
      exact Does.value (v := .agg #[.bool g2, .slice p2 l2 c2]) (w' := W) (by go_simp) ⟨hF (_, _) mb1, Below.refl _ _⟩
    refine AllTold.cons rfl (fun β E W hA hF hc hf hE hV hP hB hS => Or.inl ⟨rfl, (by kernel_rfl), ?_⟩) ?_
    · have e1 : Means W (.rint y) (E (.tmp 6)) := hV 1 6 (by kernel_rfl) rfl
      clear hE hV hP hB hS
      exact Does.call (w' := W) (by go_simp) ((rINeg_want W _ y e1).mono fun e w' ⟨v, h1, h2, h3⟩ => ⟨v, h1, h2, h3⟩)
    refine AllTold.cons rfl (fun β E W hA hF hc hf hE hV hP hB hS => Or.inl ⟨rfl, (by kernel_rfl), ?_⟩) ?_
    · have e1 : Means W (.rint x) (E (.tmp 5)) := hV 0 5 (by kernel_rfl) rfl
      have e2 : Means W (.rint (-y)) (E (.tmp 7)) := hV 2 7 (by kernel_rfl) rfl
      clear hE hV hP hB hS
      exact Does.call (w' := W) (by go_simp) ((rIAdd_want W _ _ x (-y) (by have := HX.out; omega) HY.out e1 e2).mono fun e w' ⟨v, h1, h2, h3⟩ => ⟨v, h1, h2, h3⟩)
    refine AllTold.cons rfl (fun β E W hA hF hc hf hE hV hP hB hS => Or.inr (Or.inl ⟨rfl, ⟨_, mb0, rfl, (by kernel_rfl), rfl, ?_⟩⟩)) ?_
    · have e1 : E (.tmp 4) = .pointer (some ⟨r, 0, none⟩) := hE 4 (by kernel_rfl)
      have e2 : Means W (.rint (x + -y)) (E (.tmp 8)) := hV 3 8 (by kernel_rfl) rfl
      obtain ⟨hbx, hfr⟩ := hB _ mb0 (by kernel_rfl) (by kernel_rfl)
      replace hbx : BoxHas W r .rint _ := hbx
      replace hfr : BoxFree W r .rint := hfr
      obtain ⟨_, _, _, _, _, q0, q1⟩ := hbx.rint
      have t0 := hfr 0 (by show 0 < 2; decide)
      have t1 := hfr 1 (by show 1 < 2; decide)
      obtain ⟨g, p, l, c, e2', hI⟩ := e2
      clear hE hV hP hB hS
      exact Does.skip (by go_simp) ⟨_, Stored.mkRint (b := r), ⟨g, p, l, c, rfl, hI⟩⟩
    exact AllTold.nil
  · intro β f W' hf hS hN hA _ _ _ _
    obtain ⟨g5, p5, l5, c5, r0, r1, hI1⟩ := (show Says W' r .rint (.rint (x + -y)) from (hS _ mb0).1).rint
    have HBW := Lib.hid (HB.trans (hA.below (B := w.heap.size) (by simp [oldBlocks]; exact zw) HB.size))
    have I1 := Lib.hid hI1
    clear hf hS hN hA hI1
    simp only [fillSlots, List.setIfInBounds_toArray, List.set_cons_succ, List.set_cons_zero]
    go_wp2
    exact bodyPost_ret (v := .agg #[.bool g5, .slice p5 l5 c5]) (by simp [results, Tryz.results119, go_sem, r0, r1]) rfl ⟨_, _, _, _, rfl, I1.out, HBW.out⟩
set_option maxRecDepth 100000 in
set_option maxHeartbeats 2000000 in
theorem rIMul_any (x y : Int) (g1 g2 : Bool) (p1 p2 : Option Addr) (l1 c1 l2 c2 : Nat) (w : World) (hx : (ds x.natAbs).length ≤ 60) (hy : (ds y.natAbs).length ≤ 60) (h1 : IsRI w g1 p1 l1 c1 x) (h2 : IsRI w g2 p2 l2 c2 y) :
    Calls Tryz.prog 63 #[.agg #[.bool g1, .slice p1 l1 c1], .agg #[.bool g2, .slice p2 l2 c2]] w (RetRI w (x * y)) := by
  obtain ⟨e1, h1⟩ := h1
  obtain ⟨e2, h2⟩ := h2
  have k1 := h1.short hx; have k2 := h2.short hy
  have HM := Lib.hid (fun W a b => rMul_any p1 p2 l1 c1 l2 c2 x.natAbs y.natAbs W (by omega) (by omega) a b)
  have HF := Lib.hid (fun p l c W a => rI_any (g1 != g2) (x.natAbs * y.natAbs) p l c W a)
  rw [show sgn (g1 != g2) (x.natAbs * y.natAbs) = x * y by rw [e1, e2]; exact sgn_mul x y] at HF
  have H1 := Lib.hid h1; have H2 := Lib.hid h2
  clear e1 e2 h1 h2 hx hy k1 k2
  go_enter Tryz.func63, Tryz.ntmps63
  go_wp2
  obtain ⟨W, a, b, r, hW, hr, hbb, ha, ⟨A0, A1⟩, ⟨B0, B1⟩, OLD_r, ia, ib, zw, HB⟩ := rboxes2 w g1 g2 p1 p2 l1 c1 l2 c2
  rw [← hW, ← hr, ← hbb, ← ha]
  clear hW hr hbb ha
  refine region_told (T := [0, 1, 2, 3, 4, 5, 6, 7, 8, 9, 10]) (slots := [5, 6, 7, 8, 9, 10, 11, 12, 13, 14, 15])
      (tab := [.is (.pointer (some ⟨a, 0, none⟩)), .is (.bool g1), .is (.pointer (some ⟨b, 0, none⟩)), .is (.bool g2), .is (.bool (g1 != g2)), .is (.pointer (some ⟨a, 1, none⟩)), .is (.slice p1 l1 c1), .is (.pointer (some ⟨b, 1, none⟩)), .is (.slice p2 l2 c2), .rnum (x.natAbs * y.natAbs), .rint (x * y), .any])
      (D := [⟨r, .rint, none, 11, (.rint (x * y)), (.agg #[.bool false, .slice none 0 0])⟩])
      (F := [(.slice p1 l1 c1, .rnum x.natAbs), (.slice p2 l2 c2, .rnum y.natAbs)])
      (by kernel_rfl) (by kernel_rfl) (by kernel_rfl) (by kernel_rfl) (by kernel_rfl) (by kernel_rfl) (by kernel_rfl) ?_ ?_ ?_ ?_ ?_
  · skip
    refine List.Pairwise.cons (fun y hy => ?_) ?_
    · cases hy
    exact List.Pairwise.nil
  · intro f hf; simp only [List.mem_cons, List.not_mem_nil, or_false] at hf; rcases hf with rfl | rfl
    · exact ⟨_, _, _, rfl, H1.out.mono HB⟩
    · exact ⟨_, _, _, rfl, H2.out.mono HB⟩
  · intro x hx hal; simp only [List.mem_cons, List.not_mem_nil, or_false] at hx; rcases hx with rfl
    · exact ⟨OLD_r.1, OLD_r.2, OLD_r.1.lt rfl⟩
  · skip
    refine AllTold.cons rfl (fun β E W hA hF hc hf hE hV hP hB hS => Or.inl ⟨rfl, (by kernel_rfl), ?_⟩) ?_
    · have e1 : E (.tmp 2) = .pointer (some ⟨a, 0, none⟩) := hE 2 (by kernel_rfl)
      clear hE hV hP hB hS
      exact Does.value (w' := W) (by go_simp) ⟨rfl, Below.refl _ _⟩
    refine AllTold.cons rfl (fun β E W hA hF hc hf hE hV hP hB hS => Or.inl ⟨rfl, (by kernel_rfl), ?_⟩) ?_
    · have e1 : E (.tmp 5) = (.pointer (some ⟨a, 0, none⟩)) := hV 0 5 (by kernel_rfl) rfl
      have q0 := hA.cell A0 ia
      clear hE hV hP hB hS
      exact Does.value (w' := W) (by go_simp) ⟨rfl, Below.refl _ _⟩
    refine AllTold.cons rfl (fun β E W hA hF hc hf hE hV hP hB hS => Or.inl ⟨rfl, (by kernel_rfl), ?_⟩) ?_
    · have e1 : E (.tmp 3) = .pointer (some ⟨b, 0, none⟩) := hE 3 (by kernel_rfl)
      clear hE hV hP hB hS
      exact Does.value (w' := W) (by go_simp) ⟨rfl, Below.refl _ _⟩
    refine AllTold.cons rfl (fun β E W hA hF hc hf hE hV hP hB hS => Or.inl ⟨rfl, (by kernel_rfl), ?_⟩) ?_
    · have e1 : E (.tmp 7) = (.pointer (some ⟨b, 0, none⟩)) := hV 2 7 (by kernel_rfl) rfl
      have q0 := hA.cell B0 ib
      clear hE hV hP hB hS
      exact Does.value (w' := W) (by go_simp) ⟨rfl, Below.refl _ _⟩
    refine AllTold.cons rfl (fun β E W hA hF hc hf hE hV hP hB hS => Or.inl ⟨rfl, (by kernel_rfl), ?_⟩) ?_
    · have e1 : E (.tmp 6) = (.bool g1) := hV 1 6 (by kernel_rfl) rfl
      have e2 : E (.tmp 8) = (.bool g2) := hV 3 8 (by kernel_rfl) rfl
      clear hE hV hP hB hS
      exact ev_neqB e1 e2 rfl
    refine AllTold.cons rfl (fun β E W hA hF hc hf hE hV hP hB hS => Or.inl ⟨rfl, (by kernel_rfl), ?_⟩) ?_
    · have e1 : E (.tmp 2) = .pointer (some ⟨a, 0, none⟩) := hE 2 (by kernel_rfl)
      clear hE hV hP hB hS
      exact Does.value (w' := W) (by go_simp) ⟨rfl, Below.refl _ _⟩
    refine AllTold.cons rfl (fun β E W hA hF hc hf hE hV hP hB hS => Or.inl ⟨rfl, (by kernel_rfl), ?_⟩) ?_
    · have e1 : E (.tmp 10) = (.pointer (some ⟨a, 1, none⟩)) := hV 5 10 (by kernel_rfl) rfl
      have q0 := hA.cell A1 ia
      clear hE hV hP hB hS
      exact Does.value (w' := W) (by go_simp) ⟨rfl, Below.refl _ _⟩
    refine AllTold.cons rfl (fun β E W hA hF hc hf hE hV hP hB hS => Or.inl ⟨rfl, (by kernel_rfl), ?_⟩) ?_
    · have e1 : E (.tmp 3) = .pointer (some ⟨b, 0, none⟩) := hE 3 (by kernel_rfl)
      clear hE hV hP hB hS
      exact Does.value (w' := W) (by go_simp) ⟨rfl, Below.refl _ _⟩
    refine AllTold.cons rfl (fun β E W hA hF hc hf hE hV hP hB hS => Or.inl ⟨rfl, (by kernel_rfl), ?_⟩) ?_
    · have e1 : E (.tmp 12) = (.pointer (some ⟨b, 1, none⟩)) := hV 7 12 (by kernel_rfl) rfl
      have q0 := hA.cell B1 ib
      clear hE hV hP hB hS
      exact Does.value (w' := W) (by go_simp) ⟨rfl, Below.refl _ _⟩
    refine AllTold.cons rfl (fun β E W hA hF hc hf hE hV hP hB hS => Or.inl ⟨rfl, (by kernel_rfl), ?_⟩) ?_
    · have e1 : E (.tmp 11) = (.slice p1 l1 c1) := hV 6 11 (by kernel_rfl) rfl
      have e2 : E (.tmp 13) = (.slice p2 l2 c2) := hV 8 13 (by kernel_rfl) rfl
      clear hE hV hP hB hS
      exact Does.call (w' := W) (by go_simp) ((HM.out W (hF (_, _) mb0).isR (hF (_, _) mb1).isR).mono fun e w' h => h.want)
    refine AllTold.cons rfl (fun β E W hA hF hc hf hE hV hP hB hS => Or.inl ⟨rfl, (by kernel_rfl), ?_⟩) ?_
    · have e1 : E (.tmp 9) = (.bool (g1 != g2)) := hV 4 9 (by kernel_rfl) rfl
      have e2 : Means W (.rnum (x.natAbs * y.natAbs)) (E (.tmp 14)) := hV 9 14 (by kernel_rfl) rfl
      clear hE hV hP hB hS
      obtain ⟨q, k, d, e2', hI⟩ := e2
      exact Does.call (w' := W) (by go_simp) ((HF.out q k d W hI).mono fun e w' h => h.want)
    refine AllTold.cons rfl (fun β E W hA hF hc hf hE hV hP hB hS => Or.inr (Or.inl ⟨rfl, ⟨_, mb0, rfl, (by kernel_rfl), rfl, ?_⟩⟩)) ?_
    · have e1 : E (.tmp 4) = .pointer (some ⟨r, 0, none⟩) := hE 4 (by kernel_rfl)
      have e2 : Means W (.rint (x * y)) (E (.tmp 15)) := hV 10 15 (by kernel_rfl) rfl
      obtain ⟨hbx, hfr⟩ := hB _ mb0 (by kernel_rfl) (by kernel_rfl)
      replace hbx : BoxHas W r .rint _ := hbx
      replace hfr : BoxFree W r .rint := hfr
      obtain ⟨_, _, _, _, _, q0, q1⟩ := hbx.rint
      have t0 := hfr 0 (by show 0 < 2; decide)
      have t1 := hfr 1 (by show 1 < 2; decide)
      obtain ⟨g, p, l, c, e2', hI⟩ := e2
      clear hE hV hP hB hS
      exact Does.skip (by go_simp) ⟨_, Stored.mkRint (b := r), ⟨g, p, l, c, rfl, hI⟩⟩
    exact AllTold.nil
  · intro β f W' hf hS hN hA _ _ _ _
    obtain ⟨g5, p5, l5, c5, r0, r1, hI1⟩ := (show Says W' r .rint (.rint (x * y)) from (hS _ mb0).1).rint
    have HBW := Lib.hid (HB.trans (hA.below (B := w.heap.size) (by simp [oldBlocks]; exact zw) HB.size))
    have I1 := Lib.hid hI1
    clear hf hS hN hA hI1
    simp only [fillSlots, List.setIfInBounds_toArray, List.set_cons_succ, List.set_cons_zero]
    go_wp2
    exact bodyPost_ret (v := .agg #[.bool g5, .slice p5 l5 c5]) (by simp [results, Tryz.results63, go_sem, r0, r1]) rfl ⟨_, _, _, _, rfl, I1.out, HBW.out⟩
theorem rIMul_want (w : World) (u v : Value) (x y : Int) (hx : (ds x.natAbs).length ≤ 60) (hy : (ds y.natAbs).length ≤ 60) (h1 : RINum w u x) (h2 : RINum w v y) :
    Calls Tryz.prog 63 #[u, v] w fun e w' => ∃ v', e = .returned v' ∧ RINum w' v' (x * y) ∧ Below w.heap.size w w' := by
  obtain ⟨g, p, l, c, rfl, h1⟩ := h1
  obtain ⟨f, q, k, d, rfl, h2⟩ := h2
  exact (rIMul_any x y g f p q l c k d w hx hy h1 h2).mono fun _ _ h => h.want

theorem rboxes (w : World) (g1 g2 : Bool) (p1 p2 : Option Addr) (l1 c1 l2 c2 : Nat) :
    ∃ W a b, W = (w.alloc (.cells #[.bool g1, .slice p1 l1 c1] 28)).alloc (.cells #[.bool g2, .slice p2 l2 c2] 28) ∧ b = w.heap.size + 1 ∧ a = w.heap.size ∧ RBox W a g1 p1 l1 c1 ∧ RBox W b g2 p2 l2 c2 ∧ Below w.heap.size w W := by
  refine ⟨_, _, _, rfl, rfl, rfl, ⟨?_, ?_⟩, ⟨?_, ?_⟩, below_alloc (below_alloc (Below.refl _ _) _) _⟩
  all_goals simp [go_sem]

set_option maxRecDepth 100000 in
set_option maxHeartbeats 2000000 in
theorem rICmp_any (x y : Int) (g1 g2 : Bool) (p1 p2 : Option Addr) (l1 c1 l2 c2 : Nat) (w : World) (hx : (ds x.natAbs).length ≤ 60) (hy : (ds y.natAbs).length ≤ 60) (h1 : IsRI w g1 p1 l1 c1 x) (h2 : IsRI w g2 p2 l2 c2 y) :
    Calls Tryz.prog 68 #[.agg #[.bool g1, .slice p1 l1 c1], .agg #[.bool g2, .slice p2 l2 c2]] w fun e w' => e = .returned (.int .i64 (cmp3 x y)) ∧ Below w.heap.size w w' := by
  have HX := Lib.hid hx; have HY := Lib.hid hy
  rw [← cmp3_sub]
  have H1 := Lib.hid h1; have H2 := Lib.hid h2
  clear h1 h2 hx hy
  go_enter Tryz.func68, Tryz.ntmps68
  obtain ⟨W, a, b, hW, hbb, ha, ⟨A0, A1⟩, ⟨B0, B1⟩, HB⟩ := rboxes w g1 g2 p1 p2 l1 c1 l2 c2
  go_wp2_with fail
  rw [← hW]
  clear hW hbb ha A0 A1 B0 B1
  refine (rISub_any x y g1 g2 p1 p2 l1 c1 l2 c2 W HX.out HY.out (H1.out.mono HB) (H2.out.mono HB)).mono ?_
  rintro e w1 ⟨g3, p3, l3, c3, rfl, h3, hb⟩
  have H3 := Lib.hid h3
  have HB := Lib.hid (below_step HB hb)
  clear h3 hb
  go_wp2_with fail
  refine (rISign_any (x - y) g3 p3 l3 c3 w1 H3.out).mono ?_
  rintro e w2 ⟨rfl, hb⟩
  have HB := Lib.hid (below_step HB.out hb)
  clear hb
  go_wp2
  go_ret
  exact ⟨rfl, HB.out⟩
theorem rICmp_want (w : World) (u v : Value) (x y : Int) (hx : (ds x.natAbs).length ≤ 60) (hy : (ds y.natAbs).length ≤ 60) (h1 : RINum w u x) (h2 : RINum w v y) :
    Calls Tryz.prog 68 #[u, v] w fun e w' => ∃ v', e = .returned v' ∧ v' = .int .i64 (cmp3 x y) ∧ Below w.heap.size w w' := by
  obtain ⟨g, p, l, c, rfl, h1⟩ := h1
  obtain ⟨f, q, k, d, rfl, h2⟩ := h2
  exact (rICmp_any x y g f p q l c k d w hx hy h1 h2).mono fun _ _ ⟨h, hb⟩ => ⟨_, h, rfl, hb⟩

set_option maxHeartbeats 1000000 in
theorem hOutNat_any (n : Nat) (s : Int) (p : Option Addr) (l c : Nat) (w : World) (hl : (ds n).length ≤ 400) (h : IsN w s p l c n) :
    Calls Tryz.prog 105 #[.agg #[.int .u64 s, .slice p l c]] w (RetR w n) := by
  have hmb : (be n).length ≤ 1000000 := by
    have h1 := bitLen_ds n
    have h2 := bitLen_lt_pow.1 (getD_lt (ds_lt n) (by omega) ((ds n).length - 1))
    have := ds_pos n
    rw [be_length]
    omega
  have H := Lib.hid h; have HL := Lib.hid hl
  clear h hl
  go_enter Tryz.func105, Tryz.ntmps105
  go_wp2_with fail
  refine (nbytes_any n s p l c _ (H.out.mono (below_alloc (Below.refl _ _) _)) (by have := HL.out; omega)).mono ?_
  rintro e w1 ⟨b, off, c1, rfl, _, _, x4, _, hb⟩
  have X4 := Lib.hid x4
  have HB := Lib.hid (below_step (below_alloc (Below.refl _ _) _) hb)
  clear x4 hb
  go_wp2_with fail
  refine (rFrom_any b off c1 _ (be n) w1 rfl hmb X4.out (be_lt n)).mono ?_
  rintro e w2 ⟨p1, l1, e1, rfl, h1, hb⟩
  rw [nb_be] at h1
  have H1 := Lib.hid h1
  have HB := Lib.hid (below_step HB.out hb)
  clear h1 hb
  go_wp2
  exact bodyPost_ret (v := .slice p1 l1 e1) (by simp [results, Tryz.results105, go_sem]) rfl ⟨_, _, _, rfl, H1.out, HB.out⟩
theorem hOutNat_want (w : World) (u : Value) (n : Nat) (hl : (ds n).length ≤ 400) (h : Num w u n) : Calls Tryz.prog 105 #[u] w fun e w' => ∃ v', e = .returned v' ∧ RNum w' v' n ∧ Below w.heap.size w w' := by
  obtain ⟨s, p, l, c, rfl, h⟩ := h
  exact (hOutNat_any n s p l c w hl h).mono fun _ _ h => h.want
theorem rI_want (w : World) (g : Bool) (u : Value) (n : Nat) (z : Int) (hz : sgn g n = z) (h : RNum w u n) : Calls Tryz.prog 42 #[.bool g, u] w fun e w' => ∃ v', e = .returned v' ∧ RINum w' v' z ∧ Below w.heap.size w w' := by
  obtain ⟨p, l, c, rfl, h⟩ := h
  rw [← hz]
  exact (rI_any g n p l c w h).mono fun _ _ h => h.want
theorem cmp3_neg (z : Int) : decide (cmp3 z 0 < 0) = decide (z < 0) := by unfold cmp3; split <;> (try split) <;> simp <;> omega

set_option maxRecDepth 100000 in
set_option maxHeartbeats 2000000 in
theorem hOutInt_any (z : Int) (g : Bool) (s : Int) (p : Option Addr) (l c : Nat) (w : World) (hz : (ds z.natAbs).length ≤ 400) (h : IsI w g s p l c z) :
    Calls Tryz.prog 104 #[.agg #[.bool g, .int .u64 s, .slice p l c]] w (RetRI w z) := by
  have HZ := Lib.hid hz; have H := Lib.hid h
  clear h hz
  go_enter Tryz.func104, Tryz.ntmps104
  go_wp2
  obtain ⟨W, hW⟩ : ∃ W, W = (w.alloc (.cells #[.bool g, .int .u64 s, .slice p l c] 37)).alloc (.cells #[.bool false, .slice none 0 0] 28) := ⟨_, rfl⟩
  obtain ⟨r, hr⟩ : ∃ r, r = w.heap.size + 1 := ⟨_, rfl⟩
  obtain ⟨a, ha⟩ : ∃ a, a = w.heap.size := ⟨_, rfl⟩
  have HB : Below w.heap.size w W := by rw [hW]; exact below_alloc (below_alloc (Below.refl _ _) _) _
  have A0 : W.cell? ⟨a, 0, none⟩ = some (.bool g) := by simp [hW, ha, go_sem]
  have A1 : W.cell? ⟨a, 1, none⟩ = some (.int .u64 s) := by simp [hW, ha, go_sem]
  have A2 : W.cell? ⟨a, 2, none⟩ = some (.slice p l c) := by simp [hW, ha, go_sem]
  have OLD_r : BoxHas W r .rint (.agg #[.bool false, .slice none 0 0]) ∧ BoxFree W r .rint := ⟨.mkRint (by simp [hW, hr, go_sem]) (by simp [hW, hr, go_sem]), free2 (by simp [hW, hr, go_sem]) (by simp [hW, hr, go_sem]) rfl⟩
  have ia : a ∉ [r] := by simp; omega
  have zw : w.heap.size ≤ r := by omega
  rw [← hW, ← hr, ← ha]
  clear hW hr ha
  refine region_told (T := [0, 1, 2, 3, 4, 5, 6]) (slots := [3, 4, 5, 6, 7, 8, 9])
      (tab := [.int z, .is (.int .i64 (cmp3 z 0)), .is (.bool (decide (z < 0))), .int z, .num z.natAbs, .rnum z.natAbs, .rint z, .any])
      (D := [⟨r, .rint, none, 7, (.rint z), (.agg #[.bool false, .slice none 0 0])⟩])
      (F := [(.agg #[.bool g, .int .u64 s, .slice p l c], .int z)])
      (by kernel_rfl) (by kernel_rfl) (by kernel_rfl) (by kernel_rfl) (by kernel_rfl) (by kernel_rfl) (by kernel_rfl) ?_ ?_ ?_ ?_ ?_
  · skip
    refine List.Pairwise.cons (fun y hy => ?_) ?_
    · cases hy
    exact List.Pairwise.nil
  · intro f hf; simp only [List.mem_cons, List.not_mem_nil, or_false] at hf; rcases hf with rfl
    · exact ⟨_, _, _, _, _, rfl, H.out.mono HB⟩
  · intro x hx hal; simp only [List.mem_cons, List.not_mem_nil, or_false] at hx; rcases hx with rfl
    · exact ⟨OLD_r.1, OLD_r.2, OLD_r.1.lt rfl⟩
  · skip
    refine AllTold.cons rfl (fun β E W hA hF hc hf hE hV hP hB hS => Or.inl ⟨rfl, (by kernel_rfl), ?_⟩) ?_
    · have e1 : E (.tmp 1) = .pointer (some ⟨a, 0, none⟩) := hE 1 (by kernel_rfl)
      have q0 := hA.cell A0 ia
      have q1 := hA.cell A1 ia
      have q2 := hA.cell A2 ia
      clear hE hV hP hB hS
      exact ev_loadI e1 q0 q1 q2 (hF (_, _) mb0)
    refine AllTold.cons rfl (fun β E W hA hF hc hf hE hV hP hB hS => Or.inl ⟨rfl, (by kernel_rfl), ?_⟩) ?_
    · have e1 : Means W (.int z) (E (.tmp 3)) := hV 0 3 (by kernel_rfl) rfl
      clear hE hV hP hB hS
      exact Does.call (w' := W) (by go_simp) ((iSign_want W _ z e1).mono fun e w' ⟨v, h1, h2, h3⟩ => ⟨v, h1, h2, h3⟩)
    refine AllTold.cons rfl (fun β E W hA hF hc hf hE hV hP hB hS => Or.inl ⟨rfl, (by kernel_rfl), ?_⟩) ?_
    · have e1 : E (.tmp 4) = (.int .i64 (cmp3 z 0)) := hV 1 4 (by kernel_rfl) rfl
      clear hE hV hP hB hS
      exact ev_lss e1 (hc _) (cmp3_neg z)
    refine AllTold.cons rfl (fun β E W hA hF hc hf hE hV hP hB hS => Or.inl ⟨rfl, (by kernel_rfl), ?_⟩) ?_
    · have e1 : E (.tmp 1) = .pointer (some ⟨a, 0, none⟩) := hE 1 (by kernel_rfl)
      have q0 := hA.cell A0 ia
      have q1 := hA.cell A1 ia
      have q2 := hA.cell A2 ia
      clear hE hV hP hB hS
      exact ev_loadI e1 q0 q1 q2 (hF (_, _) mb0)
    refine AllTold.cons rfl (fun β E W hA hF hc hf hE hV hP hB hS => Or.inl ⟨rfl, (by kernel_rfl), ?_⟩) ?_
    · have e1 : Means W (.int z) (E (.tmp 6)) := hV 3 6 (by kernel_rfl) rfl
      clear hE hV hP hB hS
      exact Does.call (w' := W) (by go_simp) ((iAbs_want W _ z e1).mono fun e w' ⟨v, h1, h2, h3⟩ => ⟨v, h1, h2, h3⟩)
    refine AllTold.cons rfl (fun β E W hA hF hc hf hE hV hP hB hS => Or.inl ⟨rfl, (by kernel_rfl), ?_⟩) ?_
    · have e1 : Means W (.num z.natAbs) (E (.tmp 7)) := hV 4 7 (by kernel_rfl) rfl
      clear hE hV hP hB hS
      exact Does.call (w' := W) (by go_simp) ((hOutNat_want W _ z.natAbs HZ.out e1).mono fun e w' ⟨v, h1, h2, h3⟩ => ⟨v, h1, h2, h3⟩)
    refine AllTold.cons rfl (fun β E W hA hF hc hf hE hV hP hB hS => Or.inl ⟨rfl, (by kernel_rfl), ?_⟩) ?_
    · have e1 : E (.tmp 5) = (.bool (decide (z < 0))) := hV 2 5 (by kernel_rfl) rfl
      have e2 : Means W (.rnum z.natAbs) (E (.tmp 8)) := hV 5 8 (by kernel_rfl) rfl
      clear hE hV hP hB hS
      exact Does.call (w' := W) (by go_simp) ((rI_want W _ _ z.natAbs z (sgn_is z) e2).mono fun e w' ⟨v, h1, h2, h3⟩ => ⟨v, h1, h2, h3⟩)
    refine AllTold.cons rfl (fun β E W hA hF hc hf hE hV hP hB hS => Or.inr (Or.inl ⟨rfl, ⟨_, mb0, rfl, (by kernel_rfl), rfl, ?_⟩⟩)) ?_
    · have e1 : E (.tmp 2) = .pointer (some ⟨r, 0, none⟩) := hE 2 (by kernel_rfl)
      have e2 : Means W (.rint z) (E (.tmp 9)) := hV 6 9 (by kernel_rfl) rfl
      obtain ⟨hbx, hfr⟩ := hB _ mb0 (by kernel_rfl) (by kernel_rfl)
      replace hbx : BoxHas W r .rint _ := hbx
      replace hfr : BoxFree W r .rint := hfr
      obtain ⟨_, _, _, _, _, q0, q1⟩ := hbx.rint
      have t0 := hfr 0 (by show 0 < 2; decide)
      have t1 := hfr 1 (by show 1 < 2; decide)
      obtain ⟨g, p, l, c, e2', hI⟩ := e2
      clear hE hV hP hB hS
      exact Does.skip (by go_simp) ⟨_, Stored.mkRint (b := r), ⟨g, p, l, c, rfl, hI⟩⟩
    exact AllTold.nil
  · intro β f W' hf hS hN hA _ _ _ _
    obtain ⟨g5, p5, l5, c5, r0, r1, hI1⟩ := (show Says W' r .rint (.rint (z)) from (hS _ mb0).1).rint
    have HBW := Lib.hid (HB.trans (hA.below (B := w.heap.size) (by simp [oldBlocks]; exact zw) HB.size))
    have I1 := Lib.hid hI1
    clear hf hS hN hA hI1
    simp only [fillSlots, List.setIfInBounds_toArray, List.set_cons_succ, List.set_cons_zero]
    go_wp2
    exact bodyPost_ret (v := .agg #[.bool g5, .slice p5 l5 c5]) (by simp [results, Tryz.results104, go_sem, r0, r1]) rfl ⟨_, _, _, _, rfl, I1.out, HBW.out⟩
theorem hOutInt_want (w : World) (u : Value) (z : Int) (hz : (ds z.natAbs).length ≤ 400) (h : INum w u z) : Calls Tryz.prog 104 #[u] w fun e w' => ∃ v', e = .returned v' ∧ RINum w' v' z ∧ Below w.heap.size w w' := by
  obtain ⟨g, s, p, l, c, rfl, h⟩ := h
  exact (hOutInt_any z g s p l c w hz h).mono fun _ _ h => h.want
end Go.Proofs.YtjhjlecnjkjbbaaGreatDoor
