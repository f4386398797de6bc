/- Signs, sums, products and comparisons of the program's integers. -/
import Derived.Test.YtfjjmhbffbhhdaaGreatDoorQNum
import Derived.Test.YtfjjmhbffbhhdaaGreatDoorDivN
import Derived.Test.YtfjjmhbffbhhdaaGreatDoorReg
namespace Go.Proofs.YtfjjmhbffbhhdaaGreatDoor
open Go.RowKit

set_option maxHeartbeats 400000 in
theorem iSign_any (z : Int) (g : Bool) (s : Int) (p : Option Addr) (l c : Nat) (w : World) (h : IsI w g s p l c z) :
    Calls Tryz.prog 12 #[.agg #[.bool g, .int .u64 s, .slice p l c]] w fun e w' => e = .returned (.int .i64 (cmp3 z 0)) ∧ Below w.heap.size w w' := by
  obtain ⟨hg, h⟩ := h
  rcases Int.lt_or_le z 0 with hz | hz
  · rw [cmp3_lt hz]
    obtain rfl : g = true := by rw [hg]; exact decide_eq_true hz
    clear hg h hz
    go_enter Tryz.func12, Tryz.ntmps12
    go_wp2
    go_ret
    exact ⟨rfl, below_alloc (Below.refl _ _) _⟩
  · obtain rfl : g = false := by rw [hg]; exact decide_eq_false (by omega)
    have HZ := Lib.hid (fun W a => izero_any z.natAbs s p l c W a)
    have H := Lib.hid h
    rcases Int.lt_or_le 0 z with hz2 | hz2
    · rw [cmp3_gt hz2]
      rw [decide_eq_false (show ¬ z.natAbs = 0 by omega)] at HZ
      clear hg h hz hz2
      go_enter Tryz.func12, Tryz.ntmps12
      go_wp2_with fail
      refine (HZ.out _ (H.out.mono (below_alloc (Below.refl _ _) _))).mono ?_
      rintro e w1 ⟨rfl, hb⟩
      go_wp2
      go_ret
      exact ⟨rfl, below_step (below_alloc (Below.refl _ _) _) hb⟩
    · obtain rfl : z = 0 := by omega
      rw [cmp3_eq]
      rw [decide_eq_true (show (0 : Int).natAbs = 0 from rfl)] at HZ
      clear hg h hz hz2
      go_enter Tryz.func12, Tryz.ntmps12
      go_wp2_with fail
      refine (HZ.out _ (H.out.mono (below_alloc (Below.refl _ _) _))).mono ?_
      rintro e w1 ⟨rfl, hb⟩
      go_wp2
      go_ret
      exact ⟨rfl, below_step (below_alloc (Below.refl _ _) _) hb⟩

set_option maxHeartbeats 400000 in
theorem iNeg_any (z : Int) (g : Bool) (s : Int) (p : Option Addr) (l c : Nat) (w : World) (h : IsI w g s p l c z) :
    Calls Tryz.prog 76 #[.agg #[.bool g, .int .u64 s, .slice p l c]] w (RetI w (-z)) := by
  obtain ⟨hg, h⟩ := h
  have HF := Lib.hid (fun W a => iFrom_any (!g) z.natAbs s p l c W a)
  have H := Lib.hid h
  rw [show sgn (!g) z.natAbs = -z by subst hg; unfold sgn; by_cases h : z < 0 <;> simp [h] <;> omega] at HF
  clear hg h
  go_enter Tryz.func76, Tryz.ntmps76
  go_wp2_with fail
  refine (HF.out _ (H.out.mono (by repeat' first | exact Below.refl _ _ | refine below_alloc ?_ _))).mono ?_
  rintro e w1 ⟨g1, s1, p1, l1, c1, rfl, h1, hb⟩
  have H1 := Lib.hid h1
  obtain ⟨hc, hf⟩ := bcell hb
  clear h1
  have r0 : w1.cell? ⟨w.heap.size + 1, 0, none⟩ = some (.bool false) := by simp [hc, go_sem]
  have r1 : w1.cell? ⟨w.heap.size + 1, 1, none⟩ = some (.int .u64 0) := by simp [hc, go_sem]
  have r2 : w1.cell? ⟨w.heap.size + 1, 2, none⟩ = some (.slice none 0 0) := by simp [hc, go_sem]
  have HB : Below w.heap.size w w1 := (by repeat' first | exact Below.refl _ _ | refine below_alloc ?_ _ | refine below_step ?_ (by assumption))
  go_wp2
  exact bodyPost_ret (v := .agg #[.bool g1, .int .u64 s1, .slice p1 l1 c1]) (by simp [results, Tryz.results76, go_sem, r0, r1, r2]) rfl ⟨_, _, _, _, _, rfl, ⟨H1.out.1, H1.out.2.ibox r0 r2⟩, below_iset HB (by omega)⟩

theorem int_cases (x : Int) : ∃ m : Nat, (x = (m : Int) ∧ decide (x < 0) = false ∧ x.natAbs = m) ∨ (x = -(m : Int) ∧ 0 < m ∧ decide (x < 0) = true ∧ x.natAbs = m) := by
  rcases Int.lt_or_le x 0 with h | h
  · exact ⟨x.natAbs, Or.inr ⟨by omega, by omega, decide_eq_true h, rfl⟩⟩
  · exact ⟨x.natAbs, Or.inl ⟨by omega, decide_eq_false (by omega), rfl⟩⟩
theorem sgn_mul (x y : Int) : sgn (decide (x < 0) != decide (y < 0)) (x.natAbs * y.natAbs) = x * y := by
  obtain ⟨m, hm⟩ := int_cases x
  obtain ⟨n, hn⟩ := int_cases y
  unfold sgn
  rcases hm with ⟨rfl, h1, h2⟩ | ⟨rfl, _, h1, h2⟩ <;> rcases hn with ⟨rfl, h3, h4⟩ | ⟨rfl, _, h3, h4⟩ <;> rw [h1, h2, h3, h4] <;> simp [Int.neg_mul, Int.mul_neg]

set_option maxHeartbeats 1000000 in
theorem iMul_any (x y : Int) (g1 g2 : Bool) (s1 s2 : Int) (p1 p2 : Option Addr) (l1 c1 l2 c2 : Nat) (w : World) (hx : (ds x.natAbs).length ≤ 1000000) (hy : (ds y.natAbs).length ≤ 1000000) (h64 : (ds x.natAbs).length < 64 ∨ (ds y.natAbs).length < 64) (h1 : IsI w g1 s1 p1 l1 c1 x) (h2 : IsI w g2 s2 p2 l2 c2 y) :
    Calls Tryz.prog 47 #[.agg #[.bool g1, .int .u64 s1, .slice p1 l1 c1], .agg #[.bool g2, .int .u64 s2, .slice p2 l2 c2]] w (RetI w (x * y)) := by
  obtain ⟨e1, h1⟩ := h1
  obtain ⟨e2, h2⟩ := h2
  have HM := Lib.hid (fun W a b => mul_any s1 s2 p1 p2 l1 c1 l2 c2 x.natAbs y.natAbs W hx hy h64 a b)
  have HF := Lib.hid (fun s p l c W a => iFrom_any (g1 != g2) (x.natAbs * y.natAbs) s p l c W a)
  rw [show sgn (g1 != g2) (x.natAbs * y.natAbs) = x * y by rw [e1, e2]; exact sgn_mul x y] at HF
  have H1 := Lib.hid h1; have H2 := Lib.hid h2
  clear e1 e2 h1 h2 hx hy h64
  go_enter Tryz.func47, Tryz.ntmps47
  go_wp2
  obtain ⟨W, a, b, r, hW, hr, hbb, ha, ⟨A0, A1, A2⟩, ⟨B0, B1, B2⟩, ⟨R0, R1, R2⟩, f0, f1, f2, na, nb, -, za, zb, zr, zw, HB⟩ := boxes2 w g1 g2 s1 s2 p1 p2 l1 c1 l2 c2
  rw [← hW, ← hr, ← hbb, ← ha]
  clear hW hr hbb ha
  have na' : r ≠ a := fun e => na e.symm
  have nb' : r ≠ b := fun e => nb e.symm
  go_region_held3 (fun w' => w'.cell? ⟨a, 0, none⟩ = some (.bool g1) ∧ w'.cell? ⟨a, 1, none⟩ = some (.int .u64 s1) ∧ w'.cell? ⟨a, 2, none⟩ = some (.slice p1 l1 c1) ∧ w'.cell? ⟨b, 0, none⟩ = some (.bool g2) ∧ w'.cell? ⟨b, 1, none⟩ = some (.int .u64 s2) ∧ w'.cell? ⟨b, 2, none⟩ = some (.slice p2 l2 c2)) (first | go_keep | exact ⟨wcell hb A0, wcell hb A1, wcell hb A2, wcell hb B0, wcell hb B1, wcell hb B2⟩ | exact ⟨wcell hb2 (wcell hb A0), wcell hb2 (wcell hb A1), wcell hb2 (wcell hb A2), wcell hb2 (wcell hb B0), wcell hb2 (wcell hb B1), wcell hb2 (wcell hb B2)⟩ | exact ⟨rset_other (wcell hb2 (wcell hb A0)) na, rset_other (wcell hb2 (wcell hb A1)) na, rset_other (wcell hb2 (wcell hb A2)) na, rset_other (wcell hb2 (wcell hb B0)) nb, rset_other (wcell hb2 (wcell hb B1)) nb, rset_other (wcell hb2 (wcell hb B2)) nb⟩)
    (first
      | (go_at_call 39; refine (HM.out _ (H1.out.mono HB.drew) (H2.out.mono HB.drew)).mono ?_; rintro e w1 ⟨s3, p3, l3, c3, rfl, h3, hb⟩)
      | (go_at_call 35; refine (HF.out _ _ _ _ _ h3).mono ?_; rintro e w2 ⟨g4, s4, p4, l4, c4, rfl, h4, hb2⟩; have q0 := wcell hb2 (wcell hb R0); have q1 := wcell hb2 (wcell hb R1); have q2 := wcell hb2 (wcell hb R2); have t0 := wfree hb2 (wcell hb R0) (wfree hb R0 f0); have t1 := wfree hb2 (wcell hb R1) (wfree hb R1 f1); have t2 := wfree hb2 (wcell hb R2) (wfree hb R2 f2)))
  go_wp2
  exact bodyPost_ret (v := .agg #[.bool g4, .int .u64 s4, .slice p4 l4 c4]) (by simp [results, Tryz.results47, go_sem, q0, q1, q2]) rfl ⟨_, _, _, _, _, rfl, ⟨h4.1, h4.2.ibox q0 q2⟩, below_iset (below_step (below_step HB.drew hb) hb2) zw⟩
end Go.Proofs.YtfjjmhbffbhhdaaGreatDoor

/- Sums of the program's integers. -/
namespace Go.Proofs.YtfjjmhbffbhhdaaGreatDoor
open Go.RowKit

theorem add_same {x y : Int} (h : decide (x < 0) = decide (y < 0)) : decide (x + y < 0) = decide (x < 0) ∧ (x + y).natAbs = x.natAbs + y.natAbs := by
  rw [decide_eq_decide] at h ⊢
  omega
theorem add_diff1 {x y : Int} {g : Bool} (hg : g = decide (x < 0)) (h : decide (x < 0) ≠ decide (y < 0)) (hle : y.natAbs ≤ x.natAbs) : sgn g (x.natAbs - y.natAbs) = x + y := by
  rw [ne_eq, decide_eq_decide] at h
  unfold sgn
  by_cases hx : x < 0
  · rw [hg, decide_eq_true hx, if_pos rfl]; omega
  · rw [hg, decide_eq_false hx]; simp; omega
theorem add_diff2 {x y : Int} (h : decide (x < 0) ≠ decide (y < 0)) (hlt : x.natAbs < y.natAbs) : decide (x + y < 0) = decide (y < 0) ∧ (x + y).natAbs = y.natAbs - x.natAbs := by
  rw [ne_eq, decide_eq_decide] at h
  rw [decide_eq_decide]
  omega

set_option maxHeartbeats 1000000 in
theorem iAdd_same (x y : Int) (g : Bool) (s1 s2 : Int) (p1 p2 : Option Addr) (l1 c1 l2 c2 : Nat) (w : World) (hx : (ds x.natAbs).length ≤ 1000000) (hy : (ds y.natAbs).length ≤ 1000000) (h1 : IsI w g s1 p1 l1 c1 x) (h2 : IsI w g s2 p2 l2 c2 y) :
    Calls Tryz.prog 75 #[.agg #[.bool g, .int .u64 s1, .slice p1 l1 c1], .agg #[.bool g, .int .u64 s2, .slice p2 l2 c2]] w (RetI w (x + y)) := by
  obtain ⟨e1, h1⟩ := h1
  obtain ⟨e2, h2⟩ := h2
  obtain ⟨q1, q2⟩ := add_same (x := x) (y := y) (by rw [← e1, ← e2])
  have HM := Lib.hid (fun W a b => add_any s1 s2 p1 p2 l1 c1 l2 c2 x.natAbs y.natAbs W hx hy a b)
  have HG := Lib.hid (e1.trans q1.symm)
  rw [← q2] at HM
  have H1 := Lib.hid h1; have H2 := Lib.hid h2
  clear e1 e2 h1 h2 hx hy q1 q2
  go_enter Tryz.func75, Tryz.ntmps75
  go_wp2
  obtain ⟨W, a, b, r, hW, hr, hbb, ha, ⟨A0, A1, A2⟩, ⟨B0, B1, B2⟩, ⟨R0, R1, R2⟩, f0, f1, f2, na, nb, -, za, zb, zr, zw, HB⟩ := boxes2 w g g s1 s2 p1 p2 l1 c1 l2 c2
  rw [← hW, ← hr, ← hbb, ← ha]
  clear hW hr hbb ha
  have na' : r ≠ a := fun e => na e.symm
  have nb' : r ≠ b := fun e => nb e.symm
  go_region_held3 (fun w' => w'.cell? ⟨a, 0, none⟩ = some (.bool g) ∧ w'.cell? ⟨a, 1, none⟩ = some (.int .u64 s1) ∧ w'.cell? ⟨a, 2, none⟩ = some (.slice p1 l1 c1) ∧ w'.cell? ⟨b, 0, none⟩ = some (.bool g) ∧ w'.cell? ⟨b, 1, none⟩ = some (.int .u64 s2) ∧ w'.cell? ⟨b, 2, none⟩ = some (.slice p2 l2 c2)) (first | go_keep | exact ⟨wcell hb A0, wcell hb A1, wcell hb A2, wcell hb B0, wcell hb B1, wcell hb B2⟩ | exact ⟨rset_other (wcell hb A0) na, rset_other (wcell hb A1) na, rset_other (wcell hb A2) na, rset_other (wcell hb B0) nb, rset_other (wcell hb B1) nb, rset_other (wcell hb B2) nb⟩)
    (first
      | (go_at_call 40; refine (HM.out _ (H1.out.mono HB.drew) (H2.out.mono HB.drew)).mono ?_; rintro e w1 ⟨s3, p3, l3, c3, rfl, h3, hb⟩; have q0 := wcell hb R0; have q1 := wcell hb R1; have q2 := wcell hb R2; have t0 := wfree hb R0 f0; have t1 := wfree hb R1 f1; have t2 := wfree hb R2 f2))
  go_wp2
  exact bodyPost_ret (v := .agg #[.bool g, .int .u64 s3, .slice p3 l3 c3]) (by simp [results, Tryz.results75, go_sem, q0, q1, q2]) rfl ⟨_, _, _, _, _, rfl, ⟨HG.out, h3.ibox q0 q2⟩, below_iset (below_step HB.drew hb) zw⟩

set_option maxHeartbeats 1000000 in
theorem iAdd_ge (x y : Int) (g1 g2 : Bool) (s1 s2 : Int) (p1 p2 : Option Addr) (l1 c1 l2 c2 : Nat) (w : World) (hd : (g1 == g2) = false) (hx : (ds x.natAbs).length ≤ 1000000) (hle : y.natAbs ≤ x.natAbs) (h1 : IsI w g1 s1 p1 l1 c1 x) (h2 : IsI w g2 s2 p2 l2 c2 y) :
    Calls Tryz.prog 75 #[.agg #[.bool g1, .int .u64 s1, .slice p1 l1 c1], .agg #[.bool g2, .int .u64 s2, .slice p2 l2 c2]] w (RetI w (x + y)) := by
  obtain ⟨e1, h1⟩ := h1
  obtain ⟨e2, h2⟩ := h2
  have hne : decide (x < 0) ≠ decide (y < 0) := by rw [← e1, ← e2]; intro h; rw [h] at hd; simp at hd
  have HM := Lib.hid (fun W a b => sub_any s1 s2 p1 p2 l1 c1 l2 c2 x.natAbs y.natAbs W hx a b)
  have HF := Lib.hid (fun s p l c W a => iFrom_any g1 (x.natAbs - y.natAbs) s p l c W a)
  rw [add_diff1 e1 hne hle] at HF
  have H1 := Lib.hid h1; have H2 := Lib.hid h2; have HL := Lib.hid hle
  clear e1 e2 h1 h2 hx hle hne
  go_enter Tryz.func75, Tryz.ntmps75
  obtain ⟨W, a, b, r, hW, hr, hbb, ha, ⟨A0, A1, A2⟩, ⟨B0, B1, B2⟩, ⟨R0, R1, R2⟩, f0, f1, f2, na, nb, -, za, zb, zr, zw, HB⟩ := boxes2 w g1 g2 s1 s2 p1 p2 l1 c1 l2 c2
  go_wp2_with fail
  rw [← hW, ← hr, ← hbb, ← ha]
  clear hW hr hbb ha
  refine (HM.out _ (H1.out.mono HB) (H2.out.mono HB)).mono ?_
  rintro e w1 h
  obtain ⟨s3, p3, l3, c3, rfl, n3, hb⟩ := RetSubN.ge h HL.out
  have A0 := wcell hb A0; have R0' := wcell hb R0; have R1' := wcell hb R1; have R2' := wcell hb R2
  have f0 := wfree hb R0 f0; have f1 := wfree hb R1 f1; have f2 := wfree hb R2 f2
  have za := bstep hb za; have zr := bstep hb zr
  have HB := below_step HB hb
  have N3 := Lib.hid n3
  clear h n3 R0 R1 R2 A1 A2 B0 B1 B2 hb
  go_wp2_with fail
  refine (HF.out _ _ _ _ _ (N3.out.mono (below_alloc (Below.refl _ _) _))).mono ?_
  rintro e w2 ⟨g4, s4, p4, l4, c4, rfl, h4, hb⟩
  have hb' := below_step (below_alloc (Below.refl w1.heap.size w1) _) hb
  have q0 := wcell hb' R0'; have q1 := wcell hb' R1'; have q2 := wcell hb' R2'
  have t0 := wfree hb' R0' f0; have t1 := wfree hb' R1' f1; have t2 := wfree hb' R2' f2
  have H4 := Lib.hid h4
  have HB := below_step HB hb'
  clear R0' R1' R2' f0 f1 f2 hb hb' h4 za zr
  go_wp2
  exact bodyPost_ret (v := .agg #[.bool g4, .int .u64 s4, .slice p4 l4 c4]) (by simp [results, Tryz.results75, go_sem, q0, q1, q2]) rfl ⟨_, _, _, _, _, rfl, ⟨H4.out.1, H4.out.2.ibox q0 q2⟩, below_iset HB zw⟩

set_option maxHeartbeats 1000000 in
theorem iAdd_lt (x y : Int) (g1 g2 : Bool) (s1 s2 : Int) (p1 p2 : Option Addr) (l1 c1 l2 c2 : Nat) (w : World) (hd : (g1 == g2) = false) (hx : (ds x.natAbs).length ≤ 1000000) (hy : (ds y.natAbs).length ≤ 1000000) (hlt : x.natAbs < y.natAbs) (h1 : IsI w g1 s1 p1 l1 c1 x) (h2 : IsI w g2 s2 p2 l2 c2 y) :
    Calls Tryz.prog 75 #[.agg #[.bool g1, .int .u64 s1, .slice p1 l1 c1], .agg #[.bool g2, .int .u64 s2, .slice p2 l2 c2]] w (RetI w (x + y)) := by
  obtain ⟨e1, h1⟩ := h1
  obtain ⟨e2, h2⟩ := h2
  have hne : decide (x < 0) ≠ decide (y < 0) := by rw [← e1, ← e2]; intro h; rw [h] at hd; simp at hd
  have HM := Lib.hid (fun W a b => sub_any s1 s2 p1 p2 l1 c1 l2 c2 x.natAbs y.natAbs W hx a b)
  have HM2 := Lib.hid (fun W a b => sub_any s2 s1 p2 p1 l2 c2 l1 c1 y.natAbs x.natAbs W hy a b)
  obtain ⟨q1, q2⟩ := add_diff2 hne hlt
  have HG := Lib.hid (e2.trans q1.symm); have HA := Lib.hid q2
  have H1 := Lib.hid h1; have H2 := Lib.hid h2; have HL := Lib.hid hlt
  clear e1 e2 h1 h2 hx hy hlt hne q1 q2
  go_enter Tryz.func75, Tryz.ntmps75
  obtain ⟨W, a, b, r, hW, hr, hbb, ha, ⟨A0, A1, A2⟩, ⟨B0, B1, B2⟩, ⟨R0, R1, R2⟩, f0, f1, f2, na, nb, -, za, zb, zr, zw, HB⟩ := boxes2 w g1 g2 s1 s2 p1 p2 l1 c1 l2 c2
  go_wp2_with fail
  rw [← hW, ← hr, ← hbb, ← ha]
  clear hW hr hbb ha
  refine (HM.out _ (H1.out.mono HB) (H2.out.mono HB)).mono ?_
  rintro e w1 h
  obtain ⟨rfl, hb⟩ := RetSubN.lt h HL.out
  have A1 := wcell hb A1; have A2 := wcell hb A2; have B0 := wcell hb B0; have B1 := wcell hb B1; have B2 := wcell hb B2
  have R0' := wcell hb R0; have R1' := wcell hb R1; have R2' := wcell hb R2
  have f0 := wfree hb R0 f0; have f1 := wfree hb R1 f1; have f2 := wfree hb R2 f2
  have za := bstep hb za; have zb := bstep hb zb; have zr := bstep hb zr
  have HB := below_step HB hb
  clear h R0 R1 R2 A0 hb
  go_wp2_with fail
  have BX : Below w1.heap.size w1 (w1.alloc (.cells #[.int .u64 0, .slice none 0 0] 26)) := below_alloc (Below.refl _ _) _
  obtain ⟨V, hV⟩ : ∃ V, V = w1.alloc (.cells #[.int .u64 0, .slice none 0 0] 26) := ⟨_, rfl⟩
  rw [← hV] at BX ⊢
  have B0 := wcell BX B0
  have R0 := wcell BX R0'; have R1 := wcell BX R1'; have R2 := wcell BX R2'
  have f0 := wfree BX R0' f0; have f1 := wfree BX R1' f1; have f2 := wfree BX R2' f2
  have zb := bstep BX zb; have zr := bstep BX zr
  have HB := below_step HB BX
  clear BX hV R0' R1' R2' A1 A2 B1 B2
  refine (HM2.out _ (H2.out.mono HB) (H1.out.mono HB)).mono ?_
  rintro e w2 h
  obtain ⟨s3, p3, l3, c3, rfl, n3, hb⟩ := RetSubN.ge h (Nat.le_of_lt HL.out)
  rw [← HA.out] at n3
  have N3 := Lib.hid n3
  have B0 := wcell hb B0
  have q0 := wcell hb R0; have q1 := wcell hb R1; have q2 := wcell hb R2
  have t0 := wfree hb R0 f0; have t1 := wfree hb R1 f1; have t2 := wfree hb R2 f2
  have zb := bstep hb zb; have zr := bstep hb zr
  have HB := below_step HB hb
  clear h n3 R0 R1 R2 f0 f1 f2 hb
  go_wp2
  exact bodyPost_ret (v := .agg #[.bool g2, .int .u64 s3, .slice p3 l3 c3]) (by simp [results, Tryz.results75, go_sem, q0, q1, q2, zr]) rfl ⟨_, _, _, _, _, rfl, ⟨HG.out, (N3.out.ibox q0 q2).mono (below_alloc (Below.refl _ _) _)⟩, below_alloc (below_iset HB zw) _⟩

theorem iAdd_any (x y : Int) (g1 g2 : Bool) (s1 s2 : Int) (p1 p2 : Option Addr) (l1 c1 l2 c2 : Nat) (w : World) (hx : (ds x.natAbs).length ≤ 1000000) (hy : (ds y.natAbs).length ≤ 1000000) (h1 : IsI w g1 s1 p1 l1 c1 x) (h2 : IsI w g2 s2 p2 l2 c2 y) :
    Calls Tryz.prog 75 #[.agg #[.bool g1, .int .u64 s1, .slice p1 l1 c1], .agg #[.bool g2, .int .u64 s2, .slice p2 l2 c2]] w (RetI w (x + y)) := by
  by_cases hg : g1 = g2
  · subst hg
    exact iAdd_same x y g1 s1 s2 p1 p2 l1 c1 l2 c2 w hx hy h1 h2
  · have hd : (g1 == g2) = false := beq_eq_false_iff_ne.2 hg
    rcases Nat.lt_or_ge x.natAbs y.natAbs with h | h
    · exact iAdd_lt x y g1 g2 s1 s2 p1 p2 l1 c1 l2 c2 w hd hx hy h h1 h2
    · exact iAdd_ge x y g1 g2 s1 s2 p1 p2 l1 c1 l2 c2 w hd hx h h1 h2
end Go.Proofs.YtfjjmhbffbhhdaaGreatDoor

/- Differences and comparisons of the program's integers. -/
namespace Go.Proofs.YtfjjmhbffbhhdaaGreatDoor
open Go.RowKit

theorem ds_neg (y : Int) : (ds (-y).natAbs).length = (ds y.natAbs).length := by rw [Int.natAbs_neg]

set_option maxHeartbeats 1000000 in
theorem iSub_any (x y : Int) (g1 g2 : Bool) (s1 s2 : Int) (p1 p2 : Option Addr) (l1 c1 l2 c2 : Nat) (w : World) (hx : (ds x.natAbs).length ≤ 1000000) (hy : (ds y.natAbs).length ≤ 1000000) (h1 : IsI w g1 s1 p1 l1 c1 x) (h2 : IsI w g2 s2 p2 l2 c2 y) :
    Calls Tryz.prog 49 #[.agg #[.bool g1, .int .u64 s1, .slice p1 l1 c1], .agg #[.bool g2, .int .u64 s2, .slice p2 l2 c2]] w (RetI w (x - y)) := by
  have HM := Lib.hid (fun W a => iNeg_any y g2 s2 p2 l2 c2 W a)
  have HF := Lib.hid (fun g s p l c W a b => iAdd_any x (-y) g1 g s1 s p1 p l1 c1 l c W hx (by rw [ds_neg]; exact hy) a b)
  rw [show x + -y = x - y by omega] at HF
  have H1 := Lib.hid h1; have H2 := Lib.hid h2
  clear h1 h2 hx hy
  go_enter Tryz.func49, Tryz.ntmps49
  go_wp2
  obtain ⟨W, a, b, r, hW, hr, hbb, ha, ⟨A0, A1, A2⟩, ⟨B0, B1, B2⟩, ⟨R0, R1, R2⟩, f0, f1, f2, na, nb, -, za, zb, zr, zw, HB⟩ := boxes2 w g1 g2 s1 s2 p1 p2 l1 c1 l2 c2
  rw [← hW, ← hr, ← hbb, ← ha]
  clear hW hr hbb ha
  have na' : r ≠ a := fun e => na e.symm
  have nb' : r ≠ b := fun e => nb e.symm
  go_region_held3 (fun w' => w'.cell? ⟨a, 0, none⟩ = some (.bool g1) ∧ w'.cell? ⟨a, 1, none⟩ = some (.int .u64 s1) ∧ w'.cell? ⟨a, 2, none⟩ = some (.slice p1 l1 c1) ∧ w'.cell? ⟨b, 0, none⟩ = some (.bool g2) ∧ w'.cell? ⟨b, 1, none⟩ = some (.int .u64 s2) ∧ w'.cell? ⟨b, 2, none⟩ = some (.slice p2 l2 c2)) (first | go_keep | exact ⟨wcell hb A0, wcell hb A1, wcell hb A2, wcell hb B0, wcell hb B1, wcell hb B2⟩ | exact ⟨wcell hb2 (wcell hb A0), wcell hb2 (wcell hb A1), wcell hb2 (wcell hb A2), wcell hb2 (wcell hb B0), wcell hb2 (wcell hb B1), wcell hb2 (wcell hb B2)⟩ | exact ⟨rset_other (wcell hb2 (wcell hb A0)) na, rset_other (wcell hb2 (wcell hb A1)) na, rset_other (wcell hb2 (wcell hb A2)) na, rset_other (wcell hb2 (wcell hb B0)) nb, rset_other (wcell hb2 (wcell hb B1)) nb, rset_other (wcell hb2 (wcell hb B2)) nb⟩)
    (first
      | (go_at_call 76; refine (HM.out _ (H2.out.mono HB.drew)).mono ?_; rintro e w1 ⟨g3, s3, p3, l3, c3, rfl, h3, hb⟩)
      | (go_at_call 75; refine (HF.out _ _ _ _ _ _ ((H1.out.mono HB.drew).mono hb) h3).mono ?_; rintro e w2 ⟨g4, s4, p4, l4, c4, rfl, h4, hb2⟩; have q0 := wcell hb2 (wcell hb R0); have q1 := wcell hb2 (wcell hb R1); have q2 := wcell hb2 (wcell hb R2); have t0 := wfree hb2 (wcell hb R0) (wfree hb R0 f0); have t1 := wfree hb2 (wcell hb R1) (wfree hb R1 f1); have t2 := wfree hb2 (wcell hb R2) (wfree hb R2 f2)))
  go_wp2
  exact bodyPost_ret (v := .agg #[.bool g4, .int .u64 s4, .slice p4 l4 c4]) (by simp [results, Tryz.results49, go_sem, q0, q1, q2]) rfl ⟨_, _, _, _, _, rfl, ⟨h4.1, h4.2.ibox q0 q2⟩, below_iset (below_step (below_step HB.drew hb) hb2) zw⟩

theorem cmp3_swap (x y : Int) : cmp3 (-y) (-x) = cmp3 x y := by unfold cmp3; split <;> split <;> (try split) <;> (try split) <;> omega

set_option maxHeartbeats 1000000 in
theorem iCmp_any (x y : Int) (g1 g2 : Bool) (s1 s2 : Int) (p1 p2 : Option Addr) (l1 c1 l2 c2 : Nat) (w : World) (hx : (ds x.natAbs).length ≤ 1000000) (hy : (ds y.natAbs).length ≤ 1000000) (h1 : IsI w g1 s1 p1 l1 c1 x) (h2 : IsI w g2 s2 p2 l2 c2 y) :
    Calls Tryz.prog 15 #[.agg #[.bool g1, .int .u64 s1, .slice p1 l1 c1], .agg #[.bool g2, .int .u64 s2, .slice p2 l2 c2]] w fun e w' => e = .returned (.int .i64 (cmp3 x y)) ∧ Below w.heap.size w w' := by
  obtain ⟨e1, h1⟩ := h1
  obtain ⟨e2, h2⟩ := h2
  have HM := Lib.hid (fun W a b => cmp_any s1 s2 p1 p2 l1 l2 c1 c2 x.natAbs y.natAbs W a b (by omega))
  have HM2 := Lib.hid (fun W a b => cmp_any s2 s1 p2 p1 l2 l1 c2 c1 y.natAbs x.natAbs W a b (by omega))
  have H1 := Lib.hid h1; have H2 := Lib.hid h2
  clear h1 h2
  by_cases k1 : x < 0 <;> by_cases k2 : y < 0
  · obtain rfl : g1 = true := by rw [e1]; exact decide_eq_true k1
    obtain rfl : g2 = true := by rw [e2]; exact decide_eq_true k2
    rw [show cmp3 x y = cmp3 ((y.natAbs : Nat) : Int) ((x.natAbs : Nat) : Int) by rw [← cmp3_swap x y, show -x = ((x.natAbs : Nat) : Int) by omega, show -y = ((y.natAbs : Nat) : Int) by omega]]
    clear e1 e2 hx hy k1 k2
    go_enter Tryz.func15, Tryz.ntmps15
    go_wp2_with fail
    refine (HM2.out _ (H2.out.mono (below_alloc (below_alloc (Below.refl _ _) _) _)) (H1.out.mono (below_alloc (below_alloc (Below.refl _ _) _) _))).mono ?_
    rintro e w1 ⟨rfl, hb⟩
    go_wp2
    go_ret
    exact ⟨rfl, below_step (below_alloc (below_alloc (Below.refl _ _) _) _) hb⟩
  · obtain rfl : g1 = true := by rw [e1]; exact decide_eq_true k1
    obtain rfl : g2 = false := by rw [e2]; exact decide_eq_false k2
    rw [cmp3_lt (show x < y by omega)]
    clear e1 e2 hx hy k1 k2
    go_enter Tryz.func15, Tryz.ntmps15
    go_wp2
    go_ret
    exact ⟨rfl, below_alloc (below_alloc (Below.refl _ _) _) _⟩
  · obtain rfl : g1 = false := by rw [e1]; exact decide_eq_false k1
    obtain rfl : g2 = true := by rw [e2]; exact decide_eq_true k2
    rw [cmp3_gt (show y < x by omega)]
    clear e1 e2 hx hy k1 k2
    go_enter Tryz.func15, Tryz.ntmps15
    go_wp2
    go_ret
    exact ⟨rfl, below_alloc (below_alloc (Below.refl _ _) _) _⟩
  · obtain rfl : g1 = false := by rw [e1]; exact decide_eq_false k1
    obtain rfl : g2 = false := by rw [e2]; exact decide_eq_false k2
    rw [show cmp3 x y = cmp3 ((x.natAbs : Nat) : Int) ((y.natAbs : Nat) : Int) by rw [show ((x.natAbs : Nat) : Int) = x by omega, show ((y.natAbs : Nat) : Int) = y by omega]]
    clear e1 e2 hx hy k1 k2
    go_enter Tryz.func15, Tryz.ntmps15
    go_wp2_with fail
    refine (HM.out _ (H1.out.mono (below_alloc (below_alloc (Below.refl _ _) _) _)) (H2.out.mono (below_alloc (below_alloc (Below.refl _ _) _) _))).mono ?_
    rintro e w1 ⟨rfl, hb⟩
    go_wp2
    go_ret
    exact ⟨rfl, below_step (below_alloc (below_alloc (Below.refl _ _) _) _) hb⟩
end Go.Proofs.YtfjjmhbffbhhdaaGreatDoor

/- The quotient of the program's integers. -/
namespace Go.Proofs.YtfjjmhbffbhhdaaGreatDoor
open Go.RowKit

def qdiv (x y : Int) : Int := if 0 < y then x / y else (-x) / (-y)
def qmod (x y : Int) : Int := x - qdiv x y * y
theorem qdiv_unique {x y q r : Int} (h : x = q * y + r) (hr : (0 ≤ r ∧ r < y) ∨ (y < r ∧ r ≤ 0)) : q = qdiv x y ∧ r = qmod x y := by
  have h1 : q = qdiv x y := by
    unfold qdiv
    rcases hr with ⟨h1, h2⟩ | ⟨h1, h2⟩
    · rw [if_pos (by omega)]
      exact (Int.ediv_emod_unique (a := x) (b := y) (r := r) (q := q) (by omega)).2 ⟨by rw [h, Int.mul_comm]; omega, h1, h2⟩ |>.1.symm
    · rw [if_neg (by omega)]
      exact (Int.ediv_emod_unique (a := -x) (b := -y) (r := -r) (q := q) (by omega)).2 ⟨by rw [h]; grind, by omega, by omega⟩ |>.1.symm
  refine ⟨h1, ?_⟩
  unfold qmod
  rw [← h1]
  omega
theorem qdiv_parts {x y : Int} (hy : y ≠ 0) : x = qdiv x y * y + qmod x y ∧ ((0 ≤ qmod x y ∧ qmod x y < y) ∨ (y < qmod x y ∧ qmod x y ≤ 0)) := by
  refine ⟨by unfold qmod; omega, ?_⟩
  rcases Int.lt_or_le 0 y with h | h
  · left
    have e : qmod x y = x % y := by unfold qmod qdiv; rw [if_pos h, Int.mul_comm]; have := Int.mul_ediv_add_emod x y; omega
    rw [e]; exact ⟨Int.emod_nonneg _ (by omega), Int.emod_lt_of_pos _ h⟩
  · right
    have e : qmod x y = -((-x) % (-y)) := by unfold qmod qdiv; rw [if_neg (by omega)]; have := Int.mul_ediv_add_emod (-x) (-y); grind
    have h1 := Int.emod_nonneg (-x) (b := -y) (by omega)
    have h2 := Int.emod_lt_of_pos (-x) (b := -y) (by omega)
    rw [e]; omega

theorem parts_same {x y : Int} (hy : y ≠ 0) (h : decide (x < 0) = decide (y < 0)) : sgn false (x.natAbs / y.natAbs) = qdiv x y ∧ sgn (decide (y < 0)) (x.natAbs % y.natAbs) = qmod x y := by
  obtain ⟨m, hm⟩ := int_cases x
  obtain ⟨n, hn⟩ := int_cases y
  have hn0 : n ≠ 0 := by rcases hn with ⟨h1, _, _⟩ | ⟨_, h1, _, _⟩ <;> omega
  have h1 := Nat.div_add_mod m n
  have h2 := Nat.mod_lt m (show 0 < n by omega)
  have h3 : ((n * (m / n) + m % n : Nat) : Int) = m := by rw [h1]
  rw [Int.natCast_add, Int.natCast_mul] at h3
  have e1 : x.natAbs = m := by rcases hm with h | h <;> exact (by first | exact h.2.2 | exact h.2.2.2)
  have e2 : y.natAbs = n := by rcases hn with h | h <;> exact (by first | exact h.2.2 | exact h.2.2.2)
  rw [e1, e2]
  generalize m / n = Q at *
  generalize m % n = R at *
  refine qdiv_unique ?_ ?_
  · rcases hm with ⟨rfl, d1, _⟩ | ⟨rfl, _, d1, _⟩ <;> rcases hn with ⟨rfl, d2, _⟩ | ⟨rfl, _, d2, _⟩ <;> rw [d1, d2] at h <;> first | exact absurd h (by decide) | (rw [d2]; simp only [sgn, if_true, if_false, Bool.false_eq_true]; grind)
  · rcases hm with ⟨rfl, d1, _⟩ | ⟨rfl, _, d1, _⟩ <;> rcases hn with ⟨rfl, d2, _⟩ | ⟨rfl, _, d2, _⟩ <;> rw [d1, d2] at h <;> first | exact absurd h (by decide) | (rw [d2]; simp only [sgn, if_true, if_false, Bool.false_eq_true]; omega)
theorem parts_zero {x y : Int} (hy : y ≠ 0) (h : decide (x < 0) ≠ decide (y < 0)) (h0 : x.natAbs % y.natAbs = 0) : sgn true (x.natAbs / y.natAbs) = qdiv x y ∧ sgn (decide (y < 0)) (x.natAbs % y.natAbs) = qmod x y := by
  obtain ⟨m, hm⟩ := int_cases x
  obtain ⟨n, hn⟩ := int_cases y
  have hn0 : n ≠ 0 := by rcases hn with ⟨h1, _, _⟩ | ⟨_, h1, _, _⟩ <;> omega
  have h1 := Nat.div_add_mod m n
  have h3 : ((n * (m / n) + m % n : Nat) : Int) = m := by rw [h1]
  rw [Int.natCast_add, Int.natCast_mul] at h3
  have e1 : x.natAbs = m := by rcases hm with h | h <;> exact (by first | exact h.2.2 | exact h.2.2.2)
  have e2 : y.natAbs = n := by rcases hn with h | h <;> exact (by first | exact h.2.2 | exact h.2.2.2)
  rw [e1, e2] at h0 ⊢
  rw [h0] at h3 ⊢
  generalize m / n = Q at *
  refine qdiv_unique ?_ ?_
  · rcases hm with ⟨rfl, d1, _⟩ | ⟨rfl, _, d1, _⟩ <;> rcases hn with ⟨rfl, d2, _⟩ | ⟨rfl, _, d2, _⟩ <;> rw [d1, d2] at h <;> first | exact absurd rfl h | (rw [d2]; simp only [sgn, if_true, if_false, Bool.false_eq_true]; grind)
  · rcases hm with ⟨rfl, d1, _⟩ | ⟨rfl, _, d1, _⟩ <;> rcases hn with ⟨rfl, d2, _⟩ | ⟨rfl, _, d2, _⟩ <;> rw [d1, d2] at h <;> first | exact absurd rfl h | (rw [d2]; simp only [sgn, if_true, if_false, Bool.false_eq_true]; omega)
theorem parts_more {x y : Int} (hy : y ≠ 0) (h : decide (x < 0) ≠ decide (y < 0)) (h0 : x.natAbs % y.natAbs ≠ 0) : sgn true (x.natAbs / y.natAbs + 1) = qdiv x y ∧ sgn (decide (y < 0)) (y.natAbs - x.natAbs % y.natAbs) = qmod x y := by
  obtain ⟨m, hm⟩ := int_cases x
  obtain ⟨n, hn⟩ := int_cases y
  have hn0 : n ≠ 0 := by rcases hn with ⟨h1, _, _⟩ | ⟨_, h1, _, _⟩ <;> omega
  have h1 := Nat.div_add_mod m n
  have h2 := Nat.mod_lt m (show 0 < n by omega)
  have h3 : ((n * (m / n) + m % n : Nat) : Int) = m := by rw [h1]
  rw [Int.natCast_add, Int.natCast_mul] at h3
  have e1 : x.natAbs = m := by rcases hm with h | h <;> exact (by first | exact h.2.2 | exact h.2.2.2)
  have e2 : y.natAbs = n := by rcases hn with h | h <;> exact (by first | exact h.2.2 | exact h.2.2.2)
  rw [e1, e2] at h0 ⊢
  generalize m / n = Q at *
  generalize m % n = R at *
  obtain ⟨D, hD⟩ : ∃ D, D = n - R := ⟨_, rfl⟩
  have hDn : (D : Int) = n - R := by omega
  rw [← hD]
  refine qdiv_unique ?_ ?_
  · rcases hm with ⟨rfl, d1, _⟩ | ⟨rfl, _, d1, _⟩ <;> rcases hn with ⟨rfl, d2, _⟩ | ⟨rfl, _, d2, _⟩ <;> rw [d1, d2] at h <;> first | exact absurd rfl h | (rw [d2]; simp only [sgn, if_true, if_false, Bool.false_eq_true, Int.natCast_add]; grind)
  · rcases hm with ⟨rfl, d1, _⟩ | ⟨rfl, _, d1, _⟩ <;> rcases hn with ⟨rfl, d2, _⟩ | ⟨rfl, _, d2, _⟩ <;> rw [d1, d2] at h <;> first | exact absurd rfl h | (rw [d2]; simp only [sgn, if_true, if_false, Bool.false_eq_true]; omega)

end Go.Proofs.YtfjjmhbffbhhdaaGreatDoor

/- The operations on integers, in the words of an open statement. -/
namespace Go.Proofs.YtfjjmhbffbhhdaaGreatDoor
open Go.RowKit

theorem iFrom_want (w : World) (u : Value) (g : Bool) (n : Nat) (h : Num w u n) : Calls Tryz.prog 35 #[.bool g, u] w fun e w' => ∃ v', e = .returned v' ∧ INum w' v' (sgn g n) ∧ Below w.heap.size w w' := by
  obtain ⟨s, p, l, c, rfl, h⟩ := h
  exact (iFrom_any g n s p l c w h).mono fun _ _ h => h.want
theorem iSign_want (w : World) (u : Value) (x : Int) (h : INum w u x) : Calls Tryz.prog 12 #[u] w fun e w' => ∃ v', e = .returned v' ∧ v' = .int .i64 (cmp3 x 0) ∧ Below w.heap.size w w' := by
  obtain ⟨g, s, p, l, c, rfl, h⟩ := h
  exact (iSign_any x g s p l c w h).mono fun _ _ ⟨h1, h2⟩ => ⟨_, h1, rfl, h2⟩
theorem iSub_want (w : World) (u v : Value) (x y : Int) (hx : (ds x.natAbs).length ≤ 60) (hy : (ds y.natAbs).length ≤ 60) (h1 : INum w u x) (h2 : INum w v y) :
    Calls Tryz.prog 49 #[u, v] w fun e w' => ∃ v', e = .returned v' ∧ INum w' v' (x - y) ∧ Below w.heap.size w w' := by
  obtain ⟨g, s, p, l, c, rfl, h1⟩ := h1
  obtain ⟨f, t, q, k, d, rfl, h2⟩ := h2
  exact (iSub_any x y g f s t p q l c k d w (by omega) (by omega) h1 h2).mono fun _ _ h => h.want
theorem iMul_want (w : World) (u v : Value) (x y : Int) (hx : (ds x.natAbs).length ≤ 60) (hy : (ds y.natAbs).length ≤ 60) (h1 : INum w u x) (h2 : INum w v y) :
    Calls Tryz.prog 47 #[u, v] w fun e w' => ∃ v', e = .returned v' ∧ INum w' v' (x * y) ∧ Below w.heap.size w w' := by
  obtain ⟨g, s, p, l, c, rfl, h1⟩ := h1
  obtain ⟨f, t, q, k, d, rfl, h2⟩ := h2
  exact (iMul_any x y g f s t p q l c k d w (by omega) (by omega) (Or.inl (by omega)) h1 h2).mono fun _ _ h => h.want
theorem iCmp_want (w : World) (u v : Value) (x y : Int) (hx : (ds x.natAbs).length ≤ 60) (hy : (ds y.natAbs).length ≤ 60) (h1 : INum w u x) (h2 : INum w v y) :
    Calls Tryz.prog 15 #[u, v] w fun e w' => ∃ v', e = .returned v' ∧ v' = .int .i64 (cmp3 x y) ∧ Below w.heap.size w w' := by
  obtain ⟨g, s, p, l, c, rfl, h1⟩ := h1
  obtain ⟨f, t, q, k, d, rfl, h2⟩ := h2
  exact (iCmp_any x y g f s t p q l c k d w (by omega) (by omega) h1 h2).mono fun _ _ ⟨h, hb⟩ => ⟨_, h, rfl, hb⟩
end Go.Proofs.YtfjjmhbffbhhdaaGreatDoor
