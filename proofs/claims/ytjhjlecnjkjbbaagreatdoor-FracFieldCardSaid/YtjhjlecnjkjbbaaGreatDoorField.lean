/- FracField: fractions are a field: sums and products in any order, through one another, taken back; always in lowest terms. -/
import Derived.Test.YtjhjlecnjkjbbaaGreatDoorKnown3
import Derived.Test.YtjhjlecnjkjbbaaGreatDoorOne3
namespace Go.Proofs.YtjhjlecnjkjbbaaGreatDoor
open Go.RowKit

theorem run_hIn : RowKit.Hid (∀ (a : Array Value) (w : World), Sem.run Tryz.prog (callFunc 7 a) w = .ok (.enter 7 a) w) := fun a w => by go_simp
theorem run_known3 : RowKit.Hid (∀ (a : Array Value) (w : World), Sem.run Tryz.prog (callFunc 9 a) w = .ok (.enter 9 a) w) := fun a w => by go_simp
theorem run_one3 : RowKit.Hid (∀ (a : Array Value) (w : World), Sem.run Tryz.prog (callFunc 6 a) w = .ok (.enter 6 a) w) := fun a w => by go_simp
theorem run_qAbs : RowKit.Hid (∀ (a : Array Value) (w : World), Sem.run Tryz.prog (callFunc 23 a) w = .ok (.enter 23 a) w) := fun a w => by go_simp
theorem run_qCmp : RowKit.Hid (∀ (a : Array Value) (w : World), Sem.run Tryz.prog (callFunc 17 a) w = .ok (.enter 17 a) w) := fun a w => by go_simp
theorem run_qDiv : RowKit.Hid (∀ (a : Array Value) (w : World), Sem.run Tryz.prog (callFunc 8 a) w = .ok (.enter 8 a) w) := fun a w => by go_simp
theorem run_qNum : RowKit.Hid (∀ (a : Array Value) (w : World), Sem.run Tryz.prog (callFunc 27 a) w = .ok (.enter 27 a) w) := fun a w => by go_simp
theorem run_qSub : RowKit.Hid (∀ (a : Array Value) (w : World), Sem.run Tryz.prog (callFunc 13 a) w = .ok (.enter 13 a) w) := fun a w => by go_simp
theorem qabs_mul (X Y : Rat) : qabs (X * Y) = qabs X * qabs Y := by
  have sg : ∀ Z : Rat, Z.num < 0 ↔ Z < 0 := fun Z => by rw [Rat.lt_iff]; simp
  have q0 : ∀ Z : Rat, qabs Z = if Z < 0 then -Z else Z := fun Z => by unfold qabs; simp only [sg]
  rw [q0, q0, q0]
  rcases Rat.le_total (a := 0) (b := X) with hx | hx <;> rcases Rat.le_total (a := 0) (b := Y) with hy | hy
  · rw [if_neg (Rat.not_lt.2 hx), if_neg (Rat.not_lt.2 hy), if_neg (Rat.not_lt.2 (Rat.mul_nonneg hx hy))]
  · by_cases hx0 : X = 0
    · subst hx0; simp
    · by_cases hy0 : Y = 0
      · subst hy0; simp
      · have hy1 : Y < 0 := Rat.lt_of_le_of_ne hy hy0
        have hx1 : 0 < X := Rat.lt_of_le_of_ne hx (fun e => hx0 e.symm)
        rw [if_neg (Rat.not_lt.2 hx), if_pos hy1, if_pos ((Rat.mul_neg_iff_of_pos_left hx1).2 hy1), Rat.mul_neg]
  · by_cases hx0 : X = 0
    · subst hx0; simp
    · by_cases hy0 : Y = 0
      · subst hy0; simp
      · have hx1 : X < 0 := Rat.lt_of_le_of_ne hx hx0
        have hy1 : 0 < Y := Rat.lt_of_le_of_ne hy (fun e => hy0 e.symm)
        rw [if_pos hx1, if_neg (Rat.not_lt.2 hy), if_pos ((Rat.mul_neg_iff_of_pos_right hy1).2 hx1), Rat.neg_mul]
  · by_cases hx0 : X = 0
    · subst hx0; simp
    · by_cases hy0 : Y = 0
      · subst hy0; simp
      · have hx1 : X < 0 := Rat.lt_of_le_of_ne hx hx0
        have hy1 : Y < 0 := Rat.lt_of_le_of_ne hy hy0
        have hp : 0 ≤ X * Y := by
          have := Rat.mul_nonneg (Rat.neg_le_neg hx) (Rat.neg_le_neg hy)
          rwa [Rat.neg_mul, Rat.mul_neg, Rat.neg_neg] at this
        rw [if_pos hx1, if_pos hy1, if_neg (Rat.not_lt.2 hp), Rat.neg_mul, Rat.mul_neg, Rat.neg_neg]
set_option maxRecDepth 100000 in
set_option maxHeartbeats 8000000 in
theorem field_any (p1 q1 : Option Addr) (l1 c1 k1 d1 : Nat) (n1 : Int) (xs1 ys1 : List Nat) (g1 : Bool) (p2 q2 : Option Addr) (l2 c2 k2 d2 : Nat) (n2 : Int) (xs2 ys2 : List Nat) (g2 : Bool) (p3 q3 : Option Addr) (l3 c3 k3 d3 : Nat) (n3 : Int) (xs3 ys3 : List Nat) (g3 : Bool) (mx : Int) (w : World) (r1 : -9223372036854775808 ≤ n1 ∧ n1 ≤ 9223372036854775807) (a1 : IsB w p1 l1 c1 xs1) (b1 : IsB w q1 k1 d1 ys1) (r2 : -9223372036854775808 ≤ n2 ∧ n2 ≤ 9223372036854775807) (a2 : IsB w p2 l2 c2 xs2) (b2 : IsB w q2 k2 d2 ys2) (r3 : -9223372036854775808 ≤ n3 ∧ n3 ≤ 9223372036854775807) (a3 : IsB w p3 l3 c3 xs3) (b3 : IsB w q3 k3 d3 ys3) (hM : w.cell? ⟨4, 0, none⟩ = some (.int .i64 mx)) (hT : Tab64 w) :
    Calls Tryz.prog 4 #[.agg #[.int .i64 n1, .slice p1 l1 c1, .slice q1 k1 d1, .bool g1], .agg #[.int .i64 n2, .slice p2 l2 c2, .slice q2 k2 d2, .bool g2], .agg #[.int .i64 n3, .slice p3 l3 c3, .slice q3 k3 d3, .bool g3]] w (Gives w (.is (.bool true))) := by
  obtain ⟨X, hX⟩ : ∃ x, oneQ n1 xs1 ys1 g1 = x := ⟨_, rfl⟩
  have HQX := Lib.hid (oneQ_bits n1 xs1 ys1 g1 a1.2.1 b1.2.1); rw [hX] at HQX
  have HX1 := Lib.hid hX; have HR1 : Hid (-9223372036854775808 ≤ n1 ∧ n1 ≤ 9223372036854775807 ∧ (∀ x ∈ xs1, x < 256) ∧ ∀ x ∈ ys1, x < 256) := Lib.hid ⟨r1.1, r1.2, a1.2.1, b1.2.1⟩; have H1 := Lib.hid (And.intro a1 b1)
  obtain ⟨Y, hY⟩ : ∃ x, oneQ n2 xs2 ys2 g2 = x := ⟨_, rfl⟩
  have HQY := Lib.hid (oneQ_bits n2 xs2 ys2 g2 a2.2.1 b2.2.1); rw [hY] at HQY
  have HX2 := Lib.hid hY; have HR2 : Hid (-9223372036854775808 ≤ n2 ∧ n2 ≤ 9223372036854775807 ∧ (∀ x ∈ xs2, x < 256) ∧ ∀ x ∈ ys2, x < 256) := Lib.hid ⟨r2.1, r2.2, a2.2.1, b2.2.1⟩; have H2 := Lib.hid (And.intro a2 b2)
  obtain ⟨Z, hZ⟩ : ∃ x, oneQ n3 xs3 ys3 g3 = x := ⟨_, rfl⟩
  have HQZ := Lib.hid (oneQ_bits n3 xs3 ys3 g3 a3.2.1 b3.2.1); rw [hZ] at HQZ
  have HX3 := Lib.hid hZ; have HR3 : Hid (-9223372036854775808 ≤ n3 ∧ n3 ≤ 9223372036854775807 ∧ (∀ x ∈ xs3, x < 256) ∧ ∀ x ∈ ys3, x < 256) := Lib.hid ⟨r3.1, r3.2, a3.2.1, b3.2.1⟩; have H3 := Lib.hid (And.intro a3 b3)
  have HG1 : Hid (Nat.gcd (X * Y + Z).num.natAbs (((X * Y + Z).den : Nat) : Int).natAbs = 1) := Lib.hid (by rw [Int.natAbs_natCast]; exact (X * Y + Z).reduced)
  have hs := (QB.add (QB.mul HQX.out HQY.out) HQZ.out)
  have HGS : Hid ((ds (X * Y + Z).num.natAbs).length ≤ 40 ∧ (ds (((X * Y + Z).den : Nat) : Int).natAbs).length ≤ 40) := Lib.hid ⟨ds_bl (by omega) (Nat.le_trans hs.1 (by omega)), by rw [Int.natAbs_natCast]; exact ds_bl (by omega) (Nat.le_trans hs.2 (by omega))⟩
  have MX := Lib.hid hM; have TB := Lib.hid hT
  clear hs hM hT hX hY hZ r1 r2 r3 a1 a2 a3 b1 b2 b3
  by_cases hy0 : Y.num = 0
  · skip
    have HYN : Hid (Y.num = 0) := Lib.hid hy0
    clear hy0
    go_enter Tryz.func4, Tryz.ntmps4
    have J := Frm.start (w := w) (V := []) fn
    refine wp_seq_h ?_; intro K1 hK1; go_wp2
    obtain ⟨W2, b2, eW2, eb2, sz2, J⟩ := Frm.putW J rfl H1.out
    obtain ⟨W3, b3, eW3, eb3, sz3, J⟩ := Frm.putW J sz2 H2.out
    obtain ⟨W4, b4, eW4, eb4, sz4, J⟩ := Frm.putW J sz3 H3.out
    rw [← eW2, ← eW3, ← eW4, ← eb4, ← eb3, ← eb2]
    clear eW2 eb2 sz2 eW3 eb3 sz3 eW4 eb4 sz4
    refine hK1.out _ _ ?_; clear hK1
    refine region_c [14, 15, 16, 8, 0] [.that (rawS n1 xs1 ys1 g1), .that (rfracS X), .that (fracS X), .any, .any] [] [⟨.frac, 3, 4, .that (fracS X), .agg #[.bool false, .int .u64 0, .slice none 0 0, .int .u64 0, .slice none 0 0]⟩] [] J ?_ ?_
    · refine .pl rfl (fun _ _ W Γ => ev_ldW (Γ.s rfl) (Γ.l 0 rfl)) ?_
      refine .pl rfl (fun _ _ W Γ => ev_call1 (Γ.f _) run_one3 (show Calls Tryz.prog 6 #[_] W (Gives W (.that (rfracS X))) from HX1.out ▸ one3_val W _ n1 xs1 ys1 g1 HR1.out.1 HR1.out.2.1 HR1.out.2.2.1 HR1.out.2.2.2 (Γ.w (d := 13) 0 rfl))) ?_
      refine .pl rfl (fun _ _ W Γ => ev_call1 (Γ.f _) run_hIn (hIn_val W _ X (QB.mono HQX.out (by omega)) (TB.out.mono Γ.be) (Γ.w (d := 14) 1 rfl))) ?_
      refine .al 0 rfl rfl (fun _ _ => ev_alQ) ?_
      refine .sn 0 rfl rfl (fun _ _ W Γ => ev_stQ (Γ.q 0 rfl) (Γ.un 0 rfl) (Γ.w 2 rfl)) ?_
      exact .nil
    clear J; intro K5 hK5; simp only [fx]; intro β5 f5 W5 J; refine hK5.out _ _ ?_; clear hK5
    refine region_c [17, 18, 19, 9, 0] [.that (rawS n2 xs2 ys2 g2), .that (rfracS Y), .that (fracS Y), .any, .any] [] [⟨.frac, 3, 4, .that (fracS Y), .agg #[.bool false, .int .u64 0, .slice none 0 0, .int .u64 0, .slice none 0 0]⟩] [] J ?_ ?_
    · refine .pl rfl (fun _ _ W Γ => ev_ldW (Γ.s rfl) (Γ.l 1 rfl)) ?_
      refine .pl rfl (fun _ _ W Γ => ev_call1 (Γ.f _) run_one3 (show Calls Tryz.prog 6 #[_] W (Gives W (.that (rfracS Y))) from HX2.out ▸ one3_val W _ n2 xs2 ys2 g2 HR2.out.1 HR2.out.2.1 HR2.out.2.2.1 HR2.out.2.2.2 (Γ.w (d := 16) 0 rfl))) ?_
      refine .pl rfl (fun _ _ W Γ => ev_call1 (Γ.f _) run_hIn (hIn_val W _ Y (QB.mono HQY.out (by omega)) (TB.out.mono Γ.be) (Γ.w (d := 17) 1 rfl))) ?_
      refine .al 0 rfl rfl (fun _ _ => ev_alQ) ?_
      refine .sn 0 rfl rfl (fun _ _ W Γ => ev_stQ (Γ.q 0 rfl) (Γ.un 0 rfl) (Γ.w 2 rfl)) ?_
      exact .nil
    clear J; intro K6 hK6; simp only [fx]; intro β6 f6 W6 J; refine hK6.out _ _ ?_; clear hK6
    refine region_c [20, 21, 22, 10, 0] [.that (rawS n3 xs3 ys3 g3), .that (rfracS Z), .that (fracS Z), .any, .any] [] [⟨.frac, 3, 4, .that (fracS Z), .agg #[.bool false, .int .u64 0, .slice none 0 0, .int .u64 0, .slice none 0 0]⟩] [] J ?_ ?_
    · refine .pl rfl (fun _ _ W Γ => ev_ldW (Γ.s rfl) (Γ.l 2 rfl)) ?_
      refine .pl rfl (fun _ _ W Γ => ev_call1 (Γ.f _) run_one3 (show Calls Tryz.prog 6 #[_] W (Gives W (.that (rfracS Z))) from HX3.out ▸ one3_val W _ n3 xs3 ys3 g3 HR3.out.1 HR3.out.2.1 HR3.out.2.2.1 HR3.out.2.2.2 (Γ.w (d := 19) 0 rfl))) ?_
      refine .pl rfl (fun _ _ W Γ => ev_call1 (Γ.f _) run_hIn (hIn_val W _ Z (QB.mono HQZ.out (by omega)) (TB.out.mono Γ.be) (Γ.w (d := 20) 1 rfl))) ?_
      refine .al 0 rfl rfl (fun _ _ => ev_alQ) ?_
      refine .sn 0 rfl rfl (fun _ _ W Γ => ev_stQ (Γ.q 0 rfl) (Γ.un 0 rfl) (Γ.w 2 rfl)) ?_
      exact .nil
    clear J; intro K7 hK7; simp only [fx]; intro β7 f7 W7 J; refine hK7.out _ _ ?_; clear hK7
    refine wp_seq_h ?_; intro K8 hK8
    refine region_c [23, 24, 25, 26, 27, 28, 29, 30, 31, 32, 33, 34, 35, 36, 37, 38, 39, 40, 41, 42, 43, 44, 45, 46, 47, 48, 49, 50, 51, 52, 53, 54, 55, 56, 57, 58, 59, 60, 61, 62, 63, 64, 65, 66, 67, 68, 69, 70, 71, 72, 73, 74, 75, 76, 77, 78, 79, 80, 81, 82, 83, 84, 85, 86, 87, 88, 89, 90, 91] [.is (.bool true), .is (.bool false), .is (.bool false), .that (fracS X), .that (fracS Y), .that (fracS (X + Y)), .that (fracS Y), .that (fracS X), .that (fracS (Y + X)), .is (.int .i64 0), .is (.bool false), .is (.bool false), .is (.bool false), .that (fracS X), .that (fracS Y), .that (fracS (X * Y)), .that (fracS Y), .that (fracS X), .that (fracS (Y * X)), .is (.int .i64 0), .is (.bool false), .is (.bool false), .is (.bool false), .that (fracS X), .that (fracS Y), .that (fracS (X + Y)), .that (fracS Z), .that (fracS (X + Y + Z)), .that (fracS X), .that (fracS Y), .that (fracS Z), .that (fracS (Y + Z)), .that (fracS (X + (Y + Z))), .is (.int .i64 0), .is (.bool false), .is (.bool false), .is (.bool false), .that (fracS X), .that (fracS Y), .that (fracS Z), .that (fracS (Y + Z)), .that (fracS (X * (Y + Z))), .that (fracS X), .that (fracS Y), .that (fracS (X * Y)), .that (fracS X), .that (fracS Z), .that (fracS (X * Z)), .that (fracS (X * Y + X * Z)), .is (.int .i64 0), .is (.bool false), .is (.bool false), .is (.bool false), .that (fracS X), .that (fracS X), .that (fracS (X - X)), .is (.int .i64 0), .is (.bool false), .is (.bool false), .is (.bool false), .that (fracS X), .that (fracS Y), .that (fracS (X + Y)), .that (fracS Y), .that (fracS (X + Y - Y)), .that (fracS X), .is (.int .i64 0), .is (.bool false), .is (.bool false)] [] [] [] J ?_ ?_
    · refine .pl rfl (fun _ _ W Γ => ev_call0 (Γ.f _) run_known3 (known3_gives W mx (wcell Γ.be MX.out) (TB.out.mono Γ.be))) ?_
      refine .pl rfl (fun _ _ W Γ => ev_not (Γ.k 0 rfl) rfl) ?_
      refine .pl rfl (fun _ _ W Γ => ev_move _ (Γ.k 1 rfl)) ?_
      refine .gu rfl rfl rfl rfl (fun _ _ W Γ => ev_ldQ (Γ.s rfl) (Γ.l 3 rfl)) ?_
      refine .gu rfl rfl rfl rfl (fun _ _ W Γ => ev_ldQ (Γ.s rfl) (Γ.l 4 rfl)) ?_
      refine .gu rfl rfl rfl rfl (fun _ _ W Γ => ev_call2 (Γ.f _) run_qAdd (qAdd_val W _ _ (X) (Y) (QB.mono HQX.out (by omega)) (QB.mono HQY.out (by omega)) (TB.out.mono Γ.be) (Γ.w (d := 25) 3 rfl) (Γ.w (d := 26) 4 rfl))) ?_
      refine .gu rfl rfl rfl rfl (fun _ _ W Γ => ev_ldQ (Γ.s rfl) (Γ.l 4 rfl)) ?_
      refine .gu rfl rfl rfl rfl (fun _ _ W Γ => ev_ldQ (Γ.s rfl) (Γ.l 3 rfl)) ?_
      refine .gu rfl rfl rfl rfl (fun _ _ W Γ => ev_call2 (Γ.f _) run_qAdd (qAdd_val W _ _ (Y) (X) (QB.mono HQY.out (by omega)) (QB.mono HQX.out (by omega)) (TB.out.mono Γ.be) (Γ.w (d := 28) 6 rfl) (Γ.w (d := 29) 7 rfl))) ?_
      refine .gu rfl rfl rfl rfl (fun _ _ W Γ => ev_call2 (Γ.f _) run_qCmp (qCmp_val W _ _ (X + Y) (Y + X) (QB.mono (QB.add HQX.out HQY.out) (by omega)) (QB.mono (QB.add HQY.out HQX.out) (by omega)) 0 (qcmp_same (Rat.add_comm X Y)) (Γ.w (d := 27) 5 rfl) (Γ.w (d := 30) 8 rfl))) ?_
      refine .gu rfl rfl rfl rfl (fun _ E W Γ => by
        have e1 : E (.tmp 31) = .int .i64 0 := (Γ.k 9 rfl)
        have hc := Γ.c
        exact Does.value (w' := W) (by go_simp <;> first | rfl | (rw [IntKind.wrap_i64]; omega)) ⟨rfl, Below.refl _ _⟩) ?_
      refine .pl rfl (fun _ _ W Γ => ev_pick (Γ.k 2 rfl) (Γ.k 10 rfl)) ?_
      refine .pl rfl (fun _ _ W Γ => ev_move _ (Γ.k 11 rfl)) ?_
      refine .gu rfl rfl rfl rfl (fun _ _ W Γ => ev_ldQ (Γ.s rfl) (Γ.l 3 rfl)) ?_
      refine .gu rfl rfl rfl rfl (fun _ _ W Γ => ev_ldQ (Γ.s rfl) (Γ.l 4 rfl)) ?_
      refine .gu rfl rfl rfl rfl (fun _ _ W Γ => ev_call2 (Γ.f _) run_qMul (qMul_val W _ _ (X) (Y) (QB.mono HQX.out (by omega)) (QB.mono HQY.out (by omega)) (TB.out.mono Γ.be) (Γ.w (d := 35) 13 rfl) (Γ.w (d := 36) 14 rfl))) ?_
      refine .gu rfl rfl rfl rfl (fun _ _ W Γ => ev_ldQ (Γ.s rfl) (Γ.l 4 rfl)) ?_
      refine .gu rfl rfl rfl rfl (fun _ _ W Γ => ev_ldQ (Γ.s rfl) (Γ.l 3 rfl)) ?_
      refine .gu rfl rfl rfl rfl (fun _ _ W Γ => ev_call2 (Γ.f _) run_qMul (qMul_val W _ _ (Y) (X) (QB.mono HQY.out (by omega)) (QB.mono HQX.out (by omega)) (TB.out.mono Γ.be) (Γ.w (d := 38) 16 rfl) (Γ.w (d := 39) 17 rfl))) ?_
      refine .gu rfl rfl rfl rfl (fun _ _ W Γ => ev_call2 (Γ.f _) run_qCmp (qCmp_val W _ _ (X * Y) (Y * X) (QB.mono (QB.mul HQX.out HQY.out) (by omega)) (QB.mono (QB.mul HQY.out HQX.out) (by omega)) 0 (qcmp_same (Rat.mul_comm X Y)) (Γ.w (d := 37) 15 rfl) (Γ.w (d := 40) 18 rfl))) ?_
      refine .gu rfl rfl rfl rfl (fun _ E W Γ => by
        have e1 : E (.tmp 41) = .int .i64 0 := (Γ.k 19 rfl)
        have hc := Γ.c
        exact Does.value (w' := W) (by go_simp <;> first | rfl | (rw [IntKind.wrap_i64]; omega)) ⟨rfl, Below.refl _ _⟩) ?_
      refine .pl rfl (fun _ _ W Γ => ev_pick (Γ.k 12 rfl) (Γ.k 20 rfl)) ?_
      refine .pl rfl (fun _ _ W Γ => ev_move _ (Γ.k 21 rfl)) ?_
      refine .gu rfl rfl rfl rfl (fun _ _ W Γ => ev_ldQ (Γ.s rfl) (Γ.l 3 rfl)) ?_
      refine .gu rfl rfl rfl rfl (fun _ _ W Γ => ev_ldQ (Γ.s rfl) (Γ.l 4 rfl)) ?_
      refine .gu rfl rfl rfl rfl (fun _ _ W Γ => ev_call2 (Γ.f _) run_qAdd (qAdd_val W _ _ (X) (Y) (QB.mono HQX.out (by omega)) (QB.mono HQY.out (by omega)) (TB.out.mono Γ.be) (Γ.w (d := 45) 23 rfl) (Γ.w (d := 46) 24 rfl))) ?_
      refine .gu rfl rfl rfl rfl (fun _ _ W Γ => ev_ldQ (Γ.s rfl) (Γ.l 5 rfl)) ?_
      refine .gu rfl rfl rfl rfl (fun _ _ W Γ => ev_call2 (Γ.f _) run_qAdd (qAdd_val W _ _ (X + Y) (Z) (QB.mono (QB.add HQX.out HQY.out) (by omega)) (QB.mono HQZ.out (by omega)) (TB.out.mono Γ.be) (Γ.w (d := 47) 25 rfl) (Γ.w (d := 48) 26 rfl))) ?_
      refine .gu rfl rfl rfl rfl (fun _ _ W Γ => ev_ldQ (Γ.s rfl) (Γ.l 3 rfl)) ?_
      refine .gu rfl rfl rfl rfl (fun _ _ W Γ => ev_ldQ (Γ.s rfl) (Γ.l 4 rfl)) ?_
      refine .gu rfl rfl rfl rfl (fun _ _ W Γ => ev_ldQ (Γ.s rfl) (Γ.l 5 rfl)) ?_
      refine .gu rfl rfl rfl rfl (fun _ _ W Γ => ev_call2 (Γ.f _) run_qAdd (qAdd_val W _ _ (Y) (Z) (QB.mono HQY.out (by omega)) (QB.mono HQZ.out (by omega)) (TB.out.mono Γ.be) (Γ.w (d := 51) 29 rfl) (Γ.w (d := 52) 30 rfl))) ?_
      refine .gu rfl rfl rfl rfl (fun _ _ W Γ => ev_call2 (Γ.f _) run_qAdd (qAdd_val W _ _ (X) (Y + Z) (QB.mono HQX.out (by omega)) (QB.mono (QB.add HQY.out HQZ.out) (by omega)) (TB.out.mono Γ.be) (Γ.w (d := 50) 28 rfl) (Γ.w (d := 53) 31 rfl))) ?_
      refine .gu rfl rfl rfl rfl (fun _ _ W Γ => ev_call2 (Γ.f _) run_qCmp (qCmp_val W _ _ (X + Y + Z) (X + (Y + Z)) (QB.mono (QB.add (QB.add HQX.out HQY.out) HQZ.out) (by omega)) (QB.mono (QB.add HQX.out (QB.add HQY.out HQZ.out)) (by omega)) 0 (qcmp_same (Rat.add_assoc X Y Z)) (Γ.w (d := 49) 27 rfl) (Γ.w (d := 54) 32 rfl))) ?_
      refine .gu rfl rfl rfl rfl (fun _ E W Γ => by
        have e1 : E (.tmp 55) = .int .i64 0 := (Γ.k 33 rfl)
        have hc := Γ.c
        exact Does.value (w' := W) (by go_simp <;> first | rfl | (rw [IntKind.wrap_i64]; omega)) ⟨rfl, Below.refl _ _⟩) ?_
      refine .pl rfl (fun _ _ W Γ => ev_pick (Γ.k 22 rfl) (Γ.k 34 rfl)) ?_
      refine .pl rfl (fun _ _ W Γ => ev_move _ (Γ.k 35 rfl)) ?_
      refine .gu rfl rfl rfl rfl (fun _ _ W Γ => ev_ldQ (Γ.s rfl) (Γ.l 3 rfl)) ?_
      refine .gu rfl rfl rfl rfl (fun _ _ W Γ => ev_ldQ (Γ.s rfl) (Γ.l 4 rfl)) ?_
      refine .gu rfl rfl rfl rfl (fun _ _ W Γ => ev_ldQ (Γ.s rfl) (Γ.l 5 rfl)) ?_
      refine .gu rfl rfl rfl rfl (fun _ _ W Γ => ev_call2 (Γ.f _) run_qAdd (qAdd_val W _ _ (Y) (Z) (QB.mono HQY.out (by omega)) (QB.mono HQZ.out (by omega)) (TB.out.mono Γ.be) (Γ.w (d := 60) 38 rfl) (Γ.w (d := 61) 39 rfl))) ?_
      refine .gu rfl rfl rfl rfl (fun _ _ W Γ => ev_call2 (Γ.f _) run_qMul (qMul_val W _ _ (X) (Y + Z) (QB.mono HQX.out (by omega)) (QB.mono (QB.add HQY.out HQZ.out) (by omega)) (TB.out.mono Γ.be) (Γ.w (d := 59) 37 rfl) (Γ.w (d := 62) 40 rfl))) ?_
      refine .gu rfl rfl rfl rfl (fun _ _ W Γ => ev_ldQ (Γ.s rfl) (Γ.l 3 rfl)) ?_
      refine .gu rfl rfl rfl rfl (fun _ _ W Γ => ev_ldQ (Γ.s rfl) (Γ.l 4 rfl)) ?_
      refine .gu rfl rfl rfl rfl (fun _ _ W Γ => ev_call2 (Γ.f _) run_qMul (qMul_val W _ _ (X) (Y) (QB.mono HQX.out (by omega)) (QB.mono HQY.out (by omega)) (TB.out.mono Γ.be) (Γ.w (d := 64) 42 rfl) (Γ.w (d := 65) 43 rfl))) ?_
      refine .gu rfl rfl rfl rfl (fun _ _ W Γ => ev_ldQ (Γ.s rfl) (Γ.l 3 rfl)) ?_
      refine .gu rfl rfl rfl rfl (fun _ _ W Γ => ev_ldQ (Γ.s rfl) (Γ.l 5 rfl)) ?_
      refine .gu rfl rfl rfl rfl (fun _ _ W Γ => ev_call2 (Γ.f _) run_qMul (qMul_val W _ _ (X) (Z) (QB.mono HQX.out (by omega)) (QB.mono HQZ.out (by omega)) (TB.out.mono Γ.be) (Γ.w (d := 67) 45 rfl) (Γ.w (d := 68) 46 rfl))) ?_
      refine .gu rfl rfl rfl rfl (fun _ _ W Γ => ev_call2 (Γ.f _) run_qAdd (qAdd_val W _ _ (X * Y) (X * Z) (QB.mono (QB.mul HQX.out HQY.out) (by omega)) (QB.mono (QB.mul HQX.out HQZ.out) (by omega)) (TB.out.mono Γ.be) (Γ.w (d := 66) 44 rfl) (Γ.w (d := 69) 47 rfl))) ?_
      refine .gu rfl rfl rfl rfl (fun _ _ W Γ => ev_call2 (Γ.f _) run_qCmp (qCmp_val W _ _ (X * (Y + Z)) (X * Y + X * Z) (QB.mono (QB.mul HQX.out (QB.add HQY.out HQZ.out)) (by omega)) (QB.mono (QB.add (QB.mul HQX.out HQY.out) (QB.mul HQX.out HQZ.out)) (by omega)) 0 (qcmp_same (Rat.mul_add X Y Z)) (Γ.w (d := 63) 41 rfl) (Γ.w (d := 70) 48 rfl))) ?_
      refine .gu rfl rfl rfl rfl (fun _ E W Γ => by
        have e1 : E (.tmp 71) = .int .i64 0 := (Γ.k 49 rfl)
        have hc := Γ.c
        exact Does.value (w' := W) (by go_simp <;> first | rfl | (rw [IntKind.wrap_i64]; omega)) ⟨rfl, Below.refl _ _⟩) ?_
      refine .pl rfl (fun _ _ W Γ => ev_pick (Γ.k 36 rfl) (Γ.k 50 rfl)) ?_
      refine .pl rfl (fun _ _ W Γ => ev_move _ (Γ.k 51 rfl)) ?_
      refine .gu rfl rfl rfl rfl (fun _ _ W Γ => ev_ldQ (Γ.s rfl) (Γ.l 3 rfl)) ?_
      refine .gu rfl rfl rfl rfl (fun _ _ W Γ => ev_ldQ (Γ.s rfl) (Γ.l 3 rfl)) ?_
      refine .gu rfl rfl rfl rfl (fun _ _ W Γ => ev_call2 (Γ.f _) run_qSub (qSub_val W _ _ (X) (X) (QB.mono HQX.out (by omega)) (QB.mono HQX.out (by omega)) (TB.out.mono Γ.be) (Γ.w (d := 75) 53 rfl) (Γ.w (d := 76) 54 rfl))) ?_
      refine .gu rfl rfl rfl rfl (fun _ _ W Γ => ev_call1 (Γ.f _) run_qSign (qSign_val W _ (X - X) 0 (by rw [Rat.sub_self]; rfl) (Γ.w (d := 77) 55 rfl))) ?_
      refine .gu rfl rfl rfl rfl (fun _ E W Γ => by
        have e1 : E (.tmp 78) = .int .i64 0 := (Γ.k 56 rfl)
        have hc := Γ.c
        exact Does.value (w' := W) (by go_simp <;> first | rfl | (rw [IntKind.wrap_i64]; omega)) ⟨rfl, Below.refl _ _⟩) ?_
      refine .pl rfl (fun _ _ W Γ => ev_pick (Γ.k 52 rfl) (Γ.k 57 rfl)) ?_
      refine .pl rfl (fun _ _ W Γ => ev_move _ (Γ.k 58 rfl)) ?_
      refine .gu rfl rfl rfl rfl (fun _ _ W Γ => ev_ldQ (Γ.s rfl) (Γ.l 3 rfl)) ?_
      refine .gu rfl rfl rfl rfl (fun _ _ W Γ => ev_ldQ (Γ.s rfl) (Γ.l 4 rfl)) ?_
      refine .gu rfl rfl rfl rfl (fun _ _ W Γ => ev_call2 (Γ.f _) run_qAdd (qAdd_val W _ _ (X) (Y) (QB.mono HQX.out (by omega)) (QB.mono HQY.out (by omega)) (TB.out.mono Γ.be) (Γ.w (d := 82) 60 rfl) (Γ.w (d := 83) 61 rfl))) ?_
      refine .gu rfl rfl rfl rfl (fun _ _ W Γ => ev_ldQ (Γ.s rfl) (Γ.l 4 rfl)) ?_
      refine .gu rfl rfl rfl rfl (fun _ _ W Γ => ev_call2 (Γ.f _) run_qSub (qSub_val W _ _ (X + Y) (Y) (QB.mono (QB.add HQX.out HQY.out) (by omega)) (QB.mono HQY.out (by omega)) (TB.out.mono Γ.be) (Γ.w (d := 84) 62 rfl) (Γ.w (d := 85) 63 rfl))) ?_
      refine .gu rfl rfl rfl rfl (fun _ _ W Γ => ev_ldQ (Γ.s rfl) (Γ.l 3 rfl)) ?_
      refine .gu rfl rfl rfl rfl (fun _ _ W Γ => ev_call2 (Γ.f _) run_qCmp (qCmp_val W _ _ (X + Y - Y) (X) (QB.mono (QB.sub (QB.add HQX.out HQY.out) HQY.out) (by omega)) (QB.mono HQX.out (by omega)) 0 (qcmp_same (Rat.add_sub_cancel)) (Γ.w (d := 86) 64 rfl) (Γ.w (d := 87) 65 rfl))) ?_
      refine .gu rfl rfl rfl rfl (fun _ E W Γ => by
        have e1 : E (.tmp 88) = .int .i64 0 := (Γ.k 66 rfl)
        have hc := Γ.c
        exact Does.value (w' := W) (by go_simp <;> first | rfl | (rw [IntKind.wrap_i64]; omega)) ⟨rfl, Below.refl _ _⟩) ?_
      refine .pl rfl (fun _ _ W Γ => ev_pick (Γ.k 59 rfl) (Γ.k 67 rfl)) ?_
      exact .nil
    clear J; intro K9 hK9; simp only [fx]; intro _ f9 W9 J; refine hK9.out _ _ ?_; clear hK9
    refine wp_cond_false rfl ?_
    refine wp_skip ?_
    refine hK8.out _ _ ?_; clear hK8
    refine region_c [92, 93, 94, 95, 96, 11, 0] [.that (fracS X), .that (fracS Y), .that (fracS (X * Y)), .that (fracS Z), .that (fracS (X * Y + Z)), .any, .any] [] [⟨.frac, 5, 6, .that (fracS (X * Y + Z)), .agg #[.bool false, .int .u64 0, .slice none 0 0, .int .u64 0, .slice none 0 0]⟩] [] J ?_ ?_
    · refine .pl rfl (fun _ _ W Γ => ev_ldQ (Γ.s rfl) (Γ.l 3 rfl)) ?_
      refine .pl rfl (fun _ _ W Γ => ev_ldQ (Γ.s rfl) (Γ.l 4 rfl)) ?_
      refine .pl rfl (fun _ _ W Γ => ev_call2 (Γ.f _) run_qMul (qMul_val W _ _ (X) (Y) (QB.mono HQX.out (by omega)) (QB.mono HQY.out (by omega)) (TB.out.mono Γ.be) (Γ.w (d := 91) 0 rfl) (Γ.w (d := 92) 1 rfl))) ?_
      refine .pl rfl (fun _ _ W Γ => ev_ldQ (Γ.s rfl) (Γ.l 5 rfl)) ?_
      refine .pl rfl (fun _ _ W Γ => ev_call2 (Γ.f _) run_qAdd (qAdd_val W _ _ (X * Y) (Z) (QB.mono (QB.mul HQX.out HQY.out) (by omega)) (QB.mono HQZ.out (by omega)) (TB.out.mono Γ.be) (Γ.w (d := 93) 2 rfl) (Γ.w (d := 94) 3 rfl))) ?_
      refine .al 0 rfl rfl (fun _ _ => ev_alQ) ?_
      refine .sn 0 rfl rfl (fun _ _ W Γ => ev_stQ (Γ.q 0 rfl) (Γ.un 0 rfl) (Γ.w 4 rfl)) ?_
      exact .nil
    clear J; intro K10 hK10; simp only [fx]; intro β10 f10 W10 J; refine hK10.out _ _ ?_; clear hK10
    refine wp_seq_h ?_; intro K11 hK11
    refine region_c [97, 98, 99, 100, 101, 102, 103, 104] [.that (fracS (X * Y + Z)), .int ((X * Y + Z).num), .that (fracS (X * Y + Z)), .num ((X * Y + Z).den), .int (((X * Y + Z).den : Nat) : Int), .num 1, .is (.string ⟨#[49]⟩), .is (.bool false)] [] [] [] J ?_ ?_
    · refine .pl rfl (fun _ _ W Γ => ev_ldQ (Γ.s rfl) (Γ.l 6 rfl)) ?_
      refine .pl rfl (fun _ _ W Γ => ev_call1 (Γ.f _) run_qNum (qNum_val W _ (X * Y + Z) (Γ.w (d := 96) 0 rfl))) ?_
      refine .pl rfl (fun _ _ W Γ => ev_ldQ (Γ.s rfl) (Γ.l 6 rfl)) ?_
      refine .pl rfl (fun _ _ W Γ => ev_call1 (Γ.f _) run_qDen (qDen_val W _ (X * Y + Z) _ rfl (Γ.w (d := 98) 2 rfl))) ?_
      refine .pl rfl (fun _ _ W Γ => ev_call2 (Γ.f _) run_iFrom (by rw [Γ.c]; exact iFrom_val W _ (X * Y + Z).den (Γ.w (d := 99) 3 rfl))) ?_
      refine .pl rfl (fun _ _ W Γ => ev_call2 (Γ.f _) run_iGcd (iGcd_val W _ _ (X * Y + Z).num (((X * Y + Z).den : Nat) : Int) 1 HG1.out HGS.out.1 HGS.out.2 (TB.out.mono Γ.be) (Γ.w (d := 97) 1 rfl) (Γ.w (d := 100) 4 rfl))) ?_
      refine .pl rfl (fun _ _ W Γ => ev_call1 (Γ.f _) run_nText (nText_one W _ (Γ.w (d := 101) 5 rfl))) ?_
      refine .pl rfl (fun _ E W Γ => by
        have e1 : E (.tmp 102) = .string ⟨#[49]⟩ := (Γ.k 6 rfl)
        have hc := Γ.c
        exact Does.value (w' := W) (by go_simp <;> first | rfl | (rw [IntKind.wrap_i64]; omega)) ⟨rfl, Below.refl _ _⟩) ?_
      exact .nil
    clear J; intro K12 hK12; simp only [fx]; intro _ f12 W12 J; refine hK12.out _ _ ?_; clear hK12
    refine wp_cond_false rfl ?_
    refine wp_skip ?_
    refine hK11.out _ _ ?_; clear hK11
    refine region_c [106, 107, 108, 105, 109, 110, 12, 0, 13] [.that (fracS X), .that (fracS Y), .two (.that (fracS 0)) (.is (.bool false)), .two (.that (fracS 0)) (.is (.bool false)), .that (fracS 0), .is (.bool false), .any, .any, .is (.bool false)] [] [⟨.frac, 6, 7, .that (fracS 0), .agg #[.bool false, .int .u64 0, .slice none 0 0, .int .u64 0, .slice none 0 0]⟩] [] J ?_ ?_
    · refine .pl rfl (fun _ _ W Γ => ev_ldQ (Γ.s rfl) (Γ.l 3 rfl)) ?_
      refine .pl rfl (fun _ _ W Γ => ev_ldQ (Γ.s rfl) (Γ.l 4 rfl)) ?_
      refine .pl rfl (fun _ _ W Γ => ev_call2 (Γ.f _) run_qDiv (qDiv_none W _ _ X Y HYN.out (Γ.w (d := 105) 0 rfl) (Γ.w (d := 106) 1 rfl))) ?_
      refine .pl rfl (fun _ _ W Γ => ev_moveM (Γ.w 2 rfl)) ?_
      refine .pl rfl (fun _ _ W Γ => ev_ex20 (Γ.w 3 rfl)) ?_
      refine .pl rfl (fun _ _ W Γ => ev_ex21 (Γ.w 3 rfl)) ?_
      refine .al 0 rfl rfl (fun _ _ => ev_alQ) ?_
      refine .sn 0 rfl rfl (fun _ _ W Γ => ev_stQ (Γ.q 0 rfl) (Γ.un 0 rfl) (Γ.w 4 rfl)) ?_
      refine .pl rfl (fun _ _ W Γ => ev_assign _ (Γ.k 5 rfl)) ?_
      exact .nil
    clear J; intro K13 hK13; simp only [fx]; intro β13 f13 W13 J; refine hK13.out _ _ ?_; clear hK13
    refine region_c [111, 112, 113, 114, 115, 116, 117, 118, 119, 120, 121, 122, 123, 124, 125, 126, 127, 128, 129, 130, 131, 132, 133, 7] [.is (.bool false), .is (.bool true), .is (.bool true), .is undef, .is undef, .is undef, .is undef, .is undef, .is undef, .is undef, .is undef, .is undef, .is undef, .is undef, .is undef, .is undef, .is undef, .is undef, .is undef, .is undef, .is undef, .is undef, .is (.bool true), .is (.bool true)] [] [] [] J ?_ ?_
    · refine .pl rfl (fun _ _ W Γ => ev_move _ (Γ.s rfl)) ?_
      refine .pl rfl (fun _ _ W Γ => ev_not (Γ.k 0 rfl) rfl) ?_
      refine .pl rfl (fun _ _ W Γ => ev_move _ (Γ.k 1 rfl)) ?_
      refine .off rfl rfl rfl rfl ?_
      refine .off rfl rfl rfl rfl ?_
      refine .off rfl rfl rfl rfl ?_
      refine .off rfl rfl rfl rfl ?_
      refine .off rfl rfl rfl rfl ?_
      refine .off rfl rfl rfl rfl ?_
      refine .off rfl rfl rfl rfl ?_
      refine .offu rfl rfl rfl rfl ?_
      refine .offu rfl rfl rfl rfl ?_
      refine .offu rfl rfl rfl rfl ?_
      refine .offu rfl rfl rfl rfl ?_
      refine .offu rfl rfl rfl rfl ?_
      refine .offu rfl rfl rfl rfl ?_
      refine .offu rfl rfl rfl rfl ?_
      refine .offu rfl rfl rfl rfl ?_
      refine .offu rfl rfl rfl rfl ?_
      refine .offu rfl rfl rfl rfl ?_
      refine .offu rfl rfl rfl rfl ?_
      refine .off rfl rfl rfl rfl ?_
      refine .pl rfl (fun _ _ W Γ => ev_pick (Γ.k 2 rfl) (Γ.c _)) ?_
      refine .pl rfl (fun _ _ W Γ => ev_assign _ (Γ.k 22 rfl)) ?_
      exact .nil
    clear J; intro K14 hK14; simp only [fx]; intro _ f14 W14 J; refine hK14.out _ _ ?_; clear hK14
    refine wp_ret ?_
    exact bodyPost_ret (v := .bool true) (by simp [results, Tryz.results4, go_sem]) rfl ⟨_, rfl, rfl, J.out.be⟩
  · skip
    have HYN : Hid (Y.num ≠ 0) := Lib.hid hy0
    have HY0 : Hid (Y ≠ 0) := Lib.hid (fun e => hy0 (by rw [e]; rfl))
    clear hy0
    go_enter Tryz.func4, Tryz.ntmps4
    have J := Frm.start (w := w) (V := []) fn
    refine wp_seq_h ?_; intro K1 hK1; go_wp2
    obtain ⟨W2, b2, eW2, eb2, sz2, J⟩ := Frm.putW J rfl H1.out
    obtain ⟨W3, b3, eW3, eb3, sz3, J⟩ := Frm.putW J sz2 H2.out
    obtain ⟨W4, b4, eW4, eb4, sz4, J⟩ := Frm.putW J sz3 H3.out
    rw [← eW2, ← eW3, ← eW4, ← eb4, ← eb3, ← eb2]
    clear eW2 eb2 sz2 eW3 eb3 sz3 eW4 eb4 sz4
    refine hK1.out _ _ ?_; clear hK1
    refine region_c [14, 15, 16, 8, 0] [.that (rawS n1 xs1 ys1 g1), .that (rfracS X), .that (fracS X), .any, .any] [] [⟨.frac, 3, 4, .that (fracS X), .agg #[.bool false, .int .u64 0, .slice none 0 0, .int .u64 0, .slice none 0 0]⟩] [] J ?_ ?_
    · refine .pl rfl (fun _ _ W Γ => ev_ldW (Γ.s rfl) (Γ.l 0 rfl)) ?_
      refine .pl rfl (fun _ _ W Γ => ev_call1 (Γ.f _) run_one3 (show Calls Tryz.prog 6 #[_] W (Gives W (.that (rfracS X))) from HX1.out ▸ one3_val W _ n1 xs1 ys1 g1 HR1.out.1 HR1.out.2.1 HR1.out.2.2.1 HR1.out.2.2.2 (Γ.w (d := 13) 0 rfl))) ?_
      refine .pl rfl (fun _ _ W Γ => ev_call1 (Γ.f _) run_hIn (hIn_val W _ X (QB.mono HQX.out (by omega)) (TB.out.mono Γ.be) (Γ.w (d := 14) 1 rfl))) ?_
      refine .al 0 rfl rfl (fun _ _ => ev_alQ) ?_
      refine .sn 0 rfl rfl (fun _ _ W Γ => ev_stQ (Γ.q 0 rfl) (Γ.un 0 rfl) (Γ.w 2 rfl)) ?_
      exact .nil
    clear J; intro K5 hK5; simp only [fx]; intro β5 f5 W5 J; refine hK5.out _ _ ?_; clear hK5
    refine region_c [17, 18, 19, 9, 0] [.that (rawS n2 xs2 ys2 g2), .that (rfracS Y), .that (fracS Y), .any, .any] [] [⟨.frac, 3, 4, .that (fracS Y), .agg #[.bool false, .int .u64 0, .slice none 0 0, .int .u64 0, .slice none 0 0]⟩] [] J ?_ ?_
    · refine .pl rfl (fun _ _ W Γ => ev_ldW (Γ.s rfl) (Γ.l 1 rfl)) ?_
      refine .pl rfl (fun _ _ W Γ => ev_call1 (Γ.f _) run_one3 (show Calls Tryz.prog 6 #[_] W (Gives W (.that (rfracS Y))) from HX2.out ▸ one3_val W _ n2 xs2 ys2 g2 HR2.out.1 HR2.out.2.1 HR2.out.2.2.1 HR2.out.2.2.2 (Γ.w (d := 16) 0 rfl))) ?_
      refine .pl rfl (fun _ _ W Γ => ev_call1 (Γ.f _) run_hIn (hIn_val W _ Y (QB.mono HQY.out (by omega)) (TB.out.mono Γ.be) (Γ.w (d := 17) 1 rfl))) ?_
      refine .al 0 rfl rfl (fun _ _ => ev_alQ) ?_
      refine .sn 0 rfl rfl (fun _ _ W Γ => ev_stQ (Γ.q 0 rfl) (Γ.un 0 rfl) (Γ.w 2 rfl)) ?_
      exact .nil
    clear J; intro K6 hK6; simp only [fx]; intro β6 f6 W6 J; refine hK6.out _ _ ?_; clear hK6
    refine region_c [20, 21, 22, 10, 0] [.that (rawS n3 xs3 ys3 g3), .that (rfracS Z), .that (fracS Z), .any, .any] [] [⟨.frac, 3, 4, .that (fracS Z), .agg #[.bool false, .int .u64 0, .slice none 0 0, .int .u64 0, .slice none 0 0]⟩] [] J ?_ ?_
    · refine .pl rfl (fun _ _ W Γ => ev_ldW (Γ.s rfl) (Γ.l 2 rfl)) ?_
      refine .pl rfl (fun _ _ W Γ => ev_call1 (Γ.f _) run_one3 (show Calls Tryz.prog 6 #[_] W (Gives W (.that (rfracS Z))) from HX3.out ▸ one3_val W _ n3 xs3 ys3 g3 HR3.out.1 HR3.out.2.1 HR3.out.2.2.1 HR3.out.2.2.2 (Γ.w (d := 19) 0 rfl))) ?_
      refine .pl rfl (fun _ _ W Γ => ev_call1 (Γ.f _) run_hIn (hIn_val W _ Z (QB.mono HQZ.out (by omega)) (TB.out.mono Γ.be) (Γ.w (d := 20) 1 rfl))) ?_
      refine .al 0 rfl rfl (fun _ _ => ev_alQ) ?_
      refine .sn 0 rfl rfl (fun _ _ W Γ => ev_stQ (Γ.q 0 rfl) (Γ.un 0 rfl) (Γ.w 2 rfl)) ?_
      exact .nil
    clear J; intro K7 hK7; simp only [fx]; intro β7 f7 W7 J; refine hK7.out _ _ ?_; clear hK7
    refine wp_seq_h ?_; intro K8 hK8
    refine region_c [23, 24, 25, 26, 27, 28, 29, 30, 31, 32, 33, 34, 35, 36, 37, 38, 39, 40, 41, 42, 43, 44, 45, 46, 47, 48, 49, 50, 51, 52, 53, 54, 55, 56, 57, 58, 59, 60, 61, 62, 63, 64, 65, 66, 67, 68, 69, 70, 71, 72, 73, 74, 75, 76, 77, 78, 79, 80, 81, 82, 83, 84, 85, 86, 87, 88, 89, 90, 91] [.is (.bool true), .is (.bool false), .is (.bool false), .that (fracS X), .that (fracS Y), .that (fracS (X + Y)), .that (fracS Y), .that (fracS X), .that (fracS (Y + X)), .is (.int .i64 0), .is (.bool false), .is (.bool false), .is (.bool false), .that (fracS X), .that (fracS Y), .that (fracS (X * Y)), .that (fracS Y), .that (fracS X), .that (fracS (Y * X)), .is (.int .i64 0), .is (.bool false), .is (.bool false), .is (.bool false), .that (fracS X), .that (fracS Y), .that (fracS (X + Y)), .that (fracS Z), .that (fracS (X + Y + Z)), .that (fracS X), .that (fracS Y), .that (fracS Z), .that (fracS (Y + Z)), .that (fracS (X + (Y + Z))), .is (.int .i64 0), .is (.bool false), .is (.bool false), .is (.bool false), .that (fracS X), .that (fracS Y), .that (fracS Z), .that (fracS (Y + Z)), .that (fracS (X * (Y + Z))), .that (fracS X), .that (fracS Y), .that (fracS (X * Y)), .that (fracS X), .that (fracS Z), .that (fracS (X * Z)), .that (fracS (X * Y + X * Z)), .is (.int .i64 0), .is (.bool false), .is (.bool false), .is (.bool false), .that (fracS X), .that (fracS X), .that (fracS (X - X)), .is (.int .i64 0), .is (.bool false), .is (.bool false), .is (.bool false), .that (fracS X), .that (fracS Y), .that (fracS (X + Y)), .that (fracS Y), .that (fracS (X + Y - Y)), .that (fracS X), .is (.int .i64 0), .is (.bool false), .is (.bool false)] [] [] [] J ?_ ?_
    · refine .pl rfl (fun _ _ W Γ => ev_call0 (Γ.f _) run_known3 (known3_gives W mx (wcell Γ.be MX.out) (TB.out.mono Γ.be))) ?_
      refine .pl rfl (fun _ _ W Γ => ev_not (Γ.k 0 rfl) rfl) ?_
      refine .pl rfl (fun _ _ W Γ => ev_move _ (Γ.k 1 rfl)) ?_
      refine .gu rfl rfl rfl rfl (fun _ _ W Γ => ev_ldQ (Γ.s rfl) (Γ.l 3 rfl)) ?_
      refine .gu rfl rfl rfl rfl (fun _ _ W Γ => ev_ldQ (Γ.s rfl) (Γ.l 4 rfl)) ?_
      refine .gu rfl rfl rfl rfl (fun _ _ W Γ => ev_call2 (Γ.f _) run_qAdd (qAdd_val W _ _ (X) (Y) (QB.mono HQX.out (by omega)) (QB.mono HQY.out (by omega)) (TB.out.mono Γ.be) (Γ.w (d := 25) 3 rfl) (Γ.w (d := 26) 4 rfl))) ?_
      refine .gu rfl rfl rfl rfl (fun _ _ W Γ => ev_ldQ (Γ.s rfl) (Γ.l 4 rfl)) ?_
      refine .gu rfl rfl rfl rfl (fun _ _ W Γ => ev_ldQ (Γ.s rfl) (Γ.l 3 rfl)) ?_
      refine .gu rfl rfl rfl rfl (fun _ _ W Γ => ev_call2 (Γ.f _) run_qAdd (qAdd_val W _ _ (Y) (X) (QB.mono HQY.out (by omega)) (QB.mono HQX.out (by omega)) (TB.out.mono Γ.be) (Γ.w (d := 28) 6 rfl) (Γ.w (d := 29) 7 rfl))) ?_
      refine .gu rfl rfl rfl rfl (fun _ _ W Γ => ev_call2 (Γ.f _) run_qCmp (qCmp_val W _ _ (X + Y) (Y + X) (QB.mono (QB.add HQX.out HQY.out) (by omega)) (QB.mono (QB.add HQY.out HQX.out) (by omega)) 0 (qcmp_same (Rat.add_comm X Y)) (Γ.w (d := 27) 5 rfl) (Γ.w (d := 30) 8 rfl))) ?_
      refine .gu rfl rfl rfl rfl (fun _ E W Γ => by
        have e1 : E (.tmp 31) = .int .i64 0 := (Γ.k 9 rfl)
        have hc := Γ.c
        exact Does.value (w' := W) (by go_simp <;> first | rfl | (rw [IntKind.wrap_i64]; omega)) ⟨rfl, Below.refl _ _⟩) ?_
      refine .pl rfl (fun _ _ W Γ => ev_pick (Γ.k 2 rfl) (Γ.k 10 rfl)) ?_
      refine .pl rfl (fun _ _ W Γ => ev_move _ (Γ.k 11 rfl)) ?_
      refine .gu rfl rfl rfl rfl (fun _ _ W Γ => ev_ldQ (Γ.s rfl) (Γ.l 3 rfl)) ?_
      refine .gu rfl rfl rfl rfl (fun _ _ W Γ => ev_ldQ (Γ.s rfl) (Γ.l 4 rfl)) ?_
      refine .gu rfl rfl rfl rfl (fun _ _ W Γ => ev_call2 (Γ.f _) run_qMul (qMul_val W _ _ (X) (Y) (QB.mono HQX.out (by omega)) (QB.mono HQY.out (by omega)) (TB.out.mono Γ.be) (Γ.w (d := 35) 13 rfl) (Γ.w (d := 36) 14 rfl))) ?_
      refine .gu rfl rfl rfl rfl (fun _ _ W Γ => ev_ldQ (Γ.s rfl) (Γ.l 4 rfl)) ?_
      refine .gu rfl rfl rfl rfl (fun _ _ W Γ => ev_ldQ (Γ.s rfl) (Γ.l 3 rfl)) ?_
      refine .gu rfl rfl rfl rfl (fun _ _ W Γ => ev_call2 (Γ.f _) run_qMul (qMul_val W _ _ (Y) (X) (QB.mono HQY.out (by omega)) (QB.mono HQX.out (by omega)) (TB.out.mono Γ.be) (Γ.w (d := 38) 16 rfl) (Γ.w (d := 39) 17 rfl))) ?_
      refine .gu rfl rfl rfl rfl (fun _ _ W Γ => ev_call2 (Γ.f _) run_qCmp (qCmp_val W _ _ (X * Y) (Y * X) (QB.mono (QB.mul HQX.out HQY.out) (by omega)) (QB.mono (QB.mul HQY.out HQX.out) (by omega)) 0 (qcmp_same (Rat.mul_comm X Y)) (Γ.w (d := 37) 15 rfl) (Γ.w (d := 40) 18 rfl))) ?_
      refine .gu rfl rfl rfl rfl (fun _ E W Γ => by
        have e1 : E (.tmp 41) = .int .i64 0 := (Γ.k 19 rfl)
        have hc := Γ.c
        exact Does.value (w' := W) (by go_simp <;> first | rfl | (rw [IntKind.wrap_i64]; omega)) ⟨rfl, Below.refl _ _⟩) ?_
      refine .pl rfl (fun _ _ W Γ => ev_pick (Γ.k 12 rfl) (Γ.k 20 rfl)) ?_
      refine .pl rfl (fun _ _ W Γ => ev_move _ (Γ.k 21 rfl)) ?_
      refine .gu rfl rfl rfl rfl (fun _ _ W Γ => ev_ldQ (Γ.s rfl) (Γ.l 3 rfl)) ?_
      refine .gu rfl rfl rfl rfl (fun _ _ W Γ => ev_ldQ (Γ.s rfl) (Γ.l 4 rfl)) ?_
      refine .gu rfl rfl rfl rfl (fun _ _ W Γ => ev_call2 (Γ.f _) run_qAdd (qAdd_val W _ _ (X) (Y) (QB.mono HQX.out (by omega)) (QB.mono HQY.out (by omega)) (TB.out.mono Γ.be) (Γ.w (d := 45) 23 rfl) (Γ.w (d := 46) 24 rfl))) ?_
      refine .gu rfl rfl rfl rfl (fun _ _ W Γ => ev_ldQ (Γ.s rfl) (Γ.l 5 rfl)) ?_
      refine .gu rfl rfl rfl rfl (fun _ _ W Γ => ev_call2 (Γ.f _) run_qAdd (qAdd_val W _ _ (X + Y) (Z) (QB.mono (QB.add HQX.out HQY.out) (by omega)) (QB.mono HQZ.out (by omega)) (TB.out.mono Γ.be) (Γ.w (d := 47) 25 rfl) (Γ.w (d := 48) 26 rfl))) ?_
      refine .gu rfl rfl rfl rfl (fun _ _ W Γ => ev_ldQ (Γ.s rfl) (Γ.l 3 rfl)) ?_
      refine .gu rfl rfl rfl rfl (fun _ _ W Γ => ev_ldQ (Γ.s rfl) (Γ.l 4 rfl)) ?_
      refine .gu rfl rfl rfl rfl (fun _ _ W Γ => ev_ldQ (Γ.s rfl) (Γ.l 5 rfl)) ?_
      refine .gu rfl rfl rfl rfl (fun _ _ W Γ => ev_call2 (Γ.f _) run_qAdd (qAdd_val W _ _ (Y) (Z) (QB.mono HQY.out (by omega)) (QB.mono HQZ.out (by omega)) (TB.out.mono Γ.be) (Γ.w (d := 51) 29 rfl) (Γ.w (d := 52) 30 rfl))) ?_
      refine .gu rfl rfl rfl rfl (fun _ _ W Γ => ev_call2 (Γ.f _) run_qAdd (qAdd_val W _ _ (X) (Y + Z) (QB.mono HQX.out (by omega)) (QB.mono (QB.add HQY.out HQZ.out) (by omega)) (TB.out.mono Γ.be) (Γ.w (d := 50) 28 rfl) (Γ.w (d := 53) 31 rfl))) ?_
      refine .gu rfl rfl rfl rfl (fun _ _ W Γ => ev_call2 (Γ.f _) run_qCmp (qCmp_val W _ _ (X + Y + Z) (X + (Y + Z)) (QB.mono (QB.add (QB.add HQX.out HQY.out) HQZ.out) (by omega)) (QB.mono (QB.add HQX.out (QB.add HQY.out HQZ.out)) (by omega)) 0 (qcmp_same (Rat.add_assoc X Y Z)) (Γ.w (d := 49) 27 rfl) (Γ.w (d := 54) 32 rfl))) ?_
      refine .gu rfl rfl rfl rfl (fun _ E W Γ => by
        have e1 : E (.tmp 55) = .int .i64 0 := (Γ.k 33 rfl)
        have hc := Γ.c
        exact Does.value (w' := W) (by go_simp <;> first | rfl | (rw [IntKind.wrap_i64]; omega)) ⟨rfl, Below.refl _ _⟩) ?_
      refine .pl rfl (fun _ _ W Γ => ev_pick (Γ.k 22 rfl) (Γ.k 34 rfl)) ?_
      refine .pl rfl (fun _ _ W Γ => ev_move _ (Γ.k 35 rfl)) ?_
      refine .gu rfl rfl rfl rfl (fun _ _ W Γ => ev_ldQ (Γ.s rfl) (Γ.l 3 rfl)) ?_
      refine .gu rfl rfl rfl rfl (fun _ _ W Γ => ev_ldQ (Γ.s rfl) (Γ.l 4 rfl)) ?_
      refine .gu rfl rfl rfl rfl (fun _ _ W Γ => ev_ldQ (Γ.s rfl) (Γ.l 5 rfl)) ?_
      refine .gu rfl rfl rfl rfl (fun _ _ W Γ => ev_call2 (Γ.f _) run_qAdd (qAdd_val W _ _ (Y) (Z) (QB.mono HQY.out (by omega)) (QB.mono HQZ.out (by omega)) (TB.out.mono Γ.be) (Γ.w (d := 60) 38 rfl) (Γ.w (d := 61) 39 rfl))) ?_
      refine .gu rfl rfl rfl rfl (fun _ _ W Γ => ev_call2 (Γ.f _) run_qMul (qMul_val W _ _ (X) (Y + Z) (QB.mono HQX.out (by omega)) (QB.mono (QB.add HQY.out HQZ.out) (by omega)) (TB.out.mono Γ.be) (Γ.w (d := 59) 37 rfl) (Γ.w (d := 62) 40 rfl))) ?_
      refine .gu rfl rfl rfl rfl (fun _ _ W Γ => ev_ldQ (Γ.s rfl) (Γ.l 3 rfl)) ?_
      refine .gu rfl rfl rfl rfl (fun _ _ W Γ => ev_ldQ (Γ.s rfl) (Γ.l 4 rfl)) ?_
      refine .gu rfl rfl rfl rfl (fun _ _ W Γ => ev_call2 (Γ.f _) run_qMul (qMul_val W _ _ (X) (Y) (QB.mono HQX.out (by omega)) (QB.mono HQY.out (by omega)) (TB.out.mono Γ.be) (Γ.w (d := 64) 42 rfl) (Γ.w (d := 65) 43 rfl))) ?_
      refine .gu rfl rfl rfl rfl (fun _ _ W Γ => ev_ldQ (Γ.s rfl) (Γ.l 3 rfl)) ?_
      refine .gu rfl rfl rfl rfl (fun _ _ W Γ => ev_ldQ (Γ.s rfl) (Γ.l 5 rfl)) ?_
      refine .gu rfl rfl rfl rfl (fun _ _ W Γ => ev_call2 (Γ.f _) run_qMul (qMul_val W _ _ (X) (Z) (QB.mono HQX.out (by omega)) (QB.mono HQZ.out (by omega)) (TB.out.mono Γ.be) (Γ.w (d := 67) 45 rfl) (Γ.w (d := 68) 46 rfl))) ?_
      refine .gu rfl rfl rfl rfl (fun _ _ W Γ => ev_call2 (Γ.f _) run_qAdd (qAdd_val W _ _ (X * Y) (X * Z) (QB.mono (QB.mul HQX.out HQY.out) (by omega)) (QB.mono (QB.mul HQX.out HQZ.out) (by omega)) (TB.out.mono Γ.be) (Γ.w (d := 66) 44 rfl) (Γ.w (d := 69) 47 rfl))) ?_
      refine .gu rfl rfl rfl rfl (fun _ _ W Γ => ev_call2 (Γ.f _) run_qCmp (qCmp_val W _ _ (X * (Y + Z)) (X * Y + X * Z) (QB.mono (QB.mul HQX.out (QB.add HQY.out HQZ.out)) (by omega)) (QB.mono (QB.add (QB.mul HQX.out HQY.out) (QB.mul HQX.out HQZ.out)) (by omega)) 0 (qcmp_same (Rat.mul_add X Y Z)) (Γ.w (d := 63) 41 rfl) (Γ.w (d := 70) 48 rfl))) ?_
      refine .gu rfl rfl rfl rfl (fun _ E W Γ => by
        have e1 : E (.tmp 71) = .int .i64 0 := (Γ.k 49 rfl)
        have hc := Γ.c
        exact Does.value (w' := W) (by go_simp <;> first | rfl | (rw [IntKind.wrap_i64]; omega)) ⟨rfl, Below.refl _ _⟩) ?_
      refine .pl rfl (fun _ _ W Γ => ev_pick (Γ.k 36 rfl) (Γ.k 50 rfl)) ?_
      refine .pl rfl (fun _ _ W Γ => ev_move _ (Γ.k 51 rfl)) ?_
      refine .gu rfl rfl rfl rfl (fun _ _ W Γ => ev_ldQ (Γ.s rfl) (Γ.l 3 rfl)) ?_
      refine .gu rfl rfl rfl rfl (fun _ _ W Γ => ev_ldQ (Γ.s rfl) (Γ.l 3 rfl)) ?_
      refine .gu rfl rfl rfl rfl (fun _ _ W Γ => ev_call2 (Γ.f _) run_qSub (qSub_val W _ _ (X) (X) (QB.mono HQX.out (by omega)) (QB.mono HQX.out (by omega)) (TB.out.mono Γ.be) (Γ.w (d := 75) 53 rfl) (Γ.w (d := 76) 54 rfl))) ?_
      refine .gu rfl rfl rfl rfl (fun _ _ W Γ => ev_call1 (Γ.f _) run_qSign (qSign_val W _ (X - X) 0 (by rw [Rat.sub_self]; rfl) (Γ.w (d := 77) 55 rfl))) ?_
      refine .gu rfl rfl rfl rfl (fun _ E W Γ => by
        have e1 : E (.tmp 78) = .int .i64 0 := (Γ.k 56 rfl)
        have hc := Γ.c
        exact Does.value (w' := W) (by go_simp <;> first | rfl | (rw [IntKind.wrap_i64]; omega)) ⟨rfl, Below.refl _ _⟩) ?_
      refine .pl rfl (fun _ _ W Γ => ev_pick (Γ.k 52 rfl) (Γ.k 57 rfl)) ?_
      refine .pl rfl (fun _ _ W Γ => ev_move _ (Γ.k 58 rfl)) ?_
      refine .gu rfl rfl rfl rfl (fun _ _ W Γ => ev_ldQ (Γ.s rfl) (Γ.l 3 rfl)) ?_
      refine .gu rfl rfl rfl rfl (fun _ _ W Γ => ev_ldQ (Γ.s rfl) (Γ.l 4 rfl)) ?_
      refine .gu rfl rfl rfl rfl (fun _ _ W Γ => ev_call2 (Γ.f _) run_qAdd (qAdd_val W _ _ (X) (Y) (QB.mono HQX.out (by omega)) (QB.mono HQY.out (by omega)) (TB.out.mono Γ.be) (Γ.w (d := 82) 60 rfl) (Γ.w (d := 83) 61 rfl))) ?_
      refine .gu rfl rfl rfl rfl (fun _ _ W Γ => ev_ldQ (Γ.s rfl) (Γ.l 4 rfl)) ?_
      refine .gu rfl rfl rfl rfl (fun _ _ W Γ => ev_call2 (Γ.f _) run_qSub (qSub_val W _ _ (X + Y) (Y) (QB.mono (QB.add HQX.out HQY.out) (by omega)) (QB.mono HQY.out (by omega)) (TB.out.mono Γ.be) (Γ.w (d := 84) 62 rfl) (Γ.w (d := 85) 63 rfl))) ?_
      refine .gu rfl rfl rfl rfl (fun _ _ W Γ => ev_ldQ (Γ.s rfl) (Γ.l 3 rfl)) ?_
      refine .gu rfl rfl rfl rfl (fun _ _ W Γ => ev_call2 (Γ.f _) run_qCmp (qCmp_val W _ _ (X + Y - Y) (X) (QB.mono (QB.sub (QB.add HQX.out HQY.out) HQY.out) (by omega)) (QB.mono HQX.out (by omega)) 0 (qcmp_same (Rat.add_sub_cancel)) (Γ.w (d := 86) 64 rfl) (Γ.w (d := 87) 65 rfl))) ?_
      refine .gu rfl rfl rfl rfl (fun _ E W Γ => by
        have e1 : E (.tmp 88) = .int .i64 0 := (Γ.k 66 rfl)
        have hc := Γ.c
        exact Does.value (w' := W) (by go_simp <;> first | rfl | (rw [IntKind.wrap_i64]; omega)) ⟨rfl, Below.refl _ _⟩) ?_
      refine .pl rfl (fun _ _ W Γ => ev_pick (Γ.k 59 rfl) (Γ.k 67 rfl)) ?_
      exact .nil
    clear J; intro K9 hK9; simp only [fx]; intro _ f9 W9 J; refine hK9.out _ _ ?_; clear hK9
    refine wp_cond_false rfl ?_
    refine wp_skip ?_
    refine hK8.out _ _ ?_; clear hK8
    refine region_c [92, 93, 94, 95, 96, 11, 0] [.that (fracS X), .that (fracS Y), .that (fracS (X * Y)), .that (fracS Z), .that (fracS (X * Y + Z)), .any, .any] [] [⟨.frac, 5, 6, .that (fracS (X * Y + Z)), .agg #[.bool false, .int .u64 0, .slice none 0 0, .int .u64 0, .slice none 0 0]⟩] [] J ?_ ?_
    · refine .pl rfl (fun _ _ W Γ => ev_ldQ (Γ.s rfl) (Γ.l 3 rfl)) ?_
      refine .pl rfl (fun _ _ W Γ => ev_ldQ (Γ.s rfl) (Γ.l 4 rfl)) ?_
      refine .pl rfl (fun _ _ W Γ => ev_call2 (Γ.f _) run_qMul (qMul_val W _ _ (X) (Y) (QB.mono HQX.out (by omega)) (QB.mono HQY.out (by omega)) (TB.out.mono Γ.be) (Γ.w (d := 91) 0 rfl) (Γ.w (d := 92) 1 rfl))) ?_
      refine .pl rfl (fun _ _ W Γ => ev_ldQ (Γ.s rfl) (Γ.l 5 rfl)) ?_
      refine .pl rfl (fun _ _ W Γ => ev_call2 (Γ.f _) run_qAdd (qAdd_val W _ _ (X * Y) (Z) (QB.mono (QB.mul HQX.out HQY.out) (by omega)) (QB.mono HQZ.out (by omega)) (TB.out.mono Γ.be) (Γ.w (d := 93) 2 rfl) (Γ.w (d := 94) 3 rfl))) ?_
      refine .al 0 rfl rfl (fun _ _ => ev_alQ) ?_
      refine .sn 0 rfl rfl (fun _ _ W Γ => ev_stQ (Γ.q 0 rfl) (Γ.un 0 rfl) (Γ.w 4 rfl)) ?_
      exact .nil
    clear J; intro K10 hK10; simp only [fx]; intro β10 f10 W10 J; refine hK10.out _ _ ?_; clear hK10
    refine wp_seq_h ?_; intro K11 hK11
    refine region_c [97, 98, 99, 100, 101, 102, 103, 104] [.that (fracS (X * Y + Z)), .int ((X * Y + Z).num), .that (fracS (X * Y + Z)), .num ((X * Y + Z).den), .int (((X * Y + Z).den : Nat) : Int), .num 1, .is (.string ⟨#[49]⟩), .is (.bool false)] [] [] [] J ?_ ?_
    · refine .pl rfl (fun _ _ W Γ => ev_ldQ (Γ.s rfl) (Γ.l 6 rfl)) ?_
      refine .pl rfl (fun _ _ W Γ => ev_call1 (Γ.f _) run_qNum (qNum_val W _ (X * Y + Z) (Γ.w (d := 96) 0 rfl))) ?_
      refine .pl rfl (fun _ _ W Γ => ev_ldQ (Γ.s rfl) (Γ.l 6 rfl)) ?_
      refine .pl rfl (fun _ _ W Γ => ev_call1 (Γ.f _) run_qDen (qDen_val W _ (X * Y + Z) _ rfl (Γ.w (d := 98) 2 rfl))) ?_
      refine .pl rfl (fun _ _ W Γ => ev_call2 (Γ.f _) run_iFrom (by rw [Γ.c]; exact iFrom_val W _ (X * Y + Z).den (Γ.w (d := 99) 3 rfl))) ?_
      refine .pl rfl (fun _ _ W Γ => ev_call2 (Γ.f _) run_iGcd (iGcd_val W _ _ (X * Y + Z).num (((X * Y + Z).den : Nat) : Int) 1 HG1.out HGS.out.1 HGS.out.2 (TB.out.mono Γ.be) (Γ.w (d := 97) 1 rfl) (Γ.w (d := 100) 4 rfl))) ?_
      refine .pl rfl (fun _ _ W Γ => ev_call1 (Γ.f _) run_nText (nText_one W _ (Γ.w (d := 101) 5 rfl))) ?_
      refine .pl rfl (fun _ E W Γ => by
        have e1 : E (.tmp 102) = .string ⟨#[49]⟩ := (Γ.k 6 rfl)
        have hc := Γ.c
        exact Does.value (w' := W) (by go_simp <;> first | rfl | (rw [IntKind.wrap_i64]; omega)) ⟨rfl, Below.refl _ _⟩) ?_
      exact .nil
    clear J; intro K12 hK12; simp only [fx]; intro _ f12 W12 J; refine hK12.out _ _ ?_; clear hK12
    refine wp_cond_false rfl ?_
    refine wp_skip ?_
    refine hK11.out _ _ ?_; clear hK11
    refine region_c [106, 107, 108, 105, 109, 110, 12, 0, 13] [.that (fracS X), .that (fracS Y), .two (.that (fracS (X / Y))) (.is (.bool true)), .two (.that (fracS (X / Y))) (.is (.bool true)), .that (fracS (X / Y)), .is (.bool true), .any, .any, .is (.bool true)] [] [⟨.frac, 6, 7, .that (fracS (X / Y)), .agg #[.bool false, .int .u64 0, .slice none 0 0, .int .u64 0, .slice none 0 0]⟩] [] J ?_ ?_
    · refine .pl rfl (fun _ _ W Γ => ev_ldQ (Γ.s rfl) (Γ.l 3 rfl)) ?_
      refine .pl rfl (fun _ _ W Γ => ev_ldQ (Γ.s rfl) (Γ.l 4 rfl)) ?_
      refine .pl rfl (fun _ _ W Γ => ev_call2 (Γ.f _) run_qDiv (qDiv_val W _ _ X Y (QB.mono HQX.out (by omega)) (QB.mono HQY.out (by omega)) HYN.out (TB.out.mono Γ.be) (Γ.w (d := 105) 0 rfl) (Γ.w (d := 106) 1 rfl))) ?_
      refine .pl rfl (fun _ _ W Γ => ev_moveM (Γ.w 2 rfl)) ?_
      refine .pl rfl (fun _ _ W Γ => ev_ex20 (Γ.w 3 rfl)) ?_
      refine .pl rfl (fun _ _ W Γ => ev_ex21 (Γ.w 3 rfl)) ?_
      refine .al 0 rfl rfl (fun _ _ => ev_alQ) ?_
      refine .sn 0 rfl rfl (fun _ _ W Γ => ev_stQ (Γ.q 0 rfl) (Γ.un 0 rfl) (Γ.w 4 rfl)) ?_
      refine .pl rfl (fun _ _ W Γ => ev_assign _ (Γ.k 5 rfl)) ?_
      exact .nil
    clear J; intro K13 hK13; simp only [fx]; intro β13 f13 W13 J; refine hK13.out _ _ ?_; clear hK13
    refine region_c [111, 112, 113, 114, 115, 116, 117, 118, 119, 120, 121, 122, 123, 124, 125, 126, 127, 128, 129, 130, 131, 132, 133, 7] [.is (.bool true), .is (.bool false), .is (.bool false), .that (fracS (X / Y)), .that (fracS Y), .that (fracS (X / Y * Y)), .that (fracS X), .is (.int .i64 0), .is (.bool true), .is (.bool true), .that (fracS X), .that (fracS Y), .that (fracS (X * Y)), .that (fracS (qabs (X * Y))), .that (fracS X), .that (fracS (qabs X)), .that (fracS Y), .that (fracS (qabs Y)), .that (fracS (qabs X * qabs Y)), .is (.int .i64 0), .is (.bool true), .is (.bool true), .is (.bool true), .is (.bool true)] [] [] [] J ?_ ?_
    · refine .pl rfl (fun _ _ W Γ => ev_move _ (Γ.s rfl)) ?_
      refine .pl rfl (fun _ _ W Γ => ev_not (Γ.k 0 rfl) rfl) ?_
      refine .pl rfl (fun _ _ W Γ => ev_move _ (Γ.k 1 rfl)) ?_
      refine .gu rfl rfl rfl rfl (fun _ _ W Γ => ev_ldQ (Γ.s rfl) (Γ.l 7 rfl)) ?_
      refine .gu rfl rfl rfl rfl (fun _ _ W Γ => ev_ldQ (Γ.s rfl) (Γ.l 4 rfl)) ?_
      refine .gu rfl rfl rfl rfl (fun _ _ W Γ => ev_call2 (Γ.f _) run_qMul (qMul_val W _ _ (X / Y) (Y) (QB.mono (QB.div HQX.out HQY.out) (by omega)) (QB.mono HQY.out (by omega)) (TB.out.mono Γ.be) (Γ.w (d := 113) 3 rfl) (Γ.w (d := 114) 4 rfl))) ?_
      refine .gu rfl rfl rfl rfl (fun _ _ W Γ => ev_ldQ (Γ.s rfl) (Γ.l 3 rfl)) ?_
      refine .gu rfl rfl rfl rfl (fun _ _ W Γ => ev_call2 (Γ.f _) run_qCmp (qCmp_val W _ _ (X / Y * Y) (X) (QB.mono (QB.mul (QB.div HQX.out HQY.out) HQY.out) (by omega)) (QB.mono HQX.out (by omega)) 0 (qcmp_same (Rat.div_mul_cancel HY0.out)) (Γ.w (d := 115) 5 rfl) (Γ.w (d := 116) 6 rfl))) ?_
      refine .gu rfl rfl rfl rfl (fun _ E W Γ => by
        have e1 : E (.tmp 117) = .int .i64 0 := (Γ.k 7 rfl)
        have hc := Γ.c
        exact Does.value (w' := W) (by go_simp <;> first | rfl | (rw [IntKind.wrap_i64]; omega)) ⟨rfl, Below.refl _ _⟩) ?_
      refine .gu rfl rfl rfl rfl (fun _ _ W Γ => ev_move _ (Γ.k 8 rfl)) ?_
      refine .gu rfl rfl rfl rfl (fun _ _ W Γ => ev_ldQ (Γ.s rfl) (Γ.l 3 rfl)) ?_
      refine .gu rfl rfl rfl rfl (fun _ _ W Γ => ev_ldQ (Γ.s rfl) (Γ.l 4 rfl)) ?_
      refine .gu rfl rfl rfl rfl (fun _ _ W Γ => ev_call2 (Γ.f _) run_qMul (qMul_val W _ _ (X) (Y) (QB.mono HQX.out (by omega)) (QB.mono HQY.out (by omega)) (TB.out.mono Γ.be) (Γ.w (d := 120) 10 rfl) (Γ.w (d := 121) 11 rfl))) ?_
      refine .gu rfl rfl rfl rfl (fun _ _ W Γ => ev_call1 (Γ.f _) run_qAbs (qAbs_val W _ (X * Y) (Γ.w (d := 122) 12 rfl))) ?_
      refine .gu rfl rfl rfl rfl (fun _ _ W Γ => ev_ldQ (Γ.s rfl) (Γ.l 3 rfl)) ?_
      refine .gu rfl rfl rfl rfl (fun _ _ W Γ => ev_call1 (Γ.f _) run_qAbs (qAbs_val W _ X (Γ.w (d := 124) 14 rfl))) ?_
      refine .gu rfl rfl rfl rfl (fun _ _ W Γ => ev_ldQ (Γ.s rfl) (Γ.l 4 rfl)) ?_
      refine .gu rfl rfl rfl rfl (fun _ _ W Γ => ev_call1 (Γ.f _) run_qAbs (qAbs_val W _ Y (Γ.w (d := 126) 16 rfl))) ?_
      refine .gu rfl rfl rfl rfl (fun _ _ W Γ => ev_call2 (Γ.f _) run_qMul (qMul_val W _ _ (qabs X) (qabs Y) (QB.mono (QB.abs HQX.out) (by omega)) (QB.mono (QB.abs HQY.out) (by omega)) (TB.out.mono Γ.be) (Γ.w (d := 125) 15 rfl) (Γ.w (d := 127) 17 rfl))) ?_
      refine .gu rfl rfl rfl rfl (fun _ _ W Γ => ev_call2 (Γ.f _) run_qCmp (qCmp_val W _ _ (qabs (X * Y)) (qabs X * qabs Y) (QB.mono (QB.abs (QB.mul HQX.out HQY.out)) (by omega)) (QB.mono (QB.mul (QB.abs HQX.out) (QB.abs HQY.out)) (by omega)) 0 (qcmp_same (qabs_mul X Y)) (Γ.w (d := 123) 13 rfl) (Γ.w (d := 128) 18 rfl))) ?_
      refine .gu rfl rfl rfl rfl (fun _ E W Γ => by
        have e1 : E (.tmp 129) = .int .i64 0 := (Γ.k 19 rfl)
        have hc := Γ.c
        exact Does.value (w' := W) (by go_simp <;> first | rfl | (rw [IntKind.wrap_i64]; omega)) ⟨rfl, Below.refl _ _⟩) ?_
      refine .gu rfl rfl rfl rfl (fun _ _ W Γ => ev_pick (Γ.k 9 rfl) (Γ.k 20 rfl)) ?_
      refine .pl rfl (fun _ _ W Γ => ev_pick (Γ.k 2 rfl) (Γ.k 21 rfl)) ?_
      refine .pl rfl (fun _ _ W Γ => ev_assign _ (Γ.k 22 rfl)) ?_
      exact .nil
    clear J; intro K14 hK14; simp only [fx]; intro _ f14 W14 J; refine hK14.out _ _ ?_; clear hK14
    refine wp_ret ?_
    exact bodyPost_ret (v := .bool true) (by simp [results, Tryz.results4, go_sem]) rfl ⟨_, rfl, rfl, J.out.be⟩
end Go.Proofs.YtjhjlecnjkjbbaaGreatDoor
