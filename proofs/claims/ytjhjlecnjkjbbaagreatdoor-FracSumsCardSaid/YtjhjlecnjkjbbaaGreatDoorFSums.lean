/- FracSums: sums, products, quotients and order of fractions are the document's. -/
import Derived.Test.YtjhjlecnjkjbbaaGreatDoorKnown3
import Derived.Test.YtjhjlecnjkjbbaaGreatDoorOne3
import Derived.Test.YtjhjlecnjkjbbaaGreatDoorRSums
namespace Go.Proofs.YtjhjlecnjkjbbaaGreatDoor
open Go.RowKit

theorem run_hIn : RowKit.Hid (∀ (a : Array Value) (w : World), Sem.run Tryz.prog (callFunc 7 a) w = .ok (.enter 7 a) w) := fun a w => by go_simp
theorem run_hSame : RowKit.Hid (∀ (a : Array Value) (w : World), Sem.run Tryz.prog (callFunc 10 a) w = .ok (.enter 10 a) w) := fun a w => by go_simp
theorem run_known3 : RowKit.Hid (∀ (a : Array Value) (w : World), Sem.run Tryz.prog (callFunc 9 a) w = .ok (.enter 9 a) w) := fun a w => by go_simp
theorem run_one3 : RowKit.Hid (∀ (a : Array Value) (w : World), Sem.run Tryz.prog (callFunc 6 a) w = .ok (.enter 6 a) w) := fun a w => by go_simp
theorem run_qAbs : RowKit.Hid (∀ (a : Array Value) (w : World), Sem.run Tryz.prog (callFunc 23 a) w = .ok (.enter 23 a) w) := fun a w => by go_simp
theorem run_qCmp : RowKit.Hid (∀ (a : Array Value) (w : World), Sem.run Tryz.prog (callFunc 17 a) w = .ok (.enter 17 a) w) := fun a w => by go_simp
theorem run_qDiv : RowKit.Hid (∀ (a : Array Value) (w : World), Sem.run Tryz.prog (callFunc 8 a) w = .ok (.enter 8 a) w) := fun a w => by go_simp
theorem run_qSub : RowKit.Hid (∀ (a : Array Value) (w : World), Sem.run Tryz.prog (callFunc 13 a) w = .ok (.enter 13 a) w) := fun a w => by go_simp
theorem run_rQAbs : RowKit.Hid (∀ (a : Array Value) (w : World), Sem.run Tryz.prog (callFunc 24 a) w = .ok (.enter 24 a) w) := fun a w => by go_simp
theorem run_rQCmp : RowKit.Hid (∀ (a : Array Value) (w : World), Sem.run Tryz.prog (callFunc 18 a) w = .ok (.enter 18 a) w) := fun a w => by go_simp
theorem run_rQDiv : RowKit.Hid (∀ (a : Array Value) (w : World), Sem.run Tryz.prog (callFunc 25 a) w = .ok (.enter 25 a) w) := fun a w => by go_simp
theorem run_rQMul : RowKit.Hid (∀ (a : Array Value) (w : World), Sem.run Tryz.prog (callFunc 16 a) w = .ok (.enter 16 a) w) := fun a w => by go_simp
theorem run_rQSign : RowKit.Hid (∀ (a : Array Value) (w : World), Sem.run Tryz.prog (callFunc 20 a) w = .ok (.enter 20 a) w) := fun a w => by go_simp
theorem run_rQSub : RowKit.Hid (∀ (a : Array Value) (w : World), Sem.run Tryz.prog (callFunc 14 a) w = .ok (.enter 14 a) w) := fun a w => by go_simp
theorem qbR4 {X : Rat} {k : Nat} (h : QB X k) (hk : k ≤ 600) : (ds X.num.natAbs).length ≤ 400 ∧ (ds X.den).length ≤ 400 := by
  have := (QB.mono h hk).ds; omega
set_option maxRecDepth 100000 in
set_option maxHeartbeats 8000000 in
theorem fsums_any (p1 q1 : Option Addr) (l1 c1 k1 d1 : Nat) (n1 : Int) (xs1 ys1 : List Nat) (g1 : Bool) (p2 q2 : Option Addr) (l2 c2 k2 d2 : Nat) (n2 : Int) (xs2 ys2 : List Nat) (g2 : Bool) (mx : Int) (w : World) (r1 : -9223372036854775808 ≤ n1 ∧ n1 ≤ 9223372036854775807) (a1 : IsB w p1 l1 c1 xs1) (b1 : IsB w q1 k1 d1 ys1) (r2 : -9223372036854775808 ≤ n2 ∧ n2 ≤ 9223372036854775807) (a2 : IsB w p2 l2 c2 xs2) (b2 : IsB w q2 k2 d2 ys2) (hM : w.cell? ⟨4, 0, none⟩ = some (.int .i64 mx)) (hT : Tab64 w) :
    Calls Tryz.prog 3 #[.agg #[.int .i64 n1, .slice p1 l1 c1, .slice q1 k1 d1, .bool g1], .agg #[.int .i64 n2, .slice p2 l2 c2, .slice q2 k2 d2, .bool g2]] w (Gives w (.is (.bool true))) := by
  obtain ⟨X, hX⟩ : ∃ x, oneQ n1 xs1 ys1 g1 = x := ⟨_, rfl⟩
  have HQX := Lib.hid (oneQ_bits n1 xs1 ys1 g1 a1.2.1 b1.2.1); rw [hX] at HQX
  have HX1 := Lib.hid hX; have HR1 : Hid (-9223372036854775808 ≤ n1 ∧ n1 ≤ 9223372036854775807 ∧ (∀ x ∈ xs1, x < 256) ∧ ∀ x ∈ ys1, x < 256) := Lib.hid ⟨r1.1, r1.2, a1.2.1, b1.2.1⟩; have H1 := Lib.hid (And.intro a1 b1)
  obtain ⟨Y, hY⟩ : ∃ x, oneQ n2 xs2 ys2 g2 = x := ⟨_, rfl⟩
  have HQY := Lib.hid (oneQ_bits n2 xs2 ys2 g2 a2.2.1 b2.2.1); rw [hY] at HQY
  have HX2 := Lib.hid hY; have HR2 : Hid (-9223372036854775808 ≤ n2 ∧ n2 ≤ 9223372036854775807 ∧ (∀ x ∈ xs2, x < 256) ∧ ∀ x ∈ ys2, x < 256) := Lib.hid ⟨r2.1, r2.2, a2.2.1, b2.2.1⟩; have H2 := Lib.hid (And.intro a2 b2)
  have HS1 := Lib.hid (qbR4 (QB.add HQX.out HQY.out) (by omega)); have HS2 := Lib.hid (qbR4 (QB.sub HQX.out HQY.out) (by omega)); have HS3 := Lib.hid (qbR4 (QB.mul HQX.out HQY.out) (by omega)); have HS4 := Lib.hid (qbR4 HQX.out.neg' (by omega)); have HS5 := Lib.hid (qbR4 HQX.out.abs (by omega))
  have MX := Lib.hid hM; have TB := Lib.hid hT
  clear hM hT hX hY r1 r2 a1 a2 b1 b2
  by_cases hy0 : Y.num = 0
  · skip
    have HYN : Hid (Y.num = 0) := Lib.hid hy0
    have HSG : Hid ((cmp3 Y.num 0 != 0) = false) := Lib.hid (by rw [hy0]; rfl)
    clear hy0
    go_enter Tryz.func3, Tryz.ntmps3
    have J := Frm.start (w := w) (V := []) fn
    refine wp_seq_h ?_; intro K1 hK1; go_wp2
    obtain ⟨W2, b2, eW2, eb2, sz2, J⟩ := Frm.putW J rfl H1.out
    obtain ⟨W3, b3, eW3, eb3, sz3, J⟩ := Frm.putW J sz2 H2.out
    rw [← eW2, ← eW3, ← eb3, ← eb2]
    clear eW2 eb2 sz2 eW3 eb3 sz3
    refine hK1.out _ _ ?_; clear hK1
    refine region_c [12, 13, 6, 0] [.that (rawS n1 xs1 ys1 g1), .that (rfracS X), .any, .any] [] [⟨.rfrac, 2, 3, .that (rfracS X), .agg #[.bool false, .slice none 0 0, .slice none 0 0]⟩] [] J ?_ ?_
    · refine .pl rfl (fun _ _ W Γ => ev_ldW (Γ.s rfl) (Γ.l 0 rfl)) ?_
      refine .pl rfl (fun _ _ W Γ => ev_call1 (Γ.f _) run_one3 (show Calls Tryz.prog 6 #[_] W (Gives W (.that (rfracS X))) from HX1.out ▸ one3_val W _ n1 xs1 ys1 g1 HR1.out.1 HR1.out.2.1 HR1.out.2.2.1 HR1.out.2.2.2 (Γ.w (d := 11) 0 rfl))) ?_
      refine .al 0 rfl rfl (fun _ _ => ev_alP) ?_
      refine .sn 0 rfl rfl (fun _ _ W Γ => ev_stP (Γ.q 0 rfl) (Γ.un 0 rfl) (Γ.w 1 rfl)) ?_
      exact .nil
    clear J; intro K4 hK4; simp only [fx]; intro β4 f4 W4 J; refine hK4.out _ _ ?_; clear hK4
    refine region_c [14, 15, 7, 0] [.that (rawS n2 xs2 ys2 g2), .that (rfracS Y), .any, .any] [] [⟨.rfrac, 2, 3, .that (rfracS Y), .agg #[.bool false, .slice none 0 0, .slice none 0 0]⟩] [] J ?_ ?_
    · refine .pl rfl (fun _ _ W Γ => ev_ldW (Γ.s rfl) (Γ.l 1 rfl)) ?_
      refine .pl rfl (fun _ _ W Γ => ev_call1 (Γ.f _) run_one3 (show Calls Tryz.prog 6 #[_] W (Gives W (.that (rfracS Y))) from HX2.out ▸ one3_val W _ n2 xs2 ys2 g2 HR2.out.1 HR2.out.2.1 HR2.out.2.2.1 HR2.out.2.2.2 (Γ.w (d := 13) 0 rfl))) ?_
      refine .al 0 rfl rfl (fun _ _ => ev_alP) ?_
      refine .sn 0 rfl rfl (fun _ _ W Γ => ev_stP (Γ.q 0 rfl) (Γ.un 0 rfl) (Γ.w 1 rfl)) ?_
      exact .nil
    clear J; intro K5 hK5; simp only [fx]; intro β5 f5 W5 J; refine hK5.out _ _ ?_; clear hK5
    refine region_c [16, 17, 8, 0] [.that (rfracS X), .that (fracS X), .any, .any] [] [⟨.frac, 2, 3, .that (fracS X), .agg #[.bool false, .int .u64 0, .slice none 0 0, .int .u64 0, .slice none 0 0]⟩] [] J ?_ ?_
    · refine .pl rfl (fun _ _ W Γ => ev_ldP (Γ.s rfl) (Γ.l 2 rfl)) ?_
      refine .pl rfl (fun _ _ W Γ => ev_call1 (Γ.f _) run_hIn (hIn_val W _ X (QB.mono HQX.out (by omega)) (TB.out.mono Γ.be) (Γ.w (d := 15) 0 rfl))) ?_
      refine .al 0 rfl rfl (fun _ _ => ev_alQ) ?_
      refine .sn 0 rfl rfl (fun _ _ W Γ => ev_stQ (Γ.q 0 rfl) (Γ.un 0 rfl) (Γ.w 1 rfl)) ?_
      exact .nil
    clear J; intro K6 hK6; simp only [fx]; intro β6 f6 W6 J; refine hK6.out _ _ ?_; clear hK6
    refine region_c [18, 19, 9, 0] [.that (rfracS Y), .that (fracS Y), .any, .any] [] [⟨.frac, 2, 3, .that (fracS Y), .agg #[.bool false, .int .u64 0, .slice none 0 0, .int .u64 0, .slice none 0 0]⟩] [] J ?_ ?_
    · refine .pl rfl (fun _ _ W Γ => ev_ldP (Γ.s rfl) (Γ.l 3 rfl)) ?_
      refine .pl rfl (fun _ _ W Γ => ev_call1 (Γ.f _) run_hIn (hIn_val W _ Y (QB.mono HQY.out (by omega)) (TB.out.mono Γ.be) (Γ.w (d := 17) 0 rfl))) ?_
      refine .al 0 rfl rfl (fun _ _ => ev_alQ) ?_
      refine .sn 0 rfl rfl (fun _ _ W Γ => ev_stQ (Γ.q 0 rfl) (Γ.un 0 rfl) (Γ.w 1 rfl)) ?_
      exact .nil
    clear J; intro K7 hK7; simp only [fx]; intro β7 f7 W7 J; refine hK7.out _ _ ?_; clear hK7
    refine region_c [21, 22, 23, 20, 24, 25, 10, 0, 11] [.that (fracS X), .that (fracS Y), .two (.that (fracS 0)) (.is (.bool false)), .two (.that (fracS 0)) (.is (.bool false)), .that (fracS 0), .is (.bool false), .any, .any, .is (.bool false)] [] [⟨.frac, 6, 7, .that (fracS 0), .agg #[.bool false, .int .u64 0, .slice none 0 0, .int .u64 0, .slice none 0 0]⟩] [] J ?_ ?_
    · refine .pl rfl (fun _ _ W Γ => ev_ldQ (Γ.s rfl) (Γ.l 4 rfl)) ?_
      refine .pl rfl (fun _ _ W Γ => ev_ldQ (Γ.s rfl) (Γ.l 5 rfl)) ?_
      refine .pl rfl (fun _ _ W Γ => ev_call2 (Γ.f _) run_qDiv (qDiv_none W _ _ X Y HYN.out (Γ.w (d := 20) 0 rfl) (Γ.w (d := 21) 1 rfl))) ?_
      refine .pl rfl (fun _ _ W Γ => ev_moveM (Γ.w 2 rfl)) ?_
      refine .pl rfl (fun _ _ W Γ => ev_ex20 (Γ.w 3 rfl)) ?_
      refine .pl rfl (fun _ _ W Γ => ev_ex21 (Γ.w 3 rfl)) ?_
      refine .al 0 rfl rfl (fun _ _ => ev_alQ) ?_
      refine .sn 0 rfl rfl (fun _ _ W Γ => ev_stQ (Γ.q 0 rfl) (Γ.un 0 rfl) (Γ.w 4 rfl)) ?_
      refine .pl rfl (fun _ _ W Γ => ev_assign _ (Γ.k 5 rfl)) ?_
      exact .nil
    clear J; intro K8 hK8; simp only [fx]; intro β8 f8 W8 J; refine hK8.out _ _ ?_; clear hK8
    refine wp_seq_h ?_; intro K9 hK9
    refine region_c [26, 27, 28, 29, 30, 31, 32, 33, 34, 35, 36, 37, 38, 39, 40, 41, 42, 43, 44, 45, 46, 47, 48, 49, 50, 51, 52, 53, 54, 55, 56, 57, 58, 59, 60, 61, 62, 63, 64, 65, 66, 67, 68, 69, 70, 71, 72, 73, 74, 75, 76, 77, 78, 79, 80, 81, 82, 83, 84, 85, 86, 87, 88, 89, 90, 91, 92, 93, 94, 95, 96] [.is (.bool true), .is (.bool false), .is (.bool false), .that (fracS X), .that (fracS Y), .that (fracS (X + Y)), .that (rfracS X), .that (rfracS Y), .that (rfracS (X + Y)), .is (.bool true), .is (.bool false), .is (.bool false), .is (.bool false), .that (fracS X), .that (fracS Y), .that (fracS (X - Y)), .that (rfracS X), .that (rfracS Y), .that (rfracS (X - Y)), .is (.bool true), .is (.bool false), .is (.bool false), .is (.bool false), .that (fracS X), .that (fracS Y), .that (fracS (X * Y)), .that (rfracS X), .that (rfracS Y), .that (rfracS (X * Y)), .is (.bool true), .is (.bool false), .is (.bool false), .is (.bool false), .that (fracS X), .that (fracS Y), .is (.int .i64 (qcmp X Y)), .that (rfracS X), .that (rfracS Y), .is (.int .i64 (qcmp X Y)), .is (.bool false), .is (.bool false), .is (.bool false), .that (fracS X), .is (.int .i64 (cmp3 X.num 0)), .that (rfracS X), .is (.int .i64 (cmp3 X.num 0)), .is (.bool false), .is (.bool false), .is (.bool false), .that (fracS X), .that (fracS (-X)), .that (rfracS X), .that (rfracS (-X)), .is (.bool true), .is (.bool false), .is (.bool false), .is (.bool false), .that (fracS X), .that (fracS (qabs X)), .that (rfracS X), .that (rfracS (qabs X)), .is (.bool true), .is (.bool false), .is (.bool false), .is (.bool false), .is (.bool false), .that (rfracS Y), .is (.int .i64 (cmp3 Y.num 0)), .is (.bool false), .is (.bool false), .is (.bool false)] [] [] [] J ?_ ?_
    · refine .pl rfl (fun _ _ W Γ => ev_call0 (Γ.f _) run_known3 (known3_gives W mx (wcell Γ.be MX.out) (TB.out.mono Γ.be))) ?_
      refine .pl rfl (fun _ _ W Γ => ev_not (Γ.k 0 rfl) rfl) ?_
      refine .pl rfl (fun _ _ W Γ => ev_move _ (Γ.k 1 rfl)) ?_
      refine .gu rfl rfl rfl rfl (fun _ _ W Γ => ev_ldQ (Γ.s rfl) (Γ.l 4 rfl)) ?_
      refine .gu rfl rfl rfl rfl (fun _ _ W Γ => ev_ldQ (Γ.s rfl) (Γ.l 5 rfl)) ?_
      refine .gu rfl rfl rfl rfl (fun _ _ W Γ => ev_call2 (Γ.f _) run_qAdd (qAdd_val W _ _ X Y (QB.mono HQX.out (by omega)) (QB.mono HQY.out (by omega)) (TB.out.mono Γ.be) (Γ.w (d := 28) 3 rfl) (Γ.w (d := 29) 4 rfl))) ?_
      refine .gu rfl rfl rfl rfl (fun _ _ W Γ => ev_ldP (Γ.s rfl) (Γ.l 2 rfl)) ?_
      refine .gu rfl rfl rfl rfl (fun _ _ W Γ => ev_ldP (Γ.s rfl) (Γ.l 3 rfl)) ?_
      refine .gu rfl rfl rfl rfl (fun _ _ W Γ => ev_call2 (Γ.f _) run_rQAdd (rQAdd_val W _ _ X Y (QB.mono HQX.out (by omega)) (QB.mono HQY.out (by omega)) (Γ.w (d := 31) 6 rfl) (Γ.w (d := 32) 7 rfl))) ?_
      refine .gu rfl rfl rfl rfl (fun _ _ W Γ => ev_call2 (Γ.f _) run_hSame (hSame_val W _ _ (X + Y) HS1.out (Γ.w (d := 30) 5 rfl) (Γ.w (d := 33) 8 rfl))) ?_
      refine .gu rfl rfl rfl rfl (fun _ _ W Γ => ev_not (Γ.k 9 rfl) rfl) ?_
      refine .pl rfl (fun _ _ W Γ => ev_pick (Γ.k 2 rfl) (Γ.k 10 rfl)) ?_
      refine .pl rfl (fun _ _ W Γ => ev_move _ (Γ.k 11 rfl)) ?_
      refine .gu rfl rfl rfl rfl (fun _ _ W Γ => ev_ldQ (Γ.s rfl) (Γ.l 4 rfl)) ?_
      refine .gu rfl rfl rfl rfl (fun _ _ W Γ => ev_ldQ (Γ.s rfl) (Γ.l 5 rfl)) ?_
      refine .gu rfl rfl rfl rfl (fun _ _ W Γ => ev_call2 (Γ.f _) run_qSub (qSub_val W _ _ X Y (QB.mono HQX.out (by omega)) (QB.mono HQY.out (by omega)) (TB.out.mono Γ.be) (Γ.w (d := 38) 13 rfl) (Γ.w (d := 39) 14 rfl))) ?_
      refine .gu rfl rfl rfl rfl (fun _ _ W Γ => ev_ldP (Γ.s rfl) (Γ.l 2 rfl)) ?_
      refine .gu rfl rfl rfl rfl (fun _ _ W Γ => ev_ldP (Γ.s rfl) (Γ.l 3 rfl)) ?_
      refine .gu rfl rfl rfl rfl (fun _ _ W Γ => ev_call2 (Γ.f _) run_rQSub (rQSub_val W _ _ X Y (QB.mono HQX.out (by omega)) (QB.mono HQY.out (by omega)) (Γ.w (d := 41) 16 rfl) (Γ.w (d := 42) 17 rfl))) ?_
      refine .gu rfl rfl rfl rfl (fun _ _ W Γ => ev_call2 (Γ.f _) run_hSame (hSame_val W _ _ (X - Y) HS2.out (Γ.w (d := 40) 15 rfl) (Γ.w (d := 43) 18 rfl))) ?_
      refine .gu rfl rfl rfl rfl (fun _ _ W Γ => ev_not (Γ.k 19 rfl) rfl) ?_
      refine .pl rfl (fun _ _ W Γ => ev_pick (Γ.k 12 rfl) (Γ.k 20 rfl)) ?_
      refine .pl rfl (fun _ _ W Γ => ev_move _ (Γ.k 21 rfl)) ?_
      refine .gu rfl rfl rfl rfl (fun _ _ W Γ => ev_ldQ (Γ.s rfl) (Γ.l 4 rfl)) ?_
      refine .gu rfl rfl rfl rfl (fun _ _ W Γ => ev_ldQ (Γ.s rfl) (Γ.l 5 rfl)) ?_
      refine .gu rfl rfl rfl rfl (fun _ _ W Γ => ev_call2 (Γ.f _) run_qMul (qMul_val W _ _ X Y (QB.mono HQX.out (by omega)) (QB.mono HQY.out (by omega)) (TB.out.mono Γ.be) (Γ.w (d := 48) 23 rfl) (Γ.w (d := 49) 24 rfl))) ?_
      refine .gu rfl rfl rfl rfl (fun _ _ W Γ => ev_ldP (Γ.s rfl) (Γ.l 2 rfl)) ?_
      refine .gu rfl rfl rfl rfl (fun _ _ W Γ => ev_ldP (Γ.s rfl) (Γ.l 3 rfl)) ?_
      refine .gu rfl rfl rfl rfl (fun _ _ W Γ => ev_call2 (Γ.f _) run_rQMul (rQMul_val W _ _ X Y (QB.mono HQX.out (by omega)) (QB.mono HQY.out (by omega)) (Γ.w (d := 51) 26 rfl) (Γ.w (d := 52) 27 rfl))) ?_
      refine .gu rfl rfl rfl rfl (fun _ _ W Γ => ev_call2 (Γ.f _) run_hSame (hSame_val W _ _ (X * Y) HS3.out (Γ.w (d := 50) 25 rfl) (Γ.w (d := 53) 28 rfl))) ?_
      refine .gu rfl rfl rfl rfl (fun _ _ W Γ => ev_not (Γ.k 29 rfl) rfl) ?_
      refine .pl rfl (fun _ _ W Γ => ev_pick (Γ.k 22 rfl) (Γ.k 30 rfl)) ?_
      refine .pl rfl (fun _ _ W Γ => ev_move _ (Γ.k 31 rfl)) ?_
      refine .gu rfl rfl rfl rfl (fun _ _ W Γ => ev_ldQ (Γ.s rfl) (Γ.l 4 rfl)) ?_
      refine .gu rfl rfl rfl rfl (fun _ _ W Γ => ev_ldQ (Γ.s rfl) (Γ.l 5 rfl)) ?_
      refine .gu rfl rfl rfl rfl (fun _ _ W Γ => ev_call2 (Γ.f _) run_qCmp (qCmp_val W _ _ X Y (QB.mono HQX.out (by omega)) (QB.mono HQY.out (by omega)) _ rfl (Γ.w (d := 58) 33 rfl) (Γ.w (d := 59) 34 rfl))) ?_
      refine .gu rfl rfl rfl rfl (fun _ _ W Γ => ev_ldP (Γ.s rfl) (Γ.l 2 rfl)) ?_
      refine .gu rfl rfl rfl rfl (fun _ _ W Γ => ev_ldP (Γ.s rfl) (Γ.l 3 rfl)) ?_
      refine .gu rfl rfl rfl rfl (fun _ _ W Γ => ev_call2 (Γ.f _) run_rQCmp (rQCmp_val W _ _ X Y (QB.mono HQX.out (by omega)) (QB.mono HQY.out (by omega)) (Γ.w (d := 61) 36 rfl) (Γ.w (d := 62) 37 rfl))) ?_
      refine .gu rfl rfl rfl rfl (fun _ _ W Γ => ev_neq (Γ.k 35 rfl) (Γ.k 38 rfl) (bne_self_eq_false _)) ?_
      refine .pl rfl (fun _ _ W Γ => ev_pick (Γ.k 32 rfl) (Γ.k 39 rfl)) ?_
      refine .pl rfl (fun _ _ W Γ => ev_move _ (Γ.k 40 rfl)) ?_
      refine .gu rfl rfl rfl rfl (fun _ _ W Γ => ev_ldQ (Γ.s rfl) (Γ.l 4 rfl)) ?_
      refine .gu rfl rfl rfl rfl (fun _ _ W Γ => ev_call1 (Γ.f _) run_qSign (qSign_val W _ X _ rfl (Γ.w (d := 67) 42 rfl))) ?_
      refine .gu rfl rfl rfl rfl (fun _ _ W Γ => ev_ldP (Γ.s rfl) (Γ.l 2 rfl)) ?_
      refine .gu rfl rfl rfl rfl (fun _ _ W Γ => ev_call1 (Γ.f _) run_rQSign (rQSign_val W _ X (Γ.w (d := 69) 44 rfl))) ?_
      refine .gu rfl rfl rfl rfl (fun _ _ W Γ => ev_neq (Γ.k 43 rfl) (Γ.k 45 rfl) (bne_self_eq_false _)) ?_
      refine .pl rfl (fun _ _ W Γ => ev_pick (Γ.k 41 rfl) (Γ.k 46 rfl)) ?_
      refine .pl rfl (fun _ _ W Γ => ev_move _ (Γ.k 47 rfl)) ?_
      refine .gu rfl rfl rfl rfl (fun _ _ W Γ => ev_ldQ (Γ.s rfl) (Γ.l 4 rfl)) ?_
      refine .gu rfl rfl rfl rfl (fun _ _ W Γ => ev_call1 (Γ.f _) run_qNeg (qNeg_val W _ X (Γ.w (d := 74) 49 rfl))) ?_
      refine .gu rfl rfl rfl rfl (fun _ _ W Γ => ev_ldP (Γ.s rfl) (Γ.l 2 rfl)) ?_
      refine .gu rfl rfl rfl rfl (fun _ _ W Γ => ev_call1 (Γ.f _) run_rQNeg (rQNeg_val W _ X (Γ.w (d := 76) 51 rfl))) ?_
      refine .gu rfl rfl rfl rfl (fun _ _ W Γ => ev_call2 (Γ.f _) run_hSame (hSame_val W _ _ (-X) HS4.out (Γ.w (d := 75) 50 rfl) (Γ.w (d := 77) 52 rfl))) ?_
      refine .gu rfl rfl rfl rfl (fun _ _ W Γ => ev_not (Γ.k 53 rfl) rfl) ?_
      refine .pl rfl (fun _ _ W Γ => ev_pick (Γ.k 48 rfl) (Γ.k 54 rfl)) ?_
      refine .pl rfl (fun _ _ W Γ => ev_move _ (Γ.k 55 rfl)) ?_
      refine .gu rfl rfl rfl rfl (fun _ _ W Γ => ev_ldQ (Γ.s rfl) (Γ.l 4 rfl)) ?_
      refine .gu rfl rfl rfl rfl (fun _ _ W Γ => ev_call1 (Γ.f _) run_qAbs (qAbs_val W _ X (Γ.w (d := 82) 57 rfl))) ?_
      refine .gu rfl rfl rfl rfl (fun _ _ W Γ => ev_ldP (Γ.s rfl) (Γ.l 2 rfl)) ?_
      refine .gu rfl rfl rfl rfl (fun _ _ W Γ => ev_call1 (Γ.f _) run_rQAbs (rQAbs_val W _ X (Γ.w (d := 84) 59 rfl))) ?_
      refine .gu rfl rfl rfl rfl (fun _ _ W Γ => ev_call2 (Γ.f _) run_hSame (hSame_val W _ _ (qabs X) HS5.out (Γ.w (d := 83) 58 rfl) (Γ.w (d := 85) 60 rfl))) ?_
      refine .gu rfl rfl rfl rfl (fun _ _ W Γ => ev_not (Γ.k 61 rfl) rfl) ?_
      refine .pl rfl (fun _ _ W Γ => ev_pick (Γ.k 56 rfl) (Γ.k 62 rfl)) ?_
      refine .pl rfl (fun _ _ W Γ => ev_move _ (Γ.k 63 rfl)) ?_
      refine .gu rfl rfl rfl rfl (fun _ _ W Γ => ev_move _ (Γ.s rfl)) ?_
      refine .gu rfl rfl rfl rfl (fun _ _ W Γ => ev_ldP (Γ.s rfl) (Γ.l 3 rfl)) ?_
      refine .gu rfl rfl rfl rfl (fun _ _ W Γ => ev_call1 (Γ.f _) run_rQSign (rQSign_val W _ Y (Γ.w (d := 91) 66 rfl))) ?_
      refine .gu rfl rfl rfl rfl (fun _ _ W Γ => ev_neq (Γ.k 67 rfl) (Γ.c _) HSG.out) ?_
      refine .gu rfl rfl rfl rfl (fun _ E W Γ => by
        have e1 : E (.tmp 90) = .bool false := (Γ.k 65 rfl)
        have e2 : E (.tmp 93) = .bool false := (Γ.k 68 rfl)
        have hc := Γ.c
        exact Does.value (w' := W) (by go_simp <;> first | rfl | (rw [IntKind.wrap_i64]; omega)) ⟨rfl, Below.refl _ _⟩) ?_
      refine .pl rfl (fun _ _ W Γ => ev_pick (Γ.k 64 rfl) (Γ.k 69 rfl)) ?_
      exact .nil
    clear J; intro K10 hK10; simp only [fx]; intro _ f10 W10 J; refine hK10.out _ _ ?_; clear hK10
    refine wp_cond_false rfl ?_
    refine wp_skip ?_
    refine hK9.out _ _ ?_; clear hK9
    refine region_c [97, 98, 99, 100, 101, 102, 103, 104, 105, 106, 107, 108, 109, 110, 111, 112, 113, 5] [.is (.bool false), .is (.bool true), .is (.bool true), .that (fracS 0), .is (.int .i64 0), .is (.bool true), .is (.bool true), .is (.bool true), .is undef, .is undef, .is undef, .is undef, .is undef, .is undef, .is undef, .is undef, .is (.bool true), .is (.bool true)] [] [] [] J ?_ ?_
    · refine .pl rfl (fun _ _ W Γ => ev_move _ (Γ.s rfl)) ?_
      refine .pl rfl (fun _ _ W Γ => ev_not (Γ.k 0 rfl) rfl) ?_
      refine .pl rfl (fun _ _ W Γ => ev_move _ (Γ.k 1 rfl)) ?_
      refine .gu rfl rfl rfl rfl (fun _ _ W Γ => ev_ldQ (Γ.s rfl) (Γ.l 6 rfl)) ?_
      refine .gu rfl rfl rfl rfl (fun _ _ W Γ => ev_call1 (Γ.f _) run_qSign (qSign_val W _ 0 0 rfl (Γ.w (d := 99) 3 rfl))) ?_
      refine .gu rfl rfl rfl rfl (fun _ E W Γ => by
        have e1 : E (.tmp 100) = .int .i64 0 := (Γ.k 4 rfl)
        have hc := Γ.c
        exact Does.value (w' := W) (by go_simp <;> first | rfl | (rw [IntKind.wrap_i64]; omega)) ⟨rfl, Below.refl _ _⟩) ?_
      refine .pl rfl (fun _ _ W Γ => ev_pick (Γ.k 2 rfl) (Γ.k 5 rfl)) ?_
      refine .pl rfl (fun _ _ W Γ => ev_move _ (Γ.k 6 rfl)) ?_
      refine .off rfl rfl rfl rfl ?_
      refine .off rfl rfl rfl rfl ?_
      refine .offu rfl rfl rfl rfl ?_
      refine .offu rfl rfl rfl rfl ?_
      refine .offu rfl rfl rfl rfl ?_
      refine .offu rfl rfl rfl rfl ?_
      refine .offu rfl rfl rfl rfl ?_
      refine .off rfl rfl rfl rfl ?_
      refine .pl rfl (fun _ _ W Γ => ev_pick (Γ.k 7 rfl) (Γ.c _)) ?_
      refine .pl rfl (fun _ _ W Γ => ev_assign _ (Γ.k 16 rfl)) ?_
      exact .nil
    clear J; intro K11 hK11; simp only [fx]; intro _ f11 W11 J; refine hK11.out _ _ ?_; clear hK11
    refine wp_ret ?_
    exact bodyPost_ret (v := .bool true) (by simp [results, Tryz.results3, go_sem]) rfl ⟨_, rfl, rfl, J.out.be⟩
  · skip
    have HYN : Hid (Y.num ≠ 0) := Lib.hid hy0
    have HSG : Hid ((cmp3 Y.num 0 != 0) = true) := Lib.hid (bne_iff_ne.2 fun e => hy0 (cmp3_zero_iff.1 e))
    have HS6 := Lib.hid (qbR4 (QB.div HQX.out HQY.out) (by omega))
    clear hy0
    go_enter Tryz.func3, Tryz.ntmps3
    have J := Frm.start (w := w) (V := []) fn
    refine wp_seq_h ?_; intro K1 hK1; go_wp2
    obtain ⟨W2, b2, eW2, eb2, sz2, J⟩ := Frm.putW J rfl H1.out
    obtain ⟨W3, b3, eW3, eb3, sz3, J⟩ := Frm.putW J sz2 H2.out
    rw [← eW2, ← eW3, ← eb3, ← eb2]
    clear eW2 eb2 sz2 eW3 eb3 sz3
    refine hK1.out _ _ ?_; clear hK1
    refine region_c [12, 13, 6, 0] [.that (rawS n1 xs1 ys1 g1), .that (rfracS X), .any, .any] [] [⟨.rfrac, 2, 3, .that (rfracS X), .agg #[.bool false, .slice none 0 0, .slice none 0 0]⟩] [] J ?_ ?_
    · refine .pl rfl (fun _ _ W Γ => ev_ldW (Γ.s rfl) (Γ.l 0 rfl)) ?_
      refine .pl rfl (fun _ _ W Γ => ev_call1 (Γ.f _) run_one3 (show Calls Tryz.prog 6 #[_] W (Gives W (.that (rfracS X))) from HX1.out ▸ one3_val W _ n1 xs1 ys1 g1 HR1.out.1 HR1.out.2.1 HR1.out.2.2.1 HR1.out.2.2.2 (Γ.w (d := 11) 0 rfl))) ?_
      refine .al 0 rfl rfl (fun _ _ => ev_alP) ?_
      refine .sn 0 rfl rfl (fun _ _ W Γ => ev_stP (Γ.q 0 rfl) (Γ.un 0 rfl) (Γ.w 1 rfl)) ?_
      exact .nil
    clear J; intro K4 hK4; simp only [fx]; intro β4 f4 W4 J; refine hK4.out _ _ ?_; clear hK4
    refine region_c [14, 15, 7, 0] [.that (rawS n2 xs2 ys2 g2), .that (rfracS Y), .any, .any] [] [⟨.rfrac, 2, 3, .that (rfracS Y), .agg #[.bool false, .slice none 0 0, .slice none 0 0]⟩] [] J ?_ ?_
    · refine .pl rfl (fun _ _ W Γ => ev_ldW (Γ.s rfl) (Γ.l 1 rfl)) ?_
      refine .pl rfl (fun _ _ W Γ => ev_call1 (Γ.f _) run_one3 (show Calls Tryz.prog 6 #[_] W (Gives W (.that (rfracS Y))) from HX2.out ▸ one3_val W _ n2 xs2 ys2 g2 HR2.out.1 HR2.out.2.1 HR2.out.2.2.1 HR2.out.2.2.2 (Γ.w (d := 13) 0 rfl))) ?_
      refine .al 0 rfl rfl (fun _ _ => ev_alP) ?_
      refine .sn 0 rfl rfl (fun _ _ W Γ => ev_stP (Γ.q 0 rfl) (Γ.un 0 rfl) (Γ.w 1 rfl)) ?_
      exact .nil
    clear J; intro K5 hK5; simp only [fx]; intro β5 f5 W5 J; refine hK5.out _ _ ?_; clear hK5
    refine region_c [16, 17, 8, 0] [.that (rfracS X), .that (fracS X), .any, .any] [] [⟨.frac, 2, 3, .that (fracS X), .agg #[.bool false, .int .u64 0, .slice none 0 0, .int .u64 0, .slice none 0 0]⟩] [] J ?_ ?_
    · refine .pl rfl (fun _ _ W Γ => ev_ldP (Γ.s rfl) (Γ.l 2 rfl)) ?_
      refine .pl rfl (fun _ _ W Γ => ev_call1 (Γ.f _) run_hIn (hIn_val W _ X (QB.mono HQX.out (by omega)) (TB.out.mono Γ.be) (Γ.w (d := 15) 0 rfl))) ?_
      refine .al 0 rfl rfl (fun _ _ => ev_alQ) ?_
      refine .sn 0 rfl rfl (fun _ _ W Γ => ev_stQ (Γ.q 0 rfl) (Γ.un 0 rfl) (Γ.w 1 rfl)) ?_
      exact .nil
    clear J; intro K6 hK6; simp only [fx]; intro β6 f6 W6 J; refine hK6.out _ _ ?_; clear hK6
    refine region_c [18, 19, 9, 0] [.that (rfracS Y), .that (fracS Y), .any, .any] [] [⟨.frac, 2, 3, .that (fracS Y), .agg #[.bool false, .int .u64 0, .slice none 0 0, .int .u64 0, .slice none 0 0]⟩] [] J ?_ ?_
    · refine .pl rfl (fun _ _ W Γ => ev_ldP (Γ.s rfl) (Γ.l 3 rfl)) ?_
      refine .pl rfl (fun _ _ W Γ => ev_call1 (Γ.f _) run_hIn (hIn_val W _ Y (QB.mono HQY.out (by omega)) (TB.out.mono Γ.be) (Γ.w (d := 17) 0 rfl))) ?_
      refine .al 0 rfl rfl (fun _ _ => ev_alQ) ?_
      refine .sn 0 rfl rfl (fun _ _ W Γ => ev_stQ (Γ.q 0 rfl) (Γ.un 0 rfl) (Γ.w 1 rfl)) ?_
      exact .nil
    clear J; intro K7 hK7; simp only [fx]; intro β7 f7 W7 J; refine hK7.out _ _ ?_; clear hK7
    refine region_c [21, 22, 23, 20, 24, 25, 10, 0, 11] [.that (fracS X), .that (fracS Y), .two (.that (fracS (X / Y))) (.is (.bool true)), .two (.that (fracS (X / Y))) (.is (.bool true)), .that (fracS (X / Y)), .is (.bool true), .any, .any, .is (.bool true)] [] [⟨.frac, 6, 7, .that (fracS (X / Y)), .agg #[.bool false, .int .u64 0, .slice none 0 0, .int .u64 0, .slice none 0 0]⟩] [] J ?_ ?_
    · refine .pl rfl (fun _ _ W Γ => ev_ldQ (Γ.s rfl) (Γ.l 4 rfl)) ?_
      refine .pl rfl (fun _ _ W Γ => ev_ldQ (Γ.s rfl) (Γ.l 5 rfl)) ?_
      refine .pl rfl (fun _ _ W Γ => ev_call2 (Γ.f _) run_qDiv (qDiv_val W _ _ X Y (QB.mono HQX.out (by omega)) (QB.mono HQY.out (by omega)) HYN.out (TB.out.mono Γ.be) (Γ.w (d := 20) 0 rfl) (Γ.w (d := 21) 1 rfl))) ?_
      refine .pl rfl (fun _ _ W Γ => ev_moveM (Γ.w 2 rfl)) ?_
      refine .pl rfl (fun _ _ W Γ => ev_ex20 (Γ.w 3 rfl)) ?_
      refine .pl rfl (fun _ _ W Γ => ev_ex21 (Γ.w 3 rfl)) ?_
      refine .al 0 rfl rfl (fun _ _ => ev_alQ) ?_
      refine .sn 0 rfl rfl (fun _ _ W Γ => ev_stQ (Γ.q 0 rfl) (Γ.un 0 rfl) (Γ.w 4 rfl)) ?_
      refine .pl rfl (fun _ _ W Γ => ev_assign _ (Γ.k 5 rfl)) ?_
      exact .nil
    clear J; intro K8 hK8; simp only [fx]; intro β8 f8 W8 J; refine hK8.out _ _ ?_; clear hK8
    refine wp_seq_h ?_; intro K9 hK9
    refine region_c [26, 27, 28, 29, 30, 31, 32, 33, 34, 35, 36, 37, 38, 39, 40, 41, 42, 43, 44, 45, 46, 47, 48, 49, 50, 51, 52, 53, 54, 55, 56, 57, 58, 59, 60, 61, 62, 63, 64, 65, 66, 67, 68, 69, 70, 71, 72, 73, 74, 75, 76, 77, 78, 79, 80, 81, 82, 83, 84, 85, 86, 87, 88, 89, 90, 91, 92, 93, 94, 95, 96] [.is (.bool true), .is (.bool false), .is (.bool false), .that (fracS X), .that (fracS Y), .that (fracS (X + Y)), .that (rfracS X), .that (rfracS Y), .that (rfracS (X + Y)), .is (.bool true), .is (.bool false), .is (.bool false), .is (.bool false), .that (fracS X), .that (fracS Y), .that (fracS (X - Y)), .that (rfracS X), .that (rfracS Y), .that (rfracS (X - Y)), .is (.bool true), .is (.bool false), .is (.bool false), .is (.bool false), .that (fracS X), .that (fracS Y), .that (fracS (X * Y)), .that (rfracS X), .that (rfracS Y), .that (rfracS (X * Y)), .is (.bool true), .is (.bool false), .is (.bool false), .is (.bool false), .that (fracS X), .that (fracS Y), .is (.int .i64 (qcmp X Y)), .that (rfracS X), .that (rfracS Y), .is (.int .i64 (qcmp X Y)), .is (.bool false), .is (.bool false), .is (.bool false), .that (fracS X), .is (.int .i64 (cmp3 X.num 0)), .that (rfracS X), .is (.int .i64 (cmp3 X.num 0)), .is (.bool false), .is (.bool false), .is (.bool false), .that (fracS X), .that (fracS (-X)), .that (rfracS X), .that (rfracS (-X)), .is (.bool true), .is (.bool false), .is (.bool false), .is (.bool false), .that (fracS X), .that (fracS (qabs X)), .that (rfracS X), .that (rfracS (qabs X)), .is (.bool true), .is (.bool false), .is (.bool false), .is (.bool false), .is (.bool true), .that (rfracS Y), .is (.int .i64 (cmp3 Y.num 0)), .is (.bool true), .is (.bool false), .is (.bool false)] [] [] [] J ?_ ?_
    · refine .pl rfl (fun _ _ W Γ => ev_call0 (Γ.f _) run_known3 (known3_gives W mx (wcell Γ.be MX.out) (TB.out.mono Γ.be))) ?_
      refine .pl rfl (fun _ _ W Γ => ev_not (Γ.k 0 rfl) rfl) ?_
      refine .pl rfl (fun _ _ W Γ => ev_move _ (Γ.k 1 rfl)) ?_
      refine .gu rfl rfl rfl rfl (fun _ _ W Γ => ev_ldQ (Γ.s rfl) (Γ.l 4 rfl)) ?_
      refine .gu rfl rfl rfl rfl (fun _ _ W Γ => ev_ldQ (Γ.s rfl) (Γ.l 5 rfl)) ?_
      refine .gu rfl rfl rfl rfl (fun _ _ W Γ => ev_call2 (Γ.f _) run_qAdd (qAdd_val W _ _ X Y (QB.mono HQX.out (by omega)) (QB.mono HQY.out (by omega)) (TB.out.mono Γ.be) (Γ.w (d := 28) 3 rfl) (Γ.w (d := 29) 4 rfl))) ?_
      refine .gu rfl rfl rfl rfl (fun _ _ W Γ => ev_ldP (Γ.s rfl) (Γ.l 2 rfl)) ?_
      refine .gu rfl rfl rfl rfl (fun _ _ W Γ => ev_ldP (Γ.s rfl) (Γ.l 3 rfl)) ?_
      refine .gu rfl rfl rfl rfl (fun _ _ W Γ => ev_call2 (Γ.f _) run_rQAdd (rQAdd_val W _ _ X Y (QB.mono HQX.out (by omega)) (QB.mono HQY.out (by omega)) (Γ.w (d := 31) 6 rfl) (Γ.w (d := 32) 7 rfl))) ?_
      refine .gu rfl rfl rfl rfl (fun _ _ W Γ => ev_call2 (Γ.f _) run_hSame (hSame_val W _ _ (X + Y) HS1.out (Γ.w (d := 30) 5 rfl) (Γ.w (d := 33) 8 rfl))) ?_
      refine .gu rfl rfl rfl rfl (fun _ _ W Γ => ev_not (Γ.k 9 rfl) rfl) ?_
      refine .pl rfl (fun _ _ W Γ => ev_pick (Γ.k 2 rfl) (Γ.k 10 rfl)) ?_
      refine .pl rfl (fun _ _ W Γ => ev_move _ (Γ.k 11 rfl)) ?_
      refine .gu rfl rfl rfl rfl (fun _ _ W Γ => ev_ldQ (Γ.s rfl) (Γ.l 4 rfl)) ?_
      refine .gu rfl rfl rfl rfl (fun _ _ W Γ => ev_ldQ (Γ.s rfl) (Γ.l 5 rfl)) ?_
      refine .gu rfl rfl rfl rfl (fun _ _ W Γ => ev_call2 (Γ.f _) run_qSub (qSub_val W _ _ X Y (QB.mono HQX.out (by omega)) (QB.mono HQY.out (by omega)) (TB.out.mono Γ.be) (Γ.w (d := 38) 13 rfl) (Γ.w (d := 39) 14 rfl))) ?_
      refine .gu rfl rfl rfl rfl (fun _ _ W Γ => ev_ldP (Γ.s rfl) (Γ.l 2 rfl)) ?_
      refine .gu rfl rfl rfl rfl (fun _ _ W Γ => ev_ldP (Γ.s rfl) (Γ.l 3 rfl)) ?_
      refine .gu rfl rfl rfl rfl (fun _ _ W Γ => ev_call2 (Γ.f _) run_rQSub (rQSub_val W _ _ X Y (QB.mono HQX.out (by omega)) (QB.mono HQY.out (by omega)) (Γ.w (d := 41) 16 rfl) (Γ.w (d := 42) 17 rfl))) ?_
      refine .gu rfl rfl rfl rfl (fun _ _ W Γ => ev_call2 (Γ.f _) run_hSame (hSame_val W _ _ (X - Y) HS2.out (Γ.w (d := 40) 15 rfl) (Γ.w (d := 43) 18 rfl))) ?_
      refine .gu rfl rfl rfl rfl (fun _ _ W Γ => ev_not (Γ.k 19 rfl) rfl) ?_
      refine .pl rfl (fun _ _ W Γ => ev_pick (Γ.k 12 rfl) (Γ.k 20 rfl)) ?_
      refine .pl rfl (fun _ _ W Γ => ev_move _ (Γ.k 21 rfl)) ?_
      refine .gu rfl rfl rfl rfl (fun _ _ W Γ => ev_ldQ (Γ.s rfl) (Γ.l 4 rfl)) ?_
      refine .gu rfl rfl rfl rfl (fun _ _ W Γ => ev_ldQ (Γ.s rfl) (Γ.l 5 rfl)) ?_
      refine .gu rfl rfl rfl rfl (fun _ _ W Γ => ev_call2 (Γ.f _) run_qMul (qMul_val W _ _ X Y (QB.mono HQX.out (by omega)) (QB.mono HQY.out (by omega)) (TB.out.mono Γ.be) (Γ.w (d := 48) 23 rfl) (Γ.w (d := 49) 24 rfl))) ?_
      refine .gu rfl rfl rfl rfl (fun _ _ W Γ => ev_ldP (Γ.s rfl) (Γ.l 2 rfl)) ?_
      refine .gu rfl rfl rfl rfl (fun _ _ W Γ => ev_ldP (Γ.s rfl) (Γ.l 3 rfl)) ?_
      refine .gu rfl rfl rfl rfl (fun _ _ W Γ => ev_call2 (Γ.f _) run_rQMul (rQMul_val W _ _ X Y (QB.mono HQX.out (by omega)) (QB.mono HQY.out (by omega)) (Γ.w (d := 51) 26 rfl) (Γ.w (d := 52) 27 rfl))) ?_
      refine .gu rfl rfl rfl rfl (fun _ _ W Γ => ev_call2 (Γ.f _) run_hSame (hSame_val W _ _ (X * Y) HS3.out (Γ.w (d := 50) 25 rfl) (Γ.w (d := 53) 28 rfl))) ?_
      refine .gu rfl rfl rfl rfl (fun _ _ W Γ => ev_not (Γ.k 29 rfl) rfl) ?_
      refine .pl rfl (fun _ _ W Γ => ev_pick (Γ.k 22 rfl) (Γ.k 30 rfl)) ?_
      refine .pl rfl (fun _ _ W Γ => ev_move _ (Γ.k 31 rfl)) ?_
      refine .gu rfl rfl rfl rfl (fun _ _ W Γ => ev_ldQ (Γ.s rfl) (Γ.l 4 rfl)) ?_
      refine .gu rfl rfl rfl rfl (fun _ _ W Γ => ev_ldQ (Γ.s rfl) (Γ.l 5 rfl)) ?_
      refine .gu rfl rfl rfl rfl (fun _ _ W Γ => ev_call2 (Γ.f _) run_qCmp (qCmp_val W _ _ X Y (QB.mono HQX.out (by omega)) (QB.mono HQY.out (by omega)) _ rfl (Γ.w (d := 58) 33 rfl) (Γ.w (d := 59) 34 rfl))) ?_
      refine .gu rfl rfl rfl rfl (fun _ _ W Γ => ev_ldP (Γ.s rfl) (Γ.l 2 rfl)) ?_
      refine .gu rfl rfl rfl rfl (fun _ _ W Γ => ev_ldP (Γ.s rfl) (Γ.l 3 rfl)) ?_
      refine .gu rfl rfl rfl rfl (fun _ _ W Γ => ev_call2 (Γ.f _) run_rQCmp (rQCmp_val W _ _ X Y (QB.mono HQX.out (by omega)) (QB.mono HQY.out (by omega)) (Γ.w (d := 61) 36 rfl) (Γ.w (d := 62) 37 rfl))) ?_
      refine .gu rfl rfl rfl rfl (fun _ _ W Γ => ev_neq (Γ.k 35 rfl) (Γ.k 38 rfl) (bne_self_eq_false _)) ?_
      refine .pl rfl (fun _ _ W Γ => ev_pick (Γ.k 32 rfl) (Γ.k 39 rfl)) ?_
      refine .pl rfl (fun _ _ W Γ => ev_move _ (Γ.k 40 rfl)) ?_
      refine .gu rfl rfl rfl rfl (fun _ _ W Γ => ev_ldQ (Γ.s rfl) (Γ.l 4 rfl)) ?_
      refine .gu rfl rfl rfl rfl (fun _ _ W Γ => ev_call1 (Γ.f _) run_qSign (qSign_val W _ X _ rfl (Γ.w (d := 67) 42 rfl))) ?_
      refine .gu rfl rfl rfl rfl (fun _ _ W Γ => ev_ldP (Γ.s rfl) (Γ.l 2 rfl)) ?_
      refine .gu rfl rfl rfl rfl (fun _ _ W Γ => ev_call1 (Γ.f _) run_rQSign (rQSign_val W _ X (Γ.w (d := 69) 44 rfl))) ?_
      refine .gu rfl rfl rfl rfl (fun _ _ W Γ => ev_neq (Γ.k 43 rfl) (Γ.k 45 rfl) (bne_self_eq_false _)) ?_
      refine .pl rfl (fun _ _ W Γ => ev_pick (Γ.k 41 rfl) (Γ.k 46 rfl)) ?_
      refine .pl rfl (fun _ _ W Γ => ev_move _ (Γ.k 47 rfl)) ?_
      refine .gu rfl rfl rfl rfl (fun _ _ W Γ => ev_ldQ (Γ.s rfl) (Γ.l 4 rfl)) ?_
      refine .gu rfl rfl rfl rfl (fun _ _ W Γ => ev_call1 (Γ.f _) run_qNeg (qNeg_val W _ X (Γ.w (d := 74) 49 rfl))) ?_
      refine .gu rfl rfl rfl rfl (fun _ _ W Γ => ev_ldP (Γ.s rfl) (Γ.l 2 rfl)) ?_
      refine .gu rfl rfl rfl rfl (fun _ _ W Γ => ev_call1 (Γ.f _) run_rQNeg (rQNeg_val W _ X (Γ.w (d := 76) 51 rfl))) ?_
      refine .gu rfl rfl rfl rfl (fun _ _ W Γ => ev_call2 (Γ.f _) run_hSame (hSame_val W _ _ (-X) HS4.out (Γ.w (d := 75) 50 rfl) (Γ.w (d := 77) 52 rfl))) ?_
      refine .gu rfl rfl rfl rfl (fun _ _ W Γ => ev_not (Γ.k 53 rfl) rfl) ?_
      refine .pl rfl (fun _ _ W Γ => ev_pick (Γ.k 48 rfl) (Γ.k 54 rfl)) ?_
      refine .pl rfl (fun _ _ W Γ => ev_move _ (Γ.k 55 rfl)) ?_
      refine .gu rfl rfl rfl rfl (fun _ _ W Γ => ev_ldQ (Γ.s rfl) (Γ.l 4 rfl)) ?_
      refine .gu rfl rfl rfl rfl (fun _ _ W Γ => ev_call1 (Γ.f _) run_qAbs (qAbs_val W _ X (Γ.w (d := 82) 57 rfl))) ?_
      refine .gu rfl rfl rfl rfl (fun _ _ W Γ => ev_ldP (Γ.s rfl) (Γ.l 2 rfl)) ?_
      refine .gu rfl rfl rfl rfl (fun _ _ W Γ => ev_call1 (Γ.f _) run_rQAbs (rQAbs_val W _ X (Γ.w (d := 84) 59 rfl))) ?_
      refine .gu rfl rfl rfl rfl (fun _ _ W Γ => ev_call2 (Γ.f _) run_hSame (hSame_val W _ _ (qabs X) HS5.out (Γ.w (d := 83) 58 rfl) (Γ.w (d := 85) 60 rfl))) ?_
      refine .gu rfl rfl rfl rfl (fun _ _ W Γ => ev_not (Γ.k 61 rfl) rfl) ?_
      refine .pl rfl (fun _ _ W Γ => ev_pick (Γ.k 56 rfl) (Γ.k 62 rfl)) ?_
      refine .pl rfl (fun _ _ W Γ => ev_move _ (Γ.k 63 rfl)) ?_
      refine .gu rfl rfl rfl rfl (fun _ _ W Γ => ev_move _ (Γ.s rfl)) ?_
      refine .gu rfl rfl rfl rfl (fun _ _ W Γ => ev_ldP (Γ.s rfl) (Γ.l 3 rfl)) ?_
      refine .gu rfl rfl rfl rfl (fun _ _ W Γ => ev_call1 (Γ.f _) run_rQSign (rQSign_val W _ Y (Γ.w (d := 91) 66 rfl))) ?_
      refine .gu rfl rfl rfl rfl (fun _ _ W Γ => ev_neq (Γ.k 67 rfl) (Γ.c _) HSG.out) ?_
      refine .gu rfl rfl rfl rfl (fun _ E W Γ => by
        have e1 : E (.tmp 90) = .bool true := (Γ.k 65 rfl)
        have e2 : E (.tmp 93) = .bool true := (Γ.k 68 rfl)
        have hc := Γ.c
        exact Does.value (w' := W) (by go_simp <;> first | rfl | (rw [IntKind.wrap_i64]; omega)) ⟨rfl, Below.refl _ _⟩) ?_
      refine .pl rfl (fun _ _ W Γ => ev_pick (Γ.k 64 rfl) (Γ.k 69 rfl)) ?_
      exact .nil
    clear J; intro K10 hK10; simp only [fx]; intro _ f10 W10 J; refine hK10.out _ _ ?_; clear hK10
    refine wp_cond_false rfl ?_
    refine wp_skip ?_
    refine hK9.out _ _ ?_; clear hK9
    refine region_c [97, 98, 99, 100, 101, 102, 103, 104, 105, 106, 107, 108, 109, 110, 111, 112, 113, 5] [.is (.bool true), .is (.bool false), .is (.bool false), .is undef, .is undef, .is undef, .is (.bool false), .is (.bool false), .is (.bool true), .is (.bool true), .that (fracS (X / Y)), .that (rfracS X), .that (rfracS Y), .that (rfracS (X / Y)), .is (.bool true), .is (.bool true), .is (.bool true), .is (.bool true)] [] [] [] J ?_ ?_
    · refine .pl rfl (fun _ _ W Γ => ev_move _ (Γ.s rfl)) ?_
      refine .pl rfl (fun _ _ W Γ => ev_not (Γ.k 0 rfl) rfl) ?_
      refine .pl rfl (fun _ _ W Γ => ev_move _ (Γ.k 1 rfl)) ?_
      refine .off rfl rfl rfl rfl ?_
      refine .off rfl rfl rfl rfl ?_
      refine .off rfl rfl rfl rfl ?_
      refine .pl rfl (fun _ _ W Γ => ev_pick (Γ.k 2 rfl) (Γ.c _)) ?_
      refine .pl rfl (fun _ _ W Γ => ev_move _ (Γ.k 6 rfl)) ?_
      refine .gu rfl rfl rfl rfl (fun _ _ W Γ => ev_move _ (Γ.s rfl)) ?_
      refine .gu rfl rfl rfl rfl (fun _ _ W Γ => ev_move _ (Γ.k 8 rfl)) ?_
      refine .gu rfl rfl rfl rfl (fun _ _ W Γ => ev_ldQ (Γ.s rfl) (Γ.l 6 rfl)) ?_
      refine .gu rfl rfl rfl rfl (fun _ _ W Γ => ev_ldP (Γ.s rfl) (Γ.l 2 rfl)) ?_
      refine .gu rfl rfl rfl rfl (fun _ _ W Γ => ev_ldP (Γ.s rfl) (Γ.l 3 rfl)) ?_
      refine .gu rfl rfl rfl rfl (fun _ _ W Γ => ev_call2 (Γ.f _) run_rQDiv (rQDiv_val W _ _ X Y (QB.mono HQX.out (by omega)) (QB.mono HQY.out (by omega)) HYN.out (Γ.w (d := 107) 11 rfl) (Γ.w (d := 108) 12 rfl))) ?_
      refine .gu rfl rfl rfl rfl (fun _ _ W Γ => ev_call2 (Γ.f _) run_hSame (hSame_val W _ _ (X / Y) HS6.out (Γ.w (d := 106) 10 rfl) (Γ.w (d := 109) 13 rfl))) ?_
      refine .gu rfl rfl rfl rfl (fun _ _ W Γ => ev_pick (Γ.k 9 rfl) (Γ.k 14 rfl)) ?_
      refine .pl rfl (fun _ _ W Γ => ev_pick (Γ.k 7 rfl) (Γ.k 15 rfl)) ?_
      refine .pl rfl (fun _ _ W Γ => ev_assign _ (Γ.k 16 rfl)) ?_
      exact .nil
    clear J; intro K11 hK11; simp only [fx]; intro _ f11 W11 J; refine hK11.out _ _ ?_; clear hK11
    refine wp_ret ?_
    exact bodyPost_ret (v := .bool true) (by simp [results, Tryz.results3, go_sem]) rfl ⟨_, rfl, rfl, J.out.be⟩
end Go.Proofs.YtjhjlecnjkjbbaaGreatDoor
