/- FracOrder: the order of fractions holds through sums and products; rounding keeps it, is near, a multiple of the step, by itself again, and odd. -/
import Derived.Test.YtjhjlecnjkjbbaaGreatDoorNear2
import Derived.Test.YtjhjlecnjkjbbaaGreatDoorOne3
namespace Go.Proofs.YtjhjlecnjkjbbaaGreatDoor
open Go.RowKit

theorem run_hIn : RowKit.Hid (∀ (a : Array Value) (w : World), Sem.run Tryz.prog (callFunc 7 a) w = .ok (.enter 7 a) w) := fun a w => by go_simp
theorem run_known3 : RowKit.Hid (∀ (a : Array Value) (w : World), Sem.run Tryz.prog (callFunc 9 a) w = .ok (.enter 9 a) w) := fun a w => by go_simp
theorem run_one3 : RowKit.Hid (∀ (a : Array Value) (w : World), Sem.run Tryz.prog (callFunc 6 a) w = .ok (.enter 6 a) w) := fun a w => by go_simp
theorem run_qAbs : RowKit.Hid (∀ (a : Array Value) (w : World), Sem.run Tryz.prog (callFunc 23 a) w = .ok (.enter 23 a) w) := fun a w => by go_simp
theorem run_qCmp : RowKit.Hid (∀ (a : Array Value) (w : World), Sem.run Tryz.prog (callFunc 17 a) w = .ok (.enter 17 a) w) := fun a w => by go_simp
theorem run_qDiv : RowKit.Hid (∀ (a : Array Value) (w : World), Sem.run Tryz.prog (callFunc 8 a) w = .ok (.enter 8 a) w) := fun a w => by go_simp
theorem run_qSub : RowKit.Hid (∀ (a : Array Value) (w : World), Sem.run Tryz.prog (callFunc 13 a) w = .ok (.enter 13 a) w) := fun a w => by go_simp
theorem QB.ng {X : Rat} {k : Nat} (h : QB X k) : QB (-X) k := ⟨by rw [Rat.neg_num, Int.natAbs_neg]; exact h.1, h.2⟩
theorem near_bits {X : Rat} (h : QB X 100) {m : Nat} (hm : m ≤ 30) : QB (nearQ X m) 140 := by
  refine mkRat_bits ?_ ?_ (by omega)
  · have e : (sgn (decide (X.num < 0)) (rhe (X.num.natAbs * 2 ^ m) X.den)).natAbs = rhe (X.num.natAbs * 2 ^ m) X.den := by unfold sgn; split <;> omega
    rw [e]
    have h1 : X.num.natAbs < 2 ^ 100 := bitLen_lt_pow.2 h.1
    have h2 : X.num.natAbs * 2 ^ m ≤ 2 ^ 100 * 2 ^ 30 := Nat.mul_le_mul (Nat.le_of_lt h1) (Nat.pow_le_pow_right (by omega) hm)
    have h3 : rhe (X.num.natAbs * 2 ^ m) X.den ≤ X.num.natAbs * 2 ^ m + 1 := by
      have := Nat.div_le_self (X.num.natAbs * 2 ^ m) X.den
      unfold rhe; split
      · omega
      · split <;> omega
    refine Nat.le_trans ((bitLen_lt_pow (n := rhe (X.num.natAbs * 2 ^ m) X.den) (k := 131)).1 ?_) (by omega)
    have h4 : (2 : Nat) ^ 100 * 2 ^ 30 + 1 < 2 ^ 131 := by decide
    omega
  · refine Nat.le_trans ((bitLen_lt_pow (n := 2 ^ m) (k := 31)).1 ?_) (by omega)
    exact Nat.pow_lt_pow_right (by omega) (by omega)
theorem step_bits {m : Nat} (hm : m ≤ 30) : QB (mkRat 1 (2 ^ m)) 60 := by
  refine mkRat_bits (Nat.le_trans ((bitLen_lt_pow (n := (1 : Int).natAbs) (k := 1)).1 (by decide)) (by omega)) ?_ (by omega)
  refine Nat.le_trans ((bitLen_lt_pow (n := 2 ^ m) (k := 31)).1 ?_) (by omega)
  exact Nat.pow_lt_pow_right (by omega) (by omega)
theorem step_num (m : Nat) : (mkRat 1 (2 ^ m)).num ≠ 0 := by
  intro e
  have h := step_mul m
  rw [Rat.num_eq_zero.1 e, Rat.zero_mul] at h
  exact absurd h (by decide)
theorem ev_leq {E : Operand → Value} {w : World} {d : Option Tmp} {ty : TypeId} {pos : String} {af : Array Edge} {gd : Option (Nat × Bool)} {x y : Operand} {a b : Int} (h1 : E x = .int .i64 a) (h2 : E y = .int .i64 b) {v : Bool} (hv : (decide (a ≤ b)) = v) : Does Tryz.prog ⟨d, .binOp .leq 3 x y 3, ty, pos, af, gd⟩ E w fun v' w' => v' = .bool v ∧ Below w.heap.size w w' :=
  Does.value (w' := w) (by go_simp) ⟨congrArg Value.bool hv, Below.refl _ _⟩
set_option maxRecDepth 100000 in
set_option maxHeartbeats 8000000 in
theorem forder_any (p1 q1 : Option Addr) (l1 c1 k1 d1 : Nat) (n1 : Int) (xs1 ys1 : List Nat) (g1 : Bool) (p2 q2 : Option Addr) (l2 c2 k2 d2 : Nat) (n2 : Int) (xs2 ys2 : List Nat) (g2 : Bool) (p3 q3 : Option Addr) (l3 c3 k3 d3 : Nat) (n3 : Int) (xs3 ys3 : List Nat) (g3 : Bool) (n4 : Int) (mx : Int) (w : World) (r1 : -9223372036854775808 ≤ n1 ∧ n1 ≤ 9223372036854775807) (a1 : IsB w p1 l1 c1 xs1) (b1 : IsB w q1 k1 d1 ys1) (r2 : -9223372036854775808 ≤ n2 ∧ n2 ≤ 9223372036854775807) (a2 : IsB w p2 l2 c2 xs2) (b2 : IsB w q2 k2 d2 ys2) (r3 : -9223372036854775808 ≤ n3 ∧ n3 ≤ 9223372036854775807) (a3 : IsB w p3 l3 c3 xs3) (b3 : IsB w q3 k3 d3 ys3) (r4 : -9223372036854775808 ≤ n4 ∧ n4 ≤ 9223372036854775807) (hM : w.cell? ⟨4, 0, none⟩ = some (.int .i64 mx)) (hT : Tab64 w) :
    Calls Tryz.prog 5 #[.agg #[.int .i64 n1, .slice p1 l1 c1, .slice q1 k1 d1, .bool g1], .agg #[.int .i64 n2, .slice p2 l2 c2, .slice q2 k2 d2, .bool g2], .agg #[.int .i64 n3, .slice p3 l3 c3, .slice q3 k3 d3, .bool g3], .int .i64 n4] w (Gives w (.is (.bool true))) := by
  obtain ⟨X, hX⟩ : ∃ x, oneQ n1 xs1 ys1 g1 = x := ⟨_, rfl⟩
  have HQX := Lib.hid (oneQ_bits n1 xs1 ys1 g1 a1.2.1 b1.2.1); rw [hX] at HQX
  have HX1 := Lib.hid hX; have HR1 : Hid (-9223372036854775808 ≤ n1 ∧ n1 ≤ 9223372036854775807 ∧ (∀ x ∈ xs1, x < 256) ∧ ∀ x ∈ ys1, x < 256) := Lib.hid ⟨r1.1, r1.2, a1.2.1, b1.2.1⟩; have H1 := Lib.hid (And.intro a1 b1)
  obtain ⟨Y, hY⟩ : ∃ x, oneQ n2 xs2 ys2 g2 = x := ⟨_, rfl⟩
  have HQY := Lib.hid (oneQ_bits n2 xs2 ys2 g2 a2.2.1 b2.2.1); rw [hY] at HQY
  have HX2 := Lib.hid hY; have HR2 : Hid (-9223372036854775808 ≤ n2 ∧ n2 ≤ 9223372036854775807 ∧ (∀ x ∈ xs2, x < 256) ∧ ∀ x ∈ ys2, x < 256) := Lib.hid ⟨r2.1, r2.2, a2.2.1, b2.2.1⟩; have H2 := Lib.hid (And.intro a2 b2)
  obtain ⟨Z, hZ⟩ : ∃ x, oneQ n3 xs3 ys3 g3 = x := ⟨_, rfl⟩
  have HQZ := Lib.hid (oneQ_bits n3 xs3 ys3 g3 a3.2.1 b3.2.1); rw [hZ] at HQZ
  have HX3 := Lib.hid hZ; have HR3 : Hid (-9223372036854775808 ≤ n3 ∧ n3 ≤ 9223372036854775807 ∧ (∀ x ∈ xs3, x < 256) ∧ ∀ x ∈ ys3, x < 256) := Lib.hid ⟨r3.1, r3.2, a3.2.1, b3.2.1⟩; have H3 := Lib.hid (And.intro a3 b3)
  obtain ⟨m, hm⟩ : ∃ m : Nat, n4 % 30 = (m : Int) := ⟨(n4 % 30).toNat, by omega⟩
  have hm30 : m ≤ 30 := by omega
  have HM : Hid (m ≤ 30 ∧ n4 % ((30 : Nat) : Int) = (m : Int)) := Lib.hid ⟨hm30, hm⟩; have HR4 := Lib.hid r4
  have HNX := Lib.hid (near_bits HQX.out hm30); have HNY := Lib.hid (near_bits HQY.out hm30)
  obtain ⟨S, hS⟩ : ∃ S, mkRat 1 (2 ^ m) = S := ⟨_, rfl⟩
  have HQS : Hid (QB S 60) := Lib.hid (by rw [← hS]; exact step_bits hm30); have HS0 : Hid (S.num ≠ 0) := Lib.hid (by rw [← hS]; exact step_num m)
  have HMS : Hid (MadeOf 1 ((1 * 2 ^ m : Nat) : Int) S) := Lib.hid (madeOf_den (by rw [← hS, Nat.one_mul]) (by have := Nat.two_pow_pos m; omega))
  have hp : 2 ^ m < 2 ^ 64 := Nat.pow_lt_pow_right (by omega) (by omega)
  have HMS0 : Hid (((1 * 2 ^ m : Nat) : Int) ≠ 0 ∧ (ds (1 : Int).natAbs).length ≤ 40 ∧ (ds ((1 * 2 ^ m : Nat) : Int).natAbs).length ≤ 40) := Lib.hid ⟨by have := Nat.two_pow_pos m; omega, by rw [ds_one (by decide)]; omega, by rw [Int.natAbs_natCast, Nat.one_mul, ds_one hp]; omega⟩
  have HS := Lib.hid hS; have MX := Lib.hid hM; have TB := Lib.hid hT
  clear hM hT hX hY hZ hm hm30 hS hp r1 r2 r3 r4 a1 a2 a3 b1 b2 b3
  go_enter Tryz.func5, Tryz.ntmps5
  have J := Frm.start (w := w) (V := []) fn
  refine wp_seq_h ?_; intro K1 hK1; go_wp2
  obtain ⟨W2, b2, eW2, eb2, sz2, J⟩ := Frm.putW J rfl H1.out
  obtain ⟨W3, b3, eW3, eb3, sz3, J⟩ := Frm.putW J sz2 H2.out
  obtain ⟨W4, b4, eW4, eb4, sz4, J⟩ := Frm.putW J sz3 H3.out
  rw [← eW2, ← eW3, ← eW4, ← eb4, ← eb3, ← eb2]
  clear eW2 eb2 sz2 eW3 eb3 sz3 eW4 eb4 sz4
  refine hK1.out _ _ ?_; clear hK1
  refine region_c [19, 20, 21, 10, 0] [.that (rawS n1 xs1 ys1 g1), .that (rfracS X), .that (fracS X), .any, .any] [] [⟨.frac, 3, 4, .that (fracS X), .agg #[.bool false, .int .u64 0, .slice none 0 0, .int .u64 0, .slice none 0 0]⟩] [] J ?_ ?_
  · refine .pl rfl (fun _ _ W Γ => ev_ldW (Γ.s rfl) (Γ.l 0 rfl)) ?_
    refine .pl rfl (fun _ _ W Γ => ev_call1 (Γ.f _) run_one3 (show Calls Tryz.prog 6 #[_] W (Gives W (.that (rfracS X))) from HX1.out ▸ one3_val W _ n1 xs1 ys1 g1 HR1.out.1 HR1.out.2.1 HR1.out.2.2.1 HR1.out.2.2.2 (Γ.w (d := 18) 0 rfl))) ?_
    refine .pl rfl (fun _ _ W Γ => ev_call1 (Γ.f _) run_hIn (hIn_val W _ X (QB.mono HQX.out (by omega)) (TB.out.mono Γ.be) (Γ.w (d := 19) 1 rfl))) ?_
    refine .al 0 rfl rfl (fun _ _ => ev_alQ) ?_
    refine .sn 0 rfl rfl (fun _ _ W Γ => ev_stQ (Γ.q 0 rfl) (Γ.un 0 rfl) (Γ.w 2 rfl)) ?_
    exact .nil
  clear J; intro K5 hK5; simp only [fx]; intro β5 f5 W5 J; refine hK5.out _ _ ?_; clear hK5
  refine region_c [22, 23, 24, 11, 0] [.that (rawS n2 xs2 ys2 g2), .that (rfracS Y), .that (fracS Y), .any, .any] [] [⟨.frac, 3, 4, .that (fracS Y), .agg #[.bool false, .int .u64 0, .slice none 0 0, .int .u64 0, .slice none 0 0]⟩] [] J ?_ ?_
  · refine .pl rfl (fun _ _ W Γ => ev_ldW (Γ.s rfl) (Γ.l 1 rfl)) ?_
    refine .pl rfl (fun _ _ W Γ => ev_call1 (Γ.f _) run_one3 (show Calls Tryz.prog 6 #[_] W (Gives W (.that (rfracS Y))) from HX2.out ▸ one3_val W _ n2 xs2 ys2 g2 HR2.out.1 HR2.out.2.1 HR2.out.2.2.1 HR2.out.2.2.2 (Γ.w (d := 21) 0 rfl))) ?_
    refine .pl rfl (fun _ _ W Γ => ev_call1 (Γ.f _) run_hIn (hIn_val W _ Y (QB.mono HQY.out (by omega)) (TB.out.mono Γ.be) (Γ.w (d := 22) 1 rfl))) ?_
    refine .al 0 rfl rfl (fun _ _ => ev_alQ) ?_
    refine .sn 0 rfl rfl (fun _ _ W Γ => ev_stQ (Γ.q 0 rfl) (Γ.un 0 rfl) (Γ.w 2 rfl)) ?_
    exact .nil
  clear J; intro K6 hK6; simp only [fx]; intro β6 f6 W6 J; refine hK6.out _ _ ?_; clear hK6
  refine region_c [25, 26, 27, 12, 0] [.that (rawS n3 xs3 ys3 g3), .that (rfracS Z), .that (fracS Z), .any, .any] [] [⟨.frac, 3, 4, .that (fracS Z), .agg #[.bool false, .int .u64 0, .slice none 0 0, .int .u64 0, .slice none 0 0]⟩] [] J ?_ ?_
  · refine .pl rfl (fun _ _ W Γ => ev_ldW (Γ.s rfl) (Γ.l 2 rfl)) ?_
    refine .pl rfl (fun _ _ W Γ => ev_call1 (Γ.f _) run_one3 (show Calls Tryz.prog 6 #[_] W (Gives W (.that (rfracS Z))) from HX3.out ▸ one3_val W _ n3 xs3 ys3 g3 HR3.out.1 HR3.out.2.1 HR3.out.2.2.1 HR3.out.2.2.2 (Γ.w (d := 24) 0 rfl))) ?_
    refine .pl rfl (fun _ _ W Γ => ev_call1 (Γ.f _) run_hIn (hIn_val W _ Z (QB.mono HQZ.out (by omega)) (TB.out.mono Γ.be) (Γ.w (d := 25) 1 rfl))) ?_
    refine .al 0 rfl rfl (fun _ _ => ev_alQ) ?_
    refine .sn 0 rfl rfl (fun _ _ W Γ => ev_stQ (Γ.q 0 rfl) (Γ.un 0 rfl) (Γ.w 2 rfl)) ?_
    exact .nil
  clear J; intro K7 hK7; simp only [fx]; intro β7 f7 W7 J; refine hK7.out _ _ ?_; clear hK7
  refine wp_seq_h ?_; intro K8 hK8
  by_cases hxy : X ≤ Y
  · skip
    have HG : Hid (decide (0 < qcmp (X) (Y)) = false) := Lib.hid (decide_eq_false (Int.not_lt.2 (qcmp_le.2 hxy)))
    have huv : X ≤ Y := hxy
    have HL1 : Hid (decide (qcmp (X + Z) (Y + Z) ≤ 0) = true) := Lib.hid (decide_eq_true (qcmp_le.2 (Rat.add_le_add_right.2 huv)))
    have HL2 : Hid (decide (qcmp (X * (qabs Z)) (Y * (qabs Z)) ≤ 0) = true) := Lib.hid (decide_eq_true (qcmp_le.2 (Rat.mul_le_mul_of_nonneg_right huv (qabs_nonneg Z))))
    have HL3 : Hid (decide (qcmp (nearQ X m) (nearQ Y m) ≤ 0) = true) := Lib.hid (decide_eq_true (qcmp_le.2 (near_mono m huv)))
    have HL4 : Hid (decide (qcmp ((qabs ((nearQ X m) - X)) + (qabs ((nearQ X m) - X))) (S) ≤ 0) = true) := Lib.hid (decide_eq_true (qcmp_le.2 (by rw [← HS.out]; exact near_far X m)))
    have HK1 : Hid (((nearQ X m) / S).den = 1) := Lib.hid (by rw [← HS.out]; exact near_steps X m)
    clear huv hxy
    refine region_c [28, 29, 30, 31] [.that (fracS X), .that (fracS Y), .is (.int .i64 (qcmp (X) (Y))), .is (.bool false)] [] [] [] J ?_ ?_
    · refine .pl rfl (fun _ _ W Γ => ev_ldQ (Γ.s rfl) (Γ.l 3 rfl)) ?_
      refine .pl rfl (fun _ _ W Γ => ev_ldQ (Γ.s rfl) (Γ.l 4 rfl)) ?_
      refine .pl rfl (fun _ _ W Γ => ev_call2 (Γ.f _) run_qCmp (qCmp_val W _ _ (X) (Y) (QB.mono HQX.out (by omega)) (QB.mono HQY.out (by omega)) _ rfl (Γ.w (d := 27) 0 rfl) (Γ.w (d := 28) 1 rfl))) ?_
      refine .pl rfl (fun _ _ W Γ => ev_gtr (Γ.k 2 rfl) (Γ.c _) HG.out) ?_
      exact .nil
    clear J; intro K9 hK9; simp only [fx]; intro _ f9 W9 J; refine hK9.out _ _ ?_; clear hK9
    refine wp_cond_false rfl ?_
    refine wp_skip ?_
    refine hK8.out _ _ ?_; clear hK8
    refine region_c [34, 35, 13] [.is (.int .i64 n4), .is (.int .i64 (m : Int)), .is (.int .i64 (m : Int))] [] [] [] J ?_ ?_
    · refine .pl rfl (fun _ _ W Γ => ev_move _ (Γ.s rfl)) ?_
      refine .pl rfl (fun _ _ W Γ => ev_call2 (Γ.f _) run_Pick (by rw [Γ.c, (show _ = Value.int .i64 n4 from (Γ.k (d := 33) 0 rfl))]; exact show Calls Tryz.prog 31 #[.int .i64 n4, .int .i64 30] W (Gives W (.is (.int .i64 (m : Int)))) from HM.out.2 ▸ pick_gives n4 30 W HR4.out.1 HR4.out.2 (by omega) (by omega))) ?_
      refine .pl rfl (fun _ _ W Γ => ev_assign _ (Γ.k 1 rfl)) ?_
      exact .nil
    clear J; intro K10 hK10; simp only [fx]; intro _ f10 W10 J; refine hK10.out _ _ ?_; clear hK10
    refine region_c [37, 38, 39, 40, 41, 42, 36, 43, 44, 14, 0, 15] [.int 1, .num 1, .is (.int .i64 (m : Int)), .num (1 * 2 ^ m), .int ((1 * 2 ^ m : Nat) : Int), .two (.that (fracS S)) (.is (.bool true)), .two (.that (fracS S)) (.is (.bool true)), .that (fracS S), .is (.bool true), .any, .any, .is (.bool true)] [] [⟨.frac, 9, 10, .that (fracS S), .agg #[.bool false, .int .u64 0, .slice none 0 0, .int .u64 0, .slice none 0 0]⟩] [] J ?_ ?_
    · refine .pl rfl (fun _ _ W Γ => ev_call1 (Γ.f _) run_iOf (by rw [Γ.c]; exact iOf_gives 1 W (by decide) (by decide))) ?_
      refine .pl rfl (fun _ _ W Γ => ev_call1 (Γ.f _) run_Of (by rw [Γ.c]; exact of_gives 1 (by omega) W)) ?_
      refine .pl rfl (fun _ _ W Γ => ev_move _ (Γ.s rfl)) ?_
      refine .pl rfl (fun _ _ W Γ => ev_call2 (Γ.f _) run_nShift (by rw [(show _ = Value.int .i64 (m : Int) from (Γ.k (d := 38) 2 rfl))]; exact nShift_gives W _ 1 m (by rw [ds_one (by decide)]; omega) (by have := HM.out.1; omega) (Γ.w (d := 37) 1 rfl))) ?_
      refine .pl rfl (fun _ _ W Γ => ev_call2 (Γ.f _) run_iFrom (by rw [Γ.c]; exact iFrom_val W _ (1 * 2 ^ m) (Γ.w (d := 39) 3 rfl))) ?_
      refine .pl rfl (fun _ _ W Γ => ev_call2 (Γ.f _) run_qMake (qMake_val W _ _ 1 ((1 * 2 ^ m : Nat) : Int) S HMS.out HMS0.out.1 HMS0.out.2.1 HMS0.out.2.2 (TB.out.mono Γ.be) (Γ.w (d := 36) 0 rfl) (Γ.w (d := 40) 4 rfl))) ?_
      refine .pl rfl (fun _ _ W Γ => ev_moveM (Γ.w 5 rfl)) ?_
      refine .pl rfl (fun _ _ W Γ => ev_ex20 (Γ.w 6 rfl)) ?_
      refine .pl rfl (fun _ _ W Γ => ev_ex21 (Γ.w 6 rfl)) ?_
      refine .al 0 rfl rfl (fun _ _ => ev_alQ) ?_
      refine .sn 0 rfl rfl (fun _ _ W Γ => ev_stQ (Γ.q 0 rfl) (Γ.un 0 rfl) (Γ.w 7 rfl)) ?_
      refine .pl rfl (fun _ _ W Γ => ev_assign _ (Γ.k 8 rfl)) ?_
      exact .nil
    clear J; intro K11 hK11; simp only [fx]; intro β11 f11 W11 J; refine hK11.out _ _ ?_; clear hK11
    refine region_c [45, 46, 47, 48, 49, 50, 16, 0] [.that (fracS X), .is (.int .i64 (m : Int)), .that (fracS (nearQ X m)), .that (fracS X), .that (fracS ((nearQ X m) - X)), .that (fracS (qabs ((nearQ X m) - X))), .any, .any] [] [⟨.frac, 6, 7, .that (fracS (qabs ((nearQ X m) - X))), .agg #[.bool false, .int .u64 0, .slice none 0 0, .int .u64 0, .slice none 0 0]⟩] [] J ?_ ?_
    · refine .pl rfl (fun _ _ W Γ => ev_ldQ (Γ.s rfl) (Γ.l 3 rfl)) ?_
      refine .pl rfl (fun _ _ W Γ => ev_move _ (Γ.s rfl)) ?_
      refine .pl rfl (fun _ _ W Γ => ev_call2 (Γ.f _) run_qNear (by rw [(show _ = Value.int .i64 (m : Int) from (Γ.k (d := 45) 1 rfl))]; exact qNear_val W _ (X) (nearQ X m) m HM.out.1 (QB.mono HQX.out (by omega)) rfl (Γ.w (d := 44) 0 rfl))) ?_
      refine .pl rfl (fun _ _ W Γ => ev_ldQ (Γ.s rfl) (Γ.l 3 rfl)) ?_
      refine .pl rfl (fun _ _ W Γ => ev_call2 (Γ.f _) run_qSub (qSub_val W _ _ (nearQ X m) (X) (QB.mono HNX.out (by omega)) (QB.mono HQX.out (by omega)) (TB.out.mono Γ.be) (Γ.w (d := 46) 2 rfl) (Γ.w (d := 47) 3 rfl))) ?_
      refine .pl rfl (fun _ _ W Γ => ev_call1 (Γ.f _) run_qAbs (qAbs_val W _ ((nearQ X m) - X) (Γ.w (d := 48) 4 rfl))) ?_
      refine .al 0 rfl rfl (fun _ _ => ev_alQ) ?_
      refine .sn 0 rfl rfl (fun _ _ W Γ => ev_stQ (Γ.q 0 rfl) (Γ.un 0 rfl) (Γ.w 5 rfl)) ?_
      exact .nil
    clear J; intro K12 hK12; simp only [fx]; intro β12 f12 W12 J; refine hK12.out _ _ ?_; clear hK12
    refine region_c [52, 53, 54, 55, 56, 51, 57, 58, 17, 0, 18] [.that (fracS X), .is (.int .i64 (m : Int)), .that (fracS (nearQ X m)), .that (fracS S), .two (.that (fracS ((nearQ X m) / S))) (.is (.bool true)), .two (.that (fracS ((nearQ X m) / S))) (.is (.bool true)), .that (fracS ((nearQ X m) / S)), .is (.bool true), .any, .any, .is (.bool true)] [] [⟨.frac, 8, 9, .that (fracS ((nearQ X m) / S)), .agg #[.bool false, .int .u64 0, .slice none 0 0, .int .u64 0, .slice none 0 0]⟩] [] J ?_ ?_
    · refine .pl rfl (fun _ _ W Γ => ev_ldQ (Γ.s rfl) (Γ.l 3 rfl)) ?_
      refine .pl rfl (fun _ _ W Γ => ev_move _ (Γ.s rfl)) ?_
      refine .pl rfl (fun _ _ W Γ => ev_call2 (Γ.f _) run_qNear (by rw [(show _ = Value.int .i64 (m : Int) from (Γ.k (d := 52) 1 rfl))]; exact qNear_val W _ (X) (nearQ X m) m HM.out.1 (QB.mono HQX.out (by omega)) rfl (Γ.w (d := 51) 0 rfl))) ?_
      refine .pl rfl (fun _ _ W Γ => ev_ldQ (Γ.s rfl) (Γ.l 6 rfl)) ?_
      refine .pl rfl (fun _ _ W Γ => ev_call2 (Γ.f _) run_qDiv (qDiv_val W _ _ (nearQ X m) S (QB.mono HNX.out (by omega)) (QB.mono HQS.out (by omega)) HS0.out (TB.out.mono Γ.be) (Γ.w (d := 53) 2 rfl) (Γ.w (d := 54) 3 rfl))) ?_
      refine .pl rfl (fun _ _ W Γ => ev_moveM (Γ.w 4 rfl)) ?_
      refine .pl rfl (fun _ _ W Γ => ev_ex20 (Γ.w 5 rfl)) ?_
      refine .pl rfl (fun _ _ W Γ => ev_ex21 (Γ.w 5 rfl)) ?_
      refine .al 0 rfl rfl (fun _ _ => ev_alQ) ?_
      refine .sn 0 rfl rfl (fun _ _ W Γ => ev_stQ (Γ.q 0 rfl) (Γ.un 0 rfl) (Γ.w 6 rfl)) ?_
      refine .pl rfl (fun _ _ W Γ => ev_assign _ (Γ.k 7 rfl)) ?_
      exact .nil
    clear J; intro K13 hK13; simp only [fx]; intro β13 f13 W13 J; refine hK13.out _ _ ?_; clear hK13
    refine region_c [59, 60, 61, 62, 63, 64, 65, 66, 67, 68, 69, 70, 71, 72, 73, 74, 75, 76, 77, 78, 79, 80, 81, 82, 83, 84, 85, 86, 87, 88, 89, 90, 91, 92, 93, 94, 95, 96, 97, 98, 99, 100, 101, 102, 103, 104, 105, 106, 107, 108, 109, 110, 111, 112, 113, 114, 115, 116, 117, 118, 119, 120, 121, 122, 123, 124, 125, 126, 127, 128, 129, 9] [.is (.bool true), .is (.bool true), .that (fracS X), .that (fracS Z), .that (fracS (X + Z)), .that (fracS Y), .that (fracS Z), .that (fracS (Y + Z)), .is (.int .i64 (qcmp (X + Z) (Y + Z))), .is (.bool true), .is (.bool true), .is (.bool true), .that (fracS X), .that (fracS Z), .that (fracS (qabs Z)), .that (fracS (X * (qabs Z))), .that (fracS Y), .that (fracS Z), .that (fracS (qabs Z)), .that (fracS (Y * (qabs Z))), .is (.int .i64 (qcmp (X * (qabs Z)) (Y * (qabs Z)))), .is (.bool true), .is (.bool true), .is (.bool true), .that (fracS X), .is (.int .i64 (m : Int)), .that (fracS (nearQ X m)), .that (fracS Y), .is (.int .i64 (m : Int)), .that (fracS (nearQ Y m)), .is (.int .i64 (qcmp (nearQ X m) (nearQ Y m))), .is (.bool true), .is (.bool true), .is (.bool true), .that (fracS (qabs ((nearQ X m) - X))), .that (fracS (qabs ((nearQ X m) - X))), .that (fracS ((qabs ((nearQ X m) - X)) + (qabs ((nearQ X m) - X)))), .that (fracS S), .is (.int .i64 (qcmp ((qabs ((nearQ X m) - X)) + (qabs ((nearQ X m) - X))) (S))), .is (.bool true), .is (.bool true), .is (.bool true), .that (fracS ((nearQ X m) / S)), .num 1, .is (.string ⟨#[49]⟩), .is (.bool true), .is (.bool true), .is (.bool true), .that (fracS X), .is (.int .i64 (m : Int)), .that (fracS (nearQ X m)), .is (.int .i64 (m : Int)), .that (fracS (nearQ X m)), .that (fracS X), .is (.int .i64 (m : Int)), .that (fracS (nearQ X m)), .is (.int .i64 0), .is (.bool true), .is (.bool true), .is (.bool true), .that (fracS X), .that (fracS (-X)), .is (.int .i64 (m : Int)), .that (fracS (-(nearQ X m))), .that (fracS X), .is (.int .i64 (m : Int)), .that (fracS (nearQ X m)), .that (fracS (-(nearQ X m))), .is (.int .i64 0), .is (.bool true), .is (.bool true), .is (.bool true)] [] [] [] J ?_ ?_
    · refine .pl rfl (fun _ _ W Γ => ev_call0 (Γ.f _) run_known3 (known3_gives W mx (wcell Γ.be MX.out) (TB.out.mono Γ.be))) ?_
      refine .pl rfl (fun _ _ W Γ => ev_move _ (Γ.k 0 rfl)) ?_
      refine .gu rfl rfl rfl rfl (fun _ _ W Γ => ev_ldQ (Γ.s rfl) (Γ.l 3 rfl)) ?_
      refine .gu rfl rfl rfl rfl (fun _ _ W Γ => ev_ldQ (Γ.s rfl) (Γ.l 5 rfl)) ?_
      refine .gu rfl rfl rfl rfl (fun _ _ W Γ => ev_call2 (Γ.f _) run_qAdd (qAdd_val W _ _ (X) (Z) (QB.mono HQX.out (by omega)) (QB.mono HQZ.out (by omega)) (TB.out.mono Γ.be) (Γ.w (d := 60) 2 rfl) (Γ.w (d := 61) 3 rfl))) ?_
      refine .gu rfl rfl rfl rfl (fun _ _ W Γ => ev_ldQ (Γ.s rfl) (Γ.l 4 rfl)) ?_
      refine .gu rfl rfl rfl rfl (fun _ _ W Γ => ev_ldQ (Γ.s rfl) (Γ.l 5 rfl)) ?_
      refine .gu rfl rfl rfl rfl (fun _ _ W Γ => ev_call2 (Γ.f _) run_qAdd (qAdd_val W _ _ (Y) (Z) (QB.mono HQY.out (by omega)) (QB.mono HQZ.out (by omega)) (TB.out.mono Γ.be) (Γ.w (d := 63) 5 rfl) (Γ.w (d := 64) 6 rfl))) ?_
      refine .gu rfl rfl rfl rfl (fun _ _ W Γ => ev_call2 (Γ.f _) run_qCmp (qCmp_val W _ _ (X + Z) (Y + Z) (QB.mono (QB.add HQX.out HQZ.out) (by omega)) (QB.mono (QB.add HQY.out HQZ.out) (by omega)) _ rfl (Γ.w (d := 62) 4 rfl) (Γ.w (d := 65) 7 rfl))) ?_
      refine .gu rfl rfl rfl rfl (fun _ _ W Γ => ev_leq (Γ.k 8 rfl) (Γ.c _) HL1.out) ?_
      refine .pl rfl (fun _ _ W Γ => ev_pick (Γ.k 1 rfl) (Γ.k 9 rfl)) ?_
      refine .pl rfl (fun _ _ W Γ => ev_move _ (Γ.k 10 rfl)) ?_
      refine .gu rfl rfl rfl rfl (fun _ _ W Γ => ev_ldQ (Γ.s rfl) (Γ.l 3 rfl)) ?_
      refine .gu rfl rfl rfl rfl (fun _ _ W Γ => ev_ldQ (Γ.s rfl) (Γ.l 5 rfl)) ?_
      refine .gu rfl rfl rfl rfl (fun _ _ W Γ => ev_call1 (Γ.f _) run_qAbs (qAbs_val W _ (Z) (Γ.w (d := 71) 13 rfl))) ?_
      refine .gu rfl rfl rfl rfl (fun _ _ W Γ => ev_call2 (Γ.f _) run_qMul (qMul_val W _ _ (X) (qabs Z) (QB.mono HQX.out (by omega)) (QB.mono (QB.abs HQZ.out) (by omega)) (TB.out.mono Γ.be) (Γ.w (d := 70) 12 rfl) (Γ.w (d := 72) 14 rfl))) ?_
      refine .gu rfl rfl rfl rfl (fun _ _ W Γ => ev_ldQ (Γ.s rfl) (Γ.l 4 rfl)) ?_
      refine .gu rfl rfl rfl rfl (fun _ _ W Γ => ev_ldQ (Γ.s rfl) (Γ.l 5 rfl)) ?_
      refine .gu rfl rfl rfl rfl (fun _ _ W Γ => ev_call1 (Γ.f _) run_qAbs (qAbs_val W _ (Z) (Γ.w (d := 75) 17 rfl))) ?_
      refine .gu rfl rfl rfl rfl (fun _ _ W Γ => ev_call2 (Γ.f _) run_qMul (qMul_val W _ _ (Y) (qabs Z) (QB.mono HQY.out (by omega)) (QB.mono (QB.abs HQZ.out) (by omega)) (TB.out.mono Γ.be) (Γ.w (d := 74) 16 rfl) (Γ.w (d := 76) 18 rfl))) ?_
      refine .gu rfl rfl rfl rfl (fun _ _ W Γ => ev_call2 (Γ.f _) run_qCmp (qCmp_val W _ _ (X * (qabs Z)) (Y * (qabs Z)) (QB.mono (QB.mul HQX.out (QB.abs HQZ.out)) (by omega)) (QB.mono (QB.mul HQY.out (QB.abs HQZ.out)) (by omega)) _ rfl (Γ.w (d := 73) 15 rfl) (Γ.w (d := 77) 19 rfl))) ?_
      refine .gu rfl rfl rfl rfl (fun _ _ W Γ => ev_leq (Γ.k 20 rfl) (Γ.c _) HL2.out) ?_
      refine .pl rfl (fun _ _ W Γ => ev_pick (Γ.k 11 rfl) (Γ.k 21 rfl)) ?_
      refine .pl rfl (fun _ _ W Γ => ev_move _ (Γ.k 22 rfl)) ?_
      refine .gu rfl rfl rfl rfl (fun _ _ W Γ => ev_ldQ (Γ.s rfl) (Γ.l 3 rfl)) ?_
      refine .gu rfl rfl rfl rfl (fun _ _ W Γ => ev_move _ (Γ.s rfl)) ?_
      refine .gu rfl rfl rfl rfl (fun _ _ W Γ => ev_call2 (Γ.f _) run_qNear (by rw [(show _ = Value.int .i64 (m : Int) from (Γ.k (d := 83) 25 rfl))]; exact qNear_val W _ (X) (nearQ X m) m HM.out.1 (QB.mono HQX.out (by omega)) rfl (Γ.w (d := 82) 24 rfl))) ?_
      refine .gu rfl rfl rfl rfl (fun _ _ W Γ => ev_ldQ (Γ.s rfl) (Γ.l 4 rfl)) ?_
      refine .gu rfl rfl rfl rfl (fun _ _ W Γ => ev_move _ (Γ.s rfl)) ?_
      refine .gu rfl rfl rfl rfl (fun _ _ W Γ => ev_call2 (Γ.f _) run_qNear (by rw [(show _ = Value.int .i64 (m : Int) from (Γ.k (d := 86) 28 rfl))]; exact qNear_val W _ (Y) (nearQ Y m) m HM.out.1 (QB.mono HQY.out (by omega)) rfl (Γ.w (d := 85) 27 rfl))) ?_
      refine .gu rfl rfl rfl rfl (fun _ _ W Γ => ev_call2 (Γ.f _) run_qCmp (qCmp_val W _ _ (nearQ X m) (nearQ Y m) (QB.mono HNX.out (by omega)) (QB.mono HNY.out (by omega)) _ rfl (Γ.w (d := 84) 26 rfl) (Γ.w (d := 87) 29 rfl))) ?_
      refine .gu rfl rfl rfl rfl (fun _ _ W Γ => ev_leq (Γ.k 30 rfl) (Γ.c _) HL3.out) ?_
      refine .pl rfl (fun _ _ W Γ => ev_pick (Γ.k 23 rfl) (Γ.k 31 rfl)) ?_
      refine .pl rfl (fun _ _ W Γ => ev_move _ (Γ.k 32 rfl)) ?_
      refine .gu rfl rfl rfl rfl (fun _ _ W Γ => ev_ldQ (Γ.s rfl) (Γ.l 7 rfl)) ?_
      refine .gu rfl rfl rfl rfl (fun _ _ W Γ => ev_ldQ (Γ.s rfl) (Γ.l 7 rfl)) ?_
      refine .gu rfl rfl rfl rfl (fun _ _ W Γ => ev_call2 (Γ.f _) run_qAdd (qAdd_val W _ _ (qabs ((nearQ X m) - X)) (qabs ((nearQ X m) - X)) (QB.mono (QB.abs (QB.sub HNX.out HQX.out)) (by omega)) (QB.mono (QB.abs (QB.sub HNX.out HQX.out)) (by omega)) (TB.out.mono Γ.be) (Γ.w (d := 92) 34 rfl) (Γ.w (d := 93) 35 rfl))) ?_
      refine .gu rfl rfl rfl rfl (fun _ _ W Γ => ev_ldQ (Γ.s rfl) (Γ.l 6 rfl)) ?_
      refine .gu rfl rfl rfl rfl (fun _ _ W Γ => ev_call2 (Γ.f _) run_qCmp (qCmp_val W _ _ ((qabs ((nearQ X m) - X)) + (qabs ((nearQ X m) - X))) (S) (QB.mono (QB.add (QB.abs (QB.sub HNX.out HQX.out)) (QB.abs (QB.sub HNX.out HQX.out))) (by omega)) (QB.mono HQS.out (by omega)) _ rfl (Γ.w (d := 94) 36 rfl) (Γ.w (d := 95) 37 rfl))) ?_
      refine .gu rfl rfl rfl rfl (fun _ _ W Γ => ev_leq (Γ.k 38 rfl) (Γ.c _) HL4.out) ?_
      refine .pl rfl (fun _ _ W Γ => ev_pick (Γ.k 33 rfl) (Γ.k 39 rfl)) ?_
      refine .pl rfl (fun _ _ W Γ => ev_move _ (Γ.k 40 rfl)) ?_
      refine .gu rfl rfl rfl rfl (fun _ _ W Γ => ev_ldQ (Γ.s rfl) (Γ.l 8 rfl)) ?_
      refine .gu rfl rfl rfl rfl (fun _ _ W Γ => ev_call1 (Γ.f _) run_qDen (qDen_val W _ ((nearQ X m) / S) 1 HK1.out (Γ.w (d := 100) 42 rfl))) ?_
      refine .gu rfl rfl rfl rfl (fun _ _ W Γ => ev_call1 (Γ.f _) run_nText (nText_one W _ (Γ.w (d := 101) 43 rfl))) ?_
      refine .gu rfl rfl rfl rfl (fun _ E W Γ => by
        have e1 : E (.tmp 102) = .string ⟨#[49]⟩ := (Γ.k 44 rfl)
        have hc := Γ.c
        exact Does.value (w' := W) (by go_simp <;> first | rfl | (rw [IntKind.wrap_i64]; omega)) ⟨rfl, Below.refl _ _⟩) ?_
      refine .pl rfl (fun _ _ W Γ => ev_pick (Γ.k 41 rfl) (Γ.k 45 rfl)) ?_
      refine .pl rfl (fun _ _ W Γ => ev_move _ (Γ.k 46 rfl)) ?_
      refine .gu rfl rfl rfl rfl (fun _ _ W Γ => ev_ldQ (Γ.s rfl) (Γ.l 3 rfl)) ?_
      refine .gu rfl rfl rfl rfl (fun _ _ W Γ => ev_move _ (Γ.s rfl)) ?_
      refine .gu rfl rfl rfl rfl (fun _ _ W Γ => ev_call2 (Γ.f _) run_qNear (by rw [(show _ = Value.int .i64 (m : Int) from (Γ.k (d := 107) 49 rfl))]; exact qNear_val W _ (X) (nearQ X m) m HM.out.1 (QB.mono HQX.out (by omega)) rfl (Γ.w (d := 106) 48 rfl))) ?_
      refine .gu rfl rfl rfl rfl (fun _ _ W Γ => ev_move _ (Γ.s rfl)) ?_
      refine .gu rfl rfl rfl rfl (fun _ _ W Γ => ev_call2 (Γ.f _) run_qNear (by rw [(show _ = Value.int .i64 (m : Int) from (Γ.k (d := 109) 51 rfl))]; exact qNear_val W _ (nearQ X m) (nearQ X m) m HM.out.1 (QB.mono HNX.out (by omega)) (near_idem _ _) (Γ.w (d := 108) 50 rfl))) ?_
      refine .gu rfl rfl rfl rfl (fun _ _ W Γ => ev_ldQ (Γ.s rfl) (Γ.l 3 rfl)) ?_
      refine .gu rfl rfl rfl rfl (fun _ _ W Γ => ev_move _ (Γ.s rfl)) ?_
      refine .gu rfl rfl rfl rfl (fun _ _ W Γ => ev_call2 (Γ.f _) run_qNear (by rw [(show _ = Value.int .i64 (m : Int) from (Γ.k (d := 112) 54 rfl))]; exact qNear_val W _ (X) (nearQ X m) m HM.out.1 (QB.mono HQX.out (by omega)) rfl (Γ.w (d := 111) 53 rfl))) ?_
      refine .gu rfl rfl rfl rfl (fun _ _ W Γ => ev_call2 (Γ.f _) run_qCmp (qCmp_val W _ _ (nearQ X m) (nearQ X m) (QB.mono HNX.out (by omega)) (QB.mono HNX.out (by omega)) 0 (qcmp_self _) (Γ.w (d := 110) 52 rfl) (Γ.w (d := 113) 55 rfl))) ?_
      refine .gu rfl rfl rfl rfl (fun _ E W Γ => by
        have e1 : E (.tmp 114) = .int .i64 0 := (Γ.k 56 rfl)
        have hc := Γ.c
        exact Does.value (w' := W) (by go_simp <;> first | rfl | (rw [IntKind.wrap_i64]; omega)) ⟨rfl, Below.refl _ _⟩) ?_
      refine .pl rfl (fun _ _ W Γ => ev_pick (Γ.k 47 rfl) (Γ.k 57 rfl)) ?_
      refine .pl rfl (fun _ _ W Γ => ev_move _ (Γ.k 58 rfl)) ?_
      refine .gu rfl rfl rfl rfl (fun _ _ W Γ => ev_ldQ (Γ.s rfl) (Γ.l 3 rfl)) ?_
      refine .gu rfl rfl rfl rfl (fun _ _ W Γ => ev_call1 (Γ.f _) run_qNeg (qNeg_val W _ (X) (Γ.w (d := 118) 60 rfl))) ?_
      refine .gu rfl rfl rfl rfl (fun _ _ W Γ => ev_move _ (Γ.s rfl)) ?_
      refine .gu rfl rfl rfl rfl (fun _ _ W Γ => ev_call2 (Γ.f _) run_qNear (by rw [(show _ = Value.int .i64 (m : Int) from (Γ.k (d := 120) 62 rfl))]; exact qNear_val W _ (-X) (-(nearQ X m)) m HM.out.1 (QB.mono (QB.ng HQX.out) (by omega)) (near_neg _ _) (Γ.w (d := 119) 61 rfl))) ?_
      refine .gu rfl rfl rfl rfl (fun _ _ W Γ => ev_ldQ (Γ.s rfl) (Γ.l 3 rfl)) ?_
      refine .gu rfl rfl rfl rfl (fun _ _ W Γ => ev_move _ (Γ.s rfl)) ?_
      refine .gu rfl rfl rfl rfl (fun _ _ W Γ => ev_call2 (Γ.f _) run_qNear (by rw [(show _ = Value.int .i64 (m : Int) from (Γ.k (d := 123) 65 rfl))]; exact qNear_val W _ (X) (nearQ X m) m HM.out.1 (QB.mono HQX.out (by omega)) rfl (Γ.w (d := 122) 64 rfl))) ?_
      refine .gu rfl rfl rfl rfl (fun _ _ W Γ => ev_call1 (Γ.f _) run_qNeg (qNeg_val W _ (nearQ X m) (Γ.w (d := 124) 66 rfl))) ?_
      refine .gu rfl rfl rfl rfl (fun _ _ W Γ => ev_call2 (Γ.f _) run_qCmp (qCmp_val W _ _ (-(nearQ X m)) (-(nearQ X m)) (QB.mono (QB.ng HNX.out) (by omega)) (QB.mono (QB.ng HNX.out) (by omega)) 0 (qcmp_self _) (Γ.w (d := 121) 63 rfl) (Γ.w (d := 125) 67 rfl))) ?_
      refine .gu rfl rfl rfl rfl (fun _ E W Γ => by
        have e1 : E (.tmp 126) = .int .i64 0 := (Γ.k 68 rfl)
        have hc := Γ.c
        exact Does.value (w' := W) (by go_simp <;> first | rfl | (rw [IntKind.wrap_i64]; omega)) ⟨rfl, Below.refl _ _⟩) ?_
      refine .pl rfl (fun _ _ W Γ => ev_pick (Γ.k 59 rfl) (Γ.k 69 rfl)) ?_
      refine .pl rfl (fun _ _ W Γ => ev_assign _ (Γ.k 70 rfl)) ?_
      exact .nil
    clear J; intro K14 hK14; simp only [fx]; intro _ f14 W14 J; refine hK14.out _ _ ?_; clear hK14
    refine wp_ret ?_
    exact bodyPost_ret (v := .bool true) (by simp [results, Tryz.results5, go_sem]) rfl ⟨_, rfl, rfl, J.out.be⟩
  · skip
    have HG : Hid (decide (0 < qcmp (X) (Y)) = true) := Lib.hid (decide_eq_true (Int.not_le.1 fun h => hxy (qcmp_le.1 h)))
    have huv : Y ≤ X := Rat.le_of_lt (Rat.not_le.1 hxy)
    have HL1 : Hid (decide (qcmp (Y + Z) (X + Z) ≤ 0) = true) := Lib.hid (decide_eq_true (qcmp_le.2 (Rat.add_le_add_right.2 huv)))
    have HL2 : Hid (decide (qcmp (Y * (qabs Z)) (X * (qabs Z)) ≤ 0) = true) := Lib.hid (decide_eq_true (qcmp_le.2 (Rat.mul_le_mul_of_nonneg_right huv (qabs_nonneg Z))))
    have HL3 : Hid (decide (qcmp (nearQ Y m) (nearQ X m) ≤ 0) = true) := Lib.hid (decide_eq_true (qcmp_le.2 (near_mono m huv)))
    have HL4 : Hid (decide (qcmp ((qabs ((nearQ Y m) - Y)) + (qabs ((nearQ Y m) - Y))) (S) ≤ 0) = true) := Lib.hid (decide_eq_true (qcmp_le.2 (by rw [← HS.out]; exact near_far Y m)))
    have HK1 : Hid (((nearQ Y m) / S).den = 1) := Lib.hid (by rw [← HS.out]; exact near_steps Y m)
    clear huv hxy
    refine region_c [28, 29, 30, 31] [.that (fracS X), .that (fracS Y), .is (.int .i64 (qcmp (X) (Y))), .is (.bool true)] [] [] [] J ?_ ?_
    · refine .pl rfl (fun _ _ W Γ => ev_ldQ (Γ.s rfl) (Γ.l 3 rfl)) ?_
      refine .pl rfl (fun _ _ W Γ => ev_ldQ (Γ.s rfl) (Γ.l 4 rfl)) ?_
      refine .pl rfl (fun _ _ W Γ => ev_call2 (Γ.f _) run_qCmp (qCmp_val W _ _ (X) (Y) (QB.mono HQX.out (by omega)) (QB.mono HQY.out (by omega)) _ rfl (Γ.w (d := 27) 0 rfl) (Γ.w (d := 28) 1 rfl))) ?_
      refine .pl rfl (fun _ _ W Γ => ev_gtr (Γ.k 2 rfl) (Γ.c _) HG.out) ?_
      exact .nil
    clear J; intro K15 hK15; simp only [fx]; intro _ f15 W15 J; refine hK15.out _ _ ?_; clear hK15
    refine wp_cond_true rfl ?_
    refine region_f [32, 33, 0, 0] [.that (fracS Y), .that (fracS X), .any, .any] [none, none, none, some (2, .that (fracS Y)), some (3, .that (fracS X))] [] [] J ?_ ?_
    · refine .pl rfl (fun _ _ W Γ => ev_ldQ (Γ.s rfl) (Γ.u 4 rfl rfl).1) ?_
      refine .pl rfl (fun _ _ W Γ => ev_ldQ (Γ.s rfl) (Γ.u 3 rfl rfl).1) ?_
      refine .st 3 rfl rfl rfl (fun _ _ W Γ => ev_stQ (Γ.s rfl) (Γ.u 3 rfl rfl) (Γ.w 0 rfl)) ?_
      refine .st 4 rfl rfl rfl (fun _ _ W Γ => ev_stQ (Γ.s rfl) (Γ.u 4 rfl rfl) (Γ.w 1 rfl)) ?_
      exact .nil
    clear J; simp only [fx]; intro _ f16 W16 J
    refine hK8.out _ _ ?_; clear hK8
    refine region_c [34, 35, 13] [.is (.int .i64 n4), .is (.int .i64 (m : Int)), .is (.int .i64 (m : Int))] [] [] [] J ?_ ?_
    · refine .pl rfl (fun _ _ W Γ => ev_move _ (Γ.s rfl)) ?_
      refine .pl rfl (fun _ _ W Γ => ev_call2 (Γ.f _) run_Pick (by rw [Γ.c, (show _ = Value.int .i64 n4 from (Γ.k (d := 33) 0 rfl))]; exact show Calls Tryz.prog 31 #[.int .i64 n4, .int .i64 30] W (Gives W (.is (.int .i64 (m : Int)))) from HM.out.2 ▸ pick_gives n4 30 W HR4.out.1 HR4.out.2 (by omega) (by omega))) ?_
      refine .pl rfl (fun _ _ W Γ => ev_assign _ (Γ.k 1 rfl)) ?_
      exact .nil
    clear J; intro K17 hK17; simp only [fx]; intro _ f17 W17 J; refine hK17.out _ _ ?_; clear hK17
    refine region_c [37, 38, 39, 40, 41, 42, 36, 43, 44, 14, 0, 15] [.int 1, .num 1, .is (.int .i64 (m : Int)), .num (1 * 2 ^ m), .int ((1 * 2 ^ m : Nat) : Int), .two (.that (fracS S)) (.is (.bool true)), .two (.that (fracS S)) (.is (.bool true)), .that (fracS S), .is (.bool true), .any, .any, .is (.bool true)] [] [⟨.frac, 9, 10, .that (fracS S), .agg #[.bool false, .int .u64 0, .slice none 0 0, .int .u64 0, .slice none 0 0]⟩] [] J ?_ ?_
    · refine .pl rfl (fun _ _ W Γ => ev_call1 (Γ.f _) run_iOf (by rw [Γ.c]; exact iOf_gives 1 W (by decide) (by decide))) ?_
      refine .pl rfl (fun _ _ W Γ => ev_call1 (Γ.f _) run_Of (by rw [Γ.c]; exact of_gives 1 (by omega) W)) ?_
      refine .pl rfl (fun _ _ W Γ => ev_move _ (Γ.s rfl)) ?_
      refine .pl rfl (fun _ _ W Γ => ev_call2 (Γ.f _) run_nShift (by rw [(show _ = Value.int .i64 (m : Int) from (Γ.k (d := 38) 2 rfl))]; exact nShift_gives W _ 1 m (by rw [ds_one (by decide)]; omega) (by have := HM.out.1; omega) (Γ.w (d := 37) 1 rfl))) ?_
      refine .pl rfl (fun _ _ W Γ => ev_call2 (Γ.f _) run_iFrom (by rw [Γ.c]; exact iFrom_val W _ (1 * 2 ^ m) (Γ.w (d := 39) 3 rfl))) ?_
      refine .pl rfl (fun _ _ W Γ => ev_call2 (Γ.f _) run_qMake (qMake_val W _ _ 1 ((1 * 2 ^ m : Nat) : Int) S HMS.out HMS0.out.1 HMS0.out.2.1 HMS0.out.2.2 (TB.out.mono Γ.be) (Γ.w (d := 36) 0 rfl) (Γ.w (d := 40) 4 rfl))) ?_
      refine .pl rfl (fun _ _ W Γ => ev_moveM (Γ.w 5 rfl)) ?_
      refine .pl rfl (fun _ _ W Γ => ev_ex20 (Γ.w 6 rfl)) ?_
      refine .pl rfl (fun _ _ W Γ => ev_ex21 (Γ.w 6 rfl)) ?_
      refine .al 0 rfl rfl (fun _ _ => ev_alQ) ?_
      refine .sn 0 rfl rfl (fun _ _ W Γ => ev_stQ (Γ.q 0 rfl) (Γ.un 0 rfl) (Γ.w 7 rfl)) ?_
      refine .pl rfl (fun _ _ W Γ => ev_assign _ (Γ.k 8 rfl)) ?_
      exact .nil
    clear J; intro K18 hK18; simp only [fx]; intro β18 f18 W18 J; refine hK18.out _ _ ?_; clear hK18
    refine region_c [45, 46, 47, 48, 49, 50, 16, 0] [.that (fracS Y), .is (.int .i64 (m : Int)), .that (fracS (nearQ Y m)), .that (fracS Y), .that (fracS ((nearQ Y m) - Y)), .that (fracS (qabs ((nearQ Y m) - Y))), .any, .any] [] [⟨.frac, 6, 7, .that (fracS (qabs ((nearQ Y m) - Y))), .agg #[.bool false, .int .u64 0, .slice none 0 0, .int .u64 0, .slice none 0 0]⟩] [] J ?_ ?_
    · refine .pl rfl (fun _ _ W Γ => ev_ldQ (Γ.s rfl) (Γ.l 3 rfl)) ?_
      refine .pl rfl (fun _ _ W Γ => ev_move _ (Γ.s rfl)) ?_
      refine .pl rfl (fun _ _ W Γ => ev_call2 (Γ.f _) run_qNear (by rw [(show _ = Value.int .i64 (m : Int) from (Γ.k (d := 45) 1 rfl))]; exact qNear_val W _ (Y) (nearQ Y m) m HM.out.1 (QB.mono HQY.out (by omega)) rfl (Γ.w (d := 44) 0 rfl))) ?_
      refine .pl rfl (fun _ _ W Γ => ev_ldQ (Γ.s rfl) (Γ.l 3 rfl)) ?_
      refine .pl rfl (fun _ _ W Γ => ev_call2 (Γ.f _) run_qSub (qSub_val W _ _ (nearQ Y m) (Y) (QB.mono HNY.out (by omega)) (QB.mono HQY.out (by omega)) (TB.out.mono Γ.be) (Γ.w (d := 46) 2 rfl) (Γ.w (d := 47) 3 rfl))) ?_
      refine .pl rfl (fun _ _ W Γ => ev_call1 (Γ.f _) run_qAbs (qAbs_val W _ ((nearQ Y m) - Y) (Γ.w (d := 48) 4 rfl))) ?_
      refine .al 0 rfl rfl (fun _ _ => ev_alQ) ?_
      refine .sn 0 rfl rfl (fun _ _ W Γ => ev_stQ (Γ.q 0 rfl) (Γ.un 0 rfl) (Γ.w 5 rfl)) ?_
      exact .nil
    clear J; intro K19 hK19; simp only [fx]; intro β19 f19 W19 J; refine hK19.out _ _ ?_; clear hK19
    refine region_c [52, 53, 54, 55, 56, 51, 57, 58, 17, 0, 18] [.that (fracS Y), .is (.int .i64 (m : Int)), .that (fracS (nearQ Y m)), .that (fracS S), .two (.that (fracS ((nearQ Y m) / S))) (.is (.bool true)), .two (.that (fracS ((nearQ Y m) / S))) (.is (.bool true)), .that (fracS ((nearQ Y m) / S)), .is (.bool true), .any, .any, .is (.bool true)] [] [⟨.frac, 8, 9, .that (fracS ((nearQ Y m) / S)), .agg #[.bool false, .int .u64 0, .slice none 0 0, .int .u64 0, .slice none 0 0]⟩] [] J ?_ ?_
    · refine .pl rfl (fun _ _ W Γ => ev_ldQ (Γ.s rfl) (Γ.l 3 rfl)) ?_
      refine .pl rfl (fun _ _ W Γ => ev_move _ (Γ.s rfl)) ?_
      refine .pl rfl (fun _ _ W Γ => ev_call2 (Γ.f _) run_qNear (by rw [(show _ = Value.int .i64 (m : Int) from (Γ.k (d := 52) 1 rfl))]; exact qNear_val W _ (Y) (nearQ Y m) m HM.out.1 (QB.mono HQY.out (by omega)) rfl (Γ.w (d := 51) 0 rfl))) ?_
      refine .pl rfl (fun _ _ W Γ => ev_ldQ (Γ.s rfl) (Γ.l 6 rfl)) ?_
      refine .pl rfl (fun _ _ W Γ => ev_call2 (Γ.f _) run_qDiv (qDiv_val W _ _ (nearQ Y m) S (QB.mono HNY.out (by omega)) (QB.mono HQS.out (by omega)) HS0.out (TB.out.mono Γ.be) (Γ.w (d := 53) 2 rfl) (Γ.w (d := 54) 3 rfl))) ?_
      refine .pl rfl (fun _ _ W Γ => ev_moveM (Γ.w 4 rfl)) ?_
      refine .pl rfl (fun _ _ W Γ => ev_ex20 (Γ.w 5 rfl)) ?_
      refine .pl rfl (fun _ _ W Γ => ev_ex21 (Γ.w 5 rfl)) ?_
      refine .al 0 rfl rfl (fun _ _ => ev_alQ) ?_
      refine .sn 0 rfl rfl (fun _ _ W Γ => ev_stQ (Γ.q 0 rfl) (Γ.un 0 rfl) (Γ.w 6 rfl)) ?_
      refine .pl rfl (fun _ _ W Γ => ev_assign _ (Γ.k 7 rfl)) ?_
      exact .nil
    clear J; intro K20 hK20; simp only [fx]; intro β20 f20 W20 J; refine hK20.out _ _ ?_; clear hK20
    refine region_c [59, 60, 61, 62, 63, 64, 65, 66, 67, 68, 69, 70, 71, 72, 73, 74, 75, 76, 77, 78, 79, 80, 81, 82, 83, 84, 85, 86, 87, 88, 89, 90, 91, 92, 93, 94, 95, 96, 97, 98, 99, 100, 101, 102, 103, 104, 105, 106, 107, 108, 109, 110, 111, 112, 113, 114, 115, 116, 117, 118, 119, 120, 121, 122, 123, 124, 125, 126, 127, 128, 129, 9] [.is (.bool true), .is (.bool true), .that (fracS Y), .that (fracS Z), .that (fracS (Y + Z)), .that (fracS X), .that (fracS Z), .that (fracS (X + Z)), .is (.int .i64 (qcmp (Y + Z) (X + Z))), .is (.bool true), .is (.bool true), .is (.bool true), .that (fracS Y), .that (fracS Z), .that (fracS (qabs Z)), .that (fracS (Y * (qabs Z))), .that (fracS X), .that (fracS Z), .that (fracS (qabs Z)), .that (fracS (X * (qabs Z))), .is (.int .i64 (qcmp (Y * (qabs Z)) (X * (qabs Z)))), .is (.bool true), .is (.bool true), .is (.bool true), .that (fracS Y), .is (.int .i64 (m : Int)), .that (fracS (nearQ Y m)), .that (fracS X), .is (.int .i64 (m : Int)), .that (fracS (nearQ X m)), .is (.int .i64 (qcmp (nearQ Y m) (nearQ X m))), .is (.bool true), .is (.bool true), .is (.bool true), .that (fracS (qabs ((nearQ Y m) - Y))), .that (fracS (qabs ((nearQ Y m) - Y))), .that (fracS ((qabs ((nearQ Y m) - Y)) + (qabs ((nearQ Y m) - Y)))), .that (fracS S), .is (.int .i64 (qcmp ((qabs ((nearQ Y m) - Y)) + (qabs ((nearQ Y m) - Y))) (S))), .is (.bool true), .is (.bool true), .is (.bool true), .that (fracS ((nearQ Y m) / S)), .num 1, .is (.string ⟨#[49]⟩), .is (.bool true), .is (.bool true), .is (.bool true), .that (fracS Y), .is (.int .i64 (m : Int)), .that (fracS (nearQ Y m)), .is (.int .i64 (m : Int)), .that (fracS (nearQ Y m)), .that (fracS Y), .is (.int .i64 (m : Int)), .that (fracS (nearQ Y m)), .is (.int .i64 0), .is (.bool true), .is (.bool true), .is (.bool true), .that (fracS Y), .that (fracS (-Y)), .is (.int .i64 (m : Int)), .that (fracS (-(nearQ Y m))), .that (fracS Y), .is (.int .i64 (m : Int)), .that (fracS (nearQ Y m)), .that (fracS (-(nearQ Y m))), .is (.int .i64 0), .is (.bool true), .is (.bool true), .is (.bool true)] [] [] [] J ?_ ?_
    · refine .pl rfl (fun _ _ W Γ => ev_call0 (Γ.f _) run_known3 (known3_gives W mx (wcell Γ.be MX.out) (TB.out.mono Γ.be))) ?_
      refine .pl rfl (fun _ _ W Γ => ev_move _ (Γ.k 0 rfl)) ?_
      refine .gu rfl rfl rfl rfl (fun _ _ W Γ => ev_ldQ (Γ.s rfl) (Γ.l 3 rfl)) ?_
      refine .gu rfl rfl rfl rfl (fun _ _ W Γ => ev_ldQ (Γ.s rfl) (Γ.l 5 rfl)) ?_
      refine .gu rfl rfl rfl rfl (fun _ _ W Γ => ev_call2 (Γ.f _) run_qAdd (qAdd_val W _ _ (Y) (Z) (QB.mono HQY.out (by omega)) (QB.mono HQZ.out (by omega)) (TB.out.mono Γ.be) (Γ.w (d := 60) 2 rfl) (Γ.w (d := 61) 3 rfl))) ?_
      refine .gu rfl rfl rfl rfl (fun _ _ W Γ => ev_ldQ (Γ.s rfl) (Γ.l 4 rfl)) ?_
      refine .gu rfl rfl rfl rfl (fun _ _ W Γ => ev_ldQ (Γ.s rfl) (Γ.l 5 rfl)) ?_
      refine .gu rfl rfl rfl rfl (fun _ _ W Γ => ev_call2 (Γ.f _) run_qAdd (qAdd_val W _ _ (X) (Z) (QB.mono HQX.out (by omega)) (QB.mono HQZ.out (by omega)) (TB.out.mono Γ.be) (Γ.w (d := 63) 5 rfl) (Γ.w (d := 64) 6 rfl))) ?_
      refine .gu rfl rfl rfl rfl (fun _ _ W Γ => ev_call2 (Γ.f _) run_qCmp (qCmp_val W _ _ (Y + Z) (X + Z) (QB.mono (QB.add HQY.out HQZ.out) (by omega)) (QB.mono (QB.add HQX.out HQZ.out) (by omega)) _ rfl (Γ.w (d := 62) 4 rfl) (Γ.w (d := 65) 7 rfl))) ?_
      refine .gu rfl rfl rfl rfl (fun _ _ W Γ => ev_leq (Γ.k 8 rfl) (Γ.c _) HL1.out) ?_
      refine .pl rfl (fun _ _ W Γ => ev_pick (Γ.k 1 rfl) (Γ.k 9 rfl)) ?_
      refine .pl rfl (fun _ _ W Γ => ev_move _ (Γ.k 10 rfl)) ?_
      refine .gu rfl rfl rfl rfl (fun _ _ W Γ => ev_ldQ (Γ.s rfl) (Γ.l 3 rfl)) ?_
      refine .gu rfl rfl rfl rfl (fun _ _ W Γ => ev_ldQ (Γ.s rfl) (Γ.l 5 rfl)) ?_
      refine .gu rfl rfl rfl rfl (fun _ _ W Γ => ev_call1 (Γ.f _) run_qAbs (qAbs_val W _ (Z) (Γ.w (d := 71) 13 rfl))) ?_
      refine .gu rfl rfl rfl rfl (fun _ _ W Γ => ev_call2 (Γ.f _) run_qMul (qMul_val W _ _ (Y) (qabs Z) (QB.mono HQY.out (by omega)) (QB.mono (QB.abs HQZ.out) (by omega)) (TB.out.mono Γ.be) (Γ.w (d := 70) 12 rfl) (Γ.w (d := 72) 14 rfl))) ?_
      refine .gu rfl rfl rfl rfl (fun _ _ W Γ => ev_ldQ (Γ.s rfl) (Γ.l 4 rfl)) ?_
      refine .gu rfl rfl rfl rfl (fun _ _ W Γ => ev_ldQ (Γ.s rfl) (Γ.l 5 rfl)) ?_
      refine .gu rfl rfl rfl rfl (fun _ _ W Γ => ev_call1 (Γ.f _) run_qAbs (qAbs_val W _ (Z) (Γ.w (d := 75) 17 rfl))) ?_
      refine .gu rfl rfl rfl rfl (fun _ _ W Γ => ev_call2 (Γ.f _) run_qMul (qMul_val W _ _ (X) (qabs Z) (QB.mono HQX.out (by omega)) (QB.mono (QB.abs HQZ.out) (by omega)) (TB.out.mono Γ.be) (Γ.w (d := 74) 16 rfl) (Γ.w (d := 76) 18 rfl))) ?_
      refine .gu rfl rfl rfl rfl (fun _ _ W Γ => ev_call2 (Γ.f _) run_qCmp (qCmp_val W _ _ (Y * (qabs Z)) (X * (qabs Z)) (QB.mono (QB.mul HQY.out (QB.abs HQZ.out)) (by omega)) (QB.mono (QB.mul HQX.out (QB.abs HQZ.out)) (by omega)) _ rfl (Γ.w (d := 73) 15 rfl) (Γ.w (d := 77) 19 rfl))) ?_
      refine .gu rfl rfl rfl rfl (fun _ _ W Γ => ev_leq (Γ.k 20 rfl) (Γ.c _) HL2.out) ?_
      refine .pl rfl (fun _ _ W Γ => ev_pick (Γ.k 11 rfl) (Γ.k 21 rfl)) ?_
      refine .pl rfl (fun _ _ W Γ => ev_move _ (Γ.k 22 rfl)) ?_
      refine .gu rfl rfl rfl rfl (fun _ _ W Γ => ev_ldQ (Γ.s rfl) (Γ.l 3 rfl)) ?_
      refine .gu rfl rfl rfl rfl (fun _ _ W Γ => ev_move _ (Γ.s rfl)) ?_
      refine .gu rfl rfl rfl rfl (fun _ _ W Γ => ev_call2 (Γ.f _) run_qNear (by rw [(show _ = Value.int .i64 (m : Int) from (Γ.k (d := 83) 25 rfl))]; exact qNear_val W _ (Y) (nearQ Y m) m HM.out.1 (QB.mono HQY.out (by omega)) rfl (Γ.w (d := 82) 24 rfl))) ?_
      refine .gu rfl rfl rfl rfl (fun _ _ W Γ => ev_ldQ (Γ.s rfl) (Γ.l 4 rfl)) ?_
      refine .gu rfl rfl rfl rfl (fun _ _ W Γ => ev_move _ (Γ.s rfl)) ?_
      refine .gu rfl rfl rfl rfl (fun _ _ W Γ => ev_call2 (Γ.f _) run_qNear (by rw [(show _ = Value.int .i64 (m : Int) from (Γ.k (d := 86) 28 rfl))]; exact qNear_val W _ (X) (nearQ X m) m HM.out.1 (QB.mono HQX.out (by omega)) rfl (Γ.w (d := 85) 27 rfl))) ?_
      refine .gu rfl rfl rfl rfl (fun _ _ W Γ => ev_call2 (Γ.f _) run_qCmp (qCmp_val W _ _ (nearQ Y m) (nearQ X m) (QB.mono HNY.out (by omega)) (QB.mono HNX.out (by omega)) _ rfl (Γ.w (d := 84) 26 rfl) (Γ.w (d := 87) 29 rfl))) ?_
      refine .gu rfl rfl rfl rfl (fun _ _ W Γ => ev_leq (Γ.k 30 rfl) (Γ.c _) HL3.out) ?_
      refine .pl rfl (fun _ _ W Γ => ev_pick (Γ.k 23 rfl) (Γ.k 31 rfl)) ?_
      refine .pl rfl (fun _ _ W Γ => ev_move _ (Γ.k 32 rfl)) ?_
      refine .gu rfl rfl rfl rfl (fun _ _ W Γ => ev_ldQ (Γ.s rfl) (Γ.l 7 rfl)) ?_
      refine .gu rfl rfl rfl rfl (fun _ _ W Γ => ev_ldQ (Γ.s rfl) (Γ.l 7 rfl)) ?_
      refine .gu rfl rfl rfl rfl (fun _ _ W Γ => ev_call2 (Γ.f _) run_qAdd (qAdd_val W _ _ (qabs ((nearQ Y m) - Y)) (qabs ((nearQ Y m) - Y)) (QB.mono (QB.abs (QB.sub HNY.out HQY.out)) (by omega)) (QB.mono (QB.abs (QB.sub HNY.out HQY.out)) (by omega)) (TB.out.mono Γ.be) (Γ.w (d := 92) 34 rfl) (Γ.w (d := 93) 35 rfl))) ?_
      refine .gu rfl rfl rfl rfl (fun _ _ W Γ => ev_ldQ (Γ.s rfl) (Γ.l 6 rfl)) ?_
      refine .gu rfl rfl rfl rfl (fun _ _ W Γ => ev_call2 (Γ.f _) run_qCmp (qCmp_val W _ _ ((qabs ((nearQ Y m) - Y)) + (qabs ((nearQ Y m) - Y))) (S) (QB.mono (QB.add (QB.abs (QB.sub HNY.out HQY.out)) (QB.abs (QB.sub HNY.out HQY.out))) (by omega)) (QB.mono HQS.out (by omega)) _ rfl (Γ.w (d := 94) 36 rfl) (Γ.w (d := 95) 37 rfl))) ?_
      refine .gu rfl rfl rfl rfl (fun _ _ W Γ => ev_leq (Γ.k 38 rfl) (Γ.c _) HL4.out) ?_
      refine .pl rfl (fun _ _ W Γ => ev_pick (Γ.k 33 rfl) (Γ.k 39 rfl)) ?_
      refine .pl rfl (fun _ _ W Γ => ev_move _ (Γ.k 40 rfl)) ?_
      refine .gu rfl rfl rfl rfl (fun _ _ W Γ => ev_ldQ (Γ.s rfl) (Γ.l 8 rfl)) ?_
      refine .gu rfl rfl rfl rfl (fun _ _ W Γ => ev_call1 (Γ.f _) run_qDen (qDen_val W _ ((nearQ Y m) / S) 1 HK1.out (Γ.w (d := 100) 42 rfl))) ?_
      refine .gu rfl rfl rfl rfl (fun _ _ W Γ => ev_call1 (Γ.f _) run_nText (nText_one W _ (Γ.w (d := 101) 43 rfl))) ?_
      refine .gu rfl rfl rfl rfl (fun _ E W Γ => by
        have e1 : E (.tmp 102) = .string ⟨#[49]⟩ := (Γ.k 44 rfl)
        have hc := Γ.c
        exact Does.value (w' := W) (by go_simp <;> first | rfl | (rw [IntKind.wrap_i64]; omega)) ⟨rfl, Below.refl _ _⟩) ?_
      refine .pl rfl (fun _ _ W Γ => ev_pick (Γ.k 41 rfl) (Γ.k 45 rfl)) ?_
      refine .pl rfl (fun _ _ W Γ => ev_move _ (Γ.k 46 rfl)) ?_
      refine .gu rfl rfl rfl rfl (fun _ _ W Γ => ev_ldQ (Γ.s rfl) (Γ.l 3 rfl)) ?_
      refine .gu rfl rfl rfl rfl (fun _ _ W Γ => ev_move _ (Γ.s rfl)) ?_
      refine .gu rfl rfl rfl rfl (fun _ _ W Γ => ev_call2 (Γ.f _) run_qNear (by rw [(show _ = Value.int .i64 (m : Int) from (Γ.k (d := 107) 49 rfl))]; exact qNear_val W _ (Y) (nearQ Y m) m HM.out.1 (QB.mono HQY.out (by omega)) rfl (Γ.w (d := 106) 48 rfl))) ?_
      refine .gu rfl rfl rfl rfl (fun _ _ W Γ => ev_move _ (Γ.s rfl)) ?_
      refine .gu rfl rfl rfl rfl (fun _ _ W Γ => ev_call2 (Γ.f _) run_qNear (by rw [(show _ = Value.int .i64 (m : Int) from (Γ.k (d := 109) 51 rfl))]; exact qNear_val W _ (nearQ Y m) (nearQ Y m) m HM.out.1 (QB.mono HNY.out (by omega)) (near_idem _ _) (Γ.w (d := 108) 50 rfl))) ?_
      refine .gu rfl rfl rfl rfl (fun _ _ W Γ => ev_ldQ (Γ.s rfl) (Γ.l 3 rfl)) ?_
      refine .gu rfl rfl rfl rfl (fun _ _ W Γ => ev_move _ (Γ.s rfl)) ?_
      refine .gu rfl rfl rfl rfl (fun _ _ W Γ => ev_call2 (Γ.f _) run_qNear (by rw [(show _ = Value.int .i64 (m : Int) from (Γ.k (d := 112) 54 rfl))]; exact qNear_val W _ (Y) (nearQ Y m) m HM.out.1 (QB.mono HQY.out (by omega)) rfl (Γ.w (d := 111) 53 rfl))) ?_
      refine .gu rfl rfl rfl rfl (fun _ _ W Γ => ev_call2 (Γ.f _) run_qCmp (qCmp_val W _ _ (nearQ Y m) (nearQ Y m) (QB.mono HNY.out (by omega)) (QB.mono HNY.out (by omega)) 0 (qcmp_self _) (Γ.w (d := 110) 52 rfl) (Γ.w (d := 113) 55 rfl))) ?_
      refine .gu rfl rfl rfl rfl (fun _ E W Γ => by
        have e1 : E (.tmp 114) = .int .i64 0 := (Γ.k 56 rfl)
        have hc := Γ.c
        exact Does.value (w' := W) (by go_simp <;> first | rfl | (rw [IntKind.wrap_i64]; omega)) ⟨rfl, Below.refl _ _⟩) ?_
      refine .pl rfl (fun _ _ W Γ => ev_pick (Γ.k 47 rfl) (Γ.k 57 rfl)) ?_
      refine .pl rfl (fun _ _ W Γ => ev_move _ (Γ.k 58 rfl)) ?_
      refine .gu rfl rfl rfl rfl (fun _ _ W Γ => ev_ldQ (Γ.s rfl) (Γ.l 3 rfl)) ?_
      refine .gu rfl rfl rfl rfl (fun _ _ W Γ => ev_call1 (Γ.f _) run_qNeg (qNeg_val W _ (Y) (Γ.w (d := 118) 60 rfl))) ?_
      refine .gu rfl rfl rfl rfl (fun _ _ W Γ => ev_move _ (Γ.s rfl)) ?_
      refine .gu rfl rfl rfl rfl (fun _ _ W Γ => ev_call2 (Γ.f _) run_qNear (by rw [(show _ = Value.int .i64 (m : Int) from (Γ.k (d := 120) 62 rfl))]; exact qNear_val W _ (-Y) (-(nearQ Y m)) m HM.out.1 (QB.mono (QB.ng HQY.out) (by omega)) (near_neg _ _) (Γ.w (d := 119) 61 rfl))) ?_
      refine .gu rfl rfl rfl rfl (fun _ _ W Γ => ev_ldQ (Γ.s rfl) (Γ.l 3 rfl)) ?_
      refine .gu rfl rfl rfl rfl (fun _ _ W Γ => ev_move _ (Γ.s rfl)) ?_
      refine .gu rfl rfl rfl rfl (fun _ _ W Γ => ev_call2 (Γ.f _) run_qNear (by rw [(show _ = Value.int .i64 (m : Int) from (Γ.k (d := 123) 65 rfl))]; exact qNear_val W _ (Y) (nearQ Y m) m HM.out.1 (QB.mono HQY.out (by omega)) rfl (Γ.w (d := 122) 64 rfl))) ?_
      refine .gu rfl rfl rfl rfl (fun _ _ W Γ => ev_call1 (Γ.f _) run_qNeg (qNeg_val W _ (nearQ Y m) (Γ.w (d := 124) 66 rfl))) ?_
      refine .gu rfl rfl rfl rfl (fun _ _ W Γ => ev_call2 (Γ.f _) run_qCmp (qCmp_val W _ _ (-(nearQ Y m)) (-(nearQ Y m)) (QB.mono (QB.ng HNY.out) (by omega)) (QB.mono (QB.ng HNY.out) (by omega)) 0 (qcmp_self _) (Γ.w (d := 121) 63 rfl) (Γ.w (d := 125) 67 rfl))) ?_
      refine .gu rfl rfl rfl rfl (fun _ E W Γ => by
        have e1 : E (.tmp 126) = .int .i64 0 := (Γ.k 68 rfl)
        have hc := Γ.c
        exact Does.value (w' := W) (by go_simp <;> first | rfl | (rw [IntKind.wrap_i64]; omega)) ⟨rfl, Below.refl _ _⟩) ?_
      refine .pl rfl (fun _ _ W Γ => ev_pick (Γ.k 59 rfl) (Γ.k 69 rfl)) ?_
      refine .pl rfl (fun _ _ W Γ => ev_assign _ (Γ.k 70 rfl)) ?_
      exact .nil
    clear J; intro K21 hK21; simp only [fx]; intro _ f21 W21 J; refine hK21.out _ _ ?_; clear hK21
    refine wp_ret ?_
    exact bodyPost_ret (v := .bool true) (by simp [results, Tryz.results5, go_sem]) rfl ⟨_, rfl, rfl, J.out.be⟩
end Go.Proofs.YtjhjlecnjkjbbaaGreatDoor
