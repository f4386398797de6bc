/- Fractions: what Make makes; sums, products, differences, quotients, the order. -/
import Derived.Test.YtjhjlecnjkjbbaaGreatDoorQFun
namespace Go.Proofs.YtjhjlecnjkjbbaaGreatDoor
open Go.RowKit

theorem run_cmpI : RowKit.Hid (∀ (a : Array Value) (w : World), Sem.run Tryz.prog (callFunc 66 a) w = .ok (.enter 66 a) w) := fun a w => by go_simp
theorem run_nMul : RowKit.Hid (∀ (a : Array Value) (w : World), Sem.run Tryz.prog (callFunc 61 a) w = .ok (.enter 61 a) w) := fun a w => by go_simp
theorem run_qAdd : RowKit.Hid (∀ (a : Array Value) (w : World), Sem.run Tryz.prog (callFunc 11 a) w = .ok (.enter 11 a) w) := fun a w => by go_simp
theorem run_qCancel : RowKit.Hid (∀ (a : Array Value) (w : World), Sem.run Tryz.prog (callFunc 56 a) w = .ok (.enter 56 a) w) := fun a w => by go_simp
theorem run_qDen : RowKit.Hid (∀ (a : Array Value) (w : World), Sem.run Tryz.prog (callFunc 29 a) w = .ok (.enter 29 a) w) := fun a w => by go_simp
theorem run_qMul : RowKit.Hid (∀ (a : Array Value) (w : World), Sem.run Tryz.prog (callFunc 15 a) w = .ok (.enter 15 a) w) := fun a w => by go_simp
theorem run_qNeg : RowKit.Hid (∀ (a : Array Value) (w : World), Sem.run Tryz.prog (callFunc 21 a) w = .ok (.enter 21 a) w) := fun a w => by go_simp
theorem run_qOfLowest : RowKit.Hid (∀ (a : Array Value) (w : World), Sem.run Tryz.prog (callFunc 45 a) w = .ok (.enter 45 a) w) := fun a w => by go_simp
theorem run_qSign : RowKit.Hid (∀ (a : Array Value) (w : World), Sem.run Tryz.prog (callFunc 19 a) w = .ok (.enter 19 a) w) := fun a w => by go_simp
theorem ds_dn {x : Rat} {k : Nat} (h : (ds x.den).length ≤ k) : (ds (dn x)).length ≤ k := Nat.le_trans (ds_mono (dn_le x)) h
theorem QB.ds {x : Rat} (h : QB x 600) : (ds x.num.natAbs).length ≤ 10 ∧ (ds x.den).length ≤ 10 := ⟨ds_bl (by omega) (Nat.le_trans h.1 (by omega)), ds_bl (by omega) (Nat.le_trans h.2 (by omega))⟩
theorem nMul_gives (w : World) (u v : Value) (m n : Nat) (hm : (ds m).length ≤ 60) (hn : (ds n).length ≤ 60) (h1 : Num w u m) (h2 : Num w v n) : Calls Tryz.prog 61 #[u, v] w (Gives w (.num (m * n))) :=
  (mul_want w u v m n hm hn h1 h2).mono fun _ _ ⟨v, h1, h2, h3⟩ => ⟨v, h1, h2, h3⟩
theorem cmpI_gives (x y : Int) (w : World) : Calls Tryz.prog 66 #[.int .i64 x, .int .i64 y] w (Gives w (.is (.int .i64 (cmp3 x y)))) :=
  (cmpI_any x y w).mono fun _ _ ⟨h1, h2⟩ => ⟨_, h2, rfl, by rw [h1]; exact Below.refl _ _⟩
theorem cmp3_zero_iff {x y : Int} : cmp3 x y = 0 ↔ x = y := by unfold cmp3; split <;> (try split) <;> omega
theorem cmp3_neg0 (z : Int) : decide (cmp3 z 0 < 0) = decide (z < 0) := by unfold cmp3; split <;> (try split) <;> simp <;> omega
def MadeOf (n d : Int) (X : Rat) : Prop := (0 < d → X = mkRat n d.natAbs) ∧ (d < 0 → X = mkRat (-n) d.natAbs)
set_option maxRecDepth 100000 in
set_option maxHeartbeats 4000000 in
theorem qMake_val (w : World) (u1 u2 : Value) (n d : Int) (X : Rat) (hX : MadeOf n d X) (hd0 : d ≠ 0) (hn : (ds n.natAbs).length ≤ 40) (hd : (ds d.natAbs).length ≤ 40) (hT : Tab64 w) (h1 : Means w (.int n) u1) (h2 : Means w (.int d) u2) :
    Calls Tryz.prog 32 #[u1, u2] w (Gives w (.two (.that (fracS X)) (.is (.bool true)))) := by
  obtain ⟨g1, s1, p1, l1, c1, rfl, h1⟩ := h1
  obtain ⟨g2, s2, p2, l2, c2, rfl, h2⟩ := h2
  have H1 := Lib.hid h1; clear h1
  have H2 := Lib.hid h2; clear h2
  rcases (show 0 < d ∨ d < 0 by omega) with h0 | h0
  · skip
    have HK : Hid (cmp3 d 0 = 1) := Lib.hid (cmp3_gt (show (0 : Int) < d by omega))
    have hX' := hX.1 h0
    have HC : Hid (n / ((Nat.gcd n.natAbs d.natAbs : Nat) : Int) = X.num ∧ d.natAbs / Nat.gcd n.natAbs d.natAbs = X.den) := Lib.hid (by rw [hX']; exact make_parts n (by omega) rfl)
    have HD0 : Hid (d.natAbs ≠ 0) := Lib.hid (by omega)
    have HS : Hid ((ds n.natAbs).length ≤ 40 ∧ (ds d.natAbs).length ≤ 40) := Lib.hid ⟨by have := hn; omega, hd⟩
    have TB := Lib.hid hT; clear hT
    clear hX hX' hn hd h0
    go_enter Tryz.func32, Tryz.ntmps32
    have J := Frm.start (w := w) (V := []) fn
    refine wp_seq_h ?_; intro K1 hK1; go_wp2
    obtain ⟨W2, b2, eW2, eb2, sz2, J⟩ := Frm.putI J rfl H1.out
    obtain ⟨W3, b3, eW3, eb3, sz3, J⟩ := Frm.putI J sz2 H2.out
    obtain ⟨W4, b4, eW4, eb4, sz4, J⟩ := Frm.putQ0 J sz3
    rw [← eW2, ← eW3, ← eW4, ← eb4, ← eb3, ← eb2]
    clear eW2 eb2 sz2 eW3 eb3 sz3 eW4 eb4 sz4
    refine hK1.out _ _ ?_; clear hK1
    refine wp_seq_h ?_; intro K5 hK5
    refine region_c [7, 8] [.int d, .is (.int .i64 1)] [] [] [] J ?_ ?_
    · refine .pl rfl (fun _ _ W Γ => ev_ldI (Γ.s rfl) (Γ.l 1 rfl)) ?_
      refine .pl rfl (fun _ _ W Γ => ev_call1 (Γ.f _) run_iSign (iSign_val W _ d 1 HK.out (Γ.w (d := 6) 0 rfl))) ?_
      exact .nil
    clear J; intro K6 hK6; simp only [fx]; intro _ f6 W6 J; refine hK6.out _ _ ?_; clear hK6
    refine wp_block ?_
    refine region_c [10, 9] [.is (.bool false), .is (.bool false)] [] [] [] J ?_ ?_
    · refine .pl rfl (fun _ E W Γ => by
        have e1 : E (.tmp 7) = .int .i64 1 := (Γ.s rfl)
        have hc := Γ.c
        exact Does.value (w' := W) (by go_simp <;> first | rfl | (rw [IntKind.wrap_i64]; omega)) ⟨rfl, Below.refl _ _⟩) ?_
      refine .pl rfl (fun _ _ W Γ => ev_assign _ (Γ.k 0 rfl)) ?_
      exact .nil
    clear J; intro K7 hK7; simp only [fx]; intro _ f7 W7 J; refine hK7.out _ _ ?_; clear hK7
    refine wp_cond_false rfl ?_
    refine region_c [13, 12] [.is (.bool false), .is (.bool false)] [] [] [] J ?_ ?_
    · refine .pl rfl (fun _ E W Γ => by
        have e1 : E (.tmp 7) = .int .i64 1 := (Γ.s rfl)
        have hc := Γ.c
        exact Does.value (w' := W) (by go_simp <;> first | rfl | (rw [IntKind.wrap_i64]; omega)) ⟨rfl, Below.refl _ _⟩) ?_
      refine .pl rfl (fun _ _ W Γ => ev_assign _ (Γ.k 0 rfl)) ?_
      exact .nil
    clear J; intro K8 hK8; simp only [fx]; intro _ f8 W8 J; refine hK8.out _ _ ?_; clear hK8
    refine wp_cond_false rfl ?_
    refine wp_skip ?_
    refine hK5.out _ _ ?_; clear hK5
    refine region_c [16, 17, 18, 19, 20, 21, 22, 0, 6] [.int n, .int d, .num d.natAbs, .two (.int X.num) (.num X.den), .int X.num, .num X.den, .that (fracS X), .any, .is (.bool true)] [none, none, some (7, .that (fracS X))] [] [] J ?_ ?_
    · refine .pl rfl (fun _ _ W Γ => ev_ldI (Γ.s rfl) (Γ.l 0 rfl)) ?_
      refine .pl rfl (fun _ _ W Γ => ev_ldI (Γ.s rfl) (Γ.l 1 rfl)) ?_
      refine .pl rfl (fun _ _ W Γ => ev_call1 (Γ.f _) run_iAbs (iAbs_want W _ d (Γ.w (d := 16) 1 rfl))) ?_
      refine .pl rfl (fun _ _ W Γ => ev_call2 (Γ.f _) run_qCancel (qCancel_val W _ _ n d.natAbs _ X.num X.den rfl HC.out.1 HC.out.2 HD0.out HS.out.1 HS.out.2 (TB.out.mono Γ.be) (Γ.w (d := 15) 0 rfl) (Γ.w (d := 17) 2 rfl))) ?_
      refine .pl rfl (fun _ _ W Γ => ev_ex20 (Γ.w 3 rfl)) ?_
      refine .pl rfl (fun _ _ W Γ => ev_ex21 (Γ.w 3 rfl)) ?_
      refine .pl rfl (fun _ _ W Γ => ev_call2 (Γ.f _) run_qOfLowest (qOfLowest_val W _ _ X.num X.den X rfl rfl (Γ.w (d := 19) 4 rfl) (Γ.w (d := 20) 5 rfl))) ?_
      refine .st 2 rfl rfl rfl (fun _ _ W Γ => ev_stQ (Γ.s rfl) (Γ.u 2 rfl rfl) (Γ.w 6 rfl)) ?_
      refine .pl rfl (fun _ _ W Γ => ev_assign _ (Γ.c _)) ?_
      exact .nil
    clear J; intro K9 hK9; simp only [fx]; intro _ f9 W9 J; refine hK9.out _ _ ?_; clear hK9
    refine wp_ret ?_
    obtain ⟨u0, hx0, hm0⟩ := J.out.get 2 rfl
    obtain ⟨gr0, sr0, pr0, lr0, cr0, tr0, qr0, kr0, dr0, rfl, c0_0, c0_1, c0_2, c0_3, c0_4⟩ := hx0.frac
    exact bodyPost_ret (v := .tuple #[.agg #[.bool gr0, .int .u64 sr0, .slice pr0 lr0 cr0, .int .u64 tr0, .slice qr0 kr0 dr0], .bool true]) (by simp [results, Tryz.results32, go_sem, c0_0, c0_1, c0_2, c0_3, c0_4]) rfl ⟨_, rfl, ⟨_, _, rfl, hm0, rfl⟩, J.out.be⟩
  · skip
    have HK : Hid (cmp3 d 0 = (-1)) := Lib.hid (cmp3_lt (show d < 0 by omega))
    have hX' := hX.2 h0
    have HC : Hid ((-n) / ((Nat.gcd (-n).natAbs d.natAbs : Nat) : Int) = X.num ∧ d.natAbs / Nat.gcd (-n).natAbs d.natAbs = X.den) := Lib.hid (by rw [hX']; exact make_parts (-n) (by omega) rfl)
    have HD0 : Hid (d.natAbs ≠ 0) := Lib.hid (by omega)
    have HS : Hid ((ds (-n).natAbs).length ≤ 40 ∧ (ds d.natAbs).length ≤ 40) := Lib.hid ⟨by rw [Int.natAbs_neg]; have := hn; omega, hd⟩
    have TB := Lib.hid hT; clear hT
    clear hX hX' hn hd h0
    go_enter Tryz.func32, Tryz.ntmps32
    have J := Frm.start (w := w) (V := []) fn
    refine wp_seq_h ?_; intro K1 hK1; go_wp2
    obtain ⟨W2, b2, eW2, eb2, sz2, J⟩ := Frm.putI J rfl H1.out
    obtain ⟨W3, b3, eW3, eb3, sz3, J⟩ := Frm.putI J sz2 H2.out
    obtain ⟨W4, b4, eW4, eb4, sz4, J⟩ := Frm.putQ0 J sz3
    rw [← eW2, ← eW3, ← eW4, ← eb4, ← eb3, ← eb2]
    clear eW2 eb2 sz2 eW3 eb3 sz3 eW4 eb4 sz4
    refine hK1.out _ _ ?_; clear hK1
    refine wp_seq_h ?_; intro K5 hK5
    refine region_c [7, 8] [.int d, .is (.int .i64 (-1))] [] [] [] J ?_ ?_
    · refine .pl rfl (fun _ _ W Γ => ev_ldI (Γ.s rfl) (Γ.l 1 rfl)) ?_
      refine .pl rfl (fun _ _ W Γ => ev_call1 (Γ.f _) run_iSign (iSign_val W _ d (-1) HK.out (Γ.w (d := 6) 0 rfl))) ?_
      exact .nil
    clear J; intro K6 hK6; simp only [fx]; intro _ f6 W6 J; refine hK6.out _ _ ?_; clear hK6
    refine wp_block ?_
    refine region_c [10, 9] [.is (.bool false), .is (.bool false)] [] [] [] J ?_ ?_
    · refine .pl rfl (fun _ E W Γ => by
        have e1 : E (.tmp 7) = .int .i64 (-1) := (Γ.s rfl)
        have hc := Γ.c
        exact Does.value (w' := W) (by go_simp <;> first | rfl | (rw [IntKind.wrap_i64]; omega)) ⟨rfl, Below.refl _ _⟩) ?_
      refine .pl rfl (fun _ _ W Γ => ev_assign _ (Γ.k 0 rfl)) ?_
      exact .nil
    clear J; intro K7 hK7; simp only [fx]; intro _ f7 W7 J; refine hK7.out _ _ ?_; clear hK7
    refine wp_cond_false rfl ?_
    refine region_c [13, 12] [.is (.bool true), .is (.bool true)] [] [] [] J ?_ ?_
    · refine .pl rfl (fun _ E W Γ => by
        have e1 : E (.tmp 7) = .int .i64 (-1) := (Γ.s rfl)
        have hc := Γ.c
        exact Does.value (w' := W) (by go_simp <;> first | rfl | (rw [IntKind.wrap_i64]; omega)) ⟨rfl, Below.refl _ _⟩) ?_
      refine .pl rfl (fun _ _ W Γ => ev_assign _ (Γ.k 0 rfl)) ?_
      exact .nil
    clear J; intro K8 hK8; simp only [fx]; intro _ f8 W8 J; refine hK8.out _ _ ?_; clear hK8
    refine wp_cond_true rfl ?_
    refine region_f [14, 15, 0] [.int n, .int (-n), .any] [some (2, .int (-n))] [] [] J ?_ ?_
    · refine .pl rfl (fun _ _ W Γ => ev_ldI (Γ.s rfl) (Γ.u 0 rfl rfl).1) ?_
      refine .pl rfl (fun _ _ W Γ => ev_call1 (Γ.f _) run_iNeg (iNeg_want W _ n (Γ.w (d := 13) 0 rfl))) ?_
      refine .st 0 rfl rfl rfl (fun _ _ W Γ => ev_stI (Γ.s rfl) (Γ.u 0 rfl rfl) (Γ.w 1 rfl)) ?_
      exact .nil
    clear J; simp only [fx]; intro _ f9 W9 J
    refine hK5.out _ _ ?_; clear hK5
    refine region_c [16, 17, 18, 19, 20, 21, 22, 0, 6] [.int (-n), .int d, .num d.natAbs, .two (.int X.num) (.num X.den), .int X.num, .num X.den, .that (fracS X), .any, .is (.bool true)] [none, none, some (7, .that (fracS X))] [] [] J ?_ ?_
    · refine .pl rfl (fun _ _ W Γ => ev_ldI (Γ.s rfl) (Γ.l 0 rfl)) ?_
      refine .pl rfl (fun _ _ W Γ => ev_ldI (Γ.s rfl) (Γ.l 1 rfl)) ?_
      refine .pl rfl (fun _ _ W Γ => ev_call1 (Γ.f _) run_iAbs (iAbs_want W _ d (Γ.w (d := 16) 1 rfl))) ?_
      refine .pl rfl (fun _ _ W Γ => ev_call2 (Γ.f _) run_qCancel (qCancel_val W _ _ (-n) d.natAbs _ X.num X.den rfl HC.out.1 HC.out.2 HD0.out HS.out.1 HS.out.2 (TB.out.mono Γ.be) (Γ.w (d := 15) 0 rfl) (Γ.w (d := 17) 2 rfl))) ?_
      refine .pl rfl (fun _ _ W Γ => ev_ex20 (Γ.w 3 rfl)) ?_
      refine .pl rfl (fun _ _ W Γ => ev_ex21 (Γ.w 3 rfl)) ?_
      refine .pl rfl (fun _ _ W Γ => ev_call2 (Γ.f _) run_qOfLowest (qOfLowest_val W _ _ X.num X.den X rfl rfl (Γ.w (d := 19) 4 rfl) (Γ.w (d := 20) 5 rfl))) ?_
      refine .st 2 rfl rfl rfl (fun _ _ W Γ => ev_stQ (Γ.s rfl) (Γ.u 2 rfl rfl) (Γ.w 6 rfl)) ?_
      refine .pl rfl (fun _ _ W Γ => ev_assign _ (Γ.c _)) ?_
      exact .nil
    clear J; intro K10 hK10; simp only [fx]; intro _ f10 W10 J; refine hK10.out _ _ ?_; clear hK10
    refine wp_ret ?_
    obtain ⟨u0, hx0, hm0⟩ := J.out.get 2 rfl
    obtain ⟨gr0, sr0, pr0, lr0, cr0, tr0, qr0, kr0, dr0, rfl, c0_0, c0_1, c0_2, c0_3, c0_4⟩ := hx0.frac
    exact bodyPost_ret (v := .tuple #[.agg #[.bool gr0, .int .u64 sr0, .slice pr0 lr0 cr0, .int .u64 tr0, .slice qr0 kr0 dr0], .bool true]) (by simp [results, Tryz.results32, go_sem, c0_0, c0_1, c0_2, c0_3, c0_4]) rfl ⟨_, rfl, ⟨_, _, rfl, hm0, rfl⟩, J.out.be⟩
set_option maxRecDepth 100000 in
set_option maxHeartbeats 4000000 in
theorem qAdd_whole (w : World) (u1 u2 : Value) (X Y : Rat) (hx : QB X 600) (hy : QB Y 600) (hX : X.den = 1) (hY : Y.den = 1) (h1 : Means w (.that (fracS X)) u1) (h2 : Means w (.that (fracS Y)) u2) :
    Calls Tryz.prog 11 #[u1, u2] w (Gives w (.that (fracS (X + Y)))) := by
  obtain ⟨g1, s1, p1, l1, c1, t1, q1, k1, d1, rfl, h1⟩ := h1
  obtain ⟨g2, s2, p2, l2, c2, t2, q2, k2, d2, rfl, h2⟩ := h2
  have H1 := Lib.hid h1; clear h1
  have H2 := Lib.hid h2; clear h2
  have hxs := hx.ds; have hys := hy.ds
  have sx1 := hxs.1; have sx2 := hxs.2; have sy1 := hys.1; have sy2 := hys.2; clear hxs hys
  have HWX : Hid (decide (X.den = 1) = true) := Lib.hid (decide_eq_true hX)
  have HWY : Hid (decide (Y.den = 1) = true) := Lib.hid (decide_eq_true hY)
  have HP := Lib.hid (qadd_whole hX hY)
  clear hx hy hX hY
  go_enter Tryz.func11, Tryz.ntmps11
  have J := Frm.start (w := w) (V := []) fn
  refine wp_seq_h ?_; intro K1 hK1; go_wp2
  obtain ⟨W2, b2, eW2, eb2, sz2, J⟩ := Frm.putQ J rfl H1.out
  obtain ⟨W3, b3, eW3, eb3, sz3, J⟩ := Frm.putQ J sz2 H2.out
  obtain ⟨W4, b4, eW4, eb4, sz4, J⟩ := Frm.putQ0 J sz3
  rw [← eW2, ← eW3, ← eW4, ← eb4, ← eb3, ← eb2]
  clear eW2 eb2 sz2 eW3 eb3 sz3 eW4 eb4 sz4
  refine hK1.out _ _ ?_; clear hK1
  refine wp_seq_h ?_; intro K5 hK5
  refine region_c [11, 12, 13, 14, 15, 16] [.that (fracS X), .is (.bool true), .is (.bool true), .that (fracS Y), .is (.bool true), .is (.bool true)] [] [] [] J ?_ ?_
  · refine .pl rfl (fun _ _ W Γ => ev_ldQ (Γ.s rfl) (Γ.l 0 rfl)) ?_
    refine .pl rfl (fun _ _ W Γ => ev_call1 (Γ.f _) run_qIsWhole (qIsWhole_val W _ X true HWX.out (Γ.w (d := 10) 0 rfl))) ?_
    refine .pl rfl (fun _ _ W Γ => ev_move _ (Γ.k 1 rfl)) ?_
    refine .gu rfl rfl rfl rfl (fun _ _ W Γ => ev_ldQ (Γ.s rfl) (Γ.l 1 rfl)) ?_
    refine .gu rfl rfl rfl rfl (fun _ _ W Γ => ev_call1 (Γ.f _) run_qIsWhole (qIsWhole_val W _ Y true HWY.out (Γ.w (d := 13) 3 rfl))) ?_
    refine .pl rfl (fun _ _ W Γ => ev_pick (Γ.k 2 rfl) (Γ.k 4 rfl)) ?_
    exact .nil
  clear J; intro K6 hK6; simp only [fx]; intro _ f6 W6 J; refine hK6.out _ _ ?_; clear hK6
  refine wp_cond_true rfl ?_
  refine region_c [17, 18, 19, 20, 21, 22, 0] [.is (.pointer (some ⟨b2, 0, none⟩)), .int X.num, .is (.pointer (some ⟨b3, 0, none⟩)), .int Y.num, .int (X.num + Y.num), .that (fracS (X + Y)), .any] [none, none, some (6, .that (fracS (X + Y)))] [] [] J ?_ ?_
  · refine .pl rfl (fun _ _ W Γ => ev_faQ0 (Γ.s rfl)) ?_
    refine .pl rfl (fun _ _ W Γ => ev_ldQ0 (Γ.k 0 rfl) (Γ.l 0 rfl)) ?_
    refine .pl rfl (fun _ _ W Γ => ev_faQ0 (Γ.s rfl)) ?_
    refine .pl rfl (fun _ _ W Γ => ev_ldQ0 (Γ.k 2 rfl) (Γ.l 1 rfl)) ?_
    refine .pl rfl (fun _ _ W Γ => ev_call2 (Γ.f _) run_iAdd (iAdd_want W _ _ X.num Y.num (by omega) (by omega) (Γ.w (d := 17) 1 rfl) (Γ.w (d := 19) 3 rfl))) ?_
    refine .pl rfl (fun _ _ W Γ => ev_mkQ1 (Γ.w 4 rfl) HP.out.1 HP.out.2) ?_
    refine .st 2 rfl rfl rfl (fun _ _ W Γ => ev_stQ (Γ.s rfl) (Γ.u 2 rfl rfl) (Γ.w 5 rfl)) ?_
    exact .nil
  clear J; intro K7 hK7; simp only [fx]; intro _ f7 W7 J; refine hK7.out _ _ ?_; clear hK7
  refine wp_ret ?_
  obtain ⟨u0, hx0, hm0⟩ := J.out.get 2 rfl
  obtain ⟨gr0, sr0, pr0, lr0, cr0, tr0, qr0, kr0, dr0, rfl, c0_0, c0_1, c0_2, c0_3, c0_4⟩ := hx0.frac
  exact bodyPost_ret (v := .agg #[.bool gr0, .int .u64 sr0, .slice pr0 lr0 cr0, .int .u64 tr0, .slice qr0 kr0 dr0]) (by simp [results, Tryz.results11, go_sem, c0_0, c0_1, c0_2, c0_3, c0_4]) rfl ⟨_, rfl, hm0, J.out.be⟩
set_option maxRecDepth 100000 in
set_option maxHeartbeats 4000000 in
theorem qAdd_alike (w : World) (u1 u2 : Value) (X Y : Rat) (hx : QB X 600) (hy : QB Y 600) (hX : X.den ≠ 1) (hY : Y.den ≠ 1) (hq : X.den = Y.den) (hT : Tab64 w) (h1 : Means w (.that (fracS X)) u1) (h2 : Means w (.that (fracS Y)) u2) :
    Calls Tryz.prog 11 #[u1, u2] w (Gives w (.that (fracS (X + Y)))) := by
  obtain ⟨g1, s1, p1, l1, c1, t1, q1, k1, d1, rfl, h1⟩ := h1
  obtain ⟨g2, s2, p2, l2, c2, t2, q2, k2, d2, rfl, h2⟩ := h2
  have H1 := Lib.hid h1; clear h1
  have H2 := Lib.hid h2; clear h2
  have _ := hY
  have hxs := hx.ds; have hys := hy.ds
  have sx1 := hxs.1; have sx2 := hxs.2; have sy1 := hys.1; have sy2 := hys.2; clear hxs hys
  have HWX : Hid (decide (X.den = 1) = false) := Lib.hid (decide_eq_false hX)
  have HCM : Hid (cmp3 (dn X) (dn Y) = 0) := Lib.hid (cmp3_zero_iff.2 (by rw [dn_inj.2 hq]))
  have hd1 : X.den ≠ 1 := hX
  have HC : Hid ((X.num + Y.num) / ((Nat.gcd (X.num + Y.num).natAbs (dn X) : Nat) : Int) = (X + Y).num ∧ dn X / Nat.gcd (X.num + Y.num).natAbs (dn X) = (X + Y).den) := Lib.hid (by rw [qadd_alike hq, dn_den hd1]; exact make_parts _ X.den_nz rfl)
  have HD0 : Hid (dn X ≠ 0) := Lib.hid (by rw [dn_den hd1]; exact X.den_nz)
  have TB := Lib.hid hT; clear hT
  clear hx hy hX hY hq hd1
  go_enter Tryz.func11, Tryz.ntmps11
  have J := Frm.start (w := w) (V := []) fn
  refine wp_seq_h ?_; intro K1 hK1; go_wp2
  obtain ⟨W2, b2, eW2, eb2, sz2, J⟩ := Frm.putQ J rfl H1.out
  obtain ⟨W3, b3, eW3, eb3, sz3, J⟩ := Frm.putQ J sz2 H2.out
  obtain ⟨W4, b4, eW4, eb4, sz4, J⟩ := Frm.putQ0 J sz3
  rw [← eW2, ← eW3, ← eW4, ← eb4, ← eb3, ← eb2]
  clear eW2 eb2 sz2 eW3 eb3 sz3 eW4 eb4 sz4
  refine hK1.out _ _ ?_; clear hK1
  refine wp_seq_h ?_; intro K5 hK5
  refine region_c [11, 12, 13, 14, 15, 16] [.that (fracS X), .is (.bool false), .is (.bool false), .is undef, .is undef, .is (.bool false)] [] [] [] J ?_ ?_
  · refine .pl rfl (fun _ _ W Γ => ev_ldQ (Γ.s rfl) (Γ.l 0 rfl)) ?_
    refine .pl rfl (fun _ _ W Γ => ev_call1 (Γ.f _) run_qIsWhole (qIsWhole_val W _ X false HWX.out (Γ.w (d := 10) 0 rfl))) ?_
    refine .pl rfl (fun _ _ W Γ => ev_move _ (Γ.k 1 rfl)) ?_
    refine .off rfl rfl rfl rfl ?_
    refine .off rfl rfl rfl rfl ?_
    refine .pl rfl (fun _ _ W Γ => ev_pick (Γ.k 2 rfl) (Γ.c _)) ?_
    exact .nil
  clear J; intro K6 hK6; simp only [fx]; intro _ f6 W6 J; refine hK6.out _ _ ?_; clear hK6
  refine wp_cond_false rfl ?_
  refine wp_skip ?_
  refine hK5.out _ _ ?_; clear hK5
  refine wp_seq_h ?_; intro K7 hK7
  refine region_c [23, 24, 25, 26, 27, 28] [.is (.pointer (some ⟨b2, 3, none⟩)), .num (dn X), .is (.pointer (some ⟨b3, 3, none⟩)), .num (dn Y), .is (.int .i64 0), .is (.bool true)] [] [] [] J ?_ ?_
  · refine .pl rfl (fun _ _ W Γ => ev_faQ1 (Γ.s rfl)) ?_
    refine .pl rfl (fun _ _ W Γ => ev_ldQ3 (Γ.k 0 rfl) (Γ.l 0 rfl)) ?_
    refine .pl rfl (fun _ _ W Γ => ev_faQ1 (Γ.s rfl)) ?_
    refine .pl rfl (fun _ _ W Γ => ev_ldQ3 (Γ.k 2 rfl) (Γ.l 1 rfl)) ?_
    refine .pl rfl (fun _ _ W Γ => ev_call2 (Γ.f _) run_nCmp (nCmp_val W _ _ (dn X) (dn Y) 0 HCM.out (by have := ds_dn sx2; omega) (Γ.w (d := 23) 1 rfl) (Γ.w (d := 25) 3 rfl))) ?_
    refine .pl rfl (fun _ E W Γ => by
      have e1 : E (.tmp 26) = .int .i64 0 := (Γ.k 4 rfl)
      have hc := Γ.c
      exact Does.value (w' := W) (by go_simp <;> first | rfl | (rw [IntKind.wrap_i64]; omega)) ⟨rfl, Below.refl _ _⟩) ?_
    exact .nil
  clear J; intro K8 hK8; simp only [fx]; intro _ f8 W8 J; refine hK8.out _ _ ?_; clear hK8
  refine wp_cond_true rfl ?_
  refine region_c [29, 30, 31, 32, 33, 34, 35, 36, 37, 38, 39, 0] [.is (.pointer (some ⟨b2, 0, none⟩)), .int X.num, .is (.pointer (some ⟨b3, 0, none⟩)), .int Y.num, .int (X.num + Y.num), .is (.pointer (some ⟨b2, 3, none⟩)), .num (dn X), .two (.int ((X + Y).num)) (.num ((X + Y).den)), .int ((X + Y).num), .num ((X + Y).den), .that (fracS (X + Y)), .any] [none, none, some (11, .that (fracS (X + Y)))] [] [] J ?_ ?_
  · refine .pl rfl (fun _ _ W Γ => ev_faQ0 (Γ.s rfl)) ?_
    refine .pl rfl (fun _ _ W Γ => ev_ldQ0 (Γ.k 0 rfl) (Γ.l 0 rfl)) ?_
    refine .pl rfl (fun _ _ W Γ => ev_faQ0 (Γ.s rfl)) ?_
    refine .pl rfl (fun _ _ W Γ => ev_ldQ0 (Γ.k 2 rfl) (Γ.l 1 rfl)) ?_
    refine .pl rfl (fun _ _ W Γ => ev_call2 (Γ.f _) run_iAdd (iAdd_want W _ _ X.num Y.num (by omega) (by omega) (Γ.w (d := 29) 1 rfl) (Γ.w (d := 31) 3 rfl))) ?_
    refine .pl rfl (fun _ _ W Γ => ev_faQ1 (Γ.s rfl)) ?_
    refine .pl rfl (fun _ _ W Γ => ev_ldQ3 (Γ.k 5 rfl) (Γ.l 0 rfl)) ?_
    refine .pl rfl (fun _ _ W Γ => ev_call2 (Γ.f _) run_qCancel (qCancel_val W _ _ (X.num + Y.num) (dn X) _ (X + Y).num (X + Y).den rfl HC.out.1 HC.out.2 HD0.out (by have := ds_natAbs_add X.num Y.num; omega) (by have := ds_dn sx2; omega) (TB.out.mono Γ.be) (Γ.w (d := 32) 4 rfl) (Γ.w (d := 34) 6 rfl))) ?_
    refine .pl rfl (fun _ _ W Γ => ev_ex20 (Γ.w 7 rfl)) ?_
    refine .pl rfl (fun _ _ W Γ => ev_ex21 (Γ.w 7 rfl)) ?_
    refine .pl rfl (fun _ _ W Γ => ev_call2 (Γ.f _) run_qOfLowest (qOfLowest_val W _ _ (X + Y).num (X + Y).den (X + Y) rfl rfl (Γ.w (d := 36) 8 rfl) (Γ.w (d := 37) 9 rfl))) ?_
    refine .st 2 rfl rfl rfl (fun _ _ W Γ => ev_stQ (Γ.s rfl) (Γ.u 2 rfl rfl) (Γ.w 10 rfl)) ?_
    exact .nil
  clear J; intro K9 hK9; simp only [fx]; intro _ f9 W9 J; refine hK9.out _ _ ?_; clear hK9
  refine wp_ret ?_
  obtain ⟨u0, hx0, hm0⟩ := J.out.get 2 rfl
  obtain ⟨gr0, sr0, pr0, lr0, cr0, tr0, qr0, kr0, dr0, rfl, c0_0, c0_1, c0_2, c0_3, c0_4⟩ := hx0.frac
  exact bodyPost_ret (v := .agg #[.bool gr0, .int .u64 sr0, .slice pr0 lr0 cr0, .int .u64 tr0, .slice qr0 kr0 dr0]) (by simp [results, Tryz.results11, go_sem, c0_0, c0_1, c0_2, c0_3, c0_4]) rfl ⟨_, rfl, hm0, J.out.be⟩
set_option maxRecDepth 100000 in
set_option maxHeartbeats 4000000 in
theorem qAdd_unlike_f (w : World) (u1 u2 : Value) (X Y : Rat) (hx : QB X 600) (hy : QB Y 600) (hX : X.den ≠ 1) (hY : True) (hq : X.den ≠ Y.den) (kk : Int) (hkk : cmp3 (dn X) (dn Y) = kk) (hT : Tab64 w) (h1 : Means w (.that (fracS X)) u1) (h2 : Means w (.that (fracS Y)) u2) :
    Calls Tryz.prog 11 #[u1, u2] w (Gives w (.that (fracS (X + Y)))) := by
  obtain ⟨g1, s1, p1, l1, c1, t1, q1, k1, d1, rfl, h1⟩ := h1
  obtain ⟨g2, s2, p2, l2, c2, t2, q2, k2, d2, rfl, h2⟩ := h2
  have H1 := Lib.hid h1; clear h1
  have H2 := Lib.hid h2; clear h2
  have _ := hY
  have hxs := hx.ds; have hys := hy.ds
  have sx1 := hxs.1; have sx2 := hxs.2; have sy1 := hys.1; have sy2 := hys.2; clear hxs hys
  have HWX : Hid (decide (X.den = 1) = false) := Lib.hid (decide_eq_false hX)
  obtain ⟨g, hg⟩ : ∃ g, Nat.gcd X.den Y.den = g := ⟨_, rfl⟩
  obtain ⟨d, hd⟩ : ∃ d, X.den / g = d := ⟨_, rfl⟩
  obtain ⟨m, hm⟩ : ∃ m, Y.den / g = m := ⟨_, rfl⟩
  obtain ⟨h, hh⟩ : ∃ h, Nat.gcd (X.num * ((m : Nat) : Int) + Y.num * ((d : Nat) : Int)).natAbs g = h := ⟨_, rfl⟩
  obtain ⟨r, hr⟩ : ∃ r, g / h = r := ⟨_, rfl⟩
  obtain ⟨hnum, hden⟩ := qadd_parts hg hd hm rfl hh
  rw [hr] at hden
  have hg0 : 0 < g := by rw [← hg]; exact Nat.gcd_pos_of_pos_left _ X.den_pos
  have sd : (ds d).length ≤ 10 := Nat.le_trans (ds_mono (by rw [← hd]; exact Nat.div_le_self _ _)) sx2
  have sm : (ds m).length ≤ 10 := Nat.le_trans (ds_mono (by rw [← hm]; exact Nat.div_le_self _ _)) sy2
  have sgg : (ds g).length ≤ 10 := Nat.le_trans (ds_mono (by rw [← hg]; exact Nat.gcd_le_left _ X.den_pos)) sx2
  have sr : (ds r).length ≤ 10 := Nat.le_trans (ds_mono (by rw [← hr]; exact Nat.div_le_self _ _)) sgg
  have p1 := ds_natAbs_mul X.num ((m : Nat) : Int); have p2 := ds_natAbs_mul Y.num ((d : Nat) : Int)
  rw [Int.natAbs_natCast] at p1 p2
  have p3 := ds_natAbs_add (X.num * ((m : Nat) : Int)) (Y.num * ((d : Nat) : Int))
  have p4 := ds_mul d m
  have HG : Hid (Nat.gcd ((X.den : Nat) : Int).natAbs Y.den = g) := Lib.hid (by rw [Int.natAbs_natCast]; exact hg)
  have HDD := Lib.hid hd; have HM := Lib.hid hm; have HG0 := Lib.hid hg0; have HH := Lib.hid hh; have HR := Lib.hid hr; have HN := Lib.hid hnum.symm; have HDEN := Lib.hid hden
  have SM : Hid ((ds ((m : Nat) : Int).natAbs).length ≤ 60) := Lib.hid (by rw [Int.natAbs_natCast]; omega); have SD : Hid ((ds ((d : Nat) : Int).natAbs).length ≤ 60) := Lib.hid (by rw [Int.natAbs_natCast]; omega)
  have ST : Hid ((ds (X.num * ((m : Nat) : Int)).natAbs).length ≤ 60 ∧ (ds (Y.num * ((d : Nat) : Int)).natAbs).length ≤ 60 ∧ (ds (X.num * ((m : Nat) : Int) + Y.num * ((d : Nat) : Int)).natAbs).length ≤ 40) := Lib.hid (by omega)
  have SGG : Hid ((ds g).length ≤ 40) := Lib.hid (by omega); have SDM : Hid ((ds d).length ≤ 10 ∧ (ds m).length ≤ 10) := Lib.hid ⟨sd, sm⟩; have SDM2 : Hid ((ds (d * m)).length ≤ 60 ∧ (ds r).length ≤ 60) := Lib.hid (by omega)
  have HCM : Hid (cmp3 (dn X) (dn Y) = kk) := Lib.hid hkk; have HKE : Hid ((kk == 0) = false) := Lib.hid (beq_eq_false_iff_ne.2 (by rw [← hkk]; intro e; have := cmp3_zero_iff.1 e; exact hq (dn_inj.1 (by omega))))
  have TB := Lib.hid hT; clear hT
  clear hx hy hX hY hq hg hd hm hh hr hnum hden hg0 sd sm sgg sr p1 p2 p3 p4 hkk
  go_enter Tryz.func11, Tryz.ntmps11
  have J := Frm.start (w := w) (V := []) fn
  refine wp_seq_h ?_; intro K1 hK1; go_wp2
  obtain ⟨W2, b2, eW2, eb2, sz2, J⟩ := Frm.putQ J rfl H1.out
  obtain ⟨W3, b3, eW3, eb3, sz3, J⟩ := Frm.putQ J sz2 H2.out
  obtain ⟨W4, b4, eW4, eb4, sz4, J⟩ := Frm.putQ0 J sz3
  rw [← eW2, ← eW3, ← eW4, ← eb4, ← eb3, ← eb2]
  clear eW2 eb2 sz2 eW3 eb3 sz3 eW4 eb4 sz4
  refine hK1.out _ _ ?_; clear hK1
  refine wp_seq_h ?_; intro K5 hK5
  refine region_c [11, 12, 13, 14, 15, 16] [.that (fracS X), .is (.bool false), .is (.bool false), .is undef, .is undef, .is (.bool false)] [] [] [] J ?_ ?_
  · refine .pl rfl (fun _ _ W Γ => ev_ldQ (Γ.s rfl) (Γ.l 0 rfl)) ?_
    refine .pl rfl (fun _ _ W Γ => ev_call1 (Γ.f _) run_qIsWhole (qIsWhole_val W _ X false HWX.out (Γ.w (d := 10) 0 rfl))) ?_
    refine .pl rfl (fun _ _ W Γ => ev_move _ (Γ.k 1 rfl)) ?_
    refine .off rfl rfl rfl rfl ?_
    refine .off rfl rfl rfl rfl ?_
    refine .pl rfl (fun _ _ W Γ => ev_pick (Γ.k 2 rfl) (Γ.c _)) ?_
    exact .nil
  clear J; intro K6 hK6; simp only [fx]; intro _ f6 W6 J; refine hK6.out _ _ ?_; clear hK6
  refine wp_cond_false rfl ?_
  refine wp_skip ?_
  refine hK5.out _ _ ?_; clear hK5
  refine wp_seq_h ?_; intro K7 hK7
  refine region_c [23, 24, 25, 26, 27, 28] [.is (.pointer (some ⟨b2, 3, none⟩)), .num (dn X), .is (.pointer (some ⟨b3, 3, none⟩)), .num (dn Y), .is (.int .i64 kk), .is (.bool false)] [] [] [] J ?_ ?_
  · refine .pl rfl (fun _ _ W Γ => ev_faQ1 (Γ.s rfl)) ?_
    refine .pl rfl (fun _ _ W Γ => ev_ldQ3 (Γ.k 0 rfl) (Γ.l 0 rfl)) ?_
    refine .pl rfl (fun _ _ W Γ => ev_faQ1 (Γ.s rfl)) ?_
    refine .pl rfl (fun _ _ W Γ => ev_ldQ3 (Γ.k 2 rfl) (Γ.l 1 rfl)) ?_
    refine .pl rfl (fun _ _ W Γ => ev_call2 (Γ.f _) run_nCmp (nCmp_val W _ _ (dn X) (dn Y) kk HCM.out (by have := ds_dn sx2; omega) (Γ.w (d := 23) 1 rfl) (Γ.w (d := 25) 3 rfl))) ?_
    refine .pl rfl (fun _ _ W Γ => ev_eql (Γ.k 4 rfl) (Γ.c _) HKE.out) ?_
    exact .nil
  clear J; intro K8 hK8; simp only [fx]; intro _ f8 W8 J; refine hK8.out _ _ ?_; clear hK8
  refine wp_cond_false rfl ?_
  refine wp_skip ?_
  refine hK7.out _ _ ?_; clear hK7
  refine region_c [40, 41, 42, 43, 6, 7, 0, 0] [.that (fracS X), .num X.den, .that (fracS Y), .num Y.den, .any, .any, .any, .any] [] [⟨.nat, 4, 6, .num X.den, .agg #[.int .u64 0, .slice none 0 0]⟩, ⟨.nat, 5, 7, .num Y.den, .agg #[.int .u64 0, .slice none 0 0]⟩] [] J ?_ ?_
  · refine .pl rfl (fun _ _ W Γ => ev_ldQ (Γ.s rfl) (Γ.l 0 rfl)) ?_
    refine .pl rfl (fun _ _ W Γ => ev_call1 (Γ.f _) run_qDen (qDen_val W _ X X.den rfl (Γ.w (d := 39) 0 rfl))) ?_
    refine .pl rfl (fun _ _ W Γ => ev_ldQ (Γ.s rfl) (Γ.l 1 rfl)) ?_
    refine .pl rfl (fun _ _ W Γ => ev_call1 (Γ.f _) run_qDen (qDen_val W _ Y Y.den rfl (Γ.w (d := 41) 2 rfl))) ?_
    refine .al 0 rfl rfl (fun _ _ => ev_alN) ?_
    refine .al 1 rfl rfl (fun _ _ => ev_alN) ?_
    refine .sn 0 rfl rfl (fun _ _ W Γ => ev_stN (Γ.q 0 rfl) (Γ.un 0 rfl) (Γ.w 1 rfl)) ?_
    refine .sn 1 rfl rfl (fun _ _ W Γ => ev_stN (Γ.q 1 rfl) (Γ.un 1 rfl) (Γ.w 3 rfl)) ?_
    exact .nil
  clear J; intro K9 hK9; simp only [fx]; intro β9 f9 W9 J; refine hK9.out _ _ ?_; clear hK9
  refine region_c [44, 45, 46, 47, 8, 0] [.num X.den, .int ((X.den : Nat) : Int), .num Y.den, .num g, .any, .any] [] [⟨.nat, 4, 5, .num g, .agg #[.int .u64 0, .slice none 0 0]⟩] [] J ?_ ?_
  · refine .pl rfl (fun _ _ W Γ => ev_ldN (Γ.s rfl) (Γ.l 3 rfl)) ?_
    refine .pl rfl (fun _ _ W Γ => ev_call1 (Γ.f _) run_qPositive (qPositive_val W _ X.den (Γ.w (d := 43) 0 rfl))) ?_
    refine .pl rfl (fun _ _ W Γ => ev_ldN (Γ.s rfl) (Γ.l 4 rfl)) ?_
    refine .pl rfl (fun _ _ W Γ => ev_call2 (Γ.f _) run_qDivisor (qDivisor_val W _ _ ((X.den : Nat) : Int) Y.den g HG.out (by rw [Int.natAbs_natCast]; omega) (by omega) (TB.out.mono Γ.be) (Γ.w (d := 44) 1 rfl) (Γ.w (d := 45) 2 rfl))) ?_
    refine .al 0 rfl rfl (fun _ _ => ev_alN) ?_
    refine .sn 0 rfl rfl (fun _ _ W Γ => ev_stN (Γ.q 0 rfl) (Γ.un 0 rfl) (Γ.w 3 rfl)) ?_
    exact .nil
  clear J; intro K10 hK10; simp only [fx]; intro β10 f10 W10 J; refine hK10.out _ _ ?_; clear hK10
  refine region_c [48, 49, 50, 51, 52, 53, 0, 0] [.num X.den, .num g, .num d, .num Y.den, .num g, .num m, .any, .any] [none, none, none, some (6, .num d), some (7, .num m)] [] [] J ?_ ?_
  · refine .pl rfl (fun _ _ W Γ => ev_ldN (Γ.s rfl) (Γ.u 3 rfl rfl).1) ?_
    refine .pl rfl (fun _ _ W Γ => ev_ldN (Γ.s rfl) (Γ.l 5 rfl)) ?_
    refine .pl rfl (fun _ _ W Γ => ev_call2 (Γ.f _) run_qPart (qPart_val W _ _ X.den g d HDD.out (by omega) HG0.out (Γ.w (d := 47) 0 rfl) (Γ.w (d := 48) 1 rfl))) ?_
    refine .pl rfl (fun _ _ W Γ => ev_ldN (Γ.s rfl) (Γ.u 4 rfl rfl).1) ?_
    refine .pl rfl (fun _ _ W Γ => ev_ldN (Γ.s rfl) (Γ.l 5 rfl)) ?_
    refine .pl rfl (fun _ _ W Γ => ev_call2 (Γ.f _) run_qPart (qPart_val W _ _ Y.den g m HM.out (by omega) HG0.out (Γ.w (d := 50) 3 rfl) (Γ.w (d := 51) 4 rfl))) ?_
    refine .st 3 rfl rfl rfl (fun _ _ W Γ => ev_stN (Γ.s rfl) (Γ.u 3 rfl rfl) (Γ.w 2 rfl)) ?_
    refine .st 4 rfl rfl rfl (fun _ _ W Γ => ev_stN (Γ.s rfl) (Γ.u 4 rfl rfl) (Γ.w 5 rfl)) ?_
    exact .nil
  clear J; intro K11 hK11; simp only [fx]; intro _ f11 W11 J; refine hK11.out _ _ ?_; clear hK11
  refine region_c [55, 56, 57, 58, 59, 60, 61, 62, 63, 64, 65, 66, 67, 54, 68, 69, 9, 10, 0, 0] [.is (.pointer (some ⟨b2, 0, none⟩)), .int X.num, .num m, .int ((m : Nat) : Int), .int (X.num * ((m : Nat) : Int)), .is (.pointer (some ⟨b3, 0, none⟩)), .int Y.num, .num d, .int ((d : Nat) : Int), .int (Y.num * ((d : Nat) : Int)), .int (X.num * ((m : Nat) : Int) + Y.num * ((d : Nat) : Int)), .num g, .two (.int ((X + Y).num)) (.num r), .two (.int ((X + Y).num)) (.num r), .int ((X + Y).num), .num r, .any, .any, .any, .any] [] [⟨.int, 16, 18, .int ((X + Y).num), .agg #[.bool false, .int .u64 0, .slice none 0 0]⟩, ⟨.nat, 17, 19, .num r, .agg #[.int .u64 0, .slice none 0 0]⟩] [] J ?_ ?_
  · refine .pl rfl (fun _ _ W Γ => ev_faQ0 (Γ.s rfl)) ?_
    refine .pl rfl (fun _ _ W Γ => ev_ldQ0 (Γ.k 0 rfl) (Γ.l 0 rfl)) ?_
    refine .pl rfl (fun _ _ W Γ => ev_ldN (Γ.s rfl) (Γ.l 4 rfl)) ?_
    refine .pl rfl (fun _ _ W Γ => ev_call1 (Γ.f _) run_qPositive (qPositive_val W _ m (Γ.w (d := 56) 2 rfl))) ?_
    refine .pl rfl (fun _ _ W Γ => ev_call2 (Γ.f _) run_iMul (iMul_want W _ _ X.num ((m : Nat) : Int) (by omega) SM.out (Γ.w (d := 55) 1 rfl) (Γ.w (d := 57) 3 rfl))) ?_
    refine .pl rfl (fun _ _ W Γ => ev_faQ0 (Γ.s rfl)) ?_
    refine .pl rfl (fun _ _ W Γ => ev_ldQ0 (Γ.k 5 rfl) (Γ.l 1 rfl)) ?_
    refine .pl rfl (fun _ _ W Γ => ev_ldN (Γ.s rfl) (Γ.l 3 rfl)) ?_
    refine .pl rfl (fun _ _ W Γ => ev_call1 (Γ.f _) run_qPositive (qPositive_val W _ d (Γ.w (d := 61) 7 rfl))) ?_
    refine .pl rfl (fun _ _ W Γ => ev_call2 (Γ.f _) run_iMul (iMul_want W _ _ Y.num ((d : Nat) : Int) (by omega) SD.out (Γ.w (d := 60) 6 rfl) (Γ.w (d := 62) 8 rfl))) ?_
    refine .pl rfl (fun _ _ W Γ => ev_call2 (Γ.f _) run_iAdd (iAdd_want W _ _ (X.num * ((m : Nat) : Int)) (Y.num * ((d : Nat) : Int)) ST.out.1 ST.out.2.1 (Γ.w (d := 58) 4 rfl) (Γ.w (d := 63) 9 rfl))) ?_
    refine .pl rfl (fun _ _ W Γ => ev_ldN (Γ.s rfl) (Γ.l 5 rfl)) ?_
    refine .pl rfl (fun _ _ W Γ => ev_call2 (Γ.f _) run_qCancel (qCancel_val W _ _ (X.num * ((m : Nat) : Int) + Y.num * ((d : Nat) : Int)) g h (X + Y).num r HH.out HN.out HR.out (by have := HG0.out; omega) ST.out.2.2 SGG.out (TB.out.mono Γ.be) (Γ.w (d := 64) 10 rfl) (Γ.w (d := 65) 11 rfl))) ?_
    refine .pl rfl (fun _ _ W Γ => ev_moveM (Γ.w 12 rfl)) ?_
    refine .pl rfl (fun _ _ W Γ => ev_ex20 (Γ.w 13 rfl)) ?_
    refine .pl rfl (fun _ _ W Γ => ev_ex21 (Γ.w 13 rfl)) ?_
    refine .al 0 rfl rfl (fun _ _ => ev_alI) ?_
    refine .al 1 rfl rfl (fun _ _ => ev_alN) ?_
    refine .sn 0 rfl rfl (fun _ _ W Γ => ev_stI (Γ.q 0 rfl) (Γ.un 0 rfl) (Γ.w 14 rfl)) ?_
    refine .sn 1 rfl rfl (fun _ _ W Γ => ev_stN (Γ.q 1 rfl) (Γ.un 1 rfl) (Γ.w 15 rfl)) ?_
    exact .nil
  clear J; intro K12 hK12; simp only [fx]; intro β12 f12 W12 J; refine hK12.out _ _ ?_; clear hK12
  refine region_c [70, 71, 72, 73, 74, 75, 76, 0] [.int ((X + Y).num), .num d, .num m, .num (d * m), .num r, .num ((X + Y).den), .that (fracS (X + Y)), .any] [none, none, some (7, .that (fracS (X + Y)))] [] [] J ?_ ?_
  · refine .pl rfl (fun _ _ W Γ => ev_ldI (Γ.s rfl) (Γ.l 6 rfl)) ?_
    refine .pl rfl (fun _ _ W Γ => ev_ldN (Γ.s rfl) (Γ.l 3 rfl)) ?_
    refine .pl rfl (fun _ _ W Γ => ev_ldN (Γ.s rfl) (Γ.l 4 rfl)) ?_
    refine .pl rfl (fun _ _ W Γ => ev_call2 (Γ.f _) run_nMul (nMul_gives W _ _ d m (by have := SDM.out; omega) (by have := SDM.out; omega) (Γ.w (d := 70) 1 rfl) (Γ.w (d := 71) 2 rfl))) ?_
    refine .pl rfl (fun _ _ W Γ => ev_ldN (Γ.s rfl) (Γ.l 7 rfl)) ?_
    refine .pl rfl (fun _ _ W Γ => ev_call2 (Γ.f _) run_nMul (show Calls Tryz.prog 61 #[_, _] W (Gives W (.num (X + Y).den)) from by have := nMul_gives W _ _ (d * m) r SDM2.out.1 SDM2.out.2 (Γ.w (d := 72) 3 rfl) (Γ.w (d := 73) 4 rfl); rw [← HDEN.out] at this; exact this)) ?_
    refine .pl rfl (fun _ _ W Γ => ev_call2 (Γ.f _) run_qOfLowest (qOfLowest_val W _ _ (X + Y).num (X + Y).den (X + Y) rfl rfl (Γ.w (d := 69) 0 rfl) (Γ.w (d := 74) 5 rfl))) ?_
    refine .st 2 rfl rfl rfl (fun _ _ W Γ => ev_stQ (Γ.s rfl) (Γ.u 2 rfl rfl) (Γ.w 6 rfl)) ?_
    exact .nil
  clear J; intro K13 hK13; simp only [fx]; intro _ f13 W13 J; refine hK13.out _ _ ?_; clear hK13
  refine wp_ret ?_
  obtain ⟨u0, hx0, hm0⟩ := J.out.get 2 rfl
  obtain ⟨gr0, sr0, pr0, lr0, cr0, tr0, qr0, kr0, dr0, rfl, c0_0, c0_1, c0_2, c0_3, c0_4⟩ := hx0.frac
  exact bodyPost_ret (v := .agg #[.bool gr0, .int .u64 sr0, .slice pr0 lr0 cr0, .int .u64 tr0, .slice qr0 kr0 dr0]) (by simp [results, Tryz.results11, go_sem, c0_0, c0_1, c0_2, c0_3, c0_4]) rfl ⟨_, rfl, hm0, J.out.be⟩
set_option maxRecDepth 100000 in
set_option maxHeartbeats 4000000 in
theorem qAdd_unlike_t (w : World) (u1 u2 : Value) (X Y : Rat) (hx : QB X 600) (hy : QB Y 600) (hX : X.den = 1) (hY : Y.den ≠ 1) (hq : X.den ≠ Y.den) (kk : Int) (hkk : cmp3 (dn X) (dn Y) = kk) (hT : Tab64 w) (h1 : Means w (.that (fracS X)) u1) (h2 : Means w (.that (fracS Y)) u2) :
    Calls Tryz.prog 11 #[u1, u2] w (Gives w (.that (fracS (X + Y)))) := by
  obtain ⟨g1, s1, p1, l1, c1, t1, q1, k1, d1, rfl, h1⟩ := h1
  obtain ⟨g2, s2, p2, l2, c2, t2, q2, k2, d2, rfl, h2⟩ := h2
  have H1 := Lib.hid h1; clear h1
  have H2 := Lib.hid h2; clear h2
  have _ := hY
  have hxs := hx.ds; have hys := hy.ds
  have sx1 := hxs.1; have sx2 := hxs.2; have sy1 := hys.1; have sy2 := hys.2; clear hxs hys
  have HWX : Hid (decide (X.den = 1) = true) := Lib.hid (decide_eq_true hX)
  have HWY : Hid (decide (Y.den = 1) = false) := Lib.hid (decide_eq_false hY)
  obtain ⟨g, hg⟩ : ∃ g, Nat.gcd X.den Y.den = g := ⟨_, rfl⟩
  obtain ⟨d, hd⟩ : ∃ d, X.den / g = d := ⟨_, rfl⟩
  obtain ⟨m, hm⟩ : ∃ m, Y.den / g = m := ⟨_, rfl⟩
  obtain ⟨h, hh⟩ : ∃ h, Nat.gcd (X.num * ((m : Nat) : Int) + Y.num * ((d : Nat) : Int)).natAbs g = h := ⟨_, rfl⟩
  obtain ⟨r, hr⟩ : ∃ r, g / h = r := ⟨_, rfl⟩
  obtain ⟨hnum, hden⟩ := qadd_parts hg hd hm rfl hh
  rw [hr] at hden
  have hg0 : 0 < g := by rw [← hg]; exact Nat.gcd_pos_of_pos_left _ X.den_pos
  have sd : (ds d).length ≤ 10 := Nat.le_trans (ds_mono (by rw [← hd]; exact Nat.div_le_self _ _)) sx2
  have sm : (ds m).length ≤ 10 := Nat.le_trans (ds_mono (by rw [← hm]; exact Nat.div_le_self _ _)) sy2
  have sgg : (ds g).length ≤ 10 := Nat.le_trans (ds_mono (by rw [← hg]; exact Nat.gcd_le_left _ X.den_pos)) sx2
  have sr : (ds r).length ≤ 10 := Nat.le_trans (ds_mono (by rw [← hr]; exact Nat.div_le_self _ _)) sgg
  have p1 := ds_natAbs_mul X.num ((m : Nat) : Int); have p2 := ds_natAbs_mul Y.num ((d : Nat) : Int)
  rw [Int.natAbs_natCast] at p1 p2
  have p3 := ds_natAbs_add (X.num * ((m : Nat) : Int)) (Y.num * ((d : Nat) : Int))
  have p4 := ds_mul d m
  have HG : Hid (Nat.gcd ((X.den : Nat) : Int).natAbs Y.den = g) := Lib.hid (by rw [Int.natAbs_natCast]; exact hg)
  have HDD := Lib.hid hd; have HM := Lib.hid hm; have HG0 := Lib.hid hg0; have HH := Lib.hid hh; have HR := Lib.hid hr; have HN := Lib.hid hnum.symm; have HDEN := Lib.hid hden
  have SM : Hid ((ds ((m : Nat) : Int).natAbs).length ≤ 60) := Lib.hid (by rw [Int.natAbs_natCast]; omega); have SD : Hid ((ds ((d : Nat) : Int).natAbs).length ≤ 60) := Lib.hid (by rw [Int.natAbs_natCast]; omega)
  have ST : Hid ((ds (X.num * ((m : Nat) : Int)).natAbs).length ≤ 60 ∧ (ds (Y.num * ((d : Nat) : Int)).natAbs).length ≤ 60 ∧ (ds (X.num * ((m : Nat) : Int) + Y.num * ((d : Nat) : Int)).natAbs).length ≤ 40) := Lib.hid (by omega)
  have SGG : Hid ((ds g).length ≤ 40) := Lib.hid (by omega); have SDM : Hid ((ds d).length ≤ 10 ∧ (ds m).length ≤ 10) := Lib.hid ⟨sd, sm⟩; have SDM2 : Hid ((ds (d * m)).length ≤ 60 ∧ (ds r).length ≤ 60) := Lib.hid (by omega)
  have HCM : Hid (cmp3 (dn X) (dn Y) = kk) := Lib.hid hkk; have HKE : Hid ((kk == 0) = false) := Lib.hid (beq_eq_false_iff_ne.2 (by rw [← hkk]; intro e; have := cmp3_zero_iff.1 e; exact hq (dn_inj.1 (by omega))))
  have TB := Lib.hid hT; clear hT
  clear hx hy hX hY hq hg hd hm hh hr hnum hden hg0 sd sm sgg sr p1 p2 p3 p4 hkk
  go_enter Tryz.func11, Tryz.ntmps11
  have J := Frm.start (w := w) (V := []) fn
  refine wp_seq_h ?_; intro K1 hK1; go_wp2
  obtain ⟨W2, b2, eW2, eb2, sz2, J⟩ := Frm.putQ J rfl H1.out
  obtain ⟨W3, b3, eW3, eb3, sz3, J⟩ := Frm.putQ J sz2 H2.out
  obtain ⟨W4, b4, eW4, eb4, sz4, J⟩ := Frm.putQ0 J sz3
  rw [← eW2, ← eW3, ← eW4, ← eb4, ← eb3, ← eb2]
  clear eW2 eb2 sz2 eW3 eb3 sz3 eW4 eb4 sz4
  refine hK1.out _ _ ?_; clear hK1
  refine wp_seq_h ?_; intro K5 hK5
  refine region_c [11, 12, 13, 14, 15, 16] [.that (fracS X), .is (.bool true), .is (.bool true), .that (fracS Y), .is (.bool false), .is (.bool false)] [] [] [] J ?_ ?_
  · refine .pl rfl (fun _ _ W Γ => ev_ldQ (Γ.s rfl) (Γ.l 0 rfl)) ?_
    refine .pl rfl (fun _ _ W Γ => ev_call1 (Γ.f _) run_qIsWhole (qIsWhole_val W _ X true HWX.out (Γ.w (d := 10) 0 rfl))) ?_
    refine .pl rfl (fun _ _ W Γ => ev_move _ (Γ.k 1 rfl)) ?_
    refine .gu rfl rfl rfl rfl (fun _ _ W Γ => ev_ldQ (Γ.s rfl) (Γ.l 1 rfl)) ?_
    refine .gu rfl rfl rfl rfl (fun _ _ W Γ => ev_call1 (Γ.f _) run_qIsWhole (qIsWhole_val W _ Y false HWY.out (Γ.w (d := 13) 3 rfl))) ?_
    refine .pl rfl (fun _ _ W Γ => ev_pick (Γ.k 2 rfl) (Γ.k 4 rfl)) ?_
    exact .nil
  clear J; intro K6 hK6; simp only [fx]; intro _ f6 W6 J; refine hK6.out _ _ ?_; clear hK6
  refine wp_cond_false rfl ?_
  refine wp_skip ?_
  refine hK5.out _ _ ?_; clear hK5
  refine wp_seq_h ?_; intro K7 hK7
  refine region_c [23, 24, 25, 26, 27, 28] [.is (.pointer (some ⟨b2, 3, none⟩)), .num (dn X), .is (.pointer (some ⟨b3, 3, none⟩)), .num (dn Y), .is (.int .i64 kk), .is (.bool false)] [] [] [] J ?_ ?_
  · refine .pl rfl (fun _ _ W Γ => ev_faQ1 (Γ.s rfl)) ?_
    refine .pl rfl (fun _ _ W Γ => ev_ldQ3 (Γ.k 0 rfl) (Γ.l 0 rfl)) ?_
    refine .pl rfl (fun _ _ W Γ => ev_faQ1 (Γ.s rfl)) ?_
    refine .pl rfl (fun _ _ W Γ => ev_ldQ3 (Γ.k 2 rfl) (Γ.l 1 rfl)) ?_
    refine .pl rfl (fun _ _ W Γ => ev_call2 (Γ.f _) run_nCmp (nCmp_val W _ _ (dn X) (dn Y) kk HCM.out (by have := ds_dn sx2; omega) (Γ.w (d := 23) 1 rfl) (Γ.w (d := 25) 3 rfl))) ?_
    refine .pl rfl (fun _ _ W Γ => ev_eql (Γ.k 4 rfl) (Γ.c _) HKE.out) ?_
    exact .nil
  clear J; intro K8 hK8; simp only [fx]; intro _ f8 W8 J; refine hK8.out _ _ ?_; clear hK8
  refine wp_cond_false rfl ?_
  refine wp_skip ?_
  refine hK7.out _ _ ?_; clear hK7
  refine region_c [40, 41, 42, 43, 6, 7, 0, 0] [.that (fracS X), .num X.den, .that (fracS Y), .num Y.den, .any, .any, .any, .any] [] [⟨.nat, 4, 6, .num X.den, .agg #[.int .u64 0, .slice none 0 0]⟩, ⟨.nat, 5, 7, .num Y.den, .agg #[.int .u64 0, .slice none 0 0]⟩] [] J ?_ ?_
  · refine .pl rfl (fun _ _ W Γ => ev_ldQ (Γ.s rfl) (Γ.l 0 rfl)) ?_
    refine .pl rfl (fun _ _ W Γ => ev_call1 (Γ.f _) run_qDen (qDen_val W _ X X.den rfl (Γ.w (d := 39) 0 rfl))) ?_
    refine .pl rfl (fun _ _ W Γ => ev_ldQ (Γ.s rfl) (Γ.l 1 rfl)) ?_
    refine .pl rfl (fun _ _ W Γ => ev_call1 (Γ.f _) run_qDen (qDen_val W _ Y Y.den rfl (Γ.w (d := 41) 2 rfl))) ?_
    refine .al 0 rfl rfl (fun _ _ => ev_alN) ?_
    refine .al 1 rfl rfl (fun _ _ => ev_alN) ?_
    refine .sn 0 rfl rfl (fun _ _ W Γ => ev_stN (Γ.q 0 rfl) (Γ.un 0 rfl) (Γ.w 1 rfl)) ?_
    refine .sn 1 rfl rfl (fun _ _ W Γ => ev_stN (Γ.q 1 rfl) (Γ.un 1 rfl) (Γ.w 3 rfl)) ?_
    exact .nil
  clear J; intro K9 hK9; simp only [fx]; intro β9 f9 W9 J; refine hK9.out _ _ ?_; clear hK9
  refine region_c [44, 45, 46, 47, 8, 0] [.num X.den, .int ((X.den : Nat) : Int), .num Y.den, .num g, .any, .any] [] [⟨.nat, 4, 5, .num g, .agg #[.int .u64 0, .slice none 0 0]⟩] [] J ?_ ?_
  · refine .pl rfl (fun _ _ W Γ => ev_ldN (Γ.s rfl) (Γ.l 3 rfl)) ?_
    refine .pl rfl (fun _ _ W Γ => ev_call1 (Γ.f _) run_qPositive (qPositive_val W _ X.den (Γ.w (d := 43) 0 rfl))) ?_
    refine .pl rfl (fun _ _ W Γ => ev_ldN (Γ.s rfl) (Γ.l 4 rfl)) ?_
    refine .pl rfl (fun _ _ W Γ => ev_call2 (Γ.f _) run_qDivisor (qDivisor_val W _ _ ((X.den : Nat) : Int) Y.den g HG.out (by rw [Int.natAbs_natCast]; omega) (by omega) (TB.out.mono Γ.be) (Γ.w (d := 44) 1 rfl) (Γ.w (d := 45) 2 rfl))) ?_
    refine .al 0 rfl rfl (fun _ _ => ev_alN) ?_
    refine .sn 0 rfl rfl (fun _ _ W Γ => ev_stN (Γ.q 0 rfl) (Γ.un 0 rfl) (Γ.w 3 rfl)) ?_
    exact .nil
  clear J; intro K10 hK10; simp only [fx]; intro β10 f10 W10 J; refine hK10.out _ _ ?_; clear hK10
  refine region_c [48, 49, 50, 51, 52, 53, 0, 0] [.num X.den, .num g, .num d, .num Y.den, .num g, .num m, .any, .any] [none, none, none, some (6, .num d), some (7, .num m)] [] [] J ?_ ?_
  · refine .pl rfl (fun _ _ W Γ => ev_ldN (Γ.s rfl) (Γ.u 3 rfl rfl).1) ?_
    refine .pl rfl (fun _ _ W Γ => ev_ldN (Γ.s rfl) (Γ.l 5 rfl)) ?_
    refine .pl rfl (fun _ _ W Γ => ev_call2 (Γ.f _) run_qPart (qPart_val W _ _ X.den g d HDD.out (by omega) HG0.out (Γ.w (d := 47) 0 rfl) (Γ.w (d := 48) 1 rfl))) ?_
    refine .pl rfl (fun _ _ W Γ => ev_ldN (Γ.s rfl) (Γ.u 4 rfl rfl).1) ?_
    refine .pl rfl (fun _ _ W Γ => ev_ldN (Γ.s rfl) (Γ.l 5 rfl)) ?_
    refine .pl rfl (fun _ _ W Γ => ev_call2 (Γ.f _) run_qPart (qPart_val W _ _ Y.den g m HM.out (by omega) HG0.out (Γ.w (d := 50) 3 rfl) (Γ.w (d := 51) 4 rfl))) ?_
    refine .st 3 rfl rfl rfl (fun _ _ W Γ => ev_stN (Γ.s rfl) (Γ.u 3 rfl rfl) (Γ.w 2 rfl)) ?_
    refine .st 4 rfl rfl rfl (fun _ _ W Γ => ev_stN (Γ.s rfl) (Γ.u 4 rfl rfl) (Γ.w 5 rfl)) ?_
    exact .nil
  clear J; intro K11 hK11; simp only [fx]; intro _ f11 W11 J; refine hK11.out _ _ ?_; clear hK11
  refine region_c [55, 56, 57, 58, 59, 60, 61, 62, 63, 64, 65, 66, 67, 54, 68, 69, 9, 10, 0, 0] [.is (.pointer (some ⟨b2, 0, none⟩)), .int X.num, .num m, .int ((m : Nat) : Int), .int (X.num * ((m : Nat) : Int)), .is (.pointer (some ⟨b3, 0, none⟩)), .int Y.num, .num d, .int ((d : Nat) : Int), .int (Y.num * ((d : Nat) : Int)), .int (X.num * ((m : Nat) : Int) + Y.num * ((d : Nat) : Int)), .num g, .two (.int ((X + Y).num)) (.num r), .two (.int ((X + Y).num)) (.num r), .int ((X + Y).num), .num r, .any, .any, .any, .any] [] [⟨.int, 16, 18, .int ((X + Y).num), .agg #[.bool false, .int .u64 0, .slice none 0 0]⟩, ⟨.nat, 17, 19, .num r, .agg #[.int .u64 0, .slice none 0 0]⟩] [] J ?_ ?_
  · refine .pl rfl (fun _ _ W Γ => ev_faQ0 (Γ.s rfl)) ?_
    refine .pl rfl (fun _ _ W Γ => ev_ldQ0 (Γ.k 0 rfl) (Γ.l 0 rfl)) ?_
    refine .pl rfl (fun _ _ W Γ => ev_ldN (Γ.s rfl) (Γ.l 4 rfl)) ?_
    refine .pl rfl (fun _ _ W Γ => ev_call1 (Γ.f _) run_qPositive (qPositive_val W _ m (Γ.w (d := 56) 2 rfl))) ?_
    refine .pl rfl (fun _ _ W Γ => ev_call2 (Γ.f _) run_iMul (iMul_want W _ _ X.num ((m : Nat) : Int) (by omega) SM.out (Γ.w (d := 55) 1 rfl) (Γ.w (d := 57) 3 rfl))) ?_
    refine .pl rfl (fun _ _ W Γ => ev_faQ0 (Γ.s rfl)) ?_
    refine .pl rfl (fun _ _ W Γ => ev_ldQ0 (Γ.k 5 rfl) (Γ.l 1 rfl)) ?_
    refine .pl rfl (fun _ _ W Γ => ev_ldN (Γ.s rfl) (Γ.l 3 rfl)) ?_
    refine .pl rfl (fun _ _ W Γ => ev_call1 (Γ.f _) run_qPositive (qPositive_val W _ d (Γ.w (d := 61) 7 rfl))) ?_
    refine .pl rfl (fun _ _ W Γ => ev_call2 (Γ.f _) run_iMul (iMul_want W _ _ Y.num ((d : Nat) : Int) (by omega) SD.out (Γ.w (d := 60) 6 rfl) (Γ.w (d := 62) 8 rfl))) ?_
    refine .pl rfl (fun _ _ W Γ => ev_call2 (Γ.f _) run_iAdd (iAdd_want W _ _ (X.num * ((m : Nat) : Int)) (Y.num * ((d : Nat) : Int)) ST.out.1 ST.out.2.1 (Γ.w (d := 58) 4 rfl) (Γ.w (d := 63) 9 rfl))) ?_
    refine .pl rfl (fun _ _ W Γ => ev_ldN (Γ.s rfl) (Γ.l 5 rfl)) ?_
    refine .pl rfl (fun _ _ W Γ => ev_call2 (Γ.f _) run_qCancel (qCancel_val W _ _ (X.num * ((m : Nat) : Int) + Y.num * ((d : Nat) : Int)) g h (X + Y).num r HH.out HN.out HR.out (by have := HG0.out; omega) ST.out.2.2 SGG.out (TB.out.mono Γ.be) (Γ.w (d := 64) 10 rfl) (Γ.w (d := 65) 11 rfl))) ?_
    refine .pl rfl (fun _ _ W Γ => ev_moveM (Γ.w 12 rfl)) ?_
    refine .pl rfl (fun _ _ W Γ => ev_ex20 (Γ.w 13 rfl)) ?_
    refine .pl rfl (fun _ _ W Γ => ev_ex21 (Γ.w 13 rfl)) ?_
    refine .al 0 rfl rfl (fun _ _ => ev_alI) ?_
    refine .al 1 rfl rfl (fun _ _ => ev_alN) ?_
    refine .sn 0 rfl rfl (fun _ _ W Γ => ev_stI (Γ.q 0 rfl) (Γ.un 0 rfl) (Γ.w 14 rfl)) ?_
    refine .sn 1 rfl rfl (fun _ _ W Γ => ev_stN (Γ.q 1 rfl) (Γ.un 1 rfl) (Γ.w 15 rfl)) ?_
    exact .nil
  clear J; intro K12 hK12; simp only [fx]; intro β12 f12 W12 J; refine hK12.out _ _ ?_; clear hK12
  refine region_c [70, 71, 72, 73, 74, 75, 76, 0] [.int ((X + Y).num), .num d, .num m, .num (d * m), .num r, .num ((X + Y).den), .that (fracS (X + Y)), .any] [none, none, some (7, .that (fracS (X + Y)))] [] [] J ?_ ?_
  · refine .pl rfl (fun _ _ W Γ => ev_ldI (Γ.s rfl) (Γ.l 6 rfl)) ?_
    refine .pl rfl (fun _ _ W Γ => ev_ldN (Γ.s rfl) (Γ.l 3 rfl)) ?_
    refine .pl rfl (fun _ _ W Γ => ev_ldN (Γ.s rfl) (Γ.l 4 rfl)) ?_
    refine .pl rfl (fun _ _ W Γ => ev_call2 (Γ.f _) run_nMul (nMul_gives W _ _ d m (by have := SDM.out; omega) (by have := SDM.out; omega) (Γ.w (d := 70) 1 rfl) (Γ.w (d := 71) 2 rfl))) ?_
    refine .pl rfl (fun _ _ W Γ => ev_ldN (Γ.s rfl) (Γ.l 7 rfl)) ?_
    refine .pl rfl (fun _ _ W Γ => ev_call2 (Γ.f _) run_nMul (show Calls Tryz.prog 61 #[_, _] W (Gives W (.num (X + Y).den)) from by have := nMul_gives W _ _ (d * m) r SDM2.out.1 SDM2.out.2 (Γ.w (d := 72) 3 rfl) (Γ.w (d := 73) 4 rfl); rw [← HDEN.out] at this; exact this)) ?_
    refine .pl rfl (fun _ _ W Γ => ev_call2 (Γ.f _) run_qOfLowest (qOfLowest_val W _ _ (X + Y).num (X + Y).den (X + Y) rfl rfl (Γ.w (d := 69) 0 rfl) (Γ.w (d := 74) 5 rfl))) ?_
    refine .st 2 rfl rfl rfl (fun _ _ W Γ => ev_stQ (Γ.s rfl) (Γ.u 2 rfl rfl) (Γ.w 6 rfl)) ?_
    exact .nil
  clear J; intro K13 hK13; simp only [fx]; intro _ f13 W13 J; refine hK13.out _ _ ?_; clear hK13
  refine wp_ret ?_
  obtain ⟨u0, hx0, hm0⟩ := J.out.get 2 rfl
  obtain ⟨gr0, sr0, pr0, lr0, cr0, tr0, qr0, kr0, dr0, rfl, c0_0, c0_1, c0_2, c0_3, c0_4⟩ := hx0.frac
  exact bodyPost_ret (v := .agg #[.bool gr0, .int .u64 sr0, .slice pr0 lr0 cr0, .int .u64 tr0, .slice qr0 kr0 dr0]) (by simp [results, Tryz.results11, go_sem, c0_0, c0_1, c0_2, c0_3, c0_4]) rfl ⟨_, rfl, hm0, J.out.be⟩

theorem qAdd_val (w : World) (u v : Value) (X Y : Rat) (hx : QB X 600) (hy : QB Y 600) (hT : Tab64 w) (h1 : Means w (.that (fracS X)) u) (h2 : Means w (.that (fracS Y)) v) : Calls Tryz.prog 11 #[u, v] w (Gives w (.that (fracS (X + Y)))) := by
  by_cases hX : X.den = 1
  · by_cases hY : Y.den = 1
    · exact qAdd_whole w u v X Y hx hy hX hY h1 h2
    · exact qAdd_unlike_t w u v X Y hx hy hX hY (by rw [hX]; exact fun e => hY e.symm) _ rfl hT h1 h2
  · by_cases hq : X.den = Y.den
    · exact qAdd_alike w u v X Y hx hy hX (by rw [← hq]; exact hX) hq hT h1 h2
    · exact qAdd_unlike_f w u v X Y hx hy hX trivial hq _ rfl hT h1 h2
set_option maxRecDepth 100000 in
set_option maxHeartbeats 4000000 in
theorem qMul_whole (w : World) (u1 u2 : Value) (X Y : Rat) (hx : QB X 600) (hy : QB Y 600) (hX : X.den = 1) (hY : Y.den = 1) (h1 : Means w (.that (fracS X)) u1) (h2 : Means w (.that (fracS Y)) u2) :
    Calls Tryz.prog 15 #[u1, u2] w (Gives w (.that (fracS (X * Y)))) := by
  obtain ⟨g1, s1, p1, l1, c1, t1, q1, k1, d1, rfl, h1⟩ := h1
  obtain ⟨g2, s2, p2, l2, c2, t2, q2, k2, d2, rfl, h2⟩ := h2
  have H1 := Lib.hid h1; clear h1
  have H2 := Lib.hid h2; clear h2
  have hxs := hx.ds; have hys := hy.ds
  have sx1 := hxs.1; have sx2 := hxs.2; have sy1 := hys.1; have sy2 := hys.2; clear hxs hys
  have HWX : Hid (decide (X.den = 1) = true) := Lib.hid (decide_eq_true hX)
  have HWY : Hid (decide (Y.den = 1) = true) := Lib.hid (decide_eq_true hY)
  have HP := Lib.hid (qmul_whole hX hY)
  clear hx hy hX hY
  go_enter Tryz.func15, Tryz.ntmps15
  have J := Frm.start (w := w) (V := []) fn
  refine wp_seq_h ?_; intro K1 hK1; go_wp2
  obtain ⟨W2, b2, eW2, eb2, sz2, J⟩ := Frm.putQ J rfl H1.out
  obtain ⟨W3, b3, eW3, eb3, sz3, J⟩ := Frm.putQ J sz2 H2.out
  obtain ⟨W4, b4, eW4, eb4, sz4, J⟩ := Frm.putQ0 J sz3
  rw [← eW2, ← eW3, ← eW4, ← eb4, ← eb3, ← eb2]
  clear eW2 eb2 sz2 eW3 eb3 sz3 eW4 eb4 sz4
  refine hK1.out _ _ ?_; clear hK1
  refine wp_seq_h ?_; intro K5 hK5
  refine region_c [10, 11, 12, 13, 14, 15] [.that (fracS X), .is (.bool true), .is (.bool true), .that (fracS Y), .is (.bool true), .is (.bool true)] [] [] [] J ?_ ?_
  · refine .pl rfl (fun _ _ W Γ => ev_ldQ (Γ.s rfl) (Γ.l 0 rfl)) ?_
    refine .pl rfl (fun _ _ W Γ => ev_call1 (Γ.f _) run_qIsWhole (qIsWhole_val W _ X true HWX.out (Γ.w (d := 9) 0 rfl))) ?_
    refine .pl rfl (fun _ _ W Γ => ev_move _ (Γ.k 1 rfl)) ?_
    refine .gu rfl rfl rfl rfl (fun _ _ W Γ => ev_ldQ (Γ.s rfl) (Γ.l 1 rfl)) ?_
    refine .gu rfl rfl rfl rfl (fun _ _ W Γ => ev_call1 (Γ.f _) run_qIsWhole (qIsWhole_val W _ Y true HWY.out (Γ.w (d := 12) 3 rfl))) ?_
    refine .pl rfl (fun _ _ W Γ => ev_pick (Γ.k 2 rfl) (Γ.k 4 rfl)) ?_
    exact .nil
  clear J; intro K6 hK6; simp only [fx]; intro _ f6 W6 J; refine hK6.out _ _ ?_; clear hK6
  refine wp_cond_true rfl ?_
  refine region_c [16, 17, 18, 19, 20, 21, 0] [.is (.pointer (some ⟨b2, 0, none⟩)), .int X.num, .is (.pointer (some ⟨b3, 0, none⟩)), .int Y.num, .int (X.num * Y.num), .that (fracS (X * Y)), .any] [none, none, some (6, .that (fracS (X * Y)))] [] [] J ?_ ?_
  · refine .pl rfl (fun _ _ W Γ => ev_faQ0 (Γ.s rfl)) ?_
    refine .pl rfl (fun _ _ W Γ => ev_ldQ0 (Γ.k 0 rfl) (Γ.l 0 rfl)) ?_
    refine .pl rfl (fun _ _ W Γ => ev_faQ0 (Γ.s rfl)) ?_
    refine .pl rfl (fun _ _ W Γ => ev_ldQ0 (Γ.k 2 rfl) (Γ.l 1 rfl)) ?_
    refine .pl rfl (fun _ _ W Γ => ev_call2 (Γ.f _) run_iMul (iMul_want W _ _ X.num Y.num (by omega) (by omega) (Γ.w (d := 16) 1 rfl) (Γ.w (d := 18) 3 rfl))) ?_
    refine .pl rfl (fun _ _ W Γ => ev_mkQ1 (Γ.w 4 rfl) HP.out.1 HP.out.2) ?_
    refine .st 2 rfl rfl rfl (fun _ _ W Γ => ev_stQ (Γ.s rfl) (Γ.u 2 rfl rfl) (Γ.w 5 rfl)) ?_
    exact .nil
  clear J; intro K7 hK7; simp only [fx]; intro _ f7 W7 J; refine hK7.out _ _ ?_; clear hK7
  refine wp_ret ?_
  obtain ⟨u0, hx0, hm0⟩ := J.out.get 2 rfl
  obtain ⟨gr0, sr0, pr0, lr0, cr0, tr0, qr0, kr0, dr0, rfl, c0_0, c0_1, c0_2, c0_3, c0_4⟩ := hx0.frac
  exact bodyPost_ret (v := .agg #[.bool gr0, .int .u64 sr0, .slice pr0 lr0 cr0, .int .u64 tr0, .slice qr0 kr0 dr0]) (by simp [results, Tryz.results15, go_sem, c0_0, c0_1, c0_2, c0_3, c0_4]) rfl ⟨_, rfl, hm0, J.out.be⟩
set_option maxRecDepth 100000 in
set_option maxHeartbeats 4000000 in
theorem qMul_f (w : World) (u1 u2 : Value) (X Y : Rat) (hx : QB X 600) (hy : QB Y 600) (hX : X.den ≠ 1) (hY : True) (hT : Tab64 w) (h1 : Means w (.that (fracS X)) u1) (h2 : Means w (.that (fracS Y)) u2) :
    Calls Tryz.prog 15 #[u1, u2] w (Gives w (.that (fracS (X * Y)))) := by
  obtain ⟨g1, s1, p1, l1, c1, t1, q1, k1, d1, rfl, h1⟩ := h1
  obtain ⟨g2, s2, p2, l2, c2, t2, q2, k2, d2, rfl, h2⟩ := h2
  have H1 := Lib.hid h1; clear h1
  have H2 := Lib.hid h2; clear h2
  have _ := hY
  have hxs := hx.ds; have hys := hy.ds
  have sx1 := hxs.1; have sx2 := hxs.2; have sy1 := hys.1; have sy2 := hys.2; clear hxs hys
  have HWX : Hid (decide (X.den = 1) = false) := Lib.hid (decide_eq_false hX)
  obtain ⟨g, hg⟩ : ∃ g, Nat.gcd X.num.natAbs Y.den = g := ⟨_, rfl⟩
  obtain ⟨h, hh⟩ : ∃ h, Nat.gcd Y.num.natAbs X.den = h := ⟨_, rfl⟩
  obtain ⟨hnum, hden⟩ := qmul_parts hg hh
  obtain ⟨n, hn⟩ : ∃ n, X.num / (g : Int) = n := ⟨_, rfl⟩; obtain ⟨m, hm⟩ : ∃ m, Y.num / (h : Int) = m := ⟨_, rfl⟩; obtain ⟨d, hd⟩ : ∃ d, X.den / h = d := ⟨_, rfl⟩; obtain ⟨e, he⟩ : ∃ e, Y.den / g = e := ⟨_, rfl⟩
  rw [hn, hm] at hnum; rw [hd, he] at hden
  have sd : (ds d).length ≤ 10 := Nat.le_trans (ds_mono (by rw [← hd]; exact Nat.div_le_self _ _)) sx2
  have se : (ds e).length ≤ 10 := Nat.le_trans (ds_mono (by rw [← he]; exact Nat.div_le_self _ _)) sy2
  have sn : (ds n.natAbs).length ≤ 10 := Nat.le_trans (ds_mono (by rw [← hn, Int.natAbs_ediv_of_dvd (Int.ofNat_dvd_left.2 (by rw [← hg]; exact Nat.gcd_dvd_left _ _)), Int.natAbs_natCast]; exact Nat.div_le_self _ _)) sx1
  have sm : (ds m.natAbs).length ≤ 10 := Nat.le_trans (ds_mono (by rw [← hm, Int.natAbs_ediv_of_dvd (Int.ofNat_dvd_left.2 (by rw [← hh]; exact Nat.gcd_dvd_left _ _)), Int.natAbs_natCast]; exact Nat.div_le_self _ _)) sy1
  have HG := Lib.hid hg; have HH := Lib.hid hh; have HZN := Lib.hid hn; have HZM := Lib.hid hm; have HZD := Lib.hid hd; have HZE := Lib.hid he; have HNUM := Lib.hid hnum; have HDEN := Lib.hid hden
  have SNM : Hid ((ds n.natAbs).length ≤ 60 ∧ (ds m.natAbs).length ≤ 60) := Lib.hid (by omega); have SDE : Hid ((ds d).length ≤ 60 ∧ (ds e).length ≤ 60) := Lib.hid (by omega)
  have TB := Lib.hid hT; clear hT
  clear hx hy hX hY hg hh hn hm hd he hnum hden sd se sn sm
  go_enter Tryz.func15, Tryz.ntmps15
  have J := Frm.start (w := w) (V := []) fn
  refine wp_seq_h ?_; intro K1 hK1; go_wp2
  obtain ⟨W2, b2, eW2, eb2, sz2, J⟩ := Frm.putQ J rfl H1.out
  obtain ⟨W3, b3, eW3, eb3, sz3, J⟩ := Frm.putQ J sz2 H2.out
  obtain ⟨W4, b4, eW4, eb4, sz4, J⟩ := Frm.putQ0 J sz3
  rw [← eW2, ← eW3, ← eW4, ← eb4, ← eb3, ← eb2]
  clear eW2 eb2 sz2 eW3 eb3 sz3 eW4 eb4 sz4
  refine hK1.out _ _ ?_; clear hK1
  refine wp_seq_h ?_; intro K5 hK5
  refine region_c [10, 11, 12, 13, 14, 15] [.that (fracS X), .is (.bool false), .is (.bool false), .is undef, .is undef, .is (.bool false)] [] [] [] J ?_ ?_
  · refine .pl rfl (fun _ _ W Γ => ev_ldQ (Γ.s rfl) (Γ.l 0 rfl)) ?_
    refine .pl rfl (fun _ _ W Γ => ev_call1 (Γ.f _) run_qIsWhole (qIsWhole_val W _ X false HWX.out (Γ.w (d := 9) 0 rfl))) ?_
    refine .pl rfl (fun _ _ W Γ => ev_move _ (Γ.k 1 rfl)) ?_
    refine .off rfl rfl rfl rfl ?_
    refine .off rfl rfl rfl rfl ?_
    refine .pl rfl (fun _ _ W Γ => ev_pick (Γ.k 2 rfl) (Γ.c _)) ?_
    exact .nil
  clear J; intro K6 hK6; simp only [fx]; intro _ f6 W6 J; refine hK6.out _ _ ?_; clear hK6
  refine wp_cond_false rfl ?_
  refine wp_skip ?_
  refine hK5.out _ _ ?_; clear hK5
  refine region_c [23, 24, 25, 26, 27, 22, 28, 29, 6, 7, 0, 0] [.is (.pointer (some ⟨b2, 0, none⟩)), .int X.num, .that (fracS Y), .num Y.den, .two (.int n) (.num e), .two (.int n) (.num e), .int n, .num e, .any, .any, .any, .any] [] [⟨.int, 8, 10, .int n, .agg #[.bool false, .int .u64 0, .slice none 0 0]⟩, ⟨.nat, 9, 11, .num e, .agg #[.int .u64 0, .slice none 0 0]⟩] [] J ?_ ?_
  · refine .pl rfl (fun _ _ W Γ => ev_faQ0 (Γ.s rfl)) ?_
    refine .pl rfl (fun _ _ W Γ => ev_ldQ0 (Γ.k 0 rfl) (Γ.l 0 rfl)) ?_
    refine .pl rfl (fun _ _ W Γ => ev_ldQ (Γ.s rfl) (Γ.l 1 rfl)) ?_
    refine .pl rfl (fun _ _ W Γ => ev_call1 (Γ.f _) run_qDen (qDen_val W _ Y Y.den rfl (Γ.w (d := 24) 2 rfl))) ?_
    refine .pl rfl (fun _ _ W Γ => ev_call2 (Γ.f _) run_qCancel (qCancel_val W _ _ X.num Y.den g n e HG.out HZN.out HZE.out Y.den_nz (by omega) (by omega) (TB.out.mono Γ.be) (Γ.w (d := 23) 1 rfl) (Γ.w (d := 25) 3 rfl))) ?_
    refine .pl rfl (fun _ _ W Γ => ev_moveM (Γ.w 4 rfl)) ?_
    refine .pl rfl (fun _ _ W Γ => ev_ex20 (Γ.w 5 rfl)) ?_
    refine .pl rfl (fun _ _ W Γ => ev_ex21 (Γ.w 5 rfl)) ?_
    refine .al 0 rfl rfl (fun _ _ => ev_alI) ?_
    refine .al 1 rfl rfl (fun _ _ => ev_alN) ?_
    refine .sn 0 rfl rfl (fun _ _ W Γ => ev_stI (Γ.q 0 rfl) (Γ.un 0 rfl) (Γ.w 6 rfl)) ?_
    refine .sn 1 rfl rfl (fun _ _ W Γ => ev_stN (Γ.q 1 rfl) (Γ.un 1 rfl) (Γ.w 7 rfl)) ?_
    exact .nil
  clear J; intro K7 hK7; simp only [fx]; intro β7 f7 W7 J; refine hK7.out _ _ ?_; clear hK7
  refine region_c [31, 32, 33, 34, 35, 30, 36, 37, 8, 9, 0, 0] [.is (.pointer (some ⟨b3, 0, none⟩)), .int Y.num, .that (fracS X), .num X.den, .two (.int m) (.num d), .two (.int m) (.num d), .int m, .num d, .any, .any, .any, .any] [] [⟨.int, 8, 10, .int m, .agg #[.bool false, .int .u64 0, .slice none 0 0]⟩, ⟨.nat, 9, 11, .num d, .agg #[.int .u64 0, .slice none 0 0]⟩] [] J ?_ ?_
  · refine .pl rfl (fun _ _ W Γ => ev_faQ0 (Γ.s rfl)) ?_
    refine .pl rfl (fun _ _ W Γ => ev_ldQ0 (Γ.k 0 rfl) (Γ.l 1 rfl)) ?_
    refine .pl rfl (fun _ _ W Γ => ev_ldQ (Γ.s rfl) (Γ.l 0 rfl)) ?_
    refine .pl rfl (fun _ _ W Γ => ev_call1 (Γ.f _) run_qDen (qDen_val W _ X X.den rfl (Γ.w (d := 32) 2 rfl))) ?_
    refine .pl rfl (fun _ _ W Γ => ev_call2 (Γ.f _) run_qCancel (qCancel_val W _ _ Y.num X.den h m d HH.out HZM.out HZD.out X.den_nz (by omega) (by omega) (TB.out.mono Γ.be) (Γ.w (d := 31) 1 rfl) (Γ.w (d := 33) 3 rfl))) ?_
    refine .pl rfl (fun _ _ W Γ => ev_moveM (Γ.w 4 rfl)) ?_
    refine .pl rfl (fun _ _ W Γ => ev_ex20 (Γ.w 5 rfl)) ?_
    refine .pl rfl (fun _ _ W Γ => ev_ex21 (Γ.w 5 rfl)) ?_
    refine .al 0 rfl rfl (fun _ _ => ev_alI) ?_
    refine .al 1 rfl rfl (fun _ _ => ev_alN) ?_
    refine .sn 0 rfl rfl (fun _ _ W Γ => ev_stI (Γ.q 0 rfl) (Γ.un 0 rfl) (Γ.w 6 rfl)) ?_
    refine .sn 1 rfl rfl (fun _ _ W Γ => ev_stN (Γ.q 1 rfl) (Γ.un 1 rfl) (Γ.w 7 rfl)) ?_
    exact .nil
  clear J; intro K8 hK8; simp only [fx]; intro β8 f8 W8 J; refine hK8.out _ _ ?_; clear hK8
  refine region_c [38, 39, 40, 41, 42, 43, 44, 0] [.int n, .int m, .int ((X * Y).num), .num d, .num e, .num ((X * Y).den), .that (fracS (X * Y)), .any] [none, none, some (7, .that (fracS (X * Y)))] [] [] J ?_ ?_
  · refine .pl rfl (fun _ _ W Γ => ev_ldI (Γ.s rfl) (Γ.l 3 rfl)) ?_
    refine .pl rfl (fun _ _ W Γ => ev_ldI (Γ.s rfl) (Γ.l 5 rfl)) ?_
    refine .pl rfl (fun _ _ W Γ => ev_call2 (Γ.f _) run_iMul (show Calls Tryz.prog 60 #[_, _] W (Gives W (.int (X * Y).num)) from by have := iMul_want W _ _ n m SNM.out.1 SNM.out.2 (Γ.w (d := 37) 0 rfl) (Γ.w (d := 38) 1 rfl); rw [← HNUM.out] at this; exact this.mono fun e w' ⟨v, h1, h2, h3⟩ => ⟨v, h1, h2, h3⟩)) ?_
    refine .pl rfl (fun _ _ W Γ => ev_ldN (Γ.s rfl) (Γ.l 6 rfl)) ?_
    refine .pl rfl (fun _ _ W Γ => ev_ldN (Γ.s rfl) (Γ.l 4 rfl)) ?_
    refine .pl rfl (fun _ _ W Γ => ev_call2 (Γ.f _) run_nMul (show Calls Tryz.prog 61 #[_, _] W (Gives W (.num (X * Y).den)) from by have := nMul_gives W _ _ d e SDE.out.1 SDE.out.2 (Γ.w (d := 40) 3 rfl) (Γ.w (d := 41) 4 rfl); rw [← HDEN.out] at this; exact this)) ?_
    refine .pl rfl (fun _ _ W Γ => ev_call2 (Γ.f _) run_qOfLowest (qOfLowest_val W _ _ (X * Y).num (X * Y).den (X * Y) rfl rfl (Γ.w (d := 39) 2 rfl) (Γ.w (d := 42) 5 rfl))) ?_
    refine .st 2 rfl rfl rfl (fun _ _ W Γ => ev_stQ (Γ.s rfl) (Γ.u 2 rfl rfl) (Γ.w 6 rfl)) ?_
    exact .nil
  clear J; intro K9 hK9; simp only [fx]; intro _ f9 W9 J; refine hK9.out _ _ ?_; clear hK9
  refine wp_ret ?_
  obtain ⟨u0, hx0, hm0⟩ := J.out.get 2 rfl
  obtain ⟨gr0, sr0, pr0, lr0, cr0, tr0, qr0, kr0, dr0, rfl, c0_0, c0_1, c0_2, c0_3, c0_4⟩ := hx0.frac
  exact bodyPost_ret (v := .agg #[.bool gr0, .int .u64 sr0, .slice pr0 lr0 cr0, .int .u64 tr0, .slice qr0 kr0 dr0]) (by simp [results, Tryz.results15, go_sem, c0_0, c0_1, c0_2, c0_3, c0_4]) rfl ⟨_, rfl, hm0, J.out.be⟩
set_option maxRecDepth 100000 in
set_option maxHeartbeats 4000000 in
theorem qMul_t (w : World) (u1 u2 : Value) (X Y : Rat) (hx : QB X 600) (hy : QB Y 600) (hX : X.den = 1) (hY : Y.den ≠ 1) (hT : Tab64 w) (h1 : Means w (.that (fracS X)) u1) (h2 : Means w (.that (fracS Y)) u2) :
    Calls Tryz.prog 15 #[u1, u2] w (Gives w (.that (fracS (X * Y)))) := by
  obtain ⟨g1, s1, p1, l1, c1, t1, q1, k1, d1, rfl, h1⟩ := h1
  obtain ⟨g2, s2, p2, l2, c2, t2, q2, k2, d2, rfl, h2⟩ := h2
  have H1 := Lib.hid h1; clear h1
  have H2 := Lib.hid h2; clear h2
  have _ := hY
  have hxs := hx.ds; have hys := hy.ds
  have sx1 := hxs.1; have sx2 := hxs.2; have sy1 := hys.1; have sy2 := hys.2; clear hxs hys
  have HWX : Hid (decide (X.den = 1) = true) := Lib.hid (decide_eq_true hX)
  have HWY : Hid (decide (Y.den = 1) = false) := Lib.hid (decide_eq_false hY)
  obtain ⟨g, hg⟩ : ∃ g, Nat.gcd X.num.natAbs Y.den = g := ⟨_, rfl⟩
  obtain ⟨h, hh⟩ : ∃ h, Nat.gcd Y.num.natAbs X.den = h := ⟨_, rfl⟩
  obtain ⟨hnum, hden⟩ := qmul_parts hg hh
  obtain ⟨n, hn⟩ : ∃ n, X.num / (g : Int) = n := ⟨_, rfl⟩; obtain ⟨m, hm⟩ : ∃ m, Y.num / (h : Int) = m := ⟨_, rfl⟩; obtain ⟨d, hd⟩ : ∃ d, X.den / h = d := ⟨_, rfl⟩; obtain ⟨e, he⟩ : ∃ e, Y.den / g = e := ⟨_, rfl⟩
  rw [hn, hm] at hnum; rw [hd, he] at hden
  have sd : (ds d).length ≤ 10 := Nat.le_trans (ds_mono (by rw [← hd]; exact Nat.div_le_self _ _)) sx2
  have se : (ds e).length ≤ 10 := Nat.le_trans (ds_mono (by rw [← he]; exact Nat.div_le_self _ _)) sy2
  have sn : (ds n.natAbs).length ≤ 10 := Nat.le_trans (ds_mono (by rw [← hn, Int.natAbs_ediv_of_dvd (Int.ofNat_dvd_left.2 (by rw [← hg]; exact Nat.gcd_dvd_left _ _)), Int.natAbs_natCast]; exact Nat.div_le_self _ _)) sx1
  have sm : (ds m.natAbs).length ≤ 10 := Nat.le_trans (ds_mono (by rw [← hm, Int.natAbs_ediv_of_dvd (Int.ofNat_dvd_left.2 (by rw [← hh]; exact Nat.gcd_dvd_left _ _)), Int.natAbs_natCast]; exact Nat.div_le_self _ _)) sy1
  have HG := Lib.hid hg; have HH := Lib.hid hh; have HZN := Lib.hid hn; have HZM := Lib.hid hm; have HZD := Lib.hid hd; have HZE := Lib.hid he; have HNUM := Lib.hid hnum; have HDEN := Lib.hid hden
  have SNM : Hid ((ds n.natAbs).length ≤ 60 ∧ (ds m.natAbs).length ≤ 60) := Lib.hid (by omega); have SDE : Hid ((ds d).length ≤ 60 ∧ (ds e).length ≤ 60) := Lib.hid (by omega)
  have TB := Lib.hid hT; clear hT
  clear hx hy hX hY hg hh hn hm hd he hnum hden sd se sn sm
  go_enter Tryz.func15, Tryz.ntmps15
  have J := Frm.start (w := w) (V := []) fn
  refine wp_seq_h ?_; intro K1 hK1; go_wp2
  obtain ⟨W2, b2, eW2, eb2, sz2, J⟩ := Frm.putQ J rfl H1.out
  obtain ⟨W3, b3, eW3, eb3, sz3, J⟩ := Frm.putQ J sz2 H2.out
  obtain ⟨W4, b4, eW4, eb4, sz4, J⟩ := Frm.putQ0 J sz3
  rw [← eW2, ← eW3, ← eW4, ← eb4, ← eb3, ← eb2]
  clear eW2 eb2 sz2 eW3 eb3 sz3 eW4 eb4 sz4
  refine hK1.out _ _ ?_; clear hK1
  refine wp_seq_h ?_; intro K5 hK5
  refine region_c [10, 11, 12, 13, 14, 15] [.that (fracS X), .is (.bool true), .is (.bool true), .that (fracS Y), .is (.bool false), .is (.bool false)] [] [] [] J ?_ ?_
  · refine .pl rfl (fun _ _ W Γ => ev_ldQ (Γ.s rfl) (Γ.l 0 rfl)) ?_
    refine .pl rfl (fun _ _ W Γ => ev_call1 (Γ.f _) run_qIsWhole (qIsWhole_val W _ X true HWX.out (Γ.w (d := 9) 0 rfl))) ?_
    refine .pl rfl (fun _ _ W Γ => ev_move _ (Γ.k 1 rfl)) ?_
    refine .gu rfl rfl rfl rfl (fun _ _ W Γ => ev_ldQ (Γ.s rfl) (Γ.l 1 rfl)) ?_
    refine .gu rfl rfl rfl rfl (fun _ _ W Γ => ev_call1 (Γ.f _) run_qIsWhole (qIsWhole_val W _ Y false HWY.out (Γ.w (d := 12) 3 rfl))) ?_
    refine .pl rfl (fun _ _ W Γ => ev_pick (Γ.k 2 rfl) (Γ.k 4 rfl)) ?_
    exact .nil
  clear J; intro K6 hK6; simp only [fx]; intro _ f6 W6 J; refine hK6.out _ _ ?_; clear hK6
  refine wp_cond_false rfl ?_
  refine wp_skip ?_
  refine hK5.out _ _ ?_; clear hK5
  refine region_c [23, 24, 25, 26, 27, 22, 28, 29, 6, 7, 0, 0] [.is (.pointer (some ⟨b2, 0, none⟩)), .int X.num, .that (fracS Y), .num Y.den, .two (.int n) (.num e), .two (.int n) (.num e), .int n, .num e, .any, .any, .any, .any] [] [⟨.int, 8, 10, .int n, .agg #[.bool false, .int .u64 0, .slice none 0 0]⟩, ⟨.nat, 9, 11, .num e, .agg #[.int .u64 0, .slice none 0 0]⟩] [] J ?_ ?_
  · refine .pl rfl (fun _ _ W Γ => ev_faQ0 (Γ.s rfl)) ?_
    refine .pl rfl (fun _ _ W Γ => ev_ldQ0 (Γ.k 0 rfl) (Γ.l 0 rfl)) ?_
    refine .pl rfl (fun _ _ W Γ => ev_ldQ (Γ.s rfl) (Γ.l 1 rfl)) ?_
    refine .pl rfl (fun _ _ W Γ => ev_call1 (Γ.f _) run_qDen (qDen_val W _ Y Y.den rfl (Γ.w (d := 24) 2 rfl))) ?_
    refine .pl rfl (fun _ _ W Γ => ev_call2 (Γ.f _) run_qCancel (qCancel_val W _ _ X.num Y.den g n e HG.out HZN.out HZE.out Y.den_nz (by omega) (by omega) (TB.out.mono Γ.be) (Γ.w (d := 23) 1 rfl) (Γ.w (d := 25) 3 rfl))) ?_
    refine .pl rfl (fun _ _ W Γ => ev_moveM (Γ.w 4 rfl)) ?_
    refine .pl rfl (fun _ _ W Γ => ev_ex20 (Γ.w 5 rfl)) ?_
    refine .pl rfl (fun _ _ W Γ => ev_ex21 (Γ.w 5 rfl)) ?_
    refine .al 0 rfl rfl (fun _ _ => ev_alI) ?_
    refine .al 1 rfl rfl (fun _ _ => ev_alN) ?_
    refine .sn 0 rfl rfl (fun _ _ W Γ => ev_stI (Γ.q 0 rfl) (Γ.un 0 rfl) (Γ.w 6 rfl)) ?_
    refine .sn 1 rfl rfl (fun _ _ W Γ => ev_stN (Γ.q 1 rfl) (Γ.un 1 rfl) (Γ.w 7 rfl)) ?_
    exact .nil
  clear J; intro K7 hK7; simp only [fx]; intro β7 f7 W7 J; refine hK7.out _ _ ?_; clear hK7
  refine region_c [31, 32, 33, 34, 35, 30, 36, 37, 8, 9, 0, 0] [.is (.pointer (some ⟨b3, 0, none⟩)), .int Y.num, .that (fracS X), .num X.den, .two (.int m) (.num d), .two (.int m) (.num d), .int m, .num d, .any, .any, .any, .any] [] [⟨.int, 8, 10, .int m, .agg #[.bool false, .int .u64 0, .slice none 0 0]⟩, ⟨.nat, 9, 11, .num d, .agg #[.int .u64 0, .slice none 0 0]⟩] [] J ?_ ?_
  · refine .pl rfl (fun _ _ W Γ => ev_faQ0 (Γ.s rfl)) ?_
    refine .pl rfl (fun _ _ W Γ => ev_ldQ0 (Γ.k 0 rfl) (Γ.l 1 rfl)) ?_
    refine .pl rfl (fun _ _ W Γ => ev_ldQ (Γ.s rfl) (Γ.l 0 rfl)) ?_
    refine .pl rfl (fun _ _ W Γ => ev_call1 (Γ.f _) run_qDen (qDen_val W _ X X.den rfl (Γ.w (d := 32) 2 rfl))) ?_
    refine .pl rfl (fun _ _ W Γ => ev_call2 (Γ.f _) run_qCancel (qCancel_val W _ _ Y.num X.den h m d HH.out HZM.out HZD.out X.den_nz (by omega) (by omega) (TB.out.mono Γ.be) (Γ.w (d := 31) 1 rfl) (Γ.w (d := 33) 3 rfl))) ?_
    refine .pl rfl (fun _ _ W Γ => ev_moveM (Γ.w 4 rfl)) ?_
    refine .pl rfl (fun _ _ W Γ => ev_ex20 (Γ.w 5 rfl)) ?_
    refine .pl rfl (fun _ _ W Γ => ev_ex21 (Γ.w 5 rfl)) ?_
    refine .al 0 rfl rfl (fun _ _ => ev_alI) ?_
    refine .al 1 rfl rfl (fun _ _ => ev_alN) ?_
    refine .sn 0 rfl rfl (fun _ _ W Γ => ev_stI (Γ.q 0 rfl) (Γ.un 0 rfl) (Γ.w 6 rfl)) ?_
    refine .sn 1 rfl rfl (fun _ _ W Γ => ev_stN (Γ.q 1 rfl) (Γ.un 1 rfl) (Γ.w 7 rfl)) ?_
    exact .nil
  clear J; intro K8 hK8; simp only [fx]; intro β8 f8 W8 J; refine hK8.out _ _ ?_; clear hK8
  refine region_c [38, 39, 40, 41, 42, 43, 44, 0] [.int n, .int m, .int ((X * Y).num), .num d, .num e, .num ((X * Y).den), .that (fracS (X * Y)), .any] [none, none, some (7, .that (fracS (X * Y)))] [] [] J ?_ ?_
  · refine .pl rfl (fun _ _ W Γ => ev_ldI (Γ.s rfl) (Γ.l 3 rfl)) ?_
    refine .pl rfl (fun _ _ W Γ => ev_ldI (Γ.s rfl) (Γ.l 5 rfl)) ?_
    refine .pl rfl (fun _ _ W Γ => ev_call2 (Γ.f _) run_iMul (show Calls Tryz.prog 60 #[_, _] W (Gives W (.int (X * Y).num)) from by have := iMul_want W _ _ n m SNM.out.1 SNM.out.2 (Γ.w (d := 37) 0 rfl) (Γ.w (d := 38) 1 rfl); rw [← HNUM.out] at this; exact this.mono fun e w' ⟨v, h1, h2, h3⟩ => ⟨v, h1, h2, h3⟩)) ?_
    refine .pl rfl (fun _ _ W Γ => ev_ldN (Γ.s rfl) (Γ.l 6 rfl)) ?_
    refine .pl rfl (fun _ _ W Γ => ev_ldN (Γ.s rfl) (Γ.l 4 rfl)) ?_
    refine .pl rfl (fun _ _ W Γ => ev_call2 (Γ.f _) run_nMul (show Calls Tryz.prog 61 #[_, _] W (Gives W (.num (X * Y).den)) from by have := nMul_gives W _ _ d e SDE.out.1 SDE.out.2 (Γ.w (d := 40) 3 rfl) (Γ.w (d := 41) 4 rfl); rw [← HDEN.out] at this; exact this)) ?_
    refine .pl rfl (fun _ _ W Γ => ev_call2 (Γ.f _) run_qOfLowest (qOfLowest_val W _ _ (X * Y).num (X * Y).den (X * Y) rfl rfl (Γ.w (d := 39) 2 rfl) (Γ.w (d := 42) 5 rfl))) ?_
    refine .st 2 rfl rfl rfl (fun _ _ W Γ => ev_stQ (Γ.s rfl) (Γ.u 2 rfl rfl) (Γ.w 6 rfl)) ?_
    exact .nil
  clear J; intro K9 hK9; simp only [fx]; intro _ f9 W9 J; refine hK9.out _ _ ?_; clear hK9
  refine wp_ret ?_
  obtain ⟨u0, hx0, hm0⟩ := J.out.get 2 rfl
  obtain ⟨gr0, sr0, pr0, lr0, cr0, tr0, qr0, kr0, dr0, rfl, c0_0, c0_1, c0_2, c0_3, c0_4⟩ := hx0.frac
  exact bodyPost_ret (v := .agg #[.bool gr0, .int .u64 sr0, .slice pr0 lr0 cr0, .int .u64 tr0, .slice qr0 kr0 dr0]) (by simp [results, Tryz.results15, go_sem, c0_0, c0_1, c0_2, c0_3, c0_4]) rfl ⟨_, rfl, hm0, J.out.be⟩

theorem qMul_val (w : World) (u v : Value) (X Y : Rat) (hx : QB X 600) (hy : QB Y 600) (hT : Tab64 w) (h1 : Means w (.that (fracS X)) u) (h2 : Means w (.that (fracS Y)) v) : Calls Tryz.prog 15 #[u, v] w (Gives w (.that (fracS (X * Y)))) := by
  by_cases hX : X.den = 1
  · by_cases hY : Y.den = 1
    · exact qMul_whole w u v X Y hx hy hX hY h1 h2
    · exact qMul_t w u v X Y hx hy hX hY hT h1 h2
  · exact qMul_f w u v X Y hx hy hX trivial hT h1 h2
set_option maxRecDepth 100000 in
set_option maxHeartbeats 4000000 in
theorem qSub_val (w : World) (u1 u2 : Value) (X Y : Rat) (hx : QB X 600) (hy : QB Y 600) (hT : Tab64 w) (h1 : Means w (.that (fracS X)) u1) (h2 : Means w (.that (fracS Y)) u2) :
    Calls Tryz.prog 13 #[u1, u2] w (Gives w (.that (fracS (X - Y)))) := by
  obtain ⟨g1, s1, p1, l1, c1, t1, q1, k1, d1, rfl, h1⟩ := h1
  obtain ⟨g2, s2, p2, l2, c2, t2, q2, k2, d2, rfl, h2⟩ := h2
  have H1 := Lib.hid h1; clear h1
  have H2 := Lib.hid h2; clear h2
  have HQ := Lib.hid (And.intro hx hy.neg)
  have TB := Lib.hid hT; clear hT
  clear hx hy
  go_enter Tryz.func13, Tryz.ntmps13
  have J := Frm.start (w := w) (V := []) fn
  refine wp_seq_h ?_; intro K1 hK1; go_wp2
  obtain ⟨W2, b2, eW2, eb2, sz2, J⟩ := Frm.putQ J rfl H1.out
  obtain ⟨W3, b3, eW3, eb3, sz3, J⟩ := Frm.putQ J sz2 H2.out
  obtain ⟨W4, b4, eW4, eb4, sz4, J⟩ := Frm.putQ0 J sz3
  rw [← eW2, ← eW3, ← eW4, ← eb4, ← eb3, ← eb2]
  clear eW2 eb2 sz2 eW3 eb3 sz3 eW4 eb4 sz4
  refine hK1.out _ _ ?_; clear hK1
  refine region_c [6, 7, 8, 9, 0] [.that (fracS X), .that (fracS Y), .that (fracS (-Y)), .that (fracS (X - Y)), .any] [none, none, some (4, .that (fracS (X - Y)))] [] [] J ?_ ?_
  · refine .pl rfl (fun _ _ W Γ => ev_ldQ (Γ.s rfl) (Γ.l 0 rfl)) ?_
    refine .pl rfl (fun _ _ W Γ => ev_ldQ (Γ.s rfl) (Γ.l 1 rfl)) ?_
    refine .pl rfl (fun _ _ W Γ => ev_call1 (Γ.f _) run_qNeg (qNeg_val W _ Y (Γ.w (d := 6) 1 rfl))) ?_
    refine .pl rfl (fun _ _ W Γ => ev_call2 (Γ.f _) run_qAdd (show Calls Tryz.prog 11 #[_, _] W (Gives W (.that (fracS (X - Y)))) from by have := qAdd_val W _ _ X (-Y) HQ.out.1 HQ.out.2 (TB.out.mono Γ.be) (Γ.w (d := 5) 0 rfl) (Γ.w (d := 7) 2 rfl); rw [← Rat.sub_eq_add_neg] at this; exact this)) ?_
    refine .st 2 rfl rfl rfl (fun _ _ W Γ => ev_stQ (Γ.s rfl) (Γ.u 2 rfl rfl) (Γ.w 3 rfl)) ?_
    exact .nil
  clear J; intro K5 hK5; simp only [fx]; intro _ f5 W5 J; refine hK5.out _ _ ?_; clear hK5
  refine wp_ret ?_
  obtain ⟨u0, hx0, hm0⟩ := J.out.get 2 rfl
  obtain ⟨gr0, sr0, pr0, lr0, cr0, tr0, qr0, kr0, dr0, rfl, c0_0, c0_1, c0_2, c0_3, c0_4⟩ := hx0.frac
  exact bodyPost_ret (v := .agg #[.bool gr0, .int .u64 sr0, .slice pr0 lr0 cr0, .int .u64 tr0, .slice qr0 kr0 dr0]) (by simp [results, Tryz.results13, go_sem, c0_0, c0_1, c0_2, c0_3, c0_4]) rfl ⟨_, rfl, hm0, J.out.be⟩
set_option maxRecDepth 100000 in
set_option maxHeartbeats 4000000 in
theorem qDiv_val (w : World) (u1 u2 : Value) (X Y : Rat) (hx : QB X 600) (hy : QB Y 600) (h0 : Y.num ≠ 0) (hT : Tab64 w) (h1 : Means w (.that (fracS X)) u1) (h2 : Means w (.that (fracS Y)) u2) :
    Calls Tryz.prog 8 #[u1, u2] w (Gives w (.two (.that (fracS (X / Y))) (.is (.bool true)))) := by
  obtain ⟨g1, s1, p1, l1, c1, t1, q1, k1, d1, rfl, h1⟩ := h1
  obtain ⟨g2, s2, p2, l2, c2, t2, q2, k2, d2, rfl, h2⟩ := h2
  have H1 := Lib.hid h1; clear h1
  have H2 := Lib.hid h2; clear h2
  have HQ := Lib.hid (And.intro hx hy.inv)
  obtain ⟨k, hk⟩ : ∃ k, cmp3 Y.num 0 = k := ⟨_, rfl⟩
  have hk0 : (k == 0) = false := beq_eq_false_iff_ne.2 (by rw [← hk]; exact fun e => h0 (cmp3_zero_iff.1 e))
  obtain ⟨b, hb⟩ : ∃ b, decide (k < 0) = b := ⟨_, rfl⟩
  have hb' : decide (Y.num < 0) = b := by rw [← hb, ← hk]; exact (cmp3_neg0 _).symm
  have HI : Hid (sgn b Y.den = Y⁻¹.num ∧ Y⁻¹.den = Y.num.natAbs) := Lib.hid (by obtain ⟨e1, e2⟩ := inv_parts h0; refine ⟨?_, e2⟩; rw [e1, ← hb']; unfold sgn; by_cases hh : Y.num < 0 <;> simp [hh])
  have HK := Lib.hid hk; have HK0 := Lib.hid hk0; have HBB := Lib.hid hb
  have TB := Lib.hid hT; clear hT
  clear hx hy h0 hk hk0 hb hb'
  go_enter Tryz.func8, Tryz.ntmps8
  have J := Frm.start (w := w) (V := []) fn
  refine wp_seq_h ?_; intro K1 hK1; go_wp2
  obtain ⟨W2, b2, eW2, eb2, sz2, J⟩ := Frm.putQ J rfl H1.out
  obtain ⟨W3, b3, eW3, eb3, sz3, J⟩ := Frm.putQ J sz2 H2.out
  obtain ⟨W4, b4, eW4, eb4, sz4, J⟩ := Frm.putQ0 J sz3
  rw [← eW2, ← eW3, ← eW4, ← eb4, ← eb3, ← eb2]
  clear eW2 eb2 sz2 eW3 eb3 sz3 eW4 eb4 sz4
  refine hK1.out _ _ ?_; clear hK1
  refine wp_seq_h ?_; intro K5 hK5
  refine region_c [8, 9, 10] [.that (fracS Y), .is (.int .i64 k), .is (.bool false)] [] [] [] J ?_ ?_
  · refine .pl rfl (fun _ _ W Γ => ev_ldQ (Γ.s rfl) (Γ.l 1 rfl)) ?_
    refine .pl rfl (fun _ _ W Γ => ev_call1 (Γ.f _) run_qSign (qSign_val W _ Y k HK.out (Γ.w (d := 7) 0 rfl))) ?_
    refine .pl rfl (fun _ _ W Γ => ev_eql (Γ.k 1 rfl) (Γ.c _) HK0.out) ?_
    exact .nil
  clear J; intro K6 hK6; simp only [fx]; intro _ f6 W6 J; refine hK6.out _ _ ?_; clear hK6
  refine wp_cond_false rfl ?_
  refine wp_skip ?_
  refine hK5.out _ _ ?_; clear hK5
  refine region_c [12, 13, 14, 15, 16, 17, 18, 19, 20, 21, 7, 0] [.that (fracS Y), .is (.int .i64 k), .is (.bool b), .that (fracS Y), .num Y.den, .int (Y⁻¹.num), .is (.pointer (some ⟨b3, 0, none⟩)), .int Y.num, .num (Y⁻¹.den), .that (fracS (Y⁻¹)), .any, .any] [] [⟨.frac, 10, 11, .that (fracS (Y⁻¹)), .agg #[.bool false, .int .u64 0, .slice none 0 0, .int .u64 0, .slice none 0 0]⟩] [] J ?_ ?_
  · refine .pl rfl (fun _ _ W Γ => ev_ldQ (Γ.s rfl) (Γ.l 1 rfl)) ?_
    refine .pl rfl (fun _ _ W Γ => ev_call1 (Γ.f _) run_qSign (qSign_val W _ Y k HK.out (Γ.w (d := 11) 0 rfl))) ?_
    refine .pl rfl (fun _ _ W Γ => ev_lss (Γ.k 1 rfl) (Γ.c _) HBB.out) ?_
    refine .pl rfl (fun _ _ W Γ => ev_ldQ (Γ.s rfl) (Γ.l 1 rfl)) ?_
    refine .pl rfl (fun _ _ W Γ => ev_call1 (Γ.f _) run_qDen (qDen_val W _ Y Y.den rfl (Γ.w (d := 14) 3 rfl))) ?_
    refine .pl rfl (fun _ _ W Γ => ev_call2 (Γ.f _) run_iFrom (by rw [(show _ = Value.bool b from (Γ.k (d := 13) 2 rfl))]; exact show Calls Tryz.prog 28 #[_, _] W (Gives W (.int Y⁻¹.num)) from by have := iFrom_want W _ b Y.den (Γ.w (d := 15) 4 rfl); rw [HI.out.1] at this; exact this.mono fun e w' ⟨v, h1, h2, h3⟩ => ⟨v, h1, h2, h3⟩)) ?_
    refine .pl rfl (fun _ _ W Γ => ev_faQ0 (Γ.s rfl)) ?_
    refine .pl rfl (fun _ _ W Γ => ev_ldQ0 (Γ.k 6 rfl) (Γ.l 1 rfl)) ?_
    refine .pl rfl (fun _ _ W Γ => ev_call1 (Γ.f _) run_iAbs (show Calls Tryz.prog 46 #[_] W (Gives W (.num Y⁻¹.den)) from by have := iAbs_want W _ Y.num (Γ.w (d := 18) 7 rfl); rw [← HI.out.2] at this; exact this.mono fun e w' ⟨v, h1, h2, h3⟩ => ⟨v, h1, h2, h3⟩)) ?_
    refine .pl rfl (fun _ _ W Γ => ev_call2 (Γ.f _) run_qOfLowest (qOfLowest_val W _ _ Y⁻¹.num Y⁻¹.den Y⁻¹ rfl rfl (Γ.w (d := 16) 5 rfl) (Γ.w (d := 19) 8 rfl))) ?_
    refine .al 0 rfl rfl (fun _ _ => ev_alQ) ?_
    refine .sn 0 rfl rfl (fun _ _ W Γ => ev_stQ (Γ.q 0 rfl) (Γ.un 0 rfl) (Γ.w 9 rfl)) ?_
    exact .nil
  clear J; intro K7 hK7; simp only [fx]; intro β7 f7 W7 J; refine hK7.out _ _ ?_; clear hK7
  refine region_c [22, 23, 24, 0, 6] [.that (fracS X), .that (fracS (Y⁻¹)), .that (fracS (X / Y)), .any, .is (.bool true)] [none, none, some (3, .that (fracS (X / Y)))] [] [] J ?_ ?_
  · refine .pl rfl (fun _ _ W Γ => ev_ldQ (Γ.s rfl) (Γ.l 0 rfl)) ?_
    refine .pl rfl (fun _ _ W Γ => ev_ldQ (Γ.s rfl) (Γ.l 3 rfl)) ?_
    refine .pl rfl (fun _ _ W Γ => ev_call2 (Γ.f _) run_qMul (show Calls Tryz.prog 15 #[_, _] W (Gives W (.that (fracS (X / Y)))) from by have := qMul_val W _ _ X Y⁻¹ HQ.out.1 HQ.out.2 (TB.out.mono Γ.be) (Γ.w (d := 21) 0 rfl) (Γ.w (d := 22) 1 rfl); rw [← Rat.div_def] at this; exact this)) ?_
    refine .st 2 rfl rfl rfl (fun _ _ W Γ => ev_stQ (Γ.s rfl) (Γ.u 2 rfl rfl) (Γ.w 2 rfl)) ?_
    refine .pl rfl (fun _ _ W Γ => ev_assign _ (Γ.c _)) ?_
    exact .nil
  clear J; intro K8 hK8; simp only [fx]; intro _ f8 W8 J; refine hK8.out _ _ ?_; clear hK8
  refine wp_ret ?_
  obtain ⟨u0, hx0, hm0⟩ := J.out.get 2 rfl
  obtain ⟨gr0, sr0, pr0, lr0, cr0, tr0, qr0, kr0, dr0, rfl, c0_0, c0_1, c0_2, c0_3, c0_4⟩ := hx0.frac
  exact bodyPost_ret (v := .tuple #[.agg #[.bool gr0, .int .u64 sr0, .slice pr0 lr0 cr0, .int .u64 tr0, .slice qr0 kr0 dr0], .bool true]) (by simp [results, Tryz.results8, go_sem, c0_0, c0_1, c0_2, c0_3, c0_4]) rfl ⟨_, rfl, ⟨_, _, rfl, hm0, rfl⟩, J.out.be⟩
set_option maxRecDepth 100000 in
set_option maxHeartbeats 4000000 in
theorem qCmp_signs (w : World) (u1 u2 : Value) (X Y : Rat) (hx : QB X 600) (hy : QB Y 600) (k : Int) (hk : qcmp X Y = k) (hs : cmp3 X.num 0 ≠ cmp3 Y.num 0) (h1 : Means w (.that (fracS X)) u1) (h2 : Means w (.that (fracS Y)) u2) :
    Calls Tryz.prog 17 #[u1, u2] w (Gives w (.is (.int .i64 k))) := by
  obtain ⟨g1, s1, p1, l1, c1, t1, q1, k1, d1, rfl, h1⟩ := h1
  obtain ⟨g2, s2, p2, l2, c2, t2, q2, k2, d2, rfl, h2⟩ := h2
  have H1 := Lib.hid h1; clear h1
  have H2 := Lib.hid h2; clear h2
  have hxs := hx.ds; have hys := hy.ds
  have sx1 := hxs.1; have sx2 := hxs.2; have sy1 := hys.1; have sy2 := hys.2; clear hxs hys
  obtain ⟨kX, hkX⟩ : ∃ k, cmp3 X.num 0 = k := ⟨_, rfl⟩; obtain ⟨kY, hkY⟩ : ∃ k, cmp3 Y.num 0 = k := ⟨_, rfl⟩
  have HKX := Lib.hid hkX; have HKY := Lib.hid hkY
  obtain rfl : cmp3 kX kY = k := by rw [← hk, qcmp_signs hs, hkX, hkY]
  have HNZ : Hid ((cmp3 kX kY != 0) = true) := Lib.hid (bne_iff_ne.2 (fun e => hs (by rw [hkX, hkY]; exact cmp3_zero_iff.1 e)))
  clear hx hy hkX hkY hk hs
  go_enter Tryz.func17, Tryz.ntmps17
  have J := Frm.start (w := w) (V := []) fn
  refine wp_seq_h ?_; intro K1 hK1; go_wp2
  obtain ⟨W2, b2, eW2, eb2, sz2, J⟩ := Frm.putQ J rfl H1.out
  obtain ⟨W3, b3, eW3, eb3, sz3, J⟩ := Frm.putQ J sz2 H2.out
  rw [← eW2, ← eW3, ← eb3, ← eb2]
  clear eW2 eb2 sz2 eW3 eb3 sz3
  refine hK1.out _ _ ?_; clear hK1
  refine wp_seq_h ?_; intro K4 hK4
  refine region_c [7, 8, 9, 10, 11, 6] [.that (fracS X), .is (.int .i64 kX), .that (fracS Y), .is (.int .i64 kY), .is (.int .i64 (cmp3 kX kY)), .is (.int .i64 (cmp3 kX kY))] [] [] [] J ?_ ?_
  · refine .pl rfl (fun _ _ W Γ => ev_ldQ (Γ.s rfl) (Γ.l 0 rfl)) ?_
    refine .pl rfl (fun _ _ W Γ => ev_call1 (Γ.f _) run_qSign (qSign_val W _ X kX HKX.out (Γ.w (d := 6) 0 rfl))) ?_
    refine .pl rfl (fun _ _ W Γ => ev_ldQ (Γ.s rfl) (Γ.l 1 rfl)) ?_
    refine .pl rfl (fun _ _ W Γ => ev_call1 (Γ.f _) run_qSign (qSign_val W _ Y kY HKY.out (Γ.w (d := 8) 2 rfl))) ?_
    refine .pl rfl (fun _ _ W Γ => ev_call2 (Γ.f _) run_cmpI (by rw [(show _ = Value.int .i64 kX from (Γ.k (d := 7) 1 rfl)), (show _ = Value.int .i64 kY from (Γ.k (d := 9) 3 rfl))]; exact cmpI_gives kX kY W)) ?_
    refine .pl rfl (fun _ _ W Γ => ev_assign _ (Γ.k 4 rfl)) ?_
    exact .nil
  clear J; intro K5 hK5; simp only [fx]; intro _ f5 W5 J; refine hK5.out _ _ ?_; clear hK5
  refine region_c [12, 13] [.is (.int .i64 (cmp3 kX kY)), .is (.bool true)] [] [] [] J ?_ ?_
  · refine .pl rfl (fun _ _ W Γ => ev_move _ (Γ.s rfl)) ?_
    refine .pl rfl (fun _ _ W Γ => ev_neq (Γ.k 0 rfl) (Γ.c _) HNZ.out) ?_
    exact .nil
  clear J; intro K6 hK6; simp only [fx]; intro _ f6 W6 J; refine hK6.out _ _ ?_; clear hK6
  refine wp_cond_true rfl ?_
  refine region_c [14, 5] [.is (.int .i64 (cmp3 kX kY)), .is (.int .i64 (cmp3 kX kY))] [] [] [] J ?_ ?_
  · refine .pl rfl (fun _ _ W Γ => ev_move _ (Γ.s rfl)) ?_
    refine .pl rfl (fun _ _ W Γ => ev_assign _ (Γ.k 0 rfl)) ?_
    exact .nil
  clear J; intro K7 hK7; simp only [fx]; intro _ f7 W7 J; refine hK7.out _ _ ?_; clear hK7
  refine wp_ret ?_
  exact bodyPost_ret (v := .int .i64 (cmp3 kX kY)) (by simp [results, Tryz.results17, go_sem]) rfl ⟨_, rfl, rfl, J.out.be⟩
set_option maxRecDepth 100000 in
set_option maxHeartbeats 4000000 in
theorem qCmp_alike (w : World) (u1 u2 : Value) (X Y : Rat) (hx : QB X 600) (hy : QB Y 600) (k : Int) (hk : qcmp X Y = k) (hs : cmp3 X.num 0 = cmp3 Y.num 0) (hq : X.den = Y.den) (h1 : Means w (.that (fracS X)) u1) (h2 : Means w (.that (fracS Y)) u2) :
    Calls Tryz.prog 17 #[u1, u2] w (Gives w (.is (.int .i64 k))) := by
  obtain ⟨g1, s1, p1, l1, c1, t1, q1, k1, d1, rfl, h1⟩ := h1
  obtain ⟨g2, s2, p2, l2, c2, t2, q2, k2, d2, rfl, h2⟩ := h2
  have H1 := Lib.hid h1; clear h1
  have H2 := Lib.hid h2; clear h2
  have hxs := hx.ds; have hys := hy.ds
  have sx1 := hxs.1; have sx2 := hxs.2; have sy1 := hys.1; have sy2 := hys.2; clear hxs hys
  obtain ⟨kX, hkX⟩ : ∃ k, cmp3 X.num 0 = k := ⟨_, rfl⟩; obtain ⟨kY, hkY⟩ : ∃ k, cmp3 Y.num 0 = k := ⟨_, rfl⟩
  have HKX := Lib.hid hkX; have HKY := Lib.hid hkY
  have HNZ : Hid ((cmp3 kX kY != 0) = false) := Lib.hid (by rw [← hkX, ← hkY, hs, cmp3_eq]; rfl)
  have HV : Hid (cmp3 X.num Y.num = k) := Lib.hid (by rw [← hk, qcmp_alike hq])
  have HCM : Hid (cmp3 (dn X) (dn Y) = 0) := Lib.hid (cmp3_zero_iff.2 (by rw [dn_inj.2 hq]))
  clear hq
  clear hx hy hkX hkY hk hs
  go_enter Tryz.func17, Tryz.ntmps17
  have J := Frm.start (w := w) (V := []) fn
  refine wp_seq_h ?_; intro K1 hK1; go_wp2
  obtain ⟨W2, b2, eW2, eb2, sz2, J⟩ := Frm.putQ J rfl H1.out
  obtain ⟨W3, b3, eW3, eb3, sz3, J⟩ := Frm.putQ J sz2 H2.out
  rw [← eW2, ← eW3, ← eb3, ← eb2]
  clear eW2 eb2 sz2 eW3 eb3 sz3
  refine hK1.out _ _ ?_; clear hK1
  refine wp_seq_h ?_; intro K4 hK4
  refine region_c [7, 8, 9, 10, 11, 6] [.that (fracS X), .is (.int .i64 kX), .that (fracS Y), .is (.int .i64 kY), .is (.int .i64 (cmp3 kX kY)), .is (.int .i64 (cmp3 kX kY))] [] [] [] J ?_ ?_
  · refine .pl rfl (fun _ _ W Γ => ev_ldQ (Γ.s rfl) (Γ.l 0 rfl)) ?_
    refine .pl rfl (fun _ _ W Γ => ev_call1 (Γ.f _) run_qSign (qSign_val W _ X kX HKX.out (Γ.w (d := 6) 0 rfl))) ?_
    refine .pl rfl (fun _ _ W Γ => ev_ldQ (Γ.s rfl) (Γ.l 1 rfl)) ?_
    refine .pl rfl (fun _ _ W Γ => ev_call1 (Γ.f _) run_qSign (qSign_val W _ Y kY HKY.out (Γ.w (d := 8) 2 rfl))) ?_
    refine .pl rfl (fun _ _ W Γ => ev_call2 (Γ.f _) run_cmpI (by rw [(show _ = Value.int .i64 kX from (Γ.k (d := 7) 1 rfl)), (show _ = Value.int .i64 kY from (Γ.k (d := 9) 3 rfl))]; exact cmpI_gives kX kY W)) ?_
    refine .pl rfl (fun _ _ W Γ => ev_assign _ (Γ.k 4 rfl)) ?_
    exact .nil
  clear J; intro K5 hK5; simp only [fx]; intro _ f5 W5 J; refine hK5.out _ _ ?_; clear hK5
  refine region_c [12, 13] [.is (.int .i64 (cmp3 kX kY)), .is (.bool false)] [] [] [] J ?_ ?_
  · refine .pl rfl (fun _ _ W Γ => ev_move _ (Γ.s rfl)) ?_
    refine .pl rfl (fun _ _ W Γ => ev_neq (Γ.k 0 rfl) (Γ.c _) HNZ.out) ?_
    exact .nil
  clear J; intro K6 hK6; simp only [fx]; intro _ f6 W6 J; refine hK6.out _ _ ?_; clear hK6
  refine wp_cond_false rfl ?_
  refine wp_skip ?_
  refine hK4.out _ _ ?_; clear hK4
  refine wp_seq_h ?_; intro K7 hK7
  refine region_c [15, 16, 17, 18, 19, 20] [.is (.pointer (some ⟨b2, 3, none⟩)), .num (dn X), .is (.pointer (some ⟨b3, 3, none⟩)), .num (dn Y), .is (.int .i64 0), .is (.bool true)] [] [] [] J ?_ ?_
  · refine .pl rfl (fun _ _ W Γ => ev_faQ1 (Γ.s rfl)) ?_
    refine .pl rfl (fun _ _ W Γ => ev_ldQ3 (Γ.k 0 rfl) (Γ.l 0 rfl)) ?_
    refine .pl rfl (fun _ _ W Γ => ev_faQ1 (Γ.s rfl)) ?_
    refine .pl rfl (fun _ _ W Γ => ev_ldQ3 (Γ.k 2 rfl) (Γ.l 1 rfl)) ?_
    refine .pl rfl (fun _ _ W Γ => ev_call2 (Γ.f _) run_nCmp (nCmp_val W _ _ (dn X) (dn Y) 0 HCM.out (by have := ds_dn sx2; omega) (Γ.w (d := 15) 1 rfl) (Γ.w (d := 17) 3 rfl))) ?_
    refine .pl rfl (fun _ E W Γ => by
      have e1 : E (.tmp 18) = .int .i64 0 := (Γ.k 4 rfl)
      have hc := Γ.c
      exact Does.value (w' := W) (by go_simp <;> first | rfl | (rw [IntKind.wrap_i64]; omega)) ⟨rfl, Below.refl _ _⟩) ?_
    exact .nil
  clear J; intro K8 hK8; simp only [fx]; intro _ f8 W8 J; refine hK8.out _ _ ?_; clear hK8
  refine wp_cond_true rfl ?_
  refine region_c [21, 22, 23, 24, 25, 5] [.is (.pointer (some ⟨b2, 0, none⟩)), .int X.num, .is (.pointer (some ⟨b3, 0, none⟩)), .int Y.num, .is (.int .i64 k), .is (.int .i64 k)] [] [] [] J ?_ ?_
  · refine .pl rfl (fun _ _ W Γ => ev_faQ0 (Γ.s rfl)) ?_
    refine .pl rfl (fun _ _ W Γ => ev_ldQ0 (Γ.k 0 rfl) (Γ.l 0 rfl)) ?_
    refine .pl rfl (fun _ _ W Γ => ev_faQ0 (Γ.s rfl)) ?_
    refine .pl rfl (fun _ _ W Γ => ev_ldQ0 (Γ.k 2 rfl) (Γ.l 1 rfl)) ?_
    refine .pl rfl (fun _ _ W Γ => ev_call2 (Γ.f _) run_iCmp (iCmp_val W _ _ X.num Y.num k HV.out (by omega) (by omega) (Γ.w (d := 21) 1 rfl) (Γ.w (d := 23) 3 rfl))) ?_
    refine .pl rfl (fun _ _ W Γ => ev_assign _ (Γ.k 4 rfl)) ?_
    exact .nil
  clear J; intro K9 hK9; simp only [fx]; intro _ f9 W9 J; refine hK9.out _ _ ?_; clear hK9
  refine wp_ret ?_
  exact bodyPost_ret (v := .int .i64 k) (by simp [results, Tryz.results17, go_sem]) rfl ⟨_, rfl, rfl, J.out.be⟩
set_option maxRecDepth 100000 in
set_option maxHeartbeats 4000000 in
theorem qCmp_unlike (w : World) (u1 u2 : Value) (X Y : Rat) (hx : QB X 600) (hy : QB Y 600) (k kk : Int) (hk : qcmp X Y = k) (hs : cmp3 X.num 0 = cmp3 Y.num 0) (hq : X.den ≠ Y.den) (hkk : cmp3 (dn X) (dn Y) = kk) (h1 : Means w (.that (fracS X)) u1) (h2 : Means w (.that (fracS Y)) u2) :
    Calls Tryz.prog 17 #[u1, u2] w (Gives w (.is (.int .i64 k))) := by
  obtain ⟨g1, s1, p1, l1, c1, t1, q1, k1, d1, rfl, h1⟩ := h1
  obtain ⟨g2, s2, p2, l2, c2, t2, q2, k2, d2, rfl, h2⟩ := h2
  have H1 := Lib.hid h1; clear h1
  have H2 := Lib.hid h2; clear h2
  have hxs := hx.ds; have hys := hy.ds
  have sx1 := hxs.1; have sx2 := hxs.2; have sy1 := hys.1; have sy2 := hys.2; clear hxs hys
  obtain ⟨kX, hkX⟩ : ∃ k, cmp3 X.num 0 = k := ⟨_, rfl⟩; obtain ⟨kY, hkY⟩ : ∃ k, cmp3 Y.num 0 = k := ⟨_, rfl⟩
  have HKX := Lib.hid hkX; have HKY := Lib.hid hkY
  have HNZ : Hid ((cmp3 kX kY != 0) = false) := Lib.hid (by rw [← hkX, ← hkY, hs, cmp3_eq]; rfl)
  have HV : Hid (cmp3 (X.num * ((Y.den : Nat) : Int)) (Y.num * ((X.den : Nat) : Int)) = k) := Lib.hid hk
  have HCM : Hid (cmp3 (dn X) (dn Y) = kk) := Lib.hid hkk; have HKE : Hid ((kk == 0) = false) := Lib.hid (beq_eq_false_iff_ne.2 (by rw [← hkk]; intro e; have := cmp3_zero_iff.1 e; exact hq (dn_inj.1 (by omega))))
  have p1 := ds_natAbs_mul X.num ((Y.den : Nat) : Int); have p2 := ds_natAbs_mul Y.num ((X.den : Nat) : Int)
  rw [Int.natAbs_natCast] at p1 p2
  have HSM : Hid ((ds (X.num * ((Y.den : Nat) : Int)).natAbs).length ≤ 60 ∧ (ds (Y.num * ((X.den : Nat) : Int)).natAbs).length ≤ 60) := Lib.hid (by omega)
  clear hq p1 p2 hkk
  clear hx hy hkX hkY hk hs
  go_enter Tryz.func17, Tryz.ntmps17
  have J := Frm.start (w := w) (V := []) fn
  refine wp_seq_h ?_; intro K1 hK1; go_wp2
  obtain ⟨W2, b2, eW2, eb2, sz2, J⟩ := Frm.putQ J rfl H1.out
  obtain ⟨W3, b3, eW3, eb3, sz3, J⟩ := Frm.putQ J sz2 H2.out
  rw [← eW2, ← eW3, ← eb3, ← eb2]
  clear eW2 eb2 sz2 eW3 eb3 sz3
  refine hK1.out _ _ ?_; clear hK1
  refine wp_seq_h ?_; intro K4 hK4
  refine region_c [7, 8, 9, 10, 11, 6] [.that (fracS X), .is (.int .i64 kX), .that (fracS Y), .is (.int .i64 kY), .is (.int .i64 (cmp3 kX kY)), .is (.int .i64 (cmp3 kX kY))] [] [] [] J ?_ ?_
  · refine .pl rfl (fun _ _ W Γ => ev_ldQ (Γ.s rfl) (Γ.l 0 rfl)) ?_
    refine .pl rfl (fun _ _ W Γ => ev_call1 (Γ.f _) run_qSign (qSign_val W _ X kX HKX.out (Γ.w (d := 6) 0 rfl))) ?_
    refine .pl rfl (fun _ _ W Γ => ev_ldQ (Γ.s rfl) (Γ.l 1 rfl)) ?_
    refine .pl rfl (fun _ _ W Γ => ev_call1 (Γ.f _) run_qSign (qSign_val W _ Y kY HKY.out (Γ.w (d := 8) 2 rfl))) ?_
    refine .pl rfl (fun _ _ W Γ => ev_call2 (Γ.f _) run_cmpI (by rw [(show _ = Value.int .i64 kX from (Γ.k (d := 7) 1 rfl)), (show _ = Value.int .i64 kY from (Γ.k (d := 9) 3 rfl))]; exact cmpI_gives kX kY W)) ?_
    refine .pl rfl (fun _ _ W Γ => ev_assign _ (Γ.k 4 rfl)) ?_
    exact .nil
  clear J; intro K5 hK5; simp only [fx]; intro _ f5 W5 J; refine hK5.out _ _ ?_; clear hK5
  refine region_c [12, 13] [.is (.int .i64 (cmp3 kX kY)), .is (.bool false)] [] [] [] J ?_ ?_
  · refine .pl rfl (fun _ _ W Γ => ev_move _ (Γ.s rfl)) ?_
    refine .pl rfl (fun _ _ W Γ => ev_neq (Γ.k 0 rfl) (Γ.c _) HNZ.out) ?_
    exact .nil
  clear J; intro K6 hK6; simp only [fx]; intro _ f6 W6 J; refine hK6.out _ _ ?_; clear hK6
  refine wp_cond_false rfl ?_
  refine wp_skip ?_
  refine hK4.out _ _ ?_; clear hK4
  refine wp_seq_h ?_; intro K7 hK7
  refine region_c [15, 16, 17, 18, 19, 20] [.is (.pointer (some ⟨b2, 3, none⟩)), .num (dn X), .is (.pointer (some ⟨b3, 3, none⟩)), .num (dn Y), .is (.int .i64 kk), .is (.bool false)] [] [] [] J ?_ ?_
  · refine .pl rfl (fun _ _ W Γ => ev_faQ1 (Γ.s rfl)) ?_
    refine .pl rfl (fun _ _ W Γ => ev_ldQ3 (Γ.k 0 rfl) (Γ.l 0 rfl)) ?_
    refine .pl rfl (fun _ _ W Γ => ev_faQ1 (Γ.s rfl)) ?_
    refine .pl rfl (fun _ _ W Γ => ev_ldQ3 (Γ.k 2 rfl) (Γ.l 1 rfl)) ?_
    refine .pl rfl (fun _ _ W Γ => ev_call2 (Γ.f _) run_nCmp (nCmp_val W _ _ (dn X) (dn Y) kk HCM.out (by have := ds_dn sx2; omega) (Γ.w (d := 15) 1 rfl) (Γ.w (d := 17) 3 rfl))) ?_
    refine .pl rfl (fun _ _ W Γ => ev_eql (Γ.k 4 rfl) (Γ.c _) HKE.out) ?_
    exact .nil
  clear J; intro K8 hK8; simp only [fx]; intro _ f8 W8 J; refine hK8.out _ _ ?_; clear hK8
  refine wp_cond_false rfl ?_
  refine wp_skip ?_
  refine hK7.out _ _ ?_; clear hK7
  refine region_c [26, 27, 28, 29, 30, 31, 32, 33, 34, 35, 36, 37, 38, 5] [.is (.pointer (some ⟨b2, 0, none⟩)), .int X.num, .that (fracS Y), .num Y.den, .int ((Y.den : Nat) : Int), .int (X.num * ((Y.den : Nat) : Int)), .is (.pointer (some ⟨b3, 0, none⟩)), .int Y.num, .that (fracS X), .num X.den, .int ((X.den : Nat) : Int), .int (Y.num * ((X.den : Nat) : Int)), .is (.int .i64 k), .is (.int .i64 k)] [] [] [] J ?_ ?_
  · refine .pl rfl (fun _ _ W Γ => ev_faQ0 (Γ.s rfl)) ?_
    refine .pl rfl (fun _ _ W Γ => ev_ldQ0 (Γ.k 0 rfl) (Γ.l 0 rfl)) ?_
    refine .pl rfl (fun _ _ W Γ => ev_ldQ (Γ.s rfl) (Γ.l 1 rfl)) ?_
    refine .pl rfl (fun _ _ W Γ => ev_call1 (Γ.f _) run_qDen (qDen_val W _ Y Y.den rfl (Γ.w (d := 27) 2 rfl))) ?_
    refine .pl rfl (fun _ _ W Γ => ev_call1 (Γ.f _) run_qPositive (qPositive_val W _ Y.den (Γ.w (d := 28) 3 rfl))) ?_
    refine .pl rfl (fun _ _ W Γ => ev_call2 (Γ.f _) run_iMul (iMul_want W _ _ X.num ((Y.den : Nat) : Int) (by omega) (by rw [Int.natAbs_natCast]; omega) (Γ.w (d := 26) 1 rfl) (Γ.w (d := 29) 4 rfl))) ?_
    refine .pl rfl (fun _ _ W Γ => ev_faQ0 (Γ.s rfl)) ?_
    refine .pl rfl (fun _ _ W Γ => ev_ldQ0 (Γ.k 6 rfl) (Γ.l 1 rfl)) ?_
    refine .pl rfl (fun _ _ W Γ => ev_ldQ (Γ.s rfl) (Γ.l 0 rfl)) ?_
    refine .pl rfl (fun _ _ W Γ => ev_call1 (Γ.f _) run_qDen (qDen_val W _ X X.den rfl (Γ.w (d := 33) 8 rfl))) ?_
    refine .pl rfl (fun _ _ W Γ => ev_call1 (Γ.f _) run_qPositive (qPositive_val W _ X.den (Γ.w (d := 34) 9 rfl))) ?_
    refine .pl rfl (fun _ _ W Γ => ev_call2 (Γ.f _) run_iMul (iMul_want W _ _ Y.num ((X.den : Nat) : Int) (by omega) (by rw [Int.natAbs_natCast]; omega) (Γ.w (d := 32) 7 rfl) (Γ.w (d := 35) 10 rfl))) ?_
    refine .pl rfl (fun _ _ W Γ => ev_call2 (Γ.f _) run_iCmp (iCmp_val W _ _ (X.num * ((Y.den : Nat) : Int)) (Y.num * ((X.den : Nat) : Int)) k HV.out HSM.out.1 HSM.out.2 (Γ.w (d := 30) 5 rfl) (Γ.w (d := 36) 11 rfl))) ?_
    refine .pl rfl (fun _ _ W Γ => ev_assign _ (Γ.k 12 rfl)) ?_
    exact .nil
  clear J; intro K9 hK9; simp only [fx]; intro _ f9 W9 J; refine hK9.out _ _ ?_; clear hK9
  refine wp_ret ?_
  exact bodyPost_ret (v := .int .i64 k) (by simp [results, Tryz.results17, go_sem]) rfl ⟨_, rfl, rfl, J.out.be⟩

theorem qCmp_val (w : World) (u v : Value) (X Y : Rat) (hx : QB X 600) (hy : QB Y 600) (k : Int) (hk : qcmp X Y = k) (h1 : Means w (.that (fracS X)) u) (h2 : Means w (.that (fracS Y)) v) : Calls Tryz.prog 17 #[u, v] w (Gives w (.is (.int .i64 k))) := by
  by_cases hs : cmp3 X.num 0 = cmp3 Y.num 0
  · by_cases hq : X.den = Y.den
    · exact qCmp_alike w u v X Y hx hy k hk hs hq h1 h2
    · exact qCmp_unlike w u v X Y hx hy k _ hk hs hq rfl h1 h2
  · exact qCmp_signs w u v X Y hx hy k hk hs h1 h2
end Go.Proofs.YtjhjlecnjkjbbaaGreatDoor
