/- WholeKnown: the examples of chapter 2 and more, run. -/
import Derived.Test.YthenfejgnjdkjaaGreatDoorDig
import Derived.Test.YthenfejgnjdkjaaGreatDoorWPow
import Derived.Test.YthenfejgnjdkjaaGreatDoorQFun
namespace Go.Proofs.YthenfejgnjdkjaaGreatDoor
open Go.RowKit

theorem run_Parse : RowKit.Hid (∀ (a : Array Value) (w : World), Sem.run Tryz.prog (callFunc 24 a) w = .ok (.enter 24 a) w) := fun a w => by go_simp
theorem run_iBezout : RowKit.Hid (∀ (a : Array Value) (w : World), Sem.run Tryz.prog (callFunc 10 a) w = .ok (.enter 10 a) w) := fun a w => by go_simp
theorem run_iIsZero : RowKit.Hid (∀ (a : Array Value) (w : World), Sem.run Tryz.prog (callFunc 20 a) w = .ok (.enter 20 a) w) := fun a w => by go_simp
theorem run_iOf : RowKit.Hid (∀ (a : Array Value) (w : World), Sem.run Tryz.prog (callFunc 4 a) w = .ok (.enter 4 a) w) := fun a w => by go_simp
theorem run_iParse : RowKit.Hid (∀ (a : Array Value) (w : World), Sem.run Tryz.prog (callFunc 6 a) w = .ok (.enter 6 a) w) := fun a w => by go_simp
theorem run_iPow : RowKit.Hid (∀ (a : Array Value) (w : World), Sem.run Tryz.prog (callFunc 9 a) w = .ok (.enter 9 a) w) := fun a w => by go_simp
theorem run_iSmall : RowKit.Hid (∀ (a : Array Value) (w : World), Sem.run Tryz.prog (callFunc 7 a) w = .ok (.enter 7 a) w) := fun a w => by go_simp
theorem run_iText : RowKit.Hid (∀ (a : Array Value) (w : World), Sem.run Tryz.prog (callFunc 12 a) w = .ok (.enter 12 a) w) := fun a w => by go_simp
theorem run_isDecimal : RowKit.Hid (∀ (a : Array Value) (w : World), Sem.run Tryz.prog (callFunc 47 a) w = .ok (.enter 47 a) w) := fun a w => by go_simp
theorem run_nAdd : RowKit.Hid (∀ (a : Array Value) (w : World), Sem.run Tryz.prog (callFunc 21 a) w = .ok (.enter 21 a) w) := fun a w => by go_simp
theorem run_nBits : RowKit.Hid (∀ (a : Array Value) (w : World), Sem.run Tryz.prog (callFunc 15 a) w = .ok (.enter 15 a) w) := fun a w => by go_simp
theorem run_sCutPrefix : RowKit.Hid (∀ (a : Array Value) (w : World), Sem.run Tryz.prog (callFunc 23 a) w = .ok (.enter 23 a) w) := fun a w => by go_simp
section
variable {E : Operand → Value} {w : World} {d : Option Tmp} {ty : TypeId} {pos : String} {af : Array Edge} {gd : Option (Nat × Bool)}
set_option maxRecDepth 100000 in
theorem ev_mkI {x y : Operand} {b : Bool} {n : Nat} {z : Int} (h1 : E x = .bool b) (h2 : Means w (.num n) (E y)) (hz : decide (z < 0) = b ∧ z.natAbs = n) : Does Tryz.prog ⟨d, .build 27 #[(0, x), (1, y)], ty, pos, af, gd⟩ E w fun v' w' => Means w' (.int z) v' ∧ Below w.heap.size w w' := by
  obtain ⟨rfl, rfl⟩ := hz
  obtain ⟨s, p, l, c, e, hN⟩ := h2
  exact Does.value (v := .agg #[.bool (decide (z < 0)), .int .u64 s, .slice p l c]) (w' := w) (by go_simp) ⟨⟨_, _, _, _, _, rfl, rfl, hN⟩, Below.refl _ _⟩
set_option maxRecDepth 100000 in
theorem ev_zeroI : Does Tryz.prog ⟨d, .build 27 #[], ty, pos, af, gd⟩ E w fun v' w' => Means w' (.int 0) v' ∧ Below w.heap.size w w' :=
  Does.value (v := .agg #[.bool false, .int .u64 0, .slice none 0 0]) (w' := w) (by go_simp) ⟨⟨_, _, _, _, _, rfl, rfl, Or.inl ⟨by show (0 : Nat) < 2 ^ 64; omega, rfl, rfl, rfl, rfl⟩⟩, Below.refl _ _⟩
end
theorem small_5 (w : World) : Calls Tryz.prog 51 #[.int .u64 5, .int .i64 10] w fun e w' => e = .returned (.string ⟨#[53]⟩) ∧ w = w' := by
  go_enter Tryz.func51, Tryz.ntmps51
  go_wp2
  go_ret
  exact ⟨rfl, rfl⟩
theorem small_8 (w : World) : Calls Tryz.prog 51 #[.int .u64 8, .int .i64 10] w fun e w' => e = .returned (.string ⟨#[56]⟩) ∧ w = w' := by
  go_enter Tryz.func51, Tryz.ntmps51
  go_wp2
  go_ret
  exact ⟨rfl, rfl⟩
set_option maxHeartbeats 2000000 in
theorem isDec_12 (w : World) : Calls Tryz.prog 47 #[.string ⟨#[49, 50]⟩] w (Gives w (.is (.bool true))) := by
  refine Calls.mono (R := fun e w' => e = .returned (.bool true) ∧ w = w') ?_ fun e w' ⟨h1, h2⟩ => ⟨_, h1, rfl, by rw [h2]; exact Below.refl _ _⟩
  go_enter Tryz.func47, Tryz.ntmps47
  go_wp2
  go_rounds 4
  all_goals (go_ret; exact ⟨rfl, rfl⟩)
theorem nAdd_gives (w : World) (u v : Value) (m n : Nat) (hm : (ds m).length ≤ 60) (hn : (ds n).length ≤ 60) (h1 : Num w u m) (h2 : Num w v n) : Calls Tryz.prog 21 #[u, v] w (Gives w (.num (m + n))) :=
  (add_want w u v m n hm hn h1 h2).mono fun _ _ ⟨v, h1, h2, h3⟩ => ⟨v, h1, h2, h3⟩
theorem iOf_gives (n : Int) (w : World) (h1 : -9223372036854775808 ≤ n) (h2 : n ≤ 9223372036854775807) : Calls Tryz.prog 4 #[.int .i64 n] w (Gives w (.int n)) := (iOf_any n w h1 h2).mono fun _ _ h => h.want
theorem iDiv_gives (w : World) (u v : Value) (x y q r : Int) (h0 : y ≠ 0) (hx : (ds x.natAbs).length ≤ 60) (hy : (ds y.natAbs).length ≤ 60) (hq : qdiv x y = q) (hr : qmod x y = r) (h1 : INum w u x) (h2 : INum w v y) : Calls Tryz.prog 5 #[u, v] w (Gives w (.three (.int q) (.int r) (.is (.bool true)))) := by
  subst hq hr; exact iDiv_want w u v x y h0 hx hy h1 h2
theorem iDiv_by0 (w : World) (u v : Value) (x : Int) (h1 : INum w u x) (h2 : INum w v 0) : Calls Tryz.prog 5 #[u, v] w (Gives w (.three (.int 0) (.int 0) (.is (.bool false)))) := by
  obtain ⟨g, s, p, l, c, rfl, h1⟩ := h1
  obtain ⟨f, t, q, k, d, rfl, h2⟩ := h2
  exact (iDiv_none x g f s t p q l c k d w h1 h2).mono fun _ _ ⟨_, _, _, _, _, _, _, _, _, _, h, a, b, hb⟩ => ⟨_, h, ⟨_, _, _, rfl, ⟨_, _, _, _, _, rfl, a⟩, ⟨_, _, _, _, _, rfl, b⟩, rfl⟩, hb⟩
theorem iPow_gives (w : World) (u : Value) (x : Int) (n : Nat) (z : Int) (hz : x ^ n = z) (hm1 : (ds x.natAbs).length ≤ 60) (hm : (ds x.natAbs).length * n ≤ 60) (hn : n ≤ 60) (h : INum w u x) : Calls Tryz.prog 9 #[u, .int .i64 (n : Int)] w (Gives w (.two (.int z) (.is (.bool true)))) := by
  subst hz
  obtain ⟨g, s, p, l, c, rfl, h⟩ := h
  exact (iPow_any x n g s p l c w hm1 hm hn h).mono fun _ _ ⟨_, _, _, _, _, h, a, hb⟩ => ⟨_, h, ⟨_, _, rfl, ⟨_, _, _, _, _, rfl, a⟩, rfl⟩, hb⟩
theorem bez_zero (w : World) (u v : Value) (x : Int) (hx : (ds x.natAbs).length ≤ 10) (h1 : INum w u x) (h2 : INum w v 0) : Calls Tryz.prog 10 #[u, v] w (Gives w (.three (.int ((x.natAbs : Nat) : Int)) (.int (cmp3 x 0)) (.int 0))) := by
  obtain ⟨g, s, p, l, c, rfl, h1⟩ := h1
  obtain ⟨f, t, q, k, d, rfl, h2⟩ := h2
  refine (bezout_none x g f s t p q l c k d w hx h1 h2).mono ?_
  rintro e w' ⟨X, Y, _, _, _, _, _, _, _, _, _, _, _, _, _, _, _, h, hs, a1, a2, a3, hb⟩
  obtain ⟨e1, e2⟩ := hs.1 rfl
  rw [Int.natAbs_zero, Nat.gcd_zero_right] at a1
  rw [e1] at a2; rw [e2] at a3
  exact ⟨_, h, ⟨_, _, _, rfl, ⟨_, _, _, _, _, rfl, a1⟩, ⟨_, _, _, _, _, rfl, a2⟩, ⟨_, _, _, _, _, rfl, a3⟩⟩, hb⟩
theorem nBits_gives (w : World) (u : Value) (n : Nat) (k : Int) (hk : ((bitLen n : Nat) : Int) = k) (hn : (ds n).length ≤ 60) (h : Num w u n) : Calls Tryz.prog 15 #[u] w (Gives w (.is (.int .i64 k))) := by
  subst hk
  obtain ⟨s, p, l, c, rfl, h⟩ := h
  exact (nbits_any n s p l c w h (by omega)).mono fun _ _ ⟨h, hb⟩ => ⟨_, h, rfl, hb⟩
theorem known2_gives (w : World) : Calls Tryz.prog 11 #[] w (Gives w (.is (.bool true))) := (known2_any w).mono fun _ _ ⟨h, hb⟩ => ⟨_, h, rfl, hb⟩
set_option maxRecDepth 100000 in
set_option maxHeartbeats 4000000 in
theorem parse_0 (w : World)   :
    Calls Tryz.prog 24 #[.string ⟨#[48]⟩] w (Gives w (.two (.num 0) (.is (.bool true)))) := by
  go_enter Tryz.func24, Tryz.ntmps24
  have J := Frm.start (w := w) (V := []) fn
  refine wp_seq_h ?_; intro K1 hK1; go_wp2
  obtain ⟨W2, b2, eW2, eb2, sz2, J⟩ := Frm.putN0 J rfl
  rw [← eW2, ← eb2]
  clear eW2 eb2 sz2
  refine hK1.out _ _ ?_; clear hK1
  refine wp_seq_h ?_; intro K3 hK3
  refine region_c [10, 11, 12] [.is (.string ⟨#[48]⟩), .is (.bool true), .is (.bool false)] [] [] [] J ?_ ?_
  · refine .pl rfl (fun _ _ W Γ => ev_move _ (Γ.s rfl)) ?_
    refine .pl rfl (fun _ _ W Γ => ev_call1 (Γ.f _) run_isDecimal (by rw [(show _ = Value.string ⟨#[48]⟩ from (Γ.k (d := 9) 0 rfl))]; exact isDec_0 W)) ?_
    refine .pl rfl (fun _ _ W Γ => ev_not (Γ.k 1 rfl) rfl) ?_
    exact .nil
  clear J; intro K4 hK4; simp only [fx]; intro _ f4 W4 J; refine hK4.out _ _ ?_; clear hK4
  refine wp_cond_false rfl ?_
  refine wp_skip ?_
  refine hK3.out _ _ ?_; clear hK3
  refine wp_seq_h ?_; intro K5 hK5; go_wp2
  obtain ⟨W6, b6, eW6, eb6, sz6, J⟩ := Frm.putN0 J rfl
  rw [← eW6, ← eb6]; clear eW6 eb6 sz6; refine hK5.out _ _ ?_; clear hK5
  refine wp_seq_h ?_; intro K7 hK7
  refine wp_block ?_
  refine wp_loop_rounds 3 ?_
  rw [rounds_succ]
  refine wp_seq_h ?_; intro K8 hK8
  refine region_c [14, 15, 16] [.is (.string ⟨#[48]⟩), .is (.int .i64 1), .is (.bool true)] [] [] [] J ?_ ?_
  · refine .pl rfl (fun _ _ W Γ => ev_move _ (Γ.s rfl)) ?_
    refine .pl rfl (fun _ E W Γ => by
      have e1 : E (.tmp 13) = .string ⟨#[48]⟩ := (Γ.k 0 rfl)
      have hc := Γ.c
      exact Does.value (w' := W) (by go_simp <;> first | rfl | (rw [IntKind.wrap_i64]; omega)) ⟨rfl, Below.refl _ _⟩) ?_
    refine .pl rfl (fun _ E W Γ => by
      have e1 : E (.tmp 14) = .int .i64 1 := (Γ.k 1 rfl)
      have hc := Γ.c
      exact Does.value (w' := W) (by go_simp <;> first | rfl | (rw [IntKind.wrap_i64]; omega)) ⟨rfl, Below.refl _ _⟩) ?_
    exact .nil
  clear J; intro K9 hK9; simp only [fx]; intro _ f9 W9 J; refine hK9.out _ _ ?_; clear hK9
  refine wp_cond_true rfl ?_
  refine wp_skip ?_
  refine hK8.out _ _ ?_; clear hK8
  refine wp_block ?_
  refine region_c [17, 18, 19, 6] [.is (.string ⟨#[48]⟩), .is (.int .i64 1), .is (.int .i64 1), .is (.int .i64 1)] [] [] [] J ?_ ?_
  · refine .pl rfl (fun _ _ W Γ => ev_move _ (Γ.s rfl)) ?_
    refine .pl rfl (fun _ E W Γ => by
      have e1 : E (.tmp 16) = .string ⟨#[48]⟩ := (Γ.k 0 rfl)
      have hc := Γ.c
      exact Does.value (w' := W) (by go_simp <;> first | rfl | (rw [IntKind.wrap_i64]; omega)) ⟨rfl, Below.refl _ _⟩) ?_
    refine .pl rfl (fun _ E W Γ => by
      have e1 : E (.tmp 17) = .int .i64 1 := (Γ.k 1 rfl)
      have hc := Γ.c
      exact Does.value (w' := W) (by go_simp <;> first | rfl | (rw [IntKind.wrap_i64]; omega)) ⟨rfl, Below.refl _ _⟩) ?_
    refine .pl rfl (fun _ _ W Γ => ev_assign _ (Γ.k 2 rfl)) ?_
    exact .nil
  clear J; intro K10 hK10; simp only [fx]; intro _ f10 W10 J; refine hK10.out _ _ ?_; clear hK10
  refine region_c [7, 8] [.is (.int .u64 0), .is (.int .u64 1)] [] [] [] J ?_ ?_
  · refine .pl rfl (fun _ _ W Γ => ev_assign _ (Γ.c _)) ?_
    refine .pl rfl (fun _ _ W Γ => ev_assign _ (Γ.c _)) ?_
    exact .nil
  clear J; intro K11 hK11; simp only [fx]; intro _ f11 W11 J; refine hK11.out _ _ ?_; clear hK11
  refine wp_seq_h ?_; intro K12 hK12
  refine region_c [20, 21] [.is (.int .i64 1), .is (.int .i64 0)] [] [] [] J ?_ ?_
  · refine .pl rfl (fun _ _ W Γ => ev_move _ (Γ.s rfl)) ?_
    refine .pl rfl (fun _ _ W Γ => ev_move _ (Γ.c _)) ?_
    exact .nil
  clear J; intro K13 hK13; simp only [fx]; intro _ f13 W13 J; refine hK13.out _ _ ?_; clear hK13
  refine wp_block ?_
  refine wp_loop_rounds 4 ?_
  rw [rounds_succ]
  refine region_c [22] [.is (.bool true)] [] [] [] J ?_ ?_
  · refine .pl rfl (fun _ E W Γ => by
      have e1 : E (.tmp 20) = .int .i64 0 := (Γ.s rfl)
      have e2 : E (.tmp 19) = .int .i64 1 := (Γ.s rfl)
      have hc := Γ.c
      exact Does.value (w' := W) (by go_simp <;> first | rfl | (rw [IntKind.wrap_i64]; omega)) ⟨rfl, Below.refl _ _⟩) ?_
    exact .nil
  clear J; intro K14 hK14; simp only [fx]; intro _ f14 W14 J; refine hK14.out _ _ ?_; clear hK14
  refine wp_seq_h ?_; intro K15 hK15
  refine wp_cond_true rfl ?_
  refine wp_skip ?_
  refine hK15.out _ _ ?_; clear hK15
  refine wp_seq_h ?_; intro K16 hK16
  refine wp_block ?_
  refine region_c [23, 9] [.is (.int .i64 0), .is (.int .i64 0)] [] [] [] J ?_ ?_
  · refine .pl rfl (fun _ _ W Γ => ev_move _ (Γ.s rfl)) ?_
    refine .pl rfl (fun _ _ W Γ => ev_assign _ (Γ.k 0 rfl)) ?_
    exact .nil
  clear J; intro K17 hK17; simp only [fx]; intro _ f17 W17 J; refine hK17.out _ _ ?_; clear hK17
  refine region_c [24, 25, 26, 27, 28, 29, 30, 31, 7] [.is (.int .u64 0), .is (.int .u64 0), .is (.string ⟨#[48]⟩), .is (.int .i64 0), .is (.int .u8 48), .is (.int .u8 0), .is (.int .u64 0), .is (.int .u64 0), .is (.int .u64 0)] [] [] [] J ?_ ?_
  · refine .pl rfl (fun _ _ W Γ => ev_move _ (Γ.s rfl)) ?_
    refine .pl rfl (fun _ E W Γ => by
      have e1 : E (.tmp 23) = .int .u64 0 := (Γ.k 0 rfl)
      have hc := Γ.c
      exact Does.value (w' := W) (by go_simp <;> first | rfl | (rw [IntKind.wrap_i64]; omega)) ⟨rfl, Below.refl _ _⟩) ?_
    refine .pl rfl (fun _ _ W Γ => ev_move _ (Γ.s rfl)) ?_
    refine .pl rfl (fun _ _ W Γ => ev_move _ (Γ.s rfl)) ?_
    refine .pl rfl (fun _ E W Γ => by
      have e1 : E (.tmp 25) = .string ⟨#[48]⟩ := (Γ.k 2 rfl)
      have e2 : E (.tmp 26) = .int .i64 0 := (Γ.k 3 rfl)
      have hc := Γ.c
      exact Does.value (w' := W) (by go_simp <;> first | rfl | (rw [IntKind.wrap_i64]; omega)) ⟨rfl, Below.refl _ _⟩) ?_
    refine .pl rfl (fun _ E W Γ => by
      have e1 : E (.tmp 27) = .int .u8 48 := (Γ.k 4 rfl)
      have hc := Γ.c
      exact Does.value (w' := W) (by go_simp <;> first | rfl | (rw [IntKind.wrap_i64]; omega)) ⟨rfl, Below.refl _ _⟩) ?_
    refine .pl rfl (fun _ E W Γ => by
      have e1 : E (.tmp 28) = .int .u8 0 := (Γ.k 5 rfl)
      have hc := Γ.c
      exact Does.value (w' := W) (by go_simp <;> first | rfl | (rw [IntKind.wrap_i64]; omega)) ⟨rfl, Below.refl _ _⟩) ?_
    refine .pl rfl (fun _ E W Γ => by
      have e1 : E (.tmp 24) = .int .u64 0 := (Γ.k 1 rfl)
      have e2 : E (.tmp 29) = .int .u64 0 := (Γ.k 6 rfl)
      have hc := Γ.c
      exact Does.value (w' := W) (by go_simp <;> first | rfl | (rw [IntKind.wrap_i64]; omega)) ⟨rfl, Below.refl _ _⟩) ?_
    refine .pl rfl (fun _ _ W Γ => ev_assign _ (Γ.k 7 rfl)) ?_
    exact .nil
  clear J; intro K18 hK18; simp only [fx]; intro _ f18 W18 J; refine hK18.out _ _ ?_; clear hK18
  refine region_f [32, 33, 8] [.is (.int .u64 1), .is (.int .u64 10), .is (.int .u64 10)] [] [] [] J ?_ ?_
  · refine .pl rfl (fun _ _ W Γ => ev_move _ (Γ.s rfl)) ?_
    refine .pl rfl (fun _ E W Γ => by
      have e1 : E (.tmp 31) = .int .u64 1 := (Γ.k 0 rfl)
      have hc := Γ.c
      exact Does.value (w' := W) (by go_simp <;> first | rfl | (rw [IntKind.wrap_i64]; omega)) ⟨rfl, Below.refl _ _⟩) ?_
    refine .pl rfl (fun _ _ W Γ => ev_assign _ (Γ.k 1 rfl)) ?_
    exact .nil
  clear J; simp only [fx]; intro _ f19 W19 J
  refine hK16.out _ _ ?_; clear hK16
  refine region_f [34, 21] [.is (.int .i64 1), .is (.int .i64 1)] [] [] [] J ?_ ?_
  · refine .pl rfl (fun _ E W Γ => by
      have e1 : E (.tmp 20) = .int .i64 0 := (Γ.s rfl)
      have hc := Γ.c
      exact Does.value (w' := W) (by go_simp <;> first | rfl | (rw [IntKind.wrap_i64]; omega)) ⟨rfl, Below.refl _ _⟩) ?_
    refine .pl rfl (fun _ _ W Γ => ev_move _ (Γ.k 0 rfl)) ?_
    exact .nil
  clear J; simp only [fx]; intro _ f20 W20 J
  try simp only [Exit.inBlock]
  simp only [Exit.then]
  rw [rounds_succ]
  refine region_c [22] [.is (.bool false)] [] [] [] J ?_ ?_
  · refine .pl rfl (fun _ E W Γ => by
      have e1 : E (.tmp 20) = .int .i64 1 := (Γ.s rfl)
      have e2 : E (.tmp 19) = .int .i64 1 := (Γ.s rfl)
      have hc := Γ.c
      exact Does.value (w' := W) (by go_simp <;> first | rfl | (rw [IntKind.wrap_i64]; omega)) ⟨rfl, Below.refl _ _⟩) ?_
    exact .nil
  clear J; intro K21 hK21; simp only [fx]; intro _ f21 W21 J; refine hK21.out _ _ ?_; clear hK21
  refine wp_seq_h ?_; intro K22 hK22
  refine wp_cond_false rfl ?_
  refine wp_exit ?_
  simp only [Exit.then, Exit.inBlock, ↓reduceIte]
  refine hK12.out _ _ ?_; clear hK12
  refine region_c [35, 36, 37, 38, 39, 40, 41, 0] [.num 0, .is (.int .u64 10), .num 10, .num 0, .is (.int .u64 0), .num 0, .num 0, .any] [none, some (7, .num 0)] [] [(0, 34), (2, 36), (3, 37), (5, 39), (6, 40)] J ?_ ?_
  · refine .pl rfl (fun _ _ W Γ => ev_ldN (Γ.s rfl) (Γ.u 1 rfl rfl).1) ?_
    refine .pl rfl (fun _ _ W Γ => ev_move _ (Γ.s rfl)) ?_
    refine .pl rfl (fun _ _ W Γ => ev_call1 (Γ.f _) run_Of (by rw [(show _ = Value.int .u64 10 from (Γ.k (d := 35) 1 rfl))]; exact of_gives 10 (by decide) W)) ?_
    refine .pl rfl (fun _ _ W Γ => ev_call2 (Γ.f _) run_nMul (nMul_gives W _ _ 0 10 (by rw [ds_one (by decide)]; omega) (by rw [ds_one (by decide)]; omega) (Γ.w (d := 34) 0 rfl) (Γ.w (d := 36) 2 rfl))) ?_
    refine .pl rfl (fun _ _ W Γ => ev_move _ (Γ.s rfl)) ?_
    refine .pl rfl (fun _ _ W Γ => ev_call1 (Γ.f _) run_Of (by rw [(show _ = Value.int .u64 0 from (Γ.k (d := 38) 4 rfl))]; exact of_gives 0 (by decide) W)) ?_
    refine .pl rfl (fun _ _ W Γ => ev_call2 (Γ.f _) run_nAdd (nAdd_gives W _ _ 0 0 (by rw [ds_one (by decide)]; omega) (by rw [ds_one (by decide)]; omega) (Γ.w (d := 37) 3 rfl) (Γ.w (d := 39) 5 rfl))) ?_
    refine .st 1 rfl rfl rfl (fun _ _ W Γ => ev_stN (Γ.s rfl) (Γ.u 1 rfl rfl) (Γ.w 6 rfl)) ?_
    exact .nil
  clear J; intro K23 hK23; simp only [fx]; intro _ f23 W23 J; refine hK23.out _ _ ?_; clear hK23
  refine region_f [42, 43, 44, 1] [.is (.string ⟨#[48]⟩), .is (.int .i64 1), .is (.string ⟨#[]⟩), .is (.string ⟨#[]⟩)] [] [] [] J ?_ ?_
  · refine .pl rfl (fun _ _ W Γ => ev_move _ (Γ.s rfl)) ?_
    refine .pl rfl (fun _ _ W Γ => ev_move _ (Γ.s rfl)) ?_
    refine .pl rfl (fun _ E W Γ => by
      have e1 : E (.tmp 41) = .string ⟨#[48]⟩ := (Γ.k 0 rfl)
      have e2 : E (.tmp 42) = .int .i64 1 := (Γ.k 1 rfl)
      have hc := Γ.c
      exact Does.value (w' := W) (by go_simp <;> first | rfl | (rw [IntKind.wrap_i64]; omega)) ⟨rfl, Below.refl _ _⟩) ?_
    refine .pl rfl (fun _ _ W Γ => ev_assign _ (Γ.k 2 rfl)) ?_
    exact .nil
  clear J; simp only [fx]; intro _ f24 W24 J
  try simp only [Exit.inBlock]
  simp only [Exit.then]
  rw [rounds_succ]
  refine wp_seq_h ?_; intro K25 hK25
  refine region_c [14, 15, 16] [.is (.string ⟨#[]⟩), .is (.int .i64 0), .is (.bool false)] [] [] [] J ?_ ?_
  · refine .pl rfl (fun _ _ W Γ => ev_move _ (Γ.s rfl)) ?_
    refine .pl rfl (fun _ E W Γ => by
      have e1 : E (.tmp 13) = .string ⟨#[]⟩ := (Γ.k 0 rfl)
      have hc := Γ.c
      exact Does.value (w' := W) (by go_simp <;> first | rfl | (rw [IntKind.wrap_i64]; omega)) ⟨rfl, Below.refl _ _⟩) ?_
    refine .pl rfl (fun _ E W Γ => by
      have e1 : E (.tmp 14) = .int .i64 0 := (Γ.k 1 rfl)
      have hc := Γ.c
      exact Does.value (w' := W) (by go_simp <;> first | rfl | (rw [IntKind.wrap_i64]; omega)) ⟨rfl, Below.refl _ _⟩) ?_
    exact .nil
  clear J; intro K26 hK26; simp only [fx]; intro _ f26 W26 J; refine hK26.out _ _ ?_; clear hK26
  refine wp_cond_false rfl ?_
  refine wp_exit ?_
  simp only [Exit.then, Exit.inBlock, ↓reduceIte]
  refine hK7.out _ _ ?_; clear hK7
  refine region_c [45, 0, 4] [.num 0, .any, .is (.bool true)] [some (1, .num 0)] [] [(0, 44)] J ?_ ?_
  · refine .pl rfl (fun _ _ W Γ => ev_ldN (Γ.s rfl) (Γ.l 1 rfl)) ?_
    refine .st 0 rfl rfl rfl (fun _ _ W Γ => ev_stN (Γ.s rfl) (Γ.u 0 rfl rfl) (Γ.w 0 rfl)) ?_
    refine .pl rfl (fun _ _ W Γ => ev_assign _ (Γ.c _)) ?_
    exact .nil
  clear J; intro K27 hK27; simp only [fx]; intro _ f27 W27 J; refine hK27.out _ _ ?_; clear hK27
  refine wp_ret ?_
  obtain ⟨u0, hx0, hm0⟩ := J.out.get 0 rfl
  obtain ⟨sr0, pr0, lr0, cr0, rfl, c0_0, c0_1⟩ := hx0.nat
  exact bodyPost_ret (v := .tuple #[.agg #[.int .u64 sr0, .slice pr0 lr0 cr0], .bool true]) (by simp [results, Tryz.results24, go_sem, c0_0, c0_1]) rfl ⟨_, rfl, ⟨_, _, rfl, hm0, rfl⟩, J.out.be⟩
set_option maxRecDepth 100000 in
set_option maxHeartbeats 4000000 in
theorem parse_12 (w : World)   :
    Calls Tryz.prog 24 #[.string ⟨#[49, 50]⟩] w (Gives w (.two (.num 12) (.is (.bool true)))) := by
  go_enter Tryz.func24, Tryz.ntmps24
  have J := Frm.start (w := w) (V := []) fn
  refine wp_seq_h ?_; intro K1 hK1; go_wp2
  obtain ⟨W2, b2, eW2, eb2, sz2, J⟩ := Frm.putN0 J rfl
  rw [← eW2, ← eb2]
  clear eW2 eb2 sz2
  refine hK1.out _ _ ?_; clear hK1
  refine wp_seq_h ?_; intro K3 hK3
  refine region_c [10, 11, 12] [.is (.string ⟨#[49, 50]⟩), .is (.bool true), .is (.bool false)] [] [] [] J ?_ ?_
  · refine .pl rfl (fun _ _ W Γ => ev_move _ (Γ.s rfl)) ?_
    refine .pl rfl (fun _ _ W Γ => ev_call1 (Γ.f _) run_isDecimal (by rw [(show _ = Value.string ⟨#[49, 50]⟩ from (Γ.k (d := 9) 0 rfl))]; exact isDec_12 W)) ?_
    refine .pl rfl (fun _ _ W Γ => ev_not (Γ.k 1 rfl) rfl) ?_
    exact .nil
  clear J; intro K4 hK4; simp only [fx]; intro _ f4 W4 J; refine hK4.out _ _ ?_; clear hK4
  refine wp_cond_false rfl ?_
  refine wp_skip ?_
  refine hK3.out _ _ ?_; clear hK3
  refine wp_seq_h ?_; intro K5 hK5; go_wp2
  obtain ⟨W6, b6, eW6, eb6, sz6, J⟩ := Frm.putN0 J rfl
  rw [← eW6, ← eb6]; clear eW6 eb6 sz6; refine hK5.out _ _ ?_; clear hK5
  refine wp_seq_h ?_; intro K7 hK7
  refine wp_block ?_
  refine wp_loop_rounds 3 ?_
  rw [rounds_succ]
  refine wp_seq_h ?_; intro K8 hK8
  refine region_c [14, 15, 16] [.is (.string ⟨#[49, 50]⟩), .is (.int .i64 2), .is (.bool true)] [] [] [] J ?_ ?_
  · refine .pl rfl (fun _ _ W Γ => ev_move _ (Γ.s rfl)) ?_
    refine .pl rfl (fun _ E W Γ => by
      have e1 : E (.tmp 13) = .string ⟨#[49, 50]⟩ := (Γ.k 0 rfl)
      have hc := Γ.c
      exact Does.value (w' := W) (by go_simp <;> first | rfl | (rw [IntKind.wrap_i64]; omega)) ⟨rfl, Below.refl _ _⟩) ?_
    refine .pl rfl (fun _ E W Γ => by
      have e1 : E (.tmp 14) = .int .i64 2 := (Γ.k 1 rfl)
      have hc := Γ.c
      exact Does.value (w' := W) (by go_simp <;> first | rfl | (rw [IntKind.wrap_i64]; omega)) ⟨rfl, Below.refl _ _⟩) ?_
    exact .nil
  clear J; intro K9 hK9; simp only [fx]; intro _ f9 W9 J; refine hK9.out _ _ ?_; clear hK9
  refine wp_cond_true rfl ?_
  refine wp_skip ?_
  refine hK8.out _ _ ?_; clear hK8
  refine wp_block ?_
  refine region_c [17, 18, 19, 6] [.is (.string ⟨#[49, 50]⟩), .is (.int .i64 2), .is (.int .i64 2), .is (.int .i64 2)] [] [] [] J ?_ ?_
  · refine .pl rfl (fun _ _ W Γ => ev_move _ (Γ.s rfl)) ?_
    refine .pl rfl (fun _ E W Γ => by
      have e1 : E (.tmp 16) = .string ⟨#[49, 50]⟩ := (Γ.k 0 rfl)
      have hc := Γ.c
      exact Does.value (w' := W) (by go_simp <;> first | rfl | (rw [IntKind.wrap_i64]; omega)) ⟨rfl, Below.refl _ _⟩) ?_
    refine .pl rfl (fun _ E W Γ => by
      have e1 : E (.tmp 17) = .int .i64 2 := (Γ.k 1 rfl)
      have hc := Γ.c
      exact Does.value (w' := W) (by go_simp <;> first | rfl | (rw [IntKind.wrap_i64]; omega)) ⟨rfl, Below.refl _ _⟩) ?_
    refine .pl rfl (fun _ _ W Γ => ev_assign _ (Γ.k 2 rfl)) ?_
    exact .nil
  clear J; intro K10 hK10; simp only [fx]; intro _ f10 W10 J; refine hK10.out _ _ ?_; clear hK10
  refine region_c [7, 8] [.is (.int .u64 0), .is (.int .u64 1)] [] [] [] J ?_ ?_
  · refine .pl rfl (fun _ _ W Γ => ev_assign _ (Γ.c _)) ?_
    refine .pl rfl (fun _ _ W Γ => ev_assign _ (Γ.c _)) ?_
    exact .nil
  clear J; intro K11 hK11; simp only [fx]; intro _ f11 W11 J; refine hK11.out _ _ ?_; clear hK11
  refine wp_seq_h ?_; intro K12 hK12
  refine region_c [20, 21] [.is (.int .i64 2), .is (.int .i64 0)] [] [] [] J ?_ ?_
  · refine .pl rfl (fun _ _ W Γ => ev_move _ (Γ.s rfl)) ?_
    refine .pl rfl (fun _ _ W Γ => ev_move _ (Γ.c _)) ?_
    exact .nil
  clear J; intro K13 hK13; simp only [fx]; intro _ f13 W13 J; refine hK13.out _ _ ?_; clear hK13
  refine wp_block ?_
  refine wp_loop_rounds 4 ?_
  rw [rounds_succ]
  refine region_c [22] [.is (.bool true)] [] [] [] J ?_ ?_
  · refine .pl rfl (fun _ E W Γ => by
      have e1 : E (.tmp 20) = .int .i64 0 := (Γ.s rfl)
      have e2 : E (.tmp 19) = .int .i64 2 := (Γ.s rfl)
      have hc := Γ.c
      exact Does.value (w' := W) (by go_simp <;> first | rfl | (rw [IntKind.wrap_i64]; omega)) ⟨rfl, Below.refl _ _⟩) ?_
    exact .nil
  clear J; intro K14 hK14; simp only [fx]; intro _ f14 W14 J; refine hK14.out _ _ ?_; clear hK14
  refine wp_seq_h ?_; intro K15 hK15
  refine wp_cond_true rfl ?_
  refine wp_skip ?_
  refine hK15.out _ _ ?_; clear hK15
  refine wp_seq_h ?_; intro K16 hK16
  refine wp_block ?_
  refine region_c [23, 9] [.is (.int .i64 0), .is (.int .i64 0)] [] [] [] J ?_ ?_
  · refine .pl rfl (fun _ _ W Γ => ev_move _ (Γ.s rfl)) ?_
    refine .pl rfl (fun _ _ W Γ => ev_assign _ (Γ.k 0 rfl)) ?_
    exact .nil
  clear J; intro K17 hK17; simp only [fx]; intro _ f17 W17 J; refine hK17.out _ _ ?_; clear hK17
  refine region_c [24, 25, 26, 27, 28, 29, 30, 31, 7] [.is (.int .u64 0), .is (.int .u64 0), .is (.string ⟨#[49, 50]⟩), .is (.int .i64 0), .is (.int .u8 49), .is (.int .u8 1), .is (.int .u64 1), .is (.int .u64 1), .is (.int .u64 1)] [] [] [] J ?_ ?_
  · refine .pl rfl (fun _ _ W Γ => ev_move _ (Γ.s rfl)) ?_
    refine .pl rfl (fun _ E W Γ => by
      have e1 : E (.tmp 23) = .int .u64 0 := (Γ.k 0 rfl)
      have hc := Γ.c
      exact Does.value (w' := W) (by go_simp <;> first | rfl | (rw [IntKind.wrap_i64]; omega)) ⟨rfl, Below.refl _ _⟩) ?_
    refine .pl rfl (fun _ _ W Γ => ev_move _ (Γ.s rfl)) ?_
    refine .pl rfl (fun _ _ W Γ => ev_move _ (Γ.s rfl)) ?_
    refine .pl rfl (fun _ E W Γ => by
      have e1 : E (.tmp 25) = .string ⟨#[49, 50]⟩ := (Γ.k 2 rfl)
      have e2 : E (.tmp 26) = .int .i64 0 := (Γ.k 3 rfl)
      have hc := Γ.c
      exact Does.value (w' := W) (by go_simp <;> first | rfl | (rw [IntKind.wrap_i64]; omega)) ⟨rfl, Below.refl _ _⟩) ?_
    refine .pl rfl (fun _ E W Γ => by
      have e1 : E (.tmp 27) = .int .u8 49 := (Γ.k 4 rfl)
      have hc := Γ.c
      exact Does.value (w' := W) (by go_simp <;> first | rfl | (rw [IntKind.wrap_i64]; omega)) ⟨rfl, Below.refl _ _⟩) ?_
    refine .pl rfl (fun _ E W Γ => by
      have e1 : E (.tmp 28) = .int .u8 1 := (Γ.k 5 rfl)
      have hc := Γ.c
      exact Does.value (w' := W) (by go_simp <;> first | rfl | (rw [IntKind.wrap_i64]; omega)) ⟨rfl, Below.refl _ _⟩) ?_
    refine .pl rfl (fun _ E W Γ => by
      have e1 : E (.tmp 24) = .int .u64 0 := (Γ.k 1 rfl)
      have e2 : E (.tmp 29) = .int .u64 1 := (Γ.k 6 rfl)
      have hc := Γ.c
      exact Does.value (w' := W) (by go_simp <;> first | rfl | (rw [IntKind.wrap_i64]; omega)) ⟨rfl, Below.refl _ _⟩) ?_
    refine .pl rfl (fun _ _ W Γ => ev_assign _ (Γ.k 7 rfl)) ?_
    exact .nil
  clear J; intro K18 hK18; simp only [fx]; intro _ f18 W18 J; refine hK18.out _ _ ?_; clear hK18
  refine region_f [32, 33, 8] [.is (.int .u64 1), .is (.int .u64 10), .is (.int .u64 10)] [] [] [] J ?_ ?_
  · refine .pl rfl (fun _ _ W Γ => ev_move _ (Γ.s rfl)) ?_
    refine .pl rfl (fun _ E W Γ => by
      have e1 : E (.tmp 31) = .int .u64 1 := (Γ.k 0 rfl)
      have hc := Γ.c
      exact Does.value (w' := W) (by go_simp <;> first | rfl | (rw [IntKind.wrap_i64]; omega)) ⟨rfl, Below.refl _ _⟩) ?_
    refine .pl rfl (fun _ _ W Γ => ev_assign _ (Γ.k 1 rfl)) ?_
    exact .nil
  clear J; simp only [fx]; intro _ f19 W19 J
  refine hK16.out _ _ ?_; clear hK16
  refine region_f [34, 21] [.is (.int .i64 1), .is (.int .i64 1)] [] [] [] J ?_ ?_
  · refine .pl rfl (fun _ E W Γ => by
      have e1 : E (.tmp 20) = .int .i64 0 := (Γ.s rfl)
      have hc := Γ.c
      exact Does.value (w' := W) (by go_simp <;> first | rfl | (rw [IntKind.wrap_i64]; omega)) ⟨rfl, Below.refl _ _⟩) ?_
    refine .pl rfl (fun _ _ W Γ => ev_move _ (Γ.k 0 rfl)) ?_
    exact .nil
  clear J; simp only [fx]; intro _ f20 W20 J
  try simp only [Exit.inBlock]
  simp only [Exit.then]
  rw [rounds_succ]
  refine region_c [22] [.is (.bool true)] [] [] [] J ?_ ?_
  · refine .pl rfl (fun _ E W Γ => by
      have e1 : E (.tmp 20) = .int .i64 1 := (Γ.s rfl)
      have e2 : E (.tmp 19) = .int .i64 2 := (Γ.s rfl)
      have hc := Γ.c
      exact Does.value (w' := W) (by go_simp <;> first | rfl | (rw [IntKind.wrap_i64]; omega)) ⟨rfl, Below.refl _ _⟩) ?_
    exact .nil
  clear J; intro K21 hK21; simp only [fx]; intro _ f21 W21 J; refine hK21.out _ _ ?_; clear hK21
  refine wp_seq_h ?_; intro K22 hK22
  refine wp_cond_true rfl ?_
  refine wp_skip ?_
  refine hK22.out _ _ ?_; clear hK22
  refine wp_seq_h ?_; intro K23 hK23
  refine wp_block ?_
  refine region_c [23, 9] [.is (.int .i64 1), .is (.int .i64 1)] [] [] [] J ?_ ?_
  · refine .pl rfl (fun _ _ W Γ => ev_move _ (Γ.s rfl)) ?_
    refine .pl rfl (fun _ _ W Γ => ev_assign _ (Γ.k 0 rfl)) ?_
    exact .nil
  clear J; intro K24 hK24; simp only [fx]; intro _ f24 W24 J; refine hK24.out _ _ ?_; clear hK24
  refine region_c [24, 25, 26, 27, 28, 29, 30, 31, 7] [.is (.int .u64 1), .is (.int .u64 10), .is (.string ⟨#[49, 50]⟩), .is (.int .i64 1), .is (.int .u8 50), .is (.int .u8 2), .is (.int .u64 2), .is (.int .u64 12), .is (.int .u64 12)] [] [] [] J ?_ ?_
  · refine .pl rfl (fun _ _ W Γ => ev_move _ (Γ.s rfl)) ?_
    refine .pl rfl (fun _ E W Γ => by
      have e1 : E (.tmp 23) = .int .u64 1 := (Γ.k 0 rfl)
      have hc := Γ.c
      exact Does.value (w' := W) (by go_simp <;> first | rfl | (rw [IntKind.wrap_i64]; omega)) ⟨rfl, Below.refl _ _⟩) ?_
    refine .pl rfl (fun _ _ W Γ => ev_move _ (Γ.s rfl)) ?_
    refine .pl rfl (fun _ _ W Γ => ev_move _ (Γ.s rfl)) ?_
    refine .pl rfl (fun _ E W Γ => by
      have e1 : E (.tmp 25) = .string ⟨#[49, 50]⟩ := (Γ.k 2 rfl)
      have e2 : E (.tmp 26) = .int .i64 1 := (Γ.k 3 rfl)
      have hc := Γ.c
      exact Does.value (w' := W) (by go_simp <;> first | rfl | (rw [IntKind.wrap_i64]; omega)) ⟨rfl, Below.refl _ _⟩) ?_
    refine .pl rfl (fun _ E W Γ => by
      have e1 : E (.tmp 27) = .int .u8 50 := (Γ.k 4 rfl)
      have hc := Γ.c
      exact Does.value (w' := W) (by go_simp <;> first | rfl | (rw [IntKind.wrap_i64]; omega)) ⟨rfl, Below.refl _ _⟩) ?_
    refine .pl rfl (fun _ E W Γ => by
      have e1 : E (.tmp 28) = .int .u8 2 := (Γ.k 5 rfl)
      have hc := Γ.c
      exact Does.value (w' := W) (by go_simp <;> first | rfl | (rw [IntKind.wrap_i64]; omega)) ⟨rfl, Below.refl _ _⟩) ?_
    refine .pl rfl (fun _ E W Γ => by
      have e1 : E (.tmp 24) = .int .u64 10 := (Γ.k 1 rfl)
      have e2 : E (.tmp 29) = .int .u64 2 := (Γ.k 6 rfl)
      have hc := Γ.c
      exact Does.value (w' := W) (by go_simp <;> first | rfl | (rw [IntKind.wrap_i64]; omega)) ⟨rfl, Below.refl _ _⟩) ?_
    refine .pl rfl (fun _ _ W Γ => ev_assign _ (Γ.k 7 rfl)) ?_
    exact .nil
  clear J; intro K25 hK25; simp only [fx]; intro _ f25 W25 J; refine hK25.out _ _ ?_; clear hK25
  refine region_f [32, 33, 8] [.is (.int .u64 10), .is (.int .u64 100), .is (.int .u64 100)] [] [] [] J ?_ ?_
  · refine .pl rfl (fun _ _ W Γ => ev_move _ (Γ.s rfl)) ?_
    refine .pl rfl (fun _ E W Γ => by
      have e1 : E (.tmp 31) = .int .u64 10 := (Γ.k 0 rfl)
      have hc := Γ.c
      exact Does.value (w' := W) (by go_simp <;> first | rfl | (rw [IntKind.wrap_i64]; omega)) ⟨rfl, Below.refl _ _⟩) ?_
    refine .pl rfl (fun _ _ W Γ => ev_assign _ (Γ.k 1 rfl)) ?_
    exact .nil
  clear J; simp only [fx]; intro _ f26 W26 J
  refine hK23.out _ _ ?_; clear hK23
  refine region_f [34, 21] [.is (.int .i64 2), .is (.int .i64 2)] [] [] [] J ?_ ?_
  · refine .pl rfl (fun _ E W Γ => by
      have e1 : E (.tmp 20) = .int .i64 1 := (Γ.s rfl)
      have hc := Γ.c
      exact Does.value (w' := W) (by go_simp <;> first | rfl | (rw [IntKind.wrap_i64]; omega)) ⟨rfl, Below.refl _ _⟩) ?_
    refine .pl rfl (fun _ _ W Γ => ev_move _ (Γ.k 0 rfl)) ?_
    exact .nil
  clear J; simp only [fx]; intro _ f27 W27 J
  try simp only [Exit.inBlock]
  simp only [Exit.then]
  rw [rounds_succ]
  refine region_c [22] [.is (.bool false)] [] [] [] J ?_ ?_
  · refine .pl rfl (fun _ E W Γ => by
      have e1 : E (.tmp 20) = .int .i64 2 := (Γ.s rfl)
      have e2 : E (.tmp 19) = .int .i64 2 := (Γ.s rfl)
      have hc := Γ.c
      exact Does.value (w' := W) (by go_simp <;> first | rfl | (rw [IntKind.wrap_i64]; omega)) ⟨rfl, Below.refl _ _⟩) ?_
    exact .nil
  clear J; intro K28 hK28; simp only [fx]; intro _ f28 W28 J; refine hK28.out _ _ ?_; clear hK28
  refine wp_seq_h ?_; intro K29 hK29
  refine wp_cond_false rfl ?_
  refine wp_exit ?_
  simp only [Exit.then, Exit.inBlock, ↓reduceIte]
  refine hK12.out _ _ ?_; clear hK12
  refine region_c [35, 36, 37, 38, 39, 40, 41, 0] [.num 0, .is (.int .u64 100), .num 100, .num 0, .is (.int .u64 12), .num 12, .num 12, .any] [none, some (7, .num 12)] [] [(0, 34), (2, 36), (3, 37), (5, 39), (6, 40)] J ?_ ?_
  · refine .pl rfl (fun _ _ W Γ => ev_ldN (Γ.s rfl) (Γ.u 1 rfl rfl).1) ?_
    refine .pl rfl (fun _ _ W Γ => ev_move _ (Γ.s rfl)) ?_
    refine .pl rfl (fun _ _ W Γ => ev_call1 (Γ.f _) run_Of (by rw [(show _ = Value.int .u64 100 from (Γ.k (d := 35) 1 rfl))]; exact of_gives 100 (by decide) W)) ?_
    refine .pl rfl (fun _ _ W Γ => ev_call2 (Γ.f _) run_nMul (nMul_gives W _ _ 0 100 (by rw [ds_one (by decide)]; omega) (by rw [ds_one (by decide)]; omega) (Γ.w (d := 34) 0 rfl) (Γ.w (d := 36) 2 rfl))) ?_
    refine .pl rfl (fun _ _ W Γ => ev_move _ (Γ.s rfl)) ?_
    refine .pl rfl (fun _ _ W Γ => ev_call1 (Γ.f _) run_Of (by rw [(show _ = Value.int .u64 12 from (Γ.k (d := 38) 4 rfl))]; exact of_gives 12 (by decide) W)) ?_
    refine .pl rfl (fun _ _ W Γ => ev_call2 (Γ.f _) run_nAdd (nAdd_gives W _ _ 0 12 (by rw [ds_one (by decide)]; omega) (by rw [ds_one (by decide)]; omega) (Γ.w (d := 37) 3 rfl) (Γ.w (d := 39) 5 rfl))) ?_
    refine .st 1 rfl rfl rfl (fun _ _ W Γ => ev_stN (Γ.s rfl) (Γ.u 1 rfl rfl) (Γ.w 6 rfl)) ?_
    exact .nil
  clear J; intro K30 hK30; simp only [fx]; intro _ f30 W30 J; refine hK30.out _ _ ?_; clear hK30
  refine region_f [42, 43, 44, 1] [.is (.string ⟨#[49, 50]⟩), .is (.int .i64 2), .is (.string ⟨#[]⟩), .is (.string ⟨#[]⟩)] [] [] [] J ?_ ?_
  · refine .pl rfl (fun _ _ W Γ => ev_move _ (Γ.s rfl)) ?_
    refine .pl rfl (fun _ _ W Γ => ev_move _ (Γ.s rfl)) ?_
    refine .pl rfl (fun _ E W Γ => by
      have e1 : E (.tmp 41) = .string ⟨#[49, 50]⟩ := (Γ.k 0 rfl)
      have e2 : E (.tmp 42) = .int .i64 2 := (Γ.k 1 rfl)
      have hc := Γ.c
      exact Does.value (w' := W) (by go_simp <;> first | rfl | (rw [IntKind.wrap_i64]; omega)) ⟨rfl, Below.refl _ _⟩) ?_
    refine .pl rfl (fun _ _ W Γ => ev_assign _ (Γ.k 2 rfl)) ?_
    exact .nil
  clear J; simp only [fx]; intro _ f31 W31 J
  try simp only [Exit.inBlock]
  simp only [Exit.then]
  rw [rounds_succ]
  refine wp_seq_h ?_; intro K32 hK32
  refine region_c [14, 15, 16] [.is (.string ⟨#[]⟩), .is (.int .i64 0), .is (.bool false)] [] [] [] J ?_ ?_
  · refine .pl rfl (fun _ _ W Γ => ev_move _ (Γ.s rfl)) ?_
    refine .pl rfl (fun _ E W Γ => by
      have e1 : E (.tmp 13) = .string ⟨#[]⟩ := (Γ.k 0 rfl)
      have hc := Γ.c
      exact Does.value (w' := W) (by go_simp <;> first | rfl | (rw [IntKind.wrap_i64]; omega)) ⟨rfl, Below.refl _ _⟩) ?_
    refine .pl rfl (fun _ E W Γ => by
      have e1 : E (.tmp 14) = .int .i64 0 := (Γ.k 1 rfl)
      have hc := Γ.c
      exact Does.value (w' := W) (by go_simp <;> first | rfl | (rw [IntKind.wrap_i64]; omega)) ⟨rfl, Below.refl _ _⟩) ?_
    exact .nil
  clear J; intro K33 hK33; simp only [fx]; intro _ f33 W33 J; refine hK33.out _ _ ?_; clear hK33
  refine wp_cond_false rfl ?_
  refine wp_exit ?_
  simp only [Exit.then, Exit.inBlock, ↓reduceIte]
  refine hK7.out _ _ ?_; clear hK7
  refine region_c [45, 0, 4] [.num 12, .any, .is (.bool true)] [some (1, .num 12)] [] [(0, 44)] J ?_ ?_
  · refine .pl rfl (fun _ _ W Γ => ev_ldN (Γ.s rfl) (Γ.l 1 rfl)) ?_
    refine .st 0 rfl rfl rfl (fun _ _ W Γ => ev_stN (Γ.s rfl) (Γ.u 0 rfl rfl) (Γ.w 0 rfl)) ?_
    refine .pl rfl (fun _ _ W Γ => ev_assign _ (Γ.c _)) ?_
    exact .nil
  clear J; intro K34 hK34; simp only [fx]; intro _ f34 W34 J; refine hK34.out _ _ ?_; clear hK34
  refine wp_ret ?_
  obtain ⟨u0, hx0, hm0⟩ := J.out.get 0 rfl
  obtain ⟨sr0, pr0, lr0, cr0, rfl, c0_0, c0_1⟩ := hx0.nat
  exact bodyPost_ret (v := .tuple #[.agg #[.int .u64 sr0, .slice pr0 lr0 cr0], .bool true]) (by simp [results, Tryz.results24, go_sem, c0_0, c0_1]) rfl ⟨_, rfl, ⟨_, _, rfl, hm0, rfl⟩, J.out.be⟩
set_option maxRecDepth 100000 in
set_option maxHeartbeats 4000000 in
theorem izero_0 (w : World) (u1 : Value)  (h1 : Means w (.num 0) u1) :
    Calls Tryz.prog 20 #[u1] w (Gives w (.is (.bool true))) := by
  obtain ⟨s1, p1, l1, c1, rfl, h1⟩ := h1
  have H1 := Lib.hid h1; clear h1
  go_enter Tryz.func20, Tryz.ntmps20
  have J := Frm.start (w := w) (V := []) fn
  refine wp_seq_h ?_; intro K1 hK1; go_wp2
  obtain ⟨W2, b2, eW2, eb2, sz2, J⟩ := Frm.putN J rfl H1.out
  rw [← eW2, ← eb2]
  clear eW2 eb2 sz2
  refine hK1.out _ _ ?_; clear hK1
  refine region_c [7, 8, 6, 9, 10, 4, 5] [.num 0, .two (.is (.int .u64 0)) (.is (.bool true)), .two (.is (.int .u64 0)) (.is (.bool true)), .is (.int .u64 0), .is (.bool true), .is (.int .u64 0), .is (.bool true)] [] [] [] J ?_ ?_
  · refine .pl rfl (fun _ _ W Γ => ev_ldN (Γ.s rfl) (Γ.l 0 rfl)) ?_
    refine .pl rfl (fun _ _ W Γ => ev_call1 (Γ.f _) run_nSmall (small_lt W _ 0 (by decide) (Γ.w (d := 6) 0 rfl))) ?_
    refine .pl rfl (fun _ _ W Γ => ev_moveM (Γ.w 1 rfl)) ?_
    refine .pl rfl (fun _ _ W Γ => ev_ex20 (Γ.w 2 rfl)) ?_
    refine .pl rfl (fun _ _ W Γ => ev_ex21 (Γ.w 2 rfl)) ?_
    refine .pl rfl (fun _ _ W Γ => ev_assign _ (Γ.k 3 rfl)) ?_
    refine .pl rfl (fun _ _ W Γ => ev_assign _ (Γ.k 4 rfl)) ?_
    exact .nil
  clear J; intro K3 hK3; simp only [fx]; intro _ f3 W3 J; refine hK3.out _ _ ?_; clear hK3
  refine region_c [11, 12, 13, 14, 15, 3] [.is (.bool true), .is (.bool true), .is (.int .u64 0), .is (.bool true), .is (.bool true), .is (.bool true)] [] [] [] J ?_ ?_
  · refine .pl rfl (fun _ _ W Γ => ev_move _ (Γ.s rfl)) ?_
    refine .pl rfl (fun _ _ W Γ => ev_move _ (Γ.k 0 rfl)) ?_
    refine .gu rfl rfl rfl rfl (fun _ _ W Γ => ev_move _ (Γ.s rfl)) ?_
    refine .gu rfl rfl rfl rfl (fun _ E W Γ => by
      have e1 : E (.tmp 12) = .int .u64 0 := (Γ.k 2 rfl)
      have hc := Γ.c
      exact Does.value (w' := W) (by go_simp <;> first | rfl | (rw [IntKind.wrap_i64]; omega)) ⟨rfl, Below.refl _ _⟩) ?_
    refine .pl rfl (fun _ _ W Γ => ev_pick (Γ.k 1 rfl) (Γ.k 3 rfl)) ?_
    refine .pl rfl (fun _ _ W Γ => ev_assign _ (Γ.k 4 rfl)) ?_
    exact .nil
  clear J; intro K4 hK4; simp only [fx]; intro _ f4 W4 J; refine hK4.out _ _ ?_; clear hK4
  refine wp_ret ?_
  exact bodyPost_ret (v := .bool true) (by simp [results, Tryz.results20, go_sem]) rfl ⟨_, rfl, rfl, J.out.be⟩
set_option maxRecDepth 100000 in
set_option maxHeartbeats 4000000 in
theorem izero_12 (w : World) (u1 : Value)  (h1 : Means w (.num 12) u1) :
    Calls Tryz.prog 20 #[u1] w (Gives w (.is (.bool false))) := by
  obtain ⟨s1, p1, l1, c1, rfl, h1⟩ := h1
  have H1 := Lib.hid h1; clear h1
  go_enter Tryz.func20, Tryz.ntmps20
  have J := Frm.start (w := w) (V := []) fn
  refine wp_seq_h ?_; intro K1 hK1; go_wp2
  obtain ⟨W2, b2, eW2, eb2, sz2, J⟩ := Frm.putN J rfl H1.out
  rw [← eW2, ← eb2]
  clear eW2 eb2 sz2
  refine hK1.out _ _ ?_; clear hK1
  refine region_c [7, 8, 6, 9, 10, 4, 5] [.num 12, .two (.is (.int .u64 12)) (.is (.bool true)), .two (.is (.int .u64 12)) (.is (.bool true)), .is (.int .u64 12), .is (.bool true), .is (.int .u64 12), .is (.bool true)] [] [] [] J ?_ ?_
  · refine .pl rfl (fun _ _ W Γ => ev_ldN (Γ.s rfl) (Γ.l 0 rfl)) ?_
    refine .pl rfl (fun _ _ W Γ => ev_call1 (Γ.f _) run_nSmall (small_lt W _ 12 (by decide) (Γ.w (d := 6) 0 rfl))) ?_
    refine .pl rfl (fun _ _ W Γ => ev_moveM (Γ.w 1 rfl)) ?_
    refine .pl rfl (fun _ _ W Γ => ev_ex20 (Γ.w 2 rfl)) ?_
    refine .pl rfl (fun _ _ W Γ => ev_ex21 (Γ.w 2 rfl)) ?_
    refine .pl rfl (fun _ _ W Γ => ev_assign _ (Γ.k 3 rfl)) ?_
    refine .pl rfl (fun _ _ W Γ => ev_assign _ (Γ.k 4 rfl)) ?_
    exact .nil
  clear J; intro K3 hK3; simp only [fx]; intro _ f3 W3 J; refine hK3.out _ _ ?_; clear hK3
  refine region_c [11, 12, 13, 14, 15, 3] [.is (.bool true), .is (.bool true), .is (.int .u64 12), .is (.bool false), .is (.bool false), .is (.bool false)] [] [] [] J ?_ ?_
  · refine .pl rfl (fun _ _ W Γ => ev_move _ (Γ.s rfl)) ?_
    refine .pl rfl (fun _ _ W Γ => ev_move _ (Γ.k 0 rfl)) ?_
    refine .gu rfl rfl rfl rfl (fun _ _ W Γ => ev_move _ (Γ.s rfl)) ?_
    refine .gu rfl rfl rfl rfl (fun _ E W Γ => by
      have e1 : E (.tmp 12) = .int .u64 12 := (Γ.k 2 rfl)
      have hc := Γ.c
      exact Does.value (w' := W) (by go_simp <;> first | rfl | (rw [IntKind.wrap_i64]; omega)) ⟨rfl, Below.refl _ _⟩) ?_
    refine .pl rfl (fun _ _ W Γ => ev_pick (Γ.k 1 rfl) (Γ.k 3 rfl)) ?_
    refine .pl rfl (fun _ _ W Γ => ev_assign _ (Γ.k 4 rfl)) ?_
    exact .nil
  clear J; intro K4 hK4; simp only [fx]; intro _ f4 W4 J; refine hK4.out _ _ ?_; clear hK4
  refine wp_ret ?_
  exact bodyPost_ret (v := .bool false) (by simp [results, Tryz.results20, go_sem]) rfl ⟨_, rfl, rfl, J.out.be⟩
set_option maxRecDepth 100000 in
set_option maxHeartbeats 4000000 in
theorem iparse_0 (w : World)   :
    Calls Tryz.prog 6 #[.string ⟨#[45, 48]⟩] w (Gives w (.two (.int 0) (.is (.bool false)))) := by
  go_enter Tryz.func6, Tryz.ntmps6
  have J := Frm.start (w := w) (V := []) fn
  refine wp_seq_h ?_; intro K1 hK1; go_wp2
  obtain ⟨W2, b2, eW2, eb2, sz2, J⟩ := Frm.putI0 J rfl
  rw [← eW2, ← eb2]
  clear eW2 eb2 sz2
  refine hK1.out _ _ ?_; clear hK1
  refine region_c [10, 11, 9, 12, 13, 5, 6] [.is (.string ⟨#[45, 48]⟩), .two (.is (.string ⟨#[48]⟩)) (.is (.bool true)), .two (.is (.string ⟨#[48]⟩)) (.is (.bool true)), .is (.string ⟨#[48]⟩), .is (.bool true), .is (.string ⟨#[48]⟩), .is (.bool true)] [] [] [] J ?_ ?_
  · refine .pl rfl (fun _ _ W Γ => ev_move _ (Γ.s rfl)) ?_
    refine .pl rfl (fun _ _ W Γ => ev_call2 (Γ.f _) run_sCutPrefix (by rw [Γ.c, (show _ = Value.string ⟨#[45, 48]⟩ from (Γ.k (d := 9) 0 rfl))]; exact cutPrefix_gives W ⟨#[45, 48]⟩ ⟨#[45]⟩ ⟨#[48]⟩ true (by decide) (by decide))) ?_
    refine .pl rfl (fun _ _ W Γ => ev_moveM (Γ.w 1 rfl)) ?_
    refine .pl rfl (fun _ _ W Γ => ev_ex20 (Γ.w 2 rfl)) ?_
    refine .pl rfl (fun _ _ W Γ => ev_ex21 (Γ.w 2 rfl)) ?_
    refine .pl rfl (fun _ _ W Γ => ev_assign _ (Γ.k 3 rfl)) ?_
    refine .pl rfl (fun _ _ W Γ => ev_assign _ (Γ.k 4 rfl)) ?_
    exact .nil
  clear J; intro K3 hK3; simp only [fx]; intro _ f3 W3 J; refine hK3.out _ _ ?_; clear hK3
  refine region_c [15, 16, 14, 17, 18, 7, 0, 8] [.is (.string ⟨#[48]⟩), .two (.num 0) (.is (.bool true)), .two (.num 0) (.is (.bool true)), .num 0, .is (.bool true), .any, .any, .is (.bool true)] [] [⟨.nat, 5, 6, .num 0, .agg #[.int .u64 0, .slice none 0 0]⟩] [] J ?_ ?_
  · refine .pl rfl (fun _ _ W Γ => ev_move _ (Γ.s rfl)) ?_
    refine .pl rfl (fun _ _ W Γ => ev_call1 (Γ.f _) run_Parse (by rw [(show _ = Value.string ⟨#[48]⟩ from (Γ.k (d := 14) 0 rfl))]; exact parse_0 W)) ?_
    refine .pl rfl (fun _ _ W Γ => ev_moveM (Γ.w 1 rfl)) ?_
    refine .pl rfl (fun _ _ W Γ => ev_ex20 (Γ.w 2 rfl)) ?_
    refine .pl rfl (fun _ _ W Γ => ev_ex21 (Γ.w 2 rfl)) ?_
    refine .al 0 rfl rfl (fun _ _ => ev_alN) ?_
    refine .sn 0 rfl rfl (fun _ _ W Γ => ev_stN (Γ.q 0 rfl) (Γ.un 0 rfl) (Γ.w 3 rfl)) ?_
    refine .pl rfl (fun _ _ W Γ => ev_assign _ (Γ.k 4 rfl)) ?_
    exact .nil
  clear J; intro K4 hK4; simp only [fx]; intro β4 f4 W4 J; refine hK4.out _ _ ?_; clear hK4
  refine wp_seq_h ?_; intro K5 hK5
  refine region_c [19, 20, 21, 22, 23, 24, 25, 26, 27] [.is (.bool true), .is (.bool false), .is (.bool false), .is (.bool true), .is (.bool true), .num 0, .is (.bool true), .is (.bool true), .is (.bool true)] [] [] [] J ?_ ?_
  · refine .pl rfl (fun _ _ W Γ => ev_move _ (Γ.s rfl)) ?_
    refine .pl rfl (fun _ _ W Γ => ev_not (Γ.k 0 rfl) rfl) ?_
    refine .pl rfl (fun _ _ W Γ => ev_move _ (Γ.k 1 rfl)) ?_
    refine .gu rfl rfl rfl rfl (fun _ _ W Γ => ev_move _ (Γ.s rfl)) ?_
    refine .gu rfl rfl rfl rfl (fun _ _ W Γ => ev_move _ (Γ.k 3 rfl)) ?_
    refine .gu rfl rfl rfl rfl (fun _ _ W Γ => ev_ldN (Γ.s rfl) (Γ.l 1 rfl)) ?_
    refine .gu rfl rfl rfl rfl (fun _ _ W Γ => ev_call1 (Γ.f _) run_iIsZero (izero_0 W _ (Γ.w (d := 23) 5 rfl))) ?_
    refine .gu rfl rfl rfl rfl (fun _ _ W Γ => ev_pick (Γ.k 4 rfl) (Γ.k 6 rfl)) ?_
    refine .pl rfl (fun _ _ W Γ => ev_pick (Γ.k 2 rfl) (Γ.k 7 rfl)) ?_
    exact .nil
  clear J; intro K6 hK6; simp only [fx]; intro _ f6 W6 J; refine hK6.out _ _ ?_; clear hK6
  refine wp_cond_true rfl ?_
  refine region_c [28, 0, 4] [.int 0, .any, .is (.bool false)] [some (1, .int 0)] [] [] J ?_ ?_
  · refine .pl rfl (fun _ _ W Γ => ev_zeroI) ?_
    refine .st 0 rfl rfl rfl (fun _ _ W Γ => ev_stI (Γ.s rfl) (Γ.u 0 rfl rfl) (Γ.w 0 rfl)) ?_
    refine .pl rfl (fun _ _ W Γ => ev_assign _ (Γ.c _)) ?_
    exact .nil
  clear J; intro K7 hK7; simp only [fx]; intro _ f7 W7 J; refine hK7.out _ _ ?_; clear hK7
  refine wp_ret ?_
  obtain ⟨u0, hx0, hm0⟩ := J.out.get 0 rfl
  obtain ⟨gr0, sr0, pr0, lr0, cr0, rfl, c0_0, c0_1, c0_2⟩ := hx0.int
  exact bodyPost_ret (v := .tuple #[.agg #[.bool gr0, .int .u64 sr0, .slice pr0 lr0 cr0], .bool false]) (by simp [results, Tryz.results6, go_sem, c0_0, c0_1, c0_2]) rfl ⟨_, rfl, ⟨_, _, rfl, hm0, rfl⟩, J.out.be⟩
set_option maxRecDepth 100000 in
set_option maxHeartbeats 4000000 in
theorem iparse_12 (w : World)   :
    Calls Tryz.prog 6 #[.string ⟨#[45, 49, 50]⟩] w (Gives w (.two (.int (-12)) (.is (.bool true)))) := by
  go_enter Tryz.func6, Tryz.ntmps6
  have J := Frm.start (w := w) (V := []) fn
  refine wp_seq_h ?_; intro K1 hK1; go_wp2
  obtain ⟨W2, b2, eW2, eb2, sz2, J⟩ := Frm.putI0 J rfl
  rw [← eW2, ← eb2]
  clear eW2 eb2 sz2
  refine hK1.out _ _ ?_; clear hK1
  refine region_c [10, 11, 9, 12, 13, 5, 6] [.is (.string ⟨#[45, 49, 50]⟩), .two (.is (.string ⟨#[49, 50]⟩)) (.is (.bool true)), .two (.is (.string ⟨#[49, 50]⟩)) (.is (.bool true)), .is (.string ⟨#[49, 50]⟩), .is (.bool true), .is (.string ⟨#[49, 50]⟩), .is (.bool true)] [] [] [] J ?_ ?_
  · refine .pl rfl (fun _ _ W Γ => ev_move _ (Γ.s rfl)) ?_
    refine .pl rfl (fun _ _ W Γ => ev_call2 (Γ.f _) run_sCutPrefix (by rw [Γ.c, (show _ = Value.string ⟨#[45, 49, 50]⟩ from (Γ.k (d := 9) 0 rfl))]; exact cutPrefix_gives W ⟨#[45, 49, 50]⟩ ⟨#[45]⟩ ⟨#[49, 50]⟩ true (by decide) (by decide))) ?_
    refine .pl rfl (fun _ _ W Γ => ev_moveM (Γ.w 1 rfl)) ?_
    refine .pl rfl (fun _ _ W Γ => ev_ex20 (Γ.w 2 rfl)) ?_
    refine .pl rfl (fun _ _ W Γ => ev_ex21 (Γ.w 2 rfl)) ?_
    refine .pl rfl (fun _ _ W Γ => ev_assign _ (Γ.k 3 rfl)) ?_
    refine .pl rfl (fun _ _ W Γ => ev_assign _ (Γ.k 4 rfl)) ?_
    exact .nil
  clear J; intro K3 hK3; simp only [fx]; intro _ f3 W3 J; refine hK3.out _ _ ?_; clear hK3
  refine region_c [15, 16, 14, 17, 18, 7, 0, 8] [.is (.string ⟨#[49, 50]⟩), .two (.num 12) (.is (.bool true)), .two (.num 12) (.is (.bool true)), .num 12, .is (.bool true), .any, .any, .is (.bool true)] [] [⟨.nat, 5, 6, .num 12, .agg #[.int .u64 0, .slice none 0 0]⟩] [] J ?_ ?_
  · refine .pl rfl (fun _ _ W Γ => ev_move _ (Γ.s rfl)) ?_
    refine .pl rfl (fun _ _ W Γ => ev_call1 (Γ.f _) run_Parse (by rw [(show _ = Value.string ⟨#[49, 50]⟩ from (Γ.k (d := 14) 0 rfl))]; exact parse_12 W)) ?_
    refine .pl rfl (fun _ _ W Γ => ev_moveM (Γ.w 1 rfl)) ?_
    refine .pl rfl (fun _ _ W Γ => ev_ex20 (Γ.w 2 rfl)) ?_
    refine .pl rfl (fun _ _ W Γ => ev_ex21 (Γ.w 2 rfl)) ?_
    refine .al 0 rfl rfl (fun _ _ => ev_alN) ?_
    refine .sn 0 rfl rfl (fun _ _ W Γ => ev_stN (Γ.q 0 rfl) (Γ.un 0 rfl) (Γ.w 3 rfl)) ?_
    refine .pl rfl (fun _ _ W Γ => ev_assign _ (Γ.k 4 rfl)) ?_
    exact .nil
  clear J; intro K4 hK4; simp only [fx]; intro β4 f4 W4 J; refine hK4.out _ _ ?_; clear hK4
  refine wp_seq_h ?_; intro K5 hK5
  refine region_c [19, 20, 21, 22, 23, 24, 25, 26, 27] [.is (.bool true), .is (.bool false), .is (.bool false), .is (.bool true), .is (.bool true), .num 12, .is (.bool false), .is (.bool false), .is (.bool false)] [] [] [] J ?_ ?_
  · refine .pl rfl (fun _ _ W Γ => ev_move _ (Γ.s rfl)) ?_
    refine .pl rfl (fun _ _ W Γ => ev_not (Γ.k 0 rfl) rfl) ?_
    refine .pl rfl (fun _ _ W Γ => ev_move _ (Γ.k 1 rfl)) ?_
    refine .gu rfl rfl rfl rfl (fun _ _ W Γ => ev_move _ (Γ.s rfl)) ?_
    refine .gu rfl rfl rfl rfl (fun _ _ W Γ => ev_move _ (Γ.k 3 rfl)) ?_
    refine .gu rfl rfl rfl rfl (fun _ _ W Γ => ev_ldN (Γ.s rfl) (Γ.l 1 rfl)) ?_
    refine .gu rfl rfl rfl rfl (fun _ _ W Γ => ev_call1 (Γ.f _) run_iIsZero (izero_12 W _ (Γ.w (d := 23) 5 rfl))) ?_
    refine .gu rfl rfl rfl rfl (fun _ _ W Γ => ev_pick (Γ.k 4 rfl) (Γ.k 6 rfl)) ?_
    refine .pl rfl (fun _ _ W Γ => ev_pick (Γ.k 2 rfl) (Γ.k 7 rfl)) ?_
    exact .nil
  clear J; intro K6 hK6; simp only [fx]; intro _ f6 W6 J; refine hK6.out _ _ ?_; clear hK6
  refine wp_cond_false rfl ?_
  refine wp_skip ?_
  refine hK5.out _ _ ?_; clear hK5
  refine region_c [29, 30, 31, 0, 4] [.is (.bool true), .num 12, .int (-12), .any, .is (.bool true)] [some (3, .int (-12))] [] [] J ?_ ?_
  · refine .pl rfl (fun _ _ W Γ => ev_move _ (Γ.s rfl)) ?_
    refine .pl rfl (fun _ _ W Γ => ev_ldN (Γ.s rfl) (Γ.l 1 rfl)) ?_
    refine .pl rfl (fun _ _ W Γ => ev_mkI (Γ.k 0 rfl) (Γ.w 1 rfl) (by decide)) ?_
    refine .st 0 rfl rfl rfl (fun _ _ W Γ => ev_stI (Γ.s rfl) (Γ.u 0 rfl rfl) (Γ.w 2 rfl)) ?_
    refine .pl rfl (fun _ _ W Γ => ev_assign _ (Γ.c _)) ?_
    exact .nil
  clear J; intro K7 hK7; simp only [fx]; intro _ f7 W7 J; refine hK7.out _ _ ?_; clear hK7
  refine wp_ret ?_
  obtain ⟨u0, hx0, hm0⟩ := J.out.get 0 rfl
  obtain ⟨gr0, sr0, pr0, lr0, cr0, rfl, c0_0, c0_1, c0_2⟩ := hx0.int
  exact bodyPost_ret (v := .tuple #[.agg #[.bool gr0, .int .u64 sr0, .slice pr0 lr0 cr0], .bool true]) (by simp [results, Tryz.results6, go_sem, c0_0, c0_1, c0_2]) rfl ⟨_, rfl, ⟨_, _, rfl, hm0, rfl⟩, J.out.be⟩
set_option maxRecDepth 100000 in
set_option maxHeartbeats 4000000 in
theorem ismall_min (w : World) (u1 : Value)  (h1 : Means w (.int (-9223372036854775808)) u1) :
    Calls Tryz.prog 7 #[u1] w (Gives w (.two (.is (.int .i64 (-9223372036854775808))) (.is (.bool true)))) := by
  obtain ⟨g1, s1, p1, l1, c1, rfl, h1⟩ := h1
  have H1 := Lib.hid h1; clear h1
  go_enter Tryz.func7, Tryz.ntmps7
  have J := Frm.start (w := w) (V := []) fn
  refine wp_seq_h ?_; intro K1 hK1; go_wp2
  obtain ⟨W2, b2, eW2, eb2, sz2, J⟩ := Frm.putI J rfl H1.out
  rw [← eW2, ← eb2]
  clear eW2 eb2 sz2
  refine hK1.out _ _ ?_; clear hK1
  refine region_c [8, 9, 10, 7, 11, 12, 5, 6] [.is (.pointer (some ⟨b2, 1, none⟩)), .num 9223372036854775808, .two (.is (.int .u64 9223372036854775808)) (.is (.bool true)), .two (.is (.int .u64 9223372036854775808)) (.is (.bool true)), .is (.int .u64 9223372036854775808), .is (.bool true), .is (.int .u64 9223372036854775808), .is (.bool true)] [] [] [] J ?_ ?_
  · refine .pl rfl (fun _ _ W Γ => ev_faI1 (Γ.s rfl)) ?_
    refine .pl rfl (fun _ _ W Γ => ev_ldI1 (Γ.k 0 rfl) (Γ.l 0 rfl) (by decide)) ?_
    refine .pl rfl (fun _ _ W Γ => ev_call1 (Γ.f _) run_nSmall (small_lt W _ 9223372036854775808 (by decide) (Γ.w (d := 8) 1 rfl))) ?_
    refine .pl rfl (fun _ _ W Γ => ev_moveM (Γ.w 2 rfl)) ?_
    refine .pl rfl (fun _ _ W Γ => ev_ex20 (Γ.w 3 rfl)) ?_
    refine .pl rfl (fun _ _ W Γ => ev_ex21 (Γ.w 3 rfl)) ?_
    refine .pl rfl (fun _ _ W Γ => ev_assign _ (Γ.k 4 rfl)) ?_
    refine .pl rfl (fun _ _ W Γ => ev_assign _ (Γ.k 5 rfl)) ?_
    exact .nil
  clear J; intro K3 hK3; simp only [fx]; intro _ f3 W3 J; refine hK3.out _ _ ?_; clear hK3
  refine wp_seq_h ?_; intro K4 hK4
  refine wp_block ?_
  refine region_c [14, 15, 16, 17, 18, 19, 20, 21, 22, 13] [.is (.bool true), .is (.bool true), .is (.pointer (some ⟨b2, 0, none⟩)), .is (.bool true), .is (.bool true), .is (.bool true), .is (.int .u64 9223372036854775808), .is (.bool true), .is (.bool true), .is (.bool true)] [] [] [] J ?_ ?_
  · refine .pl rfl (fun _ _ W Γ => ev_move _ (Γ.s rfl)) ?_
    refine .pl rfl (fun _ _ W Γ => ev_move _ (Γ.k 0 rfl)) ?_
    refine .gu rfl rfl rfl rfl (fun _ _ W Γ => ev_faI0 (Γ.s rfl)) ?_
    refine .gu rfl rfl rfl rfl (fun _ _ W Γ => ev_ldI0 (Γ.k 2 rfl) (Γ.l 0 rfl) (by decide)) ?_
    refine .pl rfl (fun _ _ W Γ => ev_pick (Γ.k 1 rfl) (Γ.k 3 rfl)) ?_
    refine .pl rfl (fun _ _ W Γ => ev_move _ (Γ.k 4 rfl)) ?_
    refine .gu rfl rfl rfl rfl (fun _ _ W Γ => ev_move _ (Γ.s rfl)) ?_
    refine .gu rfl rfl rfl rfl (fun _ E W Γ => by
      have e1 : E (.tmp 19) = .int .u64 9223372036854775808 := (Γ.k 6 rfl)
      have hc := Γ.c
      exact Does.value (w' := W) (by go_simp <;> first | rfl | (rw [IntKind.wrap_i64]; omega)) ⟨rfl, Below.refl _ _⟩) ?_
    refine .pl rfl (fun _ _ W Γ => ev_pick (Γ.k 5 rfl) (Γ.k 7 rfl)) ?_
    refine .pl rfl (fun _ _ W Γ => ev_assign _ (Γ.k 8 rfl)) ?_
    exact .nil
  clear J; intro K5 hK5; simp only [fx]; intro _ f5 W5 J; refine hK5.out _ _ ?_; clear hK5
  refine wp_cond_true rfl ?_
  refine region_c [23, 24, 25, 3, 4] [.is (.int .u64 9223372036854775808), .is (.int .u64 9223372036854775808), .is (.int .i64 (-9223372036854775808)), .is (.int .i64 (-9223372036854775808)), .is (.bool true)] [] [] [] J ?_ ?_
  · refine .pl rfl (fun _ _ W Γ => ev_move _ (Γ.s rfl)) ?_
    refine .pl rfl (fun _ E W Γ => by
      have e1 : E (.tmp 22) = .int .u64 9223372036854775808 := (Γ.k 0 rfl)
      have hc := Γ.c
      exact Does.value (w' := W) (by go_simp <;> first | rfl | (rw [IntKind.wrap_i64]; omega)) ⟨rfl, Below.refl _ _⟩) ?_
    refine .pl rfl (fun _ E W Γ => by
      have e1 : E (.tmp 23) = .int .u64 9223372036854775808 := (Γ.k 1 rfl)
      have hc := Γ.c
      exact Does.value (w' := W) (by go_simp <;> first | rfl | (rw [IntKind.wrap_i64]; omega)) ⟨rfl, Below.refl _ _⟩) ?_
    refine .pl rfl (fun _ _ W Γ => ev_assign _ (Γ.k 2 rfl)) ?_
    refine .pl rfl (fun _ _ W Γ => ev_assign _ (Γ.c _)) ?_
    exact .nil
  clear J; intro K6 hK6; simp only [fx]; intro _ f6 W6 J; refine hK6.out _ _ ?_; clear hK6
  refine wp_ret ?_
  exact bodyPost_ret (v := .tuple #[.int .i64 (-9223372036854775808), .bool true]) (by simp [results, Tryz.results7, go_sem]) rfl ⟨_, rfl, ⟨_, _, rfl, rfl, rfl⟩, J.out.be⟩
set_option maxRecDepth 100000 in
set_option maxHeartbeats 4000000 in
theorem ismall_big (w : World) (u1 : Value)  (h1 : Means w (.int (9223372036854775808 : Int)) u1) :
    Calls Tryz.prog 7 #[u1] w (Gives w (.two (.is (.int .i64 0)) (.is (.bool false)))) := by
  obtain ⟨g1, s1, p1, l1, c1, rfl, h1⟩ := h1
  have H1 := Lib.hid h1; clear h1
  go_enter Tryz.func7, Tryz.ntmps7
  have J := Frm.start (w := w) (V := []) fn
  refine wp_seq_h ?_; intro K1 hK1; go_wp2
  obtain ⟨W2, b2, eW2, eb2, sz2, J⟩ := Frm.putI J rfl H1.out
  rw [← eW2, ← eb2]
  clear eW2 eb2 sz2
  refine hK1.out _ _ ?_; clear hK1
  refine region_c [8, 9, 10, 7, 11, 12, 5, 6] [.is (.pointer (some ⟨b2, 1, none⟩)), .num 9223372036854775808, .two (.is (.int .u64 9223372036854775808)) (.is (.bool true)), .two (.is (.int .u64 9223372036854775808)) (.is (.bool true)), .is (.int .u64 9223372036854775808), .is (.bool true), .is (.int .u64 9223372036854775808), .is (.bool true)] [] [] [] J ?_ ?_
  · refine .pl rfl (fun _ _ W Γ => ev_faI1 (Γ.s rfl)) ?_
    refine .pl rfl (fun _ _ W Γ => ev_ldI1 (Γ.k 0 rfl) (Γ.l 0 rfl) (by decide)) ?_
    refine .pl rfl (fun _ _ W Γ => ev_call1 (Γ.f _) run_nSmall (small_lt W _ 9223372036854775808 (by decide) (Γ.w (d := 8) 1 rfl))) ?_
    refine .pl rfl (fun _ _ W Γ => ev_moveM (Γ.w 2 rfl)) ?_
    refine .pl rfl (fun _ _ W Γ => ev_ex20 (Γ.w 3 rfl)) ?_
    refine .pl rfl (fun _ _ W Γ => ev_ex21 (Γ.w 3 rfl)) ?_
    refine .pl rfl (fun _ _ W Γ => ev_assign _ (Γ.k 4 rfl)) ?_
    refine .pl rfl (fun _ _ W Γ => ev_assign _ (Γ.k 5 rfl)) ?_
    exact .nil
  clear J; intro K3 hK3; simp only [fx]; intro _ f3 W3 J; refine hK3.out _ _ ?_; clear hK3
  refine wp_seq_h ?_; intro K4 hK4
  refine wp_block ?_
  refine region_c [14, 15, 16, 17, 18, 19, 20, 21, 22, 13] [.is (.bool true), .is (.bool true), .is (.pointer (some ⟨b2, 0, none⟩)), .is (.bool false), .is (.bool false), .is (.bool false), .is undef, .is undef, .is (.bool false), .is (.bool false)] [] [] [] J ?_ ?_
  · refine .pl rfl (fun _ _ W Γ => ev_move _ (Γ.s rfl)) ?_
    refine .pl rfl (fun _ _ W Γ => ev_move _ (Γ.k 0 rfl)) ?_
    refine .gu rfl rfl rfl rfl (fun _ _ W Γ => ev_faI0 (Γ.s rfl)) ?_
    refine .gu rfl rfl rfl rfl (fun _ _ W Γ => ev_ldI0 (Γ.k 2 rfl) (Γ.l 0 rfl) (by decide)) ?_
    refine .pl rfl (fun _ _ W Γ => ev_pick (Γ.k 1 rfl) (Γ.k 3 rfl)) ?_
    refine .pl rfl (fun _ _ W Γ => ev_move _ (Γ.k 4 rfl)) ?_
    refine .off rfl rfl rfl rfl ?_
    refine .off rfl rfl rfl rfl ?_
    refine .pl rfl (fun _ _ W Γ => ev_pick (Γ.k 5 rfl) (Γ.c _)) ?_
    refine .pl rfl (fun _ _ W Γ => ev_assign _ (Γ.k 8 rfl)) ?_
    exact .nil
  clear J; intro K5 hK5; simp only [fx]; intro _ f5 W5 J; refine hK5.out _ _ ?_; clear hK5
  refine wp_cond_false rfl ?_
  refine region_c [27, 28, 29, 30, 31, 32, 33, 34, 35, 36, 26] [.is (.bool true), .is (.bool true), .is (.pointer (some ⟨b2, 0, none⟩)), .is (.bool false), .is (.bool true), .is (.bool true), .is (.bool true), .is (.int .u64 9223372036854775808), .is (.bool false), .is (.bool false), .is (.bool false)] [] [] [] J ?_ ?_
  · refine .pl rfl (fun _ _ W Γ => ev_move _ (Γ.s rfl)) ?_
    refine .pl rfl (fun _ _ W Γ => ev_move _ (Γ.k 0 rfl)) ?_
    refine .gu rfl rfl rfl rfl (fun _ _ W Γ => ev_faI0 (Γ.s rfl)) ?_
    refine .gu rfl rfl rfl rfl (fun _ _ W Γ => ev_ldI0 (Γ.k 2 rfl) (Γ.l 0 rfl) (by decide)) ?_
    refine .gu rfl rfl rfl rfl (fun _ _ W Γ => ev_not (Γ.k 3 rfl) rfl) ?_
    refine .pl rfl (fun _ _ W Γ => ev_pick (Γ.k 1 rfl) (Γ.k 4 rfl)) ?_
    refine .pl rfl (fun _ _ W Γ => ev_move _ (Γ.k 5 rfl)) ?_
    refine .gu rfl rfl rfl rfl (fun _ _ W Γ => ev_move _ (Γ.s rfl)) ?_
    refine .gu rfl rfl rfl rfl (fun _ E W Γ => by
      have e1 : E (.tmp 33) = .int .u64 9223372036854775808 := (Γ.k 7 rfl)
      have hc := Γ.c
      exact Does.value (w' := W) (by go_simp <;> first | rfl | (rw [IntKind.wrap_i64]; omega)) ⟨rfl, Below.refl _ _⟩) ?_
    refine .pl rfl (fun _ _ W Γ => ev_pick (Γ.k 6 rfl) (Γ.k 8 rfl)) ?_
    refine .pl rfl (fun _ _ W Γ => ev_assign _ (Γ.k 9 rfl)) ?_
    exact .nil
  clear J; intro K6 hK6; simp only [fx]; intro _ f6 W6 J; refine hK6.out _ _ ?_; clear hK6
  refine wp_cond_false rfl ?_
  refine wp_skip ?_
  refine hK4.out _ _ ?_; clear hK4
  refine region_c [3, 4] [.is (.int .i64 0), .is (.bool false)] [] [] [] J ?_ ?_
  · refine .pl rfl (fun _ _ W Γ => ev_assign _ (Γ.c _)) ?_
    refine .pl rfl (fun _ _ W Γ => ev_assign _ (Γ.c _)) ?_
    exact .nil
  clear J; intro K7 hK7; simp only [fx]; intro _ f7 W7 J; refine hK7.out _ _ ?_; clear hK7
  refine wp_ret ?_
  exact bodyPost_ret (v := .tuple #[.int .i64 0, .bool false]) (by simp [results, Tryz.results7, go_sem]) rfl ⟨_, rfl, ⟨_, _, rfl, rfl, rfl⟩, J.out.be⟩
set_option maxRecDepth 100000 in
set_option maxHeartbeats 4000000 in
theorem itext_m4 (w : World) (u1 : Value)  (h1 : Means w (.int (-4)) u1) :
    Calls Tryz.prog 12 #[u1] w (Gives w (.is (.string ⟨#[45, 52]⟩))) := by
  obtain ⟨g1, s1, p1, l1, c1, rfl, h1⟩ := h1
  have H1 := Lib.hid h1; clear h1
  go_enter Tryz.func12, Tryz.ntmps12
  have J := Frm.start (w := w) (V := []) fn
  refine wp_seq_h ?_; intro K1 hK1; go_wp2
  obtain ⟨W2, b2, eW2, eb2, sz2, J⟩ := Frm.putI J rfl H1.out
  rw [← eW2, ← eb2]
  clear eW2 eb2 sz2
  refine hK1.out _ _ ?_; clear hK1
  refine wp_seq_h ?_; intro K3 hK3
  refine region_c [4, 5] [.is (.pointer (some ⟨b2, 0, none⟩)), .is (.bool true)] [] [] [] J ?_ ?_
  · refine .pl rfl (fun _ _ W Γ => ev_faI0 (Γ.s rfl)) ?_
    refine .pl rfl (fun _ _ W Γ => ev_ldI0 (Γ.k 0 rfl) (Γ.l 0 rfl) (by decide)) ?_
    exact .nil
  clear J; intro K4 hK4; simp only [fx]; intro _ f4 W4 J; refine hK4.out _ _ ?_; clear hK4
  refine wp_cond_true rfl ?_
  refine region_c [6, 7, 8, 9, 3] [.is (.pointer (some ⟨b2, 1, none⟩)), .num 4, .is (.string ⟨#[52]⟩), .is (.string ⟨#[45, 52]⟩), .is (.string ⟨#[45, 52]⟩)] [] [] [] J ?_ ?_
  · refine .pl rfl (fun _ _ W Γ => ev_faI1 (Γ.s rfl)) ?_
    refine .pl rfl (fun _ _ W Γ => ev_ldI1 (Γ.k 0 rfl) (Γ.l 0 rfl) (by decide)) ?_
    refine .pl rfl (fun _ _ W Γ => ev_call1 (Γ.f _) run_nText (nText_small W _ 4 _ (by decide) small_4 (Γ.w (d := 6) 1 rfl))) ?_
    refine .pl rfl (fun _ E W Γ => by
      have e1 : E (.tmp 7) = .string ⟨#[52]⟩ := (Γ.k 2 rfl)
      have hc := Γ.c
      exact Does.value (w' := W) (by go_simp <;> first | rfl | (rw [IntKind.wrap_i64]; omega)) ⟨rfl, Below.refl _ _⟩) ?_
    refine .pl rfl (fun _ _ W Γ => ev_assign _ (Γ.k 3 rfl)) ?_
    exact .nil
  clear J; intro K5 hK5; simp only [fx]; intro _ f5 W5 J; refine hK5.out _ _ ?_; clear hK5
  refine wp_ret ?_
  exact bodyPost_ret (v := .string ⟨#[45, 52]⟩) (by simp [results, Tryz.results12, go_sem]) rfl ⟨_, rfl, rfl, J.out.be⟩
set_option maxRecDepth 100000 in
set_option maxHeartbeats 4000000 in
theorem itext_m8 (w : World) (u1 : Value)  (h1 : Means w (.int (-8)) u1) :
    Calls Tryz.prog 12 #[u1] w (Gives w (.is (.string ⟨#[45, 56]⟩))) := by
  obtain ⟨g1, s1, p1, l1, c1, rfl, h1⟩ := h1
  have H1 := Lib.hid h1; clear h1
  go_enter Tryz.func12, Tryz.ntmps12
  have J := Frm.start (w := w) (V := []) fn
  refine wp_seq_h ?_; intro K1 hK1; go_wp2
  obtain ⟨W2, b2, eW2, eb2, sz2, J⟩ := Frm.putI J rfl H1.out
  rw [← eW2, ← eb2]
  clear eW2 eb2 sz2
  refine hK1.out _ _ ?_; clear hK1
  refine wp_seq_h ?_; intro K3 hK3
  refine region_c [4, 5] [.is (.pointer (some ⟨b2, 0, none⟩)), .is (.bool true)] [] [] [] J ?_ ?_
  · refine .pl rfl (fun _ _ W Γ => ev_faI0 (Γ.s rfl)) ?_
    refine .pl rfl (fun _ _ W Γ => ev_ldI0 (Γ.k 0 rfl) (Γ.l 0 rfl) (by decide)) ?_
    exact .nil
  clear J; intro K4 hK4; simp only [fx]; intro _ f4 W4 J; refine hK4.out _ _ ?_; clear hK4
  refine wp_cond_true rfl ?_
  refine region_c [6, 7, 8, 9, 3] [.is (.pointer (some ⟨b2, 1, none⟩)), .num 8, .is (.string ⟨#[56]⟩), .is (.string ⟨#[45, 56]⟩), .is (.string ⟨#[45, 56]⟩)] [] [] [] J ?_ ?_
  · refine .pl rfl (fun _ _ W Γ => ev_faI1 (Γ.s rfl)) ?_
    refine .pl rfl (fun _ _ W Γ => ev_ldI1 (Γ.k 0 rfl) (Γ.l 0 rfl) (by decide)) ?_
    refine .pl rfl (fun _ _ W Γ => ev_call1 (Γ.f _) run_nText (nText_small W _ 8 _ (by decide) small_8 (Γ.w (d := 6) 1 rfl))) ?_
    refine .pl rfl (fun _ E W Γ => by
      have e1 : E (.tmp 7) = .string ⟨#[56]⟩ := (Γ.k 2 rfl)
      have hc := Γ.c
      exact Does.value (w' := W) (by go_simp <;> first | rfl | (rw [IntKind.wrap_i64]; omega)) ⟨rfl, Below.refl _ _⟩) ?_
    refine .pl rfl (fun _ _ W Γ => ev_assign _ (Γ.k 3 rfl)) ?_
    exact .nil
  clear J; intro K5 hK5; simp only [fx]; intro _ f5 W5 J; refine hK5.out _ _ ?_; clear hK5
  refine wp_ret ?_
  exact bodyPost_ret (v := .string ⟨#[45, 56]⟩) (by simp [results, Tryz.results12, go_sem]) rfl ⟨_, rfl, rfl, J.out.be⟩
set_option maxRecDepth 100000 in
set_option maxHeartbeats 4000000 in
theorem wknown_gives (w : World) (hT : Tab64 w)  :
    Calls Tryz.prog 3 #[] w (Gives w (.is (.bool true))) := by
  have TB := Lib.hid hT; clear hT
  go_enter Tryz.func3, Tryz.ntmps3
  have J := Frm.start (w := w) (V := []) fn
  refine wp_seq_h ?_; intro K1 hK1; go_wp2
  refine hK1.out _ _ ?_; clear hK1
  refine wp_seq_h ?_; intro K2 hK2; go_wp2
  obtain ⟨W3, b3, eW3, eb3, sz3, J⟩ := Frm.putI0 J rfl
  rw [← eW3, ← eb3]; clear eW3 eb3 sz3; refine hK2.out _ _ ?_; clear hK2
  refine region_c [23, 24, 25, 22, 26, 27, 28, 3, 4, 0, 0, 5] [.int 7, .int (-2), .three (.int (-4)) (.int (-1)) (.is (.bool true)), .three (.int (-4)) (.int (-1)) (.is (.bool true)), .int (-4), .int (-1), .is (.bool true), .any, .any, .any, .any, .is (.bool true)] [] [⟨.int, 7, 9, .int (-4), .agg #[.bool false, .int .u64 0, .slice none 0 0]⟩, ⟨.int, 8, 10, .int (-1), .agg #[.bool false, .int .u64 0, .slice none 0 0]⟩] [] J ?_ ?_
  · refine .pl rfl (fun _ _ W Γ => ev_call1 (Γ.f _) run_iOf (by rw [Γ.c]; exact iOf_gives 7 W (by decide) (by decide))) ?_
    refine .pl rfl (fun _ _ W Γ => ev_call1 (Γ.f _) run_iOf (by rw [Γ.c]; exact iOf_gives (-2) W (by decide) (by decide))) ?_
    refine .pl rfl (fun _ _ W Γ => ev_call2 (Γ.f _) run_iDiv (iDiv_gives W _ _ 7 (-2) (-4) (-1) (by decide) (by rw [show (7 : Int).natAbs = 7 from rfl, ds_one (by decide)]; omega) (by rw [show (-2 : Int).natAbs = 2 from rfl, ds_one (by decide)]; omega) (by decide) (by decide) (Γ.w (d := 22) 0 rfl) (Γ.w (d := 23) 1 rfl))) ?_
    refine .pl rfl (fun _ _ W Γ => ev_moveM (Γ.w 2 rfl)) ?_
    refine .pl rfl (fun _ _ W Γ => ev_ex30 (Γ.w 3 rfl)) ?_
    refine .pl rfl (fun _ _ W Γ => ev_ex31 (Γ.w 3 rfl)) ?_
    refine .pl rfl (fun _ _ W Γ => ev_ex32 (Γ.w 3 rfl)) ?_
    refine .al 0 rfl rfl (fun _ _ => ev_alI) ?_
    refine .al 1 rfl rfl (fun _ _ => ev_alI) ?_
    refine .sn 0 rfl rfl (fun _ _ W Γ => ev_stI (Γ.q 0 rfl) (Γ.un 0 rfl) (Γ.w 4 rfl)) ?_
    refine .sn 1 rfl rfl (fun _ _ W Γ => ev_stI (Γ.q 1 rfl) (Γ.un 1 rfl) (Γ.w 5 rfl)) ?_
    refine .pl rfl (fun _ _ W Γ => ev_assign _ (Γ.k 6 rfl)) ?_
    exact .nil
  clear J; intro K4 hK4; simp only [fx]; intro β4 f4 W4 J; refine hK4.out _ _ ?_; clear hK4
  refine region_c [30, 29, 31, 32, 6, 0, 7] [.two (.int 0) (.is (.bool false)), .two (.int 0) (.is (.bool false)), .int 0, .is (.bool false), .any, .any, .is (.bool false)] [] [⟨.int, 4, 5, .int 0, .agg #[.bool false, .int .u64 0, .slice none 0 0]⟩] [] J ?_ ?_
  · refine .pl rfl (fun _ _ W Γ => ev_call1 (Γ.f _) run_iParse (by rw [Γ.c]; exact iparse_0 W)) ?_
    refine .pl rfl (fun _ _ W Γ => ev_moveM (Γ.w 0 rfl)) ?_
    refine .pl rfl (fun _ _ W Γ => ev_ex20 (Γ.w 1 rfl)) ?_
    refine .pl rfl (fun _ _ W Γ => ev_ex21 (Γ.w 1 rfl)) ?_
    refine .al 0 rfl rfl (fun _ _ => ev_alI) ?_
    refine .sn 0 rfl rfl (fun _ _ W Γ => ev_stI (Γ.q 0 rfl) (Γ.un 0 rfl) (Γ.w 2 rfl)) ?_
    refine .pl rfl (fun _ _ W Γ => ev_assign _ (Γ.k 3 rfl)) ?_
    exact .nil
  clear J; intro K5 hK5; simp only [fx]; intro β5 f5 W5 J; refine hK5.out _ _ ?_; clear hK5
  refine region_c [34, 33, 35, 36, 8, 0, 9] [.two (.int (-12)) (.is (.bool true)), .two (.int (-12)) (.is (.bool true)), .int (-12), .is (.bool true), .any, .any, .is (.bool true)] [] [⟨.int, 4, 5, .int (-12), .agg #[.bool false, .int .u64 0, .slice none 0 0]⟩] [] J ?_ ?_
  · refine .pl rfl (fun _ _ W Γ => ev_call1 (Γ.f _) run_iParse (by rw [Γ.c]; exact iparse_12 W)) ?_
    refine .pl rfl (fun _ _ W Γ => ev_moveM (Γ.w 0 rfl)) ?_
    refine .pl rfl (fun _ _ W Γ => ev_ex20 (Γ.w 1 rfl)) ?_
    refine .pl rfl (fun _ _ W Γ => ev_ex21 (Γ.w 1 rfl)) ?_
    refine .al 0 rfl rfl (fun _ _ => ev_alI) ?_
    refine .sn 0 rfl rfl (fun _ _ W Γ => ev_stI (Γ.q 0 rfl) (Γ.un 0 rfl) (Γ.w 2 rfl)) ?_
    refine .pl rfl (fun _ _ W Γ => ev_assign _ (Γ.k 3 rfl)) ?_
    exact .nil
  clear J; intro K6 hK6; simp only [fx]; intro β6 f6 W6 J; refine hK6.out _ _ ?_; clear hK6
  refine region_c [38, 39, 40, 37, 41, 42, 43, 10, 11, 0, 0, 12] [.int (-12), .int 0, .three (.int 0) (.int 0) (.is (.bool false)), .three (.int 0) (.int 0) (.is (.bool false)), .int 0, .int 0, .is (.bool false), .any, .any, .any, .any, .is (.bool false)] [] [⟨.int, 7, 9, .int 0, .agg #[.bool false, .int .u64 0, .slice none 0 0]⟩, ⟨.int, 8, 10, .int 0, .agg #[.bool false, .int .u64 0, .slice none 0 0]⟩] [] J ?_ ?_
  · refine .pl rfl (fun _ _ W Γ => ev_ldI (Γ.s rfl) (Γ.l 4 rfl)) ?_
    refine .pl rfl (fun _ _ W Γ => ev_ldI (Γ.s rfl) (Γ.l 0 rfl)) ?_
    refine .pl rfl (fun _ _ W Γ => ev_call2 (Γ.f _) run_iDiv (iDiv_by0 W _ _ (-12) (Γ.w (d := 37) 0 rfl) (Γ.w (d := 38) 1 rfl))) ?_
    refine .pl rfl (fun _ _ W Γ => ev_moveM (Γ.w 2 rfl)) ?_
    refine .pl rfl (fun _ _ W Γ => ev_ex30 (Γ.w 3 rfl)) ?_
    refine .pl rfl (fun _ _ W Γ => ev_ex31 (Γ.w 3 rfl)) ?_
    refine .pl rfl (fun _ _ W Γ => ev_ex32 (Γ.w 3 rfl)) ?_
    refine .al 0 rfl rfl (fun _ _ => ev_alI) ?_
    refine .al 1 rfl rfl (fun _ _ => ev_alI) ?_
    refine .sn 0 rfl rfl (fun _ _ W Γ => ev_stI (Γ.q 0 rfl) (Γ.un 0 rfl) (Γ.w 4 rfl)) ?_
    refine .sn 1 rfl rfl (fun _ _ W Γ => ev_stI (Γ.q 1 rfl) (Γ.un 1 rfl) (Γ.w 5 rfl)) ?_
    refine .pl rfl (fun _ _ W Γ => ev_assign _ (Γ.k 6 rfl)) ?_
    exact .nil
  clear J; intro K7 hK7; simp only [fx]; intro β7 f7 W7 J; refine hK7.out _ _ ?_; clear hK7
  refine region_c [45, 46, 44, 47, 48, 13, 14] [.int (-9223372036854775808), .two (.is (.int .i64 (-9223372036854775808))) (.is (.bool true)), .two (.is (.int .i64 (-9223372036854775808))) (.is (.bool true)), .is (.int .i64 (-9223372036854775808)), .is (.bool true), .is (.int .i64 (-9223372036854775808)), .is (.bool true)] [] [] [] J ?_ ?_
  · refine .pl rfl (fun _ _ W Γ => ev_call1 (Γ.f _) run_iOf (by rw [Γ.c]; exact iOf_gives (-9223372036854775808) W (by decide) (by decide))) ?_
    refine .pl rfl (fun _ _ W Γ => ev_call1 (Γ.f _) run_iSmall (ismall_min W _ (Γ.w (d := 44) 0 rfl))) ?_
    refine .pl rfl (fun _ _ W Γ => ev_moveM (Γ.w 1 rfl)) ?_
    refine .pl rfl (fun _ _ W Γ => ev_ex20 (Γ.w 2 rfl)) ?_
    refine .pl rfl (fun _ _ W Γ => ev_ex21 (Γ.w 2 rfl)) ?_
    refine .pl rfl (fun _ _ W Γ => ev_assign _ (Γ.k 3 rfl)) ?_
    refine .pl rfl (fun _ _ W Γ => ev_assign _ (Γ.k 4 rfl)) ?_
    exact .nil
  clear J; intro K8 hK8; simp only [fx]; intro _ f8 W8 J; refine hK8.out _ _ ?_; clear hK8
  refine region_c [50, 51, 52, 49, 53, 54, 15, 16] [.int (-9223372036854775808), .int (9223372036854775808 : Int), .two (.is (.int .i64 0)) (.is (.bool false)), .two (.is (.int .i64 0)) (.is (.bool false)), .is (.int .i64 0), .is (.bool false), .is (.int .i64 0), .is (.bool false)] [] [] [] J ?_ ?_
  · refine .pl rfl (fun _ _ W Γ => ev_call1 (Γ.f _) run_iOf (by rw [Γ.c]; exact iOf_gives (-9223372036854775808) W (by decide) (by decide))) ?_
    refine .pl rfl (fun _ _ W Γ => ev_call1 (Γ.f _) run_iNeg (show Calls Tryz.prog 8 #[_] W (Gives W (.int (9223372036854775808 : Int))) from iNeg_want W _ (-9223372036854775808) (Γ.w (d := 49) 0 rfl))) ?_
    refine .pl rfl (fun _ _ W Γ => ev_call1 (Γ.f _) run_iSmall (ismall_big W _ (Γ.w (d := 50) 1 rfl))) ?_
    refine .pl rfl (fun _ _ W Γ => ev_moveM (Γ.w 2 rfl)) ?_
    refine .pl rfl (fun _ _ W Γ => ev_ex20 (Γ.w 3 rfl)) ?_
    refine .pl rfl (fun _ _ W Γ => ev_ex21 (Γ.w 3 rfl)) ?_
    refine .pl rfl (fun _ _ W Γ => ev_assign _ (Γ.k 4 rfl)) ?_
    refine .pl rfl (fun _ _ W Γ => ev_assign _ (Γ.k 5 rfl)) ?_
    exact .nil
  clear J; intro K9 hK9; simp only [fx]; intro _ f9 W9 J; refine hK9.out _ _ ?_; clear hK9
  refine region_c [56, 57, 55, 58, 59, 17, 0, 18] [.int (-2), .two (.int (-8)) (.is (.bool true)), .two (.int (-8)) (.is (.bool true)), .int (-8), .is (.bool true), .any, .any, .is (.bool true)] [] [⟨.int, 5, 6, .int (-8), .agg #[.bool false, .int .u64 0, .slice none 0 0]⟩] [] J ?_ ?_
  · refine .pl rfl (fun _ _ W Γ => ev_call1 (Γ.f _) run_iOf (by rw [Γ.c]; exact iOf_gives (-2) W (by decide) (by decide))) ?_
    refine .pl rfl (fun _ _ W Γ => ev_call2 (Γ.f _) run_iPow (by rw [Γ.c]; exact iPow_gives W _ (-2) 3 (-8) (by decide) (by rw [show (-2 : Int).natAbs = 2 from rfl, ds_one (by decide)]; omega) (by rw [show (-2 : Int).natAbs = 2 from rfl, ds_one (by decide)]; omega) (by decide) (Γ.w (d := 55) 0 rfl))) ?_
    refine .pl rfl (fun _ _ W Γ => ev_moveM (Γ.w 1 rfl)) ?_
    refine .pl rfl (fun _ _ W Γ => ev_ex20 (Γ.w 2 rfl)) ?_
    refine .pl rfl (fun _ _ W Γ => ev_ex21 (Γ.w 2 rfl)) ?_
    refine .al 0 rfl rfl (fun _ _ => ev_alI) ?_
    refine .sn 0 rfl rfl (fun _ _ W Γ => ev_stI (Γ.q 0 rfl) (Γ.un 0 rfl) (Γ.w 3 rfl)) ?_
    refine .pl rfl (fun _ _ W Γ => ev_assign _ (Γ.k 4 rfl)) ?_
    exact .nil
  clear J; intro K10 hK10; simp only [fx]; intro β10 f10 W10 J; refine hK10.out _ _ ?_; clear hK10
  refine region_c [61, 62, 63, 60, 64, 65, 66, 19, 20, 21, 0, 0, 0] [.int (-5), .int 0, .three (.int 5) (.int (-1)) (.int 0), .three (.int 5) (.int (-1)) (.int 0), .int 5, .int (-1), .int 0, .any, .any, .any, .any, .any, .any] [] [⟨.int, 7, 10, .int 5, .agg #[.bool false, .int .u64 0, .slice none 0 0]⟩, ⟨.int, 8, 11, .int (-1), .agg #[.bool false, .int .u64 0, .slice none 0 0]⟩, ⟨.int, 9, 12, .int 0, .agg #[.bool false, .int .u64 0, .slice none 0 0]⟩] [] J ?_ ?_
  · refine .pl rfl (fun _ _ W Γ => ev_call1 (Γ.f _) run_iOf (by rw [Γ.c]; exact iOf_gives (-5) W (by decide) (by decide))) ?_
    refine .pl rfl (fun _ _ W Γ => ev_ldI (Γ.s rfl) (Γ.l 0 rfl)) ?_
    refine .pl rfl (fun _ _ W Γ => ev_call2 (Γ.f _) run_iBezout (show Calls Tryz.prog 10 #[_, _] W (Gives W (.three (.int 5) (.int (-1)) (.int 0))) from bez_zero W _ _ (-5) (by rw [show (-5 : Int).natAbs = 5 from rfl, ds_one (by decide)]; omega) (Γ.w (d := 60) 0 rfl) (Γ.w (d := 61) 1 rfl))) ?_
    refine .pl rfl (fun _ _ W Γ => ev_moveM (Γ.w 2 rfl)) ?_
    refine .pl rfl (fun _ _ W Γ => ev_ex30 (Γ.w 3 rfl)) ?_
    refine .pl rfl (fun _ _ W Γ => ev_ex31 (Γ.w 3 rfl)) ?_
    refine .pl rfl (fun _ _ W Γ => ev_ex32 (Γ.w 3 rfl)) ?_
    refine .al 0 rfl rfl (fun _ _ => ev_alI) ?_
    refine .al 1 rfl rfl (fun _ _ => ev_alI) ?_
    refine .al 2 rfl rfl (fun _ _ => ev_alI) ?_
    refine .sn 0 rfl rfl (fun _ _ W Γ => ev_stI (Γ.q 0 rfl) (Γ.un 0 rfl) (Γ.w 4 rfl)) ?_
    refine .sn 1 rfl rfl (fun _ _ W Γ => ev_stI (Γ.q 1 rfl) (Γ.un 1 rfl) (Γ.w 5 rfl)) ?_
    refine .sn 2 rfl rfl (fun _ _ W Γ => ev_stI (Γ.q 2 rfl) (Γ.un 2 rfl) (Γ.w 6 rfl)) ?_
    exact .nil
  clear J; intro K11 hK11; simp only [fx]; intro β11 f11 W11 J; refine hK11.out _ _ ?_; clear hK11
  refine region_c [67, 68, 69, 70, 71, 72, 73, 74, 75, 76, 77, 78, 79, 80, 81, 82, 83, 84, 85, 86, 87, 88, 89, 90, 91, 92, 93, 94, 95, 96, 97, 98, 99, 100, 101, 102, 103, 104, 105, 106, 107, 108, 109, 110, 111, 112, 113, 114, 115, 116, 117, 118, 119, 120, 121, 122, 123, 124, 125, 126, 127, 128, 129, 130, 131, 132, 133, 134, 135, 136, 137, 138, 139, 140, 141, 1] [.is (.bool true), .is (.bool true), .int (-4), .is (.string ⟨#[45, 52]⟩), .is (.bool true), .is (.bool true), .is (.bool true), .int (-1), .is (.string ⟨#[45, 49]⟩), .is (.bool true), .is (.bool true), .is (.bool true), .is (.bool false), .is (.bool true), .is (.bool true), .is (.bool true), .is (.bool true), .is (.bool true), .is (.bool true), .int (-12), .is (.int .i64 (-1)), .is (.bool true), .is (.bool true), .is (.bool true), .is (.bool false), .is (.bool true), .is (.bool true), .is (.bool true), .is (.int .i64 (-9223372036854775808)), .is (.bool true), .is (.bool true), .is (.bool true), .is (.bool true), .is (.bool true), .is (.bool true), .is (.bool false), .is (.bool true), .is (.bool true), .is (.bool true), .int (-8), .is (.string ⟨#[45, 56]⟩), .is (.bool true), .is (.bool true), .is (.bool true), .is (.bool true), .is (.bool true), .is (.bool true), .int 5, .is (.string ⟨#[53]⟩), .is (.bool true), .is (.bool true), .is (.bool true), .int (-1), .is (.string ⟨#[45, 49]⟩), .is (.bool true), .is (.bool true), .is (.bool true), .int 0, .is (.int .i64 0), .is (.bool true), .is (.bool true), .is (.bool true), .int 0, .int 0, .num 0, .is (.int .i64 0), .is (.bool true), .is (.bool true), .is (.bool true), .int 0, .num 0, .int 0, .is (.int .i64 0), .is (.bool true), .is (.bool true), .is (.bool true)] [] [] [] J ?_ ?_
  · refine .pl rfl (fun _ _ W Γ => ev_call0 (Γ.f _) run_known2 (known2_gives W)) ?_
    refine .pl rfl (fun _ _ W Γ => ev_move _ (Γ.k 0 rfl)) ?_
    refine .gu rfl rfl rfl rfl (fun _ _ W Γ => ev_ldI (Γ.s rfl) (Γ.l 1 rfl)) ?_
    refine .gu rfl rfl rfl rfl (fun _ _ W Γ => ev_call1 (Γ.f _) run_iText (itext_m4 W _ (Γ.w (d := 68) 2 rfl))) ?_
    refine .gu rfl rfl rfl rfl (fun _ E W Γ => by
      have e1 : E (.tmp 69) = .string ⟨#[45, 52]⟩ := (Γ.k 3 rfl)
      have hc := Γ.c
      exact Does.value (w' := W) (by go_simp <;> first | rfl | (rw [IntKind.wrap_i64]; omega)) ⟨rfl, Below.refl _ _⟩) ?_
    refine .pl rfl (fun _ _ W Γ => ev_pick (Γ.k 1 rfl) (Γ.k 4 rfl)) ?_
    refine .pl rfl (fun _ _ W Γ => ev_move _ (Γ.k 5 rfl)) ?_
    refine .gu rfl rfl rfl rfl (fun _ _ W Γ => ev_ldI (Γ.s rfl) (Γ.l 2 rfl)) ?_
    refine .gu rfl rfl rfl rfl (fun _ _ W Γ => ev_call1 (Γ.f _) run_iText (iText_neg1 W _ (Γ.w (d := 73) 7 rfl))) ?_
    refine .gu rfl rfl rfl rfl (fun _ E W Γ => by
      have e1 : E (.tmp 74) = .string ⟨#[45, 49]⟩ := (Γ.k 8 rfl)
      have hc := Γ.c
      exact Does.value (w' := W) (by go_simp <;> first | rfl | (rw [IntKind.wrap_i64]; omega)) ⟨rfl, Below.refl _ _⟩) ?_
    refine .pl rfl (fun _ _ W Γ => ev_pick (Γ.k 6 rfl) (Γ.k 9 rfl)) ?_
    refine .pl rfl (fun _ _ W Γ => ev_move _ (Γ.k 10 rfl)) ?_
    refine .gu rfl rfl rfl rfl (fun _ _ W Γ => ev_move _ (Γ.s rfl)) ?_
    refine .gu rfl rfl rfl rfl (fun _ _ W Γ => ev_not (Γ.k 12 rfl) rfl) ?_
    refine .pl rfl (fun _ _ W Γ => ev_pick (Γ.k 11 rfl) (Γ.k 13 rfl)) ?_
    refine .pl rfl (fun _ _ W Γ => ev_move _ (Γ.k 14 rfl)) ?_
    refine .gu rfl rfl rfl rfl (fun _ _ W Γ => ev_move _ (Γ.s rfl)) ?_
    refine .pl rfl (fun _ _ W Γ => ev_pick (Γ.k 15 rfl) (Γ.k 16 rfl)) ?_
    refine .pl rfl (fun _ _ W Γ => ev_move _ (Γ.k 17 rfl)) ?_
    refine .gu rfl rfl rfl rfl (fun _ _ W Γ => ev_ldI (Γ.s rfl) (Γ.l 4 rfl)) ?_
    refine .gu rfl rfl rfl rfl (fun _ _ W Γ => ev_call1 (Γ.f _) run_iSign (iSign_val W _ (-12) (-1) (by decide) (Γ.w (d := 85) 19 rfl))) ?_
    refine .gu rfl rfl rfl rfl (fun _ E W Γ => by
      have e1 : E (.tmp 86) = .int .i64 (-1) := (Γ.k 20 rfl)
      have hc := Γ.c
      exact Does.value (w' := W) (by go_simp <;> first | rfl | (rw [IntKind.wrap_i64]; omega)) ⟨rfl, Below.refl _ _⟩) ?_
    refine .pl rfl (fun _ _ W Γ => ev_pick (Γ.k 18 rfl) (Γ.k 21 rfl)) ?_
    refine .pl rfl (fun _ _ W Γ => ev_move _ (Γ.k 22 rfl)) ?_
    refine .gu rfl rfl rfl rfl (fun _ _ W Γ => ev_move _ (Γ.s rfl)) ?_
    refine .gu rfl rfl rfl rfl (fun _ _ W Γ => ev_not (Γ.k 24 rfl) rfl) ?_
    refine .pl rfl (fun _ _ W Γ => ev_pick (Γ.k 23 rfl) (Γ.k 25 rfl)) ?_
    refine .pl rfl (fun _ _ W Γ => ev_move _ (Γ.k 26 rfl)) ?_
    refine .gu rfl rfl rfl rfl (fun _ _ W Γ => ev_move _ (Γ.s rfl)) ?_
    refine .gu rfl rfl rfl rfl (fun _ E W Γ => by
      have e1 : E (.tmp 94) = .int .i64 (-9223372036854775808) := (Γ.k 28 rfl)
      have hc := Γ.c
      exact Does.value (w' := W) (by go_simp <;> first | rfl | (rw [IntKind.wrap_i64]; omega)) ⟨rfl, Below.refl _ _⟩) ?_
    refine .pl rfl (fun _ _ W Γ => ev_pick (Γ.k 27 rfl) (Γ.k 29 rfl)) ?_
    refine .pl rfl (fun _ _ W Γ => ev_move _ (Γ.k 30 rfl)) ?_
    refine .gu rfl rfl rfl rfl (fun _ _ W Γ => ev_move _ (Γ.s rfl)) ?_
    refine .pl rfl (fun _ _ W Γ => ev_pick (Γ.k 31 rfl) (Γ.k 32 rfl)) ?_
    refine .pl rfl (fun _ _ W Γ => ev_move _ (Γ.k 33 rfl)) ?_
    refine .gu rfl rfl rfl rfl (fun _ _ W Γ => ev_move _ (Γ.s rfl)) ?_
    refine .gu rfl rfl rfl rfl (fun _ _ W Γ => ev_not (Γ.k 35 rfl) rfl) ?_
    refine .pl rfl (fun _ _ W Γ => ev_pick (Γ.k 34 rfl) (Γ.k 36 rfl)) ?_
    refine .pl rfl (fun _ _ W Γ => ev_move _ (Γ.k 37 rfl)) ?_
    refine .gu rfl rfl rfl rfl (fun _ _ W Γ => ev_ldI (Γ.s rfl) (Γ.l 7 rfl)) ?_
    refine .gu rfl rfl rfl rfl (fun _ _ W Γ => ev_call1 (Γ.f _) run_iText (itext_m8 W _ (Γ.w (d := 105) 39 rfl))) ?_
    refine .gu rfl rfl rfl rfl (fun _ E W Γ => by
      have e1 : E (.tmp 106) = .string ⟨#[45, 56]⟩ := (Γ.k 40 rfl)
      have hc := Γ.c
      exact Does.value (w' := W) (by go_simp <;> first | rfl | (rw [IntKind.wrap_i64]; omega)) ⟨rfl, Below.refl _ _⟩) ?_
    refine .pl rfl (fun _ _ W Γ => ev_pick (Γ.k 38 rfl) (Γ.k 41 rfl)) ?_
    refine .pl rfl (fun _ _ W Γ => ev_move _ (Γ.k 42 rfl)) ?_
    refine .gu rfl rfl rfl rfl (fun _ _ W Γ => ev_move _ (Γ.s rfl)) ?_
    refine .pl rfl (fun _ _ W Γ => ev_pick (Γ.k 43 rfl) (Γ.k 44 rfl)) ?_
    refine .pl rfl (fun _ _ W Γ => ev_move _ (Γ.k 45 rfl)) ?_
    refine .gu rfl rfl rfl rfl (fun _ _ W Γ => ev_ldI (Γ.s rfl) (Γ.l 8 rfl)) ?_
    refine .gu rfl rfl rfl rfl (fun _ _ W Γ => ev_call1 (Γ.f _) run_iText (iText_gives W _ 5 _ (by decide) small_5 (Γ.w (d := 113) 47 rfl))) ?_
    refine .gu rfl rfl rfl rfl (fun _ E W Γ => by
      have e1 : E (.tmp 114) = .string ⟨#[53]⟩ := (Γ.k 48 rfl)
      have hc := Γ.c
      exact Does.value (w' := W) (by go_simp <;> first | rfl | (rw [IntKind.wrap_i64]; omega)) ⟨rfl, Below.refl _ _⟩) ?_
    refine .pl rfl (fun _ _ W Γ => ev_pick (Γ.k 46 rfl) (Γ.k 49 rfl)) ?_
    refine .pl rfl (fun _ _ W Γ => ev_move _ (Γ.k 50 rfl)) ?_
    refine .gu rfl rfl rfl rfl (fun _ _ W Γ => ev_ldI (Γ.s rfl) (Γ.l 9 rfl)) ?_
    refine .gu rfl rfl rfl rfl (fun _ _ W Γ => ev_call1 (Γ.f _) run_iText (iText_neg1 W _ (Γ.w (d := 118) 52 rfl))) ?_
    refine .gu rfl rfl rfl rfl (fun _ E W Γ => by
      have e1 : E (.tmp 119) = .string ⟨#[45, 49]⟩ := (Γ.k 53 rfl)
      have hc := Γ.c
      exact Does.value (w' := W) (by go_simp <;> first | rfl | (rw [IntKind.wrap_i64]; omega)) ⟨rfl, Below.refl _ _⟩) ?_
    refine .pl rfl (fun _ _ W Γ => ev_pick (Γ.k 51 rfl) (Γ.k 54 rfl)) ?_
    refine .pl rfl (fun _ _ W Γ => ev_move _ (Γ.k 55 rfl)) ?_
    refine .gu rfl rfl rfl rfl (fun _ _ W Γ => ev_ldI (Γ.s rfl) (Γ.l 10 rfl)) ?_
    refine .gu rfl rfl rfl rfl (fun _ _ W Γ => ev_call1 (Γ.f _) run_iSign (iSign_val W _ 0 0 (by decide) (Γ.w (d := 123) 57 rfl))) ?_
    refine .gu rfl rfl rfl rfl (fun _ E W Γ => by
      have e1 : E (.tmp 124) = .int .i64 0 := (Γ.k 58 rfl)
      have hc := Γ.c
      exact Does.value (w' := W) (by go_simp <;> first | rfl | (rw [IntKind.wrap_i64]; omega)) ⟨rfl, Below.refl _ _⟩) ?_
    refine .pl rfl (fun _ _ W Γ => ev_pick (Γ.k 56 rfl) (Γ.k 59 rfl)) ?_
    refine .pl rfl (fun _ _ W Γ => ev_move _ (Γ.k 60 rfl)) ?_
    refine .gu rfl rfl rfl rfl (fun _ _ W Γ => ev_ldI (Γ.s rfl) (Γ.l 0 rfl)) ?_
    refine .gu rfl rfl rfl rfl (fun _ _ W Γ => ev_ldI (Γ.s rfl) (Γ.l 0 rfl)) ?_
    refine .gu rfl rfl rfl rfl (fun _ _ W Γ => ev_call2 (Γ.f _) run_iGcd (iGcd_val W _ _ 0 0 0 (by decide) (by decide) (by decide) (TB.out.mono Γ.be) (Γ.w (d := 128) 62 rfl) (Γ.w (d := 129) 63 rfl))) ?_
    refine .gu rfl rfl rfl rfl (fun _ _ W Γ => ev_call1 (Γ.f _) run_nBits (nBits_gives W _ 0 0 (by decide) (by decide) (Γ.w (d := 130) 64 rfl))) ?_
    refine .gu rfl rfl rfl rfl (fun _ E W Γ => by
      have e1 : E (.tmp 131) = .int .i64 0 := (Γ.k 65 rfl)
      have hc := Γ.c
      exact Does.value (w' := W) (by go_simp <;> first | rfl | (rw [IntKind.wrap_i64]; omega)) ⟨rfl, Below.refl _ _⟩) ?_
    refine .pl rfl (fun _ _ W Γ => ev_pick (Γ.k 61 rfl) (Γ.k 66 rfl)) ?_
    refine .pl rfl (fun _ _ W Γ => ev_move _ (Γ.k 67 rfl)) ?_
    refine .gu rfl rfl rfl rfl (fun _ _ W Γ => ev_ldI (Γ.s rfl) (Γ.l 0 rfl)) ?_
    refine .gu rfl rfl rfl rfl (fun _ _ W Γ => ev_call1 (Γ.f _) run_iAbs (iAbs_val W _ 0 0 rfl (Γ.w (d := 135) 69 rfl))) ?_
    refine .gu rfl rfl rfl rfl (fun _ _ W Γ => ev_call2 (Γ.f _) run_iFrom (by rw [Γ.c]; exact show Calls Tryz.prog 16 #[_, _] W (Gives W (.int 0)) from iFrom_want W _ true 0 (Γ.w (d := 136) 70 rfl))) ?_
    refine .gu rfl rfl rfl rfl (fun _ _ W Γ => ev_call1 (Γ.f _) run_iSign (iSign_val W _ 0 0 (by decide) (Γ.w (d := 137) 71 rfl))) ?_
    refine .gu rfl rfl rfl rfl (fun _ E W Γ => by
      have e1 : E (.tmp 138) = .int .i64 0 := (Γ.k 72 rfl)
      have hc := Γ.c
      exact Does.value (w' := W) (by go_simp <;> first | rfl | (rw [IntKind.wrap_i64]; omega)) ⟨rfl, Below.refl _ _⟩) ?_
    refine .pl rfl (fun _ _ W Γ => ev_pick (Γ.k 68 rfl) (Γ.k 73 rfl)) ?_
    refine .pl rfl (fun _ _ W Γ => ev_assign _ (Γ.k 74 rfl)) ?_
    exact .nil
  clear J; intro K12 hK12; simp only [fx]; intro _ f12 W12 J; refine hK12.out _ _ ?_; clear hK12
  refine wp_ret ?_
  exact bodyPost_ret (v := .bool true) (by simp [results, Tryz.results3, go_sem]) rfl ⟨_, rfl, rfl, J.out.be⟩
end Go.Proofs.YthenfejgnjdkjaaGreatDoor
