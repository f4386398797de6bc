/- The examples of chapter 3, run. -/
import Derived.Test.YtjhjlecnjkjbbaaGreatDoorDig
import Derived.Test.YtjhjlecnjkjbbaaGreatDoorOne3
namespace Go.Proofs.YtjhjlecnjkjbbaaGreatDoor
open Go.RowKit

theorem run_Parse : RowKit.Hid (∀ (a : Array Value) (w : World), Sem.run Tryz.prog (callFunc 146 a) w = .ok (.enter 146 a) w) := fun a w => by go_simp
theorem run_iOf : RowKit.Hid (∀ (a : Array Value) (w : World), Sem.run Tryz.prog (callFunc 33 a) w = .ok (.enter 33 a) w) := fun a w => by go_simp
theorem run_iText : RowKit.Hid (∀ (a : Array Value) (w : World), Sem.run Tryz.prog (callFunc 103 a) w = .ok (.enter 103 a) w) := fun a w => by go_simp
theorem run_isDecimal : RowKit.Hid (∀ (a : Array Value) (w : World), Sem.run Tryz.prog (callFunc 170 a) w = .ok (.enter 170 a) w) := fun a w => by go_simp
theorem run_nAdd : RowKit.Hid (∀ (a : Array Value) (w : World), Sem.run Tryz.prog (callFunc 91 a) w = .ok (.enter 91 a) w) := fun a w => by go_simp
theorem run_nPow : RowKit.Hid (∀ (a : Array Value) (w : World), Sem.run Tryz.prog (callFunc 149 a) w = .ok (.enter 149 a) w) := fun a w => by go_simp
theorem run_nShift : RowKit.Hid (∀ (a : Array Value) (w : World), Sem.run Tryz.prog (callFunc 35 a) w = .ok (.enter 35 a) w) := fun a w => by go_simp
theorem run_qNear : RowKit.Hid (∀ (a : Array Value) (w : World), Sem.run Tryz.prog (callFunc 36 a) w = .ok (.enter 36 a) w) := fun a w => by go_simp
theorem run_qOver : RowKit.Hid (∀ (a : Array Value) (w : World), Sem.run Tryz.prog (callFunc 48 a) w = .ok (.enter 48 a) w) := fun a w => by go_simp
theorem run_qParse : RowKit.Hid (∀ (a : Array Value) (w : World), Sem.run Tryz.prog (callFunc 47 a) w = .ok (.enter 47 a) w) := fun a w => by go_simp
theorem run_qParseDecimal : RowKit.Hid (∀ (a : Array Value) (w : World), Sem.run Tryz.prog (callFunc 101 a) w = .ok (.enter 101 a) w) := fun a w => by go_simp
theorem run_qParsePlaces : RowKit.Hid (∀ (a : Array Value) (w : World), Sem.run Tryz.prog (callFunc 148 a) w = .ok (.enter 148 a) w) := fun a w => by go_simp
theorem run_qText : RowKit.Hid (∀ (a : Array Value) (w : World), Sem.run Tryz.prog (callFunc 49 a) w = .ok (.enter 49 a) w) := fun a w => by go_simp
theorem run_qTwos : RowKit.Hid (∀ (a : Array Value) (w : World), Sem.run Tryz.prog (callFunc 90 a) w = .ok (.enter 90 a) w) := fun a w => by go_simp
theorem run_sCut : RowKit.Hid (∀ (a : Array Value) (w : World), Sem.run Tryz.prog (callFunc 99 a) w = .ok (.enter 99 a) w) := fun a w => by go_simp
theorem run_sCutPrefix : RowKit.Hid (∀ (a : Array Value) (w : World), Sem.run Tryz.prog (callFunc 147 a) w = .ok (.enter 147 a) w) := fun a w => by go_simp
theorem run_sTrimLeft : RowKit.Hid (∀ (a : Array Value) (w : World), Sem.run Tryz.prog (callFunc 172 a) w = .ok (.enter 172 a) w) := fun a w => by go_simp
theorem nAdd_gives (w : World) (u v : Value) (m n : Nat) (hm : (ds m).length ≤ 60) (hn : (ds n).length ≤ 60) (h1 : Num w u m) (h2 : Num w v n) : Calls Tryz.prog 91 #[u, v] w (Gives w (.num (m + n))) :=
  (add_want w u v m n hm hn h1 h2).mono fun _ _ ⟨v, h1, h2, h3⟩ => ⟨v, h1, h2, h3⟩
set_option maxRecDepth 100000 in
set_option maxHeartbeats 4000000 in
theorem parse_0 (w : World)   :
    Calls Tryz.prog 146 #[.string ⟨#[48]⟩] w (Gives w (.two (.num 0) (.is (.bool true)))) := by
  go_enter Tryz.func146, Tryz.ntmps146
  have J := Frm.start (w := w) (V := []) fn
  refine wp_seq_h ?_; intro K1 hK1; go_wp2
  obtain ⟨W2, b2, eW2, eb2, sz2, J⟩ := Frm.putN0 J rfl
  rw [← eW2, ← eb2]
  clear eW2 eb2 sz2
  refine hK1.out _ _ ?_; clear hK1
  refine wp_seq_h ?_; intro K3 hK3
  refine region_c [10, 11, 12] [.is (.string ⟨#[48]⟩), .is (.bool true), .is (.bool false)] [] [] [] J ?_ ?_
  · refine .pl rfl (fun _ _ W Γ => ev_move _ (Γ.s rfl)) ?_
    refine .pl rfl (fun _ _ W Γ => ev_call1 (Γ.f _) run_isDecimal (by rw [(show _ = Value.string ⟨#[48]⟩ from (Γ.k (d := 9) 0 rfl))]; exact isDec_0 W)) ?_
    refine .pl rfl (fun _ _ W Γ => ev_not (Γ.k 1 rfl) rfl) ?_
    exact .nil
  clear J; intro K4 hK4; simp only [fx]; intro _ f4 W4 J; refine hK4.out _ _ ?_; clear hK4
  refine wp_cond_false rfl ?_
  refine wp_skip ?_
  refine hK3.out _ _ ?_; clear hK3
  refine wp_seq_h ?_; intro K5 hK5; go_wp2
  obtain ⟨W6, b6, eW6, eb6, sz6, J⟩ := Frm.putN0 J rfl
  rw [← eW6, ← eb6]; clear eW6 eb6 sz6; refine hK5.out _ _ ?_; clear hK5
  refine wp_seq_h ?_; intro K7 hK7
  refine wp_block ?_
  refine wp_loop_rounds 3 ?_
  rw [rounds_succ]
  refine wp_seq_h ?_; intro K8 hK8
  refine region_c [14, 15, 16] [.is (.string ⟨#[48]⟩), .is (.int .i64 1), .is (.bool true)] [] [] [] J ?_ ?_
  · refine .pl rfl (fun _ _ W Γ => ev_move _ (Γ.s rfl)) ?_
    refine .pl rfl (fun _ E W Γ => by
      have e1 : E (.tmp 13) = .string ⟨#[48]⟩ := (Γ.k 0 rfl)
      have hc := Γ.c
      exact Does.value (w' := W) (by go_simp <;> first | rfl | (rw [IntKind.wrap_i64]; omega)) ⟨rfl, Below.refl _ _⟩) ?_
    refine .pl rfl (fun _ E W Γ => by
      have e1 : E (.tmp 14) = .int .i64 1 := (Γ.k 1 rfl)
      have hc := Γ.c
      exact Does.value (w' := W) (by go_simp <;> first | rfl | (rw [IntKind.wrap_i64]; omega)) ⟨rfl, Below.refl _ _⟩) ?_
    exact .nil
  clear J; intro K9 hK9; simp only [fx]; intro _ f9 W9 J; refine hK9.out _ _ ?_; clear hK9
  refine wp_cond_true rfl ?_
  refine wp_skip ?_
  refine hK8.out _ _ ?_; clear hK8
  refine wp_block ?_
  refine region_c [17, 18, 19, 6] [.is (.string ⟨#[48]⟩), .is (.int .i64 1), .is (.int .i64 1), .is (.int .i64 1)] [] [] [] J ?_ ?_
  · refine .pl rfl (fun _ _ W Γ => ev_move _ (Γ.s rfl)) ?_
    refine .pl rfl (fun _ E W Γ => by
      have e1 : E (.tmp 16) = .string ⟨#[48]⟩ := (Γ.k 0 rfl)
      have hc := Γ.c
      exact Does.value (w' := W) (by go_simp <;> first | rfl | (rw [IntKind.wrap_i64]; omega)) ⟨rfl, Below.refl _ _⟩) ?_
    refine .pl rfl (fun _ E W Γ => by
      have e1 : E (.tmp 17) = .int .i64 1 := (Γ.k 1 rfl)
      have hc := Γ.c
      exact Does.value (w' := W) (by go_simp <;> first | rfl | (rw [IntKind.wrap_i64]; omega)) ⟨rfl, Below.refl _ _⟩) ?_
    refine .pl rfl (fun _ _ W Γ => ev_assign _ (Γ.k 2 rfl)) ?_
    exact .nil
  clear J; intro K10 hK10; simp only [fx]; intro _ f10 W10 J; refine hK10.out _ _ ?_; clear hK10
  refine region_c [7, 8] [.is (.int .u64 0), .is (.int .u64 1)] [] [] [] J ?_ ?_
  · refine .pl rfl (fun _ _ W Γ => ev_assign _ (Γ.c _)) ?_
    refine .pl rfl (fun _ _ W Γ => ev_assign _ (Γ.c _)) ?_
    exact .nil
  clear J; intro K11 hK11; simp only [fx]; intro _ f11 W11 J; refine hK11.out _ _ ?_; clear hK11
  refine wp_seq_h ?_; intro K12 hK12
  refine region_c [20, 21] [.is (.int .i64 1), .is (.int .i64 0)] [] [] [] J ?_ ?_
  · refine .pl rfl (fun _ _ W Γ => ev_move _ (Γ.s rfl)) ?_
    refine .pl rfl (fun _ _ W Γ => ev_move _ (Γ.c _)) ?_
    exact .nil
  clear J; intro K13 hK13; simp only [fx]; intro _ f13 W13 J; refine hK13.out _ _ ?_; clear hK13
  refine wp_block ?_
  refine wp_loop_rounds 4 ?_
  rw [rounds_succ]
  refine region_c [22] [.is (.bool true)] [] [] [] J ?_ ?_
  · refine .pl rfl (fun _ E W Γ => by
      have e1 : E (.tmp 20) = .int .i64 0 := (Γ.s rfl)
      have e2 : E (.tmp 19) = .int .i64 1 := (Γ.s rfl)
      have hc := Γ.c
      exact Does.value (w' := W) (by go_simp <;> first | rfl | (rw [IntKind.wrap_i64]; omega)) ⟨rfl, Below.refl _ _⟩) ?_
    exact .nil
  clear J; intro K14 hK14; simp only [fx]; intro _ f14 W14 J; refine hK14.out _ _ ?_; clear hK14
  refine wp_seq_h ?_; intro K15 hK15
  refine wp_cond_true rfl ?_
  refine wp_skip ?_
  refine hK15.out _ _ ?_; clear hK15
  refine wp_seq_h ?_; intro K16 hK16
  refine wp_block ?_
  refine region_c [23, 9] [.is (.int .i64 0), .is (.int .i64 0)] [] [] [] J ?_ ?_
  · refine .pl rfl (fun _ _ W Γ => ev_move _ (Γ.s rfl)) ?_
    refine .pl rfl (fun _ _ W Γ => ev_assign _ (Γ.k 0 rfl)) ?_
    exact .nil
  clear J; intro K17 hK17; simp only [fx]; intro _ f17 W17 J; refine hK17.out _ _ ?_; clear hK17
  refine region_c [24, 25, 26, 27, 28, 29, 30, 31, 7] [.is (.int .u64 0), .is (.int .u64 0), .is (.string ⟨#[48]⟩), .is (.int .i64 0), .is (.int .u8 48), .is (.int .u8 0), .is (.int .u64 0), .is (.int .u64 0), .is (.int .u64 0)] [] [] [] J ?_ ?_
  · refine .pl rfl (fun _ _ W Γ => ev_move _ (Γ.s rfl)) ?_
    refine .pl rfl (fun _ E W Γ => by
      have e1 : E (.tmp 23) = .int .u64 0 := (Γ.k 0 rfl)
      have hc := Γ.c
      exact Does.value (w' := W) (by go_simp <;> first | rfl | (rw [IntKind.wrap_i64]; omega)) ⟨rfl, Below.refl _ _⟩) ?_
    refine .pl rfl (fun _ _ W Γ => ev_move _ (Γ.s rfl)) ?_
    refine .pl rfl (fun _ _ W Γ => ev_move _ (Γ.s rfl)) ?_
    refine .pl rfl (fun _ E W Γ => by
      have e1 : E (.tmp 25) = .string ⟨#[48]⟩ := (Γ.k 2 rfl)
      have e2 : E (.tmp 26) = .int .i64 0 := (Γ.k 3 rfl)
      have hc := Γ.c
      exact Does.value (w' := W) (by go_simp <;> first | rfl | (rw [IntKind.wrap_i64]; omega)) ⟨rfl, Below.refl _ _⟩) ?_
    refine .pl rfl (fun _ E W Γ => by
      have e1 : E (.tmp 27) = .int .u8 48 := (Γ.k 4 rfl)
      have hc := Γ.c
      exact Does.value (w' := W) (by go_simp <;> first | rfl | (rw [IntKind.wrap_i64]; omega)) ⟨rfl, Below.refl _ _⟩) ?_
    refine .pl rfl (fun _ E W Γ => by
      have e1 : E (.tmp 28) = .int .u8 0 := (Γ.k 5 rfl)
      have hc := Γ.c
      exact Does.value (w' := W) (by go_simp <;> first | rfl | (rw [IntKind.wrap_i64]; omega)) ⟨rfl, Below.refl _ _⟩) ?_
    refine .pl rfl (fun _ E W Γ => by
      have e1 : E (.tmp 24) = .int .u64 0 := (Γ.k 1 rfl)
      have e2 : E (.tmp 29) = .int .u64 0 := (Γ.k 6 rfl)
      have hc := Γ.c
      exact Does.value (w' := W) (by go_simp <;> first | rfl | (rw [IntKind.wrap_i64]; omega)) ⟨rfl, Below.refl _ _⟩) ?_
    refine .pl rfl (fun _ _ W Γ => ev_assign _ (Γ.k 7 rfl)) ?_
    exact .nil
  clear J; intro K18 hK18; simp only [fx]; intro _ f18 W18 J; refine hK18.out _ _ ?_; clear hK18
  refine region_f [32, 33, 8] [.is (.int .u64 1), .is (.int .u64 10), .is (.int .u64 10)] [] [] [] J ?_ ?_
  · refine .pl rfl (fun _ _ W Γ => ev_move _ (Γ.s rfl)) ?_
    refine .pl rfl (fun _ E W Γ => by
      have e1 : E (.tmp 31) = .int .u64 1 := (Γ.k 0 rfl)
      have hc := Γ.c
      exact Does.value (w' := W) (by go_simp <;> first | rfl | (rw [IntKind.wrap_i64]; omega)) ⟨rfl, Below.refl _ _⟩) ?_
    refine .pl rfl (fun _ _ W Γ => ev_assign _ (Γ.k 1 rfl)) ?_
    exact .nil
  clear J; simp only [fx]; intro _ f19 W19 J
  refine hK16.out _ _ ?_; clear hK16
  refine region_f [34, 21] [.is (.int .i64 1), .is (.int .i64 1)] [] [] [] J ?_ ?_
  · refine .pl rfl (fun _ E W Γ => by
      have e1 : E (.tmp 20) = .int .i64 0 := (Γ.s rfl)
      have hc := Γ.c
      exact Does.value (w' := W) (by go_simp <;> first | rfl | (rw [IntKind.wrap_i64]; omega)) ⟨rfl, Below.refl _ _⟩) ?_
    refine .pl rfl (fun _ _ W Γ => ev_move _ (Γ.k 0 rfl)) ?_
    exact .nil
  clear J; simp only [fx]; intro _ f20 W20 J
  try simp only [Exit.inBlock]
  simp only [Exit.then]
  rw [rounds_succ]
  refine region_c [22] [.is (.bool false)] [] [] [] J ?_ ?_
  · refine .pl rfl (fun _ E W Γ => by
      have e1 : E (.tmp 20) = .int .i64 1 := (Γ.s rfl)
      have e2 : E (.tmp 19) = .int .i64 1 := (Γ.s rfl)
      have hc := Γ.c
      exact Does.value (w' := W) (by go_simp <;> first | rfl | (rw [IntKind.wrap_i64]; omega)) ⟨rfl, Below.refl _ _⟩) ?_
    exact .nil
  clear J; intro K21 hK21; simp only [fx]; intro _ f21 W21 J; refine hK21.out _ _ ?_; clear hK21
  refine wp_seq_h ?_; intro K22 hK22
  refine wp_cond_false rfl ?_
  refine wp_exit ?_
  simp only [Exit.then, Exit.inBlock, ↓reduceIte]
  refine hK12.out _ _ ?_; clear hK12
  refine region_c [35, 36, 37, 38, 39, 40, 41, 0] [.num 0, .is (.int .u64 10), .num 10, .num 0, .is (.int .u64 0), .num 0, .num 0, .any] [none, some (7, .num 0)] [] [(0, 34), (2, 36), (3, 37), (5, 39), (6, 40)] J ?_ ?_
  · refine .pl rfl (fun _ _ W Γ => ev_ldN (Γ.s rfl) (Γ.u 1 rfl rfl).1) ?_
    refine .pl rfl (fun _ _ W Γ => ev_move _ (Γ.s rfl)) ?_
    refine .pl rfl (fun _ _ W Γ => ev_call1 (Γ.f _) run_Of (by rw [(show _ = Value.int .u64 10 from (Γ.k (d := 35) 1 rfl))]; exact of_gives 10 (by decide) W)) ?_
    refine .pl rfl (fun _ _ W Γ => ev_call2 (Γ.f _) run_nMul (nMul_gives W _ _ 0 10 (by rw [ds_one (by decide)]; omega) (by rw [ds_one (by decide)]; omega) (Γ.w (d := 34) 0 rfl) (Γ.w (d := 36) 2 rfl))) ?_
    refine .pl rfl (fun _ _ W Γ => ev_move _ (Γ.s rfl)) ?_
    refine .pl rfl (fun _ _ W Γ => ev_call1 (Γ.f _) run_Of (by rw [(show _ = Value.int .u64 0 from (Γ.k (d := 38) 4 rfl))]; exact of_gives 0 (by decide) W)) ?_
    refine .pl rfl (fun _ _ W Γ => ev_call2 (Γ.f _) run_nAdd (nAdd_gives W _ _ 0 0 (by rw [ds_one (by decide)]; omega) (by rw [ds_one (by decide)]; omega) (Γ.w (d := 37) 3 rfl) (Γ.w (d := 39) 5 rfl))) ?_
    refine .st 1 rfl rfl rfl (fun _ _ W Γ => ev_stN (Γ.s rfl) (Γ.u 1 rfl rfl) (Γ.w 6 rfl)) ?_
    exact .nil
  clear J; intro K23 hK23; simp only [fx]; intro _ f23 W23 J; refine hK23.out _ _ ?_; clear hK23
  refine region_f [42, 43, 44, 1] [.is (.string ⟨#[48]⟩), .is (.int .i64 1), .is (.string ⟨#[]⟩), .is (.string ⟨#[]⟩)] [] [] [] J ?_ ?_
  · refine .pl rfl (fun _ _ W Γ => ev_move _ (Γ.s rfl)) ?_
    refine .pl rfl (fun _ _ W Γ => ev_move _ (Γ.s rfl)) ?_
    refine .pl rfl (fun _ E W Γ => by
      have e1 : E (.tmp 41) = .string ⟨#[48]⟩ := (Γ.k 0 rfl)
      have e2 : E (.tmp 42) = .int .i64 1 := (Γ.k 1 rfl)
      have hc := Γ.c
      exact Does.value (w' := W) (by go_simp <;> first | rfl | (rw [IntKind.wrap_i64]; omega)) ⟨rfl, Below.refl _ _⟩) ?_
    refine .pl rfl (fun _ _ W Γ => ev_assign _ (Γ.k 2 rfl)) ?_
    exact .nil
  clear J; simp only [fx]; intro _ f24 W24 J
  try simp only [Exit.inBlock]
  simp only [Exit.then]
  rw [rounds_succ]
  refine wp_seq_h ?_; intro K25 hK25
  refine region_c [14, 15, 16] [.is (.string ⟨#[]⟩), .is (.int .i64 0), .is (.bool false)] [] [] [] J ?_ ?_
  · refine .pl rfl (fun _ _ W Γ => ev_move _ (Γ.s rfl)) ?_
    refine .pl rfl (fun _ E W Γ => by
      have e1 : E (.tmp 13) = .string ⟨#[]⟩ := (Γ.k 0 rfl)
      have hc := Γ.c
      exact Does.value (w' := W) (by go_simp <;> first | rfl | (rw [IntKind.wrap_i64]; omega)) ⟨rfl, Below.refl _ _⟩) ?_
    refine .pl rfl (fun _ E W Γ => by
      have e1 : E (.tmp 14) = .int .i64 0 := (Γ.k 1 rfl)
      have hc := Γ.c
      exact Does.value (w' := W) (by go_simp <;> first | rfl | (rw [IntKind.wrap_i64]; omega)) ⟨rfl, Below.refl _ _⟩) ?_
    exact .nil
  clear J; intro K26 hK26; simp only [fx]; intro _ f26 W26 J; refine hK26.out _ _ ?_; clear hK26
  refine wp_cond_false rfl ?_
  refine wp_exit ?_
  simp only [Exit.then, Exit.inBlock, ↓reduceIte]
  refine hK7.out _ _ ?_; clear hK7
  refine region_c [45, 0, 4] [.num 0, .any, .is (.bool true)] [some (1, .num 0)] [] [(0, 44)] J ?_ ?_
  · refine .pl rfl (fun _ _ W Γ => ev_ldN (Γ.s rfl) (Γ.l 1 rfl)) ?_
    refine .st 0 rfl rfl rfl (fun _ _ W Γ => ev_stN (Γ.s rfl) (Γ.u 0 rfl rfl) (Γ.w 0 rfl)) ?_
    refine .pl rfl (fun _ _ W Γ => ev_assign _ (Γ.c _)) ?_
    exact .nil
  clear J; intro K27 hK27; simp only [fx]; intro _ f27 W27 J; refine hK27.out _ _ ?_; clear hK27
  refine wp_ret ?_
  obtain ⟨u0, hx0, hm0⟩ := J.out.get 0 rfl
  obtain ⟨sr0, pr0, lr0, cr0, rfl, c0_0, c0_1⟩ := hx0.nat
  exact bodyPost_ret (v := .tuple #[.agg #[.int .u64 sr0, .slice pr0 lr0 cr0], .bool true]) (by simp [results, Tryz.results146, go_sem, c0_0, c0_1]) rfl ⟨_, rfl, ⟨_, _, rfl, hm0, rfl⟩, J.out.be⟩
set_option maxRecDepth 100000 in
set_option maxHeartbeats 4000000 in
theorem parse_50 (w : World)   :
    Calls Tryz.prog 146 #[.string ⟨#[53, 48]⟩] w (Gives w (.two (.num 50) (.is (.bool true)))) := by
  go_enter Tryz.func146, Tryz.ntmps146
  have J := Frm.start (w := w) (V := []) fn
  refine wp_seq_h ?_; intro K1 hK1; go_wp2
  obtain ⟨W2, b2, eW2, eb2, sz2, J⟩ := Frm.putN0 J rfl
  rw [← eW2, ← eb2]
  clear eW2 eb2 sz2
  refine hK1.out _ _ ?_; clear hK1
  refine wp_seq_h ?_; intro K3 hK3
  refine region_c [10, 11, 12] [.is (.string ⟨#[53, 48]⟩), .is (.bool true), .is (.bool false)] [] [] [] J ?_ ?_
  · refine .pl rfl (fun _ _ W Γ => ev_move _ (Γ.s rfl)) ?_
    refine .pl rfl (fun _ _ W Γ => ev_call1 (Γ.f _) run_isDecimal (by rw [(show _ = Value.string ⟨#[53, 48]⟩ from (Γ.k (d := 9) 0 rfl))]; exact isDec_50 W)) ?_
    refine .pl rfl (fun _ _ W Γ => ev_not (Γ.k 1 rfl) rfl) ?_
    exact .nil
  clear J; intro K4 hK4; simp only [fx]; intro _ f4 W4 J; refine hK4.out _ _ ?_; clear hK4
  refine wp_cond_false rfl ?_
  refine wp_skip ?_
  refine hK3.out _ _ ?_; clear hK3
  refine wp_seq_h ?_; intro K5 hK5; go_wp2
  obtain ⟨W6, b6, eW6, eb6, sz6, J⟩ := Frm.putN0 J rfl
  rw [← eW6, ← eb6]; clear eW6 eb6 sz6; refine hK5.out _ _ ?_; clear hK5
  refine wp_seq_h ?_; intro K7 hK7
  refine wp_block ?_
  refine wp_loop_rounds 3 ?_
  rw [rounds_succ]
  refine wp_seq_h ?_; intro K8 hK8
  refine region_c [14, 15, 16] [.is (.string ⟨#[53, 48]⟩), .is (.int .i64 2), .is (.bool true)] [] [] [] J ?_ ?_
  · refine .pl rfl (fun _ _ W Γ => ev_move _ (Γ.s rfl)) ?_
    refine .pl rfl (fun _ E W Γ => by
      have e1 : E (.tmp 13) = .string ⟨#[53, 48]⟩ := (Γ.k 0 rfl)
      have hc := Γ.c
      exact Does.value (w' := W) (by go_simp <;> first | rfl | (rw [IntKind.wrap_i64]; omega)) ⟨rfl, Below.refl _ _⟩) ?_
    refine .pl rfl (fun _ E W Γ => by
      have e1 : E (.tmp 14) = .int .i64 2 := (Γ.k 1 rfl)
      have hc := Γ.c
      exact Does.value (w' := W) (by go_simp <;> first | rfl | (rw [IntKind.wrap_i64]; omega)) ⟨rfl, Below.refl _ _⟩) ?_
    exact .nil
  clear J; intro K9 hK9; simp only [fx]; intro _ f9 W9 J; refine hK9.out _ _ ?_; clear hK9
  refine wp_cond_true rfl ?_
  refine wp_skip ?_
  refine hK8.out _ _ ?_; clear hK8
  refine wp_block ?_
  refine region_c [17, 18, 19, 6] [.is (.string ⟨#[53, 48]⟩), .is (.int .i64 2), .is (.int .i64 2), .is (.int .i64 2)] [] [] [] J ?_ ?_
  · refine .pl rfl (fun _ _ W Γ => ev_move _ (Γ.s rfl)) ?_
    refine .pl rfl (fun _ E W Γ => by
      have e1 : E (.tmp 16) = .string ⟨#[53, 48]⟩ := (Γ.k 0 rfl)
      have hc := Γ.c
      exact Does.value (w' := W) (by go_simp <;> first | rfl | (rw [IntKind.wrap_i64]; omega)) ⟨rfl, Below.refl _ _⟩) ?_
    refine .pl rfl (fun _ E W Γ => by
      have e1 : E (.tmp 17) = .int .i64 2 := (Γ.k 1 rfl)
      have hc := Γ.c
      exact Does.value (w' := W) (by go_simp <;> first | rfl | (rw [IntKind.wrap_i64]; omega)) ⟨rfl, Below.refl _ _⟩) ?_
    refine .pl rfl (fun _ _ W Γ => ev_assign _ (Γ.k 2 rfl)) ?_
    exact .nil
  clear J; intro K10 hK10; simp only [fx]; intro _ f10 W10 J; refine hK10.out _ _ ?_; clear hK10
  refine region_c [7, 8] [.is (.int .u64 0), .is (.int .u64 1)] [] [] [] J ?_ ?_
  · refine .pl rfl (fun _ _ W Γ => ev_assign _ (Γ.c _)) ?_
    refine .pl rfl (fun _ _ W Γ => ev_assign _ (Γ.c _)) ?_
    exact .nil
  clear J; intro K11 hK11; simp only [fx]; intro _ f11 W11 J; refine hK11.out _ _ ?_; clear hK11
  refine wp_seq_h ?_; intro K12 hK12
  refine region_c [20, 21] [.is (.int .i64 2), .is (.int .i64 0)] [] [] [] J ?_ ?_
  · refine .pl rfl (fun _ _ W Γ => ev_move _ (Γ.s rfl)) ?_
    refine .pl rfl (fun _ _ W Γ => ev_move _ (Γ.c _)) ?_
    exact .nil
  clear J; intro K13 hK13; simp only [fx]; intro _ f13 W13 J; refine hK13.out _ _ ?_; clear hK13
  refine wp_block ?_
  refine wp_loop_rounds 4 ?_
  rw [rounds_succ]
  refine region_c [22] [.is (.bool true)] [] [] [] J ?_ ?_
  · refine .pl rfl (fun _ E W Γ => by
      have e1 : E (.tmp 20) = .int .i64 0 := (Γ.s rfl)
      have e2 : E (.tmp 19) = .int .i64 2 := (Γ.s rfl)
      have hc := Γ.c
      exact Does.value (w' := W) (by go_simp <;> first | rfl | (rw [IntKind.wrap_i64]; omega)) ⟨rfl, Below.refl _ _⟩) ?_
    exact .nil
  clear J; intro K14 hK14; simp only [fx]; intro _ f14 W14 J; refine hK14.out _ _ ?_; clear hK14
  refine wp_seq_h ?_; intro K15 hK15
  refine wp_cond_true rfl ?_
  refine wp_skip ?_
  refine hK15.out _ _ ?_; clear hK15
  refine wp_seq_h ?_; intro K16 hK16
  refine wp_block ?_
  refine region_c [23, 9] [.is (.int .i64 0), .is (.int .i64 0)] [] [] [] J ?_ ?_
  · refine .pl rfl (fun _ _ W Γ => ev_move _ (Γ.s rfl)) ?_
    refine .pl rfl (fun _ _ W Γ => ev_assign _ (Γ.k 0 rfl)) ?_
    exact .nil
  clear J; intro K17 hK17; simp only [fx]; intro _ f17 W17 J; refine hK17.out _ _ ?_; clear hK17
  refine region_c [24, 25, 26, 27, 28, 29, 30, 31, 7] [.is (.int .u64 0), .is (.int .u64 0), .is (.string ⟨#[53, 48]⟩), .is (.int .i64 0), .is (.int .u8 53), .is (.int .u8 5), .is (.int .u64 5), .is (.int .u64 5), .is (.int .u64 5)] [] [] [] J ?_ ?_
  · refine .pl rfl (fun _ _ W Γ => ev_move _ (Γ.s rfl)) ?_
    refine .pl rfl (fun _ E W Γ => by
      have e1 : E (.tmp 23) = .int .u64 0 := (Γ.k 0 rfl)
      have hc := Γ.c
      exact Does.value (w' := W) (by go_simp <;> first | rfl | (rw [IntKind.wrap_i64]; omega)) ⟨rfl, Below.refl _ _⟩) ?_
    refine .pl rfl (fun _ _ W Γ => ev_move _ (Γ.s rfl)) ?_
    refine .pl rfl (fun _ _ W Γ => ev_move _ (Γ.s rfl)) ?_
    refine .pl rfl (fun _ E W Γ => by
      have e1 : E (.tmp 25) = .string ⟨#[53, 48]⟩ := (Γ.k 2 rfl)
      have e2 : E (.tmp 26) = .int .i64 0 := (Γ.k 3 rfl)
      have hc := Γ.c
      exact Does.value (w' := W) (by go_simp <;> first | rfl | (rw [IntKind.wrap_i64]; omega)) ⟨rfl, Below.refl _ _⟩) ?_
    refine .pl rfl (fun _ E W Γ => by
      have e1 : E (.tmp 27) = .int .u8 53 := (Γ.k 4 rfl)
      have hc := Γ.c
      exact Does.value (w' := W) (by go_simp <;> first | rfl | (rw [IntKind.wrap_i64]; omega)) ⟨rfl, Below.refl _ _⟩) ?_
    refine .pl rfl (fun _ E W Γ => by
      have e1 : E (.tmp 28) = .int .u8 5 := (Γ.k 5 rfl)
      have hc := Γ.c
      exact Does.value (w' := W) (by go_simp <;> first | rfl | (rw [IntKind.wrap_i64]; omega)) ⟨rfl, Below.refl _ _⟩) ?_
    refine .pl rfl (fun _ E W Γ => by
      have e1 : E (.tmp 24) = .int .u64 0 := (Γ.k 1 rfl)
      have e2 : E (.tmp 29) = .int .u64 5 := (Γ.k 6 rfl)
      have hc := Γ.c
      exact Does.value (w' := W) (by go_simp <;> first | rfl | (rw [IntKind.wrap_i64]; omega)) ⟨rfl, Below.refl _ _⟩) ?_
    refine .pl rfl (fun _ _ W Γ => ev_assign _ (Γ.k 7 rfl)) ?_
    exact .nil
  clear J; intro K18 hK18; simp only [fx]; intro _ f18 W18 J; refine hK18.out _ _ ?_; clear hK18
  refine region_f [32, 33, 8] [.is (.int .u64 1), .is (.int .u64 10), .is (.int .u64 10)] [] [] [] J ?_ ?_
  · refine .pl rfl (fun _ _ W Γ => ev_move _ (Γ.s rfl)) ?_
    refine .pl rfl (fun _ E W Γ => by
      have e1 : E (.tmp 31) = .int .u64 1 := (Γ.k 0 rfl)
      have hc := Γ.c
      exact Does.value (w' := W) (by go_simp <;> first | rfl | (rw [IntKind.wrap_i64]; omega)) ⟨rfl, Below.refl _ _⟩) ?_
    refine .pl rfl (fun _ _ W Γ => ev_assign _ (Γ.k 1 rfl)) ?_
    exact .nil
  clear J; simp only [fx]; intro _ f19 W19 J
  refine hK16.out _ _ ?_; clear hK16
  refine region_f [34, 21] [.is (.int .i64 1), .is (.int .i64 1)] [] [] [] J ?_ ?_
  · refine .pl rfl (fun _ E W Γ => by
      have e1 : E (.tmp 20) = .int .i64 0 := (Γ.s rfl)
      have hc := Γ.c
      exact Does.value (w' := W) (by go_simp <;> first | rfl | (rw [IntKind.wrap_i64]; omega)) ⟨rfl, Below.refl _ _⟩) ?_
    refine .pl rfl (fun _ _ W Γ => ev_move _ (Γ.k 0 rfl)) ?_
    exact .nil
  clear J; simp only [fx]; intro _ f20 W20 J
  try simp only [Exit.inBlock]
  simp only [Exit.then]
  rw [rounds_succ]
  refine region_c [22] [.is (.bool true)] [] [] [] J ?_ ?_
  · refine .pl rfl (fun _ E W Γ => by
      have e1 : E (.tmp 20) = .int .i64 1 := (Γ.s rfl)
      have e2 : E (.tmp 19) = .int .i64 2 := (Γ.s rfl)
      have hc := Γ.c
      exact Does.value (w' := W) (by go_simp <;> first | rfl | (rw [IntKind.wrap_i64]; omega)) ⟨rfl, Below.refl _ _⟩) ?_
    exact .nil
  clear J; intro K21 hK21; simp only [fx]; intro _ f21 W21 J; refine hK21.out _ _ ?_; clear hK21
  refine wp_seq_h ?_; intro K22 hK22
  refine wp_cond_true rfl ?_
  refine wp_skip ?_
  refine hK22.out _ _ ?_; clear hK22
  refine wp_seq_h ?_; intro K23 hK23
  refine wp_block ?_
  refine region_c [23, 9] [.is (.int .i64 1), .is (.int .i64 1)] [] [] [] J ?_ ?_
  · refine .pl rfl (fun _ _ W Γ => ev_move _ (Γ.s rfl)) ?_
    refine .pl rfl (fun _ _ W Γ => ev_assign _ (Γ.k 0 rfl)) ?_
    exact .nil
  clear J; intro K24 hK24; simp only [fx]; intro _ f24 W24 J; refine hK24.out _ _ ?_; clear hK24
  refine region_c [24, 25, 26, 27, 28, 29, 30, 31, 7] [.is (.int .u64 5), .is (.int .u64 50), .is (.string ⟨#[53, 48]⟩), .is (.int .i64 1), .is (.int .u8 48), .is (.int .u8 0), .is (.int .u64 0), .is (.int .u64 50), .is (.int .u64 50)] [] [] [] J ?_ ?_
  · refine .pl rfl (fun _ _ W Γ => ev_move _ (Γ.s rfl)) ?_
    refine .pl rfl (fun _ E W Γ => by
      have e1 : E (.tmp 23) = .int .u64 5 := (Γ.k 0 rfl)
      have hc := Γ.c
      exact Does.value (w' := W) (by go_simp <;> first | rfl | (rw [IntKind.wrap_i64]; omega)) ⟨rfl, Below.refl _ _⟩) ?_
    refine .pl rfl (fun _ _ W Γ => ev_move _ (Γ.s rfl)) ?_
    refine .pl rfl (fun _ _ W Γ => ev_move _ (Γ.s rfl)) ?_
    refine .pl rfl (fun _ E W Γ => by
      have e1 : E (.tmp 25) = .string ⟨#[53, 48]⟩ := (Γ.k 2 rfl)
      have e2 : E (.tmp 26) = .int .i64 1 := (Γ.k 3 rfl)
      have hc := Γ.c
      exact Does.value (w' := W) (by go_simp <;> first | rfl | (rw [IntKind.wrap_i64]; omega)) ⟨rfl, Below.refl _ _⟩) ?_
    refine .pl rfl (fun _ E W Γ => by
      have e1 : E (.tmp 27) = .int .u8 48 := (Γ.k 4 rfl)
      have hc := Γ.c
      exact Does.value (w' := W) (by go_simp <;> first | rfl | (rw [IntKind.wrap_i64]; omega)) ⟨rfl, Below.refl _ _⟩) ?_
    refine .pl rfl (fun _ E W Γ => by
      have e1 : E (.tmp 28) = .int .u8 0 := (Γ.k 5 rfl)
      have hc := Γ.c
      exact Does.value (w' := W) (by go_simp <;> first | rfl | (rw [IntKind.wrap_i64]; omega)) ⟨rfl, Below.refl _ _⟩) ?_
    refine .pl rfl (fun _ E W Γ => by
      have e1 : E (.tmp 24) = .int .u64 50 := (Γ.k 1 rfl)
      have e2 : E (.tmp 29) = .int .u64 0 := (Γ.k 6 rfl)
      have hc := Γ.c
      exact Does.value (w' := W) (by go_simp <;> first | rfl | (rw [IntKind.wrap_i64]; omega)) ⟨rfl, Below.refl _ _⟩) ?_
    refine .pl rfl (fun _ _ W Γ => ev_assign _ (Γ.k 7 rfl)) ?_
    exact .nil
  clear J; intro K25 hK25; simp only [fx]; intro _ f25 W25 J; refine hK25.out _ _ ?_; clear hK25
  refine region_f [32, 33, 8] [.is (.int .u64 10), .is (.int .u64 100), .is (.int .u64 100)] [] [] [] J ?_ ?_
  · refine .pl rfl (fun _ _ W Γ => ev_move _ (Γ.s rfl)) ?_
    refine .pl rfl (fun _ E W Γ => by
      have e1 : E (.tmp 31) = .int .u64 10 := (Γ.k 0 rfl)
      have hc := Γ.c
      exact Does.value (w' := W) (by go_simp <;> first | rfl | (rw [IntKind.wrap_i64]; omega)) ⟨rfl, Below.refl _ _⟩) ?_
    refine .pl rfl (fun _ _ W Γ => ev_assign _ (Γ.k 1 rfl)) ?_
    exact .nil
  clear J; simp only [fx]; intro _ f26 W26 J
  refine hK23.out _ _ ?_; clear hK23
  refine region_f [34, 21] [.is (.int .i64 2), .is (.int .i64 2)] [] [] [] J ?_ ?_
  · refine .pl rfl (fun _ E W Γ => by
      have e1 : E (.tmp 20) = .int .i64 1 := (Γ.s rfl)
      have hc := Γ.c
      exact Does.value (w' := W) (by go_simp <;> first | rfl | (rw [IntKind.wrap_i64]; omega)) ⟨rfl, Below.refl _ _⟩) ?_
    refine .pl rfl (fun _ _ W Γ => ev_move _ (Γ.k 0 rfl)) ?_
    exact .nil
  clear J; simp only [fx]; intro _ f27 W27 J
  try simp only [Exit.inBlock]
  simp only [Exit.then]
  rw [rounds_succ]
  refine region_c [22] [.is (.bool false)] [] [] [] J ?_ ?_
  · refine .pl rfl (fun _ E W Γ => by
      have e1 : E (.tmp 20) = .int .i64 2 := (Γ.s rfl)
      have e2 : E (.tmp 19) = .int .i64 2 := (Γ.s rfl)
      have hc := Γ.c
      exact Does.value (w' := W) (by go_simp <;> first | rfl | (rw [IntKind.wrap_i64]; omega)) ⟨rfl, Below.refl _ _⟩) ?_
    exact .nil
  clear J; intro K28 hK28; simp only [fx]; intro _ f28 W28 J; refine hK28.out _ _ ?_; clear hK28
  refine wp_seq_h ?_; intro K29 hK29
  refine wp_cond_false rfl ?_
  refine wp_exit ?_
  simp only [Exit.then, Exit.inBlock, ↓reduceIte]
  refine hK12.out _ _ ?_; clear hK12
  refine region_c [35, 36, 37, 38, 39, 40, 41, 0] [.num 0, .is (.int .u64 100), .num 100, .num 0, .is (.int .u64 50), .num 50, .num 50, .any] [none, some (7, .num 50)] [] [(0, 34), (2, 36), (3, 37), (5, 39), (6, 40)] J ?_ ?_
  · refine .pl rfl (fun _ _ W Γ => ev_ldN (Γ.s rfl) (Γ.u 1 rfl rfl).1) ?_
    refine .pl rfl (fun _ _ W Γ => ev_move _ (Γ.s rfl)) ?_
    refine .pl rfl (fun _ _ W Γ => ev_call1 (Γ.f _) run_Of (by rw [(show _ = Value.int .u64 100 from (Γ.k (d := 35) 1 rfl))]; exact of_gives 100 (by decide) W)) ?_
    refine .pl rfl (fun _ _ W Γ => ev_call2 (Γ.f _) run_nMul (nMul_gives W _ _ 0 100 (by rw [ds_one (by decide)]; omega) (by rw [ds_one (by decide)]; omega) (Γ.w (d := 34) 0 rfl) (Γ.w (d := 36) 2 rfl))) ?_
    refine .pl rfl (fun _ _ W Γ => ev_move _ (Γ.s rfl)) ?_
    refine .pl rfl (fun _ _ W Γ => ev_call1 (Γ.f _) run_Of (by rw [(show _ = Value.int .u64 50 from (Γ.k (d := 38) 4 rfl))]; exact of_gives 50 (by decide) W)) ?_
    refine .pl rfl (fun _ _ W Γ => ev_call2 (Γ.f _) run_nAdd (nAdd_gives W _ _ 0 50 (by rw [ds_one (by decide)]; omega) (by rw [ds_one (by decide)]; omega) (Γ.w (d := 37) 3 rfl) (Γ.w (d := 39) 5 rfl))) ?_
    refine .st 1 rfl rfl rfl (fun _ _ W Γ => ev_stN (Γ.s rfl) (Γ.u 1 rfl rfl) (Γ.w 6 rfl)) ?_
    exact .nil
  clear J; intro K30 hK30; simp only [fx]; intro _ f30 W30 J; refine hK30.out _ _ ?_; clear hK30
  refine region_f [42, 43, 44, 1] [.is (.string ⟨#[53, 48]⟩), .is (.int .i64 2), .is (.string ⟨#[]⟩), .is (.string ⟨#[]⟩)] [] [] [] J ?_ ?_
  · refine .pl rfl (fun _ _ W Γ => ev_move _ (Γ.s rfl)) ?_
    refine .pl rfl (fun _ _ W Γ => ev_move _ (Γ.s rfl)) ?_
    refine .pl rfl (fun _ E W Γ => by
      have e1 : E (.tmp 41) = .string ⟨#[53, 48]⟩ := (Γ.k 0 rfl)
      have e2 : E (.tmp 42) = .int .i64 2 := (Γ.k 1 rfl)
      have hc := Γ.c
      exact Does.value (w' := W) (by go_simp <;> first | rfl | (rw [IntKind.wrap_i64]; omega)) ⟨rfl, Below.refl _ _⟩) ?_
    refine .pl rfl (fun _ _ W Γ => ev_assign _ (Γ.k 2 rfl)) ?_
    exact .nil
  clear J; simp only [fx]; intro _ f31 W31 J
  try simp only [Exit.inBlock]
  simp only [Exit.then]
  rw [rounds_succ]
  refine wp_seq_h ?_; intro K32 hK32
  refine region_c [14, 15, 16] [.is (.string ⟨#[]⟩), .is (.int .i64 0), .is (.bool false)] [] [] [] J ?_ ?_
  · refine .pl rfl (fun _ _ W Γ => ev_move _ (Γ.s rfl)) ?_
    refine .pl rfl (fun _ E W Γ => by
      have e1 : E (.tmp 13) = .string ⟨#[]⟩ := (Γ.k 0 rfl)
      have hc := Γ.c
      exact Does.value (w' := W) (by go_simp <;> first | rfl | (rw [IntKind.wrap_i64]; omega)) ⟨rfl, Below.refl _ _⟩) ?_
    refine .pl rfl (fun _ E W Γ => by
      have e1 : E (.tmp 14) = .int .i64 0 := (Γ.k 1 rfl)
      have hc := Γ.c
      exact Does.value (w' := W) (by go_simp <;> first | rfl | (rw [IntKind.wrap_i64]; omega)) ⟨rfl, Below.refl _ _⟩) ?_
    exact .nil
  clear J; intro K33 hK33; simp only [fx]; intro _ f33 W33 J; refine hK33.out _ _ ?_; clear hK33
  refine wp_cond_false rfl ?_
  refine wp_exit ?_
  simp only [Exit.then, Exit.inBlock, ↓reduceIte]
  refine hK7.out _ _ ?_; clear hK7
  refine region_c [45, 0, 4] [.num 50, .any, .is (.bool true)] [some (1, .num 50)] [] [(0, 44)] J ?_ ?_
  · refine .pl rfl (fun _ _ W Γ => ev_ldN (Γ.s rfl) (Γ.l 1 rfl)) ?_
    refine .st 0 rfl rfl rfl (fun _ _ W Γ => ev_stN (Γ.s rfl) (Γ.u 0 rfl rfl) (Γ.w 0 rfl)) ?_
    refine .pl rfl (fun _ _ W Γ => ev_assign _ (Γ.c _)) ?_
    exact .nil
  clear J; intro K34 hK34; simp only [fx]; intro _ f34 W34 J; refine hK34.out _ _ ?_; clear hK34
  refine wp_ret ?_
  obtain ⟨u0, hx0, hm0⟩ := J.out.get 0 rfl
  obtain ⟨sr0, pr0, lr0, cr0, rfl, c0_0, c0_1⟩ := hx0.nat
  exact bodyPost_ret (v := .tuple #[.agg #[.int .u64 sr0, .slice pr0 lr0 cr0], .bool true]) (by simp [results, Tryz.results146, go_sem, c0_0, c0_1]) rfl ⟨_, rfl, ⟨_, _, rfl, hm0, rfl⟩, J.out.be⟩
set_option maxRecDepth 100000 in
set_option maxHeartbeats 4000000 in
theorem places_50 (w : World)   :
    Calls Tryz.prog 148 #[.string ⟨#[53, 48]⟩] w (Gives w (.two (.num 50) (.is (.bool true)))) := by
  go_enter Tryz.func148, Tryz.ntmps148
  have J := Frm.start (w := w) (V := []) fn
  refine wp_seq_h ?_; intro K1 hK1; go_wp2
  obtain ⟨W2, b2, eW2, eb2, sz2, J⟩ := Frm.putN0 J rfl
  rw [← eW2, ← eb2]
  clear eW2 eb2 sz2
  refine hK1.out _ _ ?_; clear hK1
  refine wp_seq_h ?_; intro K3 hK3
  refine region_c [5, 6, 7, 8, 9, 10, 11, 12] [.is (.string ⟨#[53, 48]⟩), .is (.int .i64 2), .is (.bool false), .is (.bool false), .is (.string ⟨#[53, 48]⟩), .is (.int .i64 2), .is (.bool false), .is (.bool false)] [] [] [] J ?_ ?_
  · refine .pl rfl (fun _ _ W Γ => ev_move _ (Γ.s rfl)) ?_
    refine .pl rfl (fun _ E W Γ => by
      have e1 : E (.tmp 4) = .string ⟨#[53, 48]⟩ := (Γ.k 0 rfl)
      have hc := Γ.c
      exact Does.value (w' := W) (by go_simp <;> first | rfl | (rw [IntKind.wrap_i64]; omega)) ⟨rfl, Below.refl _ _⟩) ?_
    refine .pl rfl (fun _ E W Γ => by
      have e1 : E (.tmp 5) = .int .i64 2 := (Γ.k 1 rfl)
      have hc := Γ.c
      exact Does.value (w' := W) (by go_simp <;> first | rfl | (rw [IntKind.wrap_i64]; omega)) ⟨rfl, Below.refl _ _⟩) ?_
    refine .pl rfl (fun _ _ W Γ => ev_move _ (Γ.k 2 rfl)) ?_
    refine .gu rfl rfl rfl rfl (fun _ _ W Γ => ev_move _ (Γ.s rfl)) ?_
    refine .gu rfl rfl rfl rfl (fun _ E W Γ => by
      have e1 : E (.tmp 8) = .string ⟨#[53, 48]⟩ := (Γ.k 4 rfl)
      have hc := Γ.c
      exact Does.value (w' := W) (by go_simp <;> first | rfl | (rw [IntKind.wrap_i64]; omega)) ⟨rfl, Below.refl _ _⟩) ?_
    refine .gu rfl rfl rfl rfl (fun _ E W Γ => by
      have e1 : E (.tmp 9) = .int .i64 2 := (Γ.k 5 rfl)
      have hc := Γ.c
      exact Does.value (w' := W) (by go_simp <;> first | rfl | (rw [IntKind.wrap_i64]; omega)) ⟨rfl, Below.refl _ _⟩) ?_
    refine .pl rfl (fun _ _ W Γ => ev_pick (Γ.k 3 rfl) (Γ.k 6 rfl)) ?_
    exact .nil
  clear J; intro K4 hK4; simp only [fx]; intro _ f4 W4 J; refine hK4.out _ _ ?_; clear hK4
  refine wp_cond_false rfl ?_
  refine wp_skip ?_
  refine hK3.out _ _ ?_; clear hK3
  refine region_c [14, 15, 1] [.is (.string ⟨#[53, 48]⟩), .is (.string ⟨#[53, 48]⟩), .is (.string ⟨#[53, 48]⟩)] [] [] [] J ?_ ?_
  · refine .pl rfl (fun _ _ W Γ => ev_move _ (Γ.s rfl)) ?_
    refine .pl rfl (fun _ _ W Γ => ev_call2 (Γ.f _) run_sTrimLeft (by rw [Γ.c, (show _ = Value.string ⟨#[53, 48]⟩ from (Γ.k (d := 13) 0 rfl))]; exact trimLeft_gives W ⟨#[53, 48]⟩ ⟨#[53, 48]⟩ 48 (by decide) (by decide))) ?_
    refine .pl rfl (fun _ _ W Γ => ev_assign _ (Γ.k 1 rfl)) ?_
    exact .nil
  clear J; intro K5 hK5; simp only [fx]; intro _ f5 W5 J; refine hK5.out _ _ ?_; clear hK5
  refine wp_seq_h ?_; intro K6 hK6
  refine region_c [16, 17] [.is (.string ⟨#[53, 48]⟩), .is (.bool false)] [] [] [] J ?_ ?_
  · refine .pl rfl (fun _ _ W Γ => ev_move _ (Γ.s rfl)) ?_
    refine .pl rfl (fun _ E W Γ => by
      have e1 : E (.tmp 15) = .string ⟨#[53, 48]⟩ := (Γ.k 0 rfl)
      have hc := Γ.c
      exact Does.value (w' := W) (by go_simp <;> first | rfl | (rw [IntKind.wrap_i64]; omega)) ⟨rfl, Below.refl _ _⟩) ?_
    exact .nil
  clear J; intro K7 hK7; simp only [fx]; intro _ f7 W7 J; refine hK7.out _ _ ?_; clear hK7
  refine wp_cond_false rfl ?_
  refine wp_skip ?_
  refine hK6.out _ _ ?_; clear hK6
  refine region_c [19, 20, 21, 22, 0, 4] [.is (.string ⟨#[53, 48]⟩), .two (.num 50) (.is (.bool true)), .num 50, .is (.bool true), .any, .is (.bool true)] [some (4, .num 50)] [] [] J ?_ ?_
  · refine .pl rfl (fun _ _ W Γ => ev_move _ (Γ.s rfl)) ?_
    refine .pl rfl (fun _ _ W Γ => ev_call1 (Γ.f _) run_Parse (by rw [(show _ = Value.string ⟨#[53, 48]⟩ from (Γ.k (d := 18) 0 rfl))]; exact parse_50 W)) ?_
    refine .pl rfl (fun _ _ W Γ => ev_ex20 (Γ.w 1 rfl)) ?_
    refine .pl rfl (fun _ _ W Γ => ev_ex21 (Γ.w 1 rfl)) ?_
    refine .st 0 rfl rfl rfl (fun _ _ W Γ => ev_stN (Γ.s rfl) (Γ.u 0 rfl rfl) (Γ.w 2 rfl)) ?_
    refine .pl rfl (fun _ _ W Γ => ev_assign _ (Γ.k 3 rfl)) ?_
    exact .nil
  clear J; intro K8 hK8; simp only [fx]; intro _ f8 W8 J; refine hK8.out _ _ ?_; clear hK8
  refine wp_ret ?_
  obtain ⟨u0, hx0, hm0⟩ := J.out.get 0 rfl
  obtain ⟨sr0, pr0, lr0, cr0, rfl, c0_0, c0_1⟩ := hx0.nat
  exact bodyPost_ret (v := .tuple #[.agg #[.int .u64 sr0, .slice pr0 lr0 cr0], .bool true]) (by simp [results, Tryz.results148, go_sem, c0_0, c0_1]) rfl ⟨_, rfl, ⟨_, _, rfl, hm0, rfl⟩, J.out.be⟩
set_option maxRecDepth 100000 in
set_option maxHeartbeats 4000000 in
theorem decimal_050 (w : World) (hT : Tab64 w)  :
    Calls Tryz.prog 101 #[.string ⟨#[45, 48]⟩, .string ⟨#[53, 48]⟩] w (Gives w (.two (.that (fracS (mkRat (-1) 2))) (.is (.bool true)))) := by
  have TB := Lib.hid hT; clear hT
  go_enter Tryz.func101, Tryz.ntmps101
  have J := Frm.start (w := w) (V := []) fn
  refine wp_seq_h ?_; intro K1 hK1; go_wp2
  obtain ⟨W2, b2, eW2, eb2, sz2, J⟩ := Frm.putQ0 J rfl
  rw [← eW2, ← eb2]
  clear eW2 eb2 sz2
  refine hK1.out _ _ ?_; clear hK1
  refine region_c [14, 15, 13, 16, 17, 1, 7] [.is (.string ⟨#[45, 48]⟩), .two (.is (.string ⟨#[48]⟩)) (.is (.bool true)), .two (.is (.string ⟨#[48]⟩)) (.is (.bool true)), .is (.string ⟨#[48]⟩), .is (.bool true), .is (.string ⟨#[48]⟩), .is (.bool true)] [] [] [] J ?_ ?_
  · refine .pl rfl (fun _ _ W Γ => ev_move _ (Γ.s rfl)) ?_
    refine .pl rfl (fun _ _ W Γ => ev_call2 (Γ.f _) run_sCutPrefix (by rw [Γ.c, (show _ = Value.string ⟨#[45, 48]⟩ from (Γ.k (d := 13) 0 rfl))]; exact cutPrefix_gives W ⟨#[45, 48]⟩ ⟨#[45]⟩ ⟨#[48]⟩ true (by decide) (by decide))) ?_
    refine .pl rfl (fun _ _ W Γ => ev_moveM (Γ.w 1 rfl)) ?_
    refine .pl rfl (fun _ _ W Γ => ev_ex20 (Γ.w 2 rfl)) ?_
    refine .pl rfl (fun _ _ W Γ => ev_ex21 (Γ.w 2 rfl)) ?_
    refine .pl rfl (fun _ _ W Γ => ev_assign _ (Γ.k 3 rfl)) ?_
    refine .pl rfl (fun _ _ W Γ => ev_assign _ (Γ.k 4 rfl)) ?_
    exact .nil
  clear J; intro K3 hK3; simp only [fx]; intro _ f3 W3 J; refine hK3.out _ _ ?_; clear hK3
  refine region_c [19, 20, 18, 21, 22, 8, 0, 9] [.is (.string ⟨#[48]⟩), .two (.num 0) (.is (.bool true)), .two (.num 0) (.is (.bool true)), .num 0, .is (.bool true), .any, .any, .is (.bool true)] [] [⟨.nat, 5, 6, .num 0, .agg #[.int .u64 0, .slice none 0 0]⟩] [] J ?_ ?_
  · refine .pl rfl (fun _ _ W Γ => ev_move _ (Γ.s rfl)) ?_
    refine .pl rfl (fun _ _ W Γ => ev_call1 (Γ.f _) run_Parse (by rw [(show _ = Value.string ⟨#[48]⟩ from (Γ.k (d := 18) 0 rfl))]; exact parse_0 W)) ?_
    refine .pl rfl (fun _ _ W Γ => ev_moveM (Γ.w 1 rfl)) ?_
    refine .pl rfl (fun _ _ W Γ => ev_ex20 (Γ.w 2 rfl)) ?_
    refine .pl rfl (fun _ _ W Γ => ev_ex21 (Γ.w 2 rfl)) ?_
    refine .al 0 rfl rfl (fun _ _ => ev_alN) ?_
    refine .sn 0 rfl rfl (fun _ _ W Γ => ev_stN (Γ.q 0 rfl) (Γ.un 0 rfl) (Γ.w 3 rfl)) ?_
    refine .pl rfl (fun _ _ W Γ => ev_assign _ (Γ.k 4 rfl)) ?_
    exact .nil
  clear J; intro K4 hK4; simp only [fx]; intro β4 f4 W4 J; refine hK4.out _ _ ?_; clear hK4
  refine wp_seq_h ?_; intro K5 hK5
  refine region_c [23, 24] [.is (.bool true), .is (.bool false)] [] [] [] J ?_ ?_
  · refine .pl rfl (fun _ _ W Γ => ev_move _ (Γ.s rfl)) ?_
    refine .pl rfl (fun _ _ W Γ => ev_not (Γ.k 0 rfl) rfl) ?_
    exact .nil
  clear J; intro K6 hK6; simp only [fx]; intro _ f6 W6 J; refine hK6.out _ _ ?_; clear hK6
  refine wp_cond_false rfl ?_
  refine wp_skip ?_
  refine hK5.out _ _ ?_; clear hK5
  refine region_c [27, 28, 26, 29, 30, 10, 0, 9] [.is (.string ⟨#[53, 48]⟩), .two (.num 50) (.is (.bool true)), .two (.num 50) (.is (.bool true)), .num 50, .is (.bool true), .any, .any, .is (.bool true)] [] [⟨.nat, 5, 6, .num 50, .agg #[.int .u64 0, .slice none 0 0]⟩] [] J ?_ ?_
  · refine .pl rfl (fun _ _ W Γ => ev_move _ (Γ.s rfl)) ?_
    refine .pl rfl (fun _ _ W Γ => ev_call1 (Γ.f _) run_qParsePlaces (by rw [(show _ = Value.string ⟨#[53, 48]⟩ from (Γ.k (d := 26) 0 rfl))]; exact places_50 W)) ?_
    refine .pl rfl (fun _ _ W Γ => ev_moveM (Γ.w 1 rfl)) ?_
    refine .pl rfl (fun _ _ W Γ => ev_ex20 (Γ.w 2 rfl)) ?_
    refine .pl rfl (fun _ _ W Γ => ev_ex21 (Γ.w 2 rfl)) ?_
    refine .al 0 rfl rfl (fun _ _ => ev_alN) ?_
    refine .sn 0 rfl rfl (fun _ _ W Γ => ev_stN (Γ.q 0 rfl) (Γ.un 0 rfl) (Γ.w 3 rfl)) ?_
    refine .pl rfl (fun _ _ W Γ => ev_assign _ (Γ.k 4 rfl)) ?_
    exact .nil
  clear J; intro K7 hK7; simp only [fx]; intro β7 f7 W7 J; refine hK7.out _ _ ?_; clear hK7
  refine wp_seq_h ?_; intro K8 hK8
  refine region_c [31, 32] [.is (.bool true), .is (.bool false)] [] [] [] J ?_ ?_
  · refine .pl rfl (fun _ _ W Γ => ev_move _ (Γ.s rfl)) ?_
    refine .pl rfl (fun _ _ W Γ => ev_not (Γ.k 0 rfl) rfl) ?_
    exact .nil
  clear J; intro K9 hK9; simp only [fx]; intro _ f9 W9 J; refine hK9.out _ _ ?_; clear hK9
  refine wp_cond_false rfl ?_
  refine wp_skip ?_
  refine hK8.out _ _ ?_; clear hK8
  refine region_c [35, 36, 37, 38, 34, 39, 40, 11, 0, 12] [.num 10, .is (.string ⟨#[53, 48]⟩), .is (.int .i64 2), .two (.num 100) (.is (.bool true)), .two (.num 100) (.is (.bool true)), .num 100, .is (.bool true), .any, .any, .is (.bool true)] [] [⟨.nat, 7, 8, .num 100, .agg #[.int .u64 0, .slice none 0 0]⟩] [] J ?_ ?_
  · refine .pl rfl (fun _ _ W Γ => ev_call1 (Γ.f _) run_Of (by rw [Γ.c]; exact of_gives 10 (by decide) W)) ?_
    refine .pl rfl (fun _ _ W Γ => ev_move _ (Γ.s rfl)) ?_
    refine .pl rfl (fun _ E W Γ => by
      have e1 : E (.tmp 35) = .string ⟨#[53, 48]⟩ := (Γ.k 1 rfl)
      have hc := Γ.c
      exact Does.value (w' := W) (by go_simp <;> first | rfl | (rw [IntKind.wrap_i64]; omega)) ⟨rfl, Below.refl _ _⟩) ?_
    refine .pl rfl (fun _ _ W Γ => ev_call2 (Γ.f _) run_nPow (by rw [(show _ = Value.int .i64 2 from (Γ.k (d := 36) 2 rfl))]; exact nPow_gives W _ 10 2 (by rw [ds_one (by decide)]; omega) (by decide) (Γ.w (d := 34) 0 rfl))) ?_
    refine .pl rfl (fun _ _ W Γ => ev_moveM (Γ.w 3 rfl)) ?_
    refine .pl rfl (fun _ _ W Γ => ev_ex20 (Γ.w 4 rfl)) ?_
    refine .pl rfl (fun _ _ W Γ => ev_ex21 (Γ.w 4 rfl)) ?_
    refine .al 0 rfl rfl (fun _ _ => ev_alN) ?_
    refine .sn 0 rfl rfl (fun _ _ W Γ => ev_stN (Γ.q 0 rfl) (Γ.un 0 rfl) (Γ.w 5 rfl)) ?_
    refine .pl rfl (fun _ _ W Γ => ev_assign _ (Γ.k 6 rfl)) ?_
    exact .nil
  clear J; intro K10 hK10; simp only [fx]; intro β10 f10 W10 J; refine hK10.out _ _ ?_; clear hK10
  refine region_c [41, 42, 43, 44, 45, 46, 47, 48, 49, 50, 51, 52, 0, 6] [.is (.bool true), .num 0, .num 100, .num 0, .num 50, .num 50, .int (-50), .num 100, .two (.int (-1)) (.num 2), .int (-1), .num 2, .that (fracS (mkRat (-1) 2)), .any, .is (.bool true)] [some (12, .that (fracS (mkRat (-1) 2)))] [] [] J ?_ ?_
  · refine .pl rfl (fun _ _ W Γ => ev_move _ (Γ.s rfl)) ?_
    refine .pl rfl (fun _ _ W Γ => ev_ldN (Γ.s rfl) (Γ.l 1 rfl)) ?_
    refine .pl rfl (fun _ _ W Γ => ev_ldN (Γ.s rfl) (Γ.l 3 rfl)) ?_
    refine .pl rfl (fun _ _ W Γ => ev_call2 (Γ.f _) run_nMul (nMul_gives W _ _ 0 100 (by rw [ds_one (by decide)]; omega) (by rw [ds_one (by decide)]; omega) (Γ.w (d := 41) 1 rfl) (Γ.w (d := 42) 2 rfl))) ?_
    refine .pl rfl (fun _ _ W Γ => ev_ldN (Γ.s rfl) (Γ.l 2 rfl)) ?_
    refine .pl rfl (fun _ _ W Γ => ev_call2 (Γ.f _) run_nAdd (nAdd_gives W _ _ 0 50 (by rw [ds_one (by decide)]; omega) (by rw [ds_one (by decide)]; omega) (Γ.w (d := 43) 3 rfl) (Γ.w (d := 44) 4 rfl))) ?_
    refine .pl rfl (fun _ _ W Γ => ev_call2 (Γ.f _) run_iFrom (by rw [(show _ = Value.bool true from (Γ.k (d := 40) 0 rfl))]; exact iFrom_want W _ true 50 (Γ.w (d := 45) 5 rfl))) ?_
    refine .pl rfl (fun _ _ W Γ => ev_ldN (Γ.s rfl) (Γ.l 3 rfl)) ?_
    refine .pl rfl (fun _ _ W Γ => ev_call2 (Γ.f _) run_qCancel (qCancel_val W _ _ (-50) 100 50 (-1) 2 (by decide) (by decide) (by decide) (by decide) (by rw [show (-50 : Int).natAbs = 50 from rfl, ds_one (by decide)]; omega) (by rw [ds_one (by decide)]; omega) (TB.out.mono Γ.be) (Γ.w (d := 46) 6 rfl) (Γ.w (d := 47) 7 rfl))) ?_
    refine .pl rfl (fun _ _ W Γ => ev_ex20 (Γ.w 8 rfl)) ?_
    refine .pl rfl (fun _ _ W Γ => ev_ex21 (Γ.w 8 rfl)) ?_
    refine .pl rfl (fun _ _ W Γ => ev_call2 (Γ.f _) run_qOfLowest (qOfLowest_val W _ _ (-1) 2 (mkRat (-1) 2) (by decide) (by decide) (Γ.w (d := 49) 9 rfl) (Γ.w (d := 50) 10 rfl))) ?_
    refine .st 0 rfl rfl rfl (fun _ _ W Γ => ev_stQ (Γ.s rfl) (Γ.u 0 rfl rfl) (Γ.w 11 rfl)) ?_
    refine .pl rfl (fun _ _ W Γ => ev_assign _ (Γ.c _)) ?_
    exact .nil
  clear J; intro K11 hK11; simp only [fx]; intro _ f11 W11 J; refine hK11.out _ _ ?_; clear hK11
  refine wp_ret ?_
  obtain ⟨u0, hx0, hm0⟩ := J.out.get 0 rfl
  obtain ⟨gr0, sr0, pr0, lr0, cr0, tr0, qr0, kr0, dr0, rfl, c0_0, c0_1, c0_2, c0_3, c0_4⟩ := hx0.frac
  exact bodyPost_ret (v := .tuple #[.agg #[.bool gr0, .int .u64 sr0, .slice pr0 lr0 cr0, .int .u64 tr0, .slice qr0 kr0 dr0], .bool true]) (by simp [results, Tryz.results101, go_sem, c0_0, c0_1, c0_2, c0_3, c0_4]) rfl ⟨_, rfl, ⟨_, _, rfl, hm0, rfl⟩, J.out.be⟩
set_option maxRecDepth 100000 in
set_option maxHeartbeats 4000000 in
theorem parse_050 (w : World) (mx : Int) (hM : w.cell? ⟨4, 0, none⟩ = some (.int .i64 mx)) (hT : Tab64 w)  :
    Calls Tryz.prog 47 #[.string ⟨#[45, 48, 46, 53, 48]⟩] w (Gives w (.two (.that (fracS (mkRat (-1) 2))) (.is (.bool true)))) := by
  have MX := Lib.hid hM; clear hM
  have TB := Lib.hid hT; clear hT
  go_enter Tryz.func47, Tryz.ntmps47
  have J := Frm.start (w := w) (V := []) fn
  refine wp_seq_h ?_; intro K1 hK1; go_wp2
  obtain ⟨W2, b2, eW2, eb2, sz2, J⟩ := Frm.putQ0 J rfl
  rw [← eW2, ← eb2]
  clear eW2 eb2 sz2
  refine hK1.out _ _ ?_; clear hK1
  refine wp_seq_h ?_; intro K3 hK3
  refine region_c [14, 15, 13, 16, 17, 18, 5, 6, 7] [.is (.string ⟨#[45, 48, 46, 53, 48]⟩), .three (.is (.string ⟨#[45, 48, 46, 53, 48]⟩)) (.is (.string ⟨#[]⟩)) (.is (.bool false)), .three (.is (.string ⟨#[45, 48, 46, 53, 48]⟩)) (.is (.string ⟨#[]⟩)) (.is (.bool false)), .is (.string ⟨#[45, 48, 46, 53, 48]⟩), .is (.string ⟨#[]⟩), .is (.bool false), .is (.string ⟨#[45, 48, 46, 53, 48]⟩), .is (.string ⟨#[]⟩), .is (.bool false)] [] [] [] J ?_ ?_
  · refine .pl rfl (fun _ _ W Γ => ev_move _ (Γ.s rfl)) ?_
    refine .pl rfl (fun _ _ W Γ => ev_call2 (Γ.f _) run_sCut (by rw [Γ.c, (show _ = Value.string ⟨#[45, 48, 46, 53, 48]⟩ from (Γ.k (d := 13) 0 rfl))]; exact cut_gives W ⟨#[45, 48, 46, 53, 48]⟩ ⟨#[47]⟩ ⟨#[45, 48, 46, 53, 48]⟩ ⟨#[]⟩ false mx (wcell Γ.be MX.out) (by decide) (by decide))) ?_
    refine .pl rfl (fun _ _ W Γ => ev_moveM (Γ.w 1 rfl)) ?_
    refine .pl rfl (fun _ _ W Γ => ev_ex30 (Γ.w 2 rfl)) ?_
    refine .pl rfl (fun _ _ W Γ => ev_ex31 (Γ.w 2 rfl)) ?_
    refine .pl rfl (fun _ _ W Γ => ev_ex32 (Γ.w 2 rfl)) ?_
    refine .pl rfl (fun _ _ W Γ => ev_assign _ (Γ.k 3 rfl)) ?_
    refine .pl rfl (fun _ _ W Γ => ev_assign _ (Γ.k 4 rfl)) ?_
    refine .pl rfl (fun _ _ W Γ => ev_assign _ (Γ.k 5 rfl)) ?_
    exact .nil
  clear J; intro K4 hK4; simp only [fx]; intro _ f4 W4 J; refine hK4.out _ _ ?_; clear hK4
  refine region_c [19] [.is (.bool false)] [] [] [] J ?_ ?_
  · refine .pl rfl (fun _ _ W Γ => ev_move _ (Γ.s rfl)) ?_
    exact .nil
  clear J; intro K5 hK5; simp only [fx]; intro _ f5 W5 J; refine hK5.out _ _ ?_; clear hK5
  refine wp_cond_false rfl ?_
  refine wp_skip ?_
  refine hK3.out _ _ ?_; clear hK3
  refine wp_seq_h ?_; intro K6 hK6
  refine region_c [26, 27, 25, 28, 29, 30, 8, 9, 10] [.is (.string ⟨#[45, 48, 46, 53, 48]⟩), .three (.is (.string ⟨#[45, 48]⟩)) (.is (.string ⟨#[53, 48]⟩)) (.is (.bool true)), .three (.is (.string ⟨#[45, 48]⟩)) (.is (.string ⟨#[53, 48]⟩)) (.is (.bool true)), .is (.string ⟨#[45, 48]⟩), .is (.string ⟨#[53, 48]⟩), .is (.bool true), .is (.string ⟨#[45, 48]⟩), .is (.string ⟨#[53, 48]⟩), .is (.bool true)] [] [] [] J ?_ ?_
  · refine .pl rfl (fun _ _ W Γ => ev_move _ (Γ.s rfl)) ?_
    refine .pl rfl (fun _ _ W Γ => ev_call2 (Γ.f _) run_sCut (by rw [Γ.c, (show _ = Value.string ⟨#[45, 48, 46, 53, 48]⟩ from (Γ.k (d := 25) 0 rfl))]; exact cut_gives W ⟨#[45, 48, 46, 53, 48]⟩ ⟨#[46]⟩ ⟨#[45, 48]⟩ ⟨#[53, 48]⟩ true mx (wcell Γ.be MX.out) (by decide) (by decide))) ?_
    refine .pl rfl (fun _ _ W Γ => ev_moveM (Γ.w 1 rfl)) ?_
    refine .pl rfl (fun _ _ W Γ => ev_ex30 (Γ.w 2 rfl)) ?_
    refine .pl rfl (fun _ _ W Γ => ev_ex31 (Γ.w 2 rfl)) ?_
    refine .pl rfl (fun _ _ W Γ => ev_ex32 (Γ.w 2 rfl)) ?_
    refine .pl rfl (fun _ _ W Γ => ev_assign _ (Γ.k 3 rfl)) ?_
    refine .pl rfl (fun _ _ W Γ => ev_assign _ (Γ.k 4 rfl)) ?_
    refine .pl rfl (fun _ _ W Γ => ev_assign _ (Γ.k 5 rfl)) ?_
    exact .nil
  clear J; intro K7 hK7; simp only [fx]; intro _ f7 W7 J; refine hK7.out _ _ ?_; clear hK7
  refine region_c [31] [.is (.bool true)] [] [] [] J ?_ ?_
  · refine .pl rfl (fun _ _ W Γ => ev_move _ (Γ.s rfl)) ?_
    exact .nil
  clear J; intro K8 hK8; simp only [fx]; intro _ f8 W8 J; refine hK8.out _ _ ?_; clear hK8
  refine wp_cond_true rfl ?_
  refine region_c [32, 33, 34, 35, 36, 0, 4] [.is (.string ⟨#[45, 48]⟩), .is (.string ⟨#[53, 48]⟩), .two (.that (fracS (mkRat (-1) 2))) (.is (.bool true)), .that (fracS (mkRat (-1) 2)), .is (.bool true), .any, .is (.bool true)] [some (5, .that (fracS (mkRat (-1) 2)))] [] [] J ?_ ?_
  · refine .pl rfl (fun _ _ W Γ => ev_move _ (Γ.s rfl)) ?_
    refine .pl rfl (fun _ _ W Γ => ev_move _ (Γ.s rfl)) ?_
    refine .pl rfl (fun _ _ W Γ => ev_call2 (Γ.f _) run_qParseDecimal (by rw [(show _ = Value.string ⟨#[45, 48]⟩ from (Γ.k (d := 31) 0 rfl)), (show _ = Value.string ⟨#[53, 48]⟩ from (Γ.k (d := 32) 1 rfl))]; exact decimal_050 W (TB.out.mono Γ.be))) ?_
    refine .pl rfl (fun _ _ W Γ => ev_ex20 (Γ.w 2 rfl)) ?_
    refine .pl rfl (fun _ _ W Γ => ev_ex21 (Γ.w 2 rfl)) ?_
    refine .st 0 rfl rfl rfl (fun _ _ W Γ => ev_stQ (Γ.s rfl) (Γ.u 0 rfl rfl) (Γ.w 3 rfl)) ?_
    refine .pl rfl (fun _ _ W Γ => ev_assign _ (Γ.k 4 rfl)) ?_
    exact .nil
  clear J; intro K9 hK9; simp only [fx]; intro _ f9 W9 J; refine hK9.out _ _ ?_; clear hK9
  refine wp_ret ?_
  obtain ⟨u0, hx0, hm0⟩ := J.out.get 0 rfl
  obtain ⟨gr0, sr0, pr0, lr0, cr0, tr0, qr0, kr0, dr0, rfl, c0_0, c0_1, c0_2, c0_3, c0_4⟩ := hx0.frac
  exact bodyPost_ret (v := .tuple #[.agg #[.bool gr0, .int .u64 sr0, .slice pr0 lr0 cr0, .int .u64 tr0, .slice qr0 kr0 dr0], .bool true]) (by simp [results, Tryz.results47, go_sem, c0_0, c0_1, c0_2, c0_3, c0_4]) rfl ⟨_, rfl, ⟨_, _, rfl, hm0, rfl⟩, J.out.be⟩
theorem iOf_gives (n : Int) (w : World) (h1 : -9223372036854775808 ≤ n) (h2 : n ≤ 9223372036854775807) : Calls Tryz.prog 33 #[.int .i64 n] w (Gives w (.int n)) := (iOf_any n w h1 h2).mono fun _ _ h => h.want
set_option maxRecDepth 100000 in
set_option maxHeartbeats 4000000 in
theorem over_72 (w : World) (hT : Tab64 w)  :
    Calls Tryz.prog 48 #[.int .i64 7, .int .i64 2] w (Gives w (.two (.that (fracS (mkRat 7 2))) (.is (.bool true)))) := by
  have TB := Lib.hid hT; clear hT
  go_enter Tryz.func48, Tryz.ntmps48
  have J := Frm.start (w := w) (V := []) fn
  refine wp_seq_h ?_; intro K1 hK1; go_wp2
  obtain ⟨W2, b2, eW2, eb2, sz2, J⟩ := Frm.putQ0 J rfl
  rw [← eW2, ← eb2]
  clear eW2 eb2 sz2
  refine hK1.out _ _ ?_; clear hK1
  refine region_c [7, 8, 9, 10, 11, 12, 13, 0, 6] [.is (.int .i64 7), .int 7, .is (.int .i64 2), .int 2, .two (.that (fracS (mkRat 7 2))) (.is (.bool true)), .that (fracS (mkRat 7 2)), .is (.bool true), .any, .is (.bool true)] [some (7, .that (fracS (mkRat 7 2)))] [] [] J ?_ ?_
  · refine .pl rfl (fun _ _ W Γ => ev_move _ (Γ.s rfl)) ?_
    refine .pl rfl (fun _ _ W Γ => ev_call1 (Γ.f _) run_iOf (by rw [(show _ = Value.int .i64 7 from (Γ.k (d := 6) 0 rfl))]; exact iOf_gives 7 W (by decide) (by decide))) ?_
    refine .pl rfl (fun _ _ W Γ => ev_move _ (Γ.s rfl)) ?_
    refine .pl rfl (fun _ _ W Γ => ev_call1 (Γ.f _) run_iOf (by rw [(show _ = Value.int .i64 2 from (Γ.k (d := 8) 2 rfl))]; exact iOf_gives 2 W (by decide) (by decide))) ?_
    refine .pl rfl (fun _ _ W Γ => ev_call2 (Γ.f _) run_qMake (qMake_val W _ _ 7 2 (mkRat 7 2) ⟨fun _ => rfl, fun h => absurd h (by decide)⟩ (by decide) (by rw [show (7 : Int).natAbs = 7 from rfl, ds_one (by decide)]; omega) (by rw [show (2 : Int).natAbs = 2 from rfl, ds_one (by decide)]; omega) (TB.out.mono Γ.be) (Γ.w (d := 7) 1 rfl) (Γ.w (d := 9) 3 rfl))) ?_
    refine .pl rfl (fun _ _ W Γ => ev_ex20 (Γ.w 4 rfl)) ?_
    refine .pl rfl (fun _ _ W Γ => ev_ex21 (Γ.w 4 rfl)) ?_
    refine .st 0 rfl rfl rfl (fun _ _ W Γ => ev_stQ (Γ.s rfl) (Γ.u 0 rfl rfl) (Γ.w 5 rfl)) ?_
    refine .pl rfl (fun _ _ W Γ => ev_assign _ (Γ.k 6 rfl)) ?_
    exact .nil
  clear J; intro K3 hK3; simp only [fx]; intro _ f3 W3 J; refine hK3.out _ _ ?_; clear hK3
  refine wp_ret ?_
  obtain ⟨u0, hx0, hm0⟩ := J.out.get 0 rfl
  obtain ⟨gr0, sr0, pr0, lr0, cr0, tr0, qr0, kr0, dr0, rfl, c0_0, c0_1, c0_2, c0_3, c0_4⟩ := hx0.frac
  exact bodyPost_ret (v := .tuple #[.agg #[.bool gr0, .int .u64 sr0, .slice pr0 lr0 cr0, .int .u64 tr0, .slice qr0 kr0 dr0], .bool true]) (by simp [results, Tryz.results48, go_sem, c0_0, c0_1, c0_2, c0_3, c0_4]) rfl ⟨_, rfl, ⟨_, _, rfl, hm0, rfl⟩, J.out.be⟩
set_option maxRecDepth 100000 in
set_option maxHeartbeats 4000000 in
theorem text_half (w : World) (u1 : Value)  (h1 : Means w (.that (fracS (mkRat (-1) 2))) u1) :
    Calls Tryz.prog 49 #[u1] w (Gives w (.is (.string ⟨#[45, 49, 47, 50]⟩))) := by
  obtain ⟨g1, s1, p1, l1, c1, t1, q1, k1, d1, rfl, h1⟩ := h1
  have H1 := Lib.hid h1; clear h1
  go_enter Tryz.func49, Tryz.ntmps49
  have J := Frm.start (w := w) (V := []) fn
  refine wp_seq_h ?_; intro K1 hK1; go_wp2
  obtain ⟨W2, b2, eW2, eb2, sz2, J⟩ := Frm.putQ J rfl H1.out
  rw [← eW2, ← eb2]
  clear eW2 eb2 sz2
  refine hK1.out _ _ ?_; clear hK1
  refine wp_seq_h ?_; intro K3 hK3
  refine region_c [4, 5] [.that (fracS (mkRat (-1) 2)), .is (.bool false)] [] [] [] J ?_ ?_
  · refine .pl rfl (fun _ _ W Γ => ev_ldQ (Γ.s rfl) (Γ.l 0 rfl)) ?_
    refine .pl rfl (fun _ _ W Γ => ev_call1 (Γ.f _) run_qIsWhole (qIsWhole_val W _ (mkRat (-1) 2) false (by decide) (Γ.w (d := 3) 0 rfl))) ?_
    exact .nil
  clear J; intro K4 hK4; simp only [fx]; intro _ f4 W4 J; refine hK4.out _ _ ?_; clear hK4
  refine wp_cond_false rfl ?_
  refine wp_skip ?_
  refine hK3.out _ _ ?_; clear hK3
  refine region_c [9, 10, 11, 12, 13, 14, 15, 16, 3] [.is (.pointer (some ⟨b2, 0, none⟩)), .int (-1), .is (.string ⟨#[45, 49]⟩), .is (.string ⟨#[45, 49, 47]⟩), .is (.pointer (some ⟨b2, 3, none⟩)), .num 2, .is (.string ⟨#[50]⟩), .is (.string ⟨#[45, 49, 47, 50]⟩), .is (.string ⟨#[45, 49, 47, 50]⟩)] [] [] [] J ?_ ?_
  · refine .pl rfl (fun _ _ W Γ => ev_faQ0 (Γ.s rfl)) ?_
    refine .pl rfl (fun _ _ W Γ => ev_ldQ0v (Γ.k 0 rfl) (Γ.l 0 rfl) (by decide)) ?_
    refine .pl rfl (fun _ _ W Γ => ev_call1 (Γ.f _) run_iText (iText_neg1 W _ (Γ.w (d := 9) 1 rfl))) ?_
    refine .pl rfl (fun _ E W Γ => by
      have e1 : E (.tmp 10) = .string ⟨#[45, 49]⟩ := (Γ.k 2 rfl)
      have hc := Γ.c
      exact Does.value (w' := W) (by go_simp <;> first | rfl | (rw [IntKind.wrap_i64]; omega)) ⟨rfl, Below.refl _ _⟩) ?_
    refine .pl rfl (fun _ _ W Γ => ev_faQ1 (Γ.s rfl)) ?_
    refine .pl rfl (fun _ _ W Γ => ev_ldQ3v (Γ.k 4 rfl) (Γ.l 0 rfl) (by decide)) ?_
    refine .pl rfl (fun _ _ W Γ => ev_call1 (Γ.f _) run_nText (nText_small W _ 2 _ (by decide) small_2 (Γ.w (d := 13) 5 rfl))) ?_
    refine .pl rfl (fun _ E W Γ => by
      have e1 : E (.tmp 11) = .string ⟨#[45, 49, 47]⟩ := (Γ.k 3 rfl)
      have e2 : E (.tmp 14) = .string ⟨#[50]⟩ := (Γ.k 6 rfl)
      have hc := Γ.c
      exact Does.value (w' := W) (by go_simp <;> first | rfl | (rw [IntKind.wrap_i64]; omega)) ⟨rfl, Below.refl _ _⟩) ?_
    refine .pl rfl (fun _ _ W Γ => ev_assign _ (Γ.k 7 rfl)) ?_
    exact .nil
  clear J; intro K5 hK5; simp only [fx]; intro _ f5 W5 J; refine hK5.out _ _ ?_; clear hK5
  refine wp_ret ?_
  exact bodyPost_ret (v := .string ⟨#[45, 49, 47, 50]⟩) (by simp [results, Tryz.results49, go_sem]) rfl ⟨_, rfl, rfl, J.out.be⟩
set_option maxRecDepth 100000 in
set_option maxHeartbeats 4000000 in
theorem text_4 (w : World) (u1 : Value)  (h1 : Means w (.that (fracS (4 : Rat))) u1) :
    Calls Tryz.prog 49 #[u1] w (Gives w (.is (.string ⟨#[52]⟩))) := by
  obtain ⟨g1, s1, p1, l1, c1, t1, q1, k1, d1, rfl, h1⟩ := h1
  have H1 := Lib.hid h1; clear h1
  go_enter Tryz.func49, Tryz.ntmps49
  have J := Frm.start (w := w) (V := []) fn
  refine wp_seq_h ?_; intro K1 hK1; go_wp2
  obtain ⟨W2, b2, eW2, eb2, sz2, J⟩ := Frm.putQ J rfl H1.out
  rw [← eW2, ← eb2]
  clear eW2 eb2 sz2
  refine hK1.out _ _ ?_; clear hK1
  refine wp_seq_h ?_; intro K3 hK3
  refine region_c [4, 5] [.that (fracS (4 : Rat)), .is (.bool true)] [] [] [] J ?_ ?_
  · refine .pl rfl (fun _ _ W Γ => ev_ldQ (Γ.s rfl) (Γ.l 0 rfl)) ?_
    refine .pl rfl (fun _ _ W Γ => ev_call1 (Γ.f _) run_qIsWhole (qIsWhole_val W _ (4 : Rat) true (by decide) (Γ.w (d := 3) 0 rfl))) ?_
    exact .nil
  clear J; intro K4 hK4; simp only [fx]; intro _ f4 W4 J; refine hK4.out _ _ ?_; clear hK4
  refine wp_cond_true rfl ?_
  refine region_c [6, 7, 8, 3] [.is (.pointer (some ⟨b2, 0, none⟩)), .int 4, .is (.string ⟨#[52]⟩), .is (.string ⟨#[52]⟩)] [] [] [] J ?_ ?_
  · refine .pl rfl (fun _ _ W Γ => ev_faQ0 (Γ.s rfl)) ?_
    refine .pl rfl (fun _ _ W Γ => ev_ldQ0v (Γ.k 0 rfl) (Γ.l 0 rfl) (by decide)) ?_
    refine .pl rfl (fun _ _ W Γ => ev_call1 (Γ.f _) run_iText (iText_gives W _ 4 _ (by decide) small_4 (Γ.w (d := 6) 1 rfl))) ?_
    refine .pl rfl (fun _ _ W Γ => ev_assign _ (Γ.k 2 rfl)) ?_
    exact .nil
  clear J; intro K5 hK5; simp only [fx]; intro _ f5 W5 J; refine hK5.out _ _ ?_; clear hK5
  refine wp_ret ?_
  exact bodyPost_ret (v := .string ⟨#[52]⟩) (by simp [results, Tryz.results49, go_sem]) rfl ⟨_, rfl, rfl, J.out.be⟩
theorem be_3 : be 3 = [3] := by simp [be, digs]
theorem be_4 : be 4 = [4] := by unfold be; decide +kernel
set_option maxRecDepth 100000 in
set_option maxHeartbeats 2000000 in
theorem twos_3 (w : World) (u : Value) (h : Num w u 3) : Calls Tryz.prog 90 #[u, .int .i64 1] w (Gives w (.is (.int .i64 0))) := by
  obtain ⟨s, p, l, c, rfl, h⟩ := h
  have HB := Lib.hid (fun W a => nbytes_any 3 s p l c W a (by rw [ds_one (by decide)]; omega))
  rw [be_3] at HB
  have H := Lib.hid h; clear h
  go_enter Tryz.func90, Tryz.ntmps90
  go_wp2_with fail
  refine (HB.out _ (H.out.mono (below_alloc (Below.refl _ _) _))).mono ?_
  rintro e w1 ⟨b, off, c1, rfl, h1, _, h2, _, hb⟩
  have q0 : w1.cell? ⟨b, off, none⟩ = some (.int .u8 3) := h2 0 (by decide)
  have HB1 := Lib.hid (below_step (below_alloc (Below.refl w.heap.size w) _) hb)
  replace h1 : 1 ≤ c1 := h1
  clear h2 hb HB
  go_wp2_with fail
  refine wp_loop_rounds 2 ?_
  rw [rounds_succ]
  go_wp2_with fail
  refine (Tryz.bits_TrailingZeros8 3 _ (by decide) (by decide)).mono ?_
  rintro e w2 ⟨rfl, rfl⟩
  go_wp2
  go_ret
  exact ⟨_, rfl, congrArg (Value.int .i64) (show (min (wrap64 ((Lib.trailingZeros8 3 : Nat) : Int)) 1 : Int) = 0 by decide +kernel), HB1.out⟩
set_option maxRecDepth 100000 in
set_option maxHeartbeats 2000000 in
theorem twos_4 (w : World) (u : Value) (h : Num w u 4) : Calls Tryz.prog 90 #[u, .int .i64 0] w (Gives w (.is (.int .i64 0))) := by
  obtain ⟨s, p, l, c, rfl, h⟩ := h
  have HB := Lib.hid (fun W a => nbytes_any 4 s p l c W a (by rw [ds_one (by decide)]; omega))
  rw [be_4] at HB
  have H := Lib.hid h; clear h
  go_enter Tryz.func90, Tryz.ntmps90
  go_wp2_with fail
  refine (HB.out _ (H.out.mono (below_alloc (Below.refl _ _) _))).mono ?_
  rintro e w1 ⟨b, off, c1, rfl, h1, _, h2, _, hb⟩
  have q0 : w1.cell? ⟨b, off, none⟩ = some (.int .u8 4) := h2 0 (by decide)
  have HB1 := Lib.hid (below_step (below_alloc (Below.refl w.heap.size w) _) hb)
  replace h1 : 1 ≤ c1 := h1
  clear h2 hb HB
  go_wp2_with fail
  refine wp_loop_rounds 2 ?_
  rw [rounds_succ]
  go_wp2_with fail
  refine (Tryz.bits_TrailingZeros8 4 _ (by decide) (by decide)).mono ?_
  rintro e w2 ⟨rfl, rfl⟩
  go_wp2
  go_ret
  exact ⟨_, rfl, congrArg (Value.int .i64) (show (min (wrap64 ((Lib.trailingZeros8 4 : Nat) : Int)) 0 : Int) = 0 by decide +kernel), HB1.out⟩
set_option maxRecDepth 100000 in
set_option maxHeartbeats 4000000 in
theorem near_72 (w : World) (u1 : Value)  (h1 : Means w (.that (fracS (mkRat 7 2))) u1) :
    Calls Tryz.prog 36 #[u1, .int .i64 0] w (Gives w (.that (fracS (4 : Rat)))) := by
  obtain ⟨g1, s1, p1, l1, c1, t1, q1, k1, d1, rfl, h1⟩ := h1
  have H1 := Lib.hid h1; clear h1
  go_enter Tryz.func36, Tryz.ntmps36
  have J := Frm.start (w := w) (V := []) fn
  refine wp_seq_h ?_; intro K1 hK1; go_wp2
  obtain ⟨W2, b2, eW2, eb2, sz2, J⟩ := Frm.putQ J rfl H1.out
  obtain ⟨W3, b3, eW3, eb3, sz3, J⟩ := Frm.putQ0 J sz2
  rw [← eW2, ← eW3, ← eb3, ← eb2]
  clear eW2 eb2 sz2 eW3 eb3 sz3
  refine hK1.out _ _ ?_; clear hK1
  refine region_c [11, 12, 13, 2] [.is (.int .i64 0), .is (.int .i64 0), .is (.int .i64 0), .is (.int .i64 0)] [] [] [] J ?_ ?_
  · refine .pl rfl (fun _ _ W Γ => ev_move _ (Γ.s rfl)) ?_
    refine .pl rfl (fun _ E W Γ => by
      have e1 : E (.tmp 10) = .int .i64 0 := (Γ.k 0 rfl)
      have hc := Γ.c
      exact Does.value (w' := W) (by go_simp <;> first | rfl | (rw [IntKind.wrap_i64]; omega)) ⟨rfl, Below.refl _ _⟩) ?_
    refine .pl rfl (fun _ E W Γ => by
      have e1 : E (.tmp 11) = .int .i64 0 := (Γ.k 1 rfl)
      have hc := Γ.c
      exact Does.value (w' := W) (by go_simp <;> first | rfl | (rw [IntKind.wrap_i64]; omega)) ⟨rfl, Below.refl _ _⟩) ?_
    refine .pl rfl (fun _ _ W Γ => ev_assign _ (Γ.k 2 rfl)) ?_
    exact .nil
  clear J; intro K4 hK4; simp only [fx]; intro _ f4 W4 J; refine hK4.out _ _ ?_; clear hK4
  refine region_c [15, 16, 17, 18, 19, 20, 21, 22, 14, 23, 24, 25, 6, 7, 0, 0, 8] [.is (.pointer (some ⟨b2, 0, none⟩)), .int 7, .num 7, .is (.int .i64 0), .num 7, .that (fracS (mkRat 7 2)), .num 2, .three (.num 3) (.num 1) (.is (.bool true)), .three (.num 3) (.num 1) (.is (.bool true)), .num 3, .num 1, .is (.bool true), .any, .any, .any, .any, .is (.bool true)] [] [⟨.nat, 12, 14, .num 3, .agg #[.int .u64 0, .slice none 0 0]⟩, ⟨.nat, 13, 15, .num 1, .agg #[.int .u64 0, .slice none 0 0]⟩] [] J ?_ ?_
  · refine .pl rfl (fun _ _ W Γ => ev_faQ0 (Γ.s rfl)) ?_
    refine .pl rfl (fun _ _ W Γ => ev_ldQ0v (Γ.k 0 rfl) (Γ.l 0 rfl) (by decide)) ?_
    refine .pl rfl (fun _ _ W Γ => ev_call1 (Γ.f _) run_iAbs (iAbs_want W _ 7 (Γ.w (d := 15) 1 rfl))) ?_
    refine .pl rfl (fun _ _ W Γ => ev_move _ (Γ.s rfl)) ?_
    refine .pl rfl (fun _ _ W Γ => ev_call2 (Γ.f _) run_nShift (by rw [(show _ = Value.int .i64 0 from (Γ.k (d := 17) 3 rfl))]; exact nShift_gives W _ 7 0 (by rw [ds_one (by decide)]; omega) (by decide) (Γ.w (d := 16) 2 rfl))) ?_
    refine .pl rfl (fun _ _ W Γ => ev_ldQ (Γ.s rfl) (Γ.l 0 rfl)) ?_
    refine .pl rfl (fun _ _ W Γ => ev_call1 (Γ.f _) run_qDen (qDen_val W _ (mkRat 7 2) 2 (by decide) (Γ.w (d := 19) 5 rfl))) ?_
    refine .pl rfl (fun _ _ W Γ => ev_call2 (Γ.f _) run_nDiv (nDiv_gives W _ _ 7 2 (by rw [ds_one (by decide)]; omega) (by decide) (Γ.w (d := 18) 4 rfl) (Γ.w (d := 20) 6 rfl))) ?_
    refine .pl rfl (fun _ _ W Γ => ev_moveM (Γ.w 7 rfl)) ?_
    refine .pl rfl (fun _ _ W Γ => ev_ex30 (Γ.w 8 rfl)) ?_
    refine .pl rfl (fun _ _ W Γ => ev_ex31 (Γ.w 8 rfl)) ?_
    refine .pl rfl (fun _ _ W Γ => ev_ex32 (Γ.w 8 rfl)) ?_
    refine .al 0 rfl rfl (fun _ _ => ev_alN) ?_
    refine .al 1 rfl rfl (fun _ _ => ev_alN) ?_
    refine .sn 0 rfl rfl (fun _ _ W Γ => ev_stN (Γ.q 0 rfl) (Γ.un 0 rfl) (Γ.w 9 rfl)) ?_
    refine .sn 1 rfl rfl (fun _ _ W Γ => ev_stN (Γ.q 1 rfl) (Γ.un 1 rfl) (Γ.w 10 rfl)) ?_
    refine .pl rfl (fun _ _ W Γ => ev_assign _ (Γ.k 11 rfl)) ?_
    exact .nil
  clear J; intro K5 hK5; simp only [fx]; intro β5 f5 W5 J; refine hK5.out _ _ ?_; clear hK5
  refine wp_seq_h ?_; intro K6 hK6
  refine region_c [26, 27] [.num 1, .is (.bool false)] [] [] [] J ?_ ?_
  · refine .pl rfl (fun _ _ W Γ => ev_ldN (Γ.s rfl) (Γ.l 3 rfl)) ?_
    refine .pl rfl (fun _ _ W Γ => ev_call1 (Γ.f _) run_qIsZero (qIsZero_val W _ 1 false (by decide) (Γ.w (d := 25) 0 rfl))) ?_
    exact .nil
  clear J; intro K7 hK7; simp only [fx]; intro _ f7 W7 J; refine hK7.out _ _ ?_; clear hK7
  refine wp_cond_false rfl ?_
  refine wp_skip ?_
  refine hK6.out _ _ ?_; clear hK6
  refine region_c [29, 30, 31, 32, 33, 9] [.num 1, .num 2, .that (fracS (mkRat 7 2)), .num 2, .is (.int .i64 0), .is (.int .i64 0)] [] [] [] J ?_ ?_
  · refine .pl rfl (fun _ _ W Γ => ev_ldN (Γ.s rfl) (Γ.l 3 rfl)) ?_
    refine .pl rfl (fun _ _ W Γ => ev_call2 (Γ.f _) run_nShift (by rw [Γ.c]; exact nShift_gives W _ 1 1 (by rw [ds_one (by decide)]; omega) (by decide) (Γ.w (d := 28) 0 rfl))) ?_
    refine .pl rfl (fun _ _ W Γ => ev_ldQ (Γ.s rfl) (Γ.l 0 rfl)) ?_
    refine .pl rfl (fun _ _ W Γ => ev_call1 (Γ.f _) run_qDen (qDen_val W _ (mkRat 7 2) 2 (by decide) (Γ.w (d := 30) 2 rfl))) ?_
    refine .pl rfl (fun _ _ W Γ => ev_call2 (Γ.f _) run_nCmp (nCmp_val W _ _ 2 2 0 (by decide) (by rw [ds_one (by decide)]; omega) (Γ.w (d := 29) 1 rfl) (Γ.w (d := 31) 3 rfl))) ?_
    refine .pl rfl (fun _ _ W Γ => ev_assign _ (Γ.k 4 rfl)) ?_
    exact .nil
  clear J; intro K8 hK8; simp only [fx]; intro _ f8 W8 J; refine hK8.out _ _ ?_; clear hK8
  refine wp_seq_h ?_; intro K9 hK9
  refine region_c [34, 35, 36, 37, 38, 39, 40, 41, 42, 43, 44] [.is (.int .i64 0), .is (.bool false), .is (.bool false), .is (.int .i64 0), .is (.bool true), .is (.bool true), .num 3, .is (.int .i64 0), .is (.bool true), .is (.bool true), .is (.bool true)] [] [] [] J ?_ ?_
  · refine .pl rfl (fun _ _ W Γ => ev_move _ (Γ.s rfl)) ?_
    refine .pl rfl (fun _ E W Γ => by
      have e1 : E (.tmp 33) = .int .i64 0 := (Γ.k 0 rfl)
      have hc := Γ.c
      exact Does.value (w' := W) (by go_simp <;> first | rfl | (rw [IntKind.wrap_i64]; omega)) ⟨rfl, Below.refl _ _⟩) ?_
    refine .pl rfl (fun _ _ W Γ => ev_move _ (Γ.k 1 rfl)) ?_
    refine .gu rfl rfl rfl rfl (fun _ _ W Γ => ev_move _ (Γ.s rfl)) ?_
    refine .gu rfl rfl rfl rfl (fun _ E W Γ => by
      have e1 : E (.tmp 36) = .int .i64 0 := (Γ.k 3 rfl)
      have hc := Γ.c
      exact Does.value (w' := W) (by go_simp <;> first | rfl | (rw [IntKind.wrap_i64]; omega)) ⟨rfl, Below.refl _ _⟩) ?_
    refine .gu rfl rfl rfl rfl (fun _ _ W Γ => ev_move _ (Γ.k 4 rfl)) ?_
    refine .gu rfl rfl rfl rfl (fun _ _ W Γ => ev_ldN (Γ.s rfl) (Γ.l 2 rfl)) ?_
    refine .gu rfl rfl rfl rfl (fun _ _ W Γ => ev_call2 (Γ.f _) run_qTwos (by rw [Γ.c]; exact twos_3 W _ (Γ.w (d := 39) 6 rfl))) ?_
    refine .gu rfl rfl rfl rfl (fun _ E W Γ => by
      have e1 : E (.tmp 40) = .int .i64 0 := (Γ.k 7 rfl)
      have hc := Γ.c
      exact Does.value (w' := W) (by go_simp <;> first | rfl | (rw [IntKind.wrap_i64]; omega)) ⟨rfl, Below.refl _ _⟩) ?_
    refine .gu rfl rfl rfl rfl (fun _ _ W Γ => ev_pick (Γ.k 5 rfl) (Γ.k 8 rfl)) ?_
    refine .pl rfl (fun _ _ W Γ => ev_pick (Γ.k 2 rfl) (Γ.k 9 rfl)) ?_
    exact .nil
  clear J; intro K10 hK10; simp only [fx]; intro _ f10 W10 J; refine hK10.out _ _ ?_; clear hK10
  refine wp_cond_true rfl ?_
  refine region_f [45, 46, 47, 0] [.num 3, .num 1, .num 4, .any] [none, none, some (3, .num 4)] [] [] J ?_ ?_
  · refine .pl rfl (fun _ _ W Γ => ev_ldN (Γ.s rfl) (Γ.u 2 rfl rfl).1) ?_
    refine .pl rfl (fun _ _ W Γ => ev_call1 (Γ.f _) run_Of (by rw [Γ.c]; exact of_gives 1 (by decide) W)) ?_
    refine .pl rfl (fun _ _ W Γ => ev_call2 (Γ.f _) run_nAdd (nAdd_gives W _ _ 3 1 (by rw [ds_one (by decide)]; omega) (by rw [ds_one (by decide)]; omega) (Γ.w (d := 44) 0 rfl) (Γ.w (d := 45) 1 rfl))) ?_
    refine .st 2 rfl rfl rfl (fun _ _ W Γ => ev_stN (Γ.s rfl) (Γ.u 2 rfl rfl) (Γ.w 2 rfl)) ?_
    exact .nil
  clear J; simp only [fx]; intro _ f11 W11 J
  refine hK9.out _ _ ?_; clear hK9
  refine region_c [48, 49, 50, 10] [.num 4, .is (.int .i64 0), .is (.int .i64 0), .is (.int .i64 0)] [] [] [] J ?_ ?_
  · refine .pl rfl (fun _ _ W Γ => ev_ldN (Γ.s rfl) (Γ.l 2 rfl)) ?_
    refine .pl rfl (fun _ _ W Γ => ev_move _ (Γ.s rfl)) ?_
    refine .pl rfl (fun _ _ W Γ => ev_call2 (Γ.f _) run_qTwos (by rw [(show _ = Value.int .i64 0 from (Γ.k (d := 48) 1 rfl))]; exact twos_4 W _ (Γ.w (d := 47) 0 rfl))) ?_
    refine .pl rfl (fun _ _ W Γ => ev_assign _ (Γ.k 2 rfl)) ?_
    exact .nil
  clear J; intro K12 hK12; simp only [fx]; intro _ f12 W12 J; refine hK12.out _ _ ?_; clear hK12
  refine region_c [51, 52, 53, 54, 55, 56, 57, 58, 59, 60, 61, 62, 63, 64, 0] [.that (fracS (mkRat 7 2)), .is (.int .i64 1), .is (.bool false), .num 4, .is (.int .i64 0), .is (.int .i64 0), .num 4, .int 4, .num 1, .is (.int .i64 0), .is (.int .i64 0), .is (.int .i64 0), .num 1, .that (fracS (4 : Rat)), .any] [none, some (14, .that (fracS (4 : Rat)))] [] [] J ?_ ?_
  · refine .pl rfl (fun _ _ W Γ => ev_ldQ (Γ.s rfl) (Γ.l 0 rfl)) ?_
    refine .pl rfl (fun _ _ W Γ => ev_call1 (Γ.f _) run_qSign (qSign_val W _ (mkRat 7 2) 1 (by decide) (Γ.w (d := 50) 0 rfl))) ?_
    refine .pl rfl (fun _ E W Γ => by
      have e1 : E (.tmp 51) = .int .i64 1 := (Γ.k 1 rfl)
      have hc := Γ.c
      exact Does.value (w' := W) (by go_simp <;> first | rfl | (rw [IntKind.wrap_i64]; omega)) ⟨rfl, Below.refl _ _⟩) ?_
    refine .pl rfl (fun _ _ W Γ => ev_ldN (Γ.s rfl) (Γ.l 2 rfl)) ?_
    refine .pl rfl (fun _ _ W Γ => ev_move _ (Γ.s rfl)) ?_
    refine .pl rfl (fun _ E W Γ => by
      have e1 : E (.tmp 54) = .int .i64 0 := (Γ.k 4 rfl)
      have hc := Γ.c
      exact Does.value (w' := W) (by go_simp <;> first | rfl | (rw [IntKind.wrap_i64]; omega)) ⟨rfl, Below.refl _ _⟩) ?_
    refine .pl rfl (fun _ _ W Γ => ev_call2 (Γ.f _) run_nShift (by rw [(show _ = Value.int .i64 0 from (Γ.k (d := 55) 5 rfl))]; exact nShift_gives W _ 4 0 (by rw [ds_one (by decide)]; omega) (by decide) (Γ.w (d := 53) 3 rfl))) ?_
    refine .pl rfl (fun _ _ W Γ => ev_call2 (Γ.f _) run_iFrom (by rw [(show _ = Value.bool false from (Γ.k (d := 52) 2 rfl))]; exact iFrom_want W _ false 4 (Γ.w (d := 56) 6 rfl))) ?_
    refine .pl rfl (fun _ _ W Γ => ev_call1 (Γ.f _) run_Of (by rw [Γ.c]; exact of_gives 1 (by decide) W)) ?_
    refine .pl rfl (fun _ _ W Γ => ev_move _ (Γ.s rfl)) ?_
    refine .pl rfl (fun _ _ W Γ => ev_move _ (Γ.s rfl)) ?_
    refine .pl rfl (fun _ E W Γ => by
      have e1 : E (.tmp 59) = .int .i64 0 := (Γ.k 9 rfl)
      have e2 : E (.tmp 60) = .int .i64 0 := (Γ.k 10 rfl)
      have hc := Γ.c
      exact Does.value (w' := W) (by go_simp <;> first | rfl | (rw [IntKind.wrap_i64]; omega)) ⟨rfl, Below.refl _ _⟩) ?_
    refine .pl rfl (fun _ _ W Γ => ev_call2 (Γ.f _) run_nShift (by rw [(show _ = Value.int .i64 0 from (Γ.k (d := 61) 11 rfl))]; exact nShift_gives W _ 1 0 (by rw [ds_one (by decide)]; omega) (by decide) (Γ.w (d := 58) 8 rfl))) ?_
    refine .pl rfl (fun _ _ W Γ => ev_call2 (Γ.f _) run_qOfLowest (qOfLowest_val W _ _ 4 1 (4 : Rat) (by decide) (by decide) (Γ.w (d := 57) 7 rfl) (Γ.w (d := 62) 12 rfl))) ?_
    refine .st 1 rfl rfl rfl (fun _ _ W Γ => ev_stQ (Γ.s rfl) (Γ.u 1 rfl rfl) (Γ.w 13 rfl)) ?_
    exact .nil
  clear J; intro K13 hK13; simp only [fx]; intro _ f13 W13 J; refine hK13.out _ _ ?_; clear hK13
  refine wp_ret ?_
  obtain ⟨u0, hx0, hm0⟩ := J.out.get 1 rfl
  obtain ⟨gr0, sr0, pr0, lr0, cr0, tr0, qr0, kr0, dr0, rfl, c0_0, c0_1, c0_2, c0_3, c0_4⟩ := hx0.frac
  exact bodyPost_ret (v := .agg #[.bool gr0, .int .u64 sr0, .slice pr0 lr0 cr0, .int .u64 tr0, .slice qr0 kr0 dr0]) (by simp [results, Tryz.results36, go_sem, c0_0, c0_1, c0_2, c0_3, c0_4]) rfl ⟨_, rfl, hm0, J.out.be⟩
set_option maxRecDepth 100000 in
set_option maxHeartbeats 4000000 in
theorem known3_gives (w : World) (mx : Int) (hM : w.cell? ⟨4, 0, none⟩ = some (.int .i64 mx)) (hT : Tab64 w)  :
    Calls Tryz.prog 9 #[] w (Gives w (.is (.bool true))) := by
  have MX := Lib.hid hM; clear hM
  have TB := Lib.hid hT; clear hT
  go_enter Tryz.func9, Tryz.ntmps9
  have J := Frm.start (w := w) (V := []) fn
  refine wp_seq_h ?_; intro K1 hK1; go_wp2
  refine hK1.out _ _ ?_; clear hK1
  refine region_c [7, 6, 8, 9, 2, 0, 3] [.two (.that (fracS (mkRat (-1) 2))) (.is (.bool true)), .two (.that (fracS (mkRat (-1) 2))) (.is (.bool true)), .that (fracS (mkRat (-1) 2)), .is (.bool true), .any, .any, .is (.bool true)] [] [⟨.frac, 4, 5, .that (fracS (mkRat (-1) 2)), .agg #[.bool false, .int .u64 0, .slice none 0 0, .int .u64 0, .slice none 0 0]⟩] [] J ?_ ?_
  · refine .pl rfl (fun _ _ W Γ => ev_call1 (Γ.f _) run_qParse (by rw [Γ.c]; exact parse_050 W mx (wcell Γ.be MX.out) (TB.out.mono Γ.be))) ?_
    refine .pl rfl (fun _ _ W Γ => ev_moveM (Γ.w 0 rfl)) ?_
    refine .pl rfl (fun _ _ W Γ => ev_ex20 (Γ.w 1 rfl)) ?_
    refine .pl rfl (fun _ _ W Γ => ev_ex21 (Γ.w 1 rfl)) ?_
    refine .al 0 rfl rfl (fun _ _ => ev_alQ) ?_
    refine .sn 0 rfl rfl (fun _ _ W Γ => ev_stQ (Γ.q 0 rfl) (Γ.un 0 rfl) (Γ.w 2 rfl)) ?_
    refine .pl rfl (fun _ _ W Γ => ev_assign _ (Γ.k 3 rfl)) ?_
    exact .nil
  clear J; intro K2 hK2; simp only [fx]; intro β2 f2 W2 J; refine hK2.out _ _ ?_; clear hK2
  refine region_c [11, 10, 12, 13, 4, 0, 5] [.two (.that (fracS (mkRat 7 2))) (.is (.bool true)), .two (.that (fracS (mkRat 7 2))) (.is (.bool true)), .that (fracS (mkRat 7 2)), .is (.bool true), .any, .any, .is (.bool true)] [] [⟨.frac, 4, 5, .that (fracS (mkRat 7 2)), .agg #[.bool false, .int .u64 0, .slice none 0 0, .int .u64 0, .slice none 0 0]⟩] [] J ?_ ?_
  · refine .pl rfl (fun _ _ W Γ => ev_call2 (Γ.f _) run_qOver (by rw [Γ.c, Γ.c]; exact over_72 W (TB.out.mono Γ.be))) ?_
    refine .pl rfl (fun _ _ W Γ => ev_moveM (Γ.w 0 rfl)) ?_
    refine .pl rfl (fun _ _ W Γ => ev_ex20 (Γ.w 1 rfl)) ?_
    refine .pl rfl (fun _ _ W Γ => ev_ex21 (Γ.w 1 rfl)) ?_
    refine .al 0 rfl rfl (fun _ _ => ev_alQ) ?_
    refine .sn 0 rfl rfl (fun _ _ W Γ => ev_stQ (Γ.q 0 rfl) (Γ.un 0 rfl) (Γ.w 2 rfl)) ?_
    refine .pl rfl (fun _ _ W Γ => ev_assign _ (Γ.k 3 rfl)) ?_
    exact .nil
  clear J; intro K3 hK3; simp only [fx]; intro β3 f3 W3 J; refine hK3.out _ _ ?_; clear hK3
  refine region_c [14, 15, 16, 17, 18, 19, 20, 21, 22, 23, 24, 25, 26, 27, 28, 1] [.is (.bool true), .is (.bool true), .that (fracS (mkRat (-1) 2)), .is (.string ⟨#[45, 49, 47, 50]⟩), .is (.bool true), .is (.bool true), .is (.bool true), .is (.bool true), .is (.bool true), .is (.bool true), .that (fracS (mkRat 7 2)), .that (fracS (4 : Rat)), .is (.string ⟨#[52]⟩), .is (.bool true), .is (.bool true), .is (.bool true)] [] [] [] J ?_ ?_
  · refine .pl rfl (fun _ _ W Γ => ev_move _ (Γ.s rfl)) ?_
    refine .pl rfl (fun _ _ W Γ => ev_move _ (Γ.k 0 rfl)) ?_
    refine .gu rfl rfl rfl rfl (fun _ _ W Γ => ev_ldQ (Γ.s rfl) (Γ.l 0 rfl)) ?_
    refine .gu rfl rfl rfl rfl (fun _ _ W Γ => ev_call1 (Γ.f _) run_qText (text_half W _ (Γ.w (d := 15) 2 rfl))) ?_
    refine .gu rfl rfl rfl rfl (fun _ E W Γ => by
      have e1 : E (.tmp 16) = .string ⟨#[45, 49, 47, 50]⟩ := (Γ.k 3 rfl)
      have hc := Γ.c
      exact Does.value (w' := W) (by go_simp <;> first | rfl | (rw [IntKind.wrap_i64]; omega)) ⟨rfl, Below.refl _ _⟩) ?_
    refine .pl rfl (fun _ _ W Γ => ev_pick (Γ.k 1 rfl) (Γ.k 4 rfl)) ?_
    refine .pl rfl (fun _ _ W Γ => ev_move _ (Γ.k 5 rfl)) ?_
    refine .gu rfl rfl rfl rfl (fun _ _ W Γ => ev_move _ (Γ.s rfl)) ?_
    refine .pl rfl (fun _ _ W Γ => ev_pick (Γ.k 6 rfl) (Γ.k 7 rfl)) ?_
    refine .pl rfl (fun _ _ W Γ => ev_move _ (Γ.k 8 rfl)) ?_
    refine .gu rfl rfl rfl rfl (fun _ _ W Γ => ev_ldQ (Γ.s rfl) (Γ.l 1 rfl)) ?_
    refine .gu rfl rfl rfl rfl (fun _ _ W Γ => ev_call2 (Γ.f _) run_qNear (by rw [Γ.c]; exact near_72 W _ (Γ.w (d := 23) 10 rfl))) ?_
    refine .gu rfl rfl rfl rfl (fun _ _ W Γ => ev_call1 (Γ.f _) run_qText (text_4 W _ (Γ.w (d := 24) 11 rfl))) ?_
    refine .gu rfl rfl rfl rfl (fun _ E W Γ => by
      have e1 : E (.tmp 25) = .string ⟨#[52]⟩ := (Γ.k 12 rfl)
      have hc := Γ.c
      exact Does.value (w' := W) (by go_simp <;> first | rfl | (rw [IntKind.wrap_i64]; omega)) ⟨rfl, Below.refl _ _⟩) ?_
    refine .pl rfl (fun _ _ W Γ => ev_pick (Γ.k 9 rfl) (Γ.k 13 rfl)) ?_
    refine .pl rfl (fun _ _ W Γ => ev_assign _ (Γ.k 14 rfl)) ?_
    exact .nil
  clear J; intro K4 hK4; simp only [fx]; intro _ f4 W4 J; refine hK4.out _ _ ?_; clear hK4
  refine wp_ret ?_
  exact bodyPost_ret (v := .bool true) (by simp [results, Tryz.results9, go_sem]) rfl ⟨_, rfl, rfl, J.out.be⟩
end Go.Proofs.YtjhjlecnjkjbbaaGreatDoor
