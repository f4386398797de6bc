/- The document's integer of any text. -/
import Derived.Test.YtfjjmhbffbhhdaaGreatDoorWTxt
namespace Go.Proofs.YtfjjmhbffbhhdaaGreatDoor
open Go.RowKit

section
variable {E : Operand → Value} {w : World} {d : Option Tmp} {ty : TypeId} {pos : String} {af : Array Edge} {gd : Option (Nat × Bool)}
theorem ev_eqlU8 {x y : Operand} {a b : Int} (h1 : E x = .int .u8 a) (h2 : E y = .int .u8 b) {v : Bool} (hv : (a == b) = v) : Does Tryz.prog ⟨d, .binOp .eql 5 x y 5, ty, pos, af, gd⟩ E w fun v' w' => v' = .bool v ∧ Below w.heap.size w w' :=
  Does.value (w' := w) (by go_simp) ⟨congrArg Value.bool hv, Below.refl _ _⟩
end
set_option maxRecDepth 100000 in
set_option maxHeartbeats 4000000 in
theorem riparse_e (w : World) (s : ByteArray) (h0 : s.size = 0) (hmax : s.size ≤ 9223372036854775807) (hr : ∀ w, Calls Tryz.prog 23 #[.string s] w (Gives w (.two (.rnum 0) (.is (.bool false)))))  :
    Calls Tryz.prog 6 #[.string s] w (Gives w (.two (.rint 0) (.is (.bool false)))) := by
  have HS0 := Lib.hid h0; have HMX := Lib.hid hmax; have HPR := Lib.hid hr; clear hmax hr
  clear h0
  go_enter Tryz.func6, Tryz.ntmps6
  have J := Frm.start (w := w) (V := []) fn
  refine wp_seq_h ?_; intro K1 hK1; go_wp2
  obtain ⟨W2, b2, eW2, eb2, sz2, J⟩ := Frm.putR0 J rfl
  rw [← eW2, ← eb2]
  clear eW2 eb2 sz2
  refine hK1.out _ _ ?_; clear hK1
  refine region_c [8, 9, 10, 11, 12, 13, 14, 15, 5] [.is (.string s), .is (.int .i64 ((s.size : Nat) : Int)), .is (.bool false), .is (.bool false), .is undef, .is undef, .is undef, .is (.bool false), .is (.bool false)] [] [] [] J ?_ ?_
  · refine .pl rfl (fun _ _ W Γ => ev_move _ (Γ.s rfl)) ?_
    refine .pl rfl (fun _ E W Γ => by
      have e1 : E (.tmp 7) = .string s := (Γ.k 0 rfl)
      have hc := Γ.c
      exact Does.value (w' := W) (by go_simp <;> first | rfl | (rw [IntKind.wrap_i64]; omega)) ⟨rfl, Below.refl _ _⟩) ?_
    refine .pl rfl (fun _ _ W Γ => ev_gtr (Γ.k 1 rfl) (Γ.c _) (decide_eq_false (by have := HS0.out; omega))) ?_
    refine .pl rfl (fun _ _ W Γ => ev_move _ (Γ.k 2 rfl)) ?_
    refine .off rfl rfl rfl rfl ?_
    refine .off rfl rfl rfl rfl ?_
    refine .off rfl rfl rfl rfl ?_
    refine .pl rfl (fun _ _ W Γ => ev_pick (Γ.k 3 rfl) (Γ.c _)) ?_
    refine .pl rfl (fun _ _ W Γ => ev_assign _ (Γ.k 7 rfl)) ?_
    exact .nil
  clear J; intro K3 hK3; simp only [fx]; intro _ f3 W3 J; refine hK3.out _ _ ?_; clear hK3
  refine wp_seq_h ?_; intro K4 hK4
  refine region_c [16] [.is (.bool false)] [] [] [] J ?_ ?_
  · refine .pl rfl (fun _ _ W Γ => ev_move _ (Γ.s rfl)) ?_
    exact .nil
  clear J; intro K5 hK5; simp only [fx]; intro _ f5 W5 J; refine hK5.out _ _ ?_; clear hK5
  refine wp_cond_false rfl ?_
  refine wp_skip ?_
  refine hK4.out _ _ ?_; clear hK4
  refine region_c [20, 21, 19, 22, 23, 6, 7] [.is (.string s), .two (.rnum 0) (.is (.bool false)), .two (.rnum 0) (.is (.bool false)), .rnum 0, .is (.bool false), .rnum 0, .is (.bool false)] [] [] [(5, 5)] J ?_ ?_
  · refine .pl rfl (fun _ _ W Γ => ev_move _ (Γ.s rfl)) ?_
    refine .pl rfl (fun _ _ W Γ => ev_call1 (Γ.f _) run_rParse (by rw [(show _ = Value.string s from (Γ.k (d := 19) 0 rfl))]; exact HPR.out W)) ?_
    refine .pl rfl (fun _ _ W Γ => ev_moveM (Γ.w 1 rfl)) ?_
    refine .pl rfl (fun _ _ W Γ => ev_ex20 (Γ.w 2 rfl)) ?_
    refine .pl rfl (fun _ _ W Γ => ev_ex21 (Γ.w 2 rfl)) ?_
    refine .pl rfl (fun _ _ W Γ => ev_assignM (Γ.w 3 rfl)) ?_
    refine .pl rfl (fun _ _ W Γ => ev_assign _ (Γ.k 4 rfl)) ?_
    exact .nil
  clear J; intro K6 hK6; simp only [fx]; intro _ f6 W6 J; refine hK6.out _ _ ?_; clear hK6
  refine wp_seq_h ?_; intro K7 hK7
  refine region_c [24, 25, 26, 27, 28, 29, 30, 31, 32, 33] [.is (.bool false), .is (.bool true), .is (.bool true), .is undef, .is undef, .is undef, .is undef, .is undef, .is undef, .is (.bool true)] [] [] [] J ?_ ?_
  · refine .pl rfl (fun _ _ W Γ => ev_move _ (Γ.s rfl)) ?_
    refine .pl rfl (fun _ _ W Γ => ev_not (Γ.k 0 rfl) rfl) ?_
    refine .pl rfl (fun _ _ W Γ => ev_move _ (Γ.k 1 rfl)) ?_
    refine .off rfl rfl rfl rfl ?_
    refine .off rfl rfl rfl rfl ?_
    refine .offu rfl rfl rfl rfl ?_
    refine .offu rfl rfl rfl rfl ?_
    refine .offu rfl rfl rfl rfl ?_
    refine .off rfl rfl rfl rfl ?_
    refine .pl rfl (fun _ _ W Γ => ev_pick (Γ.k 2 rfl) (Γ.c _)) ?_
    exact .nil
  clear J; intro K8 hK8; simp only [fx]; intro _ f8 W8 J; refine hK8.out _ _ ?_; clear hK8
  refine wp_cond_true rfl ?_
  refine region_c [34, 0, 4] [.rint 0, .any, .is (.bool false)] [some (1, .rint 0)] [] [] J ?_ ?_
  · refine .pl rfl (fun _ _ W Γ => ev_zeroR) ?_
    refine .st 0 rfl rfl rfl (fun _ _ W Γ => ev_stR (Γ.s rfl) (Γ.u 0 rfl rfl) (Γ.w 0 rfl)) ?_
    refine .pl rfl (fun _ _ W Γ => ev_assign _ (Γ.c _)) ?_
    exact .nil
  clear J; intro K9 hK9; simp only [fx]; intro _ f9 W9 J; refine hK9.out _ _ ?_; clear hK9
  refine wp_ret ?_
  obtain ⟨u0, hx0, hm0⟩ := J.out.get 0 rfl
  obtain ⟨gr0, pr0, lr0, cr0, rfl, c0_0, c0_1⟩ := hx0.rint
  exact bodyPost_ret (v := .tuple #[.agg #[.bool gr0, .slice pr0 lr0 cr0], .bool false]) (by simp [results, Tryz.results6, go_sem, c0_0, c0_1]) rfl ⟨_, rfl, ⟨_, _, rfl, hm0, rfl⟩, J.out.be⟩
set_option maxRecDepth 100000 in
set_option maxHeartbeats 4000000 in
theorem riparse_px (w : World) (s : ByteArray) (y : Nat) (h0 : 0 < s.size) (hy : (s[0]'h0).toNat = y) (hyb : ((y : Int) == 45) = false) (hmax : s.size ≤ 9223372036854775807) (hr : ∀ w, Calls Tryz.prog 23 #[.string s] w (Gives w (.two (.rnum 0) (.is (.bool false)))))  :
    Calls Tryz.prog 6 #[.string s] w (Gives w (.two (.rint 0) (.is (.bool false)))) := by
  have HS0 := Lib.hid h0; have HMX := Lib.hid hmax; have HPR := Lib.hid hr; clear hmax hr
  have HY := Lib.hid hy; have HYB := Lib.hid hyb; clear hy hyb
  go_enter Tryz.func6, Tryz.ntmps6
  have J := Frm.start (w := w) (V := []) fn
  refine wp_seq_h ?_; intro K1 hK1; go_wp2
  obtain ⟨W2, b2, eW2, eb2, sz2, J⟩ := Frm.putR0 J rfl
  rw [← eW2, ← eb2]
  clear eW2 eb2 sz2
  refine hK1.out _ _ ?_; clear hK1
  refine region_c [8, 9, 10, 11, 12, 13, 14, 15, 5] [.is (.string s), .is (.int .i64 ((s.size : Nat) : Int)), .is (.bool true), .is (.bool true), .is (.string s), .is (.int .u8 ((y : Nat) : Int)), .is (.bool false), .is (.bool false), .is (.bool false)] [] [] [] J ?_ ?_
  · refine .pl rfl (fun _ _ W Γ => ev_move _ (Γ.s rfl)) ?_
    refine .pl rfl (fun _ E W Γ => by
      have e1 : E (.tmp 7) = .string s := (Γ.k 0 rfl)
      have hc := Γ.c
      exact Does.value (w' := W) (by go_simp <;> first | rfl | (rw [IntKind.wrap_i64]; omega)) ⟨rfl, Below.refl _ _⟩) ?_
    refine .pl rfl (fun _ _ W Γ => ev_gtr (Γ.k 1 rfl) (Γ.c _) (decide_eq_true (by have := HS0.out; omega))) ?_
    refine .pl rfl (fun _ _ W Γ => ev_move _ (Γ.k 2 rfl)) ?_
    refine .gu rfl rfl rfl rfl (fun _ _ W Γ => ev_move _ (Γ.s rfl)) ?_
    refine .gu rfl rfl rfl rfl (fun _ E W Γ => by
      have e1 : E (.tmp 11) = .string s := (Γ.k 4 rfl)
      have hc := Γ.c
      have hy := HY.out
      exact Does.value (w' := W) (by go_simp) ⟨rfl, Below.refl _ _⟩) ?_
    refine .gu rfl rfl rfl rfl (fun _ _ W Γ => ev_eqlU8 (Γ.k 5 rfl) (Γ.c _) HYB.out) ?_
    refine .pl rfl (fun _ _ W Γ => ev_pick (Γ.k 3 rfl) (Γ.k 6 rfl)) ?_
    refine .pl rfl (fun _ _ W Γ => ev_assign _ (Γ.k 7 rfl)) ?_
    exact .nil
  clear J; intro K3 hK3; simp only [fx]; intro _ f3 W3 J; refine hK3.out _ _ ?_; clear hK3
  refine wp_seq_h ?_; intro K4 hK4
  refine region_c [16] [.is (.bool false)] [] [] [] J ?_ ?_
  · refine .pl rfl (fun _ _ W Γ => ev_move _ (Γ.s rfl)) ?_
    exact .nil
  clear J; intro K5 hK5; simp only [fx]; intro _ f5 W5 J; refine hK5.out _ _ ?_; clear hK5
  refine wp_cond_false rfl ?_
  refine wp_skip ?_
  refine hK4.out _ _ ?_; clear hK4
  refine region_c [20, 21, 19, 22, 23, 6, 7] [.is (.string s), .two (.rnum 0) (.is (.bool false)), .two (.rnum 0) (.is (.bool false)), .rnum 0, .is (.bool false), .rnum 0, .is (.bool false)] [] [] [(5, 5)] J ?_ ?_
  · refine .pl rfl (fun _ _ W Γ => ev_move _ (Γ.s rfl)) ?_
    refine .pl rfl (fun _ _ W Γ => ev_call1 (Γ.f _) run_rParse (by rw [(show _ = Value.string s from (Γ.k (d := 19) 0 rfl))]; exact HPR.out W)) ?_
    refine .pl rfl (fun _ _ W Γ => ev_moveM (Γ.w 1 rfl)) ?_
    refine .pl rfl (fun _ _ W Γ => ev_ex20 (Γ.w 2 rfl)) ?_
    refine .pl rfl (fun _ _ W Γ => ev_ex21 (Γ.w 2 rfl)) ?_
    refine .pl rfl (fun _ _ W Γ => ev_assignM (Γ.w 3 rfl)) ?_
    refine .pl rfl (fun _ _ W Γ => ev_assign _ (Γ.k 4 rfl)) ?_
    exact .nil
  clear J; intro K6 hK6; simp only [fx]; intro _ f6 W6 J; refine hK6.out _ _ ?_; clear hK6
  refine wp_seq_h ?_; intro K7 hK7
  refine region_c [24, 25, 26, 27, 28, 29, 30, 31, 32, 33] [.is (.bool false), .is (.bool true), .is (.bool true), .is undef, .is undef, .is undef, .is undef, .is undef, .is undef, .is (.bool true)] [] [] [] J ?_ ?_
  · refine .pl rfl (fun _ _ W Γ => ev_move _ (Γ.s rfl)) ?_
    refine .pl rfl (fun _ _ W Γ => ev_not (Γ.k 0 rfl) rfl) ?_
    refine .pl rfl (fun _ _ W Γ => ev_move _ (Γ.k 1 rfl)) ?_
    refine .off rfl rfl rfl rfl ?_
    refine .off rfl rfl rfl rfl ?_
    refine .offu rfl rfl rfl rfl ?_
    refine .offu rfl rfl rfl rfl ?_
    refine .offu rfl rfl rfl rfl ?_
    refine .off rfl rfl rfl rfl ?_
    refine .pl rfl (fun _ _ W Γ => ev_pick (Γ.k 2 rfl) (Γ.c _)) ?_
    exact .nil
  clear J; intro K8 hK8; simp only [fx]; intro _ f8 W8 J; refine hK8.out _ _ ?_; clear hK8
  refine wp_cond_true rfl ?_
  refine region_c [34, 0, 4] [.rint 0, .any, .is (.bool false)] [some (1, .rint 0)] [] [] J ?_ ?_
  · refine .pl rfl (fun _ _ W Γ => ev_zeroR) ?_
    refine .st 0 rfl rfl rfl (fun _ _ W Γ => ev_stR (Γ.s rfl) (Γ.u 0 rfl rfl) (Γ.w 0 rfl)) ?_
    refine .pl rfl (fun _ _ W Γ => ev_assign _ (Γ.c _)) ?_
    exact .nil
  clear J; intro K9 hK9; simp only [fx]; intro _ f9 W9 J; refine hK9.out _ _ ?_; clear hK9
  refine wp_ret ?_
  obtain ⟨u0, hx0, hm0⟩ := J.out.get 0 rfl
  obtain ⟨gr0, pr0, lr0, cr0, rfl, c0_0, c0_1⟩ := hx0.rint
  exact bodyPost_ret (v := .tuple #[.agg #[.bool gr0, .slice pr0 lr0 cr0], .bool false]) (by simp [results, Tryz.results6, go_sem, c0_0, c0_1]) rfl ⟨_, rfl, ⟨_, _, rfl, hm0, rfl⟩, J.out.be⟩
set_option maxRecDepth 100000 in
set_option maxHeartbeats 4000000 in
theorem riparse_po (w : World) (s : ByteArray) (v : Nat) (y : Nat) (h0 : 0 < s.size) (hy : (s[0]'h0).toNat = y) (hyb : ((y : Int) == 45) = false) (hmax : s.size ≤ 9223372036854775807) (hr : ∀ w, Calls Tryz.prog 23 #[.string s] w (Gives w (.two (.rnum v) (.is (.bool true)))))  :
    Calls Tryz.prog 6 #[.string s] w (Gives w (.two (.rint (v : Int)) (.is (.bool true)))) := by
  have HS0 := Lib.hid h0; have HMX := Lib.hid hmax; have HPR := Lib.hid hr; clear hmax hr
  have HY := Lib.hid hy; have HYB := Lib.hid hyb; clear hy hyb
  have HSG : Hid (sgn false v = (v : Int)) := Lib.hid (by simp [sgn])
  go_enter Tryz.func6, Tryz.ntmps6
  have J := Frm.start (w := w) (V := []) fn
  refine wp_seq_h ?_; intro K1 hK1; go_wp2
  obtain ⟨W2, b2, eW2, eb2, sz2, J⟩ := Frm.putR0 J rfl
  rw [← eW2, ← eb2]
  clear eW2 eb2 sz2
  refine hK1.out _ _ ?_; clear hK1
  refine region_c [8, 9, 10, 11, 12, 13, 14, 15, 5] [.is (.string s), .is (.int .i64 ((s.size : Nat) : Int)), .is (.bool true), .is (.bool true), .is (.string s), .is (.int .u8 ((y : Nat) : Int)), .is (.bool false), .is (.bool false), .is (.bool false)] [] [] [] J ?_ ?_
  · refine .pl rfl (fun _ _ W Γ => ev_move _ (Γ.s rfl)) ?_
    refine .pl rfl (fun _ E W Γ => by
      have e1 : E (.tmp 7) = .string s := (Γ.k 0 rfl)
      have hc := Γ.c
      exact Does.value (w' := W) (by go_simp <;> first | rfl | (rw [IntKind.wrap_i64]; omega)) ⟨rfl, Below.refl _ _⟩) ?_
    refine .pl rfl (fun _ _ W Γ => ev_gtr (Γ.k 1 rfl) (Γ.c _) (decide_eq_true (by have := HS0.out; omega))) ?_
    refine .pl rfl (fun _ _ W Γ => ev_move _ (Γ.k 2 rfl)) ?_
    refine .gu rfl rfl rfl rfl (fun _ _ W Γ => ev_move _ (Γ.s rfl)) ?_
    refine .gu rfl rfl rfl rfl (fun _ E W Γ => by
      have e1 : E (.tmp 11) = .string s := (Γ.k 4 rfl)
      have hc := Γ.c
      have hy := HY.out
      exact Does.value (w' := W) (by go_simp) ⟨rfl, Below.refl _ _⟩) ?_
    refine .gu rfl rfl rfl rfl (fun _ _ W Γ => ev_eqlU8 (Γ.k 5 rfl) (Γ.c _) HYB.out) ?_
    refine .pl rfl (fun _ _ W Γ => ev_pick (Γ.k 3 rfl) (Γ.k 6 rfl)) ?_
    refine .pl rfl (fun _ _ W Γ => ev_assign _ (Γ.k 7 rfl)) ?_
    exact .nil
  clear J; intro K3 hK3; simp only [fx]; intro _ f3 W3 J; refine hK3.out _ _ ?_; clear hK3
  refine wp_seq_h ?_; intro K4 hK4
  refine region_c [16] [.is (.bool false)] [] [] [] J ?_ ?_
  · refine .pl rfl (fun _ _ W Γ => ev_move _ (Γ.s rfl)) ?_
    exact .nil
  clear J; intro K5 hK5; simp only [fx]; intro _ f5 W5 J; refine hK5.out _ _ ?_; clear hK5
  refine wp_cond_false rfl ?_
  refine wp_skip ?_
  refine hK4.out _ _ ?_; clear hK4
  refine region_c [20, 21, 19, 22, 23, 6, 7] [.is (.string s), .two (.rnum v) (.is (.bool true)), .two (.rnum v) (.is (.bool true)), .rnum v, .is (.bool true), .rnum v, .is (.bool true)] [] [] [(5, 5)] J ?_ ?_
  · refine .pl rfl (fun _ _ W Γ => ev_move _ (Γ.s rfl)) ?_
    refine .pl rfl (fun _ _ W Γ => ev_call1 (Γ.f _) run_rParse (by rw [(show _ = Value.string s from (Γ.k (d := 19) 0 rfl))]; exact HPR.out W)) ?_
    refine .pl rfl (fun _ _ W Γ => ev_moveM (Γ.w 1 rfl)) ?_
    refine .pl rfl (fun _ _ W Γ => ev_ex20 (Γ.w 2 rfl)) ?_
    refine .pl rfl (fun _ _ W Γ => ev_ex21 (Γ.w 2 rfl)) ?_
    refine .pl rfl (fun _ _ W Γ => ev_assignM (Γ.w 3 rfl)) ?_
    refine .pl rfl (fun _ _ W Γ => ev_assign _ (Γ.k 4 rfl)) ?_
    exact .nil
  clear J; intro K6 hK6; simp only [fx]; intro _ f6 W6 J; refine hK6.out _ _ ?_; clear hK6
  refine wp_seq_h ?_; intro K7 hK7
  refine region_c [24, 25, 26, 27, 28, 29, 30, 31, 32, 33] [.is (.bool true), .is (.bool false), .is (.bool false), .is (.bool false), .is (.bool false), .is undef, .is undef, .is undef, .is (.bool false), .is (.bool false)] [] [] [] J ?_ ?_
  · refine .pl rfl (fun _ _ W Γ => ev_move _ (Γ.s rfl)) ?_
    refine .pl rfl (fun _ _ W Γ => ev_not (Γ.k 0 rfl) rfl) ?_
    refine .pl rfl (fun _ _ W Γ => ev_move _ (Γ.k 1 rfl)) ?_
    refine .gu rfl rfl rfl rfl (fun _ _ W Γ => ev_move _ (Γ.s rfl)) ?_
    refine .gu rfl rfl rfl rfl (fun _ _ W Γ => ev_move _ (Γ.k 3 rfl)) ?_
    refine .off rfl rfl rfl rfl ?_
    refine .off rfl rfl rfl rfl ?_
    refine .off rfl rfl rfl rfl ?_
    refine .gu rfl rfl rfl rfl (fun _ _ W Γ => ev_pick (Γ.k 4 rfl) (Γ.c _)) ?_
    refine .pl rfl (fun _ _ W Γ => ev_pick (Γ.k 2 rfl) (Γ.k 8 rfl)) ?_
    exact .nil
  clear J; intro K8 hK8; simp only [fx]; intro _ f8 W8 J; refine hK8.out _ _ ?_; clear hK8
  refine wp_cond_false rfl ?_
  refine wp_skip ?_
  refine hK7.out _ _ ?_; clear hK7
  refine region_c [35, 36, 37, 0, 4] [.is (.bool false), .rnum v, .rint (v : Int), .any, .is (.bool true)] [some (3, .rint (v : Int))] [] [] J ?_ ?_
  · refine .pl rfl (fun _ _ W Γ => ev_move _ (Γ.s rfl)) ?_
    refine .pl rfl (fun _ _ W Γ => ev_moveM (Γ.m 0 rfl rfl)) ?_
    refine .pl rfl (fun _ _ W Γ => ev_call2 (Γ.f _) run_rI (by rw [(show _ = Value.bool false from (Γ.k (d := 34) 0 rfl))]; exact rI_gives W _ _ v (v : Int) HSG.out (Γ.w (d := 35) 1 rfl))) ?_
    refine .st 0 rfl rfl rfl (fun _ _ W Γ => ev_stR (Γ.s rfl) (Γ.u 0 rfl rfl) (Γ.w 2 rfl)) ?_
    refine .pl rfl (fun _ _ W Γ => ev_assign _ (Γ.c _)) ?_
    exact .nil
  clear J; intro K9 hK9; simp only [fx]; intro _ f9 W9 J; refine hK9.out _ _ ?_; clear hK9
  refine wp_ret ?_
  obtain ⟨u0, hx0, hm0⟩ := J.out.get 0 rfl
  obtain ⟨gr0, pr0, lr0, cr0, rfl, c0_0, c0_1⟩ := hx0.rint
  exact bodyPost_ret (v := .tuple #[.agg #[.bool gr0, .slice pr0 lr0 cr0], .bool true]) (by simp [results, Tryz.results6, go_sem, c0_0, c0_1]) rfl ⟨_, rfl, ⟨_, _, rfl, hm0, rfl⟩, J.out.be⟩
set_option maxRecDepth 100000 in
set_option maxHeartbeats 4000000 in
theorem riparse_nx (w : World) (s : ByteArray) (y : Nat) (h0 : 0 < s.size) (hy : (s[0]'h0).toNat = y) (hyb : ((y : Int) == 45) = true) (hmax : s.size ≤ 9223372036854775807) (hr : ∀ w, Calls Tryz.prog 23 #[.string (s.extract 1 s.size)] w (Gives w (.two (.rnum 0) (.is (.bool false)))))  :
    Calls Tryz.prog 6 #[.string s] w (Gives w (.two (.rint 0) (.is (.bool false)))) := by
  have HS0 := Lib.hid h0; have HMX := Lib.hid hmax; have HPR := Lib.hid hr; clear hmax hr
  have HY := Lib.hid hy; have HYB := Lib.hid hyb; clear hy hyb
  go_enter Tryz.func6, Tryz.ntmps6
  have J := Frm.start (w := w) (V := []) fn
  refine wp_seq_h ?_; intro K1 hK1; go_wp2
  obtain ⟨W2, b2, eW2, eb2, sz2, J⟩ := Frm.putR0 J rfl
  rw [← eW2, ← eb2]
  clear eW2 eb2 sz2
  refine hK1.out _ _ ?_; clear hK1
  refine region_c [8, 9, 10, 11, 12, 13, 14, 15, 5] [.is (.string s), .is (.int .i64 ((s.size : Nat) : Int)), .is (.bool true), .is (.bool true), .is (.string s), .is (.int .u8 ((y : Nat) : Int)), .is (.bool true), .is (.bool true), .is (.bool true)] [] [] [] J ?_ ?_
  · refine .pl rfl (fun _ _ W Γ => ev_move _ (Γ.s rfl)) ?_
    refine .pl rfl (fun _ E W Γ => by
      have e1 : E (.tmp 7) = .string s := (Γ.k 0 rfl)
      have hc := Γ.c
      exact Does.value (w' := W) (by go_simp <;> first | rfl | (rw [IntKind.wrap_i64]; omega)) ⟨rfl, Below.refl _ _⟩) ?_
    refine .pl rfl (fun _ _ W Γ => ev_gtr (Γ.k 1 rfl) (Γ.c _) (decide_eq_true (by have := HS0.out; omega))) ?_
    refine .pl rfl (fun _ _ W Γ => ev_move _ (Γ.k 2 rfl)) ?_
    refine .gu rfl rfl rfl rfl (fun _ _ W Γ => ev_move _ (Γ.s rfl)) ?_
    refine .gu rfl rfl rfl rfl (fun _ E W Γ => by
      have e1 : E (.tmp 11) = .string s := (Γ.k 4 rfl)
      have hc := Γ.c
      have hy := HY.out
      exact Does.value (w' := W) (by go_simp) ⟨rfl, Below.refl _ _⟩) ?_
    refine .gu rfl rfl rfl rfl (fun _ _ W Γ => ev_eqlU8 (Γ.k 5 rfl) (Γ.c _) HYB.out) ?_
    refine .pl rfl (fun _ _ W Γ => ev_pick (Γ.k 3 rfl) (Γ.k 6 rfl)) ?_
    refine .pl rfl (fun _ _ W Γ => ev_assign _ (Γ.k 7 rfl)) ?_
    exact .nil
  clear J; intro K3 hK3; simp only [fx]; intro _ f3 W3 J; refine hK3.out _ _ ?_; clear hK3
  refine wp_seq_h ?_; intro K4 hK4
  refine region_c [16] [.is (.bool true)] [] [] [] J ?_ ?_
  · refine .pl rfl (fun _ _ W Γ => ev_move _ (Γ.s rfl)) ?_
    exact .nil
  clear J; intro K5 hK5; simp only [fx]; intro _ f5 W5 J; refine hK5.out _ _ ?_; clear hK5
  refine wp_cond_true rfl ?_
  refine region_f [17, 18, 1] [.is (.string s), .is (.string (s.extract 1 s.size)), .is (.string (s.extract 1 s.size))] [] [] [] J ?_ ?_
  · refine .pl rfl (fun _ _ W Γ => ev_move _ (Γ.s rfl)) ?_
    refine .pl rfl (fun _ E W Γ => by
      have e1 : E (.tmp 16) = .string s := (Γ.k 0 rfl)
      have hc := Γ.c
      have h1 : 1 ≤ s.size := h0
      have h2 : ¬ ((s.size : Nat) : Int) < 1 := by omega
      exact Does.value (w' := W) (by go_simp) ⟨rfl, Below.refl _ _⟩) ?_
    refine .pl rfl (fun _ _ W Γ => ev_assign _ (Γ.k 1 rfl)) ?_
    exact .nil
  clear J; simp only [fx]; intro _ f6 W6 J
  refine hK4.out _ _ ?_; clear hK4
  refine region_c [20, 21, 19, 22, 23, 6, 7] [.is (.string (s.extract 1 s.size)), .two (.rnum 0) (.is (.bool false)), .two (.rnum 0) (.is (.bool false)), .rnum 0, .is (.bool false), .rnum 0, .is (.bool false)] [] [] [(5, 5)] J ?_ ?_
  · refine .pl rfl (fun _ _ W Γ => ev_move _ (Γ.s rfl)) ?_
    refine .pl rfl (fun _ _ W Γ => ev_call1 (Γ.f _) run_rParse (by rw [(show _ = Value.string (s.extract 1 s.size) from (Γ.k (d := 19) 0 rfl))]; exact HPR.out W)) ?_
    refine .pl rfl (fun _ _ W Γ => ev_moveM (Γ.w 1 rfl)) ?_
    refine .pl rfl (fun _ _ W Γ => ev_ex20 (Γ.w 2 rfl)) ?_
    refine .pl rfl (fun _ _ W Γ => ev_ex21 (Γ.w 2 rfl)) ?_
    refine .pl rfl (fun _ _ W Γ => ev_assignM (Γ.w 3 rfl)) ?_
    refine .pl rfl (fun _ _ W Γ => ev_assign _ (Γ.k 4 rfl)) ?_
    exact .nil
  clear J; intro K7 hK7; simp only [fx]; intro _ f7 W7 J; refine hK7.out _ _ ?_; clear hK7
  refine wp_seq_h ?_; intro K8 hK8
  refine region_c [24, 25, 26, 27, 28, 29, 30, 31, 32, 33] [.is (.bool false), .is (.bool true), .is (.bool true), .is undef, .is undef, .is undef, .is undef, .is undef, .is undef, .is (.bool true)] [] [] [] J ?_ ?_
  · refine .pl rfl (fun _ _ W Γ => ev_move _ (Γ.s rfl)) ?_
    refine .pl rfl (fun _ _ W Γ => ev_not (Γ.k 0 rfl) rfl) ?_
    refine .pl rfl (fun _ _ W Γ => ev_move _ (Γ.k 1 rfl)) ?_
    refine .off rfl rfl rfl rfl ?_
    refine .off rfl rfl rfl rfl ?_
    refine .offu rfl rfl rfl rfl ?_
    refine .offu rfl rfl rfl rfl ?_
    refine .offu rfl rfl rfl rfl ?_
    refine .off rfl rfl rfl rfl ?_
    refine .pl rfl (fun _ _ W Γ => ev_pick (Γ.k 2 rfl) (Γ.c _)) ?_
    exact .nil
  clear J; intro K9 hK9; simp only [fx]; intro _ f9 W9 J; refine hK9.out _ _ ?_; clear hK9
  refine wp_cond_true rfl ?_
  refine region_c [34, 0, 4] [.rint 0, .any, .is (.bool false)] [some (1, .rint 0)] [] [] J ?_ ?_
  · refine .pl rfl (fun _ _ W Γ => ev_zeroR) ?_
    refine .st 0 rfl rfl rfl (fun _ _ W Γ => ev_stR (Γ.s rfl) (Γ.u 0 rfl rfl) (Γ.w 0 rfl)) ?_
    refine .pl rfl (fun _ _ W Γ => ev_assign _ (Γ.c _)) ?_
    exact .nil
  clear J; intro K10 hK10; simp only [fx]; intro _ f10 W10 J; refine hK10.out _ _ ?_; clear hK10
  refine wp_ret ?_
  obtain ⟨u0, hx0, hm0⟩ := J.out.get 0 rfl
  obtain ⟨gr0, pr0, lr0, cr0, rfl, c0_0, c0_1⟩ := hx0.rint
  exact bodyPost_ret (v := .tuple #[.agg #[.bool gr0, .slice pr0 lr0 cr0], .bool false]) (by simp [results, Tryz.results6, go_sem, c0_0, c0_1]) rfl ⟨_, rfl, ⟨_, _, rfl, hm0, rfl⟩, J.out.be⟩
set_option maxRecDepth 100000 in
set_option maxHeartbeats 4000000 in
theorem riparse_no (w : World) (s : ByteArray) (v : Nat) (y : Nat) (h0 : 0 < s.size) (hy : (s[0]'h0).toNat = y) (hyb : ((y : Int) == 45) = true) (hmax : s.size ≤ 9223372036854775807) (hr : ∀ w, Calls Tryz.prog 23 #[.string (s.extract 1 s.size)] w (Gives w (.two (.rnum v) (.is (.bool true))))) (hz : v ≠ 0)  :
    Calls Tryz.prog 6 #[.string s] w (Gives w (.two (.rint (-(v : Int))) (.is (.bool true)))) := by
  have HS0 := Lib.hid h0; have HMX := Lib.hid hmax; have HPR := Lib.hid hr; clear hmax hr
  have HY := Lib.hid hy; have HYB := Lib.hid hyb; clear hy hyb
  have HZ : Hid (decide (v = 0) = false) := Lib.hid (decide_eq_false hz)
  have HSG : Hid (sgn true v = (-(v : Int))) := Lib.hid (by simp [sgn])
  clear hz
  go_enter Tryz.func6, Tryz.ntmps6
  have J := Frm.start (w := w) (V := []) fn
  refine wp_seq_h ?_; intro K1 hK1; go_wp2
  obtain ⟨W2, b2, eW2, eb2, sz2, J⟩ := Frm.putR0 J rfl
  rw [← eW2, ← eb2]
  clear eW2 eb2 sz2
  refine hK1.out _ _ ?_; clear hK1
  refine region_c [8, 9, 10, 11, 12, 13, 14, 15, 5] [.is (.string s), .is (.int .i64 ((s.size : Nat) : Int)), .is (.bool true), .is (.bool true), .is (.string s), .is (.int .u8 ((y : Nat) : Int)), .is (.bool true), .is (.bool true), .is (.bool true)] [] [] [] J ?_ ?_
  · refine .pl rfl (fun _ _ W Γ => ev_move _ (Γ.s rfl)) ?_
    refine .pl rfl (fun _ E W Γ => by
      have e1 : E (.tmp 7) = .string s := (Γ.k 0 rfl)
      have hc := Γ.c
      exact Does.value (w' := W) (by go_simp <;> first | rfl | (rw [IntKind.wrap_i64]; omega)) ⟨rfl, Below.refl _ _⟩) ?_
    refine .pl rfl (fun _ _ W Γ => ev_gtr (Γ.k 1 rfl) (Γ.c _) (decide_eq_true (by have := HS0.out; omega))) ?_
    refine .pl rfl (fun _ _ W Γ => ev_move _ (Γ.k 2 rfl)) ?_
    refine .gu rfl rfl rfl rfl (fun _ _ W Γ => ev_move _ (Γ.s rfl)) ?_
    refine .gu rfl rfl rfl rfl (fun _ E W Γ => by
      have e1 : E (.tmp 11) = .string s := (Γ.k 4 rfl)
      have hc := Γ.c
      have hy := HY.out
      exact Does.value (w' := W) (by go_simp) ⟨rfl, Below.refl _ _⟩) ?_
    refine .gu rfl rfl rfl rfl (fun _ _ W Γ => ev_eqlU8 (Γ.k 5 rfl) (Γ.c _) HYB.out) ?_
    refine .pl rfl (fun _ _ W Γ => ev_pick (Γ.k 3 rfl) (Γ.k 6 rfl)) ?_
    refine .pl rfl (fun _ _ W Γ => ev_assign _ (Γ.k 7 rfl)) ?_
    exact .nil
  clear J; intro K3 hK3; simp only [fx]; intro _ f3 W3 J; refine hK3.out _ _ ?_; clear hK3
  refine wp_seq_h ?_; intro K4 hK4
  refine region_c [16] [.is (.bool true)] [] [] [] J ?_ ?_
  · refine .pl rfl (fun _ _ W Γ => ev_move _ (Γ.s rfl)) ?_
    exact .nil
  clear J; intro K5 hK5; simp only [fx]; intro _ f5 W5 J; refine hK5.out _ _ ?_; clear hK5
  refine wp_cond_true rfl ?_
  refine region_f [17, 18, 1] [.is (.string s), .is (.string (s.extract 1 s.size)), .is (.string (s.extract 1 s.size))] [] [] [] J ?_ ?_
  · refine .pl rfl (fun _ _ W Γ => ev_move _ (Γ.s rfl)) ?_
    refine .pl rfl (fun _ E W Γ => by
      have e1 : E (.tmp 16) = .string s := (Γ.k 0 rfl)
      have hc := Γ.c
      have h1 : 1 ≤ s.size := h0
      have h2 : ¬ ((s.size : Nat) : Int) < 1 := by omega
      exact Does.value (w' := W) (by go_simp) ⟨rfl, Below.refl _ _⟩) ?_
    refine .pl rfl (fun _ _ W Γ => ev_assign _ (Γ.k 1 rfl)) ?_
    exact .nil
  clear J; simp only [fx]; intro _ f6 W6 J
  refine hK4.out _ _ ?_; clear hK4
  refine region_c [20, 21, 19, 22, 23, 6, 7] [.is (.string (s.extract 1 s.size)), .two (.rnum v) (.is (.bool true)), .two (.rnum v) (.is (.bool true)), .rnum v, .is (.bool true), .rnum v, .is (.bool true)] [] [] [(5, 5)] J ?_ ?_
  · refine .pl rfl (fun _ _ W Γ => ev_move _ (Γ.s rfl)) ?_
    refine .pl rfl (fun _ _ W Γ => ev_call1 (Γ.f _) run_rParse (by rw [(show _ = Value.string (s.extract 1 s.size) from (Γ.k (d := 19) 0 rfl))]; exact HPR.out W)) ?_
    refine .pl rfl (fun _ _ W Γ => ev_moveM (Γ.w 1 rfl)) ?_
    refine .pl rfl (fun _ _ W Γ => ev_ex20 (Γ.w 2 rfl)) ?_
    refine .pl rfl (fun _ _ W Γ => ev_ex21 (Γ.w 2 rfl)) ?_
    refine .pl rfl (fun _ _ W Γ => ev_assignM (Γ.w 3 rfl)) ?_
    refine .pl rfl (fun _ _ W Γ => ev_assign _ (Γ.k 4 rfl)) ?_
    exact .nil
  clear J; intro K7 hK7; simp only [fx]; intro _ f7 W7 J; refine hK7.out _ _ ?_; clear hK7
  refine wp_seq_h ?_; intro K8 hK8
  refine region_c [24, 25, 26, 27, 28, 29, 30, 31, 32, 33] [.is (.bool true), .is (.bool false), .is (.bool false), .is (.bool true), .is (.bool true), .rnum v, .that (lenS v), .is (.bool false), .is (.bool false), .is (.bool false)] [] [] [] J ?_ ?_
  · refine .pl rfl (fun _ _ W Γ => ev_move _ (Γ.s rfl)) ?_
    refine .pl rfl (fun _ _ W Γ => ev_not (Γ.k 0 rfl) rfl) ?_
    refine .pl rfl (fun _ _ W Γ => ev_move _ (Γ.k 1 rfl)) ?_
    refine .gu rfl rfl rfl rfl (fun _ _ W Γ => ev_move _ (Γ.s rfl)) ?_
    refine .gu rfl rfl rfl rfl (fun _ _ W Γ => ev_move _ (Γ.k 3 rfl)) ?_
    refine .gu rfl rfl rfl rfl (fun _ _ W Γ => ev_moveM (Γ.m 0 rfl rfl)) ?_
    refine .gu rfl rfl rfl rfl (fun _ _ W Γ => ev_len (Γ.w 5 rfl)) ?_
    refine .gu rfl rfl rfl rfl (fun _ _ W Γ => ev_lenEql (Γ.w 6 rfl) HZ.out Γ.c) ?_
    refine .gu rfl rfl rfl rfl (fun _ _ W Γ => ev_pick (Γ.k 4 rfl) (Γ.k 7 rfl)) ?_
    refine .pl rfl (fun _ _ W Γ => ev_pick (Γ.k 2 rfl) (Γ.k 8 rfl)) ?_
    exact .nil
  clear J; intro K9 hK9; simp only [fx]; intro _ f9 W9 J; refine hK9.out _ _ ?_; clear hK9
  refine wp_cond_false rfl ?_
  refine wp_skip ?_
  refine hK8.out _ _ ?_; clear hK8
  refine region_c [35, 36, 37, 0, 4] [.is (.bool true), .rnum v, .rint (-(v : Int)), .any, .is (.bool true)] [some (3, .rint (-(v : Int)))] [] [] J ?_ ?_
  · refine .pl rfl (fun _ _ W Γ => ev_move _ (Γ.s rfl)) ?_
    refine .pl rfl (fun _ _ W Γ => ev_moveM (Γ.m 0 rfl rfl)) ?_
    refine .pl rfl (fun _ _ W Γ => ev_call2 (Γ.f _) run_rI (by rw [(show _ = Value.bool true from (Γ.k (d := 34) 0 rfl))]; exact rI_gives W _ _ v (-(v : Int)) HSG.out (Γ.w (d := 35) 1 rfl))) ?_
    refine .st 0 rfl rfl rfl (fun _ _ W Γ => ev_stR (Γ.s rfl) (Γ.u 0 rfl rfl) (Γ.w 2 rfl)) ?_
    refine .pl rfl (fun _ _ W Γ => ev_assign _ (Γ.c _)) ?_
    exact .nil
  clear J; intro K10 hK10; simp only [fx]; intro _ f10 W10 J; refine hK10.out _ _ ?_; clear hK10
  refine wp_ret ?_
  obtain ⟨u0, hx0, hm0⟩ := J.out.get 0 rfl
  obtain ⟨gr0, pr0, lr0, cr0, rfl, c0_0, c0_1⟩ := hx0.rint
  exact bodyPost_ret (v := .tuple #[.agg #[.bool gr0, .slice pr0 lr0 cr0], .bool true]) (by simp [results, Tryz.results6, go_sem, c0_0, c0_1]) rfl ⟨_, rfl, ⟨_, _, rfl, hm0, rfl⟩, J.out.be⟩
set_option maxRecDepth 100000 in
set_option maxHeartbeats 4000000 in
theorem riparse_noz (w : World) (s : ByteArray) (v : Nat) (y : Nat) (h0 : 0 < s.size) (hy : (s[0]'h0).toNat = y) (hyb : ((y : Int) == 45) = true) (hmax : s.size ≤ 9223372036854775807) (hr : ∀ w, Calls Tryz.prog 23 #[.string (s.extract 1 s.size)] w (Gives w (.two (.rnum v) (.is (.bool true))))) (hz : v = 0)  :
    Calls Tryz.prog 6 #[.string s] w (Gives w (.two (.rint 0) (.is (.bool false)))) := by
  have HS0 := Lib.hid h0; have HMX := Lib.hid hmax; have HPR := Lib.hid hr; clear hmax hr
  have HY := Lib.hid hy; have HYB := Lib.hid hyb; clear hy hyb
  have HZ : Hid (decide (v = 0) = true) := Lib.hid (decide_eq_true hz)
  clear hz
  go_enter Tryz.func6, Tryz.ntmps6
  have J := Frm.start (w := w) (V := []) fn
  refine wp_seq_h ?_; intro K1 hK1; go_wp2
  obtain ⟨W2, b2, eW2, eb2, sz2, J⟩ := Frm.putR0 J rfl
  rw [← eW2, ← eb2]
  clear eW2 eb2 sz2
  refine hK1.out _ _ ?_; clear hK1
  refine region_c [8, 9, 10, 11, 12, 13, 14, 15, 5] [.is (.string s), .is (.int .i64 ((s.size : Nat) : Int)), .is (.bool true), .is (.bool true), .is (.string s), .is (.int .u8 ((y : Nat) : Int)), .is (.bool true), .is (.bool true), .is (.bool true)] [] [] [] J ?_ ?_
  · refine .pl rfl (fun _ _ W Γ => ev_move _ (Γ.s rfl)) ?_
    refine .pl rfl (fun _ E W Γ => by
      have e1 : E (.tmp 7) = .string s := (Γ.k 0 rfl)
      have hc := Γ.c
      exact Does.value (w' := W) (by go_simp <;> first | rfl | (rw [IntKind.wrap_i64]; omega)) ⟨rfl, Below.refl _ _⟩) ?_
    refine .pl rfl (fun _ _ W Γ => ev_gtr (Γ.k 1 rfl) (Γ.c _) (decide_eq_true (by have := HS0.out; omega))) ?_
    refine .pl rfl (fun _ _ W Γ => ev_move _ (Γ.k 2 rfl)) ?_
    refine .gu rfl rfl rfl rfl (fun _ _ W Γ => ev_move _ (Γ.s rfl)) ?_
    refine .gu rfl rfl rfl rfl (fun _ E W Γ => by
      have e1 : E (.tmp 11) = .string s := (Γ.k 4 rfl)
      have hc := Γ.c
      have hy := HY.out
      exact Does.value (w' := W) (by go_simp) ⟨rfl, Below.refl _ _⟩) ?_
    refine .gu rfl rfl rfl rfl (fun _ _ W Γ => ev_eqlU8 (Γ.k 5 rfl) (Γ.c _) HYB.out) ?_
    refine .pl rfl (fun _ _ W Γ => ev_pick (Γ.k 3 rfl) (Γ.k 6 rfl)) ?_
    refine .pl rfl (fun _ _ W Γ => ev_assign _ (Γ.k 7 rfl)) ?_
    exact .nil
  clear J; intro K3 hK3; simp only [fx]; intro _ f3 W3 J; refine hK3.out _ _ ?_; clear hK3
  refine wp_seq_h ?_; intro K4 hK4
  refine region_c [16] [.is (.bool true)] [] [] [] J ?_ ?_
  · refine .pl rfl (fun _ _ W Γ => ev_move _ (Γ.s rfl)) ?_
    exact .nil
  clear J; intro K5 hK5; simp only [fx]; intro _ f5 W5 J; refine hK5.out _ _ ?_; clear hK5
  refine wp_cond_true rfl ?_
  refine region_f [17, 18, 1] [.is (.string s), .is (.string (s.extract 1 s.size)), .is (.string (s.extract 1 s.size))] [] [] [] J ?_ ?_
  · refine .pl rfl (fun _ _ W Γ => ev_move _ (Γ.s rfl)) ?_
    refine .pl rfl (fun _ E W Γ => by
      have e1 : E (.tmp 16) = .string s := (Γ.k 0 rfl)
      have hc := Γ.c
      have h1 : 1 ≤ s.size := h0
      have h2 : ¬ ((s.size : Nat) : Int) < 1 := by omega
      exact Does.value (w' := W) (by go_simp) ⟨rfl, Below.refl _ _⟩) ?_
    refine .pl rfl (fun _ _ W Γ => ev_assign _ (Γ.k 1 rfl)) ?_
    exact .nil
  clear J; simp only [fx]; intro _ f6 W6 J
  refine hK4.out _ _ ?_; clear hK4
  refine region_c [20, 21, 19, 22, 23, 6, 7] [.is (.string (s.extract 1 s.size)), .two (.rnum v) (.is (.bool true)), .two (.rnum v) (.is (.bool true)), .rnum v, .is (.bool true), .rnum v, .is (.bool true)] [] [] [(5, 5)] J ?_ ?_
  · refine .pl rfl (fun _ _ W Γ => ev_move _ (Γ.s rfl)) ?_
    refine .pl rfl (fun _ _ W Γ => ev_call1 (Γ.f _) run_rParse (by rw [(show _ = Value.string (s.extract 1 s.size) from (Γ.k (d := 19) 0 rfl))]; exact HPR.out W)) ?_
    refine .pl rfl (fun _ _ W Γ => ev_moveM (Γ.w 1 rfl)) ?_
    refine .pl rfl (fun _ _ W Γ => ev_ex20 (Γ.w 2 rfl)) ?_
    refine .pl rfl (fun _ _ W Γ => ev_ex21 (Γ.w 2 rfl)) ?_
    refine .pl rfl (fun _ _ W Γ => ev_assignM (Γ.w 3 rfl)) ?_
    refine .pl rfl (fun _ _ W Γ => ev_assign _ (Γ.k 4 rfl)) ?_
    exact .nil
  clear J; intro K7 hK7; simp only [fx]; intro _ f7 W7 J; refine hK7.out _ _ ?_; clear hK7
  refine wp_seq_h ?_; intro K8 hK8
  refine region_c [24, 25, 26, 27, 28, 29, 30, 31, 32, 33] [.is (.bool true), .is (.bool false), .is (.bool false), .is (.bool true), .is (.bool true), .rnum v, .that (lenS v), .is (.bool true), .is (.bool true), .is (.bool true)] [] [] [] J ?_ ?_
  · refine .pl rfl (fun _ _ W Γ => ev_move _ (Γ.s rfl)) ?_
    refine .pl rfl (fun _ _ W Γ => ev_not (Γ.k 0 rfl) rfl) ?_
    refine .pl rfl (fun _ _ W Γ => ev_move _ (Γ.k 1 rfl)) ?_
    refine .gu rfl rfl rfl rfl (fun _ _ W Γ => ev_move _ (Γ.s rfl)) ?_
    refine .gu rfl rfl rfl rfl (fun _ _ W Γ => ev_move _ (Γ.k 3 rfl)) ?_
    refine .gu rfl rfl rfl rfl (fun _ _ W Γ => ev_moveM (Γ.m 0 rfl rfl)) ?_
    refine .gu rfl rfl rfl rfl (fun _ _ W Γ => ev_len (Γ.w 5 rfl)) ?_
    refine .gu rfl rfl rfl rfl (fun _ _ W Γ => ev_lenEql (Γ.w 6 rfl) HZ.out Γ.c) ?_
    refine .gu rfl rfl rfl rfl (fun _ _ W Γ => ev_pick (Γ.k 4 rfl) (Γ.k 7 rfl)) ?_
    refine .pl rfl (fun _ _ W Γ => ev_pick (Γ.k 2 rfl) (Γ.k 8 rfl)) ?_
    exact .nil
  clear J; intro K9 hK9; simp only [fx]; intro _ f9 W9 J; refine hK9.out _ _ ?_; clear hK9
  refine wp_cond_true rfl ?_
  refine region_c [34, 0, 4] [.rint 0, .any, .is (.bool false)] [some (1, .rint 0)] [] [] J ?_ ?_
  · refine .pl rfl (fun _ _ W Γ => ev_zeroR) ?_
    refine .st 0 rfl rfl rfl (fun _ _ W Γ => ev_stR (Γ.s rfl) (Γ.u 0 rfl rfl) (Γ.w 0 rfl)) ?_
    refine .pl rfl (fun _ _ W Γ => ev_assign _ (Γ.c _)) ?_
    exact .nil
  clear J; intro K10 hK10; simp only [fx]; intro _ f10 W10 J; refine hK10.out _ _ ?_; clear hK10
  refine wp_ret ?_
  obtain ⟨u0, hx0, hm0⟩ := J.out.get 0 rfl
  obtain ⟨gr0, pr0, lr0, cr0, rfl, c0_0, c0_1⟩ := hx0.rint
  exact bodyPost_ret (v := .tuple #[.agg #[.bool gr0, .slice pr0 lr0 cr0], .bool false]) (by simp [results, Tryz.results6, go_sem, c0_0, c0_1]) rfl ⟨_, rfl, ⟨_, _, rfl, hm0, rfl⟩, J.out.be⟩
theorem rparse_gives (s : ByteArray) (hmax : s.size ≤ 9223372036854775807) : (DecText (s.data.toList.map (·.toNat)) → ∀ W, Calls Tryz.prog 23 #[.string s] W (Gives W (.two (.rnum (decv (tdig (s.data.toList.map (·.toNat))))) (.is (.bool true))))) ∧
    (¬ DecText (s.data.toList.map (·.toNat)) → ∀ W, Calls Tryz.prog 23 #[.string s] W (Gives W (.two (.rnum 0) (.is (.bool false))))) := by
  refine ⟨fun hd W => ?_, fun hd W => ?_⟩
  · refine (rParse_any s _ W (SB.self s) hmax).mono fun e w' h => ?_
    obtain ⟨⟨_, p1, q1, c1, he, h1⟩ | ⟨hn, _⟩, hb⟩ := h
    · exact ⟨_, he, ⟨_, _, rfl, ⟨_, _, _, rfl, h1⟩, rfl⟩, hb⟩
    · exact absurd hd hn
  · refine (rParse_any s _ W (SB.self s) hmax).mono fun e w' h => ?_
    obtain ⟨⟨hn, _⟩ | ⟨_, he⟩, hb⟩ := h
    · exact absurd hn hd
    · exact ⟨_, he, ⟨_, _, rfl, ⟨_, _, _, rfl, by rw [dr_zero]; rfl, Nat.le_refl _, fun h => absurd rfl h⟩, rfl⟩, hb⟩
theorem ext1 (s : ByteArray) : (s.extract 1 s.size).data.toList = s.data.toList.drop 1 := by
  rw [ByteArray.data_extract, Array.toList_extract]
  show (s.data.toList.drop 1).take (s.size - 1) = _
  exact List.take_of_length_le (by rw [List.length_drop]; exact Nat.le_refl _)
theorem tdig_words {L : List Nat} (hd : DecText L) : (ds (decv (tdig L))).length ≤ 60 := by
  have h1 := decv_lt (tdig L) (tdig_lt hd.2.2.2)
  have h2 : (tdig L).length ≤ 200 := by rw [tdig, List.length_map]; exact hd.2.1
  have h3 : 10 ^ (tdig L).length ≤ 10 ^ 200 := Nat.pow_le_pow_right (by omega) h2
  have h4 := ds_mono (show decv (tdig L) ≤ 10 ^ 200 by omega)
  have h5 := ten_words
  omega
theorem iparse_both (s : ByteArray) (hmax : s.size ≤ 9223372036854775807) :
    (∃ z : Int, (ds z.natAbs).length ≤ 400 ∧ (∀ W, Calls Tryz.prog 5 #[.string s] W (Gives W (.two (.int z) (.is (.bool true))))) ∧ ∀ W, Calls Tryz.prog 6 #[.string s] W (Gives W (.two (.rint z) (.is (.bool true))))) ∨
    ((∀ W, Calls Tryz.prog 5 #[.string s] W (Gives W (.two (.int 0) (.is (.bool false))))) ∧ ∀ W, Calls Tryz.prog 6 #[.string s] W (Gives W (.two (.rint 0) (.is (.bool false))))) := by
  rcases Nat.eq_zero_or_pos s.size with h0 | h0
  · right
    have hB : s.data.toList = [] := List.eq_nil_of_length_eq_zero h0
    have hd : ¬ DecText (s.data.toList.map (·.toNat)) := fun h => by have := h.1; rw [hB] at this; simp at this
    exact ⟨fun W => iparse_px W s s (nocut45 _ (by rw [hB]; simp)) (fun w => (parse_text w s _ (SB.self s) hmax).2 hd), fun W => riparse_e W s h0 hmax ((rparse_gives s hmax).2 hd)⟩
  · obtain ⟨y, hy⟩ : ∃ y : Nat, (s[0]'h0).toNat = y := ⟨_, rfl⟩
    have hB : s.data.toList = s[0]'h0 :: s.data.toList.drop 1 := by
      have h0' : 0 < s.data.toList.length := h0
      conv => lhs; rw [← List.drop_zero (l := s.data.toList), List.drop_eq_getElem_cons h0']
      rfl
    by_cases h45 : y = 45
    · subst h45
      have hs0 : s[0]'h0 = 45 := UInt8.toNat_inj.1 hy
      obtain ⟨r, hr⟩ : ∃ r, r = s.extract 1 s.size := ⟨_, rfl⟩
      have hR : r.data.toList = s.data.toList.drop 1 := by rw [hr]; exact ext1 s
      have hrm : r.size ≤ 9223372036854775807 := by rw [hr, ByteArray.size_extract]; omega
      have hc := cut45 s.data.toList r.data.toList (by rw [hR, ← hs0]; exact hB)
      by_cases hd : DecText (r.data.toList.map (·.toNat))
      · have hw := tdig_words hd
        have hp := fun w => (parse_text w r _ (SB.self r) hrm).1 hd
        have hq := (rparse_gives r hrm).1 hd
        have e : (r.data.toList.map (·.toNat)).map (· - 48) = tdig (r.data.toList.map (·.toNat)) := rfl
        rw [e] at hp
        generalize decv (tdig (r.data.toList.map (·.toNat))) = v at hp hq hw
        by_cases hv : v = 0
        · right
          exact ⟨fun W => iparse_noz W s r v hc hp hv, fun W => riparse_noz W s v 45 h0 hy rfl hmax (by rw [← hr]; exact hq) hv⟩
        · left
          exact ⟨-(v : Int), by rw [Int.natAbs_neg, Int.natAbs_natCast]; omega, fun W => iparse_no W s r v hc hp hv, fun W => riparse_no W s v 45 h0 hy rfl hmax (by rw [← hr]; exact hq) hv⟩
      · right
        exact ⟨fun W => iparse_nx W s r hc (fun w => (parse_text w r _ (SB.self r) hrm).2 hd), fun W => riparse_nx W s 45 h0 hy rfl hmax (by rw [← hr]; exact (rparse_gives r hrm).2 hd)⟩
    · have hyb : ((y : Int) == 45) = false := beq_eq_false_iff_ne.2 (by omega)
      have hc := nocut45 s.data.toList (fun r e => by
        rw [hB] at e
        injection e with e1 _
        apply h45
        rw [← hy, e1]; rfl)
      by_cases hd : DecText (s.data.toList.map (·.toNat))
      · left
        have hw := tdig_words hd
        have hp := fun w => (parse_text w s _ (SB.self s) hmax).1 hd
        have hq := (rparse_gives s hmax).1 hd
        have e : (s.data.toList.map (·.toNat)).map (· - 48) = tdig (s.data.toList.map (·.toNat)) := rfl
        rw [e] at hp
        generalize decv (tdig (s.data.toList.map (·.toNat))) = v at hp hq hw
        exact ⟨(v : Int), by rw [Int.natAbs_natCast]; omega, fun W => iparse_po W s s v hc hp, fun W => riparse_po W s v y h0 hy hyb hmax hq⟩
      · right
        exact ⟨fun W => iparse_px W s s hc (fun w => (parse_text w s _ (SB.self s) hmax).2 hd), fun W => riparse_px W s y h0 hy hyb hmax ((rparse_gives s hmax).2 hd)⟩
end Go.Proofs.YtfjjmhbffbhhdaaGreatDoor
