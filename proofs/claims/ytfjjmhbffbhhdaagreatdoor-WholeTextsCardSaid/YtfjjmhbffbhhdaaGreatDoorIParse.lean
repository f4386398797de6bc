/- whole.Parse of any text. -/
import Derived.Test.YtfjjmhbffbhhdaaGreatDoorParse
namespace Go.Proofs.YtfjjmhbffbhhdaaGreatDoor
open Go.RowKit

theorem run_Parse : RowKit.Hid (∀ (a : Array Value) (w : World), Sem.run Tryz.prog (callFunc 21 a) w = .ok (.enter 21 a) w) := fun a w => by go_simp
theorem run_iIsZero : RowKit.Hid (∀ (a : Array Value) (w : World), Sem.run Tryz.prog (callFunc 22 a) w = .ok (.enter 22 a) w) := fun a w => by go_simp
theorem run_sCutPrefix : RowKit.Hid (∀ (a : Array Value) (w : World), Sem.run Tryz.prog (callFunc 20 a) w = .ok (.enter 20 a) w) := fun a w => by go_simp
theorem SB.self (s : ByteArray) : SB s (s.data.toList.map (·.toNat)) := by
  refine ⟨by rw [List.length_map]; rfl, fun k hk => ?_⟩
  have h : k < s.data.toList.length := hk
  rw [List.getD_eq_getElem?_getD, List.getElem?_map, List.getElem?_eq_getElem h]
  rfl
section
variable {E : Operand → Value} {w : World} {d : Option Tmp} {ty : TypeId} {pos : String} {af : Array Edge} {gd : Option (Nat × Bool)}
set_option maxRecDepth 100000 in
theorem ev_mkI2 {x y : Operand} {b : Bool} {n : Nat} {z : Int} (h1 : E x = .bool b) (h2 : Means w (.num n) (E y)) (hz : decide (z < 0) = b ∧ z.natAbs = n) : Does Tryz.prog ⟨d, .build 28 #[(0, x), (1, y)], ty, pos, af, gd⟩ E w fun v' w' => Means w' (.int z) v' ∧ Below w.heap.size w w' := by
  obtain ⟨rfl, rfl⟩ := hz
  obtain ⟨s, p, l, c, e, hN⟩ := h2
  exact Does.value (v := .agg #[.bool (decide (z < 0)), .int .u64 s, .slice p l c]) (w' := w) (by go_simp) ⟨⟨_, _, _, _, _, rfl, rfl, hN⟩, Below.refl _ _⟩
set_option maxRecDepth 100000 in
theorem ev_zeroI : Does Tryz.prog ⟨d, .build 28 #[], ty, pos, af, gd⟩ E w fun v' w' => Means w' (.int 0) v' ∧ Below w.heap.size w w' :=
  Does.value (v := .agg #[.bool false, .int .u64 0, .slice none 0 0]) (w' := w) (by go_simp) ⟨⟨_, _, _, _, _, rfl, rfl, Or.inl ⟨by show (0 : Nat) < 2 ^ 64; omega, rfl, rfl, rfl, rfl⟩⟩, Below.refl _ _⟩
end
set_option maxRecDepth 100000 in
set_option maxHeartbeats 4000000 in
theorem iIsZero_val (w : World) (u1 : Value) (n : Nat) (b : Bool) (hb : decide (n = 0) = b) (h1 : Means w (.num n) u1) :
    Calls Tryz.prog 22 #[u1] w (Gives w (.is (.bool b))) := by
  obtain ⟨s1, p1, l1, c1, rfl, h1⟩ := h1
  have H1 := Lib.hid h1; clear h1
  rcases Nat.lt_or_ge n (2 ^ 64) with hn | hn
  · skip
    have HN := Lib.hid hn; clear hn
    have HBV := Lib.hid hb
    have HE : Hid (((n : Int) == 0) = b) := Lib.hid (by rw [← hb, Bool.eq_iff_iff, beq_iff_eq, decide_eq_true_eq]; omega)
    clear hb
    go_enter Tryz.func22, Tryz.ntmps22
    have J := Frm.start (w := w) (V := []) fn
    refine wp_seq_h ?_; intro K1 hK1; go_wp2
    obtain ⟨W2, b2, eW2, eb2, sz2, J⟩ := Frm.putN J rfl H1.out
    rw [← eW2, ← eb2]
    clear eW2 eb2 sz2
    refine hK1.out _ _ ?_; clear hK1
    refine region_c [7, 8, 6, 9, 10, 4, 5] [.num n, .two (.is (.int .u64 (n : Int))) (.is (.bool true)), .two (.is (.int .u64 (n : Int))) (.is (.bool true)), .is (.int .u64 (n : Int)), .is (.bool true), .is (.int .u64 (n : Int)), .is (.bool true)] [] [] [] J ?_ ?_
    · refine .pl rfl (fun _ _ W Γ => ev_ldN (Γ.s rfl) (Γ.l 0 rfl)) ?_
      refine .pl rfl (fun _ _ W Γ => ev_call1 (Γ.f _) run_nSmall (small_lt W _ n HN.out (Γ.w (d := 6) 0 rfl))) ?_
      refine .pl rfl (fun _ _ W Γ => ev_moveM (Γ.w 1 rfl)) ?_
      refine .pl rfl (fun _ _ W Γ => ev_ex20 (Γ.w 2 rfl)) ?_
      refine .pl rfl (fun _ _ W Γ => ev_ex21 (Γ.w 2 rfl)) ?_
      refine .pl rfl (fun _ _ W Γ => ev_assign _ (Γ.k 3 rfl)) ?_
      refine .pl rfl (fun _ _ W Γ => ev_assign _ (Γ.k 4 rfl)) ?_
      exact .nil
    clear J; intro K3 hK3; simp only [fx]; intro _ f3 W3 J; refine hK3.out _ _ ?_; clear hK3
    refine region_c [11, 12, 13, 14, 15, 3] [.is (.bool true), .is (.bool true), .is (.int .u64 (n : Int)), .is (.bool b), .is (.bool b), .is (.bool b)] [] [] [] J ?_ ?_
    · refine .pl rfl (fun _ _ W Γ => ev_move _ (Γ.s rfl)) ?_
      refine .pl rfl (fun _ _ W Γ => ev_move _ (Γ.k 0 rfl)) ?_
      refine .gu rfl rfl rfl rfl (fun _ _ W Γ => ev_move _ (Γ.s rfl)) ?_
      refine .gu rfl rfl rfl rfl (fun _ _ W Γ => ev_eqlU (Γ.k 2 rfl) (Γ.c _) HE.out) ?_
      refine .pl rfl (fun _ _ W Γ => ev_pick (Γ.k 1 rfl) (Γ.k 3 rfl)) ?_
      refine .pl rfl (fun _ _ W Γ => ev_assign _ (Γ.k 4 rfl)) ?_
      exact .nil
    clear J; intro K4 hK4; simp only [fx]; intro _ f4 W4 J; refine hK4.out _ _ ?_; clear hK4
    refine wp_ret ?_
    exact bodyPost_ret (v := .bool b) (by simp [results, Tryz.results22, go_sem]) rfl ⟨_, rfl, rfl, J.out.be⟩
  · skip
    have HN := Lib.hid hn; clear hn
    have HBV := Lib.hid hb
    clear hb
    go_enter Tryz.func22, Tryz.ntmps22
    have J := Frm.start (w := w) (V := []) fn
    refine wp_seq_h ?_; intro K1 hK1; go_wp2
    obtain ⟨W2, b2, eW2, eb2, sz2, J⟩ := Frm.putN J rfl H1.out
    rw [← eW2, ← eb2]
    clear eW2 eb2 sz2
    refine hK1.out _ _ ?_; clear hK1
    refine region_c [7, 8, 6, 9, 10, 4, 5] [.num n, .two (.is (.int .u64 0)) (.is (.bool false)), .two (.is (.int .u64 0)) (.is (.bool false)), .is (.int .u64 0), .is (.bool false), .is (.int .u64 0), .is (.bool false)] [] [] [] J ?_ ?_
    · refine .pl rfl (fun _ _ W Γ => ev_ldN (Γ.s rfl) (Γ.l 0 rfl)) ?_
      refine .pl rfl (fun _ _ W Γ => ev_call1 (Γ.f _) run_nSmall (small_ge W _ n HN.out (Γ.w (d := 6) 0 rfl))) ?_
      refine .pl rfl (fun _ _ W Γ => ev_moveM (Γ.w 1 rfl)) ?_
      refine .pl rfl (fun _ _ W Γ => ev_ex20 (Γ.w 2 rfl)) ?_
      refine .pl rfl (fun _ _ W Γ => ev_ex21 (Γ.w 2 rfl)) ?_
      refine .pl rfl (fun _ _ W Γ => ev_assign _ (Γ.k 3 rfl)) ?_
      refine .pl rfl (fun _ _ W Γ => ev_assign _ (Γ.k 4 rfl)) ?_
      exact .nil
    clear J; intro K3 hK3; simp only [fx]; intro _ f3 W3 J; refine hK3.out _ _ ?_; clear hK3
    refine region_c [11, 12, 13, 14, 15, 3] [.is (.bool false), .is (.bool false), .is undef, .is undef, .is (.bool false), .is (.bool false)] [] [] [] J ?_ ?_
    · refine .pl rfl (fun _ _ W Γ => ev_move _ (Γ.s rfl)) ?_
      refine .pl rfl (fun _ _ W Γ => ev_move _ (Γ.k 0 rfl)) ?_
      refine .off rfl rfl rfl rfl ?_
      refine .off rfl rfl rfl rfl ?_
      refine .pl rfl (fun _ _ W Γ => ev_pick (Γ.k 1 rfl) (Γ.c _)) ?_
      refine .pl rfl (fun _ _ W Γ => ev_assign _ (Γ.k 4 rfl)) ?_
      exact .nil
    clear J; intro K4 hK4; simp only [fx]; intro _ f4 W4 J; refine hK4.out _ _ ?_; clear hK4
    refine wp_ret ?_
    obtain rfl : b = false := by rw [← HBV.out]; exact decide_eq_false (by have := HN.out; omega)
    exact bodyPost_ret (v := .bool false) (by simp [results, Tryz.results22, go_sem]) rfl ⟨_, rfl, rfl, J.out.be⟩
set_option maxRecDepth 100000 in
set_option maxHeartbeats 4000000 in
theorem iparse_px (w : World) (s r : ByteArray) (hp : Lib.trimPrefix s.data.toList [45] = r.data.toList ∧ Lib.hasPrefix s.data.toList [45] = false) (hr : ∀ w, Calls Tryz.prog 21 #[.string r] w (Gives w (.two (.num 0) (.is (.bool false)))))  :
    Calls Tryz.prog 5 #[.string s] w (Gives w (.two (.int 0) (.is (.bool false)))) := by
  have HP := Lib.hid hp; have HPR := Lib.hid hr; clear hp hr
  go_enter Tryz.func5, Tryz.ntmps5
  have J := Frm.start (w := w) (V := []) fn
  refine wp_seq_h ?_; intro K1 hK1; go_wp2
  obtain ⟨W2, b2, eW2, eb2, sz2, J⟩ := Frm.putI0 J rfl
  rw [← eW2, ← eb2]
  clear eW2 eb2 sz2
  refine hK1.out _ _ ?_; clear hK1
  refine region_c [10, 11, 9, 12, 13, 5, 6] [.is (.string s), .two (.is (.string r)) (.is (.bool false)), .two (.is (.string r)) (.is (.bool false)), .is (.string r), .is (.bool false), .is (.string r), .is (.bool false)] [] [] [] J ?_ ?_
  · refine .pl rfl (fun _ _ W Γ => ev_move _ (Γ.s rfl)) ?_
    refine .pl rfl (fun _ _ W Γ => ev_call2 (Γ.f _) run_sCutPrefix (by rw [Γ.c, (show _ = Value.string s from (Γ.k (d := 9) 0 rfl))]; exact cutPrefix_gives W s ⟨#[45]⟩ r false HP.out.1 HP.out.2)) ?_
    refine .pl rfl (fun _ _ W Γ => ev_moveM (Γ.w 1 rfl)) ?_
    refine .pl rfl (fun _ _ W Γ => ev_ex20 (Γ.w 2 rfl)) ?_
    refine .pl rfl (fun _ _ W Γ => ev_ex21 (Γ.w 2 rfl)) ?_
    refine .pl rfl (fun _ _ W Γ => ev_assign _ (Γ.k 3 rfl)) ?_
    refine .pl rfl (fun _ _ W Γ => ev_assign _ (Γ.k 4 rfl)) ?_
    exact .nil
  clear J; intro K3 hK3; simp only [fx]; intro _ f3 W3 J; refine hK3.out _ _ ?_; clear hK3
  refine region_c [15, 16, 14, 17, 18, 7, 0, 8] [.is (.string r), .two (.num 0) (.is (.bool false)), .two (.num 0) (.is (.bool false)), .num 0, .is (.bool false), .any, .any, .is (.bool false)] [] [⟨.nat, 5, 6, .num 0, .agg #[.int .u64 0, .slice none 0 0]⟩] [] J ?_ ?_
  · refine .pl rfl (fun _ _ W Γ => ev_move _ (Γ.s rfl)) ?_
    refine .pl rfl (fun _ _ W Γ => ev_call1 (Γ.f _) run_Parse (by rw [(show _ = Value.string r from (Γ.k (d := 14) 0 rfl))]; exact HPR.out W)) ?_
    refine .pl rfl (fun _ _ W Γ => ev_moveM (Γ.w 1 rfl)) ?_
    refine .pl rfl (fun _ _ W Γ => ev_ex20 (Γ.w 2 rfl)) ?_
    refine .pl rfl (fun _ _ W Γ => ev_ex21 (Γ.w 2 rfl)) ?_
    refine .al 0 rfl rfl (fun _ _ => ev_alN) ?_
    refine .sn 0 rfl rfl (fun _ _ W Γ => ev_stN (Γ.q 0 rfl) (Γ.un 0 rfl) (Γ.w 3 rfl)) ?_
    refine .pl rfl (fun _ _ W Γ => ev_assign _ (Γ.k 4 rfl)) ?_
    exact .nil
  clear J; intro K4 hK4; simp only [fx]; intro β4 f4 W4 J; refine hK4.out _ _ ?_; clear hK4
  refine wp_seq_h ?_; intro K5 hK5
  refine region_c [19, 20, 21, 22, 23, 24, 25, 26, 27] [.is (.bool false), .is (.bool true), .is (.bool true), .is undef, .is undef, .is undef, .is undef, .is undef, .is (.bool true)] [] [] [] J ?_ ?_
  · refine .pl rfl (fun _ _ W Γ => ev_move _ (Γ.s rfl)) ?_
    refine .pl rfl (fun _ _ W Γ => ev_not (Γ.k 0 rfl) rfl) ?_
    refine .pl rfl (fun _ _ W Γ => ev_move _ (Γ.k 1 rfl)) ?_
    refine .off rfl rfl rfl rfl ?_
    refine .off rfl rfl rfl rfl ?_
    refine .offu rfl rfl rfl rfl ?_
    refine .offu rfl rfl rfl rfl ?_
    refine .off rfl rfl rfl rfl ?_
    refine .pl rfl (fun _ _ W Γ => ev_pick (Γ.k 2 rfl) (Γ.c _)) ?_
    exact .nil
  clear J; intro K6 hK6; simp only [fx]; intro _ f6 W6 J; refine hK6.out _ _ ?_; clear hK6
  refine wp_cond_true rfl ?_
  refine region_c [28, 0, 4] [.int 0, .any, .is (.bool false)] [some (1, .int 0)] [] [] J ?_ ?_
  · refine .pl rfl (fun _ _ W Γ => ev_zeroI) ?_
    refine .st 0 rfl rfl rfl (fun _ _ W Γ => ev_stI (Γ.s rfl) (Γ.u 0 rfl rfl) (Γ.w 0 rfl)) ?_
    refine .pl rfl (fun _ _ W Γ => ev_assign _ (Γ.c _)) ?_
    exact .nil
  clear J; intro K7 hK7; simp only [fx]; intro _ f7 W7 J; refine hK7.out _ _ ?_; clear hK7
  refine wp_ret ?_
  obtain ⟨u0, hx0, hm0⟩ := J.out.get 0 rfl
  obtain ⟨gr0, sr0, pr0, lr0, cr0, rfl, c0_0, c0_1, c0_2⟩ := hx0.int
  exact bodyPost_ret (v := .tuple #[.agg #[.bool gr0, .int .u64 sr0, .slice pr0 lr0 cr0], .bool false]) (by simp [results, Tryz.results5, go_sem, c0_0, c0_1, c0_2]) rfl ⟨_, rfl, ⟨_, _, rfl, hm0, rfl⟩, J.out.be⟩
set_option maxRecDepth 100000 in
set_option maxHeartbeats 4000000 in
theorem iparse_po (w : World) (s r : ByteArray) (v : Nat) (hp : Lib.trimPrefix s.data.toList [45] = r.data.toList ∧ Lib.hasPrefix s.data.toList [45] = false) (hr : ∀ w, Calls Tryz.prog 21 #[.string r] w (Gives w (.two (.num v) (.is (.bool true)))))  :
    Calls Tryz.prog 5 #[.string s] w (Gives w (.two (.int (v : Int)) (.is (.bool true)))) := by
  have HP := Lib.hid hp; have HPR := Lib.hid hr; clear hp hr
  have HI : Hid (decide ((v : Int) < 0) = false ∧ ((v : Int)).natAbs = v) := Lib.hid ⟨decide_eq_false (by omega), by omega⟩
  go_enter Tryz.func5, Tryz.ntmps5
  have J := Frm.start (w := w) (V := []) fn
  refine wp_seq_h ?_; intro K1 hK1; go_wp2
  obtain ⟨W2, b2, eW2, eb2, sz2, J⟩ := Frm.putI0 J rfl
  rw [← eW2, ← eb2]
  clear eW2 eb2 sz2
  refine hK1.out _ _ ?_; clear hK1
  refine region_c [10, 11, 9, 12, 13, 5, 6] [.is (.string s), .two (.is (.string r)) (.is (.bool false)), .two (.is (.string r)) (.is (.bool false)), .is (.string r), .is (.bool false), .is (.string r), .is (.bool false)] [] [] [] J ?_ ?_
  · refine .pl rfl (fun _ _ W Γ => ev_move _ (Γ.s rfl)) ?_
    refine .pl rfl (fun _ _ W Γ => ev_call2 (Γ.f _) run_sCutPrefix (by rw [Γ.c, (show _ = Value.string s from (Γ.k (d := 9) 0 rfl))]; exact cutPrefix_gives W s ⟨#[45]⟩ r false HP.out.1 HP.out.2)) ?_
    refine .pl rfl (fun _ _ W Γ => ev_moveM (Γ.w 1 rfl)) ?_
    refine .pl rfl (fun _ _ W Γ => ev_ex20 (Γ.w 2 rfl)) ?_
    refine .pl rfl (fun _ _ W Γ => ev_ex21 (Γ.w 2 rfl)) ?_
    refine .pl rfl (fun _ _ W Γ => ev_assign _ (Γ.k 3 rfl)) ?_
    refine .pl rfl (fun _ _ W Γ => ev_assign _ (Γ.k 4 rfl)) ?_
    exact .nil
  clear J; intro K3 hK3; simp only [fx]; intro _ f3 W3 J; refine hK3.out _ _ ?_; clear hK3
  refine region_c [15, 16, 14, 17, 18, 7, 0, 8] [.is (.string r), .two (.num v) (.is (.bool true)), .two (.num v) (.is (.bool true)), .num v, .is (.bool true), .any, .any, .is (.bool true)] [] [⟨.nat, 5, 6, .num v, .agg #[.int .u64 0, .slice none 0 0]⟩] [] J ?_ ?_
  · refine .pl rfl (fun _ _ W Γ => ev_move _ (Γ.s rfl)) ?_
    refine .pl rfl (fun _ _ W Γ => ev_call1 (Γ.f _) run_Parse (by rw [(show _ = Value.string r from (Γ.k (d := 14) 0 rfl))]; exact HPR.out W)) ?_
    refine .pl rfl (fun _ _ W Γ => ev_moveM (Γ.w 1 rfl)) ?_
    refine .pl rfl (fun _ _ W Γ => ev_ex20 (Γ.w 2 rfl)) ?_
    refine .pl rfl (fun _ _ W Γ => ev_ex21 (Γ.w 2 rfl)) ?_
    refine .al 0 rfl rfl (fun _ _ => ev_alN) ?_
    refine .sn 0 rfl rfl (fun _ _ W Γ => ev_stN (Γ.q 0 rfl) (Γ.un 0 rfl) (Γ.w 3 rfl)) ?_
    refine .pl rfl (fun _ _ W Γ => ev_assign _ (Γ.k 4 rfl)) ?_
    exact .nil
  clear J; intro K4 hK4; simp only [fx]; intro β4 f4 W4 J; refine hK4.out _ _ ?_; clear hK4
  refine wp_seq_h ?_; intro K5 hK5
  refine region_c [19, 20, 21, 22, 23, 24, 25, 26, 27] [.is (.bool true), .is (.bool false), .is (.bool false), .is (.bool false), .is (.bool false), .is undef, .is undef, .is (.bool false), .is (.bool false)] [] [] [] J ?_ ?_
  · refine .pl rfl (fun _ _ W Γ => ev_move _ (Γ.s rfl)) ?_
    refine .pl rfl (fun _ _ W Γ => ev_not (Γ.k 0 rfl) rfl) ?_
    refine .pl rfl (fun _ _ W Γ => ev_move _ (Γ.k 1 rfl)) ?_
    refine .gu rfl rfl rfl rfl (fun _ _ W Γ => ev_move _ (Γ.s rfl)) ?_
    refine .gu rfl rfl rfl rfl (fun _ _ W Γ => ev_move _ (Γ.k 3 rfl)) ?_
    refine .off rfl rfl rfl rfl ?_
    refine .off rfl rfl rfl rfl ?_
    refine .gu rfl rfl rfl rfl (fun _ _ W Γ => ev_pick (Γ.k 4 rfl) (Γ.c _)) ?_
    refine .pl rfl (fun _ _ W Γ => ev_pick (Γ.k 2 rfl) (Γ.k 7 rfl)) ?_
    exact .nil
  clear J; intro K6 hK6; simp only [fx]; intro _ f6 W6 J; refine hK6.out _ _ ?_; clear hK6
  refine wp_cond_false rfl ?_
  refine wp_skip ?_
  refine hK5.out _ _ ?_; clear hK5
  refine region_c [29, 30, 31, 0, 4] [.is (.bool false), .num v, .int (v : Int), .any, .is (.bool true)] [some (3, .int (v : Int))] [] [] J ?_ ?_
  · refine .pl rfl (fun _ _ W Γ => ev_move _ (Γ.s rfl)) ?_
    refine .pl rfl (fun _ _ W Γ => ev_ldN (Γ.s rfl) (Γ.l 1 rfl)) ?_
    refine .pl rfl (fun _ _ W Γ => ev_mkI2 (Γ.k 0 rfl) (Γ.w 1 rfl) HI.out) ?_
    refine .st 0 rfl rfl rfl (fun _ _ W Γ => ev_stI (Γ.s rfl) (Γ.u 0 rfl rfl) (Γ.w 2 rfl)) ?_
    refine .pl rfl (fun _ _ W Γ => ev_assign _ (Γ.c _)) ?_
    exact .nil
  clear J; intro K7 hK7; simp only [fx]; intro _ f7 W7 J; refine hK7.out _ _ ?_; clear hK7
  refine wp_ret ?_
  obtain ⟨u0, hx0, hm0⟩ := J.out.get 0 rfl
  obtain ⟨gr0, sr0, pr0, lr0, cr0, rfl, c0_0, c0_1, c0_2⟩ := hx0.int
  exact bodyPost_ret (v := .tuple #[.agg #[.bool gr0, .int .u64 sr0, .slice pr0 lr0 cr0], .bool true]) (by simp [results, Tryz.results5, go_sem, c0_0, c0_1, c0_2]) rfl ⟨_, rfl, ⟨_, _, rfl, hm0, rfl⟩, J.out.be⟩
set_option maxRecDepth 100000 in
set_option maxHeartbeats 4000000 in
theorem iparse_nx (w : World) (s r : ByteArray) (hp : Lib.trimPrefix s.data.toList [45] = r.data.toList ∧ Lib.hasPrefix s.data.toList [45] = true) (hr : ∀ w, Calls Tryz.prog 21 #[.string r] w (Gives w (.two (.num 0) (.is (.bool false)))))  :
    Calls Tryz.prog 5 #[.string s] w (Gives w (.two (.int 0) (.is (.bool false)))) := by
  have HP := Lib.hid hp; have HPR := Lib.hid hr; clear hp hr
  go_enter Tryz.func5, Tryz.ntmps5
  have J := Frm.start (w := w) (V := []) fn
  refine wp_seq_h ?_; intro K1 hK1; go_wp2
  obtain ⟨W2, b2, eW2, eb2, sz2, J⟩ := Frm.putI0 J rfl
  rw [← eW2, ← eb2]
  clear eW2 eb2 sz2
  refine hK1.out _ _ ?_; clear hK1
  refine region_c [10, 11, 9, 12, 13, 5, 6] [.is (.string s), .two (.is (.string r)) (.is (.bool true)), .two (.is (.string r)) (.is (.bool true)), .is (.string r), .is (.bool true), .is (.string r), .is (.bool true)] [] [] [] J ?_ ?_
  · refine .pl rfl (fun _ _ W Γ => ev_move _ (Γ.s rfl)) ?_
    refine .pl rfl (fun _ _ W Γ => ev_call2 (Γ.f _) run_sCutPrefix (by rw [Γ.c, (show _ = Value.string s from (Γ.k (d := 9) 0 rfl))]; exact cutPrefix_gives W s ⟨#[45]⟩ r true HP.out.1 HP.out.2)) ?_
    refine .pl rfl (fun _ _ W Γ => ev_moveM (Γ.w 1 rfl)) ?_
    refine .pl rfl (fun _ _ W Γ => ev_ex20 (Γ.w 2 rfl)) ?_
    refine .pl rfl (fun _ _ W Γ => ev_ex21 (Γ.w 2 rfl)) ?_
    refine .pl rfl (fun _ _ W Γ => ev_assign _ (Γ.k 3 rfl)) ?_
    refine .pl rfl (fun _ _ W Γ => ev_assign _ (Γ.k 4 rfl)) ?_
    exact .nil
  clear J; intro K3 hK3; simp only [fx]; intro _ f3 W3 J; refine hK3.out _ _ ?_; clear hK3
  refine region_c [15, 16, 14, 17, 18, 7, 0, 8] [.is (.string r), .two (.num 0) (.is (.bool false)), .two (.num 0) (.is (.bool false)), .num 0, .is (.bool false), .any, .any, .is (.bool false)] [] [⟨.nat, 5, 6, .num 0, .agg #[.int .u64 0, .slice none 0 0]⟩] [] J ?_ ?_
  · refine .pl rfl (fun _ _ W Γ => ev_move _ (Γ.s rfl)) ?_
    refine .pl rfl (fun _ _ W Γ => ev_call1 (Γ.f _) run_Parse (by rw [(show _ = Value.string r from (Γ.k (d := 14) 0 rfl))]; exact HPR.out W)) ?_
    refine .pl rfl (fun _ _ W Γ => ev_moveM (Γ.w 1 rfl)) ?_
    refine .pl rfl (fun _ _ W Γ => ev_ex20 (Γ.w 2 rfl)) ?_
    refine .pl rfl (fun _ _ W Γ => ev_ex21 (Γ.w 2 rfl)) ?_
    refine .al 0 rfl rfl (fun _ _ => ev_alN) ?_
    refine .sn 0 rfl rfl (fun _ _ W Γ => ev_stN (Γ.q 0 rfl) (Γ.un 0 rfl) (Γ.w 3 rfl)) ?_
    refine .pl rfl (fun _ _ W Γ => ev_assign _ (Γ.k 4 rfl)) ?_
    exact .nil
  clear J; intro K4 hK4; simp only [fx]; intro β4 f4 W4 J; refine hK4.out _ _ ?_; clear hK4
  refine wp_seq_h ?_; intro K5 hK5
  refine region_c [19, 20, 21, 22, 23, 24, 25, 26, 27] [.is (.bool false), .is (.bool true), .is (.bool true), .is undef, .is undef, .is undef, .is undef, .is undef, .is (.bool true)] [] [] [] J ?_ ?_
  · refine .pl rfl (fun _ _ W Γ => ev_move _ (Γ.s rfl)) ?_
    refine .pl rfl (fun _ _ W Γ => ev_not (Γ.k 0 rfl) rfl) ?_
    refine .pl rfl (fun _ _ W Γ => ev_move _ (Γ.k 1 rfl)) ?_
    refine .off rfl rfl rfl rfl ?_
    refine .off rfl rfl rfl rfl ?_
    refine .offu rfl rfl rfl rfl ?_
    refine .offu rfl rfl rfl rfl ?_
    refine .off rfl rfl rfl rfl ?_
    refine .pl rfl (fun _ _ W Γ => ev_pick (Γ.k 2 rfl) (Γ.c _)) ?_
    exact .nil
  clear J; intro K6 hK6; simp only [fx]; intro _ f6 W6 J; refine hK6.out _ _ ?_; clear hK6
  refine wp_cond_true rfl ?_
  refine region_c [28, 0, 4] [.int 0, .any, .is (.bool false)] [some (1, .int 0)] [] [] J ?_ ?_
  · refine .pl rfl (fun _ _ W Γ => ev_zeroI) ?_
    refine .st 0 rfl rfl rfl (fun _ _ W Γ => ev_stI (Γ.s rfl) (Γ.u 0 rfl rfl) (Γ.w 0 rfl)) ?_
    refine .pl rfl (fun _ _ W Γ => ev_assign _ (Γ.c _)) ?_
    exact .nil
  clear J; intro K7 hK7; simp only [fx]; intro _ f7 W7 J; refine hK7.out _ _ ?_; clear hK7
  refine wp_ret ?_
  obtain ⟨u0, hx0, hm0⟩ := J.out.get 0 rfl
  obtain ⟨gr0, sr0, pr0, lr0, cr0, rfl, c0_0, c0_1, c0_2⟩ := hx0.int
  exact bodyPost_ret (v := .tuple #[.agg #[.bool gr0, .int .u64 sr0, .slice pr0 lr0 cr0], .bool false]) (by simp [results, Tryz.results5, go_sem, c0_0, c0_1, c0_2]) rfl ⟨_, rfl, ⟨_, _, rfl, hm0, rfl⟩, J.out.be⟩
set_option maxRecDepth 100000 in
set_option maxHeartbeats 4000000 in
theorem iparse_no (w : World) (s r : ByteArray) (v : Nat) (hp : Lib.trimPrefix s.data.toList [45] = r.data.toList ∧ Lib.hasPrefix s.data.toList [45] = true) (hr : ∀ w, Calls Tryz.prog 21 #[.string r] w (Gives w (.two (.num v) (.is (.bool true))))) (hz : v ≠ 0)  :
    Calls Tryz.prog 5 #[.string s] w (Gives w (.two (.int (-(v : Int))) (.is (.bool true)))) := by
  have HP := Lib.hid hp; have HPR := Lib.hid hr; clear hp hr
  have HZ : Hid (decide (v = 0) = false) := Lib.hid (decide_eq_false hz)
  have HI : Hid (decide ((-(v : Int)) < 0) = true ∧ ((-(v : Int))).natAbs = v) := Lib.hid ⟨decide_eq_true (by omega), by omega⟩
  clear hz
  go_enter Tryz.func5, Tryz.ntmps5
  have J := Frm.start (w := w) (V := []) fn
  refine wp_seq_h ?_; intro K1 hK1; go_wp2
  obtain ⟨W2, b2, eW2, eb2, sz2, J⟩ := Frm.putI0 J rfl
  rw [← eW2, ← eb2]
  clear eW2 eb2 sz2
  refine hK1.out _ _ ?_; clear hK1
  refine region_c [10, 11, 9, 12, 13, 5, 6] [.is (.string s), .two (.is (.string r)) (.is (.bool true)), .two (.is (.string r)) (.is (.bool true)), .is (.string r), .is (.bool true), .is (.string r), .is (.bool true)] [] [] [] J ?_ ?_
  · refine .pl rfl (fun _ _ W Γ => ev_move _ (Γ.s rfl)) ?_
    refine .pl rfl (fun _ _ W Γ => ev_call2 (Γ.f _) run_sCutPrefix (by rw [Γ.c, (show _ = Value.string s from (Γ.k (d := 9) 0 rfl))]; exact cutPrefix_gives W s ⟨#[45]⟩ r true HP.out.1 HP.out.2)) ?_
    refine .pl rfl (fun _ _ W Γ => ev_moveM (Γ.w 1 rfl)) ?_
    refine .pl rfl (fun _ _ W Γ => ev_ex20 (Γ.w 2 rfl)) ?_
    refine .pl rfl (fun _ _ W Γ => ev_ex21 (Γ.w 2 rfl)) ?_
    refine .pl rfl (fun _ _ W Γ => ev_assign _ (Γ.k 3 rfl)) ?_
    refine .pl rfl (fun _ _ W Γ => ev_assign _ (Γ.k 4 rfl)) ?_
    exact .nil
  clear J; intro K3 hK3; simp only [fx]; intro _ f3 W3 J; refine hK3.out _ _ ?_; clear hK3
  refine region_c [15, 16, 14, 17, 18, 7, 0, 8] [.is (.string r), .two (.num v) (.is (.bool true)), .two (.num v) (.is (.bool true)), .num v, .is (.bool true), .any, .any, .is (.bool true)] [] [⟨.nat, 5, 6, .num v, .agg #[.int .u64 0, .slice none 0 0]⟩] [] J ?_ ?_
  · refine .pl rfl (fun _ _ W Γ => ev_move _ (Γ.s rfl)) ?_
    refine .pl rfl (fun _ _ W Γ => ev_call1 (Γ.f _) run_Parse (by rw [(show _ = Value.string r from (Γ.k (d := 14) 0 rfl))]; exact HPR.out W)) ?_
    refine .pl rfl (fun _ _ W Γ => ev_moveM (Γ.w 1 rfl)) ?_
    refine .pl rfl (fun _ _ W Γ => ev_ex20 (Γ.w 2 rfl)) ?_
    refine .pl rfl (fun _ _ W Γ => ev_ex21 (Γ.w 2 rfl)) ?_
    refine .al 0 rfl rfl (fun _ _ => ev_alN) ?_
    refine .sn 0 rfl rfl (fun _ _ W Γ => ev_stN (Γ.q 0 rfl) (Γ.un 0 rfl) (Γ.w 3 rfl)) ?_
    refine .pl rfl (fun _ _ W Γ => ev_assign _ (Γ.k 4 rfl)) ?_
    exact .nil
  clear J; intro K4 hK4; simp only [fx]; intro β4 f4 W4 J; refine hK4.out _ _ ?_; clear hK4
  refine wp_seq_h ?_; intro K5 hK5
  refine region_c [19, 20, 21, 22, 23, 24, 25, 26, 27] [.is (.bool true), .is (.bool false), .is (.bool false), .is (.bool true), .is (.bool true), .num v, .is (.bool false), .is (.bool false), .is (.bool false)] [] [] [] J ?_ ?_
  · refine .pl rfl (fun _ _ W Γ => ev_move _ (Γ.s rfl)) ?_
    refine .pl rfl (fun _ _ W Γ => ev_not (Γ.k 0 rfl) rfl) ?_
    refine .pl rfl (fun _ _ W Γ => ev_move _ (Γ.k 1 rfl)) ?_
    refine .gu rfl rfl rfl rfl (fun _ _ W Γ => ev_move _ (Γ.s rfl)) ?_
    refine .gu rfl rfl rfl rfl (fun _ _ W Γ => ev_move _ (Γ.k 3 rfl)) ?_
    refine .gu rfl rfl rfl rfl (fun _ _ W Γ => ev_ldN (Γ.s rfl) (Γ.l 1 rfl)) ?_
    refine .gu rfl rfl rfl rfl (fun _ _ W Γ => ev_call1 (Γ.f _) run_iIsZero (iIsZero_val W _ v false HZ.out (Γ.w (d := 23) 5 rfl))) ?_
    refine .gu rfl rfl rfl rfl (fun _ _ W Γ => ev_pick (Γ.k 4 rfl) (Γ.k 6 rfl)) ?_
    refine .pl rfl (fun _ _ W Γ => ev_pick (Γ.k 2 rfl) (Γ.k 7 rfl)) ?_
    exact .nil
  clear J; intro K6 hK6; simp only [fx]; intro _ f6 W6 J; refine hK6.out _ _ ?_; clear hK6
  refine wp_cond_false rfl ?_
  refine wp_skip ?_
  refine hK5.out _ _ ?_; clear hK5
  refine region_c [29, 30, 31, 0, 4] [.is (.bool true), .num v, .int (-(v : Int)), .any, .is (.bool true)] [some (3, .int (-(v : Int)))] [] [] J ?_ ?_
  · refine .pl rfl (fun _ _ W Γ => ev_move _ (Γ.s rfl)) ?_
    refine .pl rfl (fun _ _ W Γ => ev_ldN (Γ.s rfl) (Γ.l 1 rfl)) ?_
    refine .pl rfl (fun _ _ W Γ => ev_mkI2 (Γ.k 0 rfl) (Γ.w 1 rfl) HI.out) ?_
    refine .st 0 rfl rfl rfl (fun _ _ W Γ => ev_stI (Γ.s rfl) (Γ.u 0 rfl rfl) (Γ.w 2 rfl)) ?_
    refine .pl rfl (fun _ _ W Γ => ev_assign _ (Γ.c _)) ?_
    exact .nil
  clear J; intro K7 hK7; simp only [fx]; intro _ f7 W7 J; refine hK7.out _ _ ?_; clear hK7
  refine wp_ret ?_
  obtain ⟨u0, hx0, hm0⟩ := J.out.get 0 rfl
  obtain ⟨gr0, sr0, pr0, lr0, cr0, rfl, c0_0, c0_1, c0_2⟩ := hx0.int
  exact bodyPost_ret (v := .tuple #[.agg #[.bool gr0, .int .u64 sr0, .slice pr0 lr0 cr0], .bool true]) (by simp [results, Tryz.results5, go_sem, c0_0, c0_1, c0_2]) rfl ⟨_, rfl, ⟨_, _, rfl, hm0, rfl⟩, J.out.be⟩
set_option maxRecDepth 100000 in
set_option maxHeartbeats 4000000 in
theorem iparse_noz (w : World) (s r : ByteArray) (v : Nat) (hp : Lib.trimPrefix s.data.toList [45] = r.data.toList ∧ Lib.hasPrefix s.data.toList [45] = true) (hr : ∀ w, Calls Tryz.prog 21 #[.string r] w (Gives w (.two (.num v) (.is (.bool true))))) (hz : v = 0)  :
    Calls Tryz.prog 5 #[.string s] w (Gives w (.two (.int 0) (.is (.bool false)))) := by
  have HP := Lib.hid hp; have HPR := Lib.hid hr; clear hp hr
  have HZ : Hid (decide (v = 0) = true) := Lib.hid (decide_eq_true hz)
  clear hz
  go_enter Tryz.func5, Tryz.ntmps5
  have J := Frm.start (w := w) (V := []) fn
  refine wp_seq_h ?_; intro K1 hK1; go_wp2
  obtain ⟨W2, b2, eW2, eb2, sz2, J⟩ := Frm.putI0 J rfl
  rw [← eW2, ← eb2]
  clear eW2 eb2 sz2
  refine hK1.out _ _ ?_; clear hK1
  refine region_c [10, 11, 9, 12, 13, 5, 6] [.is (.string s), .two (.is (.string r)) (.is (.bool true)), .two (.is (.string r)) (.is (.bool true)), .is (.string r), .is (.bool true), .is (.string r), .is (.bool true)] [] [] [] J ?_ ?_
  · refine .pl rfl (fun _ _ W Γ => ev_move _ (Γ.s rfl)) ?_
    refine .pl rfl (fun _ _ W Γ => ev_call2 (Γ.f _) run_sCutPrefix (by rw [Γ.c, (show _ = Value.string s from (Γ.k (d := 9) 0 rfl))]; exact cutPrefix_gives W s ⟨#[45]⟩ r true HP.out.1 HP.out.2)) ?_
    refine .pl rfl (fun _ _ W Γ => ev_moveM (Γ.w 1 rfl)) ?_
    refine .pl rfl (fun _ _ W Γ => ev_ex20 (Γ.w 2 rfl)) ?_
    refine .pl rfl (fun _ _ W Γ => ev_ex21 (Γ.w 2 rfl)) ?_
    refine .pl rfl (fun _ _ W Γ => ev_assign _ (Γ.k 3 rfl)) ?_
    refine .pl rfl (fun _ _ W Γ => ev_assign _ (Γ.k 4 rfl)) ?_
    exact .nil
  clear J; intro K3 hK3; simp only [fx]; intro _ f3 W3 J; refine hK3.out _ _ ?_; clear hK3
  refine region_c [15, 16, 14, 17, 18, 7, 0, 8] [.is (.string r), .two (.num v) (.is (.bool true)), .two (.num v) (.is (.bool true)), .num v, .is (.bool true), .any, .any, .is (.bool true)] [] [⟨.nat, 5, 6, .num v, .agg #[.int .u64 0, .slice none 0 0]⟩] [] J ?_ ?_
  · refine .pl rfl (fun _ _ W Γ => ev_move _ (Γ.s rfl)) ?_
    refine .pl rfl (fun _ _ W Γ => ev_call1 (Γ.f _) run_Parse (by rw [(show _ = Value.string r from (Γ.k (d := 14) 0 rfl))]; exact HPR.out W)) ?_
    refine .pl rfl (fun _ _ W Γ => ev_moveM (Γ.w 1 rfl)) ?_
    refine .pl rfl (fun _ _ W Γ => ev_ex20 (Γ.w 2 rfl)) ?_
    refine .pl rfl (fun _ _ W Γ => ev_ex21 (Γ.w 2 rfl)) ?_
    refine .al 0 rfl rfl (fun _ _ => ev_alN) ?_
    refine .sn 0 rfl rfl (fun _ _ W Γ => ev_stN (Γ.q 0 rfl) (Γ.un 0 rfl) (Γ.w 3 rfl)) ?_
    refine .pl rfl (fun _ _ W Γ => ev_assign _ (Γ.k 4 rfl)) ?_
    exact .nil
  clear J; intro K4 hK4; simp only [fx]; intro β4 f4 W4 J; refine hK4.out _ _ ?_; clear hK4
  refine wp_seq_h ?_; intro K5 hK5
  refine region_c [19, 20, 21, 22, 23, 24, 25, 26, 27] [.is (.bool true), .is (.bool false), .is (.bool false), .is (.bool true), .is (.bool true), .num v, .is (.bool true), .is (.bool true), .is (.bool true)] [] [] [] J ?_ ?_
  · refine .pl rfl (fun _ _ W Γ => ev_move _ (Γ.s rfl)) ?_
    refine .pl rfl (fun _ _ W Γ => ev_not (Γ.k 0 rfl) rfl) ?_
    refine .pl rfl (fun _ _ W Γ => ev_move _ (Γ.k 1 rfl)) ?_
    refine .gu rfl rfl rfl rfl (fun _ _ W Γ => ev_move _ (Γ.s rfl)) ?_
    refine .gu rfl rfl rfl rfl (fun _ _ W Γ => ev_move _ (Γ.k 3 rfl)) ?_
    refine .gu rfl rfl rfl rfl (fun _ _ W Γ => ev_ldN (Γ.s rfl) (Γ.l 1 rfl)) ?_
    refine .gu rfl rfl rfl rfl (fun _ _ W Γ => ev_call1 (Γ.f _) run_iIsZero (iIsZero_val W _ v true HZ.out (Γ.w (d := 23) 5 rfl))) ?_
    refine .gu rfl rfl rfl rfl (fun _ _ W Γ => ev_pick (Γ.k 4 rfl) (Γ.k 6 rfl)) ?_
    refine .pl rfl (fun _ _ W Γ => ev_pick (Γ.k 2 rfl) (Γ.k 7 rfl)) ?_
    exact .nil
  clear J; intro K6 hK6; simp only [fx]; intro _ f6 W6 J; refine hK6.out _ _ ?_; clear hK6
  refine wp_cond_true rfl ?_
  refine region_c [28, 0, 4] [.int 0, .any, .is (.bool false)] [some (1, .int 0)] [] [] J ?_ ?_
  · refine .pl rfl (fun _ _ W Γ => ev_zeroI) ?_
    refine .st 0 rfl rfl rfl (fun _ _ W Γ => ev_stI (Γ.s rfl) (Γ.u 0 rfl rfl) (Γ.w 0 rfl)) ?_
    refine .pl rfl (fun _ _ W Γ => ev_assign _ (Γ.c _)) ?_
    exact .nil
  clear J; intro K7 hK7; simp only [fx]; intro _ f7 W7 J; refine hK7.out _ _ ?_; clear hK7
  refine wp_ret ?_
  obtain ⟨u0, hx0, hm0⟩ := J.out.get 0 rfl
  obtain ⟨gr0, sr0, pr0, lr0, cr0, rfl, c0_0, c0_1, c0_2⟩ := hx0.int
  exact bodyPost_ret (v := .tuple #[.agg #[.bool gr0, .int .u64 sr0, .slice pr0 lr0 cr0], .bool false]) (by simp [results, Tryz.results5, go_sem, c0_0, c0_1, c0_2]) rfl ⟨_, rfl, ⟨_, _, rfl, hm0, rfl⟩, J.out.be⟩
end Go.Proofs.YtfjjmhbffbhhdaaGreatDoor
