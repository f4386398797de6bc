/- NatKnown: the examples of chapter 1 and more, run. -/
import Derived.Test.YtfjjmhbffbhhdaaDoorNTexts
import Derived.Test.YtfjjmhbffbhhdaaDoorRoots0
import Derived.Test.YtfjjmhbffbhhdaaDoorDig
import Derived.Test.YtfjjmhbffbhhdaaDoorDivN
import Derived.Test.YtfjjmhbffbhhdaaDoorTabPow
import Derived.Lay
import Derived.Shelf.Vars
namespace Go.Proofs.YtfjjmhbffbhhdaaDoor
open Go.RowKit

theorem run_nPow : RowKit.Hid (∀ (a : Array Value) (w : World), Sem.run Tryd.prog (callFunc 10 a) w = .ok (.enter 10 a) w) := fun a w => by go_simp
theorem run_nRoot : RowKit.Hid (∀ (a : Array Value) (w : World), Sem.run Tryd.prog (callFunc 13 a) w = .ok (.enter 13 a) w) := fun a w => by go_simp
theorem run_nShift : RowKit.Hid (∀ (a : Array Value) (w : World), Sem.run Tryd.prog (callFunc 17 a) w = .ok (.enter 17 a) w) := fun a w => by go_simp
theorem run_nSub : RowKit.Hid (∀ (a : Array Value) (w : World), Sem.run Tryd.prog (callFunc 7 a) w = .ok (.enter 7 a) w) := fun a w => by go_simp
theorem sz (n k : Nat) (hk : 0 < k) (h : n < (2 ^ 64) ^ k) : (ds n).length ≤ k := ds_le hk h
set_option maxRecDepth 100000 in
theorem ev_lenRow {E : Operand → Value} {w : World} {d : Option Tmp} {ty : TypeId} {pos : String} {af : Array Edge} {gd : Option (Nat × Bool)} {x : Operand} {xs : List Nat} {n : Nat} (h : Means w (.that (rowS xs)) (E x)) (hn : xs.length = n) :
    Does Tryd.prog ⟨d, .call ⟨.builtin .len, #[x], #[40]⟩, ty, pos, af, gd⟩ E w fun v' w' => v' = .int .i64 (n : Int) ∧ Below w.heap.size w w' := by
  subst hn
  obtain ⟨_, b, off, c, e, _⟩ := h
  exact Does.value (w' := w) (by go_simp) ⟨rfl, Below.refl _ _⟩
theorem parse_big (W : World) : Calls Tryd.prog 5 #[.string ⟨#[51, 52, 48, 50, 56, 50, 51, 54, 54, 57, 50, 48, 57, 51, 56, 52, 54, 51, 52, 54, 51, 51, 55, 52, 54, 48, 55, 52, 51, 49, 55, 54, 56, 50, 49, 49, 52, 53, 54]⟩] W (Gives W (.two (.num 340282366920938463463374607431768211456) (.is (.bool true)))) := by
  have h := (parse_text W ⟨#[51, 52, 48, 50, 56, 50, 51, 54, 54, 57, 50, 48, 57, 51, 56, 52, 54, 51, 52, 54, 51, 51, 55, 52, 54, 48, 55, 52, 51, 49, 55, 54, 56, 50, 49, 49, 52, 53, 54]⟩ [51, 52, 48, 50, 56, 50, 51, 54, 54, 57, 50, 48, 57, 51, 56, 52, 54, 51, 52, 54, 51, 51, 55, 52, 54, 48, 55, 52, 51, 49, 55, 54, 56, 50, 49, 49, 52, 53, 54] ⟨by decide, by decide +kernel⟩ (by decide)).1 ⟨by decide, by decide, Or.inl (by decide), by decide +kernel⟩
  have e : decv (([51, 52, 48, 50, 56, 50, 51, 54, 54, 57, 50, 48, 57, 51, 56, 52, 54, 51, 52, 54, 51, 51, 55, 52, 54, 48, 55, 52, 51, 49, 55, 54, 56, 50, 49, 49, 52, 53, 54] : List Nat).map (· - 48)) = 340282366920938463463374607431768211456 := by decide +kernel
  rw [e] at h
  exact h
theorem sub_none (w : World) (u v : Value) (m n : Nat) (hm : (ds m).length ≤ 60) (hlt : m < n) (h1 : Num w u m) (h2 : Num w v n) : Calls Tryd.prog 7 #[u, v] w (Gives w (.two (.num 0) (.is (.bool false)))) := by
  obtain ⟨s, p, l, c, rfl, h1⟩ := h1
  obtain ⟨t, q, k, d, rfl, h2⟩ := h2
  refine (sub_any s t p q l c k d m n w (by omega) h1 h2).mono fun e w' h => ?_
  obtain ⟨he, hb⟩ := h.lt hlt
  exact ⟨_, he, ⟨_, _, rfl, ⟨_, _, _, _, rfl, Or.inl ⟨by omega, rfl, rfl, rfl, rfl⟩⟩, rfl⟩, hb⟩
theorem div_by0 (w : World) (u v : Value) (m : Nat) (h1 : Num w u m) (h2 : Num w v 0) : Calls Tryd.prog 8 #[u, v] w (Gives w (.three (.num 0) (.num 0) (.is (.bool false)))) := by
  obtain ⟨s, p, l, c, rfl, h1⟩ := h1
  obtain ⟨t, q, k, d, rfl, ⟨_, rfl, rfl, rfl, rfl⟩ | ⟨h2, _⟩⟩ := h2
  · refine (div_zero s p l c w).mono fun e w' ⟨he, hb⟩ => ⟨_, he, ⟨_, _, _, rfl, ⟨_, _, _, _, rfl, Or.inl ⟨by omega, rfl, rfl, rfl, rfl⟩⟩, ⟨_, _, _, _, rfl, Or.inl ⟨by omega, rfl, rfl, rfl, rfl⟩⟩, rfl⟩, hb⟩
  · omega
theorem small_big (w : World) (u : Value) (n : Nat) (hn : 2 ^ 64 ≤ n) (h : Num w u n) : Calls Tryd.prog 9 #[u] w (Gives w (.two (.is (.int .u64 0)) (.is (.bool false)))) := by
  obtain ⟨s, p, l, c, rfl, h | ⟨_, rfl, b, off, rfl, h4, h5, h6⟩⟩ := h
  · omega
  · have hl : 0 < l := by rw [h4]; exact ds_pos n
    refine (nsmall_any 0 _ l c w).mono fun e w' ⟨he, hb⟩ => ⟨_, he, ⟨_, _, rfl, rfl, ?_⟩, hb⟩
    show Value.bool _ = _
    congr 1
    exact beq_eq_false_iff_ne.2 (by omega)
theorem pow_two (w : World) (u : Value) (n : Nat) (hn : n ≤ 200) (h : Num w u 2) : Calls Tryd.prog 10 #[u, .int .i64 (n : Int)] w (Gives w (.two (.num (2 ^ n)) (.is (.bool true)))) := by
  obtain ⟨s, p, l, c, rfl, h⟩ := h
  have h2 : (2 : Nat) ^ 200 < (2 ^ 64) ^ 4 := by decide +kernel
  refine (pow_gen 2 n s p l c w (Nat.le_trans (sz 2 1 (by decide) (by decide)) (by decide)) (fun e he => Nat.le_trans (sz _ 4 (by decide) (Nat.lt_of_le_of_lt (Nat.pow_le_pow_right (by decide) (show e ≤ 200 by omega)) h2)) (by decide)) (by omega) h).mono ?_
  rintro e w' ⟨_, _, _, _, he, a, hb⟩
  exact ⟨_, he, ⟨_, _, rfl, ⟨_, _, _, _, rfl, a⟩, rfl⟩, hb⟩
theorem pow_none (w : World) (u : Value) (m : Nat) (h : Num w u m) : Calls Tryd.prog 10 #[u, .int .i64 (-1)] w (Gives w (.two (.num 0) (.is (.bool false)))) := by
  obtain ⟨s, p, l, c, rfl, h⟩ := h
  exact (pow_neg (-1) s p l c w (by decide)).mono fun e w' ⟨he, hb⟩ => ⟨_, he, ⟨_, _, rfl, ⟨_, _, _, _, rfl, Or.inl ⟨by omega, rfl, rfl, rfl, rfl⟩⟩, rfl⟩, hb⟩
theorem shift_gives (w : World) (u : Value) (m n r : Nat) (z : Int) (hz : z = -(n : Int)) (hr : m / 2 ^ n = r) (hm : (ds m).length ≤ 6) (h0 : 0 < n) (hn : n ≤ 65536) (h : Num w u m) : Calls Tryd.prog 17 #[u, .int .i64 z] w (Gives w (.num r)) := by
  subst hz hr
  obtain ⟨s, p, l, c, rfl, h⟩ := h
  exact (shift_down m n s p l c w (by omega) h0 hn h).mono fun _ _ h => h.want
theorem nbits_lit (w : World) (u : Value) (n k : Nat) (hk : bitLen n = k) (hn : (ds n).length ≤ 6) (h : Num w u n) : Calls Tryd.prog 12 #[u] w (Gives w (.is (.int .i64 (k : Int)))) := by
  subst hk; exact nbits_gives w u n hn h
theorem ntext_lit (w : World) (u : Value) (n : Nat) (l : List UInt8) (hl : Lib.decDigits n = l) (hn : (ds n).length ≤ 6) (ht : TabP w) (h : Num w u n) : Calls Tryd.prog 14 #[u] w (Gives w (.is (.string ⟨l.toArray⟩))) := by
  subst hl; exact ntext_gives w u n hn ht h
theorem dec_root : Lib.decDigits 18446744073709551616 = [49, 56, 52, 52, 54, 55, 52, 52, 48, 55, 51, 55, 48, 57, 53, 53, 49, 54, 49, 54] := by simp [Lib.decDigits]
theorem dec_0 : Lib.decDigits 0 = [48] := by simp [Lib.decDigits]
theorem dec_1 : Lib.decDigits 1 = [49] := by simp [Lib.decDigits]
theorem bit_A : bitLen 340282366920938463463374607431768211456 = 129 := by decide +kernel
theorem len_A : (be 340282366920938463463374607431768211456).length = 17 := by rw [be_length, bit_A]
theorem len_0 : (be 0).length = 0 := by rw [be_length]; decide
set_option maxRecDepth 100000 in
set_option maxHeartbeats 4000000 in
theorem nknown_gives (w : World) (hT : TabP w)  :
    Calls Tryd.prog 3 #[] w (Gives w (.is (.bool true))) := by
  have TB := Lib.hid hT; clear hT
  go_enter Tryd.func3, Tryd.ntmps3
  have J := Frm.start (w := w) (V := []) fn
  refine wp_seq_h ?_; intro K1 hK1; go_wp2
  refine hK1.out _ _ ?_; clear hK1
  refine wp_seq_h ?_; intro K2 hK2; go_wp2
  obtain ⟨W3, b3, eW3, eb3, sz3, J⟩ := Frm.putN0 J rfl
  rw [← eW3, ← eb3]; clear eW3 eb3 sz3; refine hK2.out _ _ ?_; clear hK2
  refine region_c [19, 18, 20, 21, 3, 0, 4] [.two (.num 340282366920938463463374607431768211456) (.is (.bool true)), .two (.num 340282366920938463463374607431768211456) (.is (.bool true)), .num 340282366920938463463374607431768211456, .is (.bool true), .any, .any, .is (.bool true)] [] [⟨.nat, 4, 5, .num 340282366920938463463374607431768211456, .agg #[.int .u64 0, .slice none 0 0]⟩] [] J ?_ ?_
  · refine .pl rfl (fun _ _ W Γ => ev_call1 (Γ.f _) run_Parse (by rw [Γ.c]; exact parse_big W)) ?_
    refine .pl rfl (fun _ _ W Γ => ev_moveM (Γ.w 0 rfl)) ?_
    refine .pl rfl (fun _ _ W Γ => ev_ex20 (Γ.w 1 rfl)) ?_
    refine .pl rfl (fun _ _ W Γ => ev_ex21 (Γ.w 1 rfl)) ?_
    refine .al 0 rfl rfl (fun _ _ => ev_alN) ?_
    refine .sn 0 rfl rfl (fun _ _ W Γ => ev_stN (Γ.q 0 rfl) (Γ.un 0 rfl) (Γ.w 2 rfl)) ?_
    refine .pl rfl (fun _ _ W Γ => ev_assign _ (Γ.k 3 rfl)) ?_
    exact .nil
  clear J; intro K4 hK4; simp only [fx]; intro β4 f4 W4 J; refine hK4.out _ _ ?_; clear hK4
  refine region_c [23, 24, 25, 22, 26, 27, 5, 0, 6] [.num 3, .num 4, .two (.num 0) (.is (.bool false)), .two (.num 0) (.is (.bool false)), .num 0, .is (.bool false), .any, .any, .is (.bool false)] [] [⟨.nat, 6, 7, .num 0, .agg #[.int .u64 0, .slice none 0 0]⟩] [] J ?_ ?_
  · refine .pl rfl (fun _ _ W Γ => ev_call1 (Γ.f _) run_Of (by rw [Γ.c]; exact of_gives 3 (by decide) W)) ?_
    refine .pl rfl (fun _ _ W Γ => ev_call1 (Γ.f _) run_Of (by rw [Γ.c]; exact of_gives 4 (by decide) W)) ?_
    refine .pl rfl (fun _ _ W Γ => ev_call2 (Γ.f _) run_nSub (sub_none W _ _ 3 4 (Nat.le_trans (sz 3 1 (by decide) (by decide)) (by decide)) (by decide) (Γ.w (d := 22) 0 rfl) (Γ.w (d := 23) 1 rfl))) ?_
    refine .pl rfl (fun _ _ W Γ => ev_moveM (Γ.w 2 rfl)) ?_
    refine .pl rfl (fun _ _ W Γ => ev_ex20 (Γ.w 3 rfl)) ?_
    refine .pl rfl (fun _ _ W Γ => ev_ex21 (Γ.w 3 rfl)) ?_
    refine .al 0 rfl rfl (fun _ _ => ev_alN) ?_
    refine .sn 0 rfl rfl (fun _ _ W Γ => ev_stN (Γ.q 0 rfl) (Γ.un 0 rfl) (Γ.w 4 rfl)) ?_
    refine .pl rfl (fun _ _ W Γ => ev_assign _ (Γ.k 5 rfl)) ?_
    exact .nil
  clear J; intro K5 hK5; simp only [fx]; intro β5 f5 W5 J; refine hK5.out _ _ ?_; clear hK5
  refine region_c [29, 30, 31, 28, 32, 33, 34, 7, 8, 0, 0, 9] [.num 340282366920938463463374607431768211456, .num 0, .three (.num 0) (.num 0) (.is (.bool false)), .three (.num 0) (.num 0) (.is (.bool false)), .num 0, .num 0, .is (.bool false), .any, .any, .any, .any, .is (.bool false)] [] [⟨.nat, 7, 9, .num 0, .agg #[.int .u64 0, .slice none 0 0]⟩, ⟨.nat, 8, 10, .num 0, .agg #[.int .u64 0, .slice none 0 0]⟩] [] J ?_ ?_
  · refine .pl rfl (fun _ _ W Γ => ev_ldN (Γ.s rfl) (Γ.l 1 rfl)) ?_
    refine .pl rfl (fun _ _ W Γ => ev_ldN (Γ.s rfl) (Γ.l 0 rfl)) ?_
    refine .pl rfl (fun _ _ W Γ => ev_call2 (Γ.f _) run_nDiv (div_by0 W _ _ 340282366920938463463374607431768211456 (Γ.w (d := 28) 0 rfl) (Γ.w (d := 29) 1 rfl))) ?_
    refine .pl rfl (fun _ _ W Γ => ev_moveM (Γ.w 2 rfl)) ?_
    refine .pl rfl (fun _ _ W Γ => ev_ex30 (Γ.w 3 rfl)) ?_
    refine .pl rfl (fun _ _ W Γ => ev_ex31 (Γ.w 3 rfl)) ?_
    refine .pl rfl (fun _ _ W Γ => ev_ex32 (Γ.w 3 rfl)) ?_
    refine .al 0 rfl rfl (fun _ _ => ev_alN) ?_
    refine .al 1 rfl rfl (fun _ _ => ev_alN) ?_
    refine .sn 0 rfl rfl (fun _ _ W Γ => ev_stN (Γ.q 0 rfl) (Γ.un 0 rfl) (Γ.w 4 rfl)) ?_
    refine .sn 1 rfl rfl (fun _ _ W Γ => ev_stN (Γ.q 1 rfl) (Γ.un 1 rfl) (Γ.w 5 rfl)) ?_
    refine .pl rfl (fun _ _ W Γ => ev_assign _ (Γ.k 6 rfl)) ?_
    exact .nil
  clear J; intro K6 hK6; simp only [fx]; intro β6 f6 W6 J; refine hK6.out _ _ ?_; clear hK6
  refine region_c [36, 37, 35, 38, 39, 10, 11] [.num 340282366920938463463374607431768211456, .two (.is (.int .u64 0)) (.is (.bool false)), .two (.is (.int .u64 0)) (.is (.bool false)), .is (.int .u64 0), .is (.bool false), .is (.int .u64 0), .is (.bool false)] [] [] [] J ?_ ?_
  · refine .pl rfl (fun _ _ W Γ => ev_ldN (Γ.s rfl) (Γ.l 1 rfl)) ?_
    refine .pl rfl (fun _ _ W Γ => ev_call1 (Γ.f _) run_nSmall (small_big W _ 340282366920938463463374607431768211456 (by decide) (Γ.w (d := 35) 0 rfl))) ?_
    refine .pl rfl (fun _ _ W Γ => ev_moveM (Γ.w 1 rfl)) ?_
    refine .pl rfl (fun _ _ W Γ => ev_ex20 (Γ.w 2 rfl)) ?_
    refine .pl rfl (fun _ _ W Γ => ev_ex21 (Γ.w 2 rfl)) ?_
    refine .pl rfl (fun _ _ W Γ => ev_assign _ (Γ.k 3 rfl)) ?_
    refine .pl rfl (fun _ _ W Γ => ev_assign _ (Γ.k 4 rfl)) ?_
    exact .nil
  clear J; intro K7 hK7; simp only [fx]; intro _ f7 W7 J; refine hK7.out _ _ ?_; clear hK7
  refine region_c [41, 42, 40, 43, 44, 12, 0, 13] [.num 2, .two (.num 340282366920938463463374607431768211456) (.is (.bool true)), .two (.num 340282366920938463463374607431768211456) (.is (.bool true)), .num 340282366920938463463374607431768211456, .is (.bool true), .any, .any, .is (.bool true)] [] [⟨.nat, 5, 6, .num 340282366920938463463374607431768211456, .agg #[.int .u64 0, .slice none 0 0]⟩] [] J ?_ ?_
  · refine .pl rfl (fun _ _ W Γ => ev_call1 (Γ.f _) run_Of (by rw [Γ.c]; exact of_gives 2 (by decide) W)) ?_
    refine .pl rfl (fun _ _ W Γ => ev_call2 (Γ.f _) run_nPow (by rw [Γ.c]; exact show Calls Tryd.prog 10 #[_, _] W (Gives W (.two (.num 340282366920938463463374607431768211456) (.is (.bool true)))) from (show (2 : Nat) ^ 128 = 340282366920938463463374607431768211456 from rfl) ▸ pow_two W _ 128 (by decide) (Γ.w (d := 40) 0 rfl))) ?_
    refine .pl rfl (fun _ _ W Γ => ev_moveM (Γ.w 1 rfl)) ?_
    refine .pl rfl (fun _ _ W Γ => ev_ex20 (Γ.w 2 rfl)) ?_
    refine .pl rfl (fun _ _ W Γ => ev_ex21 (Γ.w 2 rfl)) ?_
    refine .al 0 rfl rfl (fun _ _ => ev_alN) ?_
    refine .sn 0 rfl rfl (fun _ _ W Γ => ev_stN (Γ.q 0 rfl) (Γ.un 0 rfl) (Γ.w 3 rfl)) ?_
    refine .pl rfl (fun _ _ W Γ => ev_assign _ (Γ.k 4 rfl)) ?_
    exact .nil
  clear J; intro K8 hK8; simp only [fx]; intro β8 f8 W8 J; refine hK8.out _ _ ?_; clear hK8
  refine region_c [46, 47, 45, 48, 49, 14, 0, 15] [.num 2, .two (.num 0) (.is (.bool false)), .two (.num 0) (.is (.bool false)), .num 0, .is (.bool false), .any, .any, .is (.bool false)] [] [⟨.nat, 5, 6, .num 0, .agg #[.int .u64 0, .slice none 0 0]⟩] [] J ?_ ?_
  · refine .pl rfl (fun _ _ W Γ => ev_call1 (Γ.f _) run_Of (by rw [Γ.c]; exact of_gives 2 (by decide) W)) ?_
    refine .pl rfl (fun _ _ W Γ => ev_call2 (Γ.f _) run_nPow (by rw [Γ.c]; exact pow_none W _ 2 (Γ.w (d := 45) 0 rfl))) ?_
    refine .pl rfl (fun _ _ W Γ => ev_moveM (Γ.w 1 rfl)) ?_
    refine .pl rfl (fun _ _ W Γ => ev_ex20 (Γ.w 2 rfl)) ?_
    refine .pl rfl (fun _ _ W Γ => ev_ex21 (Γ.w 2 rfl)) ?_
    refine .al 0 rfl rfl (fun _ _ => ev_alN) ?_
    refine .sn 0 rfl rfl (fun _ _ W Γ => ev_stN (Γ.q 0 rfl) (Γ.un 0 rfl) (Γ.w 3 rfl)) ?_
    refine .pl rfl (fun _ _ W Γ => ev_assign _ (Γ.k 4 rfl)) ?_
    exact .nil
  clear J; intro K9 hK9; simp only [fx]; intro β9 f9 W9 J; refine hK9.out _ _ ?_; clear hK9
  refine region_c [51, 52, 50, 53, 54, 16, 17] [.num 18446744073709551615, .two (.is (.int .u64 18446744073709551615)) (.is (.bool true)), .two (.is (.int .u64 18446744073709551615)) (.is (.bool true)), .is (.int .u64 18446744073709551615), .is (.bool true), .is (.int .u64 18446744073709551615), .is (.bool true)] [] [] [] J ?_ ?_
  · refine .pl rfl (fun _ _ W Γ => ev_call1 (Γ.f _) run_Of (by rw [Γ.c]; exact of_gives 18446744073709551615 (by decide) W)) ?_
    refine .pl rfl (fun _ _ W Γ => ev_call1 (Γ.f _) run_nSmall (small_lt W _ 18446744073709551615 (by decide) (Γ.w (d := 50) 0 rfl))) ?_
    refine .pl rfl (fun _ _ W Γ => ev_moveM (Γ.w 1 rfl)) ?_
    refine .pl rfl (fun _ _ W Γ => ev_ex20 (Γ.w 2 rfl)) ?_
    refine .pl rfl (fun _ _ W Γ => ev_ex21 (Γ.w 2 rfl)) ?_
    refine .pl rfl (fun _ _ W Γ => ev_assign _ (Γ.k 3 rfl)) ?_
    refine .pl rfl (fun _ _ W Γ => ev_assign _ (Γ.k 4 rfl)) ?_
    exact .nil
  clear J; intro K10 hK10; simp only [fx]; intro _ f10 W10 J; refine hK10.out _ _ ?_; clear hK10
  refine region_c [55, 56, 57, 58, 59, 60, 61, 62, 63, 64, 65, 66, 67, 68, 69, 70, 71, 72, 73, 74, 75, 76, 77, 78, 79, 80, 81, 82, 83, 84, 85, 86, 87, 88, 89, 90, 91, 92, 93, 94, 95, 96, 97, 98, 99, 100, 101, 102, 103, 104, 105, 106, 107, 108, 109, 110, 111, 112, 113, 114, 115, 116, 117, 118, 119, 120, 121, 122, 123, 124, 125, 126, 127, 128, 129, 130, 131, 132, 133, 134, 135, 1] [.is (.bool true), .is (.bool true), .is (.bool true), .is (.bool true), .is (.bool true), .num 340282366920938463463374607431768211456, .is (.int .i64 129), .is (.bool true), .is (.bool true), .is (.bool true), .num 340282366920938463463374607431768211456, .num 18446744073709551616, .is (.string ⟨#[49, 56, 52, 52, 54, 55, 52, 52, 48, 55, 51, 55, 48, 57, 53, 53, 49, 54, 49, 54]⟩), .is (.bool true), .is (.bool true), .is (.bool true), .num 340282366920938463463374607431768211456, .num 340282366920938463463374607431768211456, .is (.int .i64 0), .is (.bool true), .is (.bool true), .is (.bool true), .is (.bool true), .is (.bool true), .is (.bool true), .is (.bool false), .is (.bool true), .is (.bool true), .is (.bool true), .is (.bool false), .is (.bool true), .is (.bool true), .is (.bool true), .is (.bool false), .is (.bool true), .is (.bool true), .is (.bool true), .is (.bool false), .is (.bool true), .is (.bool true), .is (.bool true), .is (.int .u64 18446744073709551615), .is (.bool true), .is (.bool true), .is (.bool true), .is (.bool true), .is (.bool true), .is (.bool true), .num 0, .is (.string ⟨#[48]⟩), .is (.bool true), .is (.bool true), .is (.bool true), .num 0, .that (rowS (be 0)), .is (.int .i64 0), .is (.bool true), .is (.bool true), .is (.bool true), .num 0, .is (.int .i64 0), .is (.bool true), .is (.bool true), .is (.bool true), .num 340282366920938463463374607431768211456, .num 1, .is (.string ⟨#[49]⟩), .is (.bool true), .is (.bool true), .is (.bool true), .num 340282366920938463463374607431768211456, .num 0, .is (.int .i64 0), .is (.bool true), .is (.bool true), .is (.bool true), .num 340282366920938463463374607431768211456, .that (rowS (be 340282366920938463463374607431768211456)), .is (.int .i64 17), .is (.bool true), .is (.bool true), .is (.bool true)] [] [] [] J ?_ ?_
  · refine .pl rfl (fun _ _ W Γ => ev_call0 (Γ.f _) run_known (known_gives W)) ?_
    refine .pl rfl (fun _ _ W Γ => ev_move _ (Γ.k 0 rfl)) ?_
    refine .gu rfl rfl rfl rfl (fun _ _ W Γ => ev_move _ (Γ.s rfl)) ?_
    refine .pl rfl (fun _ _ W Γ => ev_pick (Γ.k 1 rfl) (Γ.k 2 rfl)) ?_
    refine .pl rfl (fun _ _ W Γ => ev_move _ (Γ.k 3 rfl)) ?_
    refine .gu rfl rfl rfl rfl (fun _ _ W Γ => ev_ldN (Γ.s rfl) (Γ.l 1 rfl)) ?_
    refine .gu rfl rfl rfl rfl (fun _ _ W Γ => ev_call1 (Γ.f _) run_nBits (nbits_lit W _ 340282366920938463463374607431768211456 129 bit_A (sz 340282366920938463463374607431768211456 6 (by decide) (by decide +kernel)) (Γ.w (d := 59) 5 rfl))) ?_
    refine .gu rfl rfl rfl rfl (fun _ E W Γ => by
      have e1 : E (.tmp 60) = .int .i64 129 := (Γ.k 6 rfl)
      have hc := Γ.c
      exact Does.value (w' := W) (by go_simp <;> first | rfl | (rw [IntKind.wrap_i64]; omega)) ⟨rfl, Below.refl _ _⟩) ?_
    refine .pl rfl (fun _ _ W Γ => ev_pick (Γ.k 4 rfl) (Γ.k 7 rfl)) ?_
    refine .pl rfl (fun _ _ W Γ => ev_move _ (Γ.k 8 rfl)) ?_
    refine .gu rfl rfl rfl rfl (fun _ _ W Γ => ev_ldN (Γ.s rfl) (Γ.l 1 rfl)) ?_
    refine .gu rfl rfl rfl rfl (fun _ _ W Γ => ev_call1 (Γ.f _) run_nRoot (show Calls Tryd.prog 13 #[_] W (Gives W (.num 18446744073709551616)) from (root_want W _ 340282366920938463463374607431768211456 18446744073709551616 (by decide) (by decide) (Nat.le_trans (sz 340282366920938463463374607431768211456 6 (by decide) (by decide +kernel)) (by decide)) (Γ.w (d := 64) 10 rfl)))) ?_
    refine .gu rfl rfl rfl rfl (fun _ _ W Γ => ev_call1 (Γ.f _) run_nText (ntext_lit W _ 18446744073709551616 [49, 56, 52, 52, 54, 55, 52, 52, 48, 55, 51, 55, 48, 57, 53, 53, 49, 54, 49, 54] dec_root (sz 18446744073709551616 6 (by decide) (by decide +kernel)) (TB.out.mono Γ.be) (Γ.w (d := 65) 11 rfl))) ?_
    refine .gu rfl rfl rfl rfl (fun _ E W Γ => by
      have e1 : E (.tmp 66) = .string ⟨#[49, 56, 52, 52, 54, 55, 52, 52, 48, 55, 51, 55, 48, 57, 53, 53, 49, 54, 49, 54]⟩ := (Γ.k 12 rfl)
      have hc := Γ.c
      exact Does.value (w' := W) (by go_simp <;> first | rfl | (rw [IntKind.wrap_i64]; omega)) ⟨rfl, Below.refl _ _⟩) ?_
    refine .pl rfl (fun _ _ W Γ => ev_pick (Γ.k 9 rfl) (Γ.k 13 rfl)) ?_
    refine .pl rfl (fun _ _ W Γ => ev_move _ (Γ.k 14 rfl)) ?_
    refine .gu rfl rfl rfl rfl (fun _ _ W Γ => ev_ldN (Γ.s rfl) (Γ.l 1 rfl)) ?_
    refine .gu rfl rfl rfl rfl (fun _ _ W Γ => ev_ldN (Γ.s rfl) (Γ.l 5 rfl)) ?_
    refine .gu rfl rfl rfl rfl (fun _ _ W Γ => ev_call2 (Γ.f _) run_nCmp (cmp_self W _ _ 340282366920938463463374607431768211456 (sz 340282366920938463463374607431768211456 6 (by decide) (by decide +kernel)) (Γ.w (d := 70) 16 rfl) (Γ.w (d := 71) 17 rfl))) ?_
    refine .gu rfl rfl rfl rfl (fun _ E W Γ => by
      have e1 : E (.tmp 72) = .int .i64 0 := (Γ.k 18 rfl)
      have hc := Γ.c
      exact Does.value (w' := W) (by go_simp <;> first | rfl | (rw [IntKind.wrap_i64]; omega)) ⟨rfl, Below.refl _ _⟩) ?_
    refine .pl rfl (fun _ _ W Γ => ev_pick (Γ.k 15 rfl) (Γ.k 19 rfl)) ?_
    refine .pl rfl (fun _ _ W Γ => ev_move _ (Γ.k 20 rfl)) ?_
    refine .gu rfl rfl rfl rfl (fun _ _ W Γ => ev_move _ (Γ.s rfl)) ?_
    refine .pl rfl (fun _ _ W Γ => ev_pick (Γ.k 21 rfl) (Γ.k 22 rfl)) ?_
    refine .pl rfl (fun _ _ W Γ => ev_move _ (Γ.k 23 rfl)) ?_
    refine .gu rfl rfl rfl rfl (fun _ _ W Γ => ev_move _ (Γ.s rfl)) ?_
    refine .gu rfl rfl rfl rfl (fun _ _ W Γ => ev_not (Γ.k 25 rfl) rfl) ?_
    refine .pl rfl (fun _ _ W Γ => ev_pick (Γ.k 24 rfl) (Γ.k 26 rfl)) ?_
    refine .pl rfl (fun _ _ W Γ => ev_move _ (Γ.k 27 rfl)) ?_
    refine .gu rfl rfl rfl rfl (fun _ _ W Γ => ev_move _ (Γ.s rfl)) ?_
    refine .gu rfl rfl rfl rfl (fun _ _ W Γ => ev_not (Γ.k 29 rfl) rfl) ?_
    refine .pl rfl (fun _ _ W Γ => ev_pick (Γ.k 28 rfl) (Γ.k 30 rfl)) ?_
    refine .pl rfl (fun _ _ W Γ => ev_move _ (Γ.k 31 rfl)) ?_
    refine .gu rfl rfl rfl rfl (fun _ _ W Γ => ev_move _ (Γ.s rfl)) ?_
    refine .gu rfl rfl rfl rfl (fun _ _ W Γ => ev_not (Γ.k 33 rfl) rfl) ?_
    refine .pl rfl (fun _ _ W Γ => ev_pick (Γ.k 32 rfl) (Γ.k 34 rfl)) ?_
    refine .pl rfl (fun _ _ W Γ => ev_move _ (Γ.k 35 rfl)) ?_
    refine .gu rfl rfl rfl rfl (fun _ _ W Γ => ev_move _ (Γ.s rfl)) ?_
    refine .gu rfl rfl rfl rfl (fun _ _ W Γ => ev_not (Γ.k 37 rfl) rfl) ?_
    refine .pl rfl (fun _ _ W Γ => ev_pick (Γ.k 36 rfl) (Γ.k 38 rfl)) ?_
    refine .pl rfl (fun _ _ W Γ => ev_move _ (Γ.k 39 rfl)) ?_
    refine .gu rfl rfl rfl rfl (fun _ _ W Γ => ev_move _ (Γ.s rfl)) ?_
    refine .gu rfl rfl rfl rfl (fun _ E W Γ => by
      have e1 : E (.tmp 95) = .int .u64 18446744073709551615 := (Γ.k 41 rfl)
      have hc := Γ.c
      exact Does.value (w' := W) (by go_simp <;> first | rfl | (rw [IntKind.wrap_i64]; omega)) ⟨rfl, Below.refl _ _⟩) ?_
    refine .pl rfl (fun _ _ W Γ => ev_pick (Γ.k 40 rfl) (Γ.k 42 rfl)) ?_
    refine .pl rfl (fun _ _ W Γ => ev_move _ (Γ.k 43 rfl)) ?_
    refine .gu rfl rfl rfl rfl (fun _ _ W Γ => ev_move _ (Γ.s rfl)) ?_
    refine .pl rfl (fun _ _ W Γ => ev_pick (Γ.k 44 rfl) (Γ.k 45 rfl)) ?_
    refine .pl rfl (fun _ _ W Γ => ev_move _ (Γ.k 46 rfl)) ?_
    refine .gu rfl rfl rfl rfl (fun _ _ W Γ => ev_ldN (Γ.s rfl) (Γ.l 0 rfl)) ?_
    refine .gu rfl rfl rfl rfl (fun _ _ W Γ => ev_call1 (Γ.f _) run_nText (ntext_lit W _ 0 [48] dec_0 (sz 0 6 (by decide) (by decide +kernel)) (TB.out.mono Γ.be) (Γ.w (d := 102) 48 rfl))) ?_
    refine .gu rfl rfl rfl rfl (fun _ E W Γ => by
      have e1 : E (.tmp 103) = .string ⟨#[48]⟩ := (Γ.k 49 rfl)
      have hc := Γ.c
      exact Does.value (w' := W) (by go_simp <;> first | rfl | (rw [IntKind.wrap_i64]; omega)) ⟨rfl, Below.refl _ _⟩) ?_
    refine .pl rfl (fun _ _ W Γ => ev_pick (Γ.k 47 rfl) (Γ.k 50 rfl)) ?_
    refine .pl rfl (fun _ _ W Γ => ev_move _ (Γ.k 51 rfl)) ?_
    refine .gu rfl rfl rfl rfl (fun _ _ W Γ => ev_ldN (Γ.s rfl) (Γ.l 0 rfl)) ?_
    refine .gu rfl rfl rfl rfl (fun _ _ W Γ => ev_call1 (Γ.f _) run_nBytes (nbytes_gives W _ 0 (sz 0 6 (by decide) (by decide +kernel)) (Γ.w (d := 107) 53 rfl))) ?_
    refine .gu rfl rfl rfl rfl (fun _ _ W Γ => ev_lenRow (Γ.w 54 rfl) len_0) ?_
    refine .gu rfl rfl rfl rfl (fun _ E W Γ => by
      have e1 : E (.tmp 109) = .int .i64 0 := (Γ.k 55 rfl)
      have hc := Γ.c
      exact Does.value (w' := W) (by go_simp <;> first | rfl | (rw [IntKind.wrap_i64]; omega)) ⟨rfl, Below.refl _ _⟩) ?_
    refine .pl rfl (fun _ _ W Γ => ev_pick (Γ.k 52 rfl) (Γ.k 56 rfl)) ?_
    refine .pl rfl (fun _ _ W Γ => ev_move _ (Γ.k 57 rfl)) ?_
    refine .gu rfl rfl rfl rfl (fun _ _ W Γ => ev_ldN (Γ.s rfl) (Γ.l 0 rfl)) ?_
    refine .gu rfl rfl rfl rfl (fun _ _ W Γ => ev_call1 (Γ.f _) run_nBits (nbits_lit W _ 0 0 (by decide) (sz 0 6 (by decide) (by decide +kernel)) (Γ.w (d := 113) 59 rfl))) ?_
    refine .gu rfl rfl rfl rfl (fun _ E W Γ => by
      have e1 : E (.tmp 114) = .int .i64 0 := (Γ.k 60 rfl)
      have hc := Γ.c
      exact Does.value (w' := W) (by go_simp <;> first | rfl | (rw [IntKind.wrap_i64]; omega)) ⟨rfl, Below.refl _ _⟩) ?_
    refine .pl rfl (fun _ _ W Γ => ev_pick (Γ.k 58 rfl) (Γ.k 61 rfl)) ?_
    refine .pl rfl (fun _ _ W Γ => ev_move _ (Γ.k 62 rfl)) ?_
    refine .gu rfl rfl rfl rfl (fun _ _ W Γ => ev_ldN (Γ.s rfl) (Γ.l 1 rfl)) ?_
    refine .gu rfl rfl rfl rfl (fun _ _ W Γ => ev_call2 (Γ.f _) run_nShift (by rw [Γ.c]; exact shift_gives W _ 340282366920938463463374607431768211456 128 1 (-128) (by decide) (by decide +kernel) (sz 340282366920938463463374607431768211456 6 (by decide) (by decide +kernel)) (by decide) (by decide) (Γ.w (d := 118) 64 rfl))) ?_
    refine .gu rfl rfl rfl rfl (fun _ _ W Γ => ev_call1 (Γ.f _) run_nText (ntext_lit W _ 1 [49] dec_1 (sz 1 6 (by decide) (by decide +kernel)) (TB.out.mono Γ.be) (Γ.w (d := 119) 65 rfl))) ?_
    refine .gu rfl rfl rfl rfl (fun _ E W Γ => by
      have e1 : E (.tmp 120) = .string ⟨#[49]⟩ := (Γ.k 66 rfl)
      have hc := Γ.c
      exact Does.value (w' := W) (by go_simp <;> first | rfl | (rw [IntKind.wrap_i64]; omega)) ⟨rfl, Below.refl _ _⟩) ?_
    refine .pl rfl (fun _ _ W Γ => ev_pick (Γ.k 63 rfl) (Γ.k 67 rfl)) ?_
    refine .pl rfl (fun _ _ W Γ => ev_move _ (Γ.k 68 rfl)) ?_
    refine .gu rfl rfl rfl rfl (fun _ _ W Γ => ev_ldN (Γ.s rfl) (Γ.l 1 rfl)) ?_
    refine .gu rfl rfl rfl rfl (fun _ _ W Γ => ev_call2 (Γ.f _) run_nShift (by rw [Γ.c]; exact shift_gives W _ 340282366920938463463374607431768211456 129 0 (-129) (by decide) (by decide +kernel) (sz 340282366920938463463374607431768211456 6 (by decide) (by decide +kernel)) (by decide) (by decide) (Γ.w (d := 124) 70 rfl))) ?_
    refine .gu rfl rfl rfl rfl (fun _ _ W Γ => ev_call1 (Γ.f _) run_nBits (nbits_lit W _ 0 0 (by decide) (sz 0 6 (by decide) (by decide +kernel)) (Γ.w (d := 125) 71 rfl))) ?_
    refine .gu rfl rfl rfl rfl (fun _ E W Γ => by
      have e1 : E (.tmp 126) = .int .i64 0 := (Γ.k 72 rfl)
      have hc := Γ.c
      exact Does.value (w' := W) (by go_simp <;> first | rfl | (rw [IntKind.wrap_i64]; omega)) ⟨rfl, Below.refl _ _⟩) ?_
    refine .pl rfl (fun _ _ W Γ => ev_pick (Γ.k 69 rfl) (Γ.k 73 rfl)) ?_
    refine .pl rfl (fun _ _ W Γ => ev_move _ (Γ.k 74 rfl)) ?_
    refine .gu rfl rfl rfl rfl (fun _ _ W Γ => ev_ldN (Γ.s rfl) (Γ.l 1 rfl)) ?_
    refine .gu rfl rfl rfl rfl (fun _ _ W Γ => ev_call1 (Γ.f _) run_nBytes (nbytes_gives W _ 340282366920938463463374607431768211456 (sz 340282366920938463463374607431768211456 6 (by decide) (by decide +kernel)) (Γ.w (d := 130) 76 rfl))) ?_
    refine .gu rfl rfl rfl rfl (fun _ _ W Γ => ev_lenRow (Γ.w 77 rfl) len_A) ?_
    refine .gu rfl rfl rfl rfl (fun _ E W Γ => by
      have e1 : E (.tmp 132) = .int .i64 17 := (Γ.k 78 rfl)
      have hc := Γ.c
      exact Does.value (w' := W) (by go_simp <;> first | rfl | (rw [IntKind.wrap_i64]; omega)) ⟨rfl, Below.refl _ _⟩) ?_
    refine .pl rfl (fun _ _ W Γ => ev_pick (Γ.k 75 rfl) (Γ.k 79 rfl)) ?_
    refine .pl rfl (fun _ _ W Γ => ev_assign _ (Γ.k 80 rfl)) ?_
    exact .nil
  clear J; intro K11 hK11; simp only [fx]; intro _ f11 W11 J; refine hK11.out _ _ ?_; clear hK11
  refine wp_ret ?_
  exact bodyPost_ret (v := .bool true) (by simp [results, Tryd.results3, go_sem]) rfl ⟨_, rfl, rfl, J.out.be⟩
end Go.Proofs.YtfjjmhbffbhhdaaDoor

/-
  The examples of chapter 1, and more.
  Conditions: none but the card's own (the tables of the library hold what its text lays).
-/
namespace Go.Proofs.YtfjjmhbffbhhdaaDoor.natKnown
open Go.ChangeShapes Go.WideShapes Go.ChangeAt Go.RowKit

set_option maxRecDepth 100000 in
theorem contract (H : Type) (enc : TypeId × Value → H) (W : World) (args : Array Value) (ds gs : List (DataW H)) (before : List MemPlace)
    (hW : DataW.Whole enc Tryd.prog Tryd.f3.params.toList Rows.natKnownSpec.vars false W args.toList ds gs before) (hT : TabP W) :
    Calls Tryd.prog 3 args W fun e W' => ∃ v, e = .returned v ∧ Rows.natKnownSpec.post enc Tryd.prog Tryd.f3 false true false false W args v W' := by
  have hW' := hW
  obtain ⟨p, q, hA0, hV, rfl, hfz, hnd⟩ := hW
  have hA : DataW.TrodAll enc Tryd.prog W 0 (fun _ => true) true Tryd.f3.params.toList args.toList ds p := hA0
  rw [Tryd.params3] at hA
  obtain ⟨hargs, rfl, rfl⟩ := trodAll_nil hA
  obtain rfl : args = #[] := by cases args; simp_all
  obtain ⟨rfl, rfl⟩ := trodVars_none hV
  clear hA0
  refine (nknown_gives W hT).mono fun e W' ⟨v, he, hv, hg⟩ => ?_
  obtain rfl : v = .bool true := hv
  subst he
  exact ⟨_, rfl, post_of_below (pa := []) (pv := []) hW' (fun _ _ _ => (trodAll_cons_mk (shut_bool Tryd.underlying4 _) trodAll_mk0))
    (fun sp _ => trodAll_mk0) (fun _ _ => rfl) rfl
    hg (ok_one (by kernel_rfl) rfl (okWide_bool_mk Tryd.underlying4 _))⟩

theorem reads (os : Os) {H : Type} (enc : TypeId × Value → H) : ∃ places, DataW.whole enc Tryd.prog ((World.laidAll Tryd.prog os Rows.natKnownRow.laid).forCall (fun _ _ => 0) ⟨#[], #[], []⟩).memory Tryd.f3.params.toList Rows.natKnownSpec.vars false (#[] : Array Value).toList 8 = some ([], [], places) :=
  ⟨[], by kernel_rfl⟩
theorem ok_args (os : Os) : Input.okWideB Tryd.prog ((World.laidAll Tryd.prog os Rows.natKnownRow.laid).forCall (fun _ _ => 0) ⟨#[], #[], []⟩) 3 ⟨#[], #[], []⟩ = true := by kernel_rfl
theorem laid_met (os : Os) : laidMetH Tryd.prog Rows.natKnownRow.laid ((World.laidAll Tryd.prog os Rows.natKnownRow.laid).forCall (fun _ _ => 0) ⟨#[], #[], []⟩).memory := by
  rw [MakeChecks.laidMetH_plain _ _ _ (by kernel_rfl)]
  exact laidMet_laidAll _ (by kernel_rfl) (by kernel_rfl)
theorem tab_of {W : World} (h : laidMetH Tryd.prog Rows.natKnownRow.laid W) : TabP W := by
  rw [MakeChecks.laidMetH_plain _ _ _ (by kernel_rfl)] at h
  exact tabP_of h

set_option maxRecDepth 100000 in
theorem lifted (os : Os) (started : os.Started) (H : Type) (enc : TypeId × Value → H) (F : Stop.Interp) :
    ReturnsInHanded {} Tryd.checked os 3 .any ((OpenSpec.ofChange Rows.natKnownSpec).preRow enc Tryd.prog Tryd.f3 Rows.natKnownRow.domain false Rows.natKnownRow.laid) (((OpenSpec.ofChange Rows.natKnownSpec).at F).post enc Tryd.prog Tryd.f3 false true false false) := by
  obtain ⟨places, hx⟩ := reads os enc
  refine returnsInHanded_of_row (C := Tryd.checked) (s := OpenSpec.ofChange Rows.natKnownSpec) own started (by kernel_rfl) Tryd.func3
    ⟨World.laidAll Tryd.prog os Rows.natKnownRow.laid, fun _ _ => 0, ⟨#[], #[], []⟩, World.laidAll_os _ _ _, World.shaped_of_ZipB (by kernel_rfl) (by kernel_rfl),
      (Input.okWide_of_okWideB (base := 0) (ok_args os)).1, (Input.okWide_of_okWideB (ok_args os)).2,
      OpenSpec.preRow_of_cond 8 hx (by kernel_rfl) (fun k hk => by cases hk) (by kernel_rfl) (laid_met os), by
        simp only [Assume.holds]
        exact ⟨by simp, by simp, fun _ => Modest.zero, by simp, by simp⟩⟩ ?_
  intro W base args ds gs before _ hW _ _ _ x4 _ _
  exact contract H enc W args ds gs before hW (tab_of x4)

theorem said : Rows.NatKnownSaid :=
  OpenClaim.holds_of_cond 3 Tryd.f3 rfl rfl rfl rfl rfl rfl rfl ⟨rfl, rfl, rfl, rfl, rfl⟩ rfl rfl rfl rfl rfl (by kernel_rfl) Tryd.func3 (by kernel_rfl)
    (of_decide_eq_true (by kernel_rfl)) (by unfold Func.isWrapper; first | (rw [if_pos (by decide +kernel)]; kernel_rfl) | (rw [if_neg (by decide +kernel)]; exact ⟨rfl, rfl⟩))
    (fun os started H enc _ F => by rw [OpenClaim.pre_eq_preRow]; exact lifted os started H enc F)

theorem plain (f : FuncId) (fn : Func) (hf : Tryd.pinned.checked.prog.funcNamed "abaculus/abaculuslaw1.NatKnown" = some f) (hfn : Tryd.pinned.checked.prog.funcs[f]? = some fn) :
    false = Tryd.pinned.checked.prog.looks [] ∧ ∀ (j : Nat) t, fn.params[j]? = some t → Tryd.pinned.checked.prog.wantsStandIn t = false := by
  obtain rfl : f = 3 := Option.some.inj ((show Tryd.prog.funcNamed "abaculus/abaculuslaw1.NatKnown" = some 3 by kernel_rfl).symm.trans hf) |>.symm
  obtain rfl : fn = Tryd.f3 := (Option.some.inj (Tryd.func3.symm.trans hfn)).symm
  refine ⟨by kernel_rfl, fun j t ht => ?_⟩
  rw [Tryd.params3] at ht
  simp at ht

theorem card : Rows.NatKnownCardSaid :=
  Claim7.holds_tied_plain_at .later [] _ _ _ _ said (fun _ h => by cases h) (by kernel_rfl) (fun _ h => by cases h) natKnown_row_tie rfl ⟨rfl, rfl⟩ (by kernel_rfl) rfl plain (by kernel_rfl)
end Go.Proofs.YtfjjmhbffbhhdaaDoor.natKnown
