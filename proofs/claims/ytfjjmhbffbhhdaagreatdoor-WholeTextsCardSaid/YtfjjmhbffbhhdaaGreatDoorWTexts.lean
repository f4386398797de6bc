/- The law WholeTexts: texts of integers, there and back, and what fits 64 bits. -/
import Derived.Test.YtfjjmhbffbhhdaaGreatDoorRIPar
import Derived.Test.YtfjjmhbffbhhdaaGreatDoorLaw2
namespace Go.Proofs.YtfjjmhbffbhhdaaGreatDoor
open Go.RowKit

theorem run_iOf : RowKit.Hid (∀ (a : Array Value) (w : World), Sem.run Tryz.prog (callFunc 7 a) w = .ok (.enter 7 a) w) := fun a w => by go_simp
theorem run_iParse : RowKit.Hid (∀ (a : Array Value) (w : World), Sem.run Tryz.prog (callFunc 5 a) w = .ok (.enter 5 a) w) := fun a w => by go_simp
theorem run_iSmall : RowKit.Hid (∀ (a : Array Value) (w : World), Sem.run Tryz.prog (callFunc 8 a) w = .ok (.enter 8 a) w) := fun a w => by go_simp
theorem run_iText : RowKit.Hid (∀ (a : Array Value) (w : World), Sem.run Tryz.prog (callFunc 13 a) w = .ok (.enter 13 a) w) := fun a w => by go_simp
theorem run_rIParse : RowKit.Hid (∀ (a : Array Value) (w : World), Sem.run Tryz.prog (callFunc 6 a) w = .ok (.enter 6 a) w) := fun a w => by go_simp
theorem run_rIText : RowKit.Hid (∀ (a : Array Value) (w : World), Sem.run Tryz.prog (callFunc 14 a) w = .ok (.enter 14 a) w) := fun a w => by go_simp
theorem run_rSmall64 : RowKit.Hid (∀ (a : Array Value) (w : World), Sem.run Tryz.prog (callFunc 9 a) w = .ok (.enter 9 a) w) := fun a w => by go_simp
theorem run_two2 : RowKit.Hid (∀ (a : Array Value) (w : World), Sem.run Tryz.prog (callFunc 4 a) w = .ok (.enter 4 a) w) := fun a w => by go_simp
section
variable {E : Operand → Value} {w : World} {d : Option Tmp} {ty : TypeId} {pos : String} {af : Array Edge} {gd : Option (Nat × Bool)}
theorem ev_neq64 {x y : Operand} {a b : Int} (h1 : E x = .int .i64 a) (h2 : E y = .int .i64 b) {v : Bool} (hv : (a != b) = v) : Does Tryz.prog ⟨d, .binOp .neq 2 x y 2, ty, pos, af, gd⟩ E w fun v' w' => v' = .bool v ∧ Below w.heap.size w w' :=
  Does.value (w' := w) (by go_simp) ⟨congrArg Value.bool hv, Below.refl _ _⟩
end
theorem two2_gives (w : World) (p : Option Addr) (l c : Nat) (bs : List Nat) (f : Bool) (x : Int) (hm : sgn f (nb (bs.take 40)) = x) (h : IsB w p l c bs) :
    Calls Tryz.prog 4 #[.slice p l c, .slice none 0 0, .bool f, .bool false] w (Gives w (.that (fourS (.int x) (.int 0) (.rint x) (.rint 0) rfl))) := by
  subst hm
  refine (two2_any p none l c 0 0 bs [] f false w h ⟨rfl, (fun x hx => by cases hx), Or.inl ⟨rfl, rfl, rfl⟩⟩).mono ?_
  rintro e w' ⟨_, _, _, _, _, _, _, _, _, _, _, _, _, _, _, _, _, _, he, a, b, c, d, hb⟩
  have e0 : sgn false (nb (([] : List Nat).take 40)) = 0 := rfl
  rw [e0] at b d
  exact ⟨_, he, ⟨_, _, _, _, rfl, ⟨_, _, _, _, _, rfl, a⟩, ⟨_, _, _, _, _, rfl, b⟩, ⟨_, _, _, _, rfl, c⟩, ⟨_, _, _, _, rfl, d⟩⟩, hb⟩
theorem known2_gives' (w : World) : Calls Tryz.prog 10 #[] w (Gives w (.is (.bool true))) := (known2_any w).mono fun _ _ ⟨h, hb⟩ => ⟨_, h, rfl, hb⟩
theorem iof_gives (n : Int) (w : World) (h1 : -9223372036854775808 ≤ n) (h2 : n ≤ 9223372036854775807) : Calls Tryz.prog 7 #[.int .i64 n] w (Gives w (.int n)) := (iOf_any n w h1 h2).mono fun _ _ h => h.want
theorem is2_gives (w : World) (u v : Value) (z : Int) (hz : (ds z.natAbs).length ≤ 400) (h1 : INum w u z) (h2 : RINum w v z) : Calls Tryz.prog 11 #[u, v] w (Gives w (.is (.bool true))) :=
  (is2_want w u v z hz h1 h2).mono fun _ _ ⟨v, h, h1, hb⟩ => ⟨v, h, h1, hb⟩
theorem isign_zero (w : World) (u : Value) (h : INum w u 0) : Calls Tryz.prog 12 #[u] w (Gives w (.is (.int .i64 0))) :=
  (iSign_val w u 0 0 (by decide) h).mono fun _ _ ⟨v, h, h1, hb⟩ => ⟨v, h, h1, hb⟩
theorem icmp_self (w : World) (u v : Value) (x : Int) (hx : (ds x.natAbs).length ≤ 6) (h1 : INum w u x) (h2 : INum w v x) : Calls Tryz.prog 15 #[u, v] w (Gives w (.is (.int .i64 0))) :=
  (iCmp_val w u v x x 0 (cmp_same rfl) (by omega) (by omega) h1 h2).mono fun _ _ ⟨v, h, h1, hb⟩ => ⟨v, h, h1, hb⟩
set_option maxRecDepth 100000 in
set_option maxHeartbeats 4000000 in
theorem wtexts_num (w : World) (s : ByteArray) (p : Option Addr) (l c : Nat) (bs : List Nat) (f : Bool) (x z : Int) (n : Int) (hm : sgn f (nb (bs.take 40)) = x) (hib : IsB w p l c bs) (hT : TabP w) (hn : -9223372036854775808 ≤ n ∧ n ≤ 9223372036854775807) (hp : ∀ W, Calls Tryz.prog 5 #[.string s] W (Gives W (.two (.int z) (.is (.bool true))))) (hr : ∀ W, Calls Tryz.prog 6 #[.string s] W (Gives W (.two (.rint z) (.is (.bool true))))) (hzs : (ds z.natAbs).length ≤ 400)  :
    Calls Tryz.prog 3 #[.string s, .slice p l c, .bool f, .int .i64 n] w (Gives w (.is (.bool true))) := by
  have hxs : (ds x.natAbs).length ≤ 6 := by rw [← hm]; have h := ds_nb40 bs hib.2.1; cases f <;> simp [sgn] <;> omega
  have HXS := Lib.hid hxs; have HP2 := Lib.hid (iparse_back x hxs)
  have HM := Lib.hid hm; have HIB := Lib.hid hib; have TB := Lib.hid hT; have HNR := Lib.hid hn; have HP1 := Lib.hid hp; have HR1 := Lib.hid hr; have HZS := Lib.hid hzs
  clear hm hib hT hn hp hr hzs hxs
  go_enter Tryz.func3, Tryz.ntmps3
  have J := Frm.start (w := w) (V := []) fn
  refine wp_seq_h ?_; intro K1 hK1; go_wp2
  refine hK1.out _ _ ?_; clear hK1
  refine region_c [27, 28, 29, 26, 30, 31, 32, 33, 10, 11, 12, 13, 0, 0, 0, 0] [.is (.slice p l c), .is (.bool f), .that (fourS (.int x) (.int 0) (.rint x) (.rint 0) rfl), .that (fourS (.int x) (.int 0) (.rint x) (.rint 0) rfl), .int x, .int 0, .rint x, .rint 0, .any, .any, .any, .any, .any, .any, .any, .any] [] [⟨.int, 8, 12, .int x, .agg #[.bool false, .int .u64 0, .slice none 0 0]⟩, ⟨.int, 9, 13, .int 0, .agg #[.bool false, .int .u64 0, .slice none 0 0]⟩, ⟨.rint, 10, 14, .rint x, .agg #[.bool false, .slice none 0 0]⟩, ⟨.rint, 11, 15, .rint 0, .agg #[.bool false, .slice none 0 0]⟩] [] J ?_ ?_
  · refine .pl rfl (fun _ _ W Γ => ev_move _ (Γ.s rfl)) ?_
    refine .pl rfl (fun _ _ W Γ => ev_move _ (Γ.s rfl)) ?_
    refine .pl rfl (fun _ _ W Γ => ev_call4 (Γ.f _) run_two2 (by rw [Γ.c, Γ.c, (show _ = Value.slice p l c from (Γ.k (d := 26) 0 rfl)), (show _ = Value.bool f from (Γ.k (d := 27) 1 rfl))]; exact show Calls Tryz.prog 4 #[_, _, _, _] W (Gives W (.that (fourS (.int x) (.int 0) (.rint x) (.rint 0) rfl))) from two2_gives W p l c bs f x HM.out (HIB.out.mono Γ.be))) ?_
    refine .pl rfl (fun _ _ W Γ => ev_moveM (Γ.w 2 rfl)) ?_
    refine .pl rfl (fun _ _ W Γ => ev_ex40 (Γ.w 3 rfl)) ?_
    refine .pl rfl (fun _ _ W Γ => ev_ex41 (Γ.w 3 rfl)) ?_
    refine .pl rfl (fun _ _ W Γ => ev_ex42 (Γ.w 3 rfl)) ?_
    refine .pl rfl (fun _ _ W Γ => ev_ex43 (Γ.w 3 rfl)) ?_
    refine .al 0 rfl rfl (fun _ _ => ev_alI) ?_
    refine .al 1 rfl rfl (fun _ _ => ev_alI) ?_
    refine .al 2 rfl rfl (fun _ _ => ev_alR) ?_
    refine .al 3 rfl rfl (fun _ _ => ev_alR) ?_
    refine .sn 0 rfl rfl (fun _ _ W Γ => ev_stI (Γ.q 0 rfl) (Γ.un 0 rfl) (Γ.w 4 rfl)) ?_
    refine .sn 1 rfl rfl (fun _ _ W Γ => ev_stI (Γ.q 1 rfl) (Γ.un 1 rfl) (Γ.w 5 rfl)) ?_
    refine .sn 2 rfl rfl (fun _ _ W Γ => ev_stR (Γ.q 2 rfl) (Γ.un 2 rfl) (Γ.w 6 rfl)) ?_
    refine .sn 3 rfl rfl (fun _ _ W Γ => ev_stR (Γ.q 3 rfl) (Γ.un 3 rfl) (Γ.w 7 rfl)) ?_
    exact .nil
  clear J; intro K2 hK2; simp only [fx]; intro β2 f2 W2 J; refine hK2.out _ _ ?_; clear hK2
  refine region_c [35, 36, 34, 37, 38, 14, 0, 15] [.is (.string s), .two (.int z) (.is (.bool true)), .two (.int z) (.is (.bool true)), .int z, .is (.bool true), .any, .any, .is (.bool true)] [] [⟨.int, 5, 6, .int z, .agg #[.bool false, .int .u64 0, .slice none 0 0]⟩] [] J ?_ ?_
  · refine .pl rfl (fun _ _ W Γ => ev_move _ (Γ.s rfl)) ?_
    refine .pl rfl (fun _ _ W Γ => ev_call1 (Γ.f _) run_iParse (by rw [(show _ = Value.string s from (Γ.k (d := 34) 0 rfl))]; exact HP1.out W)) ?_
    refine .pl rfl (fun _ _ W Γ => ev_moveM (Γ.w 1 rfl)) ?_
    refine .pl rfl (fun _ _ W Γ => ev_ex20 (Γ.w 2 rfl)) ?_
    refine .pl rfl (fun _ _ W Γ => ev_ex21 (Γ.w 2 rfl)) ?_
    refine .al 0 rfl rfl (fun _ _ => ev_alI) ?_
    refine .sn 0 rfl rfl (fun _ _ W Γ => ev_stI (Γ.q 0 rfl) (Γ.un 0 rfl) (Γ.w 3 rfl)) ?_
    refine .pl rfl (fun _ _ W Γ => ev_assign _ (Γ.k 4 rfl)) ?_
    exact .nil
  clear J; intro K3 hK3; simp only [fx]; intro β3 f3 W3 J; refine hK3.out _ _ ?_; clear hK3
  refine region_c [40, 41, 39, 42, 43, 16, 0, 17] [.is (.string s), .two (.rint z) (.is (.bool true)), .two (.rint z) (.is (.bool true)), .rint z, .is (.bool true), .any, .any, .is (.bool true)] [] [⟨.rint, 5, 6, .rint z, .agg #[.bool false, .slice none 0 0]⟩] [] J ?_ ?_
  · refine .pl rfl (fun _ _ W Γ => ev_move _ (Γ.s rfl)) ?_
    refine .pl rfl (fun _ _ W Γ => ev_call1 (Γ.f _) run_rIParse (by rw [(show _ = Value.string s from (Γ.k (d := 39) 0 rfl))]; exact HR1.out W)) ?_
    refine .pl rfl (fun _ _ W Γ => ev_moveM (Γ.w 1 rfl)) ?_
    refine .pl rfl (fun _ _ W Γ => ev_ex20 (Γ.w 2 rfl)) ?_
    refine .pl rfl (fun _ _ W Γ => ev_ex21 (Γ.w 2 rfl)) ?_
    refine .al 0 rfl rfl (fun _ _ => ev_alR) ?_
    refine .sn 0 rfl rfl (fun _ _ W Γ => ev_stR (Γ.q 0 rfl) (Γ.un 0 rfl) (Γ.w 3 rfl)) ?_
    refine .pl rfl (fun _ _ W Γ => ev_assign _ (Γ.k 4 rfl)) ?_
    exact .nil
  clear J; intro K4 hK4; simp only [fx]; intro β4 f4 W4 J; refine hK4.out _ _ ?_; clear hK4
  refine region_c [45, 46, 47, 44, 48, 49, 18, 19] [.is (.int .i64 n), .int n, .two (.is (.int .i64 n)) (.is (.bool true)), .two (.is (.int .i64 n)) (.is (.bool true)), .is (.int .i64 n), .is (.bool true), .is (.int .i64 n), .is (.bool true)] [] [] [] J ?_ ?_
  · refine .pl rfl (fun _ _ W Γ => ev_move _ (Γ.s rfl)) ?_
    refine .pl rfl (fun _ _ W Γ => ev_call1 (Γ.f _) run_iOf (by rw [(show _ = Value.int .i64 n from (Γ.k (d := 44) 0 rfl))]; exact iof_gives n W HNR.out.1 HNR.out.2)) ?_
    refine .pl rfl (fun _ _ W Γ => ev_call1 (Γ.f _) run_iSmall (ismall_n W _ n HNR.out (Γ.w (d := 45) 1 rfl))) ?_
    refine .pl rfl (fun _ _ W Γ => ev_moveM (Γ.w 2 rfl)) ?_
    refine .pl rfl (fun _ _ W Γ => ev_ex20 (Γ.w 3 rfl)) ?_
    refine .pl rfl (fun _ _ W Γ => ev_ex21 (Γ.w 3 rfl)) ?_
    refine .pl rfl (fun _ _ W Γ => ev_assign _ (Γ.k 4 rfl)) ?_
    refine .pl rfl (fun _ _ W Γ => ev_assign _ (Γ.k 5 rfl)) ?_
    exact .nil
  clear J; intro K5 hK5; simp only [fx]; intro _ f5 W5 J; refine hK5.out _ _ ?_; clear hK5
  refine region_c [51, 52, 50, 53, 54, 20, 21] [.int x, .two (.is (.int .i64 (smK x))) (.is (.bool (smB x))), .two (.is (.int .i64 (smK x))) (.is (.bool (smB x))), .is (.int .i64 (smK x)), .is (.bool (smB x)), .is (.int .i64 (smK x)), .is (.bool (smB x))] [] [] [] J ?_ ?_
  · refine .pl rfl (fun _ _ W Γ => ev_ldI (Γ.s rfl) (Γ.l 0 rfl)) ?_
    refine .pl rfl (fun _ _ W Γ => ev_call1 (Γ.f _) run_iSmall (ismall_gives W _ x HXS.out (Γ.w (d := 50) 0 rfl))) ?_
    refine .pl rfl (fun _ _ W Γ => ev_moveM (Γ.w 1 rfl)) ?_
    refine .pl rfl (fun _ _ W Γ => ev_ex20 (Γ.w 2 rfl)) ?_
    refine .pl rfl (fun _ _ W Γ => ev_ex21 (Γ.w 2 rfl)) ?_
    refine .pl rfl (fun _ _ W Γ => ev_assign _ (Γ.k 3 rfl)) ?_
    refine .pl rfl (fun _ _ W Γ => ev_assign _ (Γ.k 4 rfl)) ?_
    exact .nil
  clear J; intro K6 hK6; simp only [fx]; intro _ f6 W6 J; refine hK6.out _ _ ?_; clear hK6
  refine region_c [56, 57, 55, 58, 59, 22, 23] [.rint x, .two (.is (.int .i64 (smK x))) (.is (.bool (smB x))), .two (.is (.int .i64 (smK x))) (.is (.bool (smB x))), .is (.int .i64 (smK x)), .is (.bool (smB x)), .is (.int .i64 (smK x)), .is (.bool (smB x))] [] [] [] J ?_ ?_
  · refine .pl rfl (fun _ _ W Γ => ev_ldR (Γ.s rfl) (Γ.l 2 rfl)) ?_
    refine .pl rfl (fun _ _ W Γ => ev_call1 (Γ.f _) run_rSmall64 (rsmall_gives W _ x HXS.out (Γ.w (d := 55) 0 rfl))) ?_
    refine .pl rfl (fun _ _ W Γ => ev_moveM (Γ.w 1 rfl)) ?_
    refine .pl rfl (fun _ _ W Γ => ev_ex20 (Γ.w 2 rfl)) ?_
    refine .pl rfl (fun _ _ W Γ => ev_ex21 (Γ.w 2 rfl)) ?_
    refine .pl rfl (fun _ _ W Γ => ev_assign _ (Γ.k 3 rfl)) ?_
    refine .pl rfl (fun _ _ W Γ => ev_assign _ (Γ.k 4 rfl)) ?_
    exact .nil
  clear J; intro K7 hK7; simp only [fx]; intro _ f7 W7 J; refine hK7.out _ _ ?_; clear hK7
  refine wp_seq_h ?_; intro K8 hK8
  refine region_c [60, 61, 62, 63, 64, 65, 66, 67, 68, 69, 70, 71, 72, 73, 74, 75, 76, 77, 78, 79, 80, 81, 82, 83, 84, 85, 86, 87, 88, 89, 90, 91, 92, 93, 94, 95, 96, 97, 98, 99, 100, 101, 102, 103, 104, 105, 106, 107, 108, 109, 110] [.is (.bool true), .is (.bool false), .is (.bool false), .is (.bool true), .is (.bool true), .is (.bool false), .is (.bool false), .is (.bool false), .is (.bool true), .is (.bool true), .int z, .rint z, .is (.bool true), .is (.bool false), .is (.bool false), .is (.bool false), .is (.bool false), .is (.bool true), .is (.bool false), .is (.bool false), .is undef, .is undef, .is undef, .is (.bool false), .is (.bool false), .is (.bool false), .int x, .is (.string (itx x)), .rint x, .is (.string (itx x)), .is (.bool false), .is (.bool false), .is (.bool false), .is (.bool true), .is (.bool false), .is (.bool false), .is (.bool false), .is (.int .i64 n), .is (.int .i64 n), .is (.bool false), .is (.bool false), .is (.bool false), .is (.int .i64 (smK x)), .is (.int .i64 (smK x)), .is (.bool false), .is (.bool false), .is (.bool false), .is (.bool (smB x)), .is (.bool (smB x)), .is (.bool false), .is (.bool false)] [] [] [] J ?_ ?_
  · refine .pl rfl (fun _ _ W Γ => ev_call0 (Γ.f _) run_known2 (known2_gives' W)) ?_
    refine .pl rfl (fun _ _ W Γ => ev_not (Γ.k 0 rfl) rfl) ?_
    refine .pl rfl (fun _ _ W Γ => ev_move _ (Γ.k 1 rfl)) ?_
    refine .gu rfl rfl rfl rfl (fun _ _ W Γ => ev_move _ (Γ.s rfl)) ?_
    refine .gu rfl rfl rfl rfl (fun _ _ W Γ => ev_move _ (Γ.s rfl)) ?_
    refine .gu rfl rfl rfl rfl (fun _ E W Γ => by
      have e1 : E (.tmp 62) = .bool true := (Γ.k 3 rfl)
      have e2 : E (.tmp 63) = .bool true := (Γ.k 4 rfl)
      have hc := Γ.c
      exact Does.value (w' := W) (by go_simp <;> first | rfl | (rw [IntKind.wrap_i64]; omega)) ⟨rfl, Below.refl _ _⟩) ?_
    refine .pl rfl (fun _ _ W Γ => ev_pick (Γ.k 2 rfl) (Γ.k 5 rfl)) ?_
    refine .pl rfl (fun _ _ W Γ => ev_move _ (Γ.k 6 rfl)) ?_
    refine .gu rfl rfl rfl rfl (fun _ _ W Γ => ev_move _ (Γ.s rfl)) ?_
    refine .gu rfl rfl rfl rfl (fun _ _ W Γ => ev_move _ (Γ.k 8 rfl)) ?_
    refine .gu rfl rfl rfl rfl (fun _ _ W Γ => ev_ldI (Γ.s rfl) (Γ.l 4 rfl)) ?_
    refine .gu rfl rfl rfl rfl (fun _ _ W Γ => ev_ldR (Γ.s rfl) (Γ.l 5 rfl)) ?_
    refine .gu rfl rfl rfl rfl (fun _ _ W Γ => ev_call2 (Γ.f _) run_is2 (is2_gives W _ _ z HZS.out (Γ.w (d := 69) 10 rfl) (Γ.w (d := 70) 11 rfl))) ?_
    refine .gu rfl rfl rfl rfl (fun _ _ W Γ => ev_not (Γ.k 12 rfl) rfl) ?_
    refine .gu rfl rfl rfl rfl (fun _ _ W Γ => ev_pick (Γ.k 9 rfl) (Γ.k 13 rfl)) ?_
    refine .pl rfl (fun _ _ W Γ => ev_pick (Γ.k 7 rfl) (Γ.k 14 rfl)) ?_
    refine .pl rfl (fun _ _ W Γ => ev_move _ (Γ.k 15 rfl)) ?_
    refine .gu rfl rfl rfl rfl (fun _ _ W Γ => ev_move _ (Γ.s rfl)) ?_
    refine .gu rfl rfl rfl rfl (fun _ _ W Γ => ev_not (Γ.k 17 rfl) rfl) ?_
    refine .gu rfl rfl rfl rfl (fun _ _ W Γ => ev_move _ (Γ.k 18 rfl)) ?_
    refine .off rfl rfl rfl rfl ?_
    refine .off rfl rfl rfl rfl ?_
    refine .off rfl rfl rfl rfl ?_
    refine .gu rfl rfl rfl rfl (fun _ _ W Γ => ev_pick (Γ.k 19 rfl) (Γ.c _)) ?_
    refine .pl rfl (fun _ _ W Γ => ev_pick (Γ.k 16 rfl) (Γ.k 23 rfl)) ?_
    refine .pl rfl (fun _ _ W Γ => ev_move _ (Γ.k 24 rfl)) ?_
    refine .gu rfl rfl rfl rfl (fun _ _ W Γ => ev_ldI (Γ.s rfl) (Γ.l 0 rfl)) ?_
    refine .gu rfl rfl rfl rfl (fun _ _ W Γ => ev_call1 (Γ.f _) run_iText (itext_gives W _ x HXS.out (TB.out.mono Γ.be) (Γ.w (d := 85) 26 rfl))) ?_
    refine .gu rfl rfl rfl rfl (fun _ _ W Γ => ev_ldR (Γ.s rfl) (Γ.l 2 rfl)) ?_
    refine .gu rfl rfl rfl rfl (fun _ _ W Γ => ev_call1 (Γ.f _) run_rIText (ritext_gives W _ x HXS.out (Γ.w (d := 87) 28 rfl))) ?_
    refine .gu rfl rfl rfl rfl (fun _ _ W Γ => ev_neqS (Γ.k 27 rfl) (Γ.k 29 rfl) trivial) ?_
    refine .pl rfl (fun _ _ W Γ => ev_pick (Γ.k 25 rfl) (Γ.k 30 rfl)) ?_
    refine .pl rfl (fun _ _ W Γ => ev_move _ (Γ.k 31 rfl)) ?_
    refine .gu rfl rfl rfl rfl (fun _ _ W Γ => ev_move _ (Γ.s rfl)) ?_
    refine .gu rfl rfl rfl rfl (fun _ _ W Γ => ev_not (Γ.k 33 rfl) rfl) ?_
    refine .pl rfl (fun _ _ W Γ => ev_pick (Γ.k 32 rfl) (Γ.k 34 rfl)) ?_
    refine .pl rfl (fun _ _ W Γ => ev_move _ (Γ.k 35 rfl)) ?_
    refine .gu rfl rfl rfl rfl (fun _ _ W Γ => ev_move _ (Γ.s rfl)) ?_
    refine .gu rfl rfl rfl rfl (fun _ _ W Γ => ev_move _ (Γ.s rfl)) ?_
    refine .gu rfl rfl rfl rfl (fun _ _ W Γ => ev_neq64 (Γ.k 37 rfl) (Γ.k 38 rfl) (by simp)) ?_
    refine .pl rfl (fun _ _ W Γ => ev_pick (Γ.k 36 rfl) (Γ.k 39 rfl)) ?_
    refine .pl rfl (fun _ _ W Γ => ev_move _ (Γ.k 40 rfl)) ?_
    refine .gu rfl rfl rfl rfl (fun _ _ W Γ => ev_move _ (Γ.s rfl)) ?_
    refine .gu rfl rfl rfl rfl (fun _ _ W Γ => ev_move _ (Γ.s rfl)) ?_
    refine .gu rfl rfl rfl rfl (fun _ _ W Γ => ev_neq64 (Γ.k 42 rfl) (Γ.k 43 rfl) (by simp)) ?_
    refine .pl rfl (fun _ _ W Γ => ev_pick (Γ.k 41 rfl) (Γ.k 44 rfl)) ?_
    refine .pl rfl (fun _ _ W Γ => ev_move _ (Γ.k 45 rfl)) ?_
    refine .gu rfl rfl rfl rfl (fun _ _ W Γ => ev_move _ (Γ.s rfl)) ?_
    refine .gu rfl rfl rfl rfl (fun _ _ W Γ => ev_move _ (Γ.s rfl)) ?_
    refine .gu rfl rfl rfl rfl (fun _ _ W Γ => ev_neqB (Γ.k 47 rfl) (Γ.k 48 rfl) (by simp)) ?_
    refine .pl rfl (fun _ _ W Γ => ev_pick (Γ.k 46 rfl) (Γ.k 49 rfl)) ?_
    exact .nil
  clear J; intro K9 hK9; simp only [fx]; intro _ f9 W9 J; refine hK9.out _ _ ?_; clear hK9
  refine wp_cond_false rfl ?_
  refine wp_skip ?_
  refine hK8.out _ _ ?_; clear hK8
  refine region_c [112, 113, 114, 111, 115, 116, 24, 0, 25] [.int x, .is (.string (itx x)), .two (.int x) (.is (.bool true)), .two (.int x) (.is (.bool true)), .int x, .is (.bool true), .any, .any, .is (.bool true)] [] [⟨.int, 6, 7, .int x, .agg #[.bool false, .int .u64 0, .slice none 0 0]⟩] [] J ?_ ?_
  · refine .pl rfl (fun _ _ W Γ => ev_ldI (Γ.s rfl) (Γ.l 0 rfl)) ?_
    refine .pl rfl (fun _ _ W Γ => ev_call1 (Γ.f _) run_iText (itext_gives W _ x HXS.out (TB.out.mono Γ.be) (Γ.w (d := 111) 0 rfl))) ?_
    refine .pl rfl (fun _ _ W Γ => ev_call1 (Γ.f _) run_iParse (by rw [(show _ = Value.string (itx x) from (Γ.k (d := 112) 1 rfl))]; exact HP2.out W)) ?_
    refine .pl rfl (fun _ _ W Γ => ev_moveM (Γ.w 2 rfl)) ?_
    refine .pl rfl (fun _ _ W Γ => ev_ex20 (Γ.w 3 rfl)) ?_
    refine .pl rfl (fun _ _ W Γ => ev_ex21 (Γ.w 3 rfl)) ?_
    refine .al 0 rfl rfl (fun _ _ => ev_alI) ?_
    refine .sn 0 rfl rfl (fun _ _ W Γ => ev_stI (Γ.q 0 rfl) (Γ.un 0 rfl) (Γ.w 4 rfl)) ?_
    refine .pl rfl (fun _ _ W Γ => ev_assign _ (Γ.k 5 rfl)) ?_
    exact .nil
  clear J; intro K10 hK10; simp only [fx]; intro β10 f10 W10 J; refine hK10.out _ _ ?_; clear hK10
  refine region_c [117, 118, 119, 120, 121, 122, 123, 9] [.is (.bool true), .is (.bool true), .int x, .int x, .is (.int .i64 0), .is (.bool true), .is (.bool true), .is (.bool true)] [] [] [] J ?_ ?_
  · refine .pl rfl (fun _ _ W Γ => ev_move _ (Γ.s rfl)) ?_
    refine .pl rfl (fun _ _ W Γ => ev_move _ (Γ.k 0 rfl)) ?_
    refine .gu rfl rfl rfl rfl (fun _ _ W Γ => ev_ldI (Γ.s rfl) (Γ.l 6 rfl)) ?_
    refine .gu rfl rfl rfl rfl (fun _ _ W Γ => ev_ldI (Γ.s rfl) (Γ.l 0 rfl)) ?_
    refine .gu rfl rfl rfl rfl (fun _ _ W Γ => ev_call2 (Γ.f _) run_iCmp (icmp_self W _ _ x HXS.out (Γ.w (d := 118) 2 rfl) (Γ.w (d := 119) 3 rfl))) ?_
    refine .gu rfl rfl rfl rfl (fun _ E W Γ => by
      have e1 : E (.tmp 120) = .int .i64 0 := (Γ.k 4 rfl)
      have hc := Γ.c
      exact Does.value (w' := W) (by go_simp <;> first | rfl | (rw [IntKind.wrap_i64]; omega)) ⟨rfl, Below.refl _ _⟩) ?_
    refine .pl rfl (fun _ _ W Γ => ev_pick (Γ.k 1 rfl) (Γ.k 5 rfl)) ?_
    refine .pl rfl (fun _ _ W Γ => ev_assign _ (Γ.k 6 rfl)) ?_
    exact .nil
  clear J; intro K11 hK11; simp only [fx]; intro _ f11 W11 J; refine hK11.out _ _ ?_; clear hK11
  refine wp_ret ?_
  exact bodyPost_ret (v := .bool true) (by simp [results, Tryz.results3, go_sem]) rfl ⟨_, rfl, rfl, J.out.be⟩
set_option maxRecDepth 100000 in
set_option maxHeartbeats 4000000 in
theorem wtexts_none (w : World) (s : ByteArray) (p : Option Addr) (l c : Nat) (bs : List Nat) (f : Bool) (x z : Int) (n : Int) (hm : sgn f (nb (bs.take 40)) = x) (hib : IsB w p l c bs) (hT : TabP w) (hn : -9223372036854775808 ≤ n ∧ n ≤ 9223372036854775807) (hp : ∀ W, Calls Tryz.prog 5 #[.string s] W (Gives W (.two (.int 0) (.is (.bool false))))) (hr : ∀ W, Calls Tryz.prog 6 #[.string s] W (Gives W (.two (.rint 0) (.is (.bool false))))) (hzs : (ds z.natAbs).length ≤ 400)  :
    Calls Tryz.prog 3 #[.string s, .slice p l c, .bool f, .int .i64 n] w (Gives w (.is (.bool true))) := by
  have hxs : (ds x.natAbs).length ≤ 6 := by rw [← hm]; have h := ds_nb40 bs hib.2.1; cases f <;> simp [sgn] <;> omega
  have HXS := Lib.hid hxs; have HP2 := Lib.hid (iparse_back x hxs)
  have HM := Lib.hid hm; have HIB := Lib.hid hib; have TB := Lib.hid hT; have HNR := Lib.hid hn; have HP1 := Lib.hid hp; have HR1 := Lib.hid hr; have HZS := Lib.hid hzs
  clear hm hib hT hn hp hr hzs hxs
  go_enter Tryz.func3, Tryz.ntmps3
  have J := Frm.start (w := w) (V := []) fn
  refine wp_seq_h ?_; intro K1 hK1; go_wp2
  refine hK1.out _ _ ?_; clear hK1
  refine region_c [27, 28, 29, 26, 30, 31, 32, 33, 10, 11, 12, 13, 0, 0, 0, 0] [.is (.slice p l c), .is (.bool f), .that (fourS (.int x) (.int 0) (.rint x) (.rint 0) rfl), .that (fourS (.int x) (.int 0) (.rint x) (.rint 0) rfl), .int x, .int 0, .rint x, .rint 0, .any, .any, .any, .any, .any, .any, .any, .any] [] [⟨.int, 8, 12, .int x, .agg #[.bool false, .int .u64 0, .slice none 0 0]⟩, ⟨.int, 9, 13, .int 0, .agg #[.bool false, .int .u64 0, .slice none 0 0]⟩, ⟨.rint, 10, 14, .rint x, .agg #[.bool false, .slice none 0 0]⟩, ⟨.rint, 11, 15, .rint 0, .agg #[.bool false, .slice none 0 0]⟩] [] J ?_ ?_
  · refine .pl rfl (fun _ _ W Γ => ev_move _ (Γ.s rfl)) ?_
    refine .pl rfl (fun _ _ W Γ => ev_move _ (Γ.s rfl)) ?_
    refine .pl rfl (fun _ _ W Γ => ev_call4 (Γ.f _) run_two2 (by rw [Γ.c, Γ.c, (show _ = Value.slice p l c from (Γ.k (d := 26) 0 rfl)), (show _ = Value.bool f from (Γ.k (d := 27) 1 rfl))]; exact show Calls Tryz.prog 4 #[_, _, _, _] W (Gives W (.that (fourS (.int x) (.int 0) (.rint x) (.rint 0) rfl))) from two2_gives W p l c bs f x HM.out (HIB.out.mono Γ.be))) ?_
    refine .pl rfl (fun _ _ W Γ => ev_moveM (Γ.w 2 rfl)) ?_
    refine .pl rfl (fun _ _ W Γ => ev_ex40 (Γ.w 3 rfl)) ?_
    refine .pl rfl (fun _ _ W Γ => ev_ex41 (Γ.w 3 rfl)) ?_
    refine .pl rfl (fun _ _ W Γ => ev_ex42 (Γ.w 3 rfl)) ?_
    refine .pl rfl (fun _ _ W Γ => ev_ex43 (Γ.w 3 rfl)) ?_
    refine .al 0 rfl rfl (fun _ _ => ev_alI) ?_
    refine .al 1 rfl rfl (fun _ _ => ev_alI) ?_
    refine .al 2 rfl rfl (fun _ _ => ev_alR) ?_
    refine .al 3 rfl rfl (fun _ _ => ev_alR) ?_
    refine .sn 0 rfl rfl (fun _ _ W Γ => ev_stI (Γ.q 0 rfl) (Γ.un 0 rfl) (Γ.w 4 rfl)) ?_
    refine .sn 1 rfl rfl (fun _ _ W Γ => ev_stI (Γ.q 1 rfl) (Γ.un 1 rfl) (Γ.w 5 rfl)) ?_
    refine .sn 2 rfl rfl (fun _ _ W Γ => ev_stR (Γ.q 2 rfl) (Γ.un 2 rfl) (Γ.w 6 rfl)) ?_
    refine .sn 3 rfl rfl (fun _ _ W Γ => ev_stR (Γ.q 3 rfl) (Γ.un 3 rfl) (Γ.w 7 rfl)) ?_
    exact .nil
  clear J; intro K2 hK2; simp only [fx]; intro β2 f2 W2 J; refine hK2.out _ _ ?_; clear hK2
  refine region_c [35, 36, 34, 37, 38, 14, 0, 15] [.is (.string s), .two (.int 0) (.is (.bool false)), .two (.int 0) (.is (.bool false)), .int 0, .is (.bool false), .any, .any, .is (.bool false)] [] [⟨.int, 5, 6, .int 0, .agg #[.bool false, .int .u64 0, .slice none 0 0]⟩] [] J ?_ ?_
  · refine .pl rfl (fun _ _ W Γ => ev_move _ (Γ.s rfl)) ?_
    refine .pl rfl (fun _ _ W Γ => ev_call1 (Γ.f _) run_iParse (by rw [(show _ = Value.string s from (Γ.k (d := 34) 0 rfl))]; exact HP1.out W)) ?_
    refine .pl rfl (fun _ _ W Γ => ev_moveM (Γ.w 1 rfl)) ?_
    refine .pl rfl (fun _ _ W Γ => ev_ex20 (Γ.w 2 rfl)) ?_
    refine .pl rfl (fun _ _ W Γ => ev_ex21 (Γ.w 2 rfl)) ?_
    refine .al 0 rfl rfl (fun _ _ => ev_alI) ?_
    refine .sn 0 rfl rfl (fun _ _ W Γ => ev_stI (Γ.q 0 rfl) (Γ.un 0 rfl) (Γ.w 3 rfl)) ?_
    refine .pl rfl (fun _ _ W Γ => ev_assign _ (Γ.k 4 rfl)) ?_
    exact .nil
  clear J; intro K3 hK3; simp only [fx]; intro β3 f3 W3 J; refine hK3.out _ _ ?_; clear hK3
  refine region_c [40, 41, 39, 42, 43, 16, 0, 17] [.is (.string s), .two (.rint 0) (.is (.bool false)), .two (.rint 0) (.is (.bool false)), .rint 0, .is (.bool false), .any, .any, .is (.bool false)] [] [⟨.rint, 5, 6, .rint 0, .agg #[.bool false, .slice none 0 0]⟩] [] J ?_ ?_
  · refine .pl rfl (fun _ _ W Γ => ev_move _ (Γ.s rfl)) ?_
    refine .pl rfl (fun _ _ W Γ => ev_call1 (Γ.f _) run_rIParse (by rw [(show _ = Value.string s from (Γ.k (d := 39) 0 rfl))]; exact HR1.out W)) ?_
    refine .pl rfl (fun _ _ W Γ => ev_moveM (Γ.w 1 rfl)) ?_
    refine .pl rfl (fun _ _ W Γ => ev_ex20 (Γ.w 2 rfl)) ?_
    refine .pl rfl (fun _ _ W Γ => ev_ex21 (Γ.w 2 rfl)) ?_
    refine .al 0 rfl rfl (fun _ _ => ev_alR) ?_
    refine .sn 0 rfl rfl (fun _ _ W Γ => ev_stR (Γ.q 0 rfl) (Γ.un 0 rfl) (Γ.w 3 rfl)) ?_
    refine .pl rfl (fun _ _ W Γ => ev_assign _ (Γ.k 4 rfl)) ?_
    exact .nil
  clear J; intro K4 hK4; simp only [fx]; intro β4 f4 W4 J; refine hK4.out _ _ ?_; clear hK4
  refine region_c [45, 46, 47, 44, 48, 49, 18, 19] [.is (.int .i64 n), .int n, .two (.is (.int .i64 n)) (.is (.bool true)), .two (.is (.int .i64 n)) (.is (.bool true)), .is (.int .i64 n), .is (.bool true), .is (.int .i64 n), .is (.bool true)] [] [] [] J ?_ ?_
  · refine .pl rfl (fun _ _ W Γ => ev_move _ (Γ.s rfl)) ?_
    refine .pl rfl (fun _ _ W Γ => ev_call1 (Γ.f _) run_iOf (by rw [(show _ = Value.int .i64 n from (Γ.k (d := 44) 0 rfl))]; exact iof_gives n W HNR.out.1 HNR.out.2)) ?_
    refine .pl rfl (fun _ _ W Γ => ev_call1 (Γ.f _) run_iSmall (ismall_n W _ n HNR.out (Γ.w (d := 45) 1 rfl))) ?_
    refine .pl rfl (fun _ _ W Γ => ev_moveM (Γ.w 2 rfl)) ?_
    refine .pl rfl (fun _ _ W Γ => ev_ex20 (Γ.w 3 rfl)) ?_
    refine .pl rfl (fun _ _ W Γ => ev_ex21 (Γ.w 3 rfl)) ?_
    refine .pl rfl (fun _ _ W Γ => ev_assign _ (Γ.k 4 rfl)) ?_
    refine .pl rfl (fun _ _ W Γ => ev_assign _ (Γ.k 5 rfl)) ?_
    exact .nil
  clear J; intro K5 hK5; simp only [fx]; intro _ f5 W5 J; refine hK5.out _ _ ?_; clear hK5
  refine region_c [51, 52, 50, 53, 54, 20, 21] [.int x, .two (.is (.int .i64 (smK x))) (.is (.bool (smB x))), .two (.is (.int .i64 (smK x))) (.is (.bool (smB x))), .is (.int .i64 (smK x)), .is (.bool (smB x)), .is (.int .i64 (smK x)), .is (.bool (smB x))] [] [] [] J ?_ ?_
  · refine .pl rfl (fun _ _ W Γ => ev_ldI (Γ.s rfl) (Γ.l 0 rfl)) ?_
    refine .pl rfl (fun _ _ W Γ => ev_call1 (Γ.f _) run_iSmall (ismall_gives W _ x HXS.out (Γ.w (d := 50) 0 rfl))) ?_
    refine .pl rfl (fun _ _ W Γ => ev_moveM (Γ.w 1 rfl)) ?_
    refine .pl rfl (fun _ _ W Γ => ev_ex20 (Γ.w 2 rfl)) ?_
    refine .pl rfl (fun _ _ W Γ => ev_ex21 (Γ.w 2 rfl)) ?_
    refine .pl rfl (fun _ _ W Γ => ev_assign _ (Γ.k 3 rfl)) ?_
    refine .pl rfl (fun _ _ W Γ => ev_assign _ (Γ.k 4 rfl)) ?_
    exact .nil
  clear J; intro K6 hK6; simp only [fx]; intro _ f6 W6 J; refine hK6.out _ _ ?_; clear hK6
  refine region_c [56, 57, 55, 58, 59, 22, 23] [.rint x, .two (.is (.int .i64 (smK x))) (.is (.bool (smB x))), .two (.is (.int .i64 (smK x))) (.is (.bool (smB x))), .is (.int .i64 (smK x)), .is (.bool (smB x)), .is (.int .i64 (smK x)), .is (.bool (smB x))] [] [] [] J ?_ ?_
  · refine .pl rfl (fun _ _ W Γ => ev_ldR (Γ.s rfl) (Γ.l 2 rfl)) ?_
    refine .pl rfl (fun _ _ W Γ => ev_call1 (Γ.f _) run_rSmall64 (rsmall_gives W _ x HXS.out (Γ.w (d := 55) 0 rfl))) ?_
    refine .pl rfl (fun _ _ W Γ => ev_moveM (Γ.w 1 rfl)) ?_
    refine .pl rfl (fun _ _ W Γ => ev_ex20 (Γ.w 2 rfl)) ?_
    refine .pl rfl (fun _ _ W Γ => ev_ex21 (Γ.w 2 rfl)) ?_
    refine .pl rfl (fun _ _ W Γ => ev_assign _ (Γ.k 3 rfl)) ?_
    refine .pl rfl (fun _ _ W Γ => ev_assign _ (Γ.k 4 rfl)) ?_
    exact .nil
  clear J; intro K7 hK7; simp only [fx]; intro _ f7 W7 J; refine hK7.out _ _ ?_; clear hK7
  refine wp_seq_h ?_; intro K8 hK8
  refine region_c [60, 61, 62, 63, 64, 65, 66, 67, 68, 69, 70, 71, 72, 73, 74, 75, 76, 77, 78, 79, 80, 81, 82, 83, 84, 85, 86, 87, 88, 89, 90, 91, 92, 93, 94, 95, 96, 97, 98, 99, 100, 101, 102, 103, 104, 105, 106, 107, 108, 109, 110] [.is (.bool true), .is (.bool false), .is (.bool false), .is (.bool false), .is (.bool false), .is (.bool false), .is (.bool false), .is (.bool false), .is (.bool false), .is (.bool false), .is undef, .is undef, .is undef, .is undef, .is (.bool false), .is (.bool false), .is (.bool false), .is (.bool false), .is (.bool true), .is (.bool true), .int 0, .is (.int .i64 0), .is (.bool false), .is (.bool false), .is (.bool false), .is (.bool false), .int x, .is (.string (itx x)), .rint x, .is (.string (itx x)), .is (.bool false), .is (.bool false), .is (.bool false), .is (.bool true), .is (.bool false), .is (.bool false), .is (.bool false), .is (.int .i64 n), .is (.int .i64 n), .is (.bool false), .is (.bool false), .is (.bool false), .is (.int .i64 (smK x)), .is (.int .i64 (smK x)), .is (.bool false), .is (.bool false), .is (.bool false), .is (.bool (smB x)), .is (.bool (smB x)), .is (.bool false), .is (.bool false)] [] [] [] J ?_ ?_
  · refine .pl rfl (fun _ _ W Γ => ev_call0 (Γ.f _) run_known2 (known2_gives' W)) ?_
    refine .pl rfl (fun _ _ W Γ => ev_not (Γ.k 0 rfl) rfl) ?_
    refine .pl rfl (fun _ _ W Γ => ev_move _ (Γ.k 1 rfl)) ?_
    refine .gu rfl rfl rfl rfl (fun _ _ W Γ => ev_move _ (Γ.s rfl)) ?_
    refine .gu rfl rfl rfl rfl (fun _ _ W Γ => ev_move _ (Γ.s rfl)) ?_
    refine .gu rfl rfl rfl rfl (fun _ E W Γ => by
      have e1 : E (.tmp 62) = .bool false := (Γ.k 3 rfl)
      have e2 : E (.tmp 63) = .bool false := (Γ.k 4 rfl)
      have hc := Γ.c
      exact Does.value (w' := W) (by go_simp <;> first | rfl | (rw [IntKind.wrap_i64]; omega)) ⟨rfl, Below.refl _ _⟩) ?_
    refine .pl rfl (fun _ _ W Γ => ev_pick (Γ.k 2 rfl) (Γ.k 5 rfl)) ?_
    refine .pl rfl (fun _ _ W Γ => ev_move _ (Γ.k 6 rfl)) ?_
    refine .gu rfl rfl rfl rfl (fun _ _ W Γ => ev_move _ (Γ.s rfl)) ?_
    refine .gu rfl rfl rfl rfl (fun _ _ W Γ => ev_move _ (Γ.k 8 rfl)) ?_
    refine .off rfl rfl rfl rfl ?_
    refine .off rfl rfl rfl rfl ?_
    refine .off rfl rfl rfl rfl ?_
    refine .off rfl rfl rfl rfl ?_
    refine .gu rfl rfl rfl rfl (fun _ _ W Γ => ev_pick (Γ.k 9 rfl) (Γ.c _)) ?_
    refine .pl rfl (fun _ _ W Γ => ev_pick (Γ.k 7 rfl) (Γ.k 14 rfl)) ?_
    refine .pl rfl (fun _ _ W Γ => ev_move _ (Γ.k 15 rfl)) ?_
    refine .gu rfl rfl rfl rfl (fun _ _ W Γ => ev_move _ (Γ.s rfl)) ?_
    refine .gu rfl rfl rfl rfl (fun _ _ W Γ => ev_not (Γ.k 17 rfl) rfl) ?_
    refine .gu rfl rfl rfl rfl (fun _ _ W Γ => ev_move _ (Γ.k 18 rfl)) ?_
    refine .gu rfl rfl rfl rfl (fun _ _ W Γ => ev_ldI (Γ.s rfl) (Γ.l 4 rfl)) ?_
    refine .gu rfl rfl rfl rfl (fun _ _ W Γ => ev_call1 (Γ.f _) run_iSign (isign_zero W _ (Γ.w (d := 79) 20 rfl))) ?_
    refine .gu rfl rfl rfl rfl (fun _ E W Γ => by
      have e1 : E (.tmp 80) = .int .i64 0 := (Γ.k 21 rfl)
      have hc := Γ.c
      exact Does.value (w' := W) (by go_simp <;> first | rfl | (rw [IntKind.wrap_i64]; omega)) ⟨rfl, Below.refl _ _⟩) ?_
    refine .gu rfl rfl rfl rfl (fun _ _ W Γ => ev_pick (Γ.k 19 rfl) (Γ.k 22 rfl)) ?_
    refine .pl rfl (fun _ _ W Γ => ev_pick (Γ.k 16 rfl) (Γ.k 23 rfl)) ?_
    refine .pl rfl (fun _ _ W Γ => ev_move _ (Γ.k 24 rfl)) ?_
    refine .gu rfl rfl rfl rfl (fun _ _ W Γ => ev_ldI (Γ.s rfl) (Γ.l 0 rfl)) ?_
    refine .gu rfl rfl rfl rfl (fun _ _ W Γ => ev_call1 (Γ.f _) run_iText (itext_gives W _ x HXS.out (TB.out.mono Γ.be) (Γ.w (d := 85) 26 rfl))) ?_
    refine .gu rfl rfl rfl rfl (fun _ _ W Γ => ev_ldR (Γ.s rfl) (Γ.l 2 rfl)) ?_
    refine .gu rfl rfl rfl rfl (fun _ _ W Γ => ev_call1 (Γ.f _) run_rIText (ritext_gives W _ x HXS.out (Γ.w (d := 87) 28 rfl))) ?_
    refine .gu rfl rfl rfl rfl (fun _ _ W Γ => ev_neqS (Γ.k 27 rfl) (Γ.k 29 rfl) trivial) ?_
    refine .pl rfl (fun _ _ W Γ => ev_pick (Γ.k 25 rfl) (Γ.k 30 rfl)) ?_
    refine .pl rfl (fun _ _ W Γ => ev_move _ (Γ.k 31 rfl)) ?_
    refine .gu rfl rfl rfl rfl (fun _ _ W Γ => ev_move _ (Γ.s rfl)) ?_
    refine .gu rfl rfl rfl rfl (fun _ _ W Γ => ev_not (Γ.k 33 rfl) rfl) ?_
    refine .pl rfl (fun _ _ W Γ => ev_pick (Γ.k 32 rfl) (Γ.k 34 rfl)) ?_
    refine .pl rfl (fun _ _ W Γ => ev_move _ (Γ.k 35 rfl)) ?_
    refine .gu rfl rfl rfl rfl (fun _ _ W Γ => ev_move _ (Γ.s rfl)) ?_
    refine .gu rfl rfl rfl rfl (fun _ _ W Γ => ev_move _ (Γ.s rfl)) ?_
    refine .gu rfl rfl rfl rfl (fun _ _ W Γ => ev_neq64 (Γ.k 37 rfl) (Γ.k 38 rfl) (by simp)) ?_
    refine .pl rfl (fun _ _ W Γ => ev_pick (Γ.k 36 rfl) (Γ.k 39 rfl)) ?_
    refine .pl rfl (fun _ _ W Γ => ev_move _ (Γ.k 40 rfl)) ?_
    refine .gu rfl rfl rfl rfl (fun _ _ W Γ => ev_move _ (Γ.s rfl)) ?_
    refine .gu rfl rfl rfl rfl (fun _ _ W Γ => ev_move _ (Γ.s rfl)) ?_
    refine .gu rfl rfl rfl rfl (fun _ _ W Γ => ev_neq64 (Γ.k 42 rfl) (Γ.k 43 rfl) (by simp)) ?_
    refine .pl rfl (fun _ _ W Γ => ev_pick (Γ.k 41 rfl) (Γ.k 44 rfl)) ?_
    refine .pl rfl (fun _ _ W Γ => ev_move _ (Γ.k 45 rfl)) ?_
    refine .gu rfl rfl rfl rfl (fun _ _ W Γ => ev_move _ (Γ.s rfl)) ?_
    refine .gu rfl rfl rfl rfl (fun _ _ W Γ => ev_move _ (Γ.s rfl)) ?_
    refine .gu rfl rfl rfl rfl (fun _ _ W Γ => ev_neqB (Γ.k 47 rfl) (Γ.k 48 rfl) (by simp)) ?_
    refine .pl rfl (fun _ _ W Γ => ev_pick (Γ.k 46 rfl) (Γ.k 49 rfl)) ?_
    exact .nil
  clear J; intro K9 hK9; simp only [fx]; intro _ f9 W9 J; refine hK9.out _ _ ?_; clear hK9
  refine wp_cond_false rfl ?_
  refine wp_skip ?_
  refine hK8.out _ _ ?_; clear hK8
  refine region_c [112, 113, 114, 111, 115, 116, 24, 0, 25] [.int x, .is (.string (itx x)), .two (.int x) (.is (.bool true)), .two (.int x) (.is (.bool true)), .int x, .is (.bool true), .any, .any, .is (.bool true)] [] [⟨.int, 6, 7, .int x, .agg #[.bool false, .int .u64 0, .slice none 0 0]⟩] [] J ?_ ?_
  · refine .pl rfl (fun _ _ W Γ => ev_ldI (Γ.s rfl) (Γ.l 0 rfl)) ?_
    refine .pl rfl (fun _ _ W Γ => ev_call1 (Γ.f _) run_iText (itext_gives W _ x HXS.out (TB.out.mono Γ.be) (Γ.w (d := 111) 0 rfl))) ?_
    refine .pl rfl (fun _ _ W Γ => ev_call1 (Γ.f _) run_iParse (by rw [(show _ = Value.string (itx x) from (Γ.k (d := 112) 1 rfl))]; exact HP2.out W)) ?_
    refine .pl rfl (fun _ _ W Γ => ev_moveM (Γ.w 2 rfl)) ?_
    refine .pl rfl (fun _ _ W Γ => ev_ex20 (Γ.w 3 rfl)) ?_
    refine .pl rfl (fun _ _ W Γ => ev_ex21 (Γ.w 3 rfl)) ?_
    refine .al 0 rfl rfl (fun _ _ => ev_alI) ?_
    refine .sn 0 rfl rfl (fun _ _ W Γ => ev_stI (Γ.q 0 rfl) (Γ.un 0 rfl) (Γ.w 4 rfl)) ?_
    refine .pl rfl (fun _ _ W Γ => ev_assign _ (Γ.k 5 rfl)) ?_
    exact .nil
  clear J; intro K10 hK10; simp only [fx]; intro β10 f10 W10 J; refine hK10.out _ _ ?_; clear hK10
  refine region_c [117, 118, 119, 120, 121, 122, 123, 9] [.is (.bool true), .is (.bool true), .int x, .int x, .is (.int .i64 0), .is (.bool true), .is (.bool true), .is (.bool true)] [] [] [] J ?_ ?_
  · refine .pl rfl (fun _ _ W Γ => ev_move _ (Γ.s rfl)) ?_
    refine .pl rfl (fun _ _ W Γ => ev_move _ (Γ.k 0 rfl)) ?_
    refine .gu rfl rfl rfl rfl (fun _ _ W Γ => ev_ldI (Γ.s rfl) (Γ.l 6 rfl)) ?_
    refine .gu rfl rfl rfl rfl (fun _ _ W Γ => ev_ldI (Γ.s rfl) (Γ.l 0 rfl)) ?_
    refine .gu rfl rfl rfl rfl (fun _ _ W Γ => ev_call2 (Γ.f _) run_iCmp (icmp_self W _ _ x HXS.out (Γ.w (d := 118) 2 rfl) (Γ.w (d := 119) 3 rfl))) ?_
    refine .gu rfl rfl rfl rfl (fun _ E W Γ => by
      have e1 : E (.tmp 120) = .int .i64 0 := (Γ.k 4 rfl)
      have hc := Γ.c
      exact Does.value (w' := W) (by go_simp <;> first | rfl | (rw [IntKind.wrap_i64]; omega)) ⟨rfl, Below.refl _ _⟩) ?_
    refine .pl rfl (fun _ _ W Γ => ev_pick (Γ.k 1 rfl) (Γ.k 5 rfl)) ?_
    refine .pl rfl (fun _ _ W Γ => ev_assign _ (Γ.k 6 rfl)) ?_
    exact .nil
  clear J; intro K11 hK11; simp only [fx]; intro _ f11 W11 J; refine hK11.out _ _ ?_; clear hK11
  refine wp_ret ?_
  exact bodyPost_ret (v := .bool true) (by simp [results, Tryz.results3, go_sem]) rfl ⟨_, rfl, rfl, J.out.be⟩
theorem wtexts_any (s : ByteArray) (p : Option Addr) (l c : Nat) (f : Bool) (n : Int) (bs : List Nat) (w : World) (hs : s.size ≤ 9223372036854775807) (hn1 : -9223372036854775808 ≤ n) (hn2 : n ≤ 9223372036854775807) (h : IsB w p l c bs) (ht : TabP w) :
    Calls Tryz.prog 3 #[.string s, .slice p l c, .bool f, .int .i64 n] w fun e w' => e = .returned (.bool true) ∧ Below w.heap.size w w' := by
  have conv : ∀ e w', Gives w (.is (.bool true)) e w' → e = .returned (.bool true) ∧ Below w.heap.size w w' := fun e w' ⟨v, h1, h2, h3⟩ => ⟨by rw [h1, show v = .bool true from h2], h3⟩
  rcases iparse_both s hs with ⟨z, hz, h1, h2⟩ | ⟨h1, h2⟩
  · exact (wtexts_num w s p l c bs f _ z n rfl h ht ⟨hn1, hn2⟩ h1 h2 hz).mono conv
  · exact (wtexts_none w s p l c bs f _ 0 n rfl h ht ⟨hn1, hn2⟩ h1 h2 (by rw [show (0 : Int).natAbs = 0 from rfl, ds_one (by omega)]; decide)).mono conv
end Go.Proofs.YtfjjmhbffbhhdaaGreatDoor
