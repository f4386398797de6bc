/- WholeQuotients: quotients of integers of any signs, rounded down, and what is left, are the document's; division by 0 is refused. -/
import Derived.Test.YthjeidgmkkkmbaaGreatDoorByt
namespace Go.Proofs.YthjeidgmkkkmbaaGreatDoor
open Go.RowKit

theorem run_Pick : RowKit.Hid (∀ (a : Array Value) (w : World), Sem.run Tryz.prog (callFunc 7 a) w = .ok (.enter 7 a) w) := fun a w => by go_simp
theorem run_iDiv : RowKit.Hid (∀ (a : Array Value) (w : World), Sem.run Tryz.prog (callFunc 8 a) w = .ok (.enter 8 a) w) := fun a w => by go_simp
theorem run_two2 : RowKit.Hid (∀ (a : Array Value) (w : World), Sem.run Tryz.prog (callFunc 6 a) w = .ok (.enter 6 a) w) := fun a w => by go_simp
theorem known2_gives (w : World) : Calls Tryz.prog 9 #[] w (Gives w (.is (.bool true))) := (known2_any w).mono fun _ _ ⟨h, hb⟩ => ⟨_, h, rfl, hb⟩
set_option maxRecDepth 100000 in
set_option maxHeartbeats 8000000 in
theorem wquot_any (p q : Option Addr) (l c k d : Nat) (f g : Bool) (i : Int) (xs ys : List Nat) (w : World) (hi1 : -9223372036854775808 ≤ i) (hi2 : i ≤ 9223372036854775807) (hk : k ≤ 9223372036854775807) (h1 : IsB w p l c xs) (h2 : IsB w q k d ys) :
    Calls Tryz.prog 3 #[.slice p l c, .slice q k d, .bool f, .bool g, .int .i64 i] w fun e w' => e = .returned (.bool true) ∧ Below w.heap.size w w' := by
  suffices h : Calls Tryz.prog 3 #[.slice p l c, .slice q k d, .bool f, .bool g, .int .i64 i] w (Gives w (.is (.bool true))) from h.mono fun _ _ ⟨v, h1, h2, h3⟩ => ⟨by rw [h1]; exact congrArg _ h2, h3⟩
  obtain ⟨v, hv, pv⟩ := pick_cut2 i k hi1 hi2 hk
  have hkd : k ≤ d := by rcases h2.2.2 with ⟨_, h, h'⟩ | ⟨_, _, _, _, h, _⟩ <;> omega
  have hvd : (v : Int) ≤ d := by omega
  have hv0 : (0 : Int) ≤ v := by omega
  have PV : Hid (∀ W, Calls Tryz.prog 7 #[.int .i64 i, .int .i64 (IntKind.i64.wrap ((k : Int) + 1))] W (Gives W (.is (.int .i64 (v : Int))))) := Lib.hid pv
  have HV := Lib.hid hv
  have sx : (ds (sgn f (nb (xs.take 40))).natAbs).length ≤ 5 := by rw [sgn_abs]; exact ds_nb40 xs h1.2.1
  have sy : (ds (sgn g (nb ((ys.take v).take 40))).natAbs).length ≤ 5 := by rw [sgn_abs]; exact ds_nb40 (ys.take v) (fun x hx => h2.2.1 x (List.mem_of_mem_take hx))
  obtain ⟨x, hx⟩ : ∃ x, sgn f (nb (xs.take 40)) = x := ⟨_, rfl⟩
  obtain ⟨y, hy⟩ : ∃ y, sgn g (nb ((ys.take v).take 40)) = y := ⟨_, rfl⟩
  rw [hx] at sx; rw [hy] at sy
  have H1 := Lib.hid h1; have H2 := Lib.hid h2
  have HX := Lib.hid hx
  by_cases hy0 : y = 0
  · subst hy0
    have HY := Lib.hid hy
    clear h1 h2 hx hy hv pv hk hi1 hi2 hkd
    go_enter Tryz.func3, Tryz.ntmps3
    refine wp_seq_k ?_; intro K1 hK1; replace hK1 := Lib.hid hK1
    go_wp2
    have HB := Lib.hid (Below.refl w.heap.size w)
    refine hK1.out _ _ ?_; clear hK1; try clear K1
    refine wp_seq_k ?_; intro K2 hK2; replace hK2 := Lib.hid hK2
    refine region_tell (T := [0, 1, 2, 3, 4, 5, 6, 7, 8, 9, 10, 11, 12, 13, 14, 15, 16, 17, 18, 19]) (slots := [21, 22, 23, 24, 25, 26, 27, 28, 29, 30, 31, 20, 32, 33, 34, 35, 11, 12, 13, 14]) (tab := [.is (.slice p l c), .is (.slice q k d), .is (.int .i64 i), .is (.slice q k d), .is (.int .i64 (k : Int)), .is (.int .i64 (IntKind.i64.wrap ((k : Int) + 1))), .is (.int .i64 (v : Int)), .that (bytesS (ys.take v)), .is (.bool f), .is (.bool g), .that (fourS (.int x) (.int 0) (.rint x) (.rint 0) rfl), .that (fourS (.int x) (.int 0) (.rint x) (.rint 0) rfl), .int x, .int 0, .rint x, .rint 0, .any, .any, .any, .any, .any, .any, .any, .any])
        (D := [⟨0, .int, some 16, 20, .int x, .agg #[.bool false, .int .u64 0, .slice none 0 0]⟩, ⟨0, .int, some 17, 21, .int 0, .agg #[.bool false, .int .u64 0, .slice none 0 0]⟩, ⟨0, .rint, some 18, 22, .rint x, .agg #[.bool false, .slice none 0 0]⟩, ⟨0, .rint, some 19, 23, .rint 0, .agg #[.bool false, .slice none 0 0]⟩]) (F := []) List.Pairwise.nil fn (ha (ha (ha (ha hn)))) ?_ ?_
    · refine .pl rfl (fun β E W Γ => ev_move _ (Γ.s rfl)) ?_
      refine .pl rfl (fun β E W Γ => ev_move _ (Γ.s rfl)) ?_
      refine .pl rfl (fun β E W Γ => ev_move _ (Γ.s rfl)) ?_
      refine .pl rfl (fun β E W Γ => ev_move _ (Γ.s rfl)) ?_
      refine .pl rfl (fun β E W Γ => by
        have e1 : E (.tmp 24) = .slice q k d := (Γ.k 3 rfl)
        have hc := Γ.c
        exact Does.value (w' := W) (by go_simp) ⟨rfl, Below.refl _ _⟩) ?_
      refine .pl rfl (fun β E W Γ => by
        have e1 : E (.tmp 25) = .int .i64 (k : Int) := (Γ.k 4 rfl)
        have hc := Γ.c
        exact Does.value (w' := W) (by go_simp) ⟨rfl, Below.refl _ _⟩) ?_
      refine .pl rfl (fun β E W Γ => ev_call2 (Γ.f _) run_Pick (by rw [(show _ = Value.int .i64 i from (Γ.k (d := 23) 2 rfl)), (show _ = Value.int .i64 (IntKind.i64.wrap ((k : Int) + 1)) from (Γ.k (d := 26) 5 rfl))]; exact PV.out W)) ?_
      refine .pl rfl (fun β E W Γ => by
        have e1 : E (.tmp 22) = .slice q k d := (Γ.k 1 rfl)
        have e2 : E (.tmp 27) = .int .i64 (v : Int) := (Γ.k 6 rfl)
        have hA := Γ.A; have hF := Γ.F; have hc := Γ.c
        exact Does.value (v := .slice q v d) (w' := W) (by go_simp) ⟨⟨_, _, _, rfl, (H2.out.pre v HV.out).mono hA.below0⟩, Below.refl _ _⟩) ?_
      refine .pl rfl (fun β E W Γ => ev_move _ (Γ.s rfl)) ?_
      refine .pl rfl (fun β E W Γ => ev_move _ (Γ.s rfl)) ?_
      refine .pl rfl (fun β E W Γ => ev_call4 (Γ.f _) run_two2 (by rw [(show _ = Value.slice p l c from (Γ.k (d := 21) 0 rfl)), (show _ = Value.bool f from (Γ.k (d := 29) 8 rfl)), (show _ = Value.bool g from (Γ.k (d := 30) 9 rfl))]; exact two2_want W _ _ xs (ys.take v) f g x 0 HX.out HY.out ⟨_, _, _, rfl, H1.out.mono Γ.A.below0⟩ (Γ.w (d := 28) 7 rfl))) ?_
      refine .pl rfl (fun β E W Γ => ev_moveM (Γ.w 10 rfl)) ?_
      refine .pl rfl (fun β E W Γ => ev_ex40 (Γ.w 11 rfl)) ?_
      refine .pl rfl (fun β E W Γ => ev_ex41 (Γ.w 11 rfl)) ?_
      refine .pl rfl (fun β E W Γ => ev_ex42 (Γ.w 11 rfl)) ?_
      refine .pl rfl (fun β E W Γ => ev_ex43 (Γ.w 11 rfl)) ?_
      refine .al rfl mb0 (fun _ _ => ev_alI) ?_
      refine .al rfl mb1 (fun _ _ => ev_alI) ?_
      refine .al rfl mb2 (fun _ _ => ev_alR) ?_
      refine .al rfl mb3 (fun _ _ => ev_alR) ?_
      refine .st rfl mb0 (fun β E W Γ => ev_stI (Γ.q mb0 rfl) (Γ.b1 mb0) (Γ.b2 mb0) (Γ.w 12 rfl)) ?_
      refine .st rfl mb1 (fun β E W Γ => ev_stI (Γ.q mb1 rfl) (Γ.b1 mb1) (Γ.b2 mb1) (Γ.w 13 rfl)) ?_
      refine .st rfl mb2 (fun β E W Γ => ev_stR (Γ.q mb2 rfl) (Γ.b1 mb2) (Γ.b2 mb2) (Γ.w 14 rfl)) ?_
      refine .st rfl mb3 (fun β E W Γ => ev_stR (Γ.q mb3 rfl) (Γ.b1 mb3) (Γ.b2 mb3) (Γ.w 15 rfl)) ?_
      exact .nil
    intro β f3 W3 hf hS hN hA hP hlo hlt hap
    have HB0 := HB.out.size
    have HB := Lib.hid (HB.out.trans (hA.below (B := w.heap.size) (by intro b hb; simp [oldBlocks] at hb) HB.out.size))
    obtain ⟨b4, b4e⟩ : ∃ b, b = β 20 := ⟨_, rfl⟩
    have b4p : f3 11 = .pointer (some ⟨b4, 0, none⟩) := b4e ▸ hP _ mb0 (16, 11) (by simp) rfl
    have b4o : w.heap.size ≤ b4 := b4e ▸ hlo _ mb0 (by intro h; cases h)
    have X_b4 : Hid (Holds W3 b4 .int (.int x)) := Lib.hid (b4e ▸ hS _ mb0)
    obtain ⟨b5, b5e⟩ : ∃ b, b = β 21 := ⟨_, rfl⟩
    have b5p : f3 12 = .pointer (some ⟨b5, 0, none⟩) := b5e ▸ hP _ mb1 (17, 12) (by simp) rfl
    have b5o : w.heap.size ≤ b5 := b5e ▸ hlo _ mb1 (by intro h; cases h)
    have X_b5 : Hid (Holds W3 b5 .int (.int 0)) := Lib.hid (b5e ▸ hS _ mb1)
    have b4b5q : b4 ≠ b5 := by rw [b4e, b5e]; exact hap _ mb0 _ mb1 (by show 20 ≠ 21; decide)
    obtain ⟨b6, b6e⟩ : ∃ b, b = β 22 := ⟨_, rfl⟩
    have b6p : f3 13 = .pointer (some ⟨b6, 0, none⟩) := b6e ▸ hP _ mb2 (18, 13) (by simp) rfl
    have b6o : w.heap.size ≤ b6 := b6e ▸ hlo _ mb2 (by intro h; cases h)
    have X_b6 : Hid (Holds W3 b6 .rint (.rint x)) := Lib.hid (b6e ▸ hS _ mb2)
    have b4b6q : b4 ≠ b6 := by rw [b4e, b6e]; exact hap _ mb0 _ mb2 (by show 20 ≠ 22; decide)
    have b5b6q : b5 ≠ b6 := by rw [b5e, b6e]; exact hap _ mb1 _ mb2 (by show 21 ≠ 22; decide)
    obtain ⟨b7, b7e⟩ : ∃ b, b = β 23 := ⟨_, rfl⟩
    have b7p : f3 14 = .pointer (some ⟨b7, 0, none⟩) := b7e ▸ hP _ mb3 (19, 14) (by simp) rfl
    have b7o : w.heap.size ≤ b7 := b7e ▸ hlo _ mb3 (by intro h; cases h)
    have X_b7 : Hid (Holds W3 b7 .rint (.rint 0)) := Lib.hid (b7e ▸ hS _ mb3)
    have b4b7q : b4 ≠ b7 := by rw [b4e, b7e]; exact hap _ mb0 _ mb3 (by show 20 ≠ 23; decide)
    have b5b7q : b5 ≠ b7 := by rw [b5e, b7e]; exact hap _ mb1 _ mb3 (by show 21 ≠ 23; decide)
    have b6b7q : b6 ≠ b7 := by rw [b6e, b7e]; exact hap _ mb2 _ mb3 (by show 22 ≠ 23; decide)
    have NE : Hid (w.heap.size ≤ b4 ∧ b4 ≠ b5 ∧ w.heap.size ≤ b5 ∧ b4 ≠ b6 ∧ b5 ≠ b6 ∧ w.heap.size ≤ b6 ∧ b4 ≠ b7 ∧ b5 ≠ b7 ∧ b6 ≠ b7 ∧ w.heap.size ≤ b7) := Lib.hid (by omega)
    simp only [fillSlots, b4p, b5p, b6p, b7p, List.setIfInBounds_toArray, List.set_cons_succ, List.set_cons_zero]
    clear hf hS hN hA hP hlo hlt hap b4e b4o b5e b5o b6e b6o b7e b7o b4b5q b4b6q b4b7q b5b6q b5b7q b6b7q b4p b5p b6p b7p HB0
    refine hK2.out _ _ ?_; clear hK2
    refine wp_seq_k ?_; intro K8 hK8; replace hK8 := Lib.hid hK8
    obtain ⟨b4v, b4x, b4m, b4f, b4l⟩ := X_b4.out.op rfl
    obtain ⟨b5v, b5x, b5m, b5f, b5l⟩ := X_b5.out.op rfl
    obtain ⟨b6v, b6x, b6m, b6f, b6l⟩ := X_b6.out.op rfl
    obtain ⟨b7v, b7x, b7m, b7f, b7l⟩ := X_b7.out.op rfl
    clear X_b4 X_b5 X_b6 X_b7
    refine region_tell (T := [0, 1, 2, 3, 4, 5, 6, 7, 8, 11]) (slots := [37, 38, 39, 36, 40, 41, 42, 15, 16, 17]) (tab := [.int x, .int 0, .three (.int 0) (.int 0) (.is (.bool false)), .three (.int 0) (.int 0) (.is (.bool false)), .int 0, .int 0, .is (.bool false), .any, .any, .any, .any, .is (.bool false)])
        (D := [⟨0, .int, some 7, 9, .int 0, .agg #[.bool false, .int .u64 0, .slice none 0 0]⟩, ⟨0, .int, some 8, 10, .int 0, .agg #[.bool false, .int .u64 0, .slice none 0 0]⟩]) (F := [(b4v, .int x), (b5v, .int 0), (b6v, .rint x), (b7v, .rint 0)]) List.Pairwise.nil (fc b4m (fc b5m (fc b6m (fc b7m fn)))) (ha (ha hn)) ?_ ?_
    · refine .pl rfl (fun β E W Γ => ev_ldI (Γ.s rfl) (b4x.far Γ.A List.not_mem_nil) (Γ.F (_, _) mb0)) ?_
      refine .pl rfl (fun β E W Γ => ev_ldI (Γ.s rfl) (b5x.far Γ.A List.not_mem_nil) (Γ.F (_, _) mb1)) ?_
      refine .pl rfl (fun β E W Γ => ev_call2 (Γ.f _) run_iDiv (iDivNone_want W _ _ x (Γ.w (d := 37) 0 rfl) (Γ.w (d := 38) 1 rfl))) ?_
      refine .pl rfl (fun β E W Γ => ev_moveM (Γ.w 2 rfl)) ?_
      refine .pl rfl (fun β E W Γ => ev_ex30 (Γ.w 3 rfl)) ?_
      refine .pl rfl (fun β E W Γ => ev_ex31 (Γ.w 3 rfl)) ?_
      refine .pl rfl (fun β E W Γ => ev_ex32 (Γ.w 3 rfl)) ?_
      refine .al rfl mb0 (fun _ _ => ev_alI) ?_
      refine .al rfl mb1 (fun _ _ => ev_alI) ?_
      refine .st rfl mb0 (fun β E W Γ => ev_stI (Γ.q mb0 rfl) (Γ.b1 mb0) (Γ.b2 mb0) (Γ.w 4 rfl)) ?_
      refine .st rfl mb1 (fun β E W Γ => ev_stI (Γ.q mb1 rfl) (Γ.b1 mb1) (Γ.b2 mb1) (Γ.w 5 rfl)) ?_
      refine .pl rfl (fun β E W Γ => ev_assign _ (Γ.k 6 rfl)) ?_
      exact .nil
    intro β f9 W9 hf hS hN hA hP hlo hlt hap
    have HB0 := HB.out.size
    have HB := Lib.hid (HB.out.trans (hA.below (B := w.heap.size) (by intro b hb; simp [oldBlocks] at hb) HB.out.size))
    obtain ⟨b10, b10e⟩ : ∃ b, b = β 9 := ⟨_, rfl⟩
    have b10p : f9 15 = .pointer (some ⟨b10, 0, none⟩) := b10e ▸ hP _ mb0 (7, 15) (by simp) rfl
    have b10o : W3.heap.size ≤ b10 := b10e ▸ hlo _ mb0 (by intro h; cases h)
    have X_b10 : Hid (Holds W9 b10 .int (.int 0)) := Lib.hid (b10e ▸ hS _ mb0)
    obtain ⟨b11, b11e⟩ : ∃ b, b = β 10 := ⟨_, rfl⟩
    have b11p : f9 16 = .pointer (some ⟨b11, 0, none⟩) := b11e ▸ hP _ mb1 (8, 16) (by simp) rfl
    have b11o : W3.heap.size ≤ b11 := b11e ▸ hlo _ mb1 (by intro h; cases h)
    have X_b11 : Hid (Holds W9 b11 .int (.int 0)) := Lib.hid (b11e ▸ hS _ mb1)
    have b10b11q : b10 ≠ b11 := by rw [b10e, b11e]; exact hap _ mb0 _ mb1 (by show 9 ≠ 10; decide)
    have NE : Hid (w.heap.size ≤ b4 ∧ b4 ≠ b5 ∧ w.heap.size ≤ b5 ∧ b4 ≠ b6 ∧ b5 ≠ b6 ∧ w.heap.size ≤ b6 ∧ b4 ≠ b7 ∧ b5 ≠ b7 ∧ b6 ≠ b7 ∧ w.heap.size ≤ b7 ∧ b4 < b10 ∧ b5 < b10 ∧ b6 < b10 ∧ b7 < b10 ∧ w.heap.size ≤ b10 ∧ b10 ≠ b11 ∧ b4 < b11 ∧ b5 < b11 ∧ b6 < b11 ∧ b7 < b11 ∧ w.heap.size ≤ b11) := Lib.hid (by have h := NE.out; omega)
    have X_b4 := Lib.hid (Says.keep b4x b4f b4l (hN (_, _) mb0) hA List.not_mem_nil)
    have X_b5 := Lib.hid (Says.keep b5x b5f b5l (hN (_, _) mb1) hA List.not_mem_nil)
    have X_b6 := Lib.hid (Says.keep b6x b6f b6l (hN (_, _) mb2) hA List.not_mem_nil)
    have X_b7 := Lib.hid (Says.keep b7x b7f b7l (hN (_, _) mb3) hA List.not_mem_nil)
    have p17_9 : f9 17 = .bool false := hf (11, 17) (by simp)
    simp only [fillSlots, b10p, b11p, p17_9, List.setIfInBounds_toArray, List.set_cons_succ, List.set_cons_zero]
    clear hf hS hN hA hP hlo hlt hap b4x b4m b4f b4l b5x b5m b5f b5l b6x b6m b6f b6l b7x b7m b7f b7l b10e b10o b11e b11o b10b11q b10p b11p p17_9 HB0
    refine hK8.out _ _ ?_; clear hK8
    refine wp_seq_k ?_; intro K12 hK12; replace hK12 := Lib.hid hK12
    refine wp_seq_k ?_; intro K13 hK13; replace hK13 := Lib.hid hK13
    clear X_b4
    clear X_b5
    obtain ⟨b6v, b6x, b6m, b6f, b6l⟩ := X_b6.out.op rfl
    obtain ⟨b7v, b7x, b7m, b7f, b7l⟩ := X_b7.out.op rfl
    obtain ⟨b10v, b10x, b10m, b10f, b10l⟩ := X_b10.out.op rfl
    obtain ⟨b11v, b11x, b11m, b11f, b11l⟩ := X_b11.out.op rfl
    clear X_b6 X_b7 X_b10 X_b11
    refine region_tell (T := [0, 1, 2, 3]) (slots := [43, 44, 45, 46]) (tab := [.is (.pointer (some ⟨b7, 1, none⟩)), .rnum ((0 : Int).natAbs), .that (lenS ((0 : Int).natAbs)), .is (.bool true)])
        (D := []) (F := [(b6v, .rint x), (b7v, .rint 0), (b10v, .int 0), (b11v, .int 0)]) List.Pairwise.nil (fc b6m (fc b7m (fc b10m (fc b11m fn)))) hn ?_ ?_
    · refine .pl rfl (fun β E W Γ => ev_faR1 (Γ.s rfl)) ?_
      refine .pl rfl (fun β E W Γ => ev_ldR1 (Γ.k 0 rfl) (b7x.far Γ.A List.not_mem_nil) (Γ.F (_, _) mb1) rfl) ?_
      refine .pl rfl (fun β E W Γ => ev_len (Γ.w 1 rfl)) ?_
      refine .pl rfl (fun β E W Γ => ev_lenEql (Γ.w 2 rfl) rfl Γ.c) ?_
      exact .nil
    intro β f14 W14 hf hS hN hA hP hlo hlt hap
    have HB := Lib.hid (HB.out.trans (hA.below (B := w.heap.size) (by intro b hb; simp [oldBlocks] at hb) HB.out.size))
    have X_b6 := Lib.hid (Says.keep b6x b6f b6l (hN (_, _) mb0) hA List.not_mem_nil)
    have X_b7 := Lib.hid (Says.keep b7x b7f b7l (hN (_, _) mb1) hA List.not_mem_nil)
    have X_b10 := Lib.hid (Says.keep b10x b10f b10l (hN (_, _) mb2) hA List.not_mem_nil)
    have X_b11 := Lib.hid (Says.keep b11x b11f b11l (hN (_, _) mb3) hA List.not_mem_nil)
    have p46_14 : f14 46 = .bool true := hf (3, 46) (by simp)
    simp only [fillSlots, p46_14, List.setIfInBounds_toArray, List.set_cons_succ, List.set_cons_zero]
    clear hf hS hN hA hP hlo hlt hap b6x b6m b6f b6l b7x b7m b7f b7l b10x b10m b10f b10l b11x b11m b11f b11l p46_14
    refine hK13.out _ _ ?_; clear hK13
    refine wp_cond_true rfl ?_
    refine wp_seq_k ?_; intro K15 hK15; replace hK15 := Lib.hid hK15
    obtain ⟨b6v, b6x, b6m, b6f, b6l⟩ := X_b6.out.op rfl
    obtain ⟨b7v, b7x, b7m, b7f, b7l⟩ := X_b7.out.op rfl
    obtain ⟨b10v, b10x, b10m, b10f, b10l⟩ := X_b10.out.op rfl
    obtain ⟨b11v, b11x, b11m, b11f, b11l⟩ := X_b11.out.op rfl
    clear X_b6 X_b7 X_b10 X_b11
    refine region_tell (T := [0, 1, 2, 3, 4, 5, 6, 7, 8, 9, 10, 11, 12, 13, 14, 15]) (slots := [47, 48, 49, 50, 51, 52, 53, 54, 55, 56, 57, 58, 59, 60, 61, 10]) (tab := [.is (.bool true), .is (.bool true), .is (.bool false), .is (.bool true), .is (.bool true), .is (.bool true), .int 0, .is (.int .i64 0), .is (.bool true), .is (.bool true), .is (.bool true), .int 0, .is (.int .i64 0), .is (.bool true), .is (.bool true), .is (.bool true)])
        (D := []) (F := [(b6v, .rint x), (b7v, .rint 0), (b10v, .int 0), (b11v, .int 0)]) List.Pairwise.nil (fc b6m (fc b7m (fc b10m (fc b11m fn)))) hn ?_ ?_
    · refine .pl rfl (fun β E W Γ => ev_call0 (Γ.f _) run_known2 (known2_gives W)) ?_
      refine .pl rfl (fun β E W Γ => ev_move _ (Γ.k 0 rfl)) ?_
      refine .gu rfl rfl rfl rfl (fun β E W Γ => ev_move _ (Γ.s rfl)) ?_
      refine .gu rfl rfl rfl rfl (fun β E W Γ => ev_not (Γ.k 2 rfl) rfl) ?_
      refine .pl rfl (fun β E W Γ => ev_pick (Γ.k 1 rfl) (Γ.k 3 rfl)) ?_
      refine .pl rfl (fun β E W Γ => ev_move _ (Γ.k 4 rfl)) ?_
      refine .gu rfl rfl rfl rfl (fun β E W Γ => ev_ldI (Γ.s rfl) (b10x.far Γ.A List.not_mem_nil) (Γ.F (_, _) mb2)) ?_
      refine .gu rfl rfl rfl rfl (fun β E W Γ => ev_call1 (Γ.f _) run_iSign (iSign_val W _ 0 0 rfl (Γ.w (d := 53) 6 rfl))) ?_
      refine .gu rfl rfl rfl rfl (fun β E W Γ => by
        have e1 : E (.tmp 54) = .int .i64 0 := (Γ.k 7 rfl)
        have hc := Γ.c
        exact Does.value (w' := W) (by go_simp) ⟨rfl, Below.refl _ _⟩) ?_
      refine .pl rfl (fun β E W Γ => ev_pick (Γ.k 5 rfl) (Γ.k 8 rfl)) ?_
      refine .pl rfl (fun β E W Γ => ev_move _ (Γ.k 9 rfl)) ?_
      refine .gu rfl rfl rfl rfl (fun β E W Γ => ev_ldI (Γ.s rfl) (b11x.far Γ.A List.not_mem_nil) (Γ.F (_, _) mb3)) ?_
      refine .gu rfl rfl rfl rfl (fun β E W Γ => ev_call1 (Γ.f _) run_iSign (iSign_val W _ 0 0 rfl (Γ.w (d := 58) 11 rfl))) ?_
      refine .gu rfl rfl rfl rfl (fun β E W Γ => by
        have e1 : E (.tmp 59) = .int .i64 0 := (Γ.k 12 rfl)
        have hc := Γ.c
        exact Does.value (w' := W) (by go_simp) ⟨rfl, Below.refl _ _⟩) ?_
      refine .pl rfl (fun β E W Γ => ev_pick (Γ.k 10 rfl) (Γ.k 13 rfl)) ?_
      refine .pl rfl (fun β E W Γ => ev_assign _ (Γ.k 14 rfl)) ?_
      exact .nil
    intro β f16 W16 hf hS hN hA hP hlo hlt hap
    have HB := Lib.hid (HB.out.trans (hA.below (B := w.heap.size) (by intro b hb; simp [oldBlocks] at hb) HB.out.size))
    have X_b6 := Lib.hid (Says.keep b6x b6f b6l (hN (_, _) mb0) hA List.not_mem_nil)
    have X_b7 := Lib.hid (Says.keep b7x b7f b7l (hN (_, _) mb1) hA List.not_mem_nil)
    have X_b10 := Lib.hid (Says.keep b10x b10f b10l (hN (_, _) mb2) hA List.not_mem_nil)
    have X_b11 := Lib.hid (Says.keep b11x b11f b11l (hN (_, _) mb3) hA List.not_mem_nil)
    have p10_16 : f16 10 = .bool true := hf (15, 10) (by simp)
    simp only [fillSlots, p10_16, List.setIfInBounds_toArray, List.set_cons_succ, List.set_cons_zero]
    clear hf hS hN hA hP hlo hlt hap b6x b6m b6f b6l b7x b7m b7f b7l b10x b10m b10f b10l b11x b11m b11f b11l p10_16
    refine hK15.out _ _ ?_; clear hK15
    refine wp_ret ?_
    exact bodyPost_ret (v := .bool true) (by simp [results, Tryz.results3, go_sem]) rfl ⟨_, rfl, rfl, HB.out⟩
  · have HY := Lib.hid hy; have HY0 := Lib.hid hy0
    have SQ : Hid ((ds (qdiv x y).natAbs).length ≤ 400) := Lib.hid (by have := ds_qdiv x y hy0; omega)
    have SM : Hid ((ds (qmod x y).natAbs).length ≤ 400) := Lib.hid (by have := ds_mono (show (qmod x y).natAbs ≤ y.natAbs by have := (qdiv_parts (x := x) hy0).2; omega); omega)
    clear h1 h2 hx hy hv pv hk hi1 hi2 hkd hy0
    go_enter Tryz.func3, Tryz.ntmps3
    refine wp_seq_k ?_; intro K1 hK1; replace hK1 := Lib.hid hK1
    go_wp2
    have HB := Lib.hid (Below.refl w.heap.size w)
    refine hK1.out _ _ ?_; clear hK1; try clear K1
    refine wp_seq_k ?_; intro K2 hK2; replace hK2 := Lib.hid hK2
    refine region_tell (T := [0, 1, 2, 3, 4, 5, 6, 7, 8, 9, 10, 11, 12, 13, 14, 15, 16, 17, 18, 19]) (slots := [21, 22, 23, 24, 25, 26, 27, 28, 29, 30, 31, 20, 32, 33, 34, 35, 11, 12, 13, 14]) (tab := [.is (.slice p l c), .is (.slice q k d), .is (.int .i64 i), .is (.slice q k d), .is (.int .i64 (k : Int)), .is (.int .i64 (IntKind.i64.wrap ((k : Int) + 1))), .is (.int .i64 (v : Int)), .that (bytesS (ys.take v)), .is (.bool f), .is (.bool g), .that (fourS (.int x) (.int y) (.rint x) (.rint y) rfl), .that (fourS (.int x) (.int y) (.rint x) (.rint y) rfl), .int x, .int y, .rint x, .rint y, .any, .any, .any, .any, .any, .any, .any, .any])
        (D := [⟨0, .int, some 16, 20, .int x, .agg #[.bool false, .int .u64 0, .slice none 0 0]⟩, ⟨0, .int, some 17, 21, .int y, .agg #[.bool false, .int .u64 0, .slice none 0 0]⟩, ⟨0, .rint, some 18, 22, .rint x, .agg #[.bool false, .slice none 0 0]⟩, ⟨0, .rint, some 19, 23, .rint y, .agg #[.bool false, .slice none 0 0]⟩]) (F := []) List.Pairwise.nil fn (ha (ha (ha (ha hn)))) ?_ ?_
    · refine .pl rfl (fun β E W Γ => ev_move _ (Γ.s rfl)) ?_
      refine .pl rfl (fun β E W Γ => ev_move _ (Γ.s rfl)) ?_
      refine .pl rfl (fun β E W Γ => ev_move _ (Γ.s rfl)) ?_
      refine .pl rfl (fun β E W Γ => ev_move _ (Γ.s rfl)) ?_
      refine .pl rfl (fun β E W Γ => by
        have e1 : E (.tmp 24) = .slice q k d := (Γ.k 3 rfl)
        have hc := Γ.c
        exact Does.value (w' := W) (by go_simp) ⟨rfl, Below.refl _ _⟩) ?_
      refine .pl rfl (fun β E W Γ => by
        have e1 : E (.tmp 25) = .int .i64 (k : Int) := (Γ.k 4 rfl)
        have hc := Γ.c
        exact Does.value (w' := W) (by go_simp) ⟨rfl, Below.refl _ _⟩) ?_
      refine .pl rfl (fun β E W Γ => ev_call2 (Γ.f _) run_Pick (by rw [(show _ = Value.int .i64 i from (Γ.k (d := 23) 2 rfl)), (show _ = Value.int .i64 (IntKind.i64.wrap ((k : Int) + 1)) from (Γ.k (d := 26) 5 rfl))]; exact PV.out W)) ?_
      refine .pl rfl (fun β E W Γ => by
        have e1 : E (.tmp 22) = .slice q k d := (Γ.k 1 rfl)
        have e2 : E (.tmp 27) = .int .i64 (v : Int) := (Γ.k 6 rfl)
        have hA := Γ.A; have hF := Γ.F; have hc := Γ.c
        exact Does.value (v := .slice q v d) (w' := W) (by go_simp) ⟨⟨_, _, _, rfl, (H2.out.pre v HV.out).mono hA.below0⟩, Below.refl _ _⟩) ?_
      refine .pl rfl (fun β E W Γ => ev_move _ (Γ.s rfl)) ?_
      refine .pl rfl (fun β E W Γ => ev_move _ (Γ.s rfl)) ?_
      refine .pl rfl (fun β E W Γ => ev_call4 (Γ.f _) run_two2 (by rw [(show _ = Value.slice p l c from (Γ.k (d := 21) 0 rfl)), (show _ = Value.bool f from (Γ.k (d := 29) 8 rfl)), (show _ = Value.bool g from (Γ.k (d := 30) 9 rfl))]; exact two2_want W _ _ xs (ys.take v) f g x y HX.out HY.out ⟨_, _, _, rfl, H1.out.mono Γ.A.below0⟩ (Γ.w (d := 28) 7 rfl))) ?_
      refine .pl rfl (fun β E W Γ => ev_moveM (Γ.w 10 rfl)) ?_
      refine .pl rfl (fun β E W Γ => ev_ex40 (Γ.w 11 rfl)) ?_
      refine .pl rfl (fun β E W Γ => ev_ex41 (Γ.w 11 rfl)) ?_
      refine .pl rfl (fun β E W Γ => ev_ex42 (Γ.w 11 rfl)) ?_
      refine .pl rfl (fun β E W Γ => ev_ex43 (Γ.w 11 rfl)) ?_
      refine .al rfl mb0 (fun _ _ => ev_alI) ?_
      refine .al rfl mb1 (fun _ _ => ev_alI) ?_
      refine .al rfl mb2 (fun _ _ => ev_alR) ?_
      refine .al rfl mb3 (fun _ _ => ev_alR) ?_
      refine .st rfl mb0 (fun β E W Γ => ev_stI (Γ.q mb0 rfl) (Γ.b1 mb0) (Γ.b2 mb0) (Γ.w 12 rfl)) ?_
      refine .st rfl mb1 (fun β E W Γ => ev_stI (Γ.q mb1 rfl) (Γ.b1 mb1) (Γ.b2 mb1) (Γ.w 13 rfl)) ?_
      refine .st rfl mb2 (fun β E W Γ => ev_stR (Γ.q mb2 rfl) (Γ.b1 mb2) (Γ.b2 mb2) (Γ.w 14 rfl)) ?_
      refine .st rfl mb3 (fun β E W Γ => ev_stR (Γ.q mb3 rfl) (Γ.b1 mb3) (Γ.b2 mb3) (Γ.w 15 rfl)) ?_
      exact .nil
    intro β f3 W3 hf hS hN hA hP hlo hlt hap
    have HB0 := HB.out.size
    have HB := Lib.hid (HB.out.trans (hA.below (B := w.heap.size) (by intro b hb; simp [oldBlocks] at hb) HB.out.size))
    obtain ⟨b4, b4e⟩ : ∃ b, b = β 20 := ⟨_, rfl⟩
    have b4p : f3 11 = .pointer (some ⟨b4, 0, none⟩) := b4e ▸ hP _ mb0 (16, 11) (by simp) rfl
    have b4o : w.heap.size ≤ b4 := b4e ▸ hlo _ mb0 (by intro h; cases h)
    have X_b4 : Hid (Holds W3 b4 .int (.int x)) := Lib.hid (b4e ▸ hS _ mb0)
    obtain ⟨b5, b5e⟩ : ∃ b, b = β 21 := ⟨_, rfl⟩
    have b5p : f3 12 = .pointer (some ⟨b5, 0, none⟩) := b5e ▸ hP _ mb1 (17, 12) (by simp) rfl
    have b5o : w.heap.size ≤ b5 := b5e ▸ hlo _ mb1 (by intro h; cases h)
    have X_b5 : Hid (Holds W3 b5 .int (.int y)) := Lib.hid (b5e ▸ hS _ mb1)
    have b4b5q : b4 ≠ b5 := by rw [b4e, b5e]; exact hap _ mb0 _ mb1 (by show 20 ≠ 21; decide)
    obtain ⟨b6, b6e⟩ : ∃ b, b = β 22 := ⟨_, rfl⟩
    have b6p : f3 13 = .pointer (some ⟨b6, 0, none⟩) := b6e ▸ hP _ mb2 (18, 13) (by simp) rfl
    have b6o : w.heap.size ≤ b6 := b6e ▸ hlo _ mb2 (by intro h; cases h)
    have X_b6 : Hid (Holds W3 b6 .rint (.rint x)) := Lib.hid (b6e ▸ hS _ mb2)
    have b4b6q : b4 ≠ b6 := by rw [b4e, b6e]; exact hap _ mb0 _ mb2 (by show 20 ≠ 22; decide)
    have b5b6q : b5 ≠ b6 := by rw [b5e, b6e]; exact hap _ mb1 _ mb2 (by show 21 ≠ 22; decide)
    obtain ⟨b7, b7e⟩ : ∃ b, b = β 23 := ⟨_, rfl⟩
    have b7p : f3 14 = .pointer (some ⟨b7, 0, none⟩) := b7e ▸ hP _ mb3 (19, 14) (by simp) rfl
    have b7o : w.heap.size ≤ b7 := b7e ▸ hlo _ mb3 (by intro h; cases h)
    have X_b7 : Hid (Holds W3 b7 .rint (.rint y)) := Lib.hid (b7e ▸ hS _ mb3)
    have b4b7q : b4 ≠ b7 := by rw [b4e, b7e]; exact hap _ mb0 _ mb3 (by show 20 ≠ 23; decide)
    have b5b7q : b5 ≠ b7 := by rw [b5e, b7e]; exact hap _ mb1 _ mb3 (by show 21 ≠ 23; decide)
    have b6b7q : b6 ≠ b7 := by rw [b6e, b7e]; exact hap _ mb2 _ mb3 (by show 22 ≠ 23; decide)
    have NE : Hid (w.heap.size ≤ b4 ∧ b4 ≠ b5 ∧ w.heap.size ≤ b5 ∧ b4 ≠ b6 ∧ b5 ≠ b6 ∧ w.heap.size ≤ b6 ∧ b4 ≠ b7 ∧ b5 ≠ b7 ∧ b6 ≠ b7 ∧ w.heap.size ≤ b7) := Lib.hid (by omega)
    simp only [fillSlots, b4p, b5p, b6p, b7p, List.setIfInBounds_toArray, List.set_cons_succ, List.set_cons_zero]
    clear hf hS hN hA hP hlo hlt hap b4e b4o b5e b5o b6e b6o b7e b7o b4b5q b4b6q b4b7q b5b6q b5b7q b6b7q b4p b5p b6p b7p HB0
    refine hK2.out _ _ ?_; clear hK2
    refine wp_seq_k ?_; intro K8 hK8; replace hK8 := Lib.hid hK8
    obtain ⟨b4v, b4x, b4m, b4f, b4l⟩ := X_b4.out.op rfl
    obtain ⟨b5v, b5x, b5m, b5f, b5l⟩ := X_b5.out.op rfl
    obtain ⟨b6v, b6x, b6m, b6f, b6l⟩ := X_b6.out.op rfl
    obtain ⟨b7v, b7x, b7m, b7f, b7l⟩ := X_b7.out.op rfl
    clear X_b4 X_b5 X_b6 X_b7
    refine region_tell (T := [0, 1, 2, 3, 4, 5, 6, 7, 8, 11]) (slots := [37, 38, 39, 36, 40, 41, 42, 15, 16, 17]) (tab := [.int x, .int y, .three (.int (qdiv x y)) (.int (qmod x y)) (.is (.bool true)), .three (.int (qdiv x y)) (.int (qmod x y)) (.is (.bool true)), .int (qdiv x y), .int (qmod x y), .is (.bool true), .any, .any, .any, .any, .is (.bool true)])
        (D := [⟨0, .int, some 7, 9, .int (qdiv x y), .agg #[.bool false, .int .u64 0, .slice none 0 0]⟩, ⟨0, .int, some 8, 10, .int (qmod x y), .agg #[.bool false, .int .u64 0, .slice none 0 0]⟩]) (F := [(b4v, .int x), (b5v, .int y), (b6v, .rint x), (b7v, .rint y)]) List.Pairwise.nil (fc b4m (fc b5m (fc b6m (fc b7m fn)))) (ha (ha hn)) ?_ ?_
    · refine .pl rfl (fun β E W Γ => ev_ldI (Γ.s rfl) (b4x.far Γ.A List.not_mem_nil) (Γ.F (_, _) mb0)) ?_
      refine .pl rfl (fun β E W Γ => ev_ldI (Γ.s rfl) (b5x.far Γ.A List.not_mem_nil) (Γ.F (_, _) mb1)) ?_
      refine .pl rfl (fun β E W Γ => ev_call2 (Γ.f _) run_iDiv (iDiv_want W _ _ x y HY0.out (by omega) (by omega) (Γ.w (d := 37) 0 rfl) (Γ.w (d := 38) 1 rfl))) ?_
      refine .pl rfl (fun β E W Γ => ev_moveM (Γ.w 2 rfl)) ?_
      refine .pl rfl (fun β E W Γ => ev_ex30 (Γ.w 3 rfl)) ?_
      refine .pl rfl (fun β E W Γ => ev_ex31 (Γ.w 3 rfl)) ?_
      refine .pl rfl (fun β E W Γ => ev_ex32 (Γ.w 3 rfl)) ?_
      refine .al rfl mb0 (fun _ _ => ev_alI) ?_
      refine .al rfl mb1 (fun _ _ => ev_alI) ?_
      refine .st rfl mb0 (fun β E W Γ => ev_stI (Γ.q mb0 rfl) (Γ.b1 mb0) (Γ.b2 mb0) (Γ.w 4 rfl)) ?_
      refine .st rfl mb1 (fun β E W Γ => ev_stI (Γ.q mb1 rfl) (Γ.b1 mb1) (Γ.b2 mb1) (Γ.w 5 rfl)) ?_
      refine .pl rfl (fun β E W Γ => ev_assign _ (Γ.k 6 rfl)) ?_
      exact .nil
    intro β f9 W9 hf hS hN hA hP hlo hlt hap
    have HB0 := HB.out.size
    have HB := Lib.hid (HB.out.trans (hA.below (B := w.heap.size) (by intro b hb; simp [oldBlocks] at hb) HB.out.size))
    obtain ⟨b10, b10e⟩ : ∃ b, b = β 9 := ⟨_, rfl⟩
    have b10p : f9 15 = .pointer (some ⟨b10, 0, none⟩) := b10e ▸ hP _ mb0 (7, 15) (by simp) rfl
    have b10o : W3.heap.size ≤ b10 := b10e ▸ hlo _ mb0 (by intro h; cases h)
    have X_b10 : Hid (Holds W9 b10 .int (.int (qdiv x y))) := Lib.hid (b10e ▸ hS _ mb0)
    obtain ⟨b11, b11e⟩ : ∃ b, b = β 10 := ⟨_, rfl⟩
    have b11p : f9 16 = .pointer (some ⟨b11, 0, none⟩) := b11e ▸ hP _ mb1 (8, 16) (by simp) rfl
    have b11o : W3.heap.size ≤ b11 := b11e ▸ hlo _ mb1 (by intro h; cases h)
    have X_b11 : Hid (Holds W9 b11 .int (.int (qmod x y))) := Lib.hid (b11e ▸ hS _ mb1)
    have b10b11q : b10 ≠ b11 := by rw [b10e, b11e]; exact hap _ mb0 _ mb1 (by show 9 ≠ 10; decide)
    have NE : Hid (w.heap.size ≤ b4 ∧ b4 ≠ b5 ∧ w.heap.size ≤ b5 ∧ b4 ≠ b6 ∧ b5 ≠ b6 ∧ w.heap.size ≤ b6 ∧ b4 ≠ b7 ∧ b5 ≠ b7 ∧ b6 ≠ b7 ∧ w.heap.size ≤ b7 ∧ b4 < b10 ∧ b5 < b10 ∧ b6 < b10 ∧ b7 < b10 ∧ w.heap.size ≤ b10 ∧ b10 ≠ b11 ∧ b4 < b11 ∧ b5 < b11 ∧ b6 < b11 ∧ b7 < b11 ∧ w.heap.size ≤ b11) := Lib.hid (by have h := NE.out; omega)
    have X_b4 := Lib.hid (Says.keep b4x b4f b4l (hN (_, _) mb0) hA List.not_mem_nil)
    have X_b5 := Lib.hid (Says.keep b5x b5f b5l (hN (_, _) mb1) hA List.not_mem_nil)
    have X_b6 := Lib.hid (Says.keep b6x b6f b6l (hN (_, _) mb2) hA List.not_mem_nil)
    have X_b7 := Lib.hid (Says.keep b7x b7f b7l (hN (_, _) mb3) hA List.not_mem_nil)
    have p17_9 : f9 17 = .bool true := hf (11, 17) (by simp)
    simp only [fillSlots, b10p, b11p, p17_9, List.setIfInBounds_toArray, List.set_cons_succ, List.set_cons_zero]
    clear hf hS hN hA hP hlo hlt hap b4x b4m b4f b4l b5x b5m b5f b5l b6x b6m b6f b6l b7x b7m b7f b7l b10e b10o b11e b11o b10b11q b10p b11p p17_9 HB0
    refine hK8.out _ _ ?_; clear hK8
    refine wp_seq_k ?_; intro K12 hK12; replace hK12 := Lib.hid hK12
    refine wp_seq_k ?_; intro K13 hK13; replace hK13 := Lib.hid hK13
    clear X_b4
    clear X_b5
    obtain ⟨b6v, b6x, b6m, b6f, b6l⟩ := X_b6.out.op rfl
    obtain ⟨b7v, b7x, b7m, b7f, b7l⟩ := X_b7.out.op rfl
    obtain ⟨b10v, b10x, b10m, b10f, b10l⟩ := X_b10.out.op rfl
    obtain ⟨b11v, b11x, b11m, b11f, b11l⟩ := X_b11.out.op rfl
    clear X_b6 X_b7 X_b10 X_b11
    refine region_tell (T := [0, 1, 2, 3]) (slots := [43, 44, 45, 46]) (tab := [.is (.pointer (some ⟨b7, 1, none⟩)), .rnum y.natAbs, .that (lenS y.natAbs), .is (.bool false)])
        (D := []) (F := [(b6v, .rint x), (b7v, .rint y), (b10v, .int (qdiv x y)), (b11v, .int (qmod x y))]) List.Pairwise.nil (fc b6m (fc b7m (fc b10m (fc b11m fn)))) hn ?_ ?_
    · refine .pl rfl (fun β E W Γ => ev_faR1 (Γ.s rfl)) ?_
      refine .pl rfl (fun β E W Γ => ev_ldR1 (Γ.k 0 rfl) (b7x.far Γ.A List.not_mem_nil) (Γ.F (_, _) mb1) rfl) ?_
      refine .pl rfl (fun β E W Γ => ev_len (Γ.w 1 rfl)) ?_
      refine .pl rfl (fun β E W Γ => ev_lenEql (Γ.w 2 rfl) (decide_eq_false (by have := HY0.out; omega)) Γ.c) ?_
      exact .nil
    intro β f14 W14 hf hS hN hA hP hlo hlt hap
    have HB := Lib.hid (HB.out.trans (hA.below (B := w.heap.size) (by intro b hb; simp [oldBlocks] at hb) HB.out.size))
    have X_b6 := Lib.hid (Says.keep b6x b6f b6l (hN (_, _) mb0) hA List.not_mem_nil)
    have X_b7 := Lib.hid (Says.keep b7x b7f b7l (hN (_, _) mb1) hA List.not_mem_nil)
    have X_b10 := Lib.hid (Says.keep b10x b10f b10l (hN (_, _) mb2) hA List.not_mem_nil)
    have X_b11 := Lib.hid (Says.keep b11x b11f b11l (hN (_, _) mb3) hA List.not_mem_nil)
    have p46_14 : f14 46 = .bool false := hf (3, 46) (by simp)
    simp only [fillSlots, p46_14, List.setIfInBounds_toArray, List.set_cons_succ, List.set_cons_zero]
    clear hf hS hN hA hP hlo hlt hap b6x b6m b6f b6l b7x b7m b7f b7l b10x b10m b10f b10l b11x b11m b11f b11l p46_14
    refine hK13.out _ _ ?_; clear hK13
    refine wp_cond_false rfl ?_
    refine wp_skip ?_
    refine hK12.out _ _ ?_; clear hK12
    refine wp_seq_k ?_; intro K15 hK15; replace hK15 := Lib.hid hK15
    obtain ⟨b6v, b6x, b6m, b6f, b6l⟩ := X_b6.out.op rfl
    obtain ⟨b7v, b7x, b7m, b7f, b7l⟩ := X_b7.out.op rfl
    obtain ⟨b10v, b10x, b10m, b10f, b10l⟩ := X_b10.out.op rfl
    obtain ⟨b11v, b11x, b11m, b11f, b11l⟩ := X_b11.out.op rfl
    clear X_b6 X_b7 X_b10 X_b11
    refine region_tell (T := [0, 1, 2, 3, 4, 5, 6, 7]) (slots := [63, 64, 65, 62, 66, 67, 18, 19]) (tab := [.rint x, .rint y, .two (.rint (qdiv x y)) (.rint (qmod x y)), .two (.rint (qdiv x y)) (.rint (qmod x y)), .rint (qdiv x y), .rint (qmod x y), .any, .any, .any, .any])
        (D := [⟨0, .rint, some 6, 8, .rint (qdiv x y), .agg #[.bool false, .slice none 0 0]⟩, ⟨0, .rint, some 7, 9, .rint (qmod x y), .agg #[.bool false, .slice none 0 0]⟩]) (F := [(b6v, .rint x), (b7v, .rint y), (b10v, .int (qdiv x y)), (b11v, .int (qmod x y))]) List.Pairwise.nil (fc b6m (fc b7m (fc b10m (fc b11m fn)))) (ha (ha hn)) ?_ ?_
    · refine .pl rfl (fun β E W Γ => ev_ldR (Γ.s rfl) (b6x.far Γ.A List.not_mem_nil) (Γ.F (_, _) mb0)) ?_
      refine .pl rfl (fun β E W Γ => ev_ldR (Γ.s rfl) (b7x.far Γ.A List.not_mem_nil) (Γ.F (_, _) mb1)) ?_
      refine .pl rfl (fun β E W Γ => ev_call2 (Γ.f _) run_rIDiv (rIDiv_want W _ _ x y HY0.out (by omega) (by omega) (Γ.w (d := 63) 0 rfl) (Γ.w (d := 64) 1 rfl))) ?_
      refine .pl rfl (fun β E W Γ => ev_moveM (Γ.w 2 rfl)) ?_
      refine .pl rfl (fun β E W Γ => ev_ex20 (Γ.w 3 rfl)) ?_
      refine .pl rfl (fun β E W Γ => ev_ex21 (Γ.w 3 rfl)) ?_
      refine .al rfl mb0 (fun _ _ => ev_alR) ?_
      refine .al rfl mb1 (fun _ _ => ev_alR) ?_
      refine .st rfl mb0 (fun β E W Γ => ev_stR (Γ.q mb0 rfl) (Γ.b1 mb0) (Γ.b2 mb0) (Γ.w 4 rfl)) ?_
      refine .st rfl mb1 (fun β E W Γ => ev_stR (Γ.q mb1 rfl) (Γ.b1 mb1) (Γ.b2 mb1) (Γ.w 5 rfl)) ?_
      exact .nil
    intro β f16 W16 hf hS hN hA hP hlo hlt hap
    have HB0 := HB.out.size
    have HB := Lib.hid (HB.out.trans (hA.below (B := w.heap.size) (by intro b hb; simp [oldBlocks] at hb) HB.out.size))
    obtain ⟨b17, b17e⟩ : ∃ b, b = β 8 := ⟨_, rfl⟩
    have b17p : f16 18 = .pointer (some ⟨b17, 0, none⟩) := b17e ▸ hP _ mb0 (6, 18) (by simp) rfl
    have b17o : W14.heap.size ≤ b17 := b17e ▸ hlo _ mb0 (by intro h; cases h)
    have X_b17 : Hid (Holds W16 b17 .rint (.rint (qdiv x y))) := Lib.hid (b17e ▸ hS _ mb0)
    obtain ⟨b18, b18e⟩ : ∃ b, b = β 9 := ⟨_, rfl⟩
    have b18p : f16 19 = .pointer (some ⟨b18, 0, none⟩) := b18e ▸ hP _ mb1 (7, 19) (by simp) rfl
    have b18o : W14.heap.size ≤ b18 := b18e ▸ hlo _ mb1 (by intro h; cases h)
    have X_b18 : Hid (Holds W16 b18 .rint (.rint (qmod x y))) := Lib.hid (b18e ▸ hS _ mb1)
    have b17b18q : b17 ≠ b18 := by rw [b17e, b18e]; exact hap _ mb0 _ mb1 (by show 8 ≠ 9; decide)
    have NE : Hid (w.heap.size ≤ b4 ∧ b4 ≠ b5 ∧ w.heap.size ≤ b5 ∧ b4 ≠ b6 ∧ b5 ≠ b6 ∧ w.heap.size ≤ b6 ∧ b4 ≠ b7 ∧ b5 ≠ b7 ∧ b6 ≠ b7 ∧ w.heap.size ≤ b7 ∧ b4 < b10 ∧ b5 < b10 ∧ b6 < b10 ∧ b7 < b10 ∧ w.heap.size ≤ b10 ∧ b10 ≠ b11 ∧ b4 < b11 ∧ b5 < b11 ∧ b6 < b11 ∧ b7 < b11 ∧ w.heap.size ≤ b11 ∧ b6 < b17 ∧ b7 < b17 ∧ b10 < b17 ∧ b11 < b17 ∧ w.heap.size ≤ b17 ∧ b17 ≠ b18 ∧ b6 < b18 ∧ b7 < b18 ∧ b10 < b18 ∧ b11 < b18 ∧ w.heap.size ≤ b18) := Lib.hid (by have h := NE.out; omega)
    have X_b6 := Lib.hid (Says.keep b6x b6f b6l (hN (_, _) mb0) hA List.not_mem_nil)
    have X_b7 := Lib.hid (Says.keep b7x b7f b7l (hN (_, _) mb1) hA List.not_mem_nil)
    have X_b10 := Lib.hid (Says.keep b10x b10f b10l (hN (_, _) mb2) hA List.not_mem_nil)
    have X_b11 := Lib.hid (Says.keep b11x b11f b11l (hN (_, _) mb3) hA List.not_mem_nil)
    simp only [fillSlots, b17p, b18p, List.setIfInBounds_toArray, List.set_cons_succ, List.set_cons_zero]
    clear hf hS hN hA hP hlo hlt hap b6x b6m b6f b6l b7x b7m b7f b7l b10x b10m b10f b10l b11x b11m b11f b11l b17e b17o b18e b18o b17b18q b17p b18p HB0
    refine hK15.out _ _ ?_; clear hK15
    refine wp_seq_k ?_; intro K19 hK19; replace hK19 := Lib.hid hK19
    clear X_b6
    clear X_b7
    obtain ⟨b10v, b10x, b10m, b10f, b10l⟩ := X_b10.out.op rfl
    obtain ⟨b11v, b11x, b11m, b11f, b11l⟩ := X_b11.out.op rfl
    obtain ⟨b17v, b17x, b17m, b17f, b17l⟩ := X_b17.out.op rfl
    obtain ⟨b18v, b18x, b18m, b18f, b18l⟩ := X_b18.out.op rfl
    clear X_b10 X_b11 X_b17 X_b18
    refine region_tell (T := [0, 1, 2, 3, 4, 5, 6, 7, 8, 9, 10, 11, 12, 13, 14]) (slots := [68, 69, 70, 71, 72, 73, 74, 75, 76, 77, 78, 79, 80, 81, 10]) (tab := [.is (.bool true), .is (.bool true), .is (.bool true), .is (.bool true), .is (.bool true), .int (qdiv x y), .rint (qdiv x y), .is (.bool true), .is (.bool true), .is (.bool true), .int (qmod x y), .rint (qmod x y), .is (.bool true), .is (.bool true), .is (.bool true)])
        (D := []) (F := [(b10v, .int (qdiv x y)), (b11v, .int (qmod x y)), (b17v, .rint (qdiv x y)), (b18v, .rint (qmod x y))]) List.Pairwise.nil (fc b10m (fc b11m (fc b17m (fc b18m fn)))) hn ?_ ?_
    · refine .pl rfl (fun β E W Γ => ev_call0 (Γ.f _) run_known2 (known2_gives W)) ?_
      refine .pl rfl (fun β E W Γ => ev_move _ (Γ.k 0 rfl)) ?_
      refine .gu rfl rfl rfl rfl (fun β E W Γ => ev_move _ (Γ.s rfl)) ?_
      refine .pl rfl (fun β E W Γ => ev_pick (Γ.k 1 rfl) (Γ.k 2 rfl)) ?_
      refine .pl rfl (fun β E W Γ => ev_move _ (Γ.k 3 rfl)) ?_
      refine .gu rfl rfl rfl rfl (fun β E W Γ => ev_ldI (Γ.s rfl) (b10x.far Γ.A List.not_mem_nil) (Γ.F (_, _) mb0)) ?_
      refine .gu rfl rfl rfl rfl (fun β E W Γ => ev_ldR (Γ.s rfl) (b17x.far Γ.A List.not_mem_nil) (Γ.F (_, _) mb2)) ?_
      refine .gu rfl rfl rfl rfl (fun β E W Γ => ev_call2 (Γ.f _) run_is2 (is2_want W _ _ (qdiv x y) SQ.out (Γ.w (d := 73) 5 rfl) (Γ.w (d := 74) 6 rfl))) ?_
      refine .pl rfl (fun β E W Γ => ev_pick (Γ.k 4 rfl) (Γ.k 7 rfl)) ?_
      refine .pl rfl (fun β E W Γ => ev_move _ (Γ.k 8 rfl)) ?_
      refine .gu rfl rfl rfl rfl (fun β E W Γ => ev_ldI (Γ.s rfl) (b11x.far Γ.A List.not_mem_nil) (Γ.F (_, _) mb1)) ?_
      refine .gu rfl rfl rfl rfl (fun β E W Γ => ev_ldR (Γ.s rfl) (b18x.far Γ.A List.not_mem_nil) (Γ.F (_, _) mb3)) ?_
      refine .gu rfl rfl rfl rfl (fun β E W Γ => ev_call2 (Γ.f _) run_is2 (is2_want W _ _ (qmod x y) SM.out (Γ.w (d := 78) 10 rfl) (Γ.w (d := 79) 11 rfl))) ?_
      refine .pl rfl (fun β E W Γ => ev_pick (Γ.k 9 rfl) (Γ.k 12 rfl)) ?_
      refine .pl rfl (fun β E W Γ => ev_assign _ (Γ.k 13 rfl)) ?_
      exact .nil
    intro β f20 W20 hf hS hN hA hP hlo hlt hap
    have HB := Lib.hid (HB.out.trans (hA.below (B := w.heap.size) (by intro b hb; simp [oldBlocks] at hb) HB.out.size))
    have X_b10 := Lib.hid (Says.keep b10x b10f b10l (hN (_, _) mb0) hA List.not_mem_nil)
    have X_b11 := Lib.hid (Says.keep b11x b11f b11l (hN (_, _) mb1) hA List.not_mem_nil)
    have X_b17 := Lib.hid (Says.keep b17x b17f b17l (hN (_, _) mb2) hA List.not_mem_nil)
    have X_b18 := Lib.hid (Says.keep b18x b18f b18l (hN (_, _) mb3) hA List.not_mem_nil)
    have p10_20 : f20 10 = .bool true := hf (14, 10) (by simp)
    simp only [fillSlots, p10_20, List.setIfInBounds_toArray, List.set_cons_succ, List.set_cons_zero]
    clear hf hS hN hA hP hlo hlt hap b10x b10m b10f b10l b11x b11m b11f b11l b17x b17m b17f b17l b18x b18m b18f b18l p10_20
    refine hK19.out _ _ ?_; clear hK19
    refine wp_ret ?_
    exact bodyPost_ret (v := .bool true) (by simp [results, Tryz.results3, go_sem]) rfl ⟨_, rfl, rfl, HB.out⟩
end Go.Proofs.YthjeidgmkkkmbaaGreatDoor
