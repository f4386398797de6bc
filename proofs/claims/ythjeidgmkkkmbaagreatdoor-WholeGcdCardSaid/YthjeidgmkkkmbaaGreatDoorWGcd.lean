/- WholeGcd: the greatest common divisor of integers of any signs, and how it is made of both, are the document's. -/
import Derived.Test.YthjeidgmkkkmbaaGreatDoorWQuot
import Derived.Test.YthjeidgmkkkmbaaGreatDoorRBezA
namespace Go.Proofs.YthjeidgmkkkmbaaGreatDoor
open Go.RowKit

theorem run_Few : RowKit.Hid (∀ (a : Array Value) (w : World), Sem.run Tryz.prog (callFunc 15 a) w = .ok (.enter 15 a) w) := fun a w => by go_simp
theorem run_hInt : RowKit.Hid (∀ (a : Array Value) (w : World), Sem.run Tryz.prog (callFunc 17 a) w = .ok (.enter 17 a) w) := fun a w => by go_simp
theorem run_hOutNat : RowKit.Hid (∀ (a : Array Value) (w : World), Sem.run Tryz.prog (callFunc 21 a) w = .ok (.enter 21 a) w) := fun a w => by go_simp
theorem run_iBezout : RowKit.Hid (∀ (a : Array Value) (w : World), Sem.run Tryz.prog (callFunc 18 a) w = .ok (.enter 18 a) w) := fun a w => by go_simp
theorem run_rBezout : RowKit.Hid (∀ (a : Array Value) (w : World), Sem.run Tryz.prog (callFunc 19 a) w = .ok (.enter 19 a) w) := fun a w => by go_simp
theorem run_rCmp : RowKit.Hid (∀ (a : Array Value) (w : World), Sem.run Tryz.prog (callFunc 20 a) w = .ok (.enter 20 a) w) := fun a w => by go_simp
theorem run_rFrom : RowKit.Hid (∀ (a : Array Value) (w : World), Sem.run Tryz.prog (callFunc 14 a) w = .ok (.enter 14 a) w) := fun a w => by go_simp
theorem run_rGcd : RowKit.Hid (∀ (a : Array Value) (w : World), Sem.run Tryz.prog (callFunc 23 a) w = .ok (.enter 23 a) w) := fun a w => by go_simp
theorem gcd_le_add (m n : Nat) : Nat.gcd m n ≤ m + n := by
  rcases Nat.eq_zero_or_pos m with h | h
  · subst h; rw [Nat.gcd_zero_left]; omega
  · have := Nat.gcd_le_left n h; omega
theorem bez_sizes6 {x y X Y : Int} (hs : BezSpec x y X Y) (hx : (ds x.natAbs).length ≤ 6) (hy : (ds y.natAbs).length ≤ 6) : (ds X.natAbs).length ≤ 6 ∧ (ds Y.natAbs).length ≤ 24 := by
  by_cases h0 : y = 0
  · obtain ⟨rfl, rfl⟩ := hs.1 h0
    refine ⟨?_, ?_⟩
    · rw [ds_one (by unfold cmp3; split <;> (try split) <;> simp)]; omega
    · rw [show ((0 : Int).natAbs) = 0 from rfl, ds_one (by omega)]; omega
  · obtain ⟨e, a, b⟩ := hs.2 h0
    have h1 : X.natAbs ≤ y.natAbs := by have := Nat.div_le_self y.natAbs (Nat.gcd x.natAbs y.natAbs); omega
    have h2 := ds_mono h1
    refine ⟨by omega, ?_⟩
    have h3 : Y.natAbs ≤ (y * Y).natAbs := by rw [Int.natAbs_mul]; exact Nat.le_mul_of_pos_left _ (by omega)
    have h4 : (y * Y).natAbs ≤ (Nat.gcd x.natAbs y.natAbs) + (x * X).natAbs := by omega
    have h5 := ds_mono (Nat.le_trans h3 h4)
    have h6 := ds_add (Nat.gcd x.natAbs y.natAbs) (x * X).natAbs
    have h7 := ds_mul x.natAbs X.natAbs
    rw [← Int.natAbs_mul] at h7
    have h8 := ds_mono (Nat.gcd_le_right x.natAbs (show 0 < y.natAbs by omega))
    omega
set_option maxRecDepth 100000 in
set_option maxHeartbeats 8000000 in
theorem wgcd_any (p q r : Option Addr) (l c k d m t : Nat) (f g : Bool) (xs ys zs : List Nat) (w : World) (h1 : IsB w p l c xs) (h2 : IsB w q k d ys) (h3 : IsB w r m t zs) (hT : Tab64 w) :
    Calls Tryz.prog 4 #[.slice p l c, .slice q k d, .bool f, .bool g, .slice r m t] w fun e w' => e = .returned (.bool true) ∧ Below w.heap.size w w' := by
  suffices h : Calls Tryz.prog 4 #[.slice p l c, .slice q k d, .bool f, .bool g, .slice r m t] w (Gives w (.is (.bool true))) from h.mono fun _ _ ⟨v, h1, h2, h3⟩ => ⟨by rw [h1]; exact congrArg _ h2, h3⟩
  have sx : (ds (sgn f (nb (xs.take 40))).natAbs).length ≤ 5 := by rw [sgn_abs]; exact ds_nb40 xs h1.2.1
  have sy : (ds (sgn g (nb (ys.take 40))).natAbs).length ≤ 5 := by rw [sgn_abs]; exact ds_nb40 ys h2.2.1
  have sz : (ds (nb (zs.take 6))).length ≤ 1 := by
    have := nb_lt (zs.take 6) 6 (fun x hx => h3.2.1 x (List.mem_of_mem_take hx)) (by rw [List.length_take]; omega)
    rw [ds_one (by omega)]; omega
  obtain ⟨x, hx⟩ : ∃ x, sgn f (nb (xs.take 40)) = x := ⟨_, rfl⟩
  obtain ⟨y, hy⟩ : ∃ y, sgn g (nb (ys.take 40)) = y := ⟨_, rfl⟩
  obtain ⟨z6, hz⟩ : ∃ z, nb (zs.take 6) = z := ⟨_, rfl⟩
  rw [hx] at sx; rw [hy] at sy; rw [hz] at sz
  have H1 := Lib.hid h1; have H2 := Lib.hid h2; have H3 := Lib.hid h3
  have HX := Lib.hid hx; have HY := Lib.hid hy; have HZ := Lib.hid hz; have TB := Lib.hid hT
  by_cases hz0 : z6 = 0
  · skip
    have HZ0 : Hid (decide (((z6 : Int)).natAbs ≠ 0) = false) := Lib.hid (by simp [hz0])
    obtain ⟨U, V, hUV⟩ := bez_exists x y
    have HUV := Lib.hid hUV
    obtain ⟨su, sv⟩ := bez_sizes6 hUV (by omega) (by omega)
    have SU : Hid ((ds U.natAbs).length ≤ 400) := Lib.hid (by omega)
    have SV : Hid ((ds V.natAbs).length ≤ 400) := Lib.hid (by omega)
    have sgn' : (ds (Nat.gcd x.natAbs y.natAbs)).length ≤ 12 := by
      have h1 := ds_mono (gcd_le_add x.natAbs y.natAbs)
      have h2 := ds_add x.natAbs y.natAbs
      omega
    have SGN : Hid ((ds (Nat.gcd x.natAbs y.natAbs)).length ≤ 400) := Lib.hid (by omega)
    have SG : Hid ((ds ((Nat.gcd x.natAbs y.natAbs : Nat) : Int).natAbs).length ≤ 400) := Lib.hid (by rw [Int.natAbs_natCast]; omega)
    have SZ6 : Hid ((ds ((z6 : Int)).natAbs).length ≤ 60) := Lib.hid (by rw [Int.natAbs_natCast]; omega)
    clear h1 h2 h3 hx hy hz hUV su sv sgn' hT hz0
    go_enter Tryz.func4, Tryz.ntmps4
    refine wp_seq_k ?_; intro K1 hK1; replace hK1 := Lib.hid hK1
    go_wp2
    have HB := Lib.hid (Below.refl w.heap.size w)
    refine hK1.out _ _ ?_; clear hK1; try clear K1
    refine wp_seq_k ?_; intro K2 hK2; replace hK2 := Lib.hid hK2
    refine region_tell (T := [0, 1, 2, 3, 4, 5, 6, 7, 8, 9, 10, 11, 12, 13]) (slots := [23, 24, 25, 26, 27, 22, 28, 29, 30, 31, 11, 12, 13, 14]) (tab := [.is (.slice p l c), .is (.slice q k d), .is (.bool f), .is (.bool g), .that (fourS (.int x) (.int y) (.rint x) (.rint y) rfl), .that (fourS (.int x) (.int y) (.rint x) (.rint y) rfl), .int x, .int y, .rint x, .rint y, .any, .any, .any, .any, .any, .any, .any, .any])
        (D := [⟨0, .int, some 10, 14, .int x, .agg #[.bool false, .int .u64 0, .slice none 0 0]⟩, ⟨0, .int, some 11, 15, .int y, .agg #[.bool false, .int .u64 0, .slice none 0 0]⟩, ⟨0, .rint, some 12, 16, .rint x, .agg #[.bool false, .slice none 0 0]⟩, ⟨0, .rint, some 13, 17, .rint y, .agg #[.bool false, .slice none 0 0]⟩]) (F := []) List.Pairwise.nil fn (ha (ha (ha (ha hn)))) ?_ ?_
    · refine .pl rfl (fun β E W Γ => ev_move _ (Γ.s rfl)) ?_
      refine .pl rfl (fun β E W Γ => ev_move _ (Γ.s rfl)) ?_
      refine .pl rfl (fun β E W Γ => ev_move _ (Γ.s rfl)) ?_
      refine .pl rfl (fun β E W Γ => ev_move _ (Γ.s rfl)) ?_
      refine .pl rfl (fun β E W Γ => ev_call4 (Γ.f _) run_two2 (by rw [(show _ = Value.slice p l c from (Γ.k (d := 23) 0 rfl)), (show _ = Value.slice q k d from (Γ.k (d := 24) 1 rfl)), (show _ = Value.bool f from (Γ.k (d := 25) 2 rfl)), (show _ = Value.bool g from (Γ.k (d := 26) 3 rfl))]; exact two2_want W _ _ xs ys f g x y HX.out HY.out ⟨_, _, _, rfl, H1.out.mono Γ.A.below0⟩ ⟨_, _, _, rfl, H2.out.mono Γ.A.below0⟩)) ?_
      refine .pl rfl (fun β E W Γ => ev_moveM (Γ.w 4 rfl)) ?_
      refine .pl rfl (fun β E W Γ => ev_ex40 (Γ.w 5 rfl)) ?_
      refine .pl rfl (fun β E W Γ => ev_ex41 (Γ.w 5 rfl)) ?_
      refine .pl rfl (fun β E W Γ => ev_ex42 (Γ.w 5 rfl)) ?_
      refine .pl rfl (fun β E W Γ => ev_ex43 (Γ.w 5 rfl)) ?_
      refine .al rfl mb0 (fun _ _ => ev_alI) ?_
      refine .al rfl mb1 (fun _ _ => ev_alI) ?_
      refine .al rfl mb2 (fun _ _ => ev_alR) ?_
      refine .al rfl mb3 (fun _ _ => ev_alR) ?_
      refine .st rfl mb0 (fun β E W Γ => ev_stI (Γ.q mb0 rfl) (Γ.b1 mb0) (Γ.b2 mb0) (Γ.w 6 rfl)) ?_
      refine .st rfl mb1 (fun β E W Γ => ev_stI (Γ.q mb1 rfl) (Γ.b1 mb1) (Γ.b2 mb1) (Γ.w 7 rfl)) ?_
      refine .st rfl mb2 (fun β E W Γ => ev_stR (Γ.q mb2 rfl) (Γ.b1 mb2) (Γ.b2 mb2) (Γ.w 8 rfl)) ?_
      refine .st rfl mb3 (fun β E W Γ => ev_stR (Γ.q mb3 rfl) (Γ.b1 mb3) (Γ.b2 mb3) (Γ.w 9 rfl)) ?_
      exact .nil
    intro β f3 W3 hf hS hN hA hP hlo hlt hap
    have HB0 := HB.out.size
    have HB := Lib.hid (HB.out.trans (hA.below (B := w.heap.size) (by intro b hb; simp [oldBlocks] at hb) HB.out.size))
    obtain ⟨b4, b4e⟩ : ∃ b, b = β 14 := ⟨_, rfl⟩
    have b4p : f3 11 = .pointer (some ⟨b4, 0, none⟩) := b4e ▸ hP _ mb0 (10, 11) (by simp) rfl
    have b4o : w.heap.size ≤ b4 := b4e ▸ hlo _ mb0 (by intro h; cases h)
    have X_b4 : Hid (Holds W3 b4 .int (.int x)) := Lib.hid (b4e ▸ hS _ mb0)
    obtain ⟨b5, b5e⟩ : ∃ b, b = β 15 := ⟨_, rfl⟩
    have b5p : f3 12 = .pointer (some ⟨b5, 0, none⟩) := b5e ▸ hP _ mb1 (11, 12) (by simp) rfl
    have b5o : w.heap.size ≤ b5 := b5e ▸ hlo _ mb1 (by intro h; cases h)
    have X_b5 : Hid (Holds W3 b5 .int (.int y)) := Lib.hid (b5e ▸ hS _ mb1)
    have b4b5q : b4 ≠ b5 := by rw [b4e, b5e]; exact hap _ mb0 _ mb1 (by show 14 ≠ 15; decide)
    obtain ⟨b6, b6e⟩ : ∃ b, b = β 16 := ⟨_, rfl⟩
    have b6p : f3 13 = .pointer (some ⟨b6, 0, none⟩) := b6e ▸ hP _ mb2 (12, 13) (by simp) rfl
    have b6o : w.heap.size ≤ b6 := b6e ▸ hlo _ mb2 (by intro h; cases h)
    have X_b6 : Hid (Holds W3 b6 .rint (.rint x)) := Lib.hid (b6e ▸ hS _ mb2)
    have b4b6q : b4 ≠ b6 := by rw [b4e, b6e]; exact hap _ mb0 _ mb2 (by show 14 ≠ 16; decide)
    have b5b6q : b5 ≠ b6 := by rw [b5e, b6e]; exact hap _ mb1 _ mb2 (by show 15 ≠ 16; decide)
    obtain ⟨b7, b7e⟩ : ∃ b, b = β 17 := ⟨_, rfl⟩
    have b7p : f3 14 = .pointer (some ⟨b7, 0, none⟩) := b7e ▸ hP _ mb3 (13, 14) (by simp) rfl
    have b7o : w.heap.size ≤ b7 := b7e ▸ hlo _ mb3 (by intro h; cases h)
    have X_b7 : Hid (Holds W3 b7 .rint (.rint y)) := Lib.hid (b7e ▸ hS _ mb3)
    have b4b7q : b4 ≠ b7 := by rw [b4e, b7e]; exact hap _ mb0 _ mb3 (by show 14 ≠ 17; decide)
    have b5b7q : b5 ≠ b7 := by rw [b5e, b7e]; exact hap _ mb1 _ mb3 (by show 15 ≠ 17; decide)
    have b6b7q : b6 ≠ b7 := by rw [b6e, b7e]; exact hap _ mb2 _ mb3 (by show 16 ≠ 17; decide)
    have NE : Hid (w.heap.size ≤ b4 ∧ b4 ≠ b5 ∧ w.heap.size ≤ b5 ∧ b4 ≠ b6 ∧ b5 ≠ b6 ∧ w.heap.size ≤ b6 ∧ b4 ≠ b7 ∧ b5 ≠ b7 ∧ b6 ≠ b7 ∧ w.heap.size ≤ b7) := Lib.hid (by omega)
    simp only [fillSlots, b4p, b5p, b6p, b7p, List.setIfInBounds_toArray, List.set_cons_succ, List.set_cons_zero]
    clear hf hS hN hA hP hlo hlt hap b4e b4o b5e b5o b6e b6o b7e b7o b4b5q b4b6q b4b7q b5b6q b5b7q b6b7q b4p b5p b6p b7p HB0
    refine hK2.out _ _ ?_; clear hK2
    refine wp_seq_k ?_; intro K8 hK8; replace hK8 := Lib.hid hK8
    refine wp_seq_k ?_; intro K9 hK9; replace hK9 := Lib.hid hK9
    obtain ⟨b4v, b4x, b4m, b4f, b4l⟩ := X_b4.out.op rfl
    obtain ⟨b5v, b5x, b5m, b5f, b5l⟩ := X_b5.out.op rfl
    obtain ⟨b6v, b6x, b6m, b6f, b6l⟩ := X_b6.out.op rfl
    obtain ⟨b7v, b7x, b7m, b7f, b7l⟩ := X_b7.out.op rfl
    clear X_b4 X_b5 X_b6 X_b7
    refine region_tell (T := [0, 1, 2, 3, 4]) (slots := [32, 33, 34, 35, 15]) (tab := [.is (.slice r m t), .that (rowS (zs.take 6)), .rnum z6, .rint (z6 : Int), .any, .any])
        (D := [⟨0, .rint, some 4, 5, .rint (z6 : Int), .agg #[.bool false, .slice none 0 0]⟩]) (F := [(b4v, .int x), (b5v, .int y), (b6v, .rint x), (b7v, .rint y)]) List.Pairwise.nil (fc b4m (fc b5m (fc b6m (fc b7m fn)))) (ha hn) ?_ ?_
    · refine .pl rfl (fun β E W Γ => ev_move _ (Γ.s rfl)) ?_
      refine .pl rfl (fun β E W Γ => ev_call2 (Γ.f _) run_Few (by rw [Γ.c, (show _ = Value.slice r m t from (Γ.k (d := 32) 0 rfl))]; exact few_want W _ zs 6 (by omega) ⟨_, _, _, rfl, (H3.out.mono HB.out).mono Γ.A.below0⟩)) ?_
      refine .pl rfl (fun β E W Γ => ev_call1 (Γ.f _) run_rFrom (rFrom_want W _ (zs.take 6) z6 HZ.out (by rw [List.length_take]; omega) (Γ.w (d := 33) 1 rfl))) ?_
      refine .pl rfl (fun β E W Γ => ev_call2 (Γ.f _) run_rI (by rw [Γ.c]; exact rI_gives W _ _ z6 (z6 : Int) rfl (Γ.w (d := 34) 2 rfl))) ?_
      refine .al rfl mb0 (fun _ _ => ev_alR) ?_
      refine .st rfl mb0 (fun β E W Γ => ev_stR (Γ.q mb0 rfl) (Γ.b1 mb0) (Γ.b2 mb0) (Γ.w 3 rfl)) ?_
      exact .nil
    intro β f10 W10 hf hS hN hA hP hlo hlt hap
    have HB0 := HB.out.size
    have HB := Lib.hid (HB.out.trans (hA.below (B := w.heap.size) (by intro b hb; simp [oldBlocks] at hb) HB.out.size))
    obtain ⟨b11, b11e⟩ : ∃ b, b = β 5 := ⟨_, rfl⟩
    have b11p : f10 15 = .pointer (some ⟨b11, 0, none⟩) := b11e ▸ hP _ mb0 (4, 15) (by simp) rfl
    have b11o : W3.heap.size ≤ b11 := b11e ▸ hlo _ mb0 (by intro h; cases h)
    have X_b11 : Hid (Holds W10 b11 .rint (.rint (z6 : Int))) := Lib.hid (b11e ▸ hS _ mb0)
    have NE : Hid (w.heap.size ≤ b4 ∧ b4 ≠ b5 ∧ w.heap.size ≤ b5 ∧ b4 ≠ b6 ∧ b5 ≠ b6 ∧ w.heap.size ≤ b6 ∧ b4 ≠ b7 ∧ b5 ≠ b7 ∧ b6 ≠ b7 ∧ w.heap.size ≤ b7 ∧ b4 < b11 ∧ b5 < b11 ∧ b6 < b11 ∧ b7 < b11 ∧ w.heap.size ≤ b11) := Lib.hid (by have h := NE.out; omega)
    have X_b4 := Lib.hid (Says.keep b4x b4f b4l (hN (_, _) mb0) hA List.not_mem_nil)
    have X_b5 := Lib.hid (Says.keep b5x b5f b5l (hN (_, _) mb1) hA List.not_mem_nil)
    have X_b6 := Lib.hid (Says.keep b6x b6f b6l (hN (_, _) mb2) hA List.not_mem_nil)
    have X_b7 := Lib.hid (Says.keep b7x b7f b7l (hN (_, _) mb3) hA List.not_mem_nil)
    simp only [fillSlots, b11p, List.setIfInBounds_toArray, List.set_cons_succ, List.set_cons_zero]
    clear hf hS hN hA hP hlo hlt hap b4x b4m b4f b4l b5x b5m b5f b5l b6x b6m b6f b6l b7x b7m b7f b7l b11e b11o b11p HB0
    refine hK9.out _ _ ?_; clear hK9
    refine wp_seq_k ?_; intro K12 hK12; replace hK12 := Lib.hid hK12
    obtain ⟨b4v, b4x, b4m, b4f, b4l⟩ := X_b4.out.op rfl
    obtain ⟨b5v, b5x, b5m, b5f, b5l⟩ := X_b5.out.op rfl
    obtain ⟨b6v, b6x, b6m, b6f, b6l⟩ := X_b6.out.op rfl
    obtain ⟨b7v, b7x, b7m, b7f, b7l⟩ := X_b7.out.op rfl
    obtain ⟨b11v, b11x, b11m, b11f, b11l⟩ := X_b11.out.op rfl
    clear X_b4 X_b5 X_b6 X_b7 X_b11
    refine region_tell (T := [0, 1, 2, 3]) (slots := [36, 37, 38, 39]) (tab := [.is (.pointer (some ⟨b11, 1, none⟩)), .rnum ((z6 : Int).natAbs), .that (lenS ((z6 : Int).natAbs)), .is (.bool false)])
        (D := []) (F := [(b4v, .int x), (b5v, .int y), (b6v, .rint x), (b7v, .rint y), (b11v, .rint (z6 : Int))]) List.Pairwise.nil (fc b4m (fc b5m (fc b6m (fc b7m (fc b11m fn))))) hn ?_ ?_
    · refine .pl rfl (fun β E W Γ => ev_faR1 (Γ.s rfl)) ?_
      refine .pl rfl (fun β E W Γ => ev_ldR1 (Γ.k 0 rfl) (b11x.far Γ.A List.not_mem_nil) (Γ.F (_, _) mb4) rfl) ?_
      refine .pl rfl (fun β E W Γ => ev_len (Γ.w 1 rfl)) ?_
      refine .pl rfl (fun β E W Γ => ev_lenGtr (Γ.w 2 rfl) HZ0.out Γ.c) ?_
      exact .nil
    intro β f13 W13 hf hS hN hA hP hlo hlt hap
    have HB := Lib.hid (HB.out.trans (hA.below (B := w.heap.size) (by intro b hb; simp [oldBlocks] at hb) HB.out.size))
    have X_b4 := Lib.hid (Says.keep b4x b4f b4l (hN (_, _) mb0) hA List.not_mem_nil)
    have X_b5 := Lib.hid (Says.keep b5x b5f b5l (hN (_, _) mb1) hA List.not_mem_nil)
    have X_b6 := Lib.hid (Says.keep b6x b6f b6l (hN (_, _) mb2) hA List.not_mem_nil)
    have X_b7 := Lib.hid (Says.keep b7x b7f b7l (hN (_, _) mb3) hA List.not_mem_nil)
    have X_b11 := Lib.hid (Says.keep b11x b11f b11l (hN (_, _) mb4) hA List.not_mem_nil)
    have p39_13 : f13 39 = .bool false := hf (3, 39) (by simp)
    simp only [fillSlots, p39_13, List.setIfInBounds_toArray, List.set_cons_succ, List.set_cons_zero]
    clear hf hS hN hA hP hlo hlt hap b4x b4m b4f b4l b5x b5m b5f b5l b6x b6m b6f b6l b7x b7m b7f b7l b11x b11m b11f b11l p39_13
    refine hK12.out _ _ ?_; clear hK12
    refine wp_cond_false rfl ?_
    refine wp_skip ?_
    refine hK8.out _ _ ?_; clear hK8
    refine wp_seq_k ?_; intro K14 hK14; replace hK14 := Lib.hid hK14
    clear X_b11
    obtain ⟨b4v, b4x, b4m, b4f, b4l⟩ := X_b4.out.op rfl
    obtain ⟨b5v, b5x, b5m, b5f, b5l⟩ := X_b5.out.op rfl
    obtain ⟨b6v, b6x, b6m, b6f, b6l⟩ := X_b6.out.op rfl
    obtain ⟨b7v, b7x, b7m, b7f, b7l⟩ := X_b7.out.op rfl
    clear X_b4 X_b5 X_b6 X_b7
    refine region_tell (T := [0, 1, 2, 3, 4, 5, 6, 7, 8, 9]) (slots := [51, 52, 53, 50, 54, 55, 56, 16, 17, 18]) (tab := [.int x, .int y, .three (.int ((Nat.gcd x.natAbs y.natAbs : Nat) : Int)) (.int U) (.int V), .three (.int ((Nat.gcd x.natAbs y.natAbs : Nat) : Int)) (.int U) (.int V), .int ((Nat.gcd x.natAbs y.natAbs : Nat) : Int), .int U, .int V, .any, .any, .any, .any, .any, .any])
        (D := [⟨0, .int, some 7, 10, .int ((Nat.gcd x.natAbs y.natAbs : Nat) : Int), .agg #[.bool false, .int .u64 0, .slice none 0 0]⟩, ⟨0, .int, some 8, 11, .int U, .agg #[.bool false, .int .u64 0, .slice none 0 0]⟩, ⟨0, .int, some 9, 12, .int V, .agg #[.bool false, .int .u64 0, .slice none 0 0]⟩]) (F := [(b4v, .int x), (b5v, .int y), (b6v, .rint x), (b7v, .rint y)]) List.Pairwise.nil (fc b4m (fc b5m (fc b6m (fc b7m fn)))) (ha (ha (ha hn))) ?_ ?_
    · refine .pl rfl (fun β E W Γ => ev_ldI (Γ.s rfl) (b4x.far Γ.A List.not_mem_nil) (Γ.F (_, _) mb0)) ?_
      refine .pl rfl (fun β E W Γ => ev_ldI (Γ.s rfl) (b5x.far Γ.A List.not_mem_nil) (Γ.F (_, _) mb1)) ?_
      refine .pl rfl (fun β E W Γ => ev_call2 (Γ.f _) run_iBezout (iBez_want W _ _ x y U V HUV.out (by omega) (by omega) (Γ.w (d := 51) 0 rfl) (Γ.w (d := 52) 1 rfl))) ?_
      refine .pl rfl (fun β E W Γ => ev_moveM (Γ.w 2 rfl)) ?_
      refine .pl rfl (fun β E W Γ => ev_ex30 (Γ.w 3 rfl)) ?_
      refine .pl rfl (fun β E W Γ => ev_ex31 (Γ.w 3 rfl)) ?_
      refine .pl rfl (fun β E W Γ => ev_ex32 (Γ.w 3 rfl)) ?_
      refine .al rfl mb0 (fun _ _ => ev_alI) ?_
      refine .al rfl mb1 (fun _ _ => ev_alI) ?_
      refine .al rfl mb2 (fun _ _ => ev_alI) ?_
      refine .st rfl mb0 (fun β E W Γ => ev_stI (Γ.q mb0 rfl) (Γ.b1 mb0) (Γ.b2 mb0) (Γ.w 4 rfl)) ?_
      refine .st rfl mb1 (fun β E W Γ => ev_stI (Γ.q mb1 rfl) (Γ.b1 mb1) (Γ.b2 mb1) (Γ.w 5 rfl)) ?_
      refine .st rfl mb2 (fun β E W Γ => ev_stI (Γ.q mb2 rfl) (Γ.b1 mb2) (Γ.b2 mb2) (Γ.w 6 rfl)) ?_
      exact .nil
    intro β f15 W15 hf hS hN hA hP hlo hlt hap
    have HB0 := HB.out.size
    have HB := Lib.hid (HB.out.trans (hA.below (B := w.heap.size) (by intro b hb; simp [oldBlocks] at hb) HB.out.size))
    obtain ⟨b16, b16e⟩ : ∃ b, b = β 10 := ⟨_, rfl⟩
    have b16p : f15 16 = .pointer (some ⟨b16, 0, none⟩) := b16e ▸ hP _ mb0 (7, 16) (by simp) rfl
    have b16o : W13.heap.size ≤ b16 := b16e ▸ hlo _ mb0 (by intro h; cases h)
    have X_b16 : Hid (Holds W15 b16 .int (.int ((Nat.gcd x.natAbs y.natAbs : Nat) : Int))) := Lib.hid (b16e ▸ hS _ mb0)
    obtain ⟨b17, b17e⟩ : ∃ b, b = β 11 := ⟨_, rfl⟩
    have b17p : f15 17 = .pointer (some ⟨b17, 0, none⟩) := b17e ▸ hP _ mb1 (8, 17) (by simp) rfl
    have b17o : W13.heap.size ≤ b17 := b17e ▸ hlo _ mb1 (by intro h; cases h)
    have X_b17 : Hid (Holds W15 b17 .int (.int U)) := Lib.hid (b17e ▸ hS _ mb1)
    have b16b17q : b16 ≠ b17 := by rw [b16e, b17e]; exact hap _ mb0 _ mb1 (by show 10 ≠ 11; decide)
    obtain ⟨b18, b18e⟩ : ∃ b, b = β 12 := ⟨_, rfl⟩
    have b18p : f15 18 = .pointer (some ⟨b18, 0, none⟩) := b18e ▸ hP _ mb2 (9, 18) (by simp) rfl
    have b18o : W13.heap.size ≤ b18 := b18e ▸ hlo _ mb2 (by intro h; cases h)
    have X_b18 : Hid (Holds W15 b18 .int (.int V)) := Lib.hid (b18e ▸ hS _ mb2)
    have b16b18q : b16 ≠ b18 := by rw [b16e, b18e]; exact hap _ mb0 _ mb2 (by show 10 ≠ 12; decide)
    have b17b18q : b17 ≠ b18 := by rw [b17e, b18e]; exact hap _ mb1 _ mb2 (by show 11 ≠ 12; decide)
    have NE : Hid (w.heap.size ≤ b4 ∧ b4 ≠ b5 ∧ w.heap.size ≤ b5 ∧ b4 ≠ b6 ∧ b5 ≠ b6 ∧ w.heap.size ≤ b6 ∧ b4 ≠ b7 ∧ b5 ≠ b7 ∧ b6 ≠ b7 ∧ w.heap.size ≤ b7 ∧ b4 < b11 ∧ b5 < b11 ∧ b6 < b11 ∧ b7 < b11 ∧ w.heap.size ≤ b11 ∧ b4 < b16 ∧ b5 < b16 ∧ b6 < b16 ∧ b7 < b16 ∧ w.heap.size ≤ b16 ∧ b16 ≠ b17 ∧ b4 < b17 ∧ b5 < b17 ∧ b6 < b17 ∧ b7 < b17 ∧ w.heap.size ≤ b17 ∧ b16 ≠ b18 ∧ b17 ≠ b18 ∧ b4 < b18 ∧ b5 < b18 ∧ b6 < b18 ∧ b7 < b18 ∧ w.heap.size ≤ b18) := Lib.hid (by have h := NE.out; omega)
    have X_b4 := Lib.hid (Says.keep b4x b4f b4l (hN (_, _) mb0) hA List.not_mem_nil)
    have X_b5 := Lib.hid (Says.keep b5x b5f b5l (hN (_, _) mb1) hA List.not_mem_nil)
    have X_b6 := Lib.hid (Says.keep b6x b6f b6l (hN (_, _) mb2) hA List.not_mem_nil)
    have X_b7 := Lib.hid (Says.keep b7x b7f b7l (hN (_, _) mb3) hA List.not_mem_nil)
    simp only [fillSlots, b16p, b17p, b18p, List.setIfInBounds_toArray, List.set_cons_succ, List.set_cons_zero]
    clear hf hS hN hA hP hlo hlt hap b4x b4m b4f b4l b5x b5m b5f b5l b6x b6m b6f b6l b7x b7m b7f b7l b16e b16o b17e b17o b18e b18o b16b17q b16b18q b17b18q b16p b17p b18p HB0
    refine hK14.out _ _ ?_; clear hK14
    refine wp_seq_k ?_; intro K19 hK19; replace hK19 := Lib.hid hK19
    obtain ⟨b4v, b4x, b4m, b4f, b4l⟩ := X_b4.out.op rfl
    obtain ⟨b5v, b5x, b5m, b5f, b5l⟩ := X_b5.out.op rfl
    obtain ⟨b6v, b6x, b6m, b6f, b6l⟩ := X_b6.out.op rfl
    obtain ⟨b7v, b7x, b7m, b7f, b7l⟩ := X_b7.out.op rfl
    obtain ⟨b16v, b16x, b16m, b16f, b16l⟩ := X_b16.out.op rfl
    obtain ⟨b17v, b17x, b17m, b17f, b17l⟩ := X_b17.out.op rfl
    obtain ⟨b18v, b18x, b18m, b18f, b18l⟩ := X_b18.out.op rfl
    clear X_b4 X_b5 X_b6 X_b7 X_b16 X_b17 X_b18
    refine region_tell (T := [0, 1, 2, 3, 4, 5, 6, 7, 8, 9]) (slots := [58, 59, 60, 57, 61, 62, 63, 19, 20, 21]) (tab := [.rint x, .rint y, .three (.rint ((Nat.gcd x.natAbs y.natAbs : Nat) : Int)) (.rint U) (.rint V), .three (.rint ((Nat.gcd x.natAbs y.natAbs : Nat) : Int)) (.rint U) (.rint V), .rint ((Nat.gcd x.natAbs y.natAbs : Nat) : Int), .rint U, .rint V, .any, .any, .any, .any, .any, .any])
        (D := [⟨0, .rint, some 7, 10, .rint ((Nat.gcd x.natAbs y.natAbs : Nat) : Int), .agg #[.bool false, .slice none 0 0]⟩, ⟨0, .rint, some 8, 11, .rint U, .agg #[.bool false, .slice none 0 0]⟩, ⟨0, .rint, some 9, 12, .rint V, .agg #[.bool false, .slice none 0 0]⟩]) (F := [(b4v, .int x), (b5v, .int y), (b6v, .rint x), (b7v, .rint y), (b16v, .int ((Nat.gcd x.natAbs y.natAbs : Nat) : Int)), (b17v, .int U), (b18v, .int V)]) List.Pairwise.nil (fc b4m (fc b5m (fc b6m (fc b7m (fc b16m (fc b17m (fc b18m fn))))))) (ha (ha (ha hn))) ?_ ?_
    · refine .pl rfl (fun β E W Γ => ev_ldR (Γ.s rfl) (b6x.far Γ.A List.not_mem_nil) (Γ.F (_, _) mb2)) ?_
      refine .pl rfl (fun β E W Γ => ev_ldR (Γ.s rfl) (b7x.far Γ.A List.not_mem_nil) (Γ.F (_, _) mb3)) ?_
      refine .pl rfl (fun β E W Γ => ev_call2 (Γ.f _) run_rBezout (rBez_want W _ _ x y U V HUV.out (by omega) (by omega) (Γ.w (d := 58) 0 rfl) (Γ.w (d := 59) 1 rfl))) ?_
      refine .pl rfl (fun β E W Γ => ev_moveM (Γ.w 2 rfl)) ?_
      refine .pl rfl (fun β E W Γ => ev_ex30 (Γ.w 3 rfl)) ?_
      refine .pl rfl (fun β E W Γ => ev_ex31 (Γ.w 3 rfl)) ?_
      refine .pl rfl (fun β E W Γ => ev_ex32 (Γ.w 3 rfl)) ?_
      refine .al rfl mb0 (fun _ _ => ev_alR) ?_
      refine .al rfl mb1 (fun _ _ => ev_alR) ?_
      refine .al rfl mb2 (fun _ _ => ev_alR) ?_
      refine .st rfl mb0 (fun β E W Γ => ev_stR (Γ.q mb0 rfl) (Γ.b1 mb0) (Γ.b2 mb0) (Γ.w 4 rfl)) ?_
      refine .st rfl mb1 (fun β E W Γ => ev_stR (Γ.q mb1 rfl) (Γ.b1 mb1) (Γ.b2 mb1) (Γ.w 5 rfl)) ?_
      refine .st rfl mb2 (fun β E W Γ => ev_stR (Γ.q mb2 rfl) (Γ.b1 mb2) (Γ.b2 mb2) (Γ.w 6 rfl)) ?_
      exact .nil
    intro β f20 W20 hf hS hN hA hP hlo hlt hap
    have HB0 := HB.out.size
    have HB := Lib.hid (HB.out.trans (hA.below (B := w.heap.size) (by intro b hb; simp [oldBlocks] at hb) HB.out.size))
    obtain ⟨b21, b21e⟩ : ∃ b, b = β 10 := ⟨_, rfl⟩
    have b21p : f20 19 = .pointer (some ⟨b21, 0, none⟩) := b21e ▸ hP _ mb0 (7, 19) (by simp) rfl
    have b21o : W15.heap.size ≤ b21 := b21e ▸ hlo _ mb0 (by intro h; cases h)
    have X_b21 : Hid (Holds W20 b21 .rint (.rint ((Nat.gcd x.natAbs y.natAbs : Nat) : Int))) := Lib.hid (b21e ▸ hS _ mb0)
    obtain ⟨b22, b22e⟩ : ∃ b, b = β 11 := ⟨_, rfl⟩
    have b22p : f20 20 = .pointer (some ⟨b22, 0, none⟩) := b22e ▸ hP _ mb1 (8, 20) (by simp) rfl
    have b22o : W15.heap.size ≤ b22 := b22e ▸ hlo _ mb1 (by intro h; cases h)
    have X_b22 : Hid (Holds W20 b22 .rint (.rint U)) := Lib.hid (b22e ▸ hS _ mb1)
    have b21b22q : b21 ≠ b22 := by rw [b21e, b22e]; exact hap _ mb0 _ mb1 (by show 10 ≠ 11; decide)
    obtain ⟨b23, b23e⟩ : ∃ b, b = β 12 := ⟨_, rfl⟩
    have b23p : f20 21 = .pointer (some ⟨b23, 0, none⟩) := b23e ▸ hP _ mb2 (9, 21) (by simp) rfl
    have b23o : W15.heap.size ≤ b23 := b23e ▸ hlo _ mb2 (by intro h; cases h)
    have X_b23 : Hid (Holds W20 b23 .rint (.rint V)) := Lib.hid (b23e ▸ hS _ mb2)
    have b21b23q : b21 ≠ b23 := by rw [b21e, b23e]; exact hap _ mb0 _ mb2 (by show 10 ≠ 12; decide)
    have b22b23q : b22 ≠ b23 := by rw [b22e, b23e]; exact hap _ mb1 _ mb2 (by show 11 ≠ 12; decide)
    have NE : Hid (w.heap.size ≤ b4 ∧ b4 ≠ b5 ∧ w.heap.size ≤ b5 ∧ b4 ≠ b6 ∧ b5 ≠ b6 ∧ w.heap.size ≤ b6 ∧ b4 ≠ b7 ∧ b5 ≠ b7 ∧ b6 ≠ b7 ∧ w.heap.size ≤ b7 ∧ b4 < b11 ∧ b5 < b11 ∧ b6 < b11 ∧ b7 < b11 ∧ w.heap.size ≤ b11 ∧ b4 < b16 ∧ b5 < b16 ∧ b6 < b16 ∧ b7 < b16 ∧ w.heap.size ≤ b16 ∧ b16 ≠ b17 ∧ b4 < b17 ∧ b5 < b17 ∧ b6 < b17 ∧ b7 < b17 ∧ w.heap.size ≤ b17 ∧ b16 ≠ b18 ∧ b17 ≠ b18 ∧ b4 < b18 ∧ b5 < b18 ∧ b6 < b18 ∧ b7 < b18 ∧ w.heap.size ≤ b18 ∧ b4 < b21 ∧ b5 < b21 ∧ b6 < b21 ∧ b7 < b21 ∧ b16 < b21 ∧ b17 < b21 ∧ b18 < b21 ∧ w.heap.size ≤ b21 ∧ b21 ≠ b22 ∧ b4 < b22 ∧ b5 < b22 ∧ b6 < b22 ∧ b7 < b22 ∧ b16 < b22 ∧ b17 < b22 ∧ b18 < b22 ∧ w.heap.size ≤ b22 ∧ b21 ≠ b23 ∧ b22 ≠ b23 ∧ b4 < b23 ∧ b5 < b23 ∧ b6 < b23 ∧ b7 < b23 ∧ b16 < b23 ∧ b17 < b23 ∧ b18 < b23 ∧ w.heap.size ≤ b23) := Lib.hid (by have h := NE.out; omega)
    have X_b4 := Lib.hid (Says.keep b4x b4f b4l (hN (_, _) mb0) hA List.not_mem_nil)
    have X_b5 := Lib.hid (Says.keep b5x b5f b5l (hN (_, _) mb1) hA List.not_mem_nil)
    have X_b6 := Lib.hid (Says.keep b6x b6f b6l (hN (_, _) mb2) hA List.not_mem_nil)
    have X_b7 := Lib.hid (Says.keep b7x b7f b7l (hN (_, _) mb3) hA List.not_mem_nil)
    have X_b16 := Lib.hid (Says.keep b16x b16f b16l (hN (_, _) mb4) hA List.not_mem_nil)
    have X_b17 := Lib.hid (Says.keep b17x b17f b17l (hN (_, _) mb5) hA List.not_mem_nil)
    have X_b18 := Lib.hid (Says.keep b18x b18f b18l (hN (_, _) mb6) hA List.not_mem_nil)
    simp only [fillSlots, b21p, b22p, b23p, List.setIfInBounds_toArray, List.set_cons_succ, List.set_cons_zero]
    clear hf hS hN hA hP hlo hlt hap b4x b4m b4f b4l b5x b5m b5f b5l b6x b6m b6f b6l b7x b7m b7f b7l b16x b16m b16f b16l b17x b17m b17f b17l b18x b18m b18f b18l b21e b21o b22e b22o b23e b23o b21b22q b21b23q b22b23q b21p b22p b23p HB0
    refine hK19.out _ _ ?_; clear hK19
    refine wp_seq_k ?_; intro K24 hK24; replace hK24 := Lib.hid hK24
    obtain ⟨b4v, b4x, b4m, b4f, b4l⟩ := X_b4.out.op rfl
    obtain ⟨b5v, b5x, b5m, b5f, b5l⟩ := X_b5.out.op rfl
    obtain ⟨b6v, b6x, b6m, b6f, b6l⟩ := X_b6.out.op rfl
    obtain ⟨b7v, b7x, b7m, b7f, b7l⟩ := X_b7.out.op rfl
    obtain ⟨b16v, b16x, b16m, b16f, b16l⟩ := X_b16.out.op rfl
    obtain ⟨b17v, b17x, b17m, b17f, b17l⟩ := X_b17.out.op rfl
    obtain ⟨b18v, b18x, b18m, b18f, b18l⟩ := X_b18.out.op rfl
    obtain ⟨b21v, b21x, b21m, b21f, b21l⟩ := X_b21.out.op rfl
    obtain ⟨b22v, b22x, b22m, b22f, b22l⟩ := X_b22.out.op rfl
    obtain ⟨b23v, b23x, b23m, b23f, b23l⟩ := X_b23.out.op rfl
    clear X_b4 X_b5 X_b6 X_b7 X_b16 X_b17 X_b18 X_b21 X_b22 X_b23
    refine region_tell (T := [0, 1, 2, 3, 4, 5, 6, 7, 8, 9, 10, 11, 12, 13, 14, 15, 16, 17, 18, 19, 20, 21, 22, 23, 24, 25, 26, 27, 28, 29]) (slots := [64, 65, 66, 67, 68, 69, 70, 71, 72, 73, 74, 75, 76, 77, 78, 79, 80, 81, 82, 83, 84, 85, 86, 87, 88, 89, 90, 91, 92, 10]) (tab := [.is (.bool true), .is (.bool true), .int ((Nat.gcd x.natAbs y.natAbs : Nat) : Int), .rint ((Nat.gcd x.natAbs y.natAbs : Nat) : Int), .is (.bool true), .is (.bool true), .is (.bool true), .int U, .rint U, .is (.bool true), .is (.bool true), .is (.bool true), .int V, .rint V, .is (.bool true), .is (.bool true), .is (.bool true), .int x, .int y, .num (Nat.gcd x.natAbs y.natAbs), .rnum (Nat.gcd x.natAbs y.natAbs), .is (.pointer (some ⟨b6, 1, none⟩)), .rnum x.natAbs, .is (.pointer (some ⟨b7, 1, none⟩)), .rnum y.natAbs, .rnum (Nat.gcd x.natAbs y.natAbs), .is (.int .i64 0), .is (.bool true), .is (.bool true), .is (.bool true)])
        (D := []) (F := [(b4v, .int x), (b5v, .int y), (b6v, .rint x), (b7v, .rint y), (b16v, .int ((Nat.gcd x.natAbs y.natAbs : Nat) : Int)), (b17v, .int U), (b18v, .int V), (b21v, .rint ((Nat.gcd x.natAbs y.natAbs : Nat) : Int)), (b22v, .rint U), (b23v, .rint V)]) List.Pairwise.nil (fc b4m (fc b5m (fc b6m (fc b7m (fc b16m (fc b17m (fc b18m (fc b21m (fc b22m (fc b23m fn)))))))))) hn ?_ ?_
    · refine .pl rfl (fun β E W Γ => ev_call0 (Γ.f _) run_known2 (known2_gives W)) ?_
      refine .pl rfl (fun β E W Γ => ev_move _ (Γ.k 0 rfl)) ?_
      refine .gu rfl rfl rfl rfl (fun β E W Γ => ev_ldI (Γ.s rfl) (b16x.far Γ.A List.not_mem_nil) (Γ.F (_, _) mb4)) ?_
      refine .gu rfl rfl rfl rfl (fun β E W Γ => ev_ldR (Γ.s rfl) (b21x.far Γ.A List.not_mem_nil) (Γ.F (_, _) mb7)) ?_
      refine .gu rfl rfl rfl rfl (fun β E W Γ => ev_call2 (Γ.f _) run_is2 (is2_want W _ _ ((Nat.gcd x.natAbs y.natAbs : Nat) : Int) SG.out (Γ.w (d := 66) 2 rfl) (Γ.w (d := 67) 3 rfl))) ?_
      refine .pl rfl (fun β E W Γ => ev_pick (Γ.k 1 rfl) (Γ.k 4 rfl)) ?_
      refine .pl rfl (fun β E W Γ => ev_move _ (Γ.k 5 rfl)) ?_
      refine .gu rfl rfl rfl rfl (fun β E W Γ => ev_ldI (Γ.s rfl) (b17x.far Γ.A List.not_mem_nil) (Γ.F (_, _) mb5)) ?_
      refine .gu rfl rfl rfl rfl (fun β E W Γ => ev_ldR (Γ.s rfl) (b22x.far Γ.A List.not_mem_nil) (Γ.F (_, _) mb8)) ?_
      refine .gu rfl rfl rfl rfl (fun β E W Γ => ev_call2 (Γ.f _) run_is2 (is2_want W _ _ U SU.out (Γ.w (d := 71) 7 rfl) (Γ.w (d := 72) 8 rfl))) ?_
      refine .pl rfl (fun β E W Γ => ev_pick (Γ.k 6 rfl) (Γ.k 9 rfl)) ?_
      refine .pl rfl (fun β E W Γ => ev_move _ (Γ.k 10 rfl)) ?_
      refine .gu rfl rfl rfl rfl (fun β E W Γ => ev_ldI (Γ.s rfl) (b18x.far Γ.A List.not_mem_nil) (Γ.F (_, _) mb6)) ?_
      refine .gu rfl rfl rfl rfl (fun β E W Γ => ev_ldR (Γ.s rfl) (b23x.far Γ.A List.not_mem_nil) (Γ.F (_, _) mb9)) ?_
      refine .gu rfl rfl rfl rfl (fun β E W Γ => ev_call2 (Γ.f _) run_is2 (is2_want W _ _ V SV.out (Γ.w (d := 76) 12 rfl) (Γ.w (d := 77) 13 rfl))) ?_
      refine .pl rfl (fun β E W Γ => ev_pick (Γ.k 11 rfl) (Γ.k 14 rfl)) ?_
      refine .pl rfl (fun β E W Γ => ev_move _ (Γ.k 15 rfl)) ?_
      refine .gu rfl rfl rfl rfl (fun β E W Γ => ev_ldI (Γ.s rfl) (b4x.far Γ.A List.not_mem_nil) (Γ.F (_, _) mb0)) ?_
      refine .gu rfl rfl rfl rfl (fun β E W Γ => ev_ldI (Γ.s rfl) (b5x.far Γ.A List.not_mem_nil) (Γ.F (_, _) mb1)) ?_
      refine .gu rfl rfl rfl rfl (fun β E W Γ => ev_call2 (Γ.f _) run_iGcd (iGcd_val W _ _ x y _ rfl (by omega) (by omega) ((TB.out.mono HB.out).mono Γ.A.below0) (Γ.w (d := 81) 17 rfl) (Γ.w (d := 82) 18 rfl))) ?_
      refine .gu rfl rfl rfl rfl (fun β E W Γ => ev_call1 (Γ.f _) run_hOutNat (hOutNat_want W _ (Nat.gcd x.natAbs y.natAbs) SGN.out (Γ.w (d := 83) 19 rfl))) ?_
      refine .gu rfl rfl rfl rfl (fun β E W Γ => ev_faR1 (Γ.s rfl)) ?_
      refine .gu rfl rfl rfl rfl (fun β E W Γ => ev_ldR1 (Γ.k 21 rfl) (b6x.far Γ.A List.not_mem_nil) (Γ.F (_, _) mb2) rfl) ?_
      refine .gu rfl rfl rfl rfl (fun β E W Γ => ev_faR1 (Γ.s rfl)) ?_
      refine .gu rfl rfl rfl rfl (fun β E W Γ => ev_ldR1 (Γ.k 23 rfl) (b7x.far Γ.A List.not_mem_nil) (Γ.F (_, _) mb3) rfl) ?_
      refine .gu rfl rfl rfl rfl (fun β E W Γ => ev_call2 (Γ.f _) run_rGcd (rGcd_want W _ _ x.natAbs y.natAbs (by omega) (by omega) (Γ.w (d := 86) 22 rfl) (Γ.w (d := 88) 24 rfl))) ?_
      refine .gu rfl rfl rfl rfl (fun β E W Γ => ev_call2 (Γ.f _) run_rCmp (rCmp_gives W _ _ (Nat.gcd x.natAbs y.natAbs) (Nat.gcd x.natAbs y.natAbs) 0 (cmp3_eq _) (by have := SGN.out; omega) (Γ.w (d := 84) 20 rfl) (Γ.w (d := 89) 25 rfl))) ?_
      refine .gu rfl rfl rfl rfl (fun β E W Γ => by
        have e1 : E (.tmp 90) = .int .i64 0 := (Γ.k 26 rfl)
        have hc := Γ.c
        exact Does.value (w' := W) (by go_simp) ⟨rfl, Below.refl _ _⟩) ?_
      refine .pl rfl (fun β E W Γ => ev_pick (Γ.k 16 rfl) (Γ.k 27 rfl)) ?_
      refine .pl rfl (fun β E W Γ => ev_assign _ (Γ.k 28 rfl)) ?_
      exact .nil
    intro β f25 W25 hf hS hN hA hP hlo hlt hap
    have HB := Lib.hid (HB.out.trans (hA.below (B := w.heap.size) (by intro b hb; simp [oldBlocks] at hb) HB.out.size))
    have X_b4 := Lib.hid (Says.keep b4x b4f b4l (hN (_, _) mb0) hA List.not_mem_nil)
    have X_b5 := Lib.hid (Says.keep b5x b5f b5l (hN (_, _) mb1) hA List.not_mem_nil)
    have X_b6 := Lib.hid (Says.keep b6x b6f b6l (hN (_, _) mb2) hA List.not_mem_nil)
    have X_b7 := Lib.hid (Says.keep b7x b7f b7l (hN (_, _) mb3) hA List.not_mem_nil)
    have X_b16 := Lib.hid (Says.keep b16x b16f b16l (hN (_, _) mb4) hA List.not_mem_nil)
    have X_b17 := Lib.hid (Says.keep b17x b17f b17l (hN (_, _) mb5) hA List.not_mem_nil)
    have X_b18 := Lib.hid (Says.keep b18x b18f b18l (hN (_, _) mb6) hA List.not_mem_nil)
    have X_b21 := Lib.hid (Says.keep b21x b21f b21l (hN (_, _) mb7) hA List.not_mem_nil)
    have X_b22 := Lib.hid (Says.keep b22x b22f b22l (hN (_, _) mb8) hA List.not_mem_nil)
    have X_b23 := Lib.hid (Says.keep b23x b23f b23l (hN (_, _) mb9) hA List.not_mem_nil)
    have p10_25 : f25 10 = .bool true := hf (29, 10) (by simp)
    simp only [fillSlots, p10_25, List.setIfInBounds_toArray, List.set_cons_succ, List.set_cons_zero]
    clear hf hS hN hA hP hlo hlt hap b4x b4m b4f b4l b5x b5m b5f b5l b6x b6m b6f b6l b7x b7m b7f b7l b16x b16m b16f b16l b17x b17m b17f b17l b18x b18m b18f b18l b21x b21m b21f b21l b22x b22m b22f b22l b23x b23m b23f b23l p10_25
    refine hK24.out _ _ ?_; clear hK24
    refine wp_ret ?_
    exact bodyPost_ret (v := .bool true) (by simp [results, Tryz.results4, go_sem]) rfl ⟨_, rfl, rfl, HB.out⟩
  · skip
    have HZ0 : Hid (decide (((z6 : Int)).natAbs ≠ 0) = true) := Lib.hid (by simp [hz0])
    have sxz : (ds (x * (z6 : Int)).natAbs).length ≤ 6 := by have h1 := ds_natAbs_mul x (z6 : Int); rw [Int.natAbs_natCast] at h1; omega
    have syz : (ds (y * (z6 : Int)).natAbs).length ≤ 6 := by have h1 := ds_natAbs_mul y (z6 : Int); rw [Int.natAbs_natCast] at h1; omega
    obtain ⟨U, V, hUV⟩ := bez_exists (x * (z6 : Int)) (y * (z6 : Int))
    have HUV := Lib.hid hUV
    obtain ⟨su, sv⟩ := bez_sizes6 hUV (by omega) (by omega)
    have SU : Hid ((ds U.natAbs).length ≤ 400) := Lib.hid (by omega)
    have SV : Hid ((ds V.natAbs).length ≤ 400) := Lib.hid (by omega)
    have sgn' : (ds (Nat.gcd (x * (z6 : Int)).natAbs (y * (z6 : Int)).natAbs)).length ≤ 12 := by
      have h1 := ds_mono (gcd_le_add (x * (z6 : Int)).natAbs (y * (z6 : Int)).natAbs)
      have h2 := ds_add (x * (z6 : Int)).natAbs (y * (z6 : Int)).natAbs
      omega
    have SGN : Hid ((ds (Nat.gcd (x * (z6 : Int)).natAbs (y * (z6 : Int)).natAbs)).length ≤ 400) := Lib.hid (by omega)
    have SG : Hid ((ds ((Nat.gcd (x * (z6 : Int)).natAbs (y * (z6 : Int)).natAbs : Nat) : Int).natAbs).length ≤ 400) := Lib.hid (by rw [Int.natAbs_natCast]; omega)
    have SZ6 : Hid ((ds ((z6 : Int)).natAbs).length ≤ 60) := Lib.hid (by rw [Int.natAbs_natCast]; omega)
    clear h1 h2 h3 hx hy hz hUV su sv sgn' hT hz0
    go_enter Tryz.func4, Tryz.ntmps4
    refine wp_seq_k ?_; intro K1 hK1; replace hK1 := Lib.hid hK1
    go_wp2
    have HB := Lib.hid (Below.refl w.heap.size w)
    refine hK1.out _ _ ?_; clear hK1; try clear K1
    refine wp_seq_k ?_; intro K2 hK2; replace hK2 := Lib.hid hK2
    refine region_tell (T := [0, 1, 2, 3, 4, 5, 6, 7, 8, 9, 10, 11, 12, 13]) (slots := [23, 24, 25, 26, 27, 22, 28, 29, 30, 31, 11, 12, 13, 14]) (tab := [.is (.slice p l c), .is (.slice q k d), .is (.bool f), .is (.bool g), .that (fourS (.int x) (.int y) (.rint x) (.rint y) rfl), .that (fourS (.int x) (.int y) (.rint x) (.rint y) rfl), .int x, .int y, .rint x, .rint y, .any, .any, .any, .any, .any, .any, .any, .any])
        (D := [⟨0, .int, some 10, 14, .int x, .agg #[.bool false, .int .u64 0, .slice none 0 0]⟩, ⟨0, .int, some 11, 15, .int y, .agg #[.bool false, .int .u64 0, .slice none 0 0]⟩, ⟨0, .rint, some 12, 16, .rint x, .agg #[.bool false, .slice none 0 0]⟩, ⟨0, .rint, some 13, 17, .rint y, .agg #[.bool false, .slice none 0 0]⟩]) (F := []) List.Pairwise.nil fn (ha (ha (ha (ha hn)))) ?_ ?_
    · refine .pl rfl (fun β E W Γ => ev_move _ (Γ.s rfl)) ?_
      refine .pl rfl (fun β E W Γ => ev_move _ (Γ.s rfl)) ?_
      refine .pl rfl (fun β E W Γ => ev_move _ (Γ.s rfl)) ?_
      refine .pl rfl (fun β E W Γ => ev_move _ (Γ.s rfl)) ?_
      refine .pl rfl (fun β E W Γ => ev_call4 (Γ.f _) run_two2 (by rw [(show _ = Value.slice p l c from (Γ.k (d := 23) 0 rfl)), (show _ = Value.slice q k d from (Γ.k (d := 24) 1 rfl)), (show _ = Value.bool f from (Γ.k (d := 25) 2 rfl)), (show _ = Value.bool g from (Γ.k (d := 26) 3 rfl))]; exact two2_want W _ _ xs ys f g x y HX.out HY.out ⟨_, _, _, rfl, H1.out.mono Γ.A.below0⟩ ⟨_, _, _, rfl, H2.out.mono Γ.A.below0⟩)) ?_
      refine .pl rfl (fun β E W Γ => ev_moveM (Γ.w 4 rfl)) ?_
      refine .pl rfl (fun β E W Γ => ev_ex40 (Γ.w 5 rfl)) ?_
      refine .pl rfl (fun β E W Γ => ev_ex41 (Γ.w 5 rfl)) ?_
      refine .pl rfl (fun β E W Γ => ev_ex42 (Γ.w 5 rfl)) ?_
      refine .pl rfl (fun β E W Γ => ev_ex43 (Γ.w 5 rfl)) ?_
      refine .al rfl mb0 (fun _ _ => ev_alI) ?_
      refine .al rfl mb1 (fun _ _ => ev_alI) ?_
      refine .al rfl mb2 (fun _ _ => ev_alR) ?_
      refine .al rfl mb3 (fun _ _ => ev_alR) ?_
      refine .st rfl mb0 (fun β E W Γ => ev_stI (Γ.q mb0 rfl) (Γ.b1 mb0) (Γ.b2 mb0) (Γ.w 6 rfl)) ?_
      refine .st rfl mb1 (fun β E W Γ => ev_stI (Γ.q mb1 rfl) (Γ.b1 mb1) (Γ.b2 mb1) (Γ.w 7 rfl)) ?_
      refine .st rfl mb2 (fun β E W Γ => ev_stR (Γ.q mb2 rfl) (Γ.b1 mb2) (Γ.b2 mb2) (Γ.w 8 rfl)) ?_
      refine .st rfl mb3 (fun β E W Γ => ev_stR (Γ.q mb3 rfl) (Γ.b1 mb3) (Γ.b2 mb3) (Γ.w 9 rfl)) ?_
      exact .nil
    intro β f3 W3 hf hS hN hA hP hlo hlt hap
    have HB0 := HB.out.size
    have HB := Lib.hid (HB.out.trans (hA.below (B := w.heap.size) (by intro b hb; simp [oldBlocks] at hb) HB.out.size))
    obtain ⟨b4, b4e⟩ : ∃ b, b = β 14 := ⟨_, rfl⟩
    have b4p : f3 11 = .pointer (some ⟨b4, 0, none⟩) := b4e ▸ hP _ mb0 (10, 11) (by simp) rfl
    have b4o : w.heap.size ≤ b4 := b4e ▸ hlo _ mb0 (by intro h; cases h)
    have X_b4 : Hid (Holds W3 b4 .int (.int x)) := Lib.hid (b4e ▸ hS _ mb0)
    obtain ⟨b5, b5e⟩ : ∃ b, b = β 15 := ⟨_, rfl⟩
    have b5p : f3 12 = .pointer (some ⟨b5, 0, none⟩) := b5e ▸ hP _ mb1 (11, 12) (by simp) rfl
    have b5o : w.heap.size ≤ b5 := b5e ▸ hlo _ mb1 (by intro h; cases h)
    have X_b5 : Hid (Holds W3 b5 .int (.int y)) := Lib.hid (b5e ▸ hS _ mb1)
    have b4b5q : b4 ≠ b5 := by rw [b4e, b5e]; exact hap _ mb0 _ mb1 (by show 14 ≠ 15; decide)
    obtain ⟨b6, b6e⟩ : ∃ b, b = β 16 := ⟨_, rfl⟩
    have b6p : f3 13 = .pointer (some ⟨b6, 0, none⟩) := b6e ▸ hP _ mb2 (12, 13) (by simp) rfl
    have b6o : w.heap.size ≤ b6 := b6e ▸ hlo _ mb2 (by intro h; cases h)
    have X_b6 : Hid (Holds W3 b6 .rint (.rint x)) := Lib.hid (b6e ▸ hS _ mb2)
    have b4b6q : b4 ≠ b6 := by rw [b4e, b6e]; exact hap _ mb0 _ mb2 (by show 14 ≠ 16; decide)
    have b5b6q : b5 ≠ b6 := by rw [b5e, b6e]; exact hap _ mb1 _ mb2 (by show 15 ≠ 16; decide)
    obtain ⟨b7, b7e⟩ : ∃ b, b = β 17 := ⟨_, rfl⟩
    have b7p : f3 14 = .pointer (some ⟨b7, 0, none⟩) := b7e ▸ hP _ mb3 (13, 14) (by simp) rfl
    have b7o : w.heap.size ≤ b7 := b7e ▸ hlo _ mb3 (by intro h; cases h)
    have X_b7 : Hid (Holds W3 b7 .rint (.rint y)) := Lib.hid (b7e ▸ hS _ mb3)
    have b4b7q : b4 ≠ b7 := by rw [b4e, b7e]; exact hap _ mb0 _ mb3 (by show 14 ≠ 17; decide)
    have b5b7q : b5 ≠ b7 := by rw [b5e, b7e]; exact hap _ mb1 _ mb3 (by show 15 ≠ 17; decide)
    have b6b7q : b6 ≠ b7 := by rw [b6e, b7e]; exact hap _ mb2 _ mb3 (by show 16 ≠ 17; decide)
    have NE : Hid (w.heap.size ≤ b4 ∧ b4 ≠ b5 ∧ w.heap.size ≤ b5 ∧ b4 ≠ b6 ∧ b5 ≠ b6 ∧ w.heap.size ≤ b6 ∧ b4 ≠ b7 ∧ b5 ≠ b7 ∧ b6 ≠ b7 ∧ w.heap.size ≤ b7) := Lib.hid (by omega)
    simp only [fillSlots, b4p, b5p, b6p, b7p, List.setIfInBounds_toArray, List.set_cons_succ, List.set_cons_zero]
    clear hf hS hN hA hP hlo hlt hap b4e b4o b5e b5o b6e b6o b7e b7o b4b5q b4b6q b4b7q b5b6q b5b7q b6b7q b4p b5p b6p b7p HB0
    refine hK2.out _ _ ?_; clear hK2
    refine wp_seq_k ?_; intro K8 hK8; replace hK8 := Lib.hid hK8
    refine wp_seq_k ?_; intro K9 hK9; replace hK9 := Lib.hid hK9
    obtain ⟨b4v, b4x, b4m, b4f, b4l⟩ := X_b4.out.op rfl
    obtain ⟨b5v, b5x, b5m, b5f, b5l⟩ := X_b5.out.op rfl
    obtain ⟨b6v, b6x, b6m, b6f, b6l⟩ := X_b6.out.op rfl
    obtain ⟨b7v, b7x, b7m, b7f, b7l⟩ := X_b7.out.op rfl
    clear X_b4 X_b5 X_b6 X_b7
    refine region_tell (T := [0, 1, 2, 3, 4]) (slots := [32, 33, 34, 35, 15]) (tab := [.is (.slice r m t), .that (rowS (zs.take 6)), .rnum z6, .rint (z6 : Int), .any, .any])
        (D := [⟨0, .rint, some 4, 5, .rint (z6 : Int), .agg #[.bool false, .slice none 0 0]⟩]) (F := [(b4v, .int x), (b5v, .int y), (b6v, .rint x), (b7v, .rint y)]) List.Pairwise.nil (fc b4m (fc b5m (fc b6m (fc b7m fn)))) (ha hn) ?_ ?_
    · refine .pl rfl (fun β E W Γ => ev_move _ (Γ.s rfl)) ?_
      refine .pl rfl (fun β E W Γ => ev_call2 (Γ.f _) run_Few (by rw [Γ.c, (show _ = Value.slice r m t from (Γ.k (d := 32) 0 rfl))]; exact few_want W _ zs 6 (by omega) ⟨_, _, _, rfl, (H3.out.mono HB.out).mono Γ.A.below0⟩)) ?_
      refine .pl rfl (fun β E W Γ => ev_call1 (Γ.f _) run_rFrom (rFrom_want W _ (zs.take 6) z6 HZ.out (by rw [List.length_take]; omega) (Γ.w (d := 33) 1 rfl))) ?_
      refine .pl rfl (fun β E W Γ => ev_call2 (Γ.f _) run_rI (by rw [Γ.c]; exact rI_gives W _ _ z6 (z6 : Int) rfl (Γ.w (d := 34) 2 rfl))) ?_
      refine .al rfl mb0 (fun _ _ => ev_alR) ?_
      refine .st rfl mb0 (fun β E W Γ => ev_stR (Γ.q mb0 rfl) (Γ.b1 mb0) (Γ.b2 mb0) (Γ.w 3 rfl)) ?_
      exact .nil
    intro β f10 W10 hf hS hN hA hP hlo hlt hap
    have HB0 := HB.out.size
    have HB := Lib.hid (HB.out.trans (hA.below (B := w.heap.size) (by intro b hb; simp [oldBlocks] at hb) HB.out.size))
    obtain ⟨b11, b11e⟩ : ∃ b, b = β 5 := ⟨_, rfl⟩
    have b11p : f10 15 = .pointer (some ⟨b11, 0, none⟩) := b11e ▸ hP _ mb0 (4, 15) (by simp) rfl
    have b11o : W3.heap.size ≤ b11 := b11e ▸ hlo _ mb0 (by intro h; cases h)
    have X_b11 : Hid (Holds W10 b11 .rint (.rint (z6 : Int))) := Lib.hid (b11e ▸ hS _ mb0)
    have NE : Hid (w.heap.size ≤ b4 ∧ b4 ≠ b5 ∧ w.heap.size ≤ b5 ∧ b4 ≠ b6 ∧ b5 ≠ b6 ∧ w.heap.size ≤ b6 ∧ b4 ≠ b7 ∧ b5 ≠ b7 ∧ b6 ≠ b7 ∧ w.heap.size ≤ b7 ∧ b4 < b11 ∧ b5 < b11 ∧ b6 < b11 ∧ b7 < b11 ∧ w.heap.size ≤ b11) := Lib.hid (by have h := NE.out; omega)
    have X_b4 := Lib.hid (Says.keep b4x b4f b4l (hN (_, _) mb0) hA List.not_mem_nil)
    have X_b5 := Lib.hid (Says.keep b5x b5f b5l (hN (_, _) mb1) hA List.not_mem_nil)
    have X_b6 := Lib.hid (Says.keep b6x b6f b6l (hN (_, _) mb2) hA List.not_mem_nil)
    have X_b7 := Lib.hid (Says.keep b7x b7f b7l (hN (_, _) mb3) hA List.not_mem_nil)
    simp only [fillSlots, b11p, List.setIfInBounds_toArray, List.set_cons_succ, List.set_cons_zero]
    clear hf hS hN hA hP hlo hlt hap b4x b4m b4f b4l b5x b5m b5f b5l b6x b6m b6f b6l b7x b7m b7f b7l b11e b11o b11p HB0
    refine hK9.out _ _ ?_; clear hK9
    refine wp_seq_k ?_; intro K12 hK12; replace hK12 := Lib.hid hK12
    obtain ⟨b4v, b4x, b4m, b4f, b4l⟩ := X_b4.out.op rfl
    obtain ⟨b5v, b5x, b5m, b5f, b5l⟩ := X_b5.out.op rfl
    obtain ⟨b6v, b6x, b6m, b6f, b6l⟩ := X_b6.out.op rfl
    obtain ⟨b7v, b7x, b7m, b7f, b7l⟩ := X_b7.out.op rfl
    obtain ⟨b11v, b11x, b11m, b11f, b11l⟩ := X_b11.out.op rfl
    clear X_b4 X_b5 X_b6 X_b7 X_b11
    refine region_tell (T := [0, 1, 2, 3]) (slots := [36, 37, 38, 39]) (tab := [.is (.pointer (some ⟨b11, 1, none⟩)), .rnum ((z6 : Int).natAbs), .that (lenS ((z6 : Int).natAbs)), .is (.bool true)])
        (D := []) (F := [(b4v, .int x), (b5v, .int y), (b6v, .rint x), (b7v, .rint y), (b11v, .rint (z6 : Int))]) List.Pairwise.nil (fc b4m (fc b5m (fc b6m (fc b7m (fc b11m fn))))) hn ?_ ?_
    · refine .pl rfl (fun β E W Γ => ev_faR1 (Γ.s rfl)) ?_
      refine .pl rfl (fun β E W Γ => ev_ldR1 (Γ.k 0 rfl) (b11x.far Γ.A List.not_mem_nil) (Γ.F (_, _) mb4) rfl) ?_
      refine .pl rfl (fun β E W Γ => ev_len (Γ.w 1 rfl)) ?_
      refine .pl rfl (fun β E W Γ => ev_lenGtr (Γ.w 2 rfl) HZ0.out Γ.c) ?_
      exact .nil
    intro β f13 W13 hf hS hN hA hP hlo hlt hap
    have HB := Lib.hid (HB.out.trans (hA.below (B := w.heap.size) (by intro b hb; simp [oldBlocks] at hb) HB.out.size))
    have X_b4 := Lib.hid (Says.keep b4x b4f b4l (hN (_, _) mb0) hA List.not_mem_nil)
    have X_b5 := Lib.hid (Says.keep b5x b5f b5l (hN (_, _) mb1) hA List.not_mem_nil)
    have X_b6 := Lib.hid (Says.keep b6x b6f b6l (hN (_, _) mb2) hA List.not_mem_nil)
    have X_b7 := Lib.hid (Says.keep b7x b7f b7l (hN (_, _) mb3) hA List.not_mem_nil)
    have X_b11 := Lib.hid (Says.keep b11x b11f b11l (hN (_, _) mb4) hA List.not_mem_nil)
    have p39_13 : f13 39 = .bool true := hf (3, 39) (by simp)
    simp only [fillSlots, p39_13, List.setIfInBounds_toArray, List.set_cons_succ, List.set_cons_zero]
    clear hf hS hN hA hP hlo hlt hap b4x b4m b4f b4l b5x b5m b5f b5l b6x b6m b6f b6l b7x b7m b7f b7l b11x b11m b11f b11l p39_13
    refine hK12.out _ _ ?_; clear hK12
    refine wp_cond_true rfl ?_
    refine wp_seq_k ?_; intro K14 hK14; replace hK14 := Lib.hid hK14
    obtain ⟨b4v, b4x, b4m, b4f, b4l⟩ := X_b4.out.op rfl
    obtain ⟨b5v, b5x, b5m, b5f, b5l⟩ := X_b5.out.op rfl
    obtain ⟨b6v, b6x, b6m, b6f, b6l⟩ := X_b6.out.op rfl
    obtain ⟨b7v, b7x, b7m, b7f, b7l⟩ := X_b7.out.op rfl
    obtain ⟨b11v, b11x, b11m, b11f, b11l⟩ := X_b11.out.op rfl
    clear X_b4 X_b5 X_b6 X_b7 X_b11
    have b4n : b4 ∉ [b6] := by have h := NE.out; simp; omega
    have b5n : b5 ∉ [b6] := by have h := NE.out; simp; omega
    have b7n : b7 ∉ [b6] := by have h := NE.out; simp; omega
    have b11n : b11 ∉ [b6] := by have h := NE.out; simp; omega
    refine region_tell (T := [0, 1, 2]) (slots := [40, 41, 42]) (tab := [.rint x, .rint (z6 : Int), .rint (x * (z6 : Int)), .any])
        (D := [⟨b6, .rint, none, 3, .rint (x * (z6 : Int)), b6v⟩]) (F := [(b4v, .int x), (b5v, .int y), (b6v, .rint x), (b7v, .rint y), (b11v, .rint (z6 : Int))]) (List.pairwise_singleton _ _) (fc b4m (fc b5m (fc b6m (fc b7m (fc b11m fn))))) (ho b6x b6f b6l hn) ?_ ?_
    · refine .pl rfl (fun β E W Γ => ev_ldR (Γ.s rfl) (Γ.b1 mb0) (Γ.F (_, _) mb2)) ?_
      refine .pl rfl (fun β E W Γ => ev_ldR (Γ.s rfl) (b11x.far Γ.A b11n) (Γ.F (_, _) mb4)) ?_
      refine .pl rfl (fun β E W Γ => ev_call2 (Γ.f _) run_rIMul (rIMul_want W _ _ x (z6 : Int) (by omega) SZ6.out (Γ.w (d := 40) 0 rfl) (Γ.w (d := 41) 1 rfl))) ?_
      refine .st rfl mb0 (fun β E W Γ => ev_stR (Γ.s rfl) (Γ.b1 mb0) (Γ.b2 mb0) (Γ.w 2 rfl)) ?_
      exact .nil
    intro β f15 W15 hf hS hN hA hP hlo hlt hap
    have HB := Lib.hid (HB.out.trans (hA.below (B := w.heap.size) (by have h := NE.out; simp [oldBlocks]; omega) HB.out.size))
    have X_b6 : Hid (Holds W15 b6 .rint (.rint (x * (z6 : Int)))) := Lib.hid (hS _ mb0)
    have X_b4 := Lib.hid (Says.keep b4x b4f b4l (hN (_, _) mb0) hA b4n)
    have X_b5 := Lib.hid (Says.keep b5x b5f b5l (hN (_, _) mb1) hA b5n)
    have X_b7 := Lib.hid (Says.keep b7x b7f b7l (hN (_, _) mb3) hA b7n)
    have X_b11 := Lib.hid (Says.keep b11x b11f b11l (hN (_, _) mb4) hA b11n)
    simp only [fillSlots, List.setIfInBounds_toArray, List.set_cons_succ, List.set_cons_zero]
    clear hf hS hN hA hP hlo hlt hap b4x b4m b4f b4l b4n b5x b5m b5f b5l b5n b6x b6m b6f b6l b7x b7m b7f b7l b7n b11x b11m b11f b11l b11n
    refine hK14.out _ _ ?_; clear hK14
    refine wp_seq_k ?_; intro K16 hK16; replace hK16 := Lib.hid hK16
    obtain ⟨b4v, b4x, b4m, b4f, b4l⟩ := X_b4.out.op rfl
    obtain ⟨b5v, b5x, b5m, b5f, b5l⟩ := X_b5.out.op rfl
    obtain ⟨b6v, b6x, b6m, b6f, b6l⟩ := X_b6.out.op rfl
    obtain ⟨b7v, b7x, b7m, b7f, b7l⟩ := X_b7.out.op rfl
    obtain ⟨b11v, b11x, b11m, b11f, b11l⟩ := X_b11.out.op rfl
    clear X_b4 X_b5 X_b6 X_b7 X_b11
    have b4n : b4 ∉ [b7] := by have h := NE.out; simp; omega
    have b5n : b5 ∉ [b7] := by have h := NE.out; simp; omega
    have b6n : b6 ∉ [b7] := by have h := NE.out; simp; omega
    have b11n : b11 ∉ [b7] := by have h := NE.out; simp; omega
    refine region_tell (T := [0, 1, 2]) (slots := [43, 44, 45]) (tab := [.rint y, .rint (z6 : Int), .rint (y * (z6 : Int)), .any])
        (D := [⟨b7, .rint, none, 3, .rint (y * (z6 : Int)), b7v⟩]) (F := [(b4v, .int x), (b5v, .int y), (b6v, .rint (x * (z6 : Int))), (b7v, .rint y), (b11v, .rint (z6 : Int))]) (List.pairwise_singleton _ _) (fc b4m (fc b5m (fc b6m (fc b7m (fc b11m fn))))) (ho b7x b7f b7l hn) ?_ ?_
    · refine .pl rfl (fun β E W Γ => ev_ldR (Γ.s rfl) (Γ.b1 mb0) (Γ.F (_, _) mb3)) ?_
      refine .pl rfl (fun β E W Γ => ev_ldR (Γ.s rfl) (b11x.far Γ.A b11n) (Γ.F (_, _) mb4)) ?_
      refine .pl rfl (fun β E W Γ => ev_call2 (Γ.f _) run_rIMul (rIMul_want W _ _ y (z6 : Int) (by omega) SZ6.out (Γ.w (d := 43) 0 rfl) (Γ.w (d := 44) 1 rfl))) ?_
      refine .st rfl mb0 (fun β E W Γ => ev_stR (Γ.s rfl) (Γ.b1 mb0) (Γ.b2 mb0) (Γ.w 2 rfl)) ?_
      exact .nil
    intro β f17 W17 hf hS hN hA hP hlo hlt hap
    have HB := Lib.hid (HB.out.trans (hA.below (B := w.heap.size) (by have h := NE.out; simp [oldBlocks]; omega) HB.out.size))
    have X_b7 : Hid (Holds W17 b7 .rint (.rint (y * (z6 : Int)))) := Lib.hid (hS _ mb0)
    have X_b4 := Lib.hid (Says.keep b4x b4f b4l (hN (_, _) mb0) hA b4n)
    have X_b5 := Lib.hid (Says.keep b5x b5f b5l (hN (_, _) mb1) hA b5n)
    have X_b6 := Lib.hid (Says.keep b6x b6f b6l (hN (_, _) mb2) hA b6n)
    have X_b11 := Lib.hid (Says.keep b11x b11f b11l (hN (_, _) mb4) hA b11n)
    simp only [fillSlots, List.setIfInBounds_toArray, List.set_cons_succ, List.set_cons_zero]
    clear hf hS hN hA hP hlo hlt hap b4x b4m b4f b4l b4n b5x b5m b5f b5l b5n b6x b6m b6f b6l b6n b7x b7m b7f b7l b11x b11m b11f b11l b11n
    refine hK16.out _ _ ?_; clear hK16
    refine wp_seq_k ?_; intro K18 hK18; replace hK18 := Lib.hid hK18
    clear X_b11
    obtain ⟨b4v, b4x, b4m, b4f, b4l⟩ := X_b4.out.op rfl
    obtain ⟨b5v, b5x, b5m, b5f, b5l⟩ := X_b5.out.op rfl
    obtain ⟨b6v, b6x, b6m, b6f, b6l⟩ := X_b6.out.op rfl
    obtain ⟨b7v, b7x, b7m, b7f, b7l⟩ := X_b7.out.op rfl
    clear X_b4 X_b5 X_b6 X_b7
    have b5n : b5 ∉ [b4] := by have h := NE.out; simp; omega
    have b6n : b6 ∉ [b4] := by have h := NE.out; simp; omega
    have b7n : b7 ∉ [b4] := by have h := NE.out; simp; omega
    refine region_tell (T := [0, 1]) (slots := [46, 47]) (tab := [.rint (x * (z6 : Int)), .int (x * (z6 : Int)), .any])
        (D := [⟨b4, .int, none, 2, .int (x * (z6 : Int)), b4v⟩]) (F := [(b4v, .int x), (b5v, .int y), (b6v, .rint (x * (z6 : Int))), (b7v, .rint (y * (z6 : Int)))]) (List.pairwise_singleton _ _) (fc b4m (fc b5m (fc b6m (fc b7m fn)))) (ho b4x b4f b4l hn) ?_ ?_
    · refine .pl rfl (fun β E W Γ => ev_ldR (Γ.s rfl) (b6x.far Γ.A b6n) (Γ.F (_, _) mb2)) ?_
      refine .pl rfl (fun β E W Γ => ev_call1 (Γ.f _) run_hInt (hInt_want W _ (x * (z6 : Int)) (by omega) (Γ.w (d := 46) 0 rfl))) ?_
      refine .st rfl mb0 (fun β E W Γ => ev_stI (Γ.s rfl) (Γ.b1 mb0) (Γ.b2 mb0) (Γ.w 1 rfl)) ?_
      exact .nil
    intro β f19 W19 hf hS hN hA hP hlo hlt hap
    have HB := Lib.hid (HB.out.trans (hA.below (B := w.heap.size) (by have h := NE.out; simp [oldBlocks]; omega) HB.out.size))
    have X_b4 : Hid (Holds W19 b4 .int (.int (x * (z6 : Int)))) := Lib.hid (hS _ mb0)
    have X_b5 := Lib.hid (Says.keep b5x b5f b5l (hN (_, _) mb1) hA b5n)
    have X_b6 := Lib.hid (Says.keep b6x b6f b6l (hN (_, _) mb2) hA b6n)
    have X_b7 := Lib.hid (Says.keep b7x b7f b7l (hN (_, _) mb3) hA b7n)
    simp only [fillSlots, List.setIfInBounds_toArray, List.set_cons_succ, List.set_cons_zero]
    clear hf hS hN hA hP hlo hlt hap b4x b4m b4f b4l b5x b5m b5f b5l b5n b6x b6m b6f b6l b6n b7x b7m b7f b7l b7n
    refine hK18.out _ _ ?_; clear hK18
    obtain ⟨b4v, b4x, b4m, b4f, b4l⟩ := X_b4.out.op rfl
    obtain ⟨b5v, b5x, b5m, b5f, b5l⟩ := X_b5.out.op rfl
    obtain ⟨b6v, b6x, b6m, b6f, b6l⟩ := X_b6.out.op rfl
    obtain ⟨b7v, b7x, b7m, b7f, b7l⟩ := X_b7.out.op rfl
    clear X_b4 X_b5 X_b6 X_b7
    have b4n : b4 ∉ [b5] := by have h := NE.out; simp; omega
    have b6n : b6 ∉ [b5] := by have h := NE.out; simp; omega
    have b7n : b7 ∉ [b5] := by have h := NE.out; simp; omega
    refine region_tell (T := [0, 1]) (slots := [48, 49]) (tab := [.rint (y * (z6 : Int)), .int (y * (z6 : Int)), .any])
        (D := [⟨b5, .int, none, 2, .int (y * (z6 : Int)), b5v⟩]) (F := [(b4v, .int (x * (z6 : Int))), (b5v, .int y), (b6v, .rint (x * (z6 : Int))), (b7v, .rint (y * (z6 : Int)))]) (List.pairwise_singleton _ _) (fc b4m (fc b5m (fc b6m (fc b7m fn)))) (ho b5x b5f b5l hn) ?_ ?_
    · refine .pl rfl (fun β E W Γ => ev_ldR (Γ.s rfl) (b7x.far Γ.A b7n) (Γ.F (_, _) mb3)) ?_
      refine .pl rfl (fun β E W Γ => ev_call1 (Γ.f _) run_hInt (hInt_want W _ (y * (z6 : Int)) (by omega) (Γ.w (d := 48) 0 rfl))) ?_
      refine .st rfl mb0 (fun β E W Γ => ev_stI (Γ.s rfl) (Γ.b1 mb0) (Γ.b2 mb0) (Γ.w 1 rfl)) ?_
      exact .nil
    intro β f20 W20 hf hS hN hA hP hlo hlt hap
    have HB := Lib.hid (HB.out.trans (hA.below (B := w.heap.size) (by have h := NE.out; simp [oldBlocks]; omega) HB.out.size))
    have X_b5 : Hid (Holds W20 b5 .int (.int (y * (z6 : Int)))) := Lib.hid (hS _ mb0)
    have X_b4 := Lib.hid (Says.keep b4x b4f b4l (hN (_, _) mb0) hA b4n)
    have X_b6 := Lib.hid (Says.keep b6x b6f b6l (hN (_, _) mb2) hA b6n)
    have X_b7 := Lib.hid (Says.keep b7x b7f b7l (hN (_, _) mb3) hA b7n)
    simp only [fillSlots, List.setIfInBounds_toArray, List.set_cons_succ, List.set_cons_zero]
    clear hf hS hN hA hP hlo hlt hap b4x b4m b4f b4l b4n b5x b5m b5f b5l b6x b6m b6f b6l b6n b7x b7m b7f b7l b7n
    refine hK8.out _ _ ?_; clear hK8
    refine wp_seq_k ?_; intro K21 hK21; replace hK21 := Lib.hid hK21
    obtain ⟨b4v, b4x, b4m, b4f, b4l⟩ := X_b4.out.op rfl
    obtain ⟨b5v, b5x, b5m, b5f, b5l⟩ := X_b5.out.op rfl
    obtain ⟨b6v, b6x, b6m, b6f, b6l⟩ := X_b6.out.op rfl
    obtain ⟨b7v, b7x, b7m, b7f, b7l⟩ := X_b7.out.op rfl
    clear X_b4 X_b5 X_b6 X_b7
    refine region_tell (T := [0, 1, 2, 3, 4, 5, 6, 7, 8, 9]) (slots := [51, 52, 53, 50, 54, 55, 56, 16, 17, 18]) (tab := [.int (x * (z6 : Int)), .int (y * (z6 : Int)), .three (.int ((Nat.gcd (x * (z6 : Int)).natAbs (y * (z6 : Int)).natAbs : Nat) : Int)) (.int U) (.int V), .three (.int ((Nat.gcd (x * (z6 : Int)).natAbs (y * (z6 : Int)).natAbs : Nat) : Int)) (.int U) (.int V), .int ((Nat.gcd (x * (z6 : Int)).natAbs (y * (z6 : Int)).natAbs : Nat) : Int), .int U, .int V, .any, .any, .any, .any, .any, .any])
        (D := [⟨0, .int, some 7, 10, .int ((Nat.gcd (x * (z6 : Int)).natAbs (y * (z6 : Int)).natAbs : Nat) : Int), .agg #[.bool false, .int .u64 0, .slice none 0 0]⟩, ⟨0, .int, some 8, 11, .int U, .agg #[.bool false, .int .u64 0, .slice none 0 0]⟩, ⟨0, .int, some 9, 12, .int V, .agg #[.bool false, .int .u64 0, .slice none 0 0]⟩]) (F := [(b4v, .int (x * (z6 : Int))), (b5v, .int (y * (z6 : Int))), (b6v, .rint (x * (z6 : Int))), (b7v, .rint (y * (z6 : Int)))]) List.Pairwise.nil (fc b4m (fc b5m (fc b6m (fc b7m fn)))) (ha (ha (ha hn))) ?_ ?_
    · refine .pl rfl (fun β E W Γ => ev_ldI (Γ.s rfl) (b4x.far Γ.A List.not_mem_nil) (Γ.F (_, _) mb0)) ?_
      refine .pl rfl (fun β E W Γ => ev_ldI (Γ.s rfl) (b5x.far Γ.A List.not_mem_nil) (Γ.F (_, _) mb1)) ?_
      refine .pl rfl (fun β E W Γ => ev_call2 (Γ.f _) run_iBezout (iBez_want W _ _ (x * (z6 : Int)) (y * (z6 : Int)) U V HUV.out (by omega) (by omega) (Γ.w (d := 51) 0 rfl) (Γ.w (d := 52) 1 rfl))) ?_
      refine .pl rfl (fun β E W Γ => ev_moveM (Γ.w 2 rfl)) ?_
      refine .pl rfl (fun β E W Γ => ev_ex30 (Γ.w 3 rfl)) ?_
      refine .pl rfl (fun β E W Γ => ev_ex31 (Γ.w 3 rfl)) ?_
      refine .pl rfl (fun β E W Γ => ev_ex32 (Γ.w 3 rfl)) ?_
      refine .al rfl mb0 (fun _ _ => ev_alI) ?_
      refine .al rfl mb1 (fun _ _ => ev_alI) ?_
      refine .al rfl mb2 (fun _ _ => ev_alI) ?_
      refine .st rfl mb0 (fun β E W Γ => ev_stI (Γ.q mb0 rfl) (Γ.b1 mb0) (Γ.b2 mb0) (Γ.w 4 rfl)) ?_
      refine .st rfl mb1 (fun β E W Γ => ev_stI (Γ.q mb1 rfl) (Γ.b1 mb1) (Γ.b2 mb1) (Γ.w 5 rfl)) ?_
      refine .st rfl mb2 (fun β E W Γ => ev_stI (Γ.q mb2 rfl) (Γ.b1 mb2) (Γ.b2 mb2) (Γ.w 6 rfl)) ?_
      exact .nil
    intro β f22 W22 hf hS hN hA hP hlo hlt hap
    have HB0 := HB.out.size
    have HB := Lib.hid (HB.out.trans (hA.below (B := w.heap.size) (by intro b hb; simp [oldBlocks] at hb) HB.out.size))
    obtain ⟨b23, b23e⟩ : ∃ b, b = β 10 := ⟨_, rfl⟩
    have b23p : f22 16 = .pointer (some ⟨b23, 0, none⟩) := b23e ▸ hP _ mb0 (7, 16) (by simp) rfl
    have b23o : W20.heap.size ≤ b23 := b23e ▸ hlo _ mb0 (by intro h; cases h)
    have X_b23 : Hid (Holds W22 b23 .int (.int ((Nat.gcd (x * (z6 : Int)).natAbs (y * (z6 : Int)).natAbs : Nat) : Int))) := Lib.hid (b23e ▸ hS _ mb0)
    obtain ⟨b24, b24e⟩ : ∃ b, b = β 11 := ⟨_, rfl⟩
    have b24p : f22 17 = .pointer (some ⟨b24, 0, none⟩) := b24e ▸ hP _ mb1 (8, 17) (by simp) rfl
    have b24o : W20.heap.size ≤ b24 := b24e ▸ hlo _ mb1 (by intro h; cases h)
    have X_b24 : Hid (Holds W22 b24 .int (.int U)) := Lib.hid (b24e ▸ hS _ mb1)
    have b23b24q : b23 ≠ b24 := by rw [b23e, b24e]; exact hap _ mb0 _ mb1 (by show 10 ≠ 11; decide)
    obtain ⟨b25, b25e⟩ : ∃ b, b = β 12 := ⟨_, rfl⟩
    have b25p : f22 18 = .pointer (some ⟨b25, 0, none⟩) := b25e ▸ hP _ mb2 (9, 18) (by simp) rfl
    have b25o : W20.heap.size ≤ b25 := b25e ▸ hlo _ mb2 (by intro h; cases h)
    have X_b25 : Hid (Holds W22 b25 .int (.int V)) := Lib.hid (b25e ▸ hS _ mb2)
    have b23b25q : b23 ≠ b25 := by rw [b23e, b25e]; exact hap _ mb0 _ mb2 (by show 10 ≠ 12; decide)
    have b24b25q : b24 ≠ b25 := by rw [b24e, b25e]; exact hap _ mb1 _ mb2 (by show 11 ≠ 12; decide)
    have NE : Hid (w.heap.size ≤ b4 ∧ b4 ≠ b5 ∧ w.heap.size ≤ b5 ∧ b4 ≠ b6 ∧ b5 ≠ b6 ∧ w.heap.size ≤ b6 ∧ b4 ≠ b7 ∧ b5 ≠ b7 ∧ b6 ≠ b7 ∧ w.heap.size ≤ b7 ∧ b4 < b11 ∧ b5 < b11 ∧ b6 < b11 ∧ b7 < b11 ∧ w.heap.size ≤ b11 ∧ b4 < b23 ∧ b5 < b23 ∧ b6 < b23 ∧ b7 < b23 ∧ w.heap.size ≤ b23 ∧ b23 ≠ b24 ∧ b4 < b24 ∧ b5 < b24 ∧ b6 < b24 ∧ b7 < b24 ∧ w.heap.size ≤ b24 ∧ b23 ≠ b25 ∧ b24 ≠ b25 ∧ b4 < b25 ∧ b5 < b25 ∧ b6 < b25 ∧ b7 < b25 ∧ w.heap.size ≤ b25) := Lib.hid (by have h := NE.out; omega)
    have X_b4 := Lib.hid (Says.keep b4x b4f b4l (hN (_, _) mb0) hA List.not_mem_nil)
    have X_b5 := Lib.hid (Says.keep b5x b5f b5l (hN (_, _) mb1) hA List.not_mem_nil)
    have X_b6 := Lib.hid (Says.keep b6x b6f b6l (hN (_, _) mb2) hA List.not_mem_nil)
    have X_b7 := Lib.hid (Says.keep b7x b7f b7l (hN (_, _) mb3) hA List.not_mem_nil)
    simp only [fillSlots, b23p, b24p, b25p, List.setIfInBounds_toArray, List.set_cons_succ, List.set_cons_zero]
    clear hf hS hN hA hP hlo hlt hap b4x b4m b4f b4l b5x b5m b5f b5l b6x b6m b6f b6l b7x b7m b7f b7l b23e b23o b24e b24o b25e b25o b23b24q b23b25q b24b25q b23p b24p b25p HB0
    refine hK21.out _ _ ?_; clear hK21
    refine wp_seq_k ?_; intro K26 hK26; replace hK26 := Lib.hid hK26
    obtain ⟨b4v, b4x, b4m, b4f, b4l⟩ := X_b4.out.op rfl
    obtain ⟨b5v, b5x, b5m, b5f, b5l⟩ := X_b5.out.op rfl
    obtain ⟨b6v, b6x, b6m, b6f, b6l⟩ := X_b6.out.op rfl
    obtain ⟨b7v, b7x, b7m, b7f, b7l⟩ := X_b7.out.op rfl
    obtain ⟨b23v, b23x, b23m, b23f, b23l⟩ := X_b23.out.op rfl
    obtain ⟨b24v, b24x, b24m, b24f, b24l⟩ := X_b24.out.op rfl
    obtain ⟨b25v, b25x, b25m, b25f, b25l⟩ := X_b25.out.op rfl
    clear X_b4 X_b5 X_b6 X_b7 X_b23 X_b24 X_b25
    refine region_tell (T := [0, 1, 2, 3, 4, 5, 6, 7, 8, 9]) (slots := [58, 59, 60, 57, 61, 62, 63, 19, 20, 21]) (tab := [.rint (x * (z6 : Int)), .rint (y * (z6 : Int)), .three (.rint ((Nat.gcd (x * (z6 : Int)).natAbs (y * (z6 : Int)).natAbs : Nat) : Int)) (.rint U) (.rint V), .three (.rint ((Nat.gcd (x * (z6 : Int)).natAbs (y * (z6 : Int)).natAbs : Nat) : Int)) (.rint U) (.rint V), .rint ((Nat.gcd (x * (z6 : Int)).natAbs (y * (z6 : Int)).natAbs : Nat) : Int), .rint U, .rint V, .any, .any, .any, .any, .any, .any])
        (D := [⟨0, .rint, some 7, 10, .rint ((Nat.gcd (x * (z6 : Int)).natAbs (y * (z6 : Int)).natAbs : Nat) : Int), .agg #[.bool false, .slice none 0 0]⟩, ⟨0, .rint, some 8, 11, .rint U, .agg #[.bool false, .slice none 0 0]⟩, ⟨0, .rint, some 9, 12, .rint V, .agg #[.bool false, .slice none 0 0]⟩]) (F := [(b4v, .int (x * (z6 : Int))), (b5v, .int (y * (z6 : Int))), (b6v, .rint (x * (z6 : Int))), (b7v, .rint (y * (z6 : Int))), (b23v, .int ((Nat.gcd (x * (z6 : Int)).natAbs (y * (z6 : Int)).natAbs : Nat) : Int)), (b24v, .int U), (b25v, .int V)]) List.Pairwise.nil (fc b4m (fc b5m (fc b6m (fc b7m (fc b23m (fc b24m (fc b25m fn))))))) (ha (ha (ha hn))) ?_ ?_
    · refine .pl rfl (fun β E W Γ => ev_ldR (Γ.s rfl) (b6x.far Γ.A List.not_mem_nil) (Γ.F (_, _) mb2)) ?_
      refine .pl rfl (fun β E W Γ => ev_ldR (Γ.s rfl) (b7x.far Γ.A List.not_mem_nil) (Γ.F (_, _) mb3)) ?_
      refine .pl rfl (fun β E W Γ => ev_call2 (Γ.f _) run_rBezout (rBez_want W _ _ (x * (z6 : Int)) (y * (z6 : Int)) U V HUV.out (by omega) (by omega) (Γ.w (d := 58) 0 rfl) (Γ.w (d := 59) 1 rfl))) ?_
      refine .pl rfl (fun β E W Γ => ev_moveM (Γ.w 2 rfl)) ?_
      refine .pl rfl (fun β E W Γ => ev_ex30 (Γ.w 3 rfl)) ?_
      refine .pl rfl (fun β E W Γ => ev_ex31 (Γ.w 3 rfl)) ?_
      refine .pl rfl (fun β E W Γ => ev_ex32 (Γ.w 3 rfl)) ?_
      refine .al rfl mb0 (fun _ _ => ev_alR) ?_
      refine .al rfl mb1 (fun _ _ => ev_alR) ?_
      refine .al rfl mb2 (fun _ _ => ev_alR) ?_
      refine .st rfl mb0 (fun β E W Γ => ev_stR (Γ.q mb0 rfl) (Γ.b1 mb0) (Γ.b2 mb0) (Γ.w 4 rfl)) ?_
      refine .st rfl mb1 (fun β E W Γ => ev_stR (Γ.q mb1 rfl) (Γ.b1 mb1) (Γ.b2 mb1) (Γ.w 5 rfl)) ?_
      refine .st rfl mb2 (fun β E W Γ => ev_stR (Γ.q mb2 rfl) (Γ.b1 mb2) (Γ.b2 mb2) (Γ.w 6 rfl)) ?_
      exact .nil
    intro β f27 W27 hf hS hN hA hP hlo hlt hap
    have HB0 := HB.out.size
    have HB := Lib.hid (HB.out.trans (hA.below (B := w.heap.size) (by intro b hb; simp [oldBlocks] at hb) HB.out.size))
    obtain ⟨b28, b28e⟩ : ∃ b, b = β 10 := ⟨_, rfl⟩
    have b28p : f27 19 = .pointer (some ⟨b28, 0, none⟩) := b28e ▸ hP _ mb0 (7, 19) (by simp) rfl
    have b28o : W22.heap.size ≤ b28 := b28e ▸ hlo _ mb0 (by intro h; cases h)
    have X_b28 : Hid (Holds W27 b28 .rint (.rint ((Nat.gcd (x * (z6 : Int)).natAbs (y * (z6 : Int)).natAbs : Nat) : Int))) := Lib.hid (b28e ▸ hS _ mb0)
    obtain ⟨b29, b29e⟩ : ∃ b, b = β 11 := ⟨_, rfl⟩
    have b29p : f27 20 = .pointer (some ⟨b29, 0, none⟩) := b29e ▸ hP _ mb1 (8, 20) (by simp) rfl
    have b29o : W22.heap.size ≤ b29 := b29e ▸ hlo _ mb1 (by intro h; cases h)
    have X_b29 : Hid (Holds W27 b29 .rint (.rint U)) := Lib.hid (b29e ▸ hS _ mb1)
    have b28b29q : b28 ≠ b29 := by rw [b28e, b29e]; exact hap _ mb0 _ mb1 (by show 10 ≠ 11; decide)
    obtain ⟨b30, b30e⟩ : ∃ b, b = β 12 := ⟨_, rfl⟩
    have b30p : f27 21 = .pointer (some ⟨b30, 0, none⟩) := b30e ▸ hP _ mb2 (9, 21) (by simp) rfl
    have b30o : W22.heap.size ≤ b30 := b30e ▸ hlo _ mb2 (by intro h; cases h)
    have X_b30 : Hid (Holds W27 b30 .rint (.rint V)) := Lib.hid (b30e ▸ hS _ mb2)
    have b28b30q : b28 ≠ b30 := by rw [b28e, b30e]; exact hap _ mb0 _ mb2 (by show 10 ≠ 12; decide)
    have b29b30q : b29 ≠ b30 := by rw [b29e, b30e]; exact hap _ mb1 _ mb2 (by show 11 ≠ 12; decide)
    have NE : Hid (w.heap.size ≤ b4 ∧ b4 ≠ b5 ∧ w.heap.size ≤ b5 ∧ b4 ≠ b6 ∧ b5 ≠ b6 ∧ w.heap.size ≤ b6 ∧ b4 ≠ b7 ∧ b5 ≠ b7 ∧ b6 ≠ b7 ∧ w.heap.size ≤ b7 ∧ b4 < b11 ∧ b5 < b11 ∧ b6 < b11 ∧ b7 < b11 ∧ w.heap.size ≤ b11 ∧ b4 < b23 ∧ b5 < b23 ∧ b6 < b23 ∧ b7 < b23 ∧ w.heap.size ≤ b23 ∧ b23 ≠ b24 ∧ b4 < b24 ∧ b5 < b24 ∧ b6 < b24 ∧ b7 < b24 ∧ w.heap.size ≤ b24 ∧ b23 ≠ b25 ∧ b24 ≠ b25 ∧ b4 < b25 ∧ b5 < b25 ∧ b6 < b25 ∧ b7 < b25 ∧ w.heap.size ≤ b25 ∧ b4 < b28 ∧ b5 < b28 ∧ b6 < b28 ∧ b7 < b28 ∧ b23 < b28 ∧ b24 < b28 ∧ b25 < b28 ∧ w.heap.size ≤ b28 ∧ b28 ≠ b29 ∧ b4 < b29 ∧ b5 < b29 ∧ b6 < b29 ∧ b7 < b29 ∧ b23 < b29 ∧ b24 < b29 ∧ b25 < b29 ∧ w.heap.size ≤ b29 ∧ b28 ≠ b30 ∧ b29 ≠ b30 ∧ b4 < b30 ∧ b5 < b30 ∧ b6 < b30 ∧ b7 < b30 ∧ b23 < b30 ∧ b24 < b30 ∧ b25 < b30 ∧ w.heap.size ≤ b30) := Lib.hid (by have h := NE.out; omega)
    have X_b4 := Lib.hid (Says.keep b4x b4f b4l (hN (_, _) mb0) hA List.not_mem_nil)
    have X_b5 := Lib.hid (Says.keep b5x b5f b5l (hN (_, _) mb1) hA List.not_mem_nil)
    have X_b6 := Lib.hid (Says.keep b6x b6f b6l (hN (_, _) mb2) hA List.not_mem_nil)
    have X_b7 := Lib.hid (Says.keep b7x b7f b7l (hN (_, _) mb3) hA List.not_mem_nil)
    have X_b23 := Lib.hid (Says.keep b23x b23f b23l (hN (_, _) mb4) hA List.not_mem_nil)
    have X_b24 := Lib.hid (Says.keep b24x b24f b24l (hN (_, _) mb5) hA List.not_mem_nil)
    have X_b25 := Lib.hid (Says.keep b25x b25f b25l (hN (_, _) mb6) hA List.not_mem_nil)
    simp only [fillSlots, b28p, b29p, b30p, List.setIfInBounds_toArray, List.set_cons_succ, List.set_cons_zero]
    clear hf hS hN hA hP hlo hlt hap b4x b4m b4f b4l b5x b5m b5f b5l b6x b6m b6f b6l b7x b7m b7f b7l b23x b23m b23f b23l b24x b24m b24f b24l b25x b25m b25f b25l b28e b28o b29e b29o b30e b30o b28b29q b28b30q b29b30q b28p b29p b30p HB0
    refine hK26.out _ _ ?_; clear hK26
    refine wp_seq_k ?_; intro K31 hK31; replace hK31 := Lib.hid hK31
    obtain ⟨b4v, b4x, b4m, b4f, b4l⟩ := X_b4.out.op rfl
    obtain ⟨b5v, b5x, b5m, b5f, b5l⟩ := X_b5.out.op rfl
    obtain ⟨b6v, b6x, b6m, b6f, b6l⟩ := X_b6.out.op rfl
    obtain ⟨b7v, b7x, b7m, b7f, b7l⟩ := X_b7.out.op rfl
    obtain ⟨b23v, b23x, b23m, b23f, b23l⟩ := X_b23.out.op rfl
    obtain ⟨b24v, b24x, b24m, b24f, b24l⟩ := X_b24.out.op rfl
    obtain ⟨b25v, b25x, b25m, b25f, b25l⟩ := X_b25.out.op rfl
    obtain ⟨b28v, b28x, b28m, b28f, b28l⟩ := X_b28.out.op rfl
    obtain ⟨b29v, b29x, b29m, b29f, b29l⟩ := X_b29.out.op rfl
    obtain ⟨b30v, b30x, b30m, b30f, b30l⟩ := X_b30.out.op rfl
    clear X_b4 X_b5 X_b6 X_b7 X_b23 X_b24 X_b25 X_b28 X_b29 X_b30
    refine region_tell (T := [0, 1, 2, 3, 4, 5, 6, 7, 8, 9, 10, 11, 12, 13, 14, 15, 16, 17, 18, 19, 20, 21, 22, 23, 24, 25, 26, 27, 28, 29]) (slots := [64, 65, 66, 67, 68, 69, 70, 71, 72, 73, 74, 75, 76, 77, 78, 79, 80, 81, 82, 83, 84, 85, 86, 87, 88, 89, 90, 91, 92, 10]) (tab := [.is (.bool true), .is (.bool true), .int ((Nat.gcd (x * (z6 : Int)).natAbs (y * (z6 : Int)).natAbs : Nat) : Int), .rint ((Nat.gcd (x * (z6 : Int)).natAbs (y * (z6 : Int)).natAbs : Nat) : Int), .is (.bool true), .is (.bool true), .is (.bool true), .int U, .rint U, .is (.bool true), .is (.bool true), .is (.bool true), .int V, .rint V, .is (.bool true), .is (.bool true), .is (.bool true), .int (x * (z6 : Int)), .int (y * (z6 : Int)), .num (Nat.gcd (x * (z6 : Int)).natAbs (y * (z6 : Int)).natAbs), .rnum (Nat.gcd (x * (z6 : Int)).natAbs (y * (z6 : Int)).natAbs), .is (.pointer (some ⟨b6, 1, none⟩)), .rnum ((x * (z6 : Int)).natAbs), .is (.pointer (some ⟨b7, 1, none⟩)), .rnum ((y * (z6 : Int)).natAbs), .rnum (Nat.gcd (x * (z6 : Int)).natAbs (y * (z6 : Int)).natAbs), .is (.int .i64 0), .is (.bool true), .is (.bool true), .is (.bool true)])
        (D := []) (F := [(b4v, .int (x * (z6 : Int))), (b5v, .int (y * (z6 : Int))), (b6v, .rint (x * (z6 : Int))), (b7v, .rint (y * (z6 : Int))), (b23v, .int ((Nat.gcd (x * (z6 : Int)).natAbs (y * (z6 : Int)).natAbs : Nat) : Int)), (b24v, .int U), (b25v, .int V), (b28v, .rint ((Nat.gcd (x * (z6 : Int)).natAbs (y * (z6 : Int)).natAbs : Nat) : Int)), (b29v, .rint U), (b30v, .rint V)]) List.Pairwise.nil (fc b4m (fc b5m (fc b6m (fc b7m (fc b23m (fc b24m (fc b25m (fc b28m (fc b29m (fc b30m fn)))))))))) hn ?_ ?_
    · refine .pl rfl (fun β E W Γ => ev_call0 (Γ.f _) run_known2 (known2_gives W)) ?_
      refine .pl rfl (fun β E W Γ => ev_move _ (Γ.k 0 rfl)) ?_
      refine .gu rfl rfl rfl rfl (fun β E W Γ => ev_ldI (Γ.s rfl) (b23x.far Γ.A List.not_mem_nil) (Γ.F (_, _) mb4)) ?_
      refine .gu rfl rfl rfl rfl (fun β E W Γ => ev_ldR (Γ.s rfl) (b28x.far Γ.A List.not_mem_nil) (Γ.F (_, _) mb7)) ?_
      refine .gu rfl rfl rfl rfl (fun β E W Γ => ev_call2 (Γ.f _) run_is2 (is2_want W _ _ ((Nat.gcd (x * (z6 : Int)).natAbs (y * (z6 : Int)).natAbs : Nat) : Int) SG.out (Γ.w (d := 66) 2 rfl) (Γ.w (d := 67) 3 rfl))) ?_
      refine .pl rfl (fun β E W Γ => ev_pick (Γ.k 1 rfl) (Γ.k 4 rfl)) ?_
      refine .pl rfl (fun β E W Γ => ev_move _ (Γ.k 5 rfl)) ?_
      refine .gu rfl rfl rfl rfl (fun β E W Γ => ev_ldI (Γ.s rfl) (b24x.far Γ.A List.not_mem_nil) (Γ.F (_, _) mb5)) ?_
      refine .gu rfl rfl rfl rfl (fun β E W Γ => ev_ldR (Γ.s rfl) (b29x.far Γ.A List.not_mem_nil) (Γ.F (_, _) mb8)) ?_
      refine .gu rfl rfl rfl rfl (fun β E W Γ => ev_call2 (Γ.f _) run_is2 (is2_want W _ _ U SU.out (Γ.w (d := 71) 7 rfl) (Γ.w (d := 72) 8 rfl))) ?_
      refine .pl rfl (fun β E W Γ => ev_pick (Γ.k 6 rfl) (Γ.k 9 rfl)) ?_
      refine .pl rfl (fun β E W Γ => ev_move _ (Γ.k 10 rfl)) ?_
      refine .gu rfl rfl rfl rfl (fun β E W Γ => ev_ldI (Γ.s rfl) (b25x.far Γ.A List.not_mem_nil) (Γ.F (_, _) mb6)) ?_
      refine .gu rfl rfl rfl rfl (fun β E W Γ => ev_ldR (Γ.s rfl) (b30x.far Γ.A List.not_mem_nil) (Γ.F (_, _) mb9)) ?_
      refine .gu rfl rfl rfl rfl (fun β E W Γ => ev_call2 (Γ.f _) run_is2 (is2_want W _ _ V SV.out (Γ.w (d := 76) 12 rfl) (Γ.w (d := 77) 13 rfl))) ?_
      refine .pl rfl (fun β E W Γ => ev_pick (Γ.k 11 rfl) (Γ.k 14 rfl)) ?_
      refine .pl rfl (fun β E W Γ => ev_move _ (Γ.k 15 rfl)) ?_
      refine .gu rfl rfl rfl rfl (fun β E W Γ => ev_ldI (Γ.s rfl) (b4x.far Γ.A List.not_mem_nil) (Γ.F (_, _) mb0)) ?_
      refine .gu rfl rfl rfl rfl (fun β E W Γ => ev_ldI (Γ.s rfl) (b5x.far Γ.A List.not_mem_nil) (Γ.F (_, _) mb1)) ?_
      refine .gu rfl rfl rfl rfl (fun β E W Γ => ev_call2 (Γ.f _) run_iGcd (iGcd_val W _ _ (x * (z6 : Int)) (y * (z6 : Int)) _ rfl (by omega) (by omega) ((TB.out.mono HB.out).mono Γ.A.below0) (Γ.w (d := 81) 17 rfl) (Γ.w (d := 82) 18 rfl))) ?_
      refine .gu rfl rfl rfl rfl (fun β E W Γ => ev_call1 (Γ.f _) run_hOutNat (hOutNat_want W _ (Nat.gcd (x * (z6 : Int)).natAbs (y * (z6 : Int)).natAbs) SGN.out (Γ.w (d := 83) 19 rfl))) ?_
      refine .gu rfl rfl rfl rfl (fun β E W Γ => ev_faR1 (Γ.s rfl)) ?_
      refine .gu rfl rfl rfl rfl (fun β E W Γ => ev_ldR1 (Γ.k 21 rfl) (b6x.far Γ.A List.not_mem_nil) (Γ.F (_, _) mb2) rfl) ?_
      refine .gu rfl rfl rfl rfl (fun β E W Γ => ev_faR1 (Γ.s rfl)) ?_
      refine .gu rfl rfl rfl rfl (fun β E W Γ => ev_ldR1 (Γ.k 23 rfl) (b7x.far Γ.A List.not_mem_nil) (Γ.F (_, _) mb3) rfl) ?_
      refine .gu rfl rfl rfl rfl (fun β E W Γ => ev_call2 (Γ.f _) run_rGcd (rGcd_want W _ _ (x * (z6 : Int)).natAbs (y * (z6 : Int)).natAbs (by omega) (by omega) (Γ.w (d := 86) 22 rfl) (Γ.w (d := 88) 24 rfl))) ?_
      refine .gu rfl rfl rfl rfl (fun β E W Γ => ev_call2 (Γ.f _) run_rCmp (rCmp_gives W _ _ (Nat.gcd (x * (z6 : Int)).natAbs (y * (z6 : Int)).natAbs) (Nat.gcd (x * (z6 : Int)).natAbs (y * (z6 : Int)).natAbs) 0 (cmp3_eq _) (by have := SGN.out; omega) (Γ.w (d := 84) 20 rfl) (Γ.w (d := 89) 25 rfl))) ?_
      refine .gu rfl rfl rfl rfl (fun β E W Γ => by
        have e1 : E (.tmp 90) = .int .i64 0 := (Γ.k 26 rfl)
        have hc := Γ.c
        exact Does.value (w' := W) (by go_simp) ⟨rfl, Below.refl _ _⟩) ?_
      refine .pl rfl (fun β E W Γ => ev_pick (Γ.k 16 rfl) (Γ.k 27 rfl)) ?_
      refine .pl rfl (fun β E W Γ => ev_assign _ (Γ.k 28 rfl)) ?_
      exact .nil
    intro β f32 W32 hf hS hN hA hP hlo hlt hap
    have HB := Lib.hid (HB.out.trans (hA.below (B := w.heap.size) (by intro b hb; simp [oldBlocks] at hb) HB.out.size))
    have X_b4 := Lib.hid (Says.keep b4x b4f b4l (hN (_, _) mb0) hA List.not_mem_nil)
    have X_b5 := Lib.hid (Says.keep b5x b5f b5l (hN (_, _) mb1) hA List.not_mem_nil)
    have X_b6 := Lib.hid (Says.keep b6x b6f b6l (hN (_, _) mb2) hA List.not_mem_nil)
    have X_b7 := Lib.hid (Says.keep b7x b7f b7l (hN (_, _) mb3) hA List.not_mem_nil)
    have X_b23 := Lib.hid (Says.keep b23x b23f b23l (hN (_, _) mb4) hA List.not_mem_nil)
    have X_b24 := Lib.hid (Says.keep b24x b24f b24l (hN (_, _) mb5) hA List.not_mem_nil)
    have X_b25 := Lib.hid (Says.keep b25x b25f b25l (hN (_, _) mb6) hA List.not_mem_nil)
    have X_b28 := Lib.hid (Says.keep b28x b28f b28l (hN (_, _) mb7) hA List.not_mem_nil)
    have X_b29 := Lib.hid (Says.keep b29x b29f b29l (hN (_, _) mb8) hA List.not_mem_nil)
    have X_b30 := Lib.hid (Says.keep b30x b30f b30l (hN (_, _) mb9) hA List.not_mem_nil)
    have p10_32 : f32 10 = .bool true := hf (29, 10) (by simp)
    simp only [fillSlots, p10_32, List.setIfInBounds_toArray, List.set_cons_succ, List.set_cons_zero]
    clear hf hS hN hA hP hlo hlt hap b4x b4m b4f b4l b5x b5m b5f b5l b6x b6m b6f b6l b7x b7m b7f b7l b23x b23m b23f b23l b24x b24m b24f b24l b25x b25m b25f b25l b28x b28m b28f b28l b29x b29m b29f b29l b30x b30m b30f b30l p10_32
    refine hK31.out _ _ ?_; clear hK31
    refine wp_ret ?_
    exact bodyPost_ret (v := .bool true) (by simp [results, Tryz.results4, go_sem]) rfl ⟨_, rfl, rfl, HB.out⟩
end Go.Proofs.YthjeidgmkkkmbaaGreatDoor
