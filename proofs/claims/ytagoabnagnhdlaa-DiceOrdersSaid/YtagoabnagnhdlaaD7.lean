/- Orders and rows of choices: the law's walk. -/
import Derived.Test.YtagoabnagnhdlaaD6
namespace Go.Proofs.Ytagoabnagnhdlaa
open Go.RowKit

theorem IsD.step {w w' : World} {b s c o n : Nat} (h : IsD w b s) (hb : Only w w' c o n) (hc : b ≠ c) : IsD w' b s := h.only hb hc

set_option maxRecDepth 100000 in
set_option maxHeartbeats 4000000 in
/-- The walk of the law on orders. -/
theorem ordersLaw (q : Nat) (n0 k0 : Int) (w : World) (hq : q < 18446744073709551616) (hn1 : -9223372036854775808 ≤ n0) (hn2 : n0 ≤ 9223372036854775807) (hk1 : -9223372036854775808 ≤ k0) (hk2 : k0 ≤ 9223372036854775807) :
    Calls Try.prog 3 #[.int .u64 (q : Int), .int .i64 n0, .int .i64 k0] w fun e w' => e = .returned (.bool true) ∧ Below w.heap.size w w' := by
  obtain ⟨r0, hr0⟩ : ∃ r0 : Nat, n0 % ((200 : Nat) : Int) = (r0 : Int) := ⟨(n0 % ((200 : Nat) : Int)).toNat, by omega⟩
  have hr1 : r0 < 200 := by omega
  obtain ⟨k, hk⟩ : ∃ k : Nat, k0 % ((100 : Nat) : Int) = (k : Int) := ⟨(k0 % ((100 : Nat) : Int)).toNat, by omega⟩
  have hk3 : k < 100 := by omega
  obtain ⟨n, hn⟩ : ∃ n : Nat, n = 1 + r0 := ⟨_, rfl⟩
  have hns : (1 : Int) + (r0 : Int) = (n : Int) := by omega
  have hnw : IntKind.i64.wrap ((1 : Int) + (r0 : Int)) = (n : Int) := by rw [IntKind.wrap_i64]; omega
  have hn3 : 0 < n := by omega
  have hn4 : n ≤ 200 := by omega
  obtain ⟨D, hD⟩ : ∃ D, D = dorder n q := ⟨_, rfl⟩
  obtain ⟨T, hT⟩ : ∃ T, T = dorderS n q := ⟨_, rfl⟩
  have OR := Lib.hid (fun W b h => dOrder_any b q n W h hn3 (by omega))
  rw [← hT, ← hD] at OR
  have HP := Lib.hid (show Perm n D from by rw [hD]; exact dorder_perm n q hn3)
  have hDl : D.length = n := by rw [hD, dorder_len]
  have HR0 := Lib.hid hr0; have HK := Lib.hid hk; have HNS := Lib.hid (And.intro hns hnw)
  clear hr0 hk hn hns hnw hr1 hD hT
  go_enter Try.func3, Try.ntmps3
  go_wp2_with fail
  refine (dNew_any q w).mono ?_
  rintro e w1 ⟨rfl, hw1⟩
  obtain ⟨a, ha⟩ : ∃ a, a = w.heap.size := ⟨_, rfl⟩
  rw [← ha]
  have A1 := Lib.hid (show IsD w1 a q from by rw [hw1, ha]; exact IsD.made w hq)
  have W1 := Lib.hid (show Below w.heap.size w w1 from by rw [hw1]; exact below_alloc (Below.refl _ _) _)
  have hwa : w.heap.size ≤ a := by omega
  clear hw1 ha
  go_wp2_with fail
  refine (dNew_any q w1).mono ?_
  rintro e w2 ⟨rfl, hw2⟩
  obtain ⟨b, hb⟩ : ∃ b, b = w1.heap.size := ⟨_, rfl⟩
  rw [← hb]
  have hab : a < b := by have := A1.out.lt; omega
  have hst2 : Below w1.heap.size w1 w2 := by rw [hw2]; exact below_alloc (Below.refl _ _) _
  have A2 := Lib.hid (A1.out.mono hst2)
  have C2 := Lib.hid (show IsD w2 b q from by rw [hw2, hb]; exact IsD.made w1 hq)
  have W2 := Lib.hid (below_step W1.out hst2)
  clear hw2 hst2 A1 W1 hb
  go_wp2_with fail
  refine (known5_any w2).mono ?_
  rintro e w4 ⟨rfl, hst4⟩
  have A4 := Lib.hid (A2.out.mono hst4)
  have C4 := Lib.hid (C2.out.mono hst4)
  have W4 := Lib.hid (below_step W2.out hst4)
  clear hst4 A2 C2 W2
  go_wp2_with fail
  refine (pick_any n0 200 w4 hn1 hn2 (by omega) (by omega)).mono ?_
  rintro e w' ⟨rfl, rfl⟩
  rw [HR0.out]
  have hns := HNS.out.1
  go_wp2_with fail
  refine (pick_any k0 100 w4 hk1 hk2 (by omega) (by omega)).mono ?_
  rintro e w' ⟨rfl, rfl⟩
  rw [HK.out]
  clear hns
  go_wp2_with fail
  refine (OR.out w4 a A4.out).mono ?_
  rintro e w5 ⟨g, rfl, hg, hG, hdr⟩
  rw [hDl]
  have hag : a < g := by have := A4.out.lt; omega
  have hbg : b < g := by have := C4.out.lt; omega
  have A5 := Lib.hid hdr.1
  have C5 := Lib.hid (C4.out.only hdr.2 (by omega))
  have G5 := Lib.hid hG
  have W5 := Lib.hid (W4.out.trans (hdr.2.below (by omega) (by have := W4.out.size; omega)))
  clear hdr hG hg A4 C4 W4
  go_wp2_with fail
  refine (OR.out w5 b C5.out).mono ?_
  rintro e w6 ⟨g2, rfl, hg, hG, hdr⟩
  rw [hDl]
  have A6 := Lib.hid (A5.out.only hdr.2 (by omega))
  have G6 := Lib.hid (G5.out.only hdr.2 (by omega))
  have G62 := Lib.hid hG
  have W6 := Lib.hid (W5.out.trans (hdr.2.below (by omega) (by have := W5.out.size; omega)))
  clear hdr hG hg A5 C5 W5 G5
  go_wp2_with fail
  refine (sameInts_at g g2 n D w6 hDl (by omega) G6.out G62.out).mono ?_
  rintro e w7 ⟨rfl, hst⟩
  have A7 := Lib.hid (A6.out.mono hst)
  have G7 := Lib.hid (G6.out.mono hst)
  have W7 := Lib.hid (below_step W6.out hst)
  clear hst A6 G6 G62 W6
  have hm := make_int n (by omega) w7
  obtain ⟨y, hy⟩ : ∃ y, y = w7.heap.size := ⟨_, rfl⟩
  obtain ⟨w8, hw8⟩ : ∃ w8, w8 = w7.alloc (.cells (madeCells #[.int .i64 0] n) 3) := ⟨_, rfl⟩
  have hst : Below w7.heap.size w7 w8 := by rw [hw8]; exact below_alloc (Below.refl _ _) _
  have A8 := Lib.hid (A7.out.mono hst)
  have G8 := Lib.hid (G7.out.mono hst)
  have W8 := Lib.hid (below_step W7.out hst)
  have Y8 := Lib.hid (show At w8 .i64 y 0 (List.replicate n 0) from by rw [hw8, hy]; exact At.made w7 .i64 n 3)
  have F8 := Lib.hid (show Fr w8 y 0 n from by rw [hw8, hy]; exact Fr.made w7 .i64 n n 3)
  have hya : a < y := by have := A7.out.lt; omega
  have hgy : g < y := by have := G7.out.lt (by omega); omega
  rw [← hw8, ← hy] at hm
  clear hst hw8 hy A7 G7 W7
  go_wp2_with fail
  go_loopw [11] (fun i wr => ∃ (j : Nat) (S : List Nat), j ≤ n ∧ i = .int .i64 j ∧ S.length = n ∧ Hid (∀ m, j ≤ m → m < n → S.getD (D.getD m 0) 0 = 0) ∧ Hid (At wr .i64 y 0 S) ∧ Hid (Fr wr y 0 n) ∧ Hid (IsD wr a T) ∧ Hid (At wr .i64 g 0 D) ∧ Hid (Below w.heap.size w wr)) (fun i _ => n - (intOf i).toNat)
  case atStart =>
    refine ⟨0, List.replicate n 0, Nat.zero_le _, rfl, List.length_replicate, Lib.hid (fun m _ hm => ?_), Y8, F8, A8, G8, W8⟩
    have := HP.out.2.1 m hm
    generalize D.getD m 0 = x at this ⊢
    simp [List.getD, this]
  case round =>
    clear Y8 F8 A8 G8 W8
    obtain ⟨j, S, hj, rfl, hS, H0, Y9, F9, A9, G9, W9⟩ := hrel
    by_cases hlt : j < n
    · have hxl := HP.out.2.1 j hlt
      have hx0 := H0.out j (Nat.le_refl _) hlt
      have c1 := G9.out.zero j (by omega)
      obtain ⟨x, hx⟩ : ∃ x, x = D.getD j 0 := ⟨_, rfl⟩
      rw [← hx] at hxl hx0 c1
      have c2 := Y9.out.zero x (by omega)
      rw [hx0] at c2
      have f2 := F9.out.zero x (by omega)
      have i1 : (0 : Int) ≤ j := by omega
      have i2 : (j : Int) < n := by omega
      have i3 : (0 : Int) ≤ x := by omega
      have i4 : (x : Int) < n := by omega
      have i5 : ¬ (x : Int) < 0 := by omega
      have i6 : ¬ (n : Int) ≤ x := by omega
      have HX := Lib.hid hx
      clear hx hx0 hxl
      go_wp2
      go_roundw
      case rel =>
        refine ⟨j + 1, S.set x 1, by omega, by go_num, by rw [List.length_set]; exact hS, Lib.hid (fun m hm1 hm2 => ?_), Lib.hid (Y9.out.put0 x 1 (by omega)), Lib.hid (F9.out.setCell _ _), Lib.hid (A9.out.fresh (by omega) _ _), Lib.hid (G9.out.setOther ⟨y, x, none⟩ _ (by show y ≠ g; omega)), Lib.hid (W9.out.setCell (by show w.heap.size ≤ y; omega) _)⟩
        have hne := HP.out.2.2 m j hm2 hlt
        rw [← HX.out] at hne
        rw [getD_set _ _ _ _ (by omega), if_neg (by omega)]
        exact H0.out m (by omega) hm2
      case measure => simp [intOf]; omega
    · obtain rfl : j = n := by omega
      clear H0 Y9 F9 G9 hS hlt
      go_wp2_with fail
      refine (dState_any a T wr A9.out).mono ?_
      rintro e w' ⟨rfl, rfl⟩
      go_wp2_with fail
      refine (dNew_any T wr).mono ?_
      rintro e w10 ⟨rfl, hw10⟩
      obtain ⟨c, hc⟩ : ∃ c, c = wr.heap.size := ⟨_, rfl⟩
      rw [← hc]
      have hac : a < c := by have := A9.out.lt; omega
      have hst : Below wr.heap.size wr w10 := by rw [hw10]; exact below_alloc (Below.refl _ _) _
      have A10 := Lib.hid (A9.out.mono hst)
      have C10 := Lib.hid (show IsD w10 c T from by rw [hw10, hc]; exact IsD.made wr A9.out.2.2)
      have W10 := Lib.hid (below_step W9.out hst)
      clear hw10 hst hc A9 W9
      rcases Nat.eq_zero_or_pos k with rfl | hkp
      · have hN : ∀ x W, Calls Try.prog 11 #[.pointer (some ⟨x, 0, none⟩), .int .i64 (j : Int), .int .i64 0] W fun e w' => e = .returned (.slice none 0 0) ∧ W = w' := fun x W => dDraw_none x j W hn3
        have HN0 := Lib.hid hN
        clear hN
        go_wp2_with fail
        refine (HN0.out a w10).mono ?_
        rintro e w' ⟨rfl, rfl⟩
        go_wp2_with fail
        refine (HN0.out c w10).mono ?_
        rintro e w' ⟨rfl, rfl⟩
        go_wp2_with fail
        refine (sameInts_none w10).mono ?_
        rintro e w' ⟨rfl, rfl⟩
        go_wp2_with fail
        go_loopw [14] (fun i wr => i = .int .i64 0 ∧ Hid (wr = w10)) (fun _ _ => 0)
        case atStart => exact ⟨rfl, Lib.hid rfl⟩
        case round =>
          obtain ⟨rfl, HW⟩ := hrel
          obtain rfl := HW.out
          go_wp2_with fail
          refine (dState_any a T _ A10.out).mono ?_
          rintro e w' ⟨rfl, rfl⟩
          go_wp2_with fail
          refine (dState_any c T _ C10.out).mono ?_
          rintro e w' ⟨rfl, rfl⟩
          go_wp2_with fail
          refine (dNext_any a T _ A10.out).mono ?_
          rintro e w20 ⟨rfl, hw20⟩
          have C20 := Lib.hid (show IsD w20 c T from by rw [hw20]; exact C10.out.fresh (by omega) _ _)
          have W20 := Lib.hid (show Below w.heap.size w w20 from by rw [hw20]; exact W10.out.setCell (by show w.heap.size ≤ a; omega) _)
          clear hw20
          obtain ⟨o, ho⟩ : ∃ o, o = dmix (dstep T) := ⟨_, rfl⟩
          rw [← ho]
          have hNc := dNext_any c T w20 C20.out
          rw [← ho] at hNc
          have HN := Lib.hid hNc
          clear hNc ho
          go_wp2_with fail
          refine HN.out.mono ?_
          rintro e w21 ⟨rfl, hw21⟩
          have W21 := Lib.hid (show Below w.heap.size w w21 from by rw [hw21]; exact W20.out.setCell (by show w.heap.size ≤ c; omega) _)
          clear hw21
          go_wp2
          go_ret
          exact ⟨rfl, W21.out⟩
      · obtain ⟨M, hM⟩ : ∃ M, M = ddrawV j k T := ⟨_, rfl⟩
        obtain ⟨U, hU⟩ : ∃ U, U = ddrawS j k T := ⟨_, rfl⟩
        have hMl : M.length = k := by rw [hM, ddrawV_len]
        have HML := Lib.hid (show ∀ i, i < k → M.getD i 0 < j from fun i hi => by rw [hM]; exact ddrawV_lt hn3 hi)
        have hN := fun x W (hI : IsD W x T) => dDraw_any x T j k W hI hn3 (by omega) hkp (by omega)
        rw [← hM, ← hU] at hN
        have HN0 := Lib.hid hN
        clear hN hM hU
        go_wp2_with fail
        refine (HN0.out a w10 A10.out).mono ?_
        rintro e w11 ⟨d, rfl, hd, hG, hdr⟩
        rw [hMl]
        have A11 := Lib.hid hdr.1
        have C11 := Lib.hid (C10.out.only hdr.2 (by omega))
        have G11 := Lib.hid hG
        have hcd : c < d := by have := C10.out.lt; omega
        have W11 := Lib.hid (W10.out.trans (hdr.2.below (by omega) (by have := W10.out.size; omega)))
        clear hdr hG hd A10 C10 W10
        go_wp2_with fail
        refine (HN0.out c w11 C11.out).mono ?_
        rintro e w12 ⟨d2, rfl, hd, hG, hdr⟩
        rw [hMl]
        have A12 := Lib.hid (A11.out.only hdr.2 (by omega))
        have C12 := Lib.hid hdr.1
        have G12 := Lib.hid (G11.out.only hdr.2 (by omega))
        have H12 := Lib.hid hG
        have W12 := Lib.hid (W11.out.trans (hdr.2.below (by omega) (by have := W11.out.size; omega)))
        clear hdr hG hd A11 C11 W11 G11
        go_wp2_with fail
        refine (sameInts_at d d2 k M w12 hMl (by omega) G12.out H12.out).mono ?_
        rintro e w13 ⟨rfl, hst⟩
        have A13 := Lib.hid (A12.out.mono hst)
        have C13 := Lib.hid (C12.out.mono hst)
        have G13 := Lib.hid (G12.out.mono hst)
        have W13 := Lib.hid (below_step W12.out hst)
        clear hst A12 C12 G12 H12 W12
        go_wp2_with fail
        go_loopw [14] (fun i wr => ∃ m : Nat, m ≤ k ∧ i = .int .i64 m ∧ Hid (wr = w13)) (fun i _ => k - (intOf i).toNat)
        case atStart => exact ⟨0, Nat.zero_le _, rfl, Lib.hid rfl⟩
        case round =>
          obtain ⟨m, hmk, rfl, HW⟩ := hrel
          obtain rfl := HW.out
          by_cases hlt : m < k
          · have hxl := HML.out m hlt
            have c1 := G13.out.zero m (by omega)
            generalize M.getD m 0 = x at hxl c1
            have i1 : (0 : Int) ≤ m := by omega
            have i2 : (m : Int) < k := by omega
            have i5 : ¬ (x : Int) < 0 := by omega
            have i6 : ¬ (j : Int) ≤ x := by omega
            clear hxl
            go_wp2
            go_roundw
            case rel => exact ⟨m + 1, by omega, by go_num, Lib.hid (by first | exact trivial | rfl)⟩
            case measure => simp [intOf]; omega
          · obtain rfl : m = k := by omega
            clear hlt G13
            go_wp2_with fail
            refine (dState_any a U _ A13.out).mono ?_
            rintro e w' ⟨rfl, rfl⟩
            go_wp2_with fail
            refine (dState_any c U _ C13.out).mono ?_
            rintro e w' ⟨rfl, rfl⟩
            go_wp2_with fail
            refine (dNext_any a U _ A13.out).mono ?_
            rintro e w20 ⟨rfl, hw20⟩
            have C20 := Lib.hid (show IsD w20 c U from by rw [hw20]; exact C13.out.fresh (by omega) _ _)
            have W20 := Lib.hid (show Below w.heap.size w w20 from by rw [hw20]; exact W13.out.setCell (by show w.heap.size ≤ a; omega) _)
            clear hw20
            obtain ⟨o, ho⟩ : ∃ o, o = dmix (dstep U) := ⟨_, rfl⟩
            rw [← ho]
            have hNc := dNext_any c U w20 C20.out
            rw [← ho] at hNc
            have HN := Lib.hid hNc
            clear hNc ho
            go_wp2_with fail
            refine HN.out.mono ?_
            rintro e w21 ⟨rfl, hw21⟩
            have W21 := Lib.hid (show Below w.heap.size w w21 from by rw [hw21]; exact W20.out.setCell (by show w.heap.size ≤ c; omega) _)
            clear hw21
            go_wp2
            go_ret
            exact ⟨rfl, W21.out⟩
end Go.Proofs.Ytagoabnagnhdlaa
