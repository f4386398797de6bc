/- The rows of a bag: the law's walk. -/
import Derived.Test.YtfjjmhbffbhhdaaPt2
import Derived.Test.YtfjjmhbffbhhdaaVals
namespace Go.Proofs.Ytfjjmhbffbhhdaa
open Go.RowKit

theorem RowV.only {w w' : World} {B c o n : Nat} {v : Value} {xs : List Nat} (h : RowV w B v xs) (hb : Only w w' c o n) (hc : c < B) : RowV w' B v xs := by
  rcases h with h | ⟨g, k, rfl, h1, h2, h3⟩
  · exact .inl h
  · refine .inr ⟨g, k, rfl, h1, h2.only hb (by omega), ?_⟩
    rcases Nat.eq_zero_or_pos xs.length with h0 | h0
    · rw [h0]; exact fun i hi => absurd hi (Nat.not_lt_zero i)
    · exact h3.onlyOther hb (h2.lt h0) (by omega)
/-- Two slices that say the same numbers. -/
theorem sameInts_rows (u v : Value) (xs : List Nat) (w : World) (hl : xs.length ≤ 1000000) (h1 : u = .slice none 0 0 ∧ xs = [] ∨ ∃ g c, u = .slice (some ⟨g, 0, none⟩) xs.length c ∧ At w .i64 g 0 xs)
    (h2 : v = .slice none 0 0 ∧ xs = [] ∨ ∃ g c, v = .slice (some ⟨g, 0, none⟩) xs.length c ∧ At w .i64 g 0 xs) :
    Calls Try.prog 13 #[u, v] w fun e w' => e = .returned (.bool true) ∧ Below w.heap.size w w' := by
  obtain ⟨n, hn⟩ : ∃ n, n = xs.length := ⟨_, rfl⟩
  have hn9 : n ≤ 1000000 := by omega
  obtain ⟨p1, c1, hu, k1⟩ : ∃ p c, u = .slice p n c ∧ (0 < n → ∃ g, p = some ⟨g, 0, none⟩ ∧ At w .i64 g 0 xs) := by
    rcases h1 with ⟨h, h0⟩ | ⟨g, c, h, ha⟩
    · exact ⟨none, 0, by rw [h, hn, h0]; rfl, fun h => by rw [hn, h0] at h; exact absurd h (Nat.lt_irrefl 0)⟩
    · exact ⟨_, c, by rw [h, hn], fun _ => ⟨g, rfl, ha⟩⟩
  obtain ⟨p2, c2, hv, k2⟩ : ∃ p c, v = .slice p n c ∧ (0 < n → ∃ g, p = some ⟨g, 0, none⟩ ∧ At w .i64 g 0 xs) := by
    rcases h2 with ⟨h, h0⟩ | ⟨g, c, h, ha⟩
    · exact ⟨none, 0, by rw [h, hn, h0]; rfl, fun h => by rw [hn, h0] at h; exact absurd h (Nat.lt_irrefl 0)⟩
    · exact ⟨_, c, by rw [h, hn], fun _ => ⟨g, rfl, ha⟩⟩
  subst hu hv
  rcases Nat.eq_zero_or_pos n with h0 | h0
  · obtain rfl : n = 0 := h0
    clear h1 h2 k1 k2 hn
    go_enter Try.func13, Try.ntmps13
    go_wp2_with fail
    go_loop [5] (fun i => i = .int .i64 0) (fun _ => 0)
    case atStart => exact rfl
    case round =>
      obtain rfl := hrel
      go_wp2
      go_ret
      exact ⟨rfl, Below.refl _ _⟩
  · obtain ⟨g1, rfl, a1⟩ := k1 h0
    obtain ⟨g2, rfl, a2⟩ := k2 h0
    have H1 := Lib.hid a1; have H2 := Lib.hid a2; have HN := Lib.hid hn
    clear a1 a2 h1 h2 hn k1 k2
    go_enter Try.func13, Try.ntmps13
    go_wp2_with fail
    go_loopw [5] (fun i wr => ∃ j : Nat, j ≤ n ∧ i = .int .i64 j ∧ Hid (Below w.heap.size w wr)) (fun i _ => n - (intOf i).toNat)
    case atStart => exact ⟨0, Nat.zero_le _, rfl, Lib.hid (Below.refl _ _)⟩
    case round =>
      obtain ⟨j, hj, rfl, HB⟩ := hrel
      by_cases hlt : j < n
      · have c1 := (H1.out.mono HB.out).zero j (by have := HN.out; omega)
        have c2 := (H2.out.mono HB.out).zero j (by have := HN.out; omega)
        have i1 : (0 : Int) ≤ j := by omega
        have i2 : (j : Int) < n := by omega
        generalize xs.getD j 0 = x at c1 c2
        go_wp2
        go_region_with fail
        all_goals go_wp2
        all_goals exact ⟨⟨j + 1, by omega, by go_num, Lib.hid (HB.out.trans (Below.drew (Below.refl _ _)))⟩, by simp [intOf]; omega⟩
      · obtain rfl : j = n := by omega
        go_wp2
        go_ret
        exact ⟨rfl, HB.out⟩

theorem count_step {xs : List Nat} {j : Nat} (hj : j < xs.length) (m : Nat) : (xs.take (j + 1)).count m = (xs.take j).count m + if xs.getD j 0 = m then 1 else 0 := by
  have e : xs.take (j + 1) = xs.take j ++ [xs.getD j 0] := by
    rw [List.take_add_one, List.getD_eq_getElem?_getD]; simp [hj]
  rw [e, List.count_append, List.count_singleton]
  simp only [beq_iff_eq]
theorem count_take_lt {xs : List Nat} {j : Nat} (hj : j < xs.length) : (xs.take j).count (xs.getD j 0) < xs.count (xs.getD j 0) := by
  have h1 := count_step hj (xs.getD j 0)
  have h2 : (xs.take (j + 1)).count (xs.getD j 0) ≤ xs.count (xs.getD j 0) := (List.take_sublist _ _).count_le _
  rw [if_pos rfl] at h1
  omega
set_option maxRecDepth 100000 in
set_option maxHeartbeats 4000000 in
/-- The walk of the law on bags. -/
theorem bootsLaw (q : Nat) (n0 : Int) (w : World) (hq : q < 18446744073709551616) (hn1 : -9223372036854775808 ≤ n0) (hn2 : n0 ≤ 9223372036854775807) :
    Calls Try.prog 5 #[.int .u64 (q : Int), .int .i64 n0] w fun e w' => e = .returned (.bool true) ∧ Below w.heap.size w w' := by
  obtain ⟨r0, hr0⟩ : ∃ r0 : Nat, n0 % ((100 : Nat) : Int) = (r0 : Int) := ⟨(n0 % ((100 : Nat) : Int)).toNat, by omega⟩
  have hr1 : r0 < 100 := by omega
  obtain ⟨n, hn⟩ : ∃ n : Nat, n = 1 + r0 := ⟨_, rfl⟩
  have hns : (1 : Int) + (r0 : Int) = (n : Int) := by omega
  have hnw : IntKind.i64.wrap ((1 : Int) + (r0 : Int)) = (n : Int) := by rw [IntKind.wrap_i64]; omega
  have hn3 : 0 < n := by omega
  have hn4 : n ≤ 100 := by omega
  have hll := ddrawV_len n n q
  have hlt : ∀ i, i < n → (ddrawV n n q).getD i 0 < n := fun i hi => ddrawV_lt hn3 hi
  have hDR := fun W b h => dDraw_anyF b q n n W h hn3 (by omega) hn3 (by omega)
  have hBO := fun W b h => boot_any n b q W h hn3 (by omega)
  obtain ⟨D, hD⟩ : ∃ D, D = ddrawV n n q := ⟨_, rfl⟩
  obtain ⟨T, hT⟩ : ∃ T, T = ddrawS n n q := ⟨_, rfl⟩
  rw [← hT, ← hD] at hDR hBO
  rw [← hD] at hlt hll
  obtain ⟨S, hS⟩ : ∃ S, S = srt D := ⟨_, rfl⟩
  have hSl : S.length = n := by rw [hS, srt_len, hll]
  have hSc : ∀ m, S.count m = D.count m := fun m => by rw [hS, srt_count]
  have hSm : ∀ i, i < n → S.getD i 0 < n := fun i hi => by
    have h1 : S.getD i 0 ∈ D := by rw [hS]; exact srt_mem.1 (getD_mem (by rw [srt_len, hll]; exact hi))
    obtain ⟨k, hk, he⟩ := List.getElem_of_mem h1
    have := hlt k (by omega)
    rw [List.getD_eq_getElem?_getD, List.getElem?_eq_getElem hk] at this
    rw [← he]; exact this
  have hSu : ∀ i, 0 < i → i < n → S.getD (i - 1) 0 ≤ S.getD i 0 := fun i _ hi => by rw [hS]; exact srt_up (by omega) (by omega)
  rw [← hS] at hBO
  have DR := Lib.hid hDR; have BO := Lib.hid hBO; have HDL := Lib.hid hlt; have HSC := Lib.hid hSc; have HSM := Lib.hid hSm; have HSU := Lib.hid hSu
  have HR0 := Lib.hid hr0; have HNS := Lib.hid (And.intro hns hnw)
  clear hr0 hn hns hnw hr1 hD hT hDR hBO hlt hSc hSm hSu hS
  go_enter Try.func5, Try.ntmps5
  go_wp2_with fail
  refine (dNew_any q w).mono ?_
  rintro e w1 ⟨rfl, hw1⟩
  obtain ⟨a, ha⟩ : ∃ a, a = w.heap.size := ⟨_, rfl⟩
  rw [← ha]
  have A1 := Lib.hid (show IsD w1 a q from by rw [hw1, ha]; exact IsD.made w hq)
  have W1 := Lib.hid (show Below w.heap.size w w1 from by rw [hw1]; exact below_alloc (Below.refl _ _) _)
  have hwa : w.heap.size ≤ a := by omega
  clear hw1 ha
  go_wp2_with fail
  refine (dNew_any q w1).mono ?_
  rintro e w2 ⟨rfl, hw2⟩
  obtain ⟨b, hb⟩ : ∃ b, b = w1.heap.size := ⟨_, rfl⟩
  rw [← hb]
  have hab : a < b := by have := A1.out.lt; omega
  have hst2 : Below w1.heap.size w1 w2 := by rw [hw2]; exact below_alloc (Below.refl _ _) _
  have A2 := Lib.hid (A1.out.mono hst2)
  have C2 := Lib.hid (show IsD w2 b q from by rw [hw2, hb]; exact IsD.made w1 hq)
  have W2 := Lib.hid (below_step W1.out hst2)
  clear hw2 hst2 A1 W1 hb
  go_wp2_with fail
  refine (known8_any w2).mono ?_
  rintro e w4 ⟨rfl, hst4⟩
  have A4 := Lib.hid (A2.out.mono hst4)
  have C4 := Lib.hid (C2.out.mono hst4)
  have W4 := Lib.hid (below_step W2.out hst4)
  clear hst4 A2 C2 W2
  go_wp2_with fail
  refine (pick_any n0 100 w4 hn1 hn2 (by omega) (by omega)).mono ?_
  rintro e w' ⟨rfl, rfl⟩
  rw [HR0.out]
  have hns := HNS.out.1
  have hnw := HNS.out.2
  go_wp2_with fail
  refine (BO.out w4 a A4.out).mono ?_
  rintro e w5 ⟨g, v, rfl, hg, hG, hV, hdr⟩
  have hag : a < g := by have := A4.out.lt; omega
  have hb4 : b < w4.heap.size := C4.out.lt
  have hbg : b < g := by have := C4.out.lt; omega
  have A5 := Lib.hid hdr.1
  have C5 := Lib.hid (C4.out.only hdr.2 (by omega))
  have G5 := Lib.hid hG
  have V5 := Lib.hid hV
  have W5 := Lib.hid (W4.out.trans (hdr.2.below (by omega) (by have := W4.out.size; omega)))
  clear hdr hG hV hg A4 C4 W4 hns hnw
  go_wp2_with fail
  refine (DR.out w5 b C5.out).mono ?_
  rintro e w6 ⟨d, rfl, hd, hG, hF, hdr⟩
  rw [hll]
  have hgd : g < d := by have := G5.out.lt (by omega); omega
  have A6 := Lib.hid (A5.out.only hdr.2 (by omega))
  have C6 := Lib.hid hdr.1
  have G6 := Lib.hid (G5.out.only hdr.2 (by omega))
  have D6 := Lib.hid hG
  have V6 := Lib.hid (V5.out.only hdr.2 hb4)
  have W6 := Lib.hid (W5.out.trans (hdr.2.below (by omega) (by have := W5.out.size; omega)))
  clear hdr hG hF hd A5 C5 W5 G5 V5
  have hm := make_int n (by omega) w6
  obtain ⟨y, hy⟩ : ∃ y, y = w6.heap.size := ⟨_, rfl⟩
  obtain ⟨w8, hw8⟩ : ∃ w8, w8 = w6.alloc (.cells (madeCells #[.int .i64 0] n) 3) := ⟨_, rfl⟩
  have hst : Below w6.heap.size w6 w8 := by rw [hw8]; exact below_alloc (Below.refl _ _) _
  have HB8 := Lib.hid hst
  have Y8 := Lib.hid (show At w8 .i64 y 0 (List.replicate n 0) from by rw [hw8, hy]; exact At.made w6 .i64 n 3)
  have F8 := Lib.hid (show Fr w8 y 0 n from by rw [hw8, hy]; exact Fr.made w6 .i64 n n 3)
  have hdy : w6.heap.size ≤ y := by omega
  rw [← hw8, ← hy] at hm
  clear hst hw8 hy
  go_wp2_with fail
  go_loopw [11] (fun i wr => ∃ (j : Nat) (C : List Nat), j ≤ n ∧ i = .int .i64 j ∧ C.length = n ∧ Hid (∀ m, m < n → C.getD m 0 = (D.take j).count m) ∧ Hid (At wr .i64 y 0 C) ∧ Hid (Fr wr y 0 n) ∧ Hid (Below w6.heap.size w6 wr)) (fun i _ => n - (intOf i).toNat)
  case atStart =>
    refine ⟨0, List.replicate n 0, Nat.zero_le _, rfl, List.length_replicate, Lib.hid (fun m hm => ?_), Y8, F8, HB8⟩
    simp [List.getD, hm]
  case round =>
    clear Y8 F8 HB8
    obtain ⟨j, C, hj, rfl, hC, HK, Y9, F9, W9⟩ := hrel
    by_cases hlt : j < n
    · have hxl := HDL.out j hlt
      have c1 := (D6.out.mono W9.out).zero j (by omega)
      obtain ⟨x, hx⟩ : ∃ x, x = D.getD j 0 := ⟨_, rfl⟩
      rw [← hx] at hxl c1
      have hk := HK.out x hxl
      have c2 := Y9.out.zero x (by omega)
      rw [hk] at c2
      have hcl : (D.take j).count x ≤ n := by have := (List.take_sublist j D).count_le x; have := List.count_le_length (a := x) (l := D); omega
      obtain ⟨k, hke⟩ : ∃ k, k = (D.take j).count x := ⟨_, rfl⟩
      rw [← hke] at c2 hcl
      have f2 := F9.out.zero x (by omega)
      have i1 : (0 : Int) ≤ j := by omega
      have i2 : (j : Int) < n := by omega
      have i3 : (0 : Int) ≤ x := by omega
      have i4 : (x : Int) < n := by omega
      have i5 : IntKind.i64.wrap ((k : Int) + 1) = ((k + 1 : Nat) : Int) := by rw [IntKind.wrap_i64]; omega
      have HX := Lib.hid (And.intro hx hke)
      clear hx hxl hk hke
      go_wp2
      go_roundw
      case rel =>
        refine ⟨j + 1, C.set x (k + 1), by omega, by go_num, by rw [List.length_set]; exact hC, Lib.hid (fun m hm => ?_), Lib.hid (Y9.out.put0 x (k + 1) (by omega)), Lib.hid (F9.out.setCell _ _), Lib.hid (W9.out.setCell (by show w6.heap.size ≤ y; omega) _)⟩
        rw [getD_set _ _ _ _ (by omega), count_step (by omega), HK.out m hm, ← HX.out.1]
        by_cases e : m = x
        · subst e; rw [if_pos rfl, if_pos rfl, HX.out.2]
        · rw [if_neg e, if_neg (fun h => e h.symm)]; rfl
      case measure => simp [intOf]; omega
    · obtain rfl : j = n := by omega
      have hK0 : ∀ m, m < j → C.getD m 0 + (S.take 0).count m = S.count m := fun m hm => by rw [HK.out m hm, List.take_of_length_le (by omega), HSC.out m]; simp
      have HK0 := Lib.hid hK0
      clear HK hK0 hlt
      go_wp2_with fail
      go_loopw [12] (fun i wr => ∃ (m : Nat) (C : List Nat), m ≤ j ∧ i = .int .i64 m ∧ C.length = j ∧ Hid (∀ x, x < j → C.getD x 0 + (S.take m).count x = S.count x) ∧ Hid (At wr .i64 y 0 C) ∧ Hid (Fr wr y 0 j) ∧ Hid (Below w6.heap.size w6 wr)) (fun i _ => j - (intOf i).toNat)
      case atStart => exact ⟨0, C, Nat.zero_le _, rfl, hC, HK0, Y9, F9, W9⟩
      case round =>
        clear HK0 Y9 F9 W9 hC
        obtain ⟨m, C, hm1, rfl, hC, HK, Y9, F9, W9⟩ := hrel
        by_cases hlt : m < j
        · have hxl := HSM.out m hlt
          have c1 := (G6.out.mono W9.out).zero m (by omega)
          have hct := count_take_lt (xs := S) (j := m) (by omega)
          have hup := fun h => HSU.out m h hlt
          have c3 := fun h : 0 < m => (G6.out.mono W9.out).zero (m - 1) (by omega)
          obtain ⟨x, hx⟩ : ∃ x, x = S.getD m 0 := ⟨_, rfl⟩
          obtain ⟨z, hz⟩ : ∃ z, z = S.getD (m - 1) 0 := ⟨_, rfl⟩
          rw [← hx] at hxl c1 hct hup
          rw [← hz] at c3 hup
          have hk := HK.out x hxl
          have c2 := Y9.out.zero x (by omega)
          obtain ⟨k, hke⟩ : ∃ k, k + 1 = C.getD x 0 := ⟨C.getD x 0 - 1, by omega⟩
          rw [← hke] at c2 hk
          have hkl : k + 1 ≤ j := by have := List.count_le_length (a := x) (l := S); omega
          have f2 := F9.out.zero x (by omega)
          have i1 : (0 : Int) ≤ m := by omega
          have i2 : (m : Int) < j := by omega
          have i3 : (0 : Int) ≤ x := by omega
          have i4 : (x : Int) < j := by omega
          have i5 : IntKind.i64.wrap (((k + 1 : Nat) : Int) - 1) = (k : Int) := by rw [IntKind.wrap_i64]; omega
          have i6 : ¬ (x : Int) < 0 := by omega
          have i7 : ¬ (j : Int) ≤ x := by omega
          have HX := Lib.hid (And.intro hx (And.intro hk hke))
          clear hx hz hct hk hke
          have hgl : g < wr.heap.size := (G6.out.mono W9.out).lt (by omega)
          have hyl : y < wr.heap.size := Y9.out.lt (by omega)
          rcases Nat.eq_zero_or_pos m with h0 | h0
          · have i8 : ¬ (0 : Int) < m := by omega
            have H0 := Lib.hid h0
            clear c3 hup h0
            go_wp2
--REGION16A
            refine region_v (slots := [64, 65, 66, 67, 68, 69, 70, 71, 72, 73, 74, 75, 76, 77, 78, 79, 80, 81, 82, 83, 84, 85, 86, 87, 88, 89, 90, 91, 92]) (V := PTab [.is (.slice (some ⟨g, 0, none⟩) j j), .is (.int .i64 (m : Int)), .is (.pointer (some ⟨g, m, none⟩)), .is (.int .i64 (x : Int)), .is (.bool false), .is (.bool false), .is (.slice (some ⟨g, 0, none⟩) j j), .is (.int .i64 (m : Int)), .is (.pointer (some ⟨g, m, none⟩)), .is (.int .i64 (x : Int)), .is (.int .i64 (j : Int)), .is (.bool false), .is (.bool false), .is (.bool false), .is (.int .i64 (m : Int)), .is (.bool false), .is (.bool false), .is (undef), .is (undef), .is (undef), .is (undef), .is (undef), .is (undef), .is (undef), .is (undef), .is (undef), .is (undef), .is (.bool false), .is (.bool false)] 0) (by kernel_rfl) (by kernel_rfl) PTab.stable (by kernel_rfl) (by kernel_rfl) ?_ ?_
            · skip
              refine AllV.cons rfl (fun E W hb hc hf hE hV => Or.inl ⟨rfl, ?_⟩) ?_
              · have e1 : E (.tmp 7) = .slice (some ⟨g, 0, none⟩) j j := hE 7 (by kernel_rfl)
                clear hE hV
                exact Does.value (w' := W) (by go_simp) ⟨rfl, Below.refl _ _⟩
              refine AllV.cons rfl (fun E W hb hc hf hE hV => Or.inl ⟨rfl, ?_⟩) ?_
              · have e1 : E (.tmp 12) = .int .i64 (m : Int) := hE 12 (by kernel_rfl)
                clear hE hV
                exact Does.value (w' := W) (by go_simp) ⟨rfl, Below.refl _ _⟩
              refine AllV.cons rfl (fun E W hb hc hf hE hV => Or.inl ⟨rfl, ?_⟩) ?_
              · have e1 : E (.tmp 64) = _ := hV 0 64 (by kernel_rfl) (by kernel_rfl)
                have e2 : E (.tmp 65) = _ := hV 1 65 (by kernel_rfl) (by kernel_rfl)
                clear hE hV
                exact Does.value (w' := W) (by go_simp) ⟨rfl, Below.refl _ _⟩
              refine AllV.cons rfl (fun E W hb hc hf hE hV => Or.inl ⟨rfl, ?_⟩) ?_
              · have e1 : E (.tmp 66) = _ := hV 2 66 (by kernel_rfl) (by kernel_rfl)
                have d1 := (hb.cell (p := ⟨g, m, none⟩) hgl).trans c1
                clear hE hV
                exact Does.value (w' := W) (by go_simp) ⟨rfl, Below.refl _ _⟩
              refine AllV.cons rfl (fun E W hb hc hf hE hV => Or.inl ⟨rfl, ?_⟩) ?_
              · have e1 : E (.tmp 67) = _ := hV 3 67 (by kernel_rfl) (by kernel_rfl)
                clear hE hV
                exact Does.value (w' := W) (by go_simp <;> first | rfl | assumption | omega) ⟨rfl, Below.refl _ _⟩
              refine AllV.cons rfl (fun E W hb hc hf hE hV => Or.inl ⟨rfl, ?_⟩) ?_
              · have e1 : E (.tmp 68) = _ := hV 4 68 (by kernel_rfl) (by kernel_rfl)
                clear hE hV
                exact Does.value (w' := W) (by go_simp) ⟨rfl, Below.refl _ _⟩
              refine AllV.cons rfl (fun E W hb hc hf hE hV => Or.inl ⟨wanted_of (d := 69) (b := false) rfl (by kernel_rfl) (hV 5 69 (by kernel_rfl) (by kernel_rfl)), ?_⟩) ?_
              · have e1 : E (.tmp 7) = .slice (some ⟨g, 0, none⟩) j j := hE 7 (by kernel_rfl)
                clear hE hV
                exact Does.value (w' := W) (by go_simp) ⟨rfl, Below.refl _ _⟩
              refine AllV.cons rfl (fun E W hb hc hf hE hV => Or.inl ⟨wanted_of (d := 69) (b := false) rfl (by kernel_rfl) (hV 5 69 (by kernel_rfl) (by kernel_rfl)), ?_⟩) ?_
              · have e1 : E (.tmp 12) = .int .i64 (m : Int) := hE 12 (by kernel_rfl)
                clear hE hV
                exact Does.value (w' := W) (by go_simp) ⟨rfl, Below.refl _ _⟩
              refine AllV.cons rfl (fun E W hb hc hf hE hV => Or.inl ⟨wanted_of (d := 69) (b := false) rfl (by kernel_rfl) (hV 5 69 (by kernel_rfl) (by kernel_rfl)), ?_⟩) ?_
              · have e1 : E (.tmp 70) = _ := hV 6 70 (by kernel_rfl) (by kernel_rfl)
                have e2 : E (.tmp 71) = _ := hV 7 71 (by kernel_rfl) (by kernel_rfl)
                clear hE hV
                exact Does.value (w' := W) (by go_simp) ⟨rfl, Below.refl _ _⟩
              refine AllV.cons rfl (fun E W hb hc hf hE hV => Or.inl ⟨wanted_of (d := 69) (b := false) rfl (by kernel_rfl) (hV 5 69 (by kernel_rfl) (by kernel_rfl)), ?_⟩) ?_
              · have e1 : E (.tmp 72) = _ := hV 8 72 (by kernel_rfl) (by kernel_rfl)
                have d1 := (hb.cell (p := ⟨g, m, none⟩) hgl).trans c1
                clear hE hV
                exact Does.value (w' := W) (by go_simp) ⟨rfl, Below.refl _ _⟩
              refine AllV.cons rfl (fun E W hb hc hf hE hV => Or.inl ⟨wanted_of (d := 69) (b := false) rfl (by kernel_rfl) (hV 5 69 (by kernel_rfl) (by kernel_rfl)), ?_⟩) ?_
              · have e1 : E (.tmp 1) = .int .i64 (j : Int) := hE 1 (by kernel_rfl)
                clear hE hV
                exact Does.value (w' := W) (by go_simp) ⟨rfl, Below.refl _ _⟩
              refine AllV.cons rfl (fun E W hb hc hf hE hV => Or.inl ⟨wanted_of (d := 69) (b := false) rfl (by kernel_rfl) (hV 5 69 (by kernel_rfl) (by kernel_rfl)), ?_⟩) ?_
              · have e1 : E (.tmp 73) = _ := hV 9 73 (by kernel_rfl) (by kernel_rfl)
                have e2 : E (.tmp 74) = _ := hV 10 74 (by kernel_rfl) (by kernel_rfl)
                clear hE hV
                exact Does.value (w' := W) (by go_simp <;> first | rfl | assumption | omega) ⟨rfl, Below.refl _ _⟩
              refine AllV.cons rfl (fun E W hb hc hf hE hV => Or.inl ⟨rfl, ?_⟩) ?_
              · have e1 : E (.tmp 69) = _ := hV 5 69 (by kernel_rfl) (by kernel_rfl)
                have e2 : E (.tmp 75) = _ := hV 11 75 (by kernel_rfl) (by kernel_rfl)
                clear hE hV
                exact Does.value (w' := W) (by go_simp) ⟨rfl, Below.refl _ _⟩
              refine AllV.cons rfl (fun E W hb hc hf hE hV => Or.inl ⟨rfl, ?_⟩) ?_
              · have e1 : E (.tmp 76) = _ := hV 12 76 (by kernel_rfl) (by kernel_rfl)
                clear hE hV
                exact Does.value (w' := W) (by go_simp) ⟨rfl, Below.refl _ _⟩
              refine AllV.cons rfl (fun E W hb hc hf hE hV => Or.inl ⟨wanted_of (d := 77) (b := false) rfl (by kernel_rfl) (hV 13 77 (by kernel_rfl) (by kernel_rfl)), ?_⟩) ?_
              · have e1 : E (.tmp 12) = .int .i64 (m : Int) := hE 12 (by kernel_rfl)
                clear hE hV
                exact Does.value (w' := W) (by go_simp) ⟨rfl, Below.refl _ _⟩
              refine AllV.cons rfl (fun E W hb hc hf hE hV => Or.inl ⟨wanted_of (d := 77) (b := false) rfl (by kernel_rfl) (hV 13 77 (by kernel_rfl) (by kernel_rfl)), ?_⟩) ?_
              · have e1 : E (.tmp 78) = _ := hV 14 78 (by kernel_rfl) (by kernel_rfl)
                clear hE hV
                exact Does.value (w' := W) (by go_simp <;> first | rfl | assumption | omega) ⟨rfl, Below.refl _ _⟩
              refine AllV.cons rfl (fun E W hb hc hf hE hV => Or.inl ⟨wanted_of (d := 77) (b := false) rfl (by kernel_rfl) (hV 13 77 (by kernel_rfl) (by kernel_rfl)), ?_⟩) ?_
              · have e1 : E (.tmp 79) = _ := hV 15 79 (by kernel_rfl) (by kernel_rfl)
                clear hE hV
                exact Does.value (w' := W) (by go_simp) ⟨rfl, Below.refl _ _⟩
              refine AllV.cons rfl (fun E W hb hc hf hE hV => Or.inr ⟨wanted_not (d := 80) (b := true) rfl (by kernel_rfl) (hV 16 80 (by kernel_rfl) (by kernel_rfl)), rfl⟩) ?_
              refine AllV.cons rfl (fun E W hb hc hf hE hV => Or.inr ⟨wanted_not (d := 80) (b := true) rfl (by kernel_rfl) (hV 16 80 (by kernel_rfl) (by kernel_rfl)), rfl⟩) ?_
              refine AllV.cons rfl (fun E W hb hc hf hE hV => Or.inr ⟨wanted_not (d := 80) (b := true) rfl (by kernel_rfl) (hV 16 80 (by kernel_rfl) (by kernel_rfl)), rfl⟩) ?_
              refine AllV.cons rfl (fun E W hb hc hf hE hV => Or.inr ⟨wanted_not (d := 80) (b := true) rfl (by kernel_rfl) (hV 16 80 (by kernel_rfl) (by kernel_rfl)), rfl⟩) ?_
              refine AllV.cons rfl (fun E W hb hc hf hE hV => Or.inr ⟨wanted_not (d := 80) (b := true) rfl (by kernel_rfl) (hV 16 80 (by kernel_rfl) (by kernel_rfl)), rfl⟩) ?_
              refine AllV.cons rfl (fun E W hb hc hf hE hV => Or.inr ⟨wanted_not (d := 80) (b := true) rfl (by kernel_rfl) (hV 16 80 (by kernel_rfl) (by kernel_rfl)), rfl⟩) ?_
              refine AllV.cons rfl (fun E W hb hc hf hE hV => Or.inr ⟨wanted_not (d := 80) (b := true) rfl (by kernel_rfl) (hV 16 80 (by kernel_rfl) (by kernel_rfl)), rfl⟩) ?_
              refine AllV.cons rfl (fun E W hb hc hf hE hV => Or.inr ⟨wanted_not (d := 80) (b := true) rfl (by kernel_rfl) (hV 16 80 (by kernel_rfl) (by kernel_rfl)), rfl⟩) ?_
              refine AllV.cons rfl (fun E W hb hc hf hE hV => Or.inr ⟨wanted_not (d := 80) (b := true) rfl (by kernel_rfl) (hV 16 80 (by kernel_rfl) (by kernel_rfl)), rfl⟩) ?_
              refine AllV.cons rfl (fun E W hb hc hf hE hV => Or.inr ⟨wanted_not (d := 80) (b := true) rfl (by kernel_rfl) (hV 16 80 (by kernel_rfl) (by kernel_rfl)), rfl⟩) ?_
              refine AllV.cons rfl (fun E W hb hc hf hE hV => Or.inl ⟨wanted_of (d := 77) (b := false) rfl (by kernel_rfl) (hV 13 77 (by kernel_rfl) (by kernel_rfl)), ?_⟩) ?_
              · have e1 : E (.tmp 80) = _ := hV 16 80 (by kernel_rfl) (by kernel_rfl)
                have e2 : E (.tmp 90) = _ := hV 26 90 (by kernel_rfl) (by kernel_rfl)
                clear hE hV
                exact Does.value (w' := W) (by go_simp) ⟨rfl, Below.refl _ _⟩
              refine AllV.cons rfl (fun E W hb hc hf hE hV => Or.inl ⟨rfl, ?_⟩) ?_
              · have e1 : E (.tmp 77) = _ := hV 13 77 (by kernel_rfl) (by kernel_rfl)
                have e2 : E (.tmp 91) = _ := hV 27 91 (by kernel_rfl) (by kernel_rfl)
                clear hE hV
                exact Does.value (w' := W) (by go_simp) ⟨rfl, Below.refl _ _⟩
              exact AllV.nil
            intro f W hf hb
            have g0 : f 64 = .slice (some ⟨g, 0, none⟩) j j := hf (0, 64) (by decide)
            have g1 : f 65 = .int .i64 (m : Int) := hf (1, 65) (by decide)
            have g2 : f 66 = .pointer (some ⟨g, m, none⟩) := hf (2, 66) (by decide)
            have g3 : f 67 = .int .i64 (x : Int) := hf (3, 67) (by decide)
            have g4 : f 68 = .bool false := hf (4, 68) (by decide)
            have g5 : f 69 = .bool false := hf (5, 69) (by decide)
            have g6 : f 70 = .slice (some ⟨g, 0, none⟩) j j := hf (6, 70) (by decide)
            have g7 : f 71 = .int .i64 (m : Int) := hf (7, 71) (by decide)
            have g8 : f 72 = .pointer (some ⟨g, m, none⟩) := hf (8, 72) (by decide)
            have g9 : f 73 = .int .i64 (x : Int) := hf (9, 73) (by decide)
            have g10 : f 74 = .int .i64 (j : Int) := hf (10, 74) (by decide)
            have g11 : f 75 = .bool false := hf (11, 75) (by decide)
            have g12 : f 76 = .bool false := hf (12, 76) (by decide)
            have g13 : f 77 = .bool false := hf (13, 77) (by decide)
            have g14 : f 78 = .int .i64 (m : Int) := hf (14, 78) (by decide)
            have g15 : f 79 = .bool false := hf (15, 79) (by decide)
            have g16 : f 80 = .bool false := hf (16, 80) (by decide)
            have g17 : f 81 = undef := hf (17, 81) (by decide)
            have g18 : f 82 = undef := hf (18, 82) (by decide)
            have g19 : f 83 = undef := hf (19, 83) (by decide)
            have g20 : f 84 = undef := hf (20, 84) (by decide)
            have g21 : f 85 = undef := hf (21, 85) (by decide)
            have g22 : f 86 = undef := hf (22, 86) (by decide)
            have g23 : f 87 = undef := hf (23, 87) (by decide)
            have g24 : f 88 = undef := hf (24, 88) (by decide)
            have g25 : f 89 = undef := hf (25, 89) (by decide)
            have g26 : f 90 = undef := hf (26, 90) (by decide)
            have g27 : f 91 = .bool false := hf (27, 91) (by decide)
            have g28 : f 92 = .bool false := hf (28, 92) (by decide)
            have W10 := Lib.hid (below_step W9.out hb)
            have Y10 := Lib.hid (Y9.out.mono hb)
            have F10 := Lib.hid (F9.out.mono hb (Y9.out.lt (by omega)))
            have d2 := (hb.cell (p := ⟨y, x, none⟩) hyl).trans c2
            have d3 := (hb.frozen (p := ⟨y, x, none⟩) hyl).trans f2
            have d1 := (hb.cell (p := ⟨g, m, none⟩) hgl).trans c1
            clear hf hb W9 Y9 F9 c2 f2 c1
            simp only [fillSlots, List.setIfInBounds_toArray, List.set_cons_succ, List.set_cons_zero, g0, g1, g2, g3, g4, g5, g6, g7, g8, g9, g10, g11, g12, g13, g14, g15, g16, g17, g18, g19, g20, g21, g22, g23, g24, g25, g26, g27, g28]
            clear g0 g1 g2 g3 g4 g5 g6 g7 g8 g9 g10 g11 g12 g13 g14 g15 g16 g17 g18 g19 g20 g21 g22 g23 g24 g25 g26 g27 g28
--END16A
            go_wp2
            go_roundw
            case rel =>
              refine ⟨m + 1, C.set x k, by omega, by go_num, by rw [List.length_set]; exact hC, Lib.hid (fun x' hx' => ?_), Lib.hid (Y10.out.put0 x k (by omega)), Lib.hid (F10.out.setCell _ _), Lib.hid (W10.out.setCell (by show w6.heap.size ≤ y; omega) _)⟩
              have h1 := HK.out x' hx'
              rw [getD_set _ _ _ _ (by omega), count_step (by omega), ← HX.out.1]
              by_cases e : x' = x
              · subst e; have := HX.out; rw [if_pos rfl, if_pos rfl]; omega
              · rw [if_neg e, if_neg (fun h => e h.symm)]; omega
            case measure => simp [intOf]; omega
          · have c4 := c3 h0
            have hzx := hup h0
            have i8 : (0 : Int) < m := by omega
            have i9 : ¬ (x : Int) < z := by omega
            have i11 : ¬ j ≤ m - 1 := by omega
            have i10 : IntKind.i64.wrap ((m : Int) - 1) = ((m - 1 : Nat) : Int) := by rw [IntKind.wrap_i64]; omega
            clear c3 hup
            go_wp2
--REGION16B
            refine region_v (slots := [64, 65, 66, 67, 68, 69, 70, 71, 72, 73, 74, 75, 76, 77, 78, 79, 80, 81, 82, 83, 84, 85, 86, 87, 88, 89, 90, 91, 92]) (V := PTab [.is (.slice (some ⟨g, 0, none⟩) j j), .is (.int .i64 (m : Int)), .is (.pointer (some ⟨g, m, none⟩)), .is (.int .i64 (x : Int)), .is (.bool false), .is (.bool false), .is (.slice (some ⟨g, 0, none⟩) j j), .is (.int .i64 (m : Int)), .is (.pointer (some ⟨g, m, none⟩)), .is (.int .i64 (x : Int)), .is (.int .i64 (j : Int)), .is (.bool false), .is (.bool false), .is (.bool false), .is (.int .i64 (m : Int)), .is (.bool true), .is (.bool true), .is (.slice (some ⟨g, 0, none⟩) j j), .is (.int .i64 (m : Int)), .is (.int .i64 ((m - 1 : Nat) : Int)), .is (.pointer (some ⟨g, (m - 1), none⟩)), .is (.int .i64 (z : Int)), .is (.slice (some ⟨g, 0, none⟩) j j), .is (.int .i64 (m : Int)), .is (.pointer (some ⟨g, m, none⟩)), .is (.int .i64 (x : Int)), .is (.bool false), .is (.bool false), .is (.bool false)] 0) (by kernel_rfl) (by kernel_rfl) PTab.stable (by kernel_rfl) (by kernel_rfl) ?_ ?_
            · skip
              refine AllV.cons rfl (fun E W hb hc hf hE hV => Or.inl ⟨rfl, ?_⟩) ?_
              · have e1 : E (.tmp 7) = .slice (some ⟨g, 0, none⟩) j j := hE 7 (by kernel_rfl)
                clear hE hV
                exact Does.value (w' := W) (by go_simp) ⟨rfl, Below.refl _ _⟩
              refine AllV.cons rfl (fun E W hb hc hf hE hV => Or.inl ⟨rfl, ?_⟩) ?_
              · have e1 : E (.tmp 12) = .int .i64 (m : Int) := hE 12 (by kernel_rfl)
                clear hE hV
                exact Does.value (w' := W) (by go_simp) ⟨rfl, Below.refl _ _⟩
              refine AllV.cons rfl (fun E W hb hc hf hE hV => Or.inl ⟨rfl, ?_⟩) ?_
              · have e1 : E (.tmp 64) = _ := hV 0 64 (by kernel_rfl) (by kernel_rfl)
                have e2 : E (.tmp 65) = _ := hV 1 65 (by kernel_rfl) (by kernel_rfl)
                clear hE hV
                exact Does.value (w' := W) (by go_simp) ⟨rfl, Below.refl _ _⟩
              refine AllV.cons rfl (fun E W hb hc hf hE hV => Or.inl ⟨rfl, ?_⟩) ?_
              · have e1 : E (.tmp 66) = _ := hV 2 66 (by kernel_rfl) (by kernel_rfl)
                have d1 := (hb.cell (p := ⟨g, m, none⟩) hgl).trans c1
                clear hE hV
                exact Does.value (w' := W) (by go_simp) ⟨rfl, Below.refl _ _⟩
              refine AllV.cons rfl (fun E W hb hc hf hE hV => Or.inl ⟨rfl, ?_⟩) ?_
              · have e1 : E (.tmp 67) = _ := hV 3 67 (by kernel_rfl) (by kernel_rfl)
                clear hE hV
                exact Does.value (w' := W) (by go_simp <;> first | rfl | assumption | omega) ⟨rfl, Below.refl _ _⟩
              refine AllV.cons rfl (fun E W hb hc hf hE hV => Or.inl ⟨rfl, ?_⟩) ?_
              · have e1 : E (.tmp 68) = _ := hV 4 68 (by kernel_rfl) (by kernel_rfl)
                clear hE hV
                exact Does.value (w' := W) (by go_simp) ⟨rfl, Below.refl _ _⟩
              refine AllV.cons rfl (fun E W hb hc hf hE hV => Or.inl ⟨wanted_of (d := 69) (b := false) rfl (by kernel_rfl) (hV 5 69 (by kernel_rfl) (by kernel_rfl)), ?_⟩) ?_
              · have e1 : E (.tmp 7) = .slice (some ⟨g, 0, none⟩) j j := hE 7 (by kernel_rfl)
                clear hE hV
                exact Does.value (w' := W) (by go_simp) ⟨rfl, Below.refl _ _⟩
              refine AllV.cons rfl (fun E W hb hc hf hE hV => Or.inl ⟨wanted_of (d := 69) (b := false) rfl (by kernel_rfl) (hV 5 69 (by kernel_rfl) (by kernel_rfl)), ?_⟩) ?_
              · have e1 : E (.tmp 12) = .int .i64 (m : Int) := hE 12 (by kernel_rfl)
                clear hE hV
                exact Does.value (w' := W) (by go_simp) ⟨rfl, Below.refl _ _⟩
              refine AllV.cons rfl (fun E W hb hc hf hE hV => Or.inl ⟨wanted_of (d := 69) (b := false) rfl (by kernel_rfl) (hV 5 69 (by kernel_rfl) (by kernel_rfl)), ?_⟩) ?_
              · have e1 : E (.tmp 70) = _ := hV 6 70 (by kernel_rfl) (by kernel_rfl)
                have e2 : E (.tmp 71) = _ := hV 7 71 (by kernel_rfl) (by kernel_rfl)
                clear hE hV
                exact Does.value (w' := W) (by go_simp) ⟨rfl, Below.refl _ _⟩
              refine AllV.cons rfl (fun E W hb hc hf hE hV => Or.inl ⟨wanted_of (d := 69) (b := false) rfl (by kernel_rfl) (hV 5 69 (by kernel_rfl) (by kernel_rfl)), ?_⟩) ?_
              · have e1 : E (.tmp 72) = _ := hV 8 72 (by kernel_rfl) (by kernel_rfl)
                have d1 := (hb.cell (p := ⟨g, m, none⟩) hgl).trans c1
                clear hE hV
                exact Does.value (w' := W) (by go_simp) ⟨rfl, Below.refl _ _⟩
              refine AllV.cons rfl (fun E W hb hc hf hE hV => Or.inl ⟨wanted_of (d := 69) (b := false) rfl (by kernel_rfl) (hV 5 69 (by kernel_rfl) (by kernel_rfl)), ?_⟩) ?_
              · have e1 : E (.tmp 1) = .int .i64 (j : Int) := hE 1 (by kernel_rfl)
                clear hE hV
                exact Does.value (w' := W) (by go_simp) ⟨rfl, Below.refl _ _⟩
              refine AllV.cons rfl (fun E W hb hc hf hE hV => Or.inl ⟨wanted_of (d := 69) (b := false) rfl (by kernel_rfl) (hV 5 69 (by kernel_rfl) (by kernel_rfl)), ?_⟩) ?_
              · have e1 : E (.tmp 73) = _ := hV 9 73 (by kernel_rfl) (by kernel_rfl)
                have e2 : E (.tmp 74) = _ := hV 10 74 (by kernel_rfl) (by kernel_rfl)
                clear hE hV
                exact Does.value (w' := W) (by go_simp <;> first | rfl | assumption | omega) ⟨rfl, Below.refl _ _⟩
              refine AllV.cons rfl (fun E W hb hc hf hE hV => Or.inl ⟨rfl, ?_⟩) ?_
              · have e1 : E (.tmp 69) = _ := hV 5 69 (by kernel_rfl) (by kernel_rfl)
                have e2 : E (.tmp 75) = _ := hV 11 75 (by kernel_rfl) (by kernel_rfl)
                clear hE hV
                exact Does.value (w' := W) (by go_simp) ⟨rfl, Below.refl _ _⟩
              refine AllV.cons rfl (fun E W hb hc hf hE hV => Or.inl ⟨rfl, ?_⟩) ?_
              · have e1 : E (.tmp 76) = _ := hV 12 76 (by kernel_rfl) (by kernel_rfl)
                clear hE hV
                exact Does.value (w' := W) (by go_simp) ⟨rfl, Below.refl _ _⟩
              refine AllV.cons rfl (fun E W hb hc hf hE hV => Or.inl ⟨wanted_of (d := 77) (b := false) rfl (by kernel_rfl) (hV 13 77 (by kernel_rfl) (by kernel_rfl)), ?_⟩) ?_
              · have e1 : E (.tmp 12) = .int .i64 (m : Int) := hE 12 (by kernel_rfl)
                clear hE hV
                exact Does.value (w' := W) (by go_simp) ⟨rfl, Below.refl _ _⟩
              refine AllV.cons rfl (fun E W hb hc hf hE hV => Or.inl ⟨wanted_of (d := 77) (b := false) rfl (by kernel_rfl) (hV 13 77 (by kernel_rfl) (by kernel_rfl)), ?_⟩) ?_
              · have e1 : E (.tmp 78) = _ := hV 14 78 (by kernel_rfl) (by kernel_rfl)
                clear hE hV
                exact Does.value (w' := W) (by go_simp <;> first | rfl | assumption | omega) ⟨rfl, Below.refl _ _⟩
              refine AllV.cons rfl (fun E W hb hc hf hE hV => Or.inl ⟨wanted_of (d := 77) (b := false) rfl (by kernel_rfl) (hV 13 77 (by kernel_rfl) (by kernel_rfl)), ?_⟩) ?_
              · have e1 : E (.tmp 79) = _ := hV 15 79 (by kernel_rfl) (by kernel_rfl)
                clear hE hV
                exact Does.value (w' := W) (by go_simp) ⟨rfl, Below.refl _ _⟩
              refine AllV.cons rfl (fun E W hb hc hf hE hV => Or.inl ⟨wanted_of (d := 80) (b := true) rfl (by kernel_rfl) (hV 16 80 (by kernel_rfl) (by kernel_rfl)), ?_⟩) ?_
              · have e1 : E (.tmp 7) = .slice (some ⟨g, 0, none⟩) j j := hE 7 (by kernel_rfl)
                clear hE hV
                exact Does.value (w' := W) (by go_simp) ⟨rfl, Below.refl _ _⟩
              refine AllV.cons rfl (fun E W hb hc hf hE hV => Or.inl ⟨wanted_of (d := 80) (b := true) rfl (by kernel_rfl) (hV 16 80 (by kernel_rfl) (by kernel_rfl)), ?_⟩) ?_
              · have e1 : E (.tmp 12) = .int .i64 (m : Int) := hE 12 (by kernel_rfl)
                clear hE hV
                exact Does.value (w' := W) (by go_simp) ⟨rfl, Below.refl _ _⟩
              refine AllV.cons rfl (fun E W hb hc hf hE hV => Or.inl ⟨wanted_of (d := 80) (b := true) rfl (by kernel_rfl) (hV 16 80 (by kernel_rfl) (by kernel_rfl)), ?_⟩) ?_
              · have e1 : E (.tmp 82) = _ := hV 18 82 (by kernel_rfl) (by kernel_rfl)
                clear hE hV
                exact Does.value (w' := W) (by go_simp) ⟨rfl, Below.refl _ _⟩
              refine AllV.cons rfl (fun E W hb hc hf hE hV => Or.inl ⟨wanted_of (d := 80) (b := true) rfl (by kernel_rfl) (hV 16 80 (by kernel_rfl) (by kernel_rfl)), ?_⟩) ?_
              · have e1 : E (.tmp 81) = _ := hV 17 81 (by kernel_rfl) (by kernel_rfl)
                have e2 : E (.tmp 83) = _ := hV 19 83 (by kernel_rfl) (by kernel_rfl)
                clear hE hV
                exact Does.value (w' := W) (by go_simp) ⟨rfl, Below.refl _ _⟩
              refine AllV.cons rfl (fun E W hb hc hf hE hV => Or.inl ⟨wanted_of (d := 80) (b := true) rfl (by kernel_rfl) (hV 16 80 (by kernel_rfl) (by kernel_rfl)), ?_⟩) ?_
              · have e1 : E (.tmp 84) = _ := hV 20 84 (by kernel_rfl) (by kernel_rfl)
                have d1 := (hb.cell (p := ⟨g, (m - 1), none⟩) hgl).trans c4
                clear hE hV
                exact Does.value (w' := W) (by go_simp) ⟨rfl, Below.refl _ _⟩
              refine AllV.cons rfl (fun E W hb hc hf hE hV => Or.inl ⟨wanted_of (d := 80) (b := true) rfl (by kernel_rfl) (hV 16 80 (by kernel_rfl) (by kernel_rfl)), ?_⟩) ?_
              · have e1 : E (.tmp 7) = .slice (some ⟨g, 0, none⟩) j j := hE 7 (by kernel_rfl)
                clear hE hV
                exact Does.value (w' := W) (by go_simp) ⟨rfl, Below.refl _ _⟩
              refine AllV.cons rfl (fun E W hb hc hf hE hV => Or.inl ⟨wanted_of (d := 80) (b := true) rfl (by kernel_rfl) (hV 16 80 (by kernel_rfl) (by kernel_rfl)), ?_⟩) ?_
              · have e1 : E (.tmp 12) = .int .i64 (m : Int) := hE 12 (by kernel_rfl)
                clear hE hV
                exact Does.value (w' := W) (by go_simp) ⟨rfl, Below.refl _ _⟩
              refine AllV.cons rfl (fun E W hb hc hf hE hV => Or.inl ⟨wanted_of (d := 80) (b := true) rfl (by kernel_rfl) (hV 16 80 (by kernel_rfl) (by kernel_rfl)), ?_⟩) ?_
              · have e1 : E (.tmp 86) = _ := hV 22 86 (by kernel_rfl) (by kernel_rfl)
                have e2 : E (.tmp 87) = _ := hV 23 87 (by kernel_rfl) (by kernel_rfl)
                clear hE hV
                exact Does.value (w' := W) (by go_simp) ⟨rfl, Below.refl _ _⟩
              refine AllV.cons rfl (fun E W hb hc hf hE hV => Or.inl ⟨wanted_of (d := 80) (b := true) rfl (by kernel_rfl) (hV 16 80 (by kernel_rfl) (by kernel_rfl)), ?_⟩) ?_
              · have e1 : E (.tmp 88) = _ := hV 24 88 (by kernel_rfl) (by kernel_rfl)
                have d1 := (hb.cell (p := ⟨g, m, none⟩) hgl).trans c1
                clear hE hV
                exact Does.value (w' := W) (by go_simp) ⟨rfl, Below.refl _ _⟩
              refine AllV.cons rfl (fun E W hb hc hf hE hV => Or.inl ⟨wanted_of (d := 80) (b := true) rfl (by kernel_rfl) (hV 16 80 (by kernel_rfl) (by kernel_rfl)), ?_⟩) ?_
              · have e1 : E (.tmp 85) = _ := hV 21 85 (by kernel_rfl) (by kernel_rfl)
                have e2 : E (.tmp 89) = _ := hV 25 89 (by kernel_rfl) (by kernel_rfl)
                clear hE hV
                exact Does.value (w' := W) (by go_simp <;> first | rfl | assumption | omega) ⟨rfl, Below.refl _ _⟩
              refine AllV.cons rfl (fun E W hb hc hf hE hV => Or.inl ⟨wanted_of (d := 77) (b := false) rfl (by kernel_rfl) (hV 13 77 (by kernel_rfl) (by kernel_rfl)), ?_⟩) ?_
              · have e1 : E (.tmp 80) = _ := hV 16 80 (by kernel_rfl) (by kernel_rfl)
                have e2 : E (.tmp 90) = _ := hV 26 90 (by kernel_rfl) (by kernel_rfl)
                clear hE hV
                exact Does.value (w' := W) (by go_simp) ⟨rfl, Below.refl _ _⟩
              refine AllV.cons rfl (fun E W hb hc hf hE hV => Or.inl ⟨rfl, ?_⟩) ?_
              · have e1 : E (.tmp 77) = _ := hV 13 77 (by kernel_rfl) (by kernel_rfl)
                have e2 : E (.tmp 91) = _ := hV 27 91 (by kernel_rfl) (by kernel_rfl)
                clear hE hV
                exact Does.value (w' := W) (by go_simp) ⟨rfl, Below.refl _ _⟩
              exact AllV.nil
            intro f W hf hb
            have g0 : f 64 = .slice (some ⟨g, 0, none⟩) j j := hf (0, 64) (by decide)
            have g1 : f 65 = .int .i64 (m : Int) := hf (1, 65) (by decide)
            have g2 : f 66 = .pointer (some ⟨g, m, none⟩) := hf (2, 66) (by decide)
            have g3 : f 67 = .int .i64 (x : Int) := hf (3, 67) (by decide)
            have g4 : f 68 = .bool false := hf (4, 68) (by decide)
            have g5 : f 69 = .bool false := hf (5, 69) (by decide)
            have g6 : f 70 = .slice (some ⟨g, 0, none⟩) j j := hf (6, 70) (by decide)
            have g7 : f 71 = .int .i64 (m : Int) := hf (7, 71) (by decide)
            have g8 : f 72 = .pointer (some ⟨g, m, none⟩) := hf (8, 72) (by decide)
            have g9 : f 73 = .int .i64 (x : Int) := hf (9, 73) (by decide)
            have g10 : f 74 = .int .i64 (j : Int) := hf (10, 74) (by decide)
            have g11 : f 75 = .bool false := hf (11, 75) (by decide)
            have g12 : f 76 = .bool false := hf (12, 76) (by decide)
            have g13 : f 77 = .bool false := hf (13, 77) (by decide)
            have g14 : f 78 = .int .i64 (m : Int) := hf (14, 78) (by decide)
            have g15 : f 79 = .bool true := hf (15, 79) (by decide)
            have g16 : f 80 = .bool true := hf (16, 80) (by decide)
            have g17 : f 81 = .slice (some ⟨g, 0, none⟩) j j := hf (17, 81) (by decide)
            have g18 : f 82 = .int .i64 (m : Int) := hf (18, 82) (by decide)
            have g19 : f 83 = .int .i64 ((m - 1 : Nat) : Int) := hf (19, 83) (by decide)
            have g20 : f 84 = .pointer (some ⟨g, (m - 1), none⟩) := hf (20, 84) (by decide)
            have g21 : f 85 = .int .i64 (z : Int) := hf (21, 85) (by decide)
            have g22 : f 86 = .slice (some ⟨g, 0, none⟩) j j := hf (22, 86) (by decide)
            have g23 : f 87 = .int .i64 (m : Int) := hf (23, 87) (by decide)
            have g24 : f 88 = .pointer (some ⟨g, m, none⟩) := hf (24, 88) (by decide)
            have g25 : f 89 = .int .i64 (x : Int) := hf (25, 89) (by decide)
            have g26 : f 90 = .bool false := hf (26, 90) (by decide)
            have g27 : f 91 = .bool false := hf (27, 91) (by decide)
            have g28 : f 92 = .bool false := hf (28, 92) (by decide)
            have W10 := Lib.hid (below_step W9.out hb)
            have Y10 := Lib.hid (Y9.out.mono hb)
            have F10 := Lib.hid (F9.out.mono hb (Y9.out.lt (by omega)))
            have d2 := (hb.cell (p := ⟨y, x, none⟩) hyl).trans c2
            have d3 := (hb.frozen (p := ⟨y, x, none⟩) hyl).trans f2
            have d1 := (hb.cell (p := ⟨g, m, none⟩) hgl).trans c1
            clear hf hb W9 Y9 F9 c2 f2 c1
            simp only [fillSlots, List.setIfInBounds_toArray, List.set_cons_succ, List.set_cons_zero, g0, g1, g2, g3, g4, g5, g6, g7, g8, g9, g10, g11, g12, g13, g14, g15, g16, g17, g18, g19, g20, g21, g22, g23, g24, g25, g26, g27, g28]
            clear g0 g1 g2 g3 g4 g5 g6 g7 g8 g9 g10 g11 g12 g13 g14 g15 g16 g17 g18 g19 g20 g21 g22 g23 g24 g25 g26 g27 g28
--END16B
            go_wp2
            go_roundw
            case rel =>
              refine ⟨m + 1, C.set x k, by omega, by go_num, by rw [List.length_set]; exact hC, Lib.hid (fun x' hx' => ?_), Lib.hid (Y10.out.put0 x k (by omega)), Lib.hid (F10.out.setCell _ _), Lib.hid (W10.out.setCell (by show w6.heap.size ≤ y; omega) _)⟩
              have h1 := HK.out x' hx'
              rw [getD_set _ _ _ _ (by omega), count_step (by omega), ← HX.out.1]
              by_cases e : x' = x
              · subst e; have := HX.out; rw [if_pos rfl, if_pos rfl]; omega
              · rw [if_neg e, if_neg (fun h => e h.symm)]; omega
            case measure => simp [intOf]; omega
        · obtain rfl : m = j := by omega
          have hz : ∀ x, x < m → C.getD x 0 = 0 := fun x hx => by have := HK.out x hx; rw [List.take_of_length_le (by omega)] at this; omega
          have HZ := Lib.hid hz
          clear HK hz hlt
          go_wp2_with fail
          go_loopw [13] (fun i wz => ∃ r : Nat, r ≤ m ∧ i = .int .i64 r ∧ Hid (wz = wr)) (fun i _ => m - (intOf i).toNat)
          case atStart => exact ⟨0, Nat.zero_le _, rfl, Lib.hid rfl⟩
          case round =>
            obtain ⟨r, hrm, rfl, HW⟩ := hrel
            obtain rfl := HW.out
            by_cases hlt : r < m
            · have c1 := Y9.out.zero r (by omega)
              rw [HZ.out r hlt] at c1
              have i1 : (0 : Int) ≤ r := by omega
              have i2 : (r : Int) < m := by omega
              go_wp2
              go_roundw
              case rel => exact ⟨r + 1, by omega, by go_num, Lib.hid (by first | exact trivial | rfl)⟩
              case measure => simp [intOf]; omega
            · obtain rfl : r = m := by omega
              clear hlt HZ Y9 F9
              have G9 := Lib.hid (G6.out.mono W9.out); have V9 := Lib.hid (V6.out.mono W9.out); have A9 := Lib.hid (A6.out.mono W9.out); have C9 := Lib.hid (C6.out.mono W9.out); have X9 := Lib.hid (below_step W6.out W9.out)
              clear G6 V6 A6 C6 W6 W9 D6
              have hRt := fun W (h : At W .i64 g 0 S) => rest_any r g r r S W hn3 (by omega) hSl (by omega) (fun i hi => by have := HSM.out i hi; omega) h (h.lt (by omega))
              have HRT := Lib.hid hRt
              have hrl := restL_len r S
              obtain ⟨Z, hZ⟩ : ∃ Z, Z = restL r S := ⟨_, rfl⟩
              rw [← hZ] at HRT V9 hrl
              clear hRt hZ
              go_wp2_with fail
              refine (HRT.out _ G9.out).mono ?_
              rintro e w10 ⟨v2, rfl, hv2, hb⟩
              have V10 := Lib.hid (V9.out.mono hb); have U10 := Lib.hid hv2; have A10 := Lib.hid (A9.out.mono hb); have C10 := Lib.hid (C9.out.mono hb); have X10 := Lib.hid (below_step X9.out hb)
              clear hv2 hb G9 V9 A9 C9 X9 HRT
              have hSI := sameInts_rows v v2 Z w10 (by omega) (by rcases V10.out with h | ⟨g', c', h1, _, h3, _⟩; exact .inl h; exact .inr ⟨g', c', h1, h3⟩) (by rcases U10.out with h | ⟨g', c', h1, _, h3, _⟩; exact .inl h; exact .inr ⟨g', c', h1, h3⟩)
              have HSI := Lib.hid hSI
              clear hSI
              go_wp2_with fail
              refine HSI.out.mono ?_
              rintro e w11 ⟨rfl, hb⟩
              have A11 := Lib.hid (A10.out.mono hb); have C11 := Lib.hid (C10.out.mono hb); have X11 := Lib.hid (below_step X10.out hb)
              clear hb V10 U10 A10 C10 X10 HSI
              go_wp2_with fail
              refine (dState_any a T w11 A11.out).mono ?_
              rintro e w' ⟨rfl, rfl⟩
              go_wp2_with fail
              refine (dState_any b T w11 C11.out).mono ?_
              rintro e w' ⟨rfl, rfl⟩
              go_wp2
              go_ret
              exact ⟨rfl, X11.out⟩
end Go.Proofs.Ytfjjmhbffbhhdaa
