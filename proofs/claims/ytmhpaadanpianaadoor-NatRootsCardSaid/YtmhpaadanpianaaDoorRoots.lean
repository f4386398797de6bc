/- NatRoots: a root's square is not above its number, the next one's is; the root of a square; moves up and down. -/
import Derived.Test.YtmhpaadanpianaaDoorRoots0
namespace Go.Proofs.YtmhpaadanpianaaDoor
open Go.RowKit

set_option maxRecDepth 100000 in
set_option maxHeartbeats 8000000 in
theorem roots_any (p : Option Addr) (l c : Nat) (xs : List Nat) (w : World) (h1 : IsB w p l c xs) :
    Calls Tryd.prog 11 #[.slice p l c] w fun e w' => e = .returned (.bool true) ∧ Below w.heap.size w w' := by
  have sn := ds_nb xs h1.2.1
  have T1 := Lib.hid (fun w h1 h2 => two_any p none l c 0 0 xs [] w h1 h2)
  have H1 := Lib.hid h1
  clear h1
  generalize nb (xs.take 48) = n at *
  generalize nb (List.take 48 []) = o at *
  obtain ⟨r, hr, hr2⟩ := root_exists n
  have sr : (ds r).length ≤ 6 := Nat.le_trans (ds_mono (show r ≤ n by
    rcases Nat.eq_zero_or_pos r with h | h
    · omega
    · exact Nat.le_trans (by have : r * 1 ≤ r * r := Nat.mul_le_mul_left r h
                             omega) hr)) sn
  have s1a := ds_add r 1
  have s1 : (ds 1).length = 1 := ds_one (by omega)
  have srr := ds_mul r r
  have sqq := ds_mul (r + 1) (r + 1)
  have snn := ds_mul n n
  have s7 := ds_mul n (2 ^ 7)
  have s7' : (ds (2 ^ 7)).length = 1 := ds_one (by omega)
  have s2 := ds_mul n (2 ^ 1)
  have s2' : (ds (2 ^ 1)).length = 1 := ds_one (by omega)
  have sa := ds_add n n
  obtain ⟨cv, hcv⟩ : ∃ cv : Int, cv = cmp3 (r * r : Nat) n := ⟨_, rfl⟩
  have hcv0 : cv ≤ 0 := by rw [hcv]; unfold cmp3; split <;> first | omega | (split <;> omega)
  have hgt : cmp3 (((r + 1) * (r + 1) : Nat) : Int) n = 1 := cmp3_gt (by exact_mod_cast hr2)
  have hnr : n * n < (n + 1) * (n + 1) := Nat.mul_lt_mul'' (by omega) (by omega)
  have HR := Lib.hid hr; have HR2 := Lib.hid hr2; have HNR := Lib.hid hnr; have HCV := Lib.hid hcv; have HGT := Lib.hid hgt
  clear hr hr2 hnr hcv hgt
  go_enter Tryd.func11, Tryd.ntmps11
  go_wp2_with fail
  refine (T1.out _ H1.out ⟨rfl, fun x hx => by simp at hx, Or.inl ⟨rfl, rfl, rfl⟩⟩).mono ?_
  rintro e w1 ⟨s1, p1, l1, c1, s2, p2, l2, c2, p3, l3, c3, p4, l4, c4, rfl, n1, n2, r1, r2, hX⟩
  have N1 := Lib.hid n1
  have HB := Lib.hid hX
  clear n1 n2 r1 r2 hX T1 H1
  go_wp2_with fail
  have BX : Below w1.heap.size w1 ((w1.alloc (.cells #[.int .u64 s1, .slice p1 l1 c1] 25)).alloc (.cells #[.int .u64 s2, .slice p2 l2 c2] 25)) := (by repeat' first | exact Below.refl _ _ | refine below_alloc ?_ _ | refine Below.drew ?_ | refine below_step ?_ (by assumption))
  have A0 : ((w1.alloc (.cells #[.int .u64 s1, .slice p1 l1 c1] 25)).alloc (.cells #[.int .u64 s2, .slice p2 l2 c2] 25)).cell? ⟨w1.heap.size, 0, none⟩ = some (.int .u64 s1) := by simp [go_sem]
  have A1 : ((w1.alloc (.cells #[.int .u64 s1, .slice p1 l1 c1] 25)).alloc (.cells #[.int .u64 s2, .slice p2 l2 c2] 25)).cell? ⟨w1.heap.size, 1, none⟩ = some (.slice p1 l1 c1) := by simp [go_sem]
  have B0 : ((w1.alloc (.cells #[.int .u64 s1, .slice p1 l1 c1] 25)).alloc (.cells #[.int .u64 s2, .slice p2 l2 c2] 25)).cell? ⟨w1.heap.size + 1, 0, none⟩ = some (.int .u64 s2) := by simp [go_sem]
  have B1 : ((w1.alloc (.cells #[.int .u64 s1, .slice p1 l1 c1] 25)).alloc (.cells #[.int .u64 s2, .slice p2 l2 c2] 25)).cell? ⟨w1.heap.size + 1, 1, none⟩ = some (.slice p2 l2 c2) := by simp [go_sem]
  obtain ⟨w2, hW⟩ : ∃ W, W = (w1.alloc (.cells #[.int .u64 s1, .slice p1 l1 c1] 25)).alloc (.cells #[.int .u64 s2, .slice p2 l2 c2] 25) := ⟨_, rfl⟩
  rw [← hW] at BX A0 A1 B0 B1 ⊢
  have N1 := Lib.hid (N1.out.mono BX)
  have HB := Lib.hid (below_step HB.out BX)
  obtain ⟨a, hG⟩ : ∃ g, g = w1.heap.size := ⟨_, rfl⟩
  rw [← hG] at A0 A1 B0 B1 ⊢
  clear hW BX hG
  refine (root_any n r s1 p1 l1 c1 _ HR.out HR2.out (by omega) N1.out).mono ?_
  rintro e w3 ⟨s5, p5, l5, c5, rfl, n5, hX⟩
  have A0 := wcell hX A0
  have A1 := wcell hX A1
  have B0 := wcell hX B0
  have B1 := wcell hX B1
  have N1 := Lib.hid (N1.out.mono hX)
  have HB := Lib.hid (below_step HB.out hX)
  have N5 := Lib.hid n5
  clear n5 hX
  go_wp2_with fail
  have BX : Below w3.heap.size w3 (w3.alloc (.cells #[.int .u64 s5, .slice p5 l5 c5] 25)) := (by repeat' first | exact Below.refl _ _ | refine below_alloc ?_ _ | refine Below.drew ?_ | refine below_step ?_ (by assumption))
  have D0 : (w3.alloc (.cells #[.int .u64 s5, .slice p5 l5 c5] 25)).cell? ⟨w3.heap.size, 0, none⟩ = some (.int .u64 s5) := by simp [go_sem]
  have D1 : (w3.alloc (.cells #[.int .u64 s5, .slice p5 l5 c5] 25)).cell? ⟨w3.heap.size, 1, none⟩ = some (.slice p5 l5 c5) := by simp [go_sem]
  obtain ⟨w4, hW⟩ : ∃ W, W = w3.alloc (.cells #[.int .u64 s5, .slice p5 l5 c5] 25) := ⟨_, rfl⟩
  rw [← hW] at BX D0 D1 ⊢
  have A0 := wcell BX A0
  have A1 := wcell BX A1
  have B0 := wcell BX B0
  have B1 := wcell BX B1
  have N1 := Lib.hid (N1.out.mono BX)
  have N5 := Lib.hid (N5.out.mono BX)
  have HB := Lib.hid (below_step HB.out BX)
  obtain ⟨g, hG⟩ : ∃ g, g = w3.heap.size := ⟨_, rfl⟩
  rw [← hG] at D0 D1 ⊢
  clear hW BX hG
  refine region_phase (T := [0, 1, 2, 3]) (slots := [18, 19, 20, 8]) (fuel := 1) (n := 4) (deps := [0, 0, 3, 0, 15]) (Tm := 15) (Lm := 15)
      (L := #[true, true, true, true, false])
      (V := Tab [.num r, .num 1, .num (r + 1), .newbox w4.heap.size] 0)
      (by kernel_rfl) rfl Tab.stable (by kernel_rfl) (by kernel_rfl) (by kernel_rfl) (by kernel_rfl) (by kernel_rfl) (by kernel_rfl) (by kernel_rfl) ?_ ?_
  · skip
    refine AllGo.cons rfl (fun E W hb hc hf hE hV => ⟨rfl, ?_⟩) ?_
    · have e1 : E (.tmp 7) = .pointer (some ⟨g, 0, none⟩) := hE 7 (by kernel_rfl)
      have q := wcell hb D0
      have q' := wcell hb D1
      clear hE hV
      exact Does.value (v := .agg #[.int .u64 s5, .slice p5 l5 c5]) (w' := W) (by go_simp) ⟨⟨_, _, _, _, rfl, N5.out.mono hb⟩, Below.refl _ _⟩
    refine AllGo.cons rfl (fun E W hb hc hf hE hV => ⟨rfl, ?_⟩) ?_
    · clear hE hV
      exact Does.call (w' := W) (by go_simp) ((of_any _ _).mono fun e w' ⟨h1, h2⟩ => ⟨_, h1, ⟨_, _, _, _, rfl, Or.inl ⟨by omega, rfl, rfl, rfl, rfl⟩⟩, h2⟩)
    refine AllGo.cons rfl (fun E W hb hc hf hE hV => ⟨rfl, ?_⟩) ?_
    · have e1 : Means W (.num r) (E (.tmp 18)) := hV 0 18 (by kernel_rfl) (by kernel_rfl) (by kernel_rfl)
      have e2 : Means W (.num 1) (E (.tmp 19)) := hV 1 19 (by kernel_rfl) (by kernel_rfl) (by kernel_rfl)
      clear hE hV
      exact Does.call (w' := W) (by go_simp) ((add_want W _ _ r 1 (by omega) (by omega) e1 e2).mono fun e w' ⟨v, h1, h2, h3⟩ => ⟨v, h1, h2, h3⟩)
    refine AllGo.cons rfl (fun E W hb hc hf hE hV => ⟨rfl, ?_⟩) ?_
    · clear hE hV
      refine Does.value (v := .pointer (some ⟨W.heap.size, 0, none⟩)) (w' := W.alloc (.cells #[.int .u64 0, .slice none 0 0] 25)) (by go_simp) ⟨⟨W.heap.size, rfl, by have := hb.size; omega, by simp [go_sem], by simp [go_sem], by simp [go_sem], by simp [go_sem]⟩, below_alloc (Below.refl _ _) _⟩
    exact AllGo.nil
  · intro f W hf hb
    have e20 : Means W (.num (r + 1)) (f 20) := hf (2, 20) (by simp)
    have e8 : Means W (.newbox w4.heap.size) (f 8) := hf (3, 8) (by simp)
    obtain ⟨s6, p6, l6, c6, e20, hx⟩ := e20
    obtain ⟨b, e8, hgb, b0, b1, bf0, bf1⟩ := e8
    have HX := Lib.hid (hx.box (g := b) (u := .int .u64 s6) (v := .slice p6 l6 c6) b1)
    have N1 := Lib.hid ((N1.out.mono hb).box (g := b) (u := .int .u64 s6) (v := .slice p6 l6 c6) b1)
    have N5 := Lib.hid ((N5.out.mono hb).box (g := b) (u := .int .u64 s6) (v := .slice p6 l6 c6) b1)
    have za := World.block_lt_of_cell? _ _ A0; have zg := World.block_lt_of_cell? _ _ D0
    have A0 := wcell hb A0; have A1 := wcell hb A1; have D0 := wcell hb D0; have D1 := wcell hb D1
    have hzw : w.heap.size ≤ w4.heap.size := HB.out.size
    have HW := Lib.hid (below_step HB.out hb)
    clear hf hb hx B0 B1
    simp only [fillSlots]
    refine wpAny_ready (rs := [4]) (by kernel_rfl) (by simp) ?_
    refine AllReady.cons rfl (fun K hK => ?_) AllReady.nil
    go_simp
    refine hK _ _ ?_; clear hK K
    refine wpAny_done (by kernel_rfl) ?_ _
    go_wp2_with fail
    have na : a ≠ b := by omega
    have nd : g ≠ b := by omega
    have A0 := bx_other (b := b) (u := .int .u64 s6) (v := .slice p6 l6 c6) A0 na
    have A1 := bx_other (b := b) (u := .int .u64 s6) (v := .slice p6 l6 c6) A1 na
    have D0 := bx_other (b := b) (u := .int .u64 s6) (v := .slice p6 l6 c6) D0 nd
    have D1 := bx_other (b := b) (u := .int .u64 s6) (v := .slice p6 l6 c6) D1 nd
    have E0 := bx_zero (b := b) (u := .int .u64 s6) (v := .slice p6 l6 c6) b0
    have E1 := bx_one (b := b) (u := .int .u64 s6) (v := .slice p6 l6 c6) b1
    have HB := Lib.hid ((HW.out.setCell (p := ⟨b, 0, none⟩) (by show w.heap.size ≤ b; omega) (.int .u64 s6)).setCell (p := ⟨b, 1, none⟩) (by show w.heap.size ≤ b; omega) (.slice p6 l6 c6))
    clear hgb b0 b1 bf0 bf1 HW za zg hzw
    generalize (W.setCell ⟨b, 0, none⟩ (.int .u64 s6)).setCell ⟨b, 1, none⟩ (.slice p6 l6 c6) = W2 at *
    refine region_phase (T := [0, 1, 2, 3, 4, 5, 6, 7, 8, 9, 10, 11, 12, 13, 14, 15, 16, 17, 18, 19, 20, 21, 22, 23, 24, 25, 26, 27, 28, 29, 30, 31, 32, 33, 34, 35, 36, 37, 38, 39, 40, 41, 42]) (slots := [21, 22, 23, 24, 25, 26, 27, 28, 29, 30, 31, 32, 33, 34, 35, 36, 37, 38, 39, 40, 41, 42, 43, 44, 45, 46, 47, 48, 49, 50, 51, 52, 53, 54, 55, 56, 57, 58, 59, 60, 61, 62, 63]) (fuel := 1) (n := 43) (deps := [0, 1, 2, 2, 14, 2, 50, 66, 130, 320, 512, 512, 3584, 512, 12800, 16896, 33280, 81920, 131072, 131072, 917504, 1179648, 131072, 6422528, 8519680, 16908288, 41943040, 67108864, 201326592, 335544320, 67108864, 1677721600, 2214592512, 4362076160, 10737418240, 17179869184, 51539607552, 17179869184, 17179869184, 498216206336, 635655159808, 1116691496960, 2216203124736, 8796093022207]) (Tm := 8796093022207) (Lm := 8796093022207)
        (L := #[true, true, true, true, true, true, true, true, true, true, true, true, true, true, true, true, true, true, true, true, true, true, true, true, true, true, true, true, true, true, true, true, true, true, true, true, true, true, true, true, true, true, true, false])
        (V := Tab [.is (.bool true), .is (.bool true), .num r, .num r, .num (r * r), .num n, .is (.int .i64 cv), .is (.bool true), .is (.bool true), .is (.bool true), .num (r + 1), .num (r + 1), .num ((r + 1) * (r + 1)), .num n, .is (.int .i64 1), .is (.bool true), .is (.bool true), .is (.bool true), .num n, .num n, .num (n * n), .num n, .num n, .is (.int .i64 0), .is (.bool true), .is (.bool true), .is (.bool true), .num n, .num (n * 2 ^ 7), .num n, .num n, .is (.int .i64 0), .is (.bool true), .is (.bool true), .is (.bool true), .num n, .num (n * 2 ^ 1), .num n, .num n, .num (n + n), .is (.int .i64 0), .is (.bool true), .is (.bool true)] 0)
        (by kernel_rfl) rfl Tab.stable (by kernel_rfl) (by kernel_rfl) (by kernel_rfl) (by kernel_rfl) (by kernel_rfl) (by kernel_rfl) (by kernel_rfl) ?_ ?_
    · skip
      refine AllGo.cons rfl (fun E W hb hc hf hE hV => ⟨rfl, ?_⟩) ?_
      · clear hE hV
        exact Does.call (w' := W) (by go_simp) ((known_any W).mono fun e w' ⟨h1, h2⟩ => ⟨_, h1, rfl, h2⟩)
      refine AllGo.cons rfl (fun E W hb hc hf hE hV => ⟨rfl, ?_⟩) ?_
      · have e1 : E (.tmp 21) = _ := hV 0 21 (by kernel_rfl) (by kernel_rfl) (by kernel_rfl)
        clear hE hV
        exact Does.value (w' := W) (by go_simp) ⟨rfl, Below.refl _ _⟩
      refine AllGo.cons rfl (fun E W hb hc hf hE hV => ⟨wanted_of (d := 22) (b := true) rfl (by kernel_rfl) (hV 1 22 (by kernel_rfl) (by kernel_rfl) (by kernel_rfl)), ?_⟩) ?_
      · have e1 : E (.tmp 7) = .pointer (some ⟨g, 0, none⟩) := hE 7 (by kernel_rfl)
        have q := wcell hb D0
        have q' := wcell hb D1
        clear hE hV
        exact Does.value (v := .agg #[.int .u64 s5, .slice p5 l5 c5]) (w' := W) (by go_simp) ⟨⟨_, _, _, _, rfl, N5.out.mono hb⟩, Below.refl _ _⟩
      refine AllGo.cons rfl (fun E W hb hc hf hE hV => ⟨wanted_of (d := 22) (b := true) rfl (by kernel_rfl) (hV 1 22 (by kernel_rfl) (by kernel_rfl) (by kernel_rfl)), ?_⟩) ?_
      · have e1 : E (.tmp 7) = .pointer (some ⟨g, 0, none⟩) := hE 7 (by kernel_rfl)
        have q := wcell hb D0
        have q' := wcell hb D1
        clear hE hV
        exact Does.value (v := .agg #[.int .u64 s5, .slice p5 l5 c5]) (w' := W) (by go_simp) ⟨⟨_, _, _, _, rfl, N5.out.mono hb⟩, Below.refl _ _⟩
      refine AllGo.cons rfl (fun E W hb hc hf hE hV => ⟨wanted_of (d := 22) (b := true) rfl (by kernel_rfl) (hV 1 22 (by kernel_rfl) (by kernel_rfl) (by kernel_rfl)), ?_⟩) ?_
      · have e1 : Means W (.num r) (E (.tmp 23)) := hV 2 23 (by kernel_rfl) (by kernel_rfl) (by kernel_rfl)
        have e2 : Means W (.num r) (E (.tmp 24)) := hV 3 24 (by kernel_rfl) (by kernel_rfl) (by kernel_rfl)
        clear hE hV
        exact Does.call (w' := W) (by go_simp) ((mul_want W _ _ r r (by omega) (by omega) e1 e2).mono fun e w' ⟨v, h1, h2, h3⟩ => ⟨v, h1, h2, h3⟩)
      refine AllGo.cons rfl (fun E W hb hc hf hE hV => ⟨wanted_of (d := 22) (b := true) rfl (by kernel_rfl) (hV 1 22 (by kernel_rfl) (by kernel_rfl) (by kernel_rfl)), ?_⟩) ?_
      · have e1 : E (.tmp 3) = .pointer (some ⟨a, 0, none⟩) := hE 3 (by kernel_rfl)
        have q := wcell hb A0
        have q' := wcell hb A1
        clear hE hV
        exact Does.value (v := .agg #[.int .u64 s1, .slice p1 l1 c1]) (w' := W) (by go_simp) ⟨⟨_, _, _, _, rfl, N1.out.mono hb⟩, Below.refl _ _⟩
      refine AllGo.cons rfl (fun E W hb hc hf hE hV => ⟨wanted_of (d := 22) (b := true) rfl (by kernel_rfl) (hV 1 22 (by kernel_rfl) (by kernel_rfl) (by kernel_rfl)), ?_⟩) ?_
      · have e1 : Means W (.num (r * r)) (E (.tmp 25)) := hV 4 25 (by kernel_rfl) (by kernel_rfl) (by kernel_rfl)
        have e2 : Means W (.num n) (E (.tmp 26)) := hV 5 26 (by kernel_rfl) (by kernel_rfl) (by kernel_rfl)
        clear hE hV
        exact Does.call (w' := W) (by go_simp) ((cmp_want W _ _ (r * r) n (by omega) e1 e2).mono fun e w' ⟨v, h1, h2, h3⟩ => ⟨v, h1, h2.trans (congrArg (Value.int .i64) HCV.out.symm), h3⟩)
      refine AllGo.cons rfl (fun E W hb hc hf hE hV => ⟨wanted_of (d := 22) (b := true) rfl (by kernel_rfl) (hV 1 22 (by kernel_rfl) (by kernel_rfl) (by kernel_rfl)), ?_⟩) ?_
      · have e1 : E (.tmp 27) = _ := hV 6 27 (by kernel_rfl) (by kernel_rfl) (by kernel_rfl)
        clear hE hV
        exact Does.value (w' := W) (by go_simp) ⟨rfl, Below.refl _ _⟩
      refine AllGo.cons rfl (fun E W hb hc hf hE hV => ⟨rfl, ?_⟩) ?_
      · have e1 : E (.tmp 22) = _ := hV 1 22 (by kernel_rfl) (by kernel_rfl) (by kernel_rfl)
        have e2 : E (.tmp 28) = _ := hV 7 28 (by kernel_rfl) (by kernel_rfl) (by kernel_rfl)
        clear hE hV
        exact Does.value (w' := W) (by go_simp) ⟨rfl, Below.refl _ _⟩
      refine AllGo.cons rfl (fun E W hb hc hf hE hV => ⟨rfl, ?_⟩) ?_
      · have e1 : E (.tmp 29) = _ := hV 8 29 (by kernel_rfl) (by kernel_rfl) (by kernel_rfl)
        clear hE hV
        exact Does.value (w' := W) (by go_simp) ⟨rfl, Below.refl _ _⟩
      refine AllGo.cons rfl (fun E W hb hc hf hE hV => ⟨wanted_of (d := 30) (b := true) rfl (by kernel_rfl) (hV 9 30 (by kernel_rfl) (by kernel_rfl) (by kernel_rfl)), ?_⟩) ?_
      · have e1 : E (.tmp 8) = .pointer (some ⟨b, 0, none⟩) := hE 8 (by kernel_rfl)
        have q := wcell hb E0
        have q' := wcell hb E1
        clear hE hV
        exact Does.value (v := .agg #[.int .u64 s6, .slice p6 l6 c6]) (w' := W) (by go_simp) ⟨⟨_, _, _, _, rfl, HX.out.mono hb⟩, Below.refl _ _⟩
      refine AllGo.cons rfl (fun E W hb hc hf hE hV => ⟨wanted_of (d := 30) (b := true) rfl (by kernel_rfl) (hV 9 30 (by kernel_rfl) (by kernel_rfl) (by kernel_rfl)), ?_⟩) ?_
      · have e1 : E (.tmp 8) = .pointer (some ⟨b, 0, none⟩) := hE 8 (by kernel_rfl)
        have q := wcell hb E0
        have q' := wcell hb E1
        clear hE hV
        exact Does.value (v := .agg #[.int .u64 s6, .slice p6 l6 c6]) (w' := W) (by go_simp) ⟨⟨_, _, _, _, rfl, HX.out.mono hb⟩, Below.refl _ _⟩
      refine AllGo.cons rfl (fun E W hb hc hf hE hV => ⟨wanted_of (d := 30) (b := true) rfl (by kernel_rfl) (hV 9 30 (by kernel_rfl) (by kernel_rfl) (by kernel_rfl)), ?_⟩) ?_
      · have e1 : Means W (.num (r + 1)) (E (.tmp 31)) := hV 10 31 (by kernel_rfl) (by kernel_rfl) (by kernel_rfl)
        have e2 : Means W (.num (r + 1)) (E (.tmp 32)) := hV 11 32 (by kernel_rfl) (by kernel_rfl) (by kernel_rfl)
        clear hE hV
        exact Does.call (w' := W) (by go_simp) ((mul_want W _ _ (r + 1) (r + 1) (by omega) (by omega) e1 e2).mono fun e w' ⟨v, h1, h2, h3⟩ => ⟨v, h1, h2, h3⟩)
      refine AllGo.cons rfl (fun E W hb hc hf hE hV => ⟨wanted_of (d := 30) (b := true) rfl (by kernel_rfl) (hV 9 30 (by kernel_rfl) (by kernel_rfl) (by kernel_rfl)), ?_⟩) ?_
      · have e1 : E (.tmp 3) = .pointer (some ⟨a, 0, none⟩) := hE 3 (by kernel_rfl)
        have q := wcell hb A0
        have q' := wcell hb A1
        clear hE hV
        exact Does.value (v := .agg #[.int .u64 s1, .slice p1 l1 c1]) (w' := W) (by go_simp) ⟨⟨_, _, _, _, rfl, N1.out.mono hb⟩, Below.refl _ _⟩
      refine AllGo.cons rfl (fun E W hb hc hf hE hV => ⟨wanted_of (d := 30) (b := true) rfl (by kernel_rfl) (hV 9 30 (by kernel_rfl) (by kernel_rfl) (by kernel_rfl)), ?_⟩) ?_
      · have e1 : Means W (.num ((r + 1) * (r + 1))) (E (.tmp 33)) := hV 12 33 (by kernel_rfl) (by kernel_rfl) (by kernel_rfl)
        have e2 : Means W (.num n) (E (.tmp 34)) := hV 13 34 (by kernel_rfl) (by kernel_rfl) (by kernel_rfl)
        clear hE hV
        exact Does.call (w' := W) (by go_simp) ((cmp_want W _ _ ((r + 1) * (r + 1)) n (by omega) e1 e2).mono fun e w' ⟨v, h1, h2, h3⟩ => ⟨v, h1, h2.trans (congrArg (Value.int .i64) HGT.out), h3⟩)
      refine AllGo.cons rfl (fun E W hb hc hf hE hV => ⟨wanted_of (d := 30) (b := true) rfl (by kernel_rfl) (hV 9 30 (by kernel_rfl) (by kernel_rfl) (by kernel_rfl)), ?_⟩) ?_
      · have e1 : E (.tmp 35) = _ := hV 14 35 (by kernel_rfl) (by kernel_rfl) (by kernel_rfl)
        clear hE hV
        exact Does.value (w' := W) (by go_simp) ⟨rfl, Below.refl _ _⟩
      refine AllGo.cons rfl (fun E W hb hc hf hE hV => ⟨rfl, ?_⟩) ?_
      · have e1 : E (.tmp 30) = _ := hV 9 30 (by kernel_rfl) (by kernel_rfl) (by kernel_rfl)
        have e2 : E (.tmp 36) = _ := hV 15 36 (by kernel_rfl) (by kernel_rfl) (by kernel_rfl)
        clear hE hV
        exact Does.value (w' := W) (by go_simp) ⟨rfl, Below.refl _ _⟩
      refine AllGo.cons rfl (fun E W hb hc hf hE hV => ⟨rfl, ?_⟩) ?_
      · have e1 : E (.tmp 37) = _ := hV 16 37 (by kernel_rfl) (by kernel_rfl) (by kernel_rfl)
        clear hE hV
        exact Does.value (w' := W) (by go_simp) ⟨rfl, Below.refl _ _⟩
      refine AllGo.cons rfl (fun E W hb hc hf hE hV => ⟨wanted_of (d := 38) (b := true) rfl (by kernel_rfl) (hV 17 38 (by kernel_rfl) (by kernel_rfl) (by kernel_rfl)), ?_⟩) ?_
      · have e1 : E (.tmp 3) = .pointer (some ⟨a, 0, none⟩) := hE 3 (by kernel_rfl)
        have q := wcell hb A0
        have q' := wcell hb A1
        clear hE hV
        exact Does.value (v := .agg #[.int .u64 s1, .slice p1 l1 c1]) (w' := W) (by go_simp) ⟨⟨_, _, _, _, rfl, N1.out.mono hb⟩, Below.refl _ _⟩
      refine AllGo.cons rfl (fun E W hb hc hf hE hV => ⟨wanted_of (d := 38) (b := true) rfl (by kernel_rfl) (hV 17 38 (by kernel_rfl) (by kernel_rfl) (by kernel_rfl)), ?_⟩) ?_
      · have e1 : E (.tmp 3) = .pointer (some ⟨a, 0, none⟩) := hE 3 (by kernel_rfl)
        have q := wcell hb A0
        have q' := wcell hb A1
        clear hE hV
        exact Does.value (v := .agg #[.int .u64 s1, .slice p1 l1 c1]) (w' := W) (by go_simp) ⟨⟨_, _, _, _, rfl, N1.out.mono hb⟩, Below.refl _ _⟩
      refine AllGo.cons rfl (fun E W hb hc hf hE hV => ⟨wanted_of (d := 38) (b := true) rfl (by kernel_rfl) (hV 17 38 (by kernel_rfl) (by kernel_rfl) (by kernel_rfl)), ?_⟩) ?_
      · have e1 : Means W (.num n) (E (.tmp 39)) := hV 18 39 (by kernel_rfl) (by kernel_rfl) (by kernel_rfl)
        have e2 : Means W (.num n) (E (.tmp 40)) := hV 19 40 (by kernel_rfl) (by kernel_rfl) (by kernel_rfl)
        clear hE hV
        exact Does.call (w' := W) (by go_simp) ((mul_want W _ _ n n (by omega) (by omega) e1 e2).mono fun e w' ⟨v, h1, h2, h3⟩ => ⟨v, h1, h2, h3⟩)
      refine AllGo.cons rfl (fun E W hb hc hf hE hV => ⟨wanted_of (d := 38) (b := true) rfl (by kernel_rfl) (hV 17 38 (by kernel_rfl) (by kernel_rfl) (by kernel_rfl)), ?_⟩) ?_
      · have e1 : Means W (.num (n * n)) (E (.tmp 41)) := hV 20 41 (by kernel_rfl) (by kernel_rfl) (by kernel_rfl)
        clear hE hV
        exact Does.call (w' := W) (by go_simp) ((root_want W _ (n * n) n (Nat.le_refl _) HNR.out (by omega) e1).mono fun e w' ⟨v, h1, h2, h3⟩ => ⟨v, h1, h2, h3⟩)
      refine AllGo.cons rfl (fun E W hb hc hf hE hV => ⟨wanted_of (d := 38) (b := true) rfl (by kernel_rfl) (hV 17 38 (by kernel_rfl) (by kernel_rfl) (by kernel_rfl)), ?_⟩) ?_
      · have e1 : E (.tmp 3) = .pointer (some ⟨a, 0, none⟩) := hE 3 (by kernel_rfl)
        have q := wcell hb A0
        have q' := wcell hb A1
        clear hE hV
        exact Does.value (v := .agg #[.int .u64 s1, .slice p1 l1 c1]) (w' := W) (by go_simp) ⟨⟨_, _, _, _, rfl, N1.out.mono hb⟩, Below.refl _ _⟩
      refine AllGo.cons rfl (fun E W hb hc hf hE hV => ⟨wanted_of (d := 38) (b := true) rfl (by kernel_rfl) (hV 17 38 (by kernel_rfl) (by kernel_rfl) (by kernel_rfl)), ?_⟩) ?_
      · have e1 : Means W (.num n) (E (.tmp 42)) := hV 21 42 (by kernel_rfl) (by kernel_rfl) (by kernel_rfl)
        have e2 : Means W (.num n) (E (.tmp 43)) := hV 22 43 (by kernel_rfl) (by kernel_rfl) (by kernel_rfl)
        clear hE hV
        exact Does.call (w' := W) (by go_simp) ((cmp_want W _ _ n n (by omega) e1 e2).mono fun e w' ⟨v, h1, h2, h3⟩ => ⟨v, h1, h2.trans (congrArg (Value.int .i64) (cmp3_eq _)), h3⟩)
      refine AllGo.cons rfl (fun E W hb hc hf hE hV => ⟨wanted_of (d := 38) (b := true) rfl (by kernel_rfl) (hV 17 38 (by kernel_rfl) (by kernel_rfl) (by kernel_rfl)), ?_⟩) ?_
      · have e1 : E (.tmp 44) = _ := hV 23 44 (by kernel_rfl) (by kernel_rfl) (by kernel_rfl)
        clear hE hV
        exact Does.value (w' := W) (by go_simp) ⟨rfl, Below.refl _ _⟩
      refine AllGo.cons rfl (fun E W hb hc hf hE hV => ⟨rfl, ?_⟩) ?_
      · have e1 : E (.tmp 38) = _ := hV 17 38 (by kernel_rfl) (by kernel_rfl) (by kernel_rfl)
        have e2 : E (.tmp 45) = _ := hV 24 45 (by kernel_rfl) (by kernel_rfl) (by kernel_rfl)
        clear hE hV
        exact Does.value (w' := W) (by go_simp) ⟨rfl, Below.refl _ _⟩
      refine AllGo.cons rfl (fun E W hb hc hf hE hV => ⟨rfl, ?_⟩) ?_
      · have e1 : E (.tmp 46) = _ := hV 25 46 (by kernel_rfl) (by kernel_rfl) (by kernel_rfl)
        clear hE hV
        exact Does.value (w' := W) (by go_simp) ⟨rfl, Below.refl _ _⟩
      refine AllGo.cons rfl (fun E W hb hc hf hE hV => ⟨wanted_of (d := 47) (b := true) rfl (by kernel_rfl) (hV 26 47 (by kernel_rfl) (by kernel_rfl) (by kernel_rfl)), ?_⟩) ?_
      · have e1 : E (.tmp 3) = .pointer (some ⟨a, 0, none⟩) := hE 3 (by kernel_rfl)
        have q := wcell hb A0
        have q' := wcell hb A1
        clear hE hV
        exact Does.value (v := .agg #[.int .u64 s1, .slice p1 l1 c1]) (w' := W) (by go_simp) ⟨⟨_, _, _, _, rfl, N1.out.mono hb⟩, Below.refl _ _⟩
      refine AllGo.cons rfl (fun E W hb hc hf hE hV => ⟨wanted_of (d := 47) (b := true) rfl (by kernel_rfl) (hV 26 47 (by kernel_rfl) (by kernel_rfl) (by kernel_rfl)), ?_⟩) ?_
      · have e1 : Means W (.num n) (E (.tmp 48)) := hV 27 48 (by kernel_rfl) (by kernel_rfl) (by kernel_rfl)
        clear hE hV
        exact Does.call (w' := W) (by go_simp) ((shiftUp_want W _ n 7 (by omega) (by omega) e1).mono fun e w' ⟨v, h1, h2, h3⟩ => ⟨v, h1, h2, h3⟩)
      refine AllGo.cons rfl (fun E W hb hc hf hE hV => ⟨wanted_of (d := 47) (b := true) rfl (by kernel_rfl) (hV 26 47 (by kernel_rfl) (by kernel_rfl) (by kernel_rfl)), ?_⟩) ?_
      · have e1 : Means W (.num (n * 2 ^ 7)) (E (.tmp 49)) := hV 28 49 (by kernel_rfl) (by kernel_rfl) (by kernel_rfl)
        clear hE hV
        exact Does.call (w' := W) (by go_simp) ((shiftDown_want W _ (n * 2 ^ 7) 7 (by omega) (by omega) (by omega) e1).mono fun e w' ⟨v, h1, h2, h3⟩ => ⟨v, h1, by rw [Nat.mul_div_cancel n (Nat.two_pow_pos 7)] at h2; exact h2, h3⟩)
      refine AllGo.cons rfl (fun E W hb hc hf hE hV => ⟨wanted_of (d := 47) (b := true) rfl (by kernel_rfl) (hV 26 47 (by kernel_rfl) (by kernel_rfl) (by kernel_rfl)), ?_⟩) ?_
      · have e1 : E (.tmp 3) = .pointer (some ⟨a, 0, none⟩) := hE 3 (by kernel_rfl)
        have q := wcell hb A0
        have q' := wcell hb A1
        clear hE hV
        exact Does.value (v := .agg #[.int .u64 s1, .slice p1 l1 c1]) (w' := W) (by go_simp) ⟨⟨_, _, _, _, rfl, N1.out.mono hb⟩, Below.refl _ _⟩
      refine AllGo.cons rfl (fun E W hb hc hf hE hV => ⟨wanted_of (d := 47) (b := true) rfl (by kernel_rfl) (hV 26 47 (by kernel_rfl) (by kernel_rfl) (by kernel_rfl)), ?_⟩) ?_
      · have e1 : Means W (.num n) (E (.tmp 50)) := hV 29 50 (by kernel_rfl) (by kernel_rfl) (by kernel_rfl)
        have e2 : Means W (.num n) (E (.tmp 51)) := hV 30 51 (by kernel_rfl) (by kernel_rfl) (by kernel_rfl)
        clear hE hV
        exact Does.call (w' := W) (by go_simp) ((cmp_want W _ _ n n (by omega) e1 e2).mono fun e w' ⟨v, h1, h2, h3⟩ => ⟨v, h1, h2.trans (congrArg (Value.int .i64) (cmp3_eq _)), h3⟩)
      refine AllGo.cons rfl (fun E W hb hc hf hE hV => ⟨wanted_of (d := 47) (b := true) rfl (by kernel_rfl) (hV 26 47 (by kernel_rfl) (by kernel_rfl) (by kernel_rfl)), ?_⟩) ?_
      · have e1 : E (.tmp 52) = _ := hV 31 52 (by kernel_rfl) (by kernel_rfl) (by kernel_rfl)
        clear hE hV
        exact Does.value (w' := W) (by go_simp) ⟨rfl, Below.refl _ _⟩
      refine AllGo.cons rfl (fun E W hb hc hf hE hV => ⟨rfl, ?_⟩) ?_
      · have e1 : E (.tmp 47) = _ := hV 26 47 (by kernel_rfl) (by kernel_rfl) (by kernel_rfl)
        have e2 : E (.tmp 53) = _ := hV 32 53 (by kernel_rfl) (by kernel_rfl) (by kernel_rfl)
        clear hE hV
        exact Does.value (w' := W) (by go_simp) ⟨rfl, Below.refl _ _⟩
      refine AllGo.cons rfl (fun E W hb hc hf hE hV => ⟨rfl, ?_⟩) ?_
      · have e1 : E (.tmp 54) = _ := hV 33 54 (by kernel_rfl) (by kernel_rfl) (by kernel_rfl)
        clear hE hV
        exact Does.value (w' := W) (by go_simp) ⟨rfl, Below.refl _ _⟩
      refine AllGo.cons rfl (fun E W hb hc hf hE hV => ⟨wanted_of (d := 55) (b := true) rfl (by kernel_rfl) (hV 34 55 (by kernel_rfl) (by kernel_rfl) (by kernel_rfl)), ?_⟩) ?_
      · have e1 : E (.tmp 3) = .pointer (some ⟨a, 0, none⟩) := hE 3 (by kernel_rfl)
        have q := wcell hb A0
        have q' := wcell hb A1
        clear hE hV
        exact Does.value (v := .agg #[.int .u64 s1, .slice p1 l1 c1]) (w' := W) (by go_simp) ⟨⟨_, _, _, _, rfl, N1.out.mono hb⟩, Below.refl _ _⟩
      refine AllGo.cons rfl (fun E W hb hc hf hE hV => ⟨wanted_of (d := 55) (b := true) rfl (by kernel_rfl) (hV 34 55 (by kernel_rfl) (by kernel_rfl) (by kernel_rfl)), ?_⟩) ?_
      · have e1 : Means W (.num n) (E (.tmp 56)) := hV 35 56 (by kernel_rfl) (by kernel_rfl) (by kernel_rfl)
        clear hE hV
        exact Does.call (w' := W) (by go_simp) ((shiftUp_want W _ n 1 (by omega) (by omega) e1).mono fun e w' ⟨v, h1, h2, h3⟩ => ⟨v, h1, h2, h3⟩)
      refine AllGo.cons rfl (fun E W hb hc hf hE hV => ⟨wanted_of (d := 55) (b := true) rfl (by kernel_rfl) (hV 34 55 (by kernel_rfl) (by kernel_rfl) (by kernel_rfl)), ?_⟩) ?_
      · have e1 : E (.tmp 3) = .pointer (some ⟨a, 0, none⟩) := hE 3 (by kernel_rfl)
        have q := wcell hb A0
        have q' := wcell hb A1
        clear hE hV
        exact Does.value (v := .agg #[.int .u64 s1, .slice p1 l1 c1]) (w' := W) (by go_simp) ⟨⟨_, _, _, _, rfl, N1.out.mono hb⟩, Below.refl _ _⟩
      refine AllGo.cons rfl (fun E W hb hc hf hE hV => ⟨wanted_of (d := 55) (b := true) rfl (by kernel_rfl) (hV 34 55 (by kernel_rfl) (by kernel_rfl) (by kernel_rfl)), ?_⟩) ?_
      · have e1 : E (.tmp 3) = .pointer (some ⟨a, 0, none⟩) := hE 3 (by kernel_rfl)
        have q := wcell hb A0
        have q' := wcell hb A1
        clear hE hV
        exact Does.value (v := .agg #[.int .u64 s1, .slice p1 l1 c1]) (w' := W) (by go_simp) ⟨⟨_, _, _, _, rfl, N1.out.mono hb⟩, Below.refl _ _⟩
      refine AllGo.cons rfl (fun E W hb hc hf hE hV => ⟨wanted_of (d := 55) (b := true) rfl (by kernel_rfl) (hV 34 55 (by kernel_rfl) (by kernel_rfl) (by kernel_rfl)), ?_⟩) ?_
      · have e1 : Means W (.num n) (E (.tmp 58)) := hV 37 58 (by kernel_rfl) (by kernel_rfl) (by kernel_rfl)
        have e2 : Means W (.num n) (E (.tmp 59)) := hV 38 59 (by kernel_rfl) (by kernel_rfl) (by kernel_rfl)
        clear hE hV
        exact Does.call (w' := W) (by go_simp) ((add_want W _ _ n n (by omega) (by omega) e1 e2).mono fun e w' ⟨v, h1, h2, h3⟩ => ⟨v, h1, h2, h3⟩)
      refine AllGo.cons rfl (fun E W hb hc hf hE hV => ⟨wanted_of (d := 55) (b := true) rfl (by kernel_rfl) (hV 34 55 (by kernel_rfl) (by kernel_rfl) (by kernel_rfl)), ?_⟩) ?_
      · have e1 : Means W (.num (n * 2 ^ 1)) (E (.tmp 57)) := hV 36 57 (by kernel_rfl) (by kernel_rfl) (by kernel_rfl)
        have e2 : Means W (.num (n + n)) (E (.tmp 60)) := hV 39 60 (by kernel_rfl) (by kernel_rfl) (by kernel_rfl)
        clear hE hV
        exact Does.call (w' := W) (by go_simp) ((cmp_want W _ _ (n * 2 ^ 1) (n + n) (by omega) e1 e2).mono fun e w' ⟨v, h1, h2, h3⟩ => ⟨v, h1, h2.trans (congrArg (Value.int .i64) (by rw [show n * 2 ^ 1 = n + n by omega]; exact cmp3_eq _)), h3⟩)
      refine AllGo.cons rfl (fun E W hb hc hf hE hV => ⟨wanted_of (d := 55) (b := true) rfl (by kernel_rfl) (hV 34 55 (by kernel_rfl) (by kernel_rfl) (by kernel_rfl)), ?_⟩) ?_
      · have e1 : E (.tmp 61) = _ := hV 40 61 (by kernel_rfl) (by kernel_rfl) (by kernel_rfl)
        clear hE hV
        exact Does.value (w' := W) (by go_simp) ⟨rfl, Below.refl _ _⟩
      refine AllGo.cons rfl (fun E W hb hc hf hE hV => ⟨rfl, ?_⟩) ?_
      · have e1 : E (.tmp 55) = _ := hV 34 55 (by kernel_rfl) (by kernel_rfl) (by kernel_rfl)
        have e2 : E (.tmp 62) = _ := hV 41 62 (by kernel_rfl) (by kernel_rfl) (by kernel_rfl)
        clear hE hV
        exact Does.value (w' := W) (by go_simp) ⟨rfl, Below.refl _ _⟩
      exact AllGo.nil
    · intro f W hf hb
      have e63 : f 63 = .bool true := hf (42, 63) (by simp)
      have HW := Lib.hid (below_step HB.out hb)
      clear hf hb
      simp only [fillSlots]
      refine wpAny_ready (rs := [43]) (by kernel_rfl) (by simp) ?_
      refine AllReady.cons rfl (fun K hK => ?_) AllReady.nil
      go_simp
      refine hK _ _ ?_; clear hK K
      refine wpAny_done (by kernel_rfl) ?_ _
      go_wp2
      go_ret
      exact ⟨by simp, HW.out⟩
end Go.Proofs.YtmhpaadanpianaaDoor
