/- Comparing the program's numbers. -/
import Derived.Test.YthenfejgnjdkjaaGreatDoorLeaf
namespace Go.Proofs.YthenfejgnjdkjaaGreatDoor
open Go.RowKit

set_option maxHeartbeats 400000 in
theorem compare_len (p q : Option Addr) (l k c d : Nat) (h : l ≠ k) (w : World) :
    Calls Tryz.prog 63 #[.slice p l c, .slice q k d] w fun e w' => w = w' ∧ e = .returned (.int .i64 (cmp3 l k)) := by
  have d0 : ((l : Int) != k) = true := by rw [bne_iff_ne]; omega
  clear h
  go_enter Tryz.func63, Tryz.ntmps63
  go_wp2_with (go_at_call 87; refine (cmpI_any _ _ _).mono ?_; rintro e w1 ⟨rfl, rfl⟩)
  go_ret
  exact ⟨rfl, rfl⟩

def RetC (W : World) (x y : Nat) : Ending → World → Prop := fun e w' => e = .returned (.int .i64 (cmp3 x y)) ∧ Below W.heap.size W w'

set_option maxHeartbeats 800000 in
theorem compare_same (b off c b2 off2 d n : Nat) (xs ys : List Nat) (w : World) (hx : xs.length = n) (hy : ys.length = n) (hn : n ≤ 281474976710656)
    (h1 : At w .u64 b off xs) (h2 : At w .u64 b2 off2 ys) (hX : ∀ x ∈ xs, x < 2 ^ 64) (hY : ∀ x ∈ ys, x < 2 ^ 64) :
    Calls Tryz.prog 63 #[.slice (some ⟨b, off, none⟩) n c, .slice (some ⟨b2, off2, none⟩) n d] w (RetC w (val (2 ^ 64) xs) (val (2 ^ 64) ys)) := by
  have H1 := Lib.hid h1; have H2 := Lib.hid h2; have HX := Lib.hid hX; have HY := Lib.hid hY; have HL := Lib.hid hx; have HL2 := Lib.hid hy
  clear h1 h2 hX hY hx hy
  go_enter Tryz.func63, Tryz.ntmps63
  go_wp2
  go_loopw [5] (fun i wr => ∃ k : Nat, k ≤ n ∧ i = .int .i64 ((k : Int) - 1) ∧ Hid (xs.drop k = ys.drop k) ∧ Below w.heap.size w wr) (fun i _ => (intOf i + 1).toNat)
  case atStart => exact ⟨n, Nat.le_refl _, rfl, Lib.hid (by rw [List.drop_of_length_le (by rw [HL.out]; omega), List.drop_of_length_le (by rw [HL2.out]; omega)]), Below.refl _ _⟩
  case round =>
    obtain ⟨k, hk, rfl, HE, hb⟩ := hrel
    cases k with
    | zero =>
      go_wp2
      go_ret
      have e : xs = ys := by simpa using HE.out
      exact ⟨ret_int (by rw [e, cmp3_eq]), hb⟩
    | succ m =>
      have c1 := H1.out.mono hb m (by rw [HL.out]; omega)
      have c2 := H2.out.mono hb m (by rw [HL2.out]; omega)
      have hz : xs.getD m 0 < ys.getD m 0 ∨ xs.getD m 0 = ys.getD m 0 ∨ ys.getD m 0 < xs.getD m 0 := by omega
      generalize gx : xs.getD m 0 = x at *
      generalize gy : ys.getD m 0 = y at *
      have GX := Lib.hid gx; have GY := Lib.hid gy; clear gx gy
      have i0 : (0 : Int) ≤ m := by omega
      have i1 : (m : Int) < n := by omega
      rcases hz with hz | rfl | hz
      · have d0 : ((x : Int) != y) = true := by rw [bne_iff_ne]; omega
        go_wp2_with fail
        go_quiet (fail)
        go_wp2
        go_quiet ((go_at_call 62; exact quiet_eq_add (cmpU_any _ _ _)))
        go_wp2
        go_ret
        have hv := val_lt_of_top (b := 2 ^ 64) (xs := xs) (ys := ys) (m := m) (by rw [HL.out, HL2.out]) (by rw [HL.out]; omega) HX.out HE.out (by rw [GX.out, GY.out]; exact hz)
        exact ⟨ret_int (by rw [cmp3_lt (by omega), cmp3_lt (by exact_mod_cast hv)]), below_drewN (below_drewN hb _) _⟩
      · have d0 : ((x : Int) != x) = false := by simp
        go_wp2_with fail
        go_quiet (fail)
        go_wp2
        go_roundw
        case rel => exact ⟨m, by omega, by go_num, Lib.hid (by
          rw [List.drop_eq_getElem_cons (by rw [HL.out]; omega : m < xs.length), List.drop_eq_getElem_cons (by rw [HL2.out]; omega : m < ys.length), HE.out]
          congr 1
          have e1 := GX.out; have e2 := GY.out
          simp only [List.getD, List.getElem?_eq_getElem (by rw [HL.out]; omega : m < xs.length), List.getElem?_eq_getElem (by rw [HL2.out]; omega : m < ys.length), Option.getD_some] at e1 e2
          rw [e1, e2]), below_drewN hb _⟩
        case measure => simp [intOf]
      · have d0 : ((x : Int) != y) = true := by rw [bne_iff_ne]; omega
        go_wp2_with fail
        go_quiet (fail)
        go_wp2
        go_quiet ((go_at_call 62; exact quiet_eq_add (cmpU_any _ _ _)))
        go_wp2
        go_ret
        have hv := val_lt_of_top (b := 2 ^ 64) (xs := ys) (ys := xs) (m := m) (by rw [HL.out, HL2.out]) (by rw [HL2.out]; omega) HY.out HE.out.symm (by rw [GX.out, GY.out]; exact hz)
        exact ⟨ret_int (by rw [cmp3_gt (by omega), cmp3_gt (by exact_mod_cast hv)]), below_drewN (below_drewN hb _) _⟩

theorem cmp_ds {m n : Nat} (h : (ds m).length ≠ (ds n).length) : cmp3 (ds m).length (ds n).length = cmp3 m n := by
  by_cases hlt : m < n
  · have := ds_mono (Nat.le_of_lt hlt)
    rw [cmp3_lt (by omega), cmp3_lt (by omega)]
  · have := ds_mono (Nat.le_of_not_lt hlt)
    have : m ≠ n := by intro e; rw [e] at h; exact h rfl
    rw [cmp3_gt (by omega), cmp3_gt (by omega)]

theorem compare_ds (m n b off c b2 off2 d : Nat) (hm : (ds m).length ≤ 281474976710656) (w : World) (h1 : At w .u64 b off (ds m)) (h2 : At w .u64 b2 off2 (ds n)) :
    Calls Tryz.prog 63 #[.slice (some ⟨b, off, none⟩) (ds m).length c, .slice (some ⟨b2, off2, none⟩) (ds n).length d] w (RetC w m n) := by
  by_cases h : (ds m).length = (ds n).length
  · have := compare_same b off c b2 off2 d (ds m).length (ds m) (ds n) w rfl h.symm hm h1 h2 (ds_lt m) (ds_lt n)
    rw [val_ds, val_ds] at this
    rw [← h]
    exact this
  · refine (compare_len _ _ _ _ c d h w).mono fun e w' ⟨h3, h4⟩ => ?_
    subst h3
    rw [h4, cmp_ds h]
    exact ⟨rfl, Below.refl _ _⟩

set_option maxHeartbeats 400000 in
theorem cmp_ss (m n : Nat) (w : World) :
    Calls Tryz.prog 37 #[.agg #[.int .u64 (m : Int), .slice none 0 0], .agg #[.int .u64 (n : Int), .slice none 0 0]] w (RetC w m n) := by
  go_enter Tryz.func37, Tryz.ntmps37
  go_wp2_with fail
  refine (short_yes _ _ _ _).mono ?_
  rintro e w1 ⟨rfl, hb⟩
  obtain ⟨hc, hf⟩ := bcell hb
  have hz : w.heap.size + 1 < w1.heap.size := by have := hb.size; simp at this; omega
  go_wp2_with fail
  refine (short_yes _ _ _ _).mono ?_
  rintro e w2 ⟨rfl, hb2⟩
  replace hb2 := below_step hb hb2
  obtain ⟨hc2, hf2⟩ := bcell hb2
  go_wp2_with fail
  refine (cmpU_any _ _ _).mono ?_
  rintro e w3 ⟨rfl, rfl⟩
  go_wp2
  go_ret
  exact ⟨rfl, (by repeat' first | exact Below.refl _ _ | refine below_alloc ?_ _ | refine below_step ?_ (by assumption))⟩

set_option maxHeartbeats 400000 in
theorem cmp_l (s t : Int) (p q : Option Addr) (l k c d m n : Nat) (hl : 0 < l) (w : World) (T : ∀ w', Below w.heap.size w w' → Calls Tryz.prog 63 #[.slice p l c, .slice q k d] w' (RetC w' m n)) :
    Calls Tryz.prog 37 #[.agg #[.int .u64 s, .slice p l c], .agg #[.int .u64 t, .slice q k d]] w (RetC w m n) := by
  have HT := Lib.hid T; clear T
  go_enter Tryz.func37, Tryz.ntmps37
  go_wp2_with fail
  refine (short_no _ _ _ _ hl _).mono ?_
  rintro e w1 ⟨rfl, hb⟩
  obtain ⟨hc, hf⟩ := bcell hb
  have HB : Below w.heap.size w w1 := (by repeat' first | exact Below.refl _ _ | refine below_alloc ?_ _ | refine below_step ?_ (by assumption))
  have hz : w.heap.size + 1 < w1.heap.size := by have := hb.size; simp at this; omega
  go_wp2_with fail
  refine (HT.out w1 HB).mono ?_
  rintro e w2 ⟨rfl, hb2⟩
  go_wp2
  go_ret
  exact ⟨rfl, (by repeat' first | exact Below.refl _ _ | refine below_alloc ?_ _ | refine below_step ?_ (by assumption))⟩

set_option maxHeartbeats 400000 in
theorem cmp_sl (s t : Int) (p q : Option Addr) (k c d m n : Nat) (hl : 0 < k) (w : World) (T : ∀ w', Below w.heap.size w w' → Calls Tryz.prog 63 #[.slice p 0 c, .slice q k d] w' (RetC w' m n)) :
    Calls Tryz.prog 37 #[.agg #[.int .u64 s, .slice p 0 c], .agg #[.int .u64 t, .slice q k d]] w (RetC w m n) := by
  have HT := Lib.hid T; clear T
  go_enter Tryz.func37, Tryz.ntmps37
  go_wp2_with fail
  refine (short_yes _ _ _ _).mono ?_
  rintro e w1 ⟨rfl, hb⟩
  obtain ⟨hc, hf⟩ := bcell hb
  have HB : Below w.heap.size w w1 := (by repeat' first | exact Below.refl _ _ | refine below_alloc ?_ _ | refine below_step ?_ (by assumption))
  have hz : w.heap.size + 1 < w1.heap.size := by have := hb.size; simp at this; omega
  go_wp2_with fail
  refine (short_no _ _ _ _ hl _).mono ?_
  rintro e w2 ⟨rfl, hb2⟩
  have HB2 : Below w.heap.size w w2 := below_step HB hb2
  replace hb2 := below_step hb hb2
  obtain ⟨hc2, hf2⟩ := bcell hb2
  go_wp2_with fail
  refine (HT.out w2 HB2).mono ?_
  rintro e w3 ⟨rfl, hb3⟩
  go_wp2
  go_ret
  exact ⟨rfl, below_step HB2 hb3⟩

theorem cmp_any (s t : Int) (p q : Option Addr) (l k c d m n : Nat) (w : World) (h1 : IsN w s p l c m) (h2 : IsN w t q k d n) (hm : (ds m).length ≤ 281474976710656) :
    Calls Tryz.prog 37 #[.agg #[.int .u64 s, .slice p l c], .agg #[.int .u64 t, .slice q k d]] w (RetC w m n) := by
  rcases h1 with ⟨a1, rfl, rfl, rfl, rfl⟩ | ⟨a1, rfl, b, off, rfl, a3, a4, a5⟩
  · rcases h2 with ⟨b1, rfl, rfl, rfl, rfl⟩ | ⟨b1, rfl, b', off', rfl, b3, b4, b5⟩
    · exact cmp_ss m n w
    · have := ds_pos n
      refine cmp_sl _ _ _ _ _ _ _ m n (by omega) w fun w' _ => ?_
      refine (compare_len _ _ 0 k 0 d (by omega) w').mono fun e w1 ⟨e1, e2⟩ => ?_
      subst e1
      rw [e2, cmp3_lt (by omega)]
      exact ⟨by rw [cmp3_lt (by omega)], Below.refl _ _⟩
  · have hm0 := ds_pos m
    rcases h2 with ⟨b1, rfl, rfl, rfl, rfl⟩ | ⟨b1, rfl, b', off', rfl, b3, b4, b5⟩
    · refine cmp_l _ _ _ _ _ _ _ _ m n (by omega) w fun w' _ => ?_
      refine (compare_len _ _ l 0 c 0 (by omega) w').mono fun e w1 ⟨e1, e2⟩ => ?_
      subst e1
      rw [e2, cmp3_gt (by omega)]
      exact ⟨by rw [cmp3_gt (by omega)], Below.refl _ _⟩
    · refine cmp_l _ _ _ _ _ _ _ _ m n (by omega) w fun w' hb => ?_
      subst a3 b3
      exact compare_ds m n b off c b' off' d hm w' (a5.mono hb) (b5.mono hb)
end Go.Proofs.YthenfejgnjdkjaaGreatDoor
