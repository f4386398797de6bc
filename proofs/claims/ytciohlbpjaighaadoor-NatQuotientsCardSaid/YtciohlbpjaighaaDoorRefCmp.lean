/- Comparing the document's numbers. -/
import Derived.Test.YtciohlbpjaighaaDoorCmp
import Derived.Test.YtciohlbpjaighaaDoorRef
namespace Go.Proofs.YtciohlbpjaighaaDoor
open Go.RowKit

theorem rcmp_lt (p q : Option Addr) (l k c d : Nat) (h : l < k) (w : World) :
    Calls Tryd.prog 26 #[.slice p l c, .slice q k d] w fun e w' => w = w' ∧ e = .returned (.int .i64 (-1)) := by
  have d0 : ((l : Int) != k) = true := by rw [bne_iff_ne]; omega
  go_enter Tryd.func26, Tryd.ntmps26
  go_wp2
  go_ret
  exact ⟨rfl, rfl⟩
theorem rcmp_gt (p q : Option Addr) (l k c d : Nat) (h : k < l) (w : World) :
    Calls Tryd.prog 26 #[.slice p l c, .slice q k d] w fun e w' => w = w' ∧ e = .returned (.int .i64 1) := by
  have d0 : ((l : Int) != k) = true := by rw [bne_iff_ne]; omega
  go_enter Tryd.func26, Tryd.ntmps26
  go_wp2
  go_ret
  exact ⟨rfl, rfl⟩
theorem rcmp_zero (p q : Option Addr) (c d : Nat) (w : World) :
    Calls Tryd.prog 26 #[.slice p 0 c, .slice q 0 d] w fun e w' => w = w' ∧ e = .returned (.int .i64 0) := by
  go_enter Tryd.func26, Tryd.ntmps26
  go_wp2
  go_loopw [5] (fun i wr => i = .int .i64 (-1) ∧ wr = w) (fun _ _ => 0)
  case atStart => exact ⟨rfl, rfl⟩
  case round =>
    obtain ⟨rfl, rfl⟩ := hrel
    go_wp2
    go_ret
    exact ⟨rfl, rfl⟩

set_option maxHeartbeats 800000 in
theorem rcmp_same (b off c b2 off2 d n : Nat) (xs ys : List Nat) (w : World) (hx : xs.length = n) (hy : ys.length = n) (hn : n ≤ 281474976710656)
    (h1 : At w .u32 b off xs) (h2 : At w .u32 b2 off2 ys) (hX : ∀ x ∈ xs, x < 2 ^ 32) (hY : ∀ x ∈ ys, x < 2 ^ 32) :
    Calls Tryd.prog 26 #[.slice (some ⟨b, off, none⟩) n c, .slice (some ⟨b2, off2, none⟩) n d] w (RetC w (val (2 ^ 32) xs) (val (2 ^ 32) ys)) := by
  have H1 := Lib.hid h1; have H2 := Lib.hid h2; have HX := Lib.hid hX; have HY := Lib.hid hY; have HL := Lib.hid hx; have HL2 := Lib.hid hy
  clear h1 h2 hX hY hx hy
  go_enter Tryd.func26, Tryd.ntmps26
  go_wp2
  go_loopw [5] (fun i wr => ∃ k : Nat, k ≤ n ∧ i = .int .i64 ((k : Int) - 1) ∧ Hid (xs.drop k = ys.drop k) ∧ Below w.heap.size w wr) (fun i _ => (intOf i + 1).toNat)
  case atStart => exact ⟨n, Nat.le_refl _, rfl, Lib.hid (by rw [List.drop_of_length_le (by rw [HL.out]; omega), List.drop_of_length_le (by rw [HL2.out]; omega)]), Below.refl _ _⟩
  case round =>
    obtain ⟨k, hk, rfl, HE, hb⟩ := hrel
    cases k with
    | zero =>
      go_wp2
      go_ret
      have e : xs = ys := by simpa using HE.out
      exact ⟨ret_int (by rw [e, cmp3_eq]), hb⟩
    | succ m =>
      have c1 := H1.out.mono hb m (by rw [HL.out]; omega)
      have c2 := H2.out.mono hb m (by rw [HL2.out]; omega)
      have hz : xs.getD m 0 < ys.getD m 0 ∨ xs.getD m 0 = ys.getD m 0 ∨ ys.getD m 0 < xs.getD m 0 := by omega
      generalize gx : xs.getD m 0 = x at *
      generalize gy : ys.getD m 0 = y at *
      have GX := Lib.hid gx; have GY := Lib.hid gy; clear gx gy
      have i0 : (0 : Int) ≤ m := by omega
      have i1 : (m : Int) < n := by omega
      rcases hz with hz | rfl | hz
      · have d0 : ((x : Int) != y) = true := by rw [bne_iff_ne]; omega
        have d1 : decide ((x : Int) < y) = true := by simp; omega
        go_wp2_with fail
        go_quiet (fail)
        go_wp2
        go_quiet (fail)
        go_wp2
        go_ret
        have hv := val_lt_of_top (b := 2 ^ 32) (xs := xs) (ys := ys) (m := m) (by rw [HL.out, HL2.out]) (by rw [HL.out]; omega) HX.out HE.out (by rw [GX.out, GY.out]; exact hz)
        exact ⟨ret_int (by rw [cmp3_lt (by exact_mod_cast hv)]), below_drewN (below_drewN hb _) _⟩
      · have d0 : ((x : Int) != x) = false := by simp
        go_wp2_with fail
        go_quiet (fail)
        go_wp2
        go_roundw
        case rel => exact ⟨m, by omega, by go_num, Lib.hid (by
          rw [List.drop_eq_getElem_cons (by rw [HL.out]; omega : m < xs.length), List.drop_eq_getElem_cons (by rw [HL2.out]; omega : m < ys.length), HE.out]
          congr 1
          have e1 := GX.out; have e2 := GY.out
          simp only [List.getD, List.getElem?_eq_getElem (by rw [HL.out]; omega : m < xs.length), List.getElem?_eq_getElem (by rw [HL2.out]; omega : m < ys.length), Option.getD_some] at e1 e2
          rw [e1, e2]), below_drewN hb _⟩
        case measure => simp [intOf]
      · have d0 : ((x : Int) != y) = true := by rw [bne_iff_ne]; omega
        have d1 : decide ((x : Int) < y) = false := by simp; omega
        go_wp2_with fail
        go_quiet (fail)
        go_wp2
        go_quiet (fail)
        go_wp2
        go_ret
        have hv := val_lt_of_top (b := 2 ^ 32) (xs := ys) (ys := xs) (m := m) (by rw [HL.out, HL2.out]) (by rw [HL2.out]; omega) HY.out HE.out.symm (by rw [GX.out, GY.out]; exact hz)
        exact ⟨ret_int (by rw [cmp3_gt (by exact_mod_cast hv)]), below_drewN (below_drewN hb _) _⟩

theorem dr_lt_pow (n : Nat) : n < (2 ^ 32) ^ (dr n).length := lt_pow_digs (by omega) n
theorem dr_lt_of {m n : Nat} (h : (dr m).length < (dr n).length) : m < n := by
  rcases Nat.lt_or_ge m n with h1 | h1
  · exact h1
  · have := digs_length_mono (b := 2 ^ 32) (by omega) h1
    unfold dr at h
    omega

/-- The document compares two numbers. -/
theorem rCmp_any (p q : Option Addr) (l k c d m n : Nat) (w : World) (hl : l ≤ 281474976710656) (h1 : IsR w p l c m) (h2 : IsR w q k d n) :
    Calls Tryd.prog 26 #[.slice p l c, .slice q k d] w (RetC w m n) := by
  have e1 := h1.1; have e2 := h2.1
  rcases Nat.lt_trichotomy l k with h | h | h
  · have hmn : m < n := dr_lt_of (by omega)
    refine (rcmp_lt p q l k c d h w).mono ?_
    rintro e _ ⟨rfl, rfl⟩
    exact ⟨by rw [cmp3_lt (by exact_mod_cast hmn)], Below.refl _ _⟩
  · subst h
    by_cases h0 : l = 0
    · subst h0
      have hm : m = 0 := by
        by_cases hm : m = 0
        · exact hm
        · have := dr_pos hm; omega
      have hn : n = 0 := by
        by_cases hn : n = 0
        · exact hn
        · have := dr_pos hn; omega
      subst hm hn
      refine (rcmp_zero p q c d w).mono ?_
      rintro e _ ⟨rfl, rfl⟩
      exact ⟨by rw [cmp3_eq], Below.refl _ _⟩
    · have hm : m ≠ 0 := fun e => by subst e; rw [dr_zero] at e1; simp at e1; omega
      have hn : n ≠ 0 := fun e => by subst e; rw [dr_zero] at e2; simp at e2; omega
      obtain ⟨b, off, rfl, a1⟩ := h1.2.2 hm
      obtain ⟨b2, off2, rfl, a2⟩ := h2.2.2 hn
      have := rcmp_same b off c b2 off2 d l (dr m) (dr n) w e1.symm e2.symm hl a1 a2 (dr_lt m) (dr_lt n)
      rwa [val_dr, val_dr] at this
  · have hmn : n < m := dr_lt_of (by omega)
    refine (rcmp_gt p q l k c d h w).mono ?_
    rintro e _ ⟨rfl, rfl⟩
    exact ⟨by rw [cmp3_gt (by exact_mod_cast hmn)], Below.refl _ _⟩
end Go.Proofs.YtciohlbpjaighaaDoor
