/- The document's powers and roots; raw numbers as small ones. -/
import Derived.Test.YtmhpaadanpianaaDoorRefShift
import Derived.Test.YtmhpaadanpianaaDoorRefProd
import Derived.Test.YtmhpaadanpianaaDoorRefCmp
import Derived.Test.YtmhpaadanpianaaDoorRoots0
namespace Go.Proofs.YtmhpaadanpianaaDoor
open Go.RowKit

theorem dr_mul (m n : Nat) : (dr (m * n)).length ≤ (dr m).length + (dr n).length := by
  refine digs_length_le (by omega) ?_
  rw [Nat.pow_add]
  exact Nat.mul_lt_mul'' (lt_pow_digs (by omega) m) (lt_pow_digs (by omega) n)

theorem pow_step (X A q b : Nat) (_hb : b < 2) : X * A ^ (2 * q + b) = X * A ^ b * (A * A) ^ q := by
  rw [Nat.pow_add, Nat.pow_mul, Nat.pow_two]
  grind

set_option maxRecDepth 100000 in
set_option maxHeartbeats 2000000 in
theorem rPow_any (p : Option Addr) (l c m k : Nat) (w : World) (hm : (dr m).length ≤ 12) (hk : k ≤ 7) (h : IsR w p l c m) :
    Calls Tryd.prog 41 #[.slice p l c, .int .i64 (k : Int)] w (RetR w (m ^ k)) := by
  have H := Lib.hid h; have HM := Lib.hid hm; have HK := Lib.hid hk
  clear h hm hk
  go_enter Tryd.func41, Tryd.ntmps41
  go_wp2_with fail
  refine (rof_any 1 (by omega) _).mono ?_
  rintro e w1 ⟨po, lo, co, rfl, r1, hb⟩
  have R1 := Lib.hid r1; have HB := Lib.hid hb; have H1 := Lib.hid (H.out.mono hb)
  clear r1 hb
  go_wp2_with fail
  go_loopw [0, 1, 5] (fun a n o wr => ∃ j s A X pa la ca po lo co, n = .int .i64 ((j : Nat) : Int) ∧ a = .slice pa la ca ∧ o = .slice po lo co ∧ Hid (X * A ^ j = m ^ k ∧ 0 < s ∧ j * s ≤ 7 ∧ (dr A).length ≤ 12 * s ∧ (dr X).length ≤ 12 * s) ∧ Hid (IsR wr pa la ca A) ∧ Hid (IsR wr po lo co X) ∧ Hid (Below w.heap.size w wr)) (fun _ n _ _ => (intOf n).toNat)
  case atStart => exact ⟨k, 1, m, 1, _, _, _, _, _, _, rfl, rfl, rfl, Lib.hid ⟨by rw [Nat.one_mul], by omega, by have := HK.out; omega, by have := HM.out; omega, by refine Nat.le_trans (digs_length_le (k := 1) (by omega) (by omega)) (by omega)⟩, H1, R1, HB⟩
  case round =>
    obtain ⟨j, s, A, X, pa, la, ca, po, lo, co, rfl, rfl, rfl, HI, HA, HX, HB⟩ := hrel
    rcases Nat.eq_zero_or_pos j with hj | hj
    · subst hj
      have he := HI.out.1
      rw [Nat.pow_zero, Nat.mul_one] at he
      have HE := Lib.hid he
      clear he
      go_wp2
      go_ret
      rw [← HE.out]
      exact ⟨_, _, _, rfl, HX.out, HB.out⟩
    · obtain ⟨q, b, hqb, hb2⟩ : ∃ q b, j = 2 * q + b ∧ b < 2 := ⟨j / 2, j % 2, by omega, by omega⟩
      obtain ⟨i1, i2, i3, i4, i5⟩ := HI.out
      have hs7 : s ≤ 7 := by
        have : 1 * s ≤ j * s := Nat.mul_le_mul_right s hj
        omega
      have hj7 : j ≤ 7 := by
        have : j * 1 ≤ j * s := Nat.mul_le_mul_left j i2
        omega
      have hla := HA.out.1
      have hlo := HX.out.1
      have hqs : q * (2 * s) ≤ 7 := by
        have e : q * (2 * s) = (2 * q) * s := by grind
        have : (2 * q) * s ≤ j * s := Nat.mul_le_mul_right s (by omega)
        omega
      rw [hqb, pow_step X A q b hb2] at i1
      have t1 : IntKind.i64.wrap ((j : Int).tdiv 2) = (q : Int) := by rw [Int.tdiv_eq_ediv_of_nonneg (by omega), IntKind.wrap_i64]; omega
      have t1' : (j : Int) / 2 = (q : Int) := by omega
      have g1 : (0 : Int) < j := by omega
      have hlt : q < j := by omega
      have hq7 : q ≤ 7 := by omega
      have TA := Lib.hid (fun W p1 l1 c1 a => rMul_any p1 pa l1 c1 la ca A A W a)
      have da := dr_mul A A
      have dx := dr_mul X A
      have : b = 0 ∨ b = 1 := by omega
      rcases this with rfl | rfl
      · have t2 : (j : Int).tmod 2 = 0 := by rw [Int.tmod_eq_emod_of_nonneg (by omega)]; omega
        have t2' : (j : Int) % 2 = 0 := by omega
        have HN := Lib.hid (show X * (A * A) ^ q = m ^ k ∧ 0 < 2 * s ∧ q * (2 * s) ≤ 7 ∧ (dr (A * A)).length ≤ 12 * (2 * s) ∧ (dr X).length ≤ 12 * (2 * s) from ⟨by simpa using i1, by omega, hqs, by omega, by omega⟩)
        have TM := Lib.hid (rMul_any pa pa la ca la ca A A wr (by omega) (by omega) HA.out HA.out)
        have HJ := Lib.hid hlt
        clear i1 i2 i3 i4 i5 HI hs7 hj7 hla hlo hqs hqb hb2 da dx TA hlt hj
        go_wp2_with fail
        refine TM.out.mono ?_
        rintro e w2 ⟨p2, l2, c2, rfl, r2, hb⟩
        have R2 := Lib.hid r2; have X2 := Lib.hid (HX.out.mono hb); have HB2 := Lib.hid (below_step HB.out hb)
        clear r2 hb HA HX HB
        go_wp2
        go_roundw
        case rel => exact ⟨q, 2 * s, A * A, X, _, _, _, _, _, _, rfl, rfl, rfl, HN, R2, X2, HB2⟩
        case measure => have := HJ.out; simp [intOf]; omega
      · have t2 : (j : Int).tmod 2 = 1 := by rw [Int.tmod_eq_emod_of_nonneg (by omega)]; omega
        have t2' : (j : Int) % 2 = 1 := by omega
        have HN := Lib.hid (show (X * A) * (A * A) ^ q = m ^ k ∧ 0 < 2 * s ∧ q * (2 * s) ≤ 7 ∧ (dr (A * A)).length ≤ 12 * (2 * s) ∧ (dr (X * A)).length ≤ 12 * (2 * s) from ⟨by simpa using i1, by omega, hqs, by omega, by omega⟩)
        have TX := Lib.hid (rMul_any po pa lo co la ca X A wr (by omega) (by omega) HX.out HA.out)
        have TM := Lib.hid (fun W a => rMul_any pa pa la ca la ca A A W (by omega) (by omega) a a)
        have HJ := Lib.hid hlt
        clear i1 i2 i3 i4 i5 HI hs7 hj7 hla hlo hqs hqb hb2 da dx TA hlt hj
        go_wp2_with fail
        refine TX.out.mono ?_
        rintro e w2 ⟨p2, l2, c2, rfl, r2, hb⟩
        have R2 := Lib.hid r2; have A2 := Lib.hid (HA.out.mono hb); have HB2 := Lib.hid (below_step HB.out hb)
        clear r2 hb HA HX HB
        go_wp2_with fail
        refine (TM.out _ A2.out).mono ?_
        rintro e w3 ⟨p3, l3, c3, rfl, r3, hb⟩
        have R3 := Lib.hid r3; have X3 := Lib.hid (R2.out.mono hb); have HB3 := Lib.hid (below_step HB2.out hb)
        clear r3 hb A2 R2 HB2
        go_wp2
        go_roundw
        case rel => exact ⟨q, 2 * s, A * A, X * A, _, _, _, _, _, _, rfl, rfl, rfl, HN, R3, X3, HB3⟩
        case measure => have := HJ.out; simp [intOf]; omega

theorem root_bit {s n j : Nat} (h1 : s * s ≤ n) (h2 : n < (s + 1) * (s + 1)) :
    ((s / 2 ^ (j + 1) * 2 ^ (j + 1) + 2 ^ j) * (s / 2 ^ (j + 1) * 2 ^ (j + 1) + 2 ^ j) ≤ n → s / 2 ^ j * 2 ^ j = s / 2 ^ (j + 1) * 2 ^ (j + 1) + 2 ^ j) ∧
    (n < (s / 2 ^ (j + 1) * 2 ^ (j + 1) + 2 ^ j) * (s / 2 ^ (j + 1) * 2 ^ (j + 1) + 2 ^ j) → s / 2 ^ j * 2 ^ j = s / 2 ^ (j + 1) * 2 ^ (j + 1)) := by
  have e0 : s / 2 ^ (j + 1) = s / 2 ^ j / 2 := by rw [Nat.pow_succ, Nat.div_div_eq_div_mul]
  rw [e0, Nat.pow_succ]
  have hp := Nat.two_pow_pos j
  have hm := Nat.div_add_mod s (2 ^ j)
  have hl := Nat.mod_lt s hp
  generalize s % 2 ^ j = r at *
  generalize s / 2 ^ j = t at *
  generalize 2 ^ j = p at *
  obtain ⟨q, b, hqb, hb⟩ : ∃ q b, t = 2 * q + b ∧ b < 2 := ⟨t / 2, t % 2, by omega, by omega⟩
  have hq : t / 2 = q := by omega
  rw [hq]
  have e1 : q * (p * 2) = 2 * (q * p) := by grind
  have e2 : t * p = 2 * (q * p) + b * p := by rw [hqb]; grind
  have e3 : p * t = t * p := Nat.mul_comm _ _
  rw [e1]
  generalize q * p = y at *
  constructor
  · intro h
    have hle : 2 * y + p ≤ s := by
      rcases Nat.lt_or_ge s (2 * y + p) with h3 | h3
      · have : (s + 1) * (s + 1) ≤ (2 * y + p) * (2 * y + p) := Nat.mul_le_mul h3 h3
        omega
      · exact h3
    have : b = 0 ∨ b = 1 := by omega
    rcases this with rfl | rfl <;> omega
  · intro h
    have hle : s < 2 * y + p := by
      rcases Nat.lt_or_ge s (2 * y + p) with h3 | h3
      · exact h3
      · have : (2 * y + p) * (2 * y + p) ≤ s * s := Nat.mul_le_mul h3 h3
        omega
    have : b = 0 ∨ b = 1 := by omega
    rcases this with rfl | rfl <;> omega

theorem dr_bits {x k : Nat} (h : x < 2 ^ k) : (dr x).length ≤ k / 32 + 1 := by
  refine digs_length_le (by omega) ?_
  rw [← Nat.pow_mul]
  exact Nat.lt_of_lt_of_le h (Nat.pow_le_pow_right (by omega) (by omega))

set_option maxRecDepth 100000 in
set_option maxHeartbeats 2000000 in
theorem rRoot_any (p : Option Addr) (l c m r : Nat) (w : World) (hr : r * r ≤ m) (hr2 : m < (r + 1) * (r + 1)) (hm : (dr m).length ≤ 1000) (h : IsR w p l c m) :
    Calls Tryd.prog 40 #[.slice p l c] w (RetR w r) := by
  have hbl := bitLen_dr m
  have hl1 := h.1
  obtain ⟨B, hB⟩ : ∃ B, B = bitLen m / 2 := ⟨_, rfl⟩
  have hrB : r < 2 ^ (B + 1) := by
    rcases Nat.lt_or_ge r (2 ^ (B + 1)) with h | h
    · exact h
    · have h3 : 2 ^ (B + 1) * 2 ^ (B + 1) ≤ r * r := Nat.mul_le_mul h h
      rw [← Nat.pow_add] at h3
      have h4 : m < 2 ^ bitLen m := bitLen_lt_pow.2 (Nat.le_refl _)
      have h5 : (2 : Nat) ^ bitLen m ≤ 2 ^ (B + 1 + (B + 1)) := Nat.pow_le_pow_right (by omega) (by omega)
      omega
  have HBT := Lib.hid (fun W a => rbits_any m p l c W a (by omega))
  have t1 : IntKind.i64.wrap (((bitLen m : Nat) : Int).tdiv 2) = (B : Int) := by rw [Int.tdiv_eq_ediv_of_nonneg (by omega), IntKind.wrap_i64]; omega
  have t1' : ((bitLen m : Nat) : Int) / 2 = (B : Int) := by omega
  have hBb : B ≤ 16000 := by omega
  have H := Lib.hid h; have HR := Lib.hid (And.intro hr hr2); have HRB := Lib.hid hrB; have HL1 : Hid (l ≤ 1000) := Lib.hid (by omega)
  clear h hr hr2 hm hrB hbl hl1 hB
  generalize bitLen m = bl at *
  go_enter Tryd.func40, Tryd.ntmps40
  go_wp2_with fail
  refine (HBT.out _ H.out).mono ?_
  rintro e _ ⟨rfl, rfl⟩
  go_wp2_with fail
  clear t1 t1'
  go_loopw [3, 4] (fun o i wr => ∃ (k : Nat) (po : Option Addr) (lo co : Nat), i = .int .i64 ((k : Int) - 1) ∧ o = .slice po lo co ∧ k ≤ B + 1 ∧ Hid (IsR wr po lo co (r / 2 ^ k * 2 ^ k)) ∧ Hid (IsR wr p l c m) ∧ Hid (Below w.heap.size w wr)) (fun _ i _ => (intOf i + 1).toNat)
  case atStart =>
    refine ⟨B + 1, none, 0, 0, by simp, rfl, Nat.le_refl _, ?_, H, Lib.hid (Below.refl _ _)⟩
    rw [Nat.div_eq_of_lt HRB.out, Nat.zero_mul]
    exact Lib.hid ⟨by rw [dr_zero]; rfl, Nat.le_refl _, fun h => absurd rfl h⟩
  case round =>
    obtain ⟨k, po, lo, co, rfl, rfl, hk, HO, HM, HB⟩ := hrel
    rcases Nat.eq_zero_or_pos k with hk0 | hk0
    · subst hk0
      have ho := HO.out
      rw [Nat.pow_zero, Nat.div_one, Nat.mul_one] at ho
      have HO2 := Lib.hid ho
      clear ho HO
      go_wp2
      go_ret
      exact ⟨_, _, _, rfl, HO2.out, HB.out⟩
    · obtain ⟨j, rfl⟩ : ∃ j, k = j + 1 := ⟨k - 1, by omega⟩
      have hb1 : r / 2 ^ (j + 1) * 2 ^ (j + 1) ≤ r := Nat.div_mul_le_self _ _
      have hpj : (2 : Nat) ^ j ≤ 2 ^ (B + 1) := Nat.pow_le_pow_right (by omega) (by omega)
      have hx : r / 2 ^ (j + 1) * 2 ^ (j + 1) + 2 ^ j < 2 ^ (B + 2) := by
        have := HRB.out
        rw [Nat.pow_succ 2 (B + 1)]; omega
      have lx := dr_bits hx
      have lr := dr_bits (Nat.lt_of_le_of_lt (Nat.le_trans hb1 (Nat.le_add_right r 1)) (show r + 1 < 2 ^ (B + 2) by have := HRB.out; rw [Nat.pow_succ 2 (B + 1)]; have := Nat.two_pow_pos (B + 1); omega))
      have lj := dr_bits (Nat.lt_of_le_of_lt hpj (show (2 : Nat) ^ (B + 1) < 2 ^ (B + 2) from Nat.pow_lt_pow_right (by omega) (by omega)))
      have hlo := HO.out.1
      have hb := root_bit (j := j) HR.out.1 HR.out.2
      have HBT2 := Lib.hid hb
      have hmm := dr_mul (r / 2 ^ (j + 1) * 2 ^ (j + 1) + 2 ^ j) (r / 2 ^ (j + 1) * 2 ^ (j + 1) + 2 ^ j)
      generalize hrk : r / 2 ^ (j + 1) * 2 ^ (j + 1) = y at *
      have TS := Lib.hid (fun W p1 l1 c1 (a : IsR W p1 l1 c1 1) => rShiftUp_any p1 l1 c1 1 j W (by rw [a.1]; exact Nat.le_trans (digs_length_le (k := 1) (by omega) (by omega)) (by omega)) (by omega) a)
      rw [Nat.one_mul] at TS
      have TA := Lib.hid (fun W p1 l1 c1 (a : IsR W po lo co y) (b : IsR W p1 l1 c1 (2 ^ j)) => rAdd_any po p1 lo co l1 c1 y (2 ^ j) W (by omega) (by rw [b.1]; omega) a b)
      have TM := Lib.hid (fun W p1 l1 c1 (a : IsR W p1 l1 c1 (y + 2 ^ j)) => rMul_any p1 p1 l1 c1 l1 c1 (y + 2 ^ j) (y + 2 ^ j) W (by rw [a.1]; omega) (by rw [a.1]; omega) a a)
      have TC := Lib.hid (fun W p1 l1 c1 (a : IsR W p1 l1 c1 ((y + 2 ^ j) * (y + 2 ^ j))) (b : IsR W p l c m) => rCmp_any p1 p l1 l c1 c ((y + 2 ^ j) * (y + 2 ^ j)) m W (by rw [a.1]; omega) a b)
      have i0 : ((j + 1 : Nat) : Int) - 1 = (j : Int) := by omega
      rw [i0]
      have i1 : (0 : Int) ≤ j := by omega
      have i2 : j ≤ B := by omega
      clear hb1 hpj hx lx lr lj hlo hb hmm hk0 hrk
      generalize hpj2 : 2 ^ j = pj at *
      have HPJ := Lib.hid hpj2
      clear hpj2
      obtain ⟨x, hx⟩ : ∃ x, x = y + pj := ⟨_, rfl⟩
      rw [← hx] at TA TM TC HBT2
      clear hx
      go_wp2_with fail
      refine (rof_any 1 (by omega) _).mono ?_
      rintro e w1 ⟨p1, l1, c1, rfl, r1, hb⟩
      have R1 := Lib.hid r1; have HO := Lib.hid (HO.out.mono hb); have HM := Lib.hid (HM.out.mono hb); have HB := Lib.hid (below_step HB.out hb)
      clear r1 hb
      go_wp2_with fail
      refine (TS.out _ _ _ _ R1.out).mono ?_
      rintro e w2 ⟨p2, l2, c2, rfl, r2, hb⟩
      have R2 := Lib.hid r2; have HO := Lib.hid (HO.out.mono hb); have HM := Lib.hid (HM.out.mono hb); have HB := Lib.hid (below_step HB.out hb)
      clear r2 hb R1
      go_wp2_with fail
      refine (TA.out _ _ _ _ HO.out R2.out).mono ?_
      rintro e w3 ⟨p3, l3, c3, rfl, r3, hb⟩
      have R3 := Lib.hid r3; have HO := Lib.hid (HO.out.mono hb); have HM := Lib.hid (HM.out.mono hb); have HB := Lib.hid (below_step HB.out hb)
      clear r3 hb R2
      go_wp2_with fail
      refine (TM.out _ _ _ _ R3.out).mono ?_
      rintro e w4 ⟨p4, l4, c4, rfl, r4, hb⟩
      have R4 := Lib.hid r4; have HO := Lib.hid (HO.out.mono hb); have HM := Lib.hid (HM.out.mono hb); have HB := Lib.hid (below_step HB.out hb); have R3 := Lib.hid (R3.out.mono hb)
      clear r4 hb
      go_wp2_with fail
      refine (TC.out _ _ _ _ R4.out HM.out).mono ?_
      rintro e w5 ⟨rfl, hb⟩
      have HO := Lib.hid (HO.out.mono hb); have HM := Lib.hid (HM.out.mono hb); have HB := Lib.hid (below_step HB.out hb); have R3 := Lib.hid (R3.out.mono hb)
      clear hb R4 TS TA TM TC
      rcases Nat.lt_or_ge m (x * x) with hc | hc
      · have e1 := HBT2.out.2 hc
        rw [cmp3_gt (by exact_mod_cast hc)]
        have HO := HO
        rw [← e1] at HO
        clear e1 hc HBT2
        go_wp2
        go_roundw
        case rel => exact ⟨j, po, lo, co, by go_num, rfl, by omega, by rw [HPJ.out]; exact HO, HM, HB⟩
        case measure => simp [intOf]
      · have e1 := HBT2.out.1 hc
        have h0 : cmp3 ((x * x : Nat) : Int) m ≤ 0 := by
          unfold cmp3
          split
          · omega
          · split <;> omega
        rw [← e1] at R3
        generalize cmp3 ((x * x : Nat) : Int) m = cv at *
        clear e1 hc HBT2
        go_wp2
        go_roundw
        case rel => exact ⟨j, p3, l3, c3, by go_num, rfl, by omega, by rw [HPJ.out]; exact R3, HM, HB⟩
        case measure => simp [intOf]

/-- A raw number as a small one. -/
theorem pick_any (n : Int) (m : Nat) (w : World) (h1 : -9223372036854775808 ≤ n) (h2 : n ≤ 9223372036854775807) (hm : 0 < m) (hm2 : m ≤ 1000000) :
    Calls Tryd.prog 33 #[.int .i64 n, .int .i64 (m : Int)] w fun e w' => w = w' ∧ e = .returned (.int .i64 (n % (m : Int))) := by
  have n0 : ¬ m = 0 := by omega
  have d0 : ((m : Int) == 0) = false := beq_eq_false_iff_ne.2 (by omega)
  obtain ⟨t, ht⟩ : ∃ t, t = n.tmod m := ⟨_, rfl⟩
  have hlt : n.tmod m < m := Int.tmod_lt_of_pos n (by omega)
  have hgt : -(m : Int) < n.tmod m := by
    have := Int.tmod_lt_of_pos (-n) (show (0 : Int) < m by omega)
    rw [Int.neg_tmod] at this
    omega
  have he : n % (m : Int) = if n.tmod m < 0 then n.tmod m + m else n.tmod m := by
    have h3 := Int.tmod_eq_emod (a := n) (b := (m : Int))
    have h4 := Int.emod_nonneg n (show (m : Int) ≠ 0 by omega)
    have h5 := Int.emod_lt_of_pos n (show (0 : Int) < m by omega)
    split <;> rename_i hneg
    · rw [h3] at hneg ⊢
      split at hneg <;> rename_i hc <;> first | omega | (split <;> omega)
    · rw [h3] at hneg ⊢
      split at hneg <;> rename_i hc <;> first | omega | (split <;> omega)
  rw [← ht] at hlt hgt he
  have wt : IntKind.i64.wrap (n.tmod m) = t := by rw [← ht, IntKind.wrap_i64]; omega
  have wt2 : n.tmod m = t := ht.symm
  have HE := Lib.hid he
  clear he ht
  rcases Int.lt_or_le t 0 with hneg | hneg
  · have hw : IntKind.i64.wrap (t + m) = t + m := by rw [IntKind.wrap_i64]; omega
    go_enter Tryd.func33, Tryd.ntmps33
    go_wp2
    go_ret
    rw [HE.out, if_pos hneg]
    exact ⟨rfl, rfl⟩
  · go_enter Tryd.func33, Tryd.ntmps33
    go_wp2
    go_ret
    rw [HE.out, if_neg (by omega)]
    exact ⟨rfl, rfl⟩
end Go.Proofs.YtmhpaadanpianaaDoor
