/- The greatest divisor by halves and differences; a difference of two multiples, word by word (numbers alone). -/
import Derived.Test.YthenfejgnjdkjaaGreatDoorNum
import Derived.Test.YthenfejgnjdkjaaGreatDoorProduct
import Derived.Test.YthenfejgnjdkjaaGreatDoorShiftS
namespace Go.Proofs.YthenfejgnjdkjaaGreatDoor

theorem coprime_two {x : Nat} (h : x % 2 = 1) : Nat.Coprime 2 x := by
  unfold Nat.Coprime
  rw [Nat.gcd_rec, h]
  rfl
theorem gcd_odd {x : Nat} (h : x % 2 = 1) (t y : Nat) : Nat.gcd x (2 ^ t * y) = Nat.gcd x y :=
  Nat.Coprime.gcd_mul_left_cancel_right y (Nat.Coprime.pow_left t (coprime_two h))
theorem dvd_or {k x y : Nat} : 2 ^ k ∣ (x ||| y) ↔ 2 ^ k ∣ x ∧ 2 ^ k ∣ y := by
  rw [Nat.dvd_iff_mod_eq_zero, Nat.dvd_iff_mod_eq_zero, Nat.dvd_iff_mod_eq_zero, Nat.or_mod_two_pow, Nat.or_eq_zero_iff]
theorem odd_part {x s : Nat} (hs : 2 ^ s ∣ x) (hs2 : ¬ 2 ^ (s + 1) ∣ x) : (x / 2 ^ s) % 2 = 1 := by
  obtain ⟨z, rfl⟩ := hs
  rw [Nat.mul_div_cancel_left _ (Nat.two_pow_pos s)]
  rcases Nat.mod_two_eq_zero_or_one z with h | h
  · exfalso
    refine hs2 ⟨z / 2, ?_⟩
    rw [Nat.pow_succ, Nat.mul_assoc]
    congr 1
    omega
  · exact h
theorem gcd_twos {x y t s : Nat} (hs : 2 ^ s ∣ x) (hs2 : ¬ 2 ^ (s + 1) ∣ x) (ht : 2 ^ t ∣ (x ||| y)) (ht2 : ¬ 2 ^ (t + 1) ∣ (x ||| y)) : Nat.gcd x y = 2 ^ t * Nat.gcd (x / 2 ^ s) y := by
  have ho := odd_part hs hs2
  obtain ⟨hx, hy⟩ := dvd_or.1 ht
  have hle : t ≤ s := by
    rcases Nat.lt_or_ge s t with h | h
    · exact absurd (Nat.dvd_trans (Nat.pow_dvd_pow 2 h) hx) hs2
    · exact h
  obtain ⟨x', hx'⟩ := hs
  obtain ⟨y', hy'⟩ := hy
  obtain ⟨d, rfl⟩ := Nat.exists_eq_add_of_le hle
  rw [hx', Nat.mul_div_cancel_left _ (Nat.two_pow_pos _)] at ho
  rw [hx', Nat.mul_div_cancel_left _ (Nat.two_pow_pos _), hy', gcd_odd ho, Nat.pow_add, Nat.mul_assoc, Nat.gcd_mul_left]
  congr 1
  rcases Nat.eq_zero_or_pos d with h0 | h0
  · subst h0; rw [Nat.pow_zero, Nat.one_mul]
  · have hyo : y' % 2 = 1 := by
      rcases Nat.mod_two_eq_zero_or_one y' with h | h
      · exfalso
        refine ht2 (dvd_or.2 ⟨?_, ?_⟩)
        · rw [hx']; exact Nat.dvd_trans (Nat.pow_dvd_pow 2 (by omega)) (Nat.dvd_mul_right _ _)
        · refine ⟨y' / 2, ?_⟩
          rw [hy', Nat.pow_succ, Nat.mul_assoc]
          congr 1
          omega
      · exact h
    rw [Nat.gcd_comm, gcd_odd hyo, Nat.gcd_comm]
theorem gcd_round {x y r : Nat} (hx : x % 2 = 1) (hr : 2 ^ r ∣ y) (hr2 : ¬ 2 ^ (r + 1) ∣ y) :
    Nat.gcd (min x (y / 2 ^ r)) (max x (y / 2 ^ r) - min x (y / 2 ^ r)) = Nat.gcd x y ∧ (min x (y / 2 ^ r)) % 2 = 1 ∧
      min x (y / 2 ^ r) + (max x (y / 2 ^ r) - min x (y / 2 ^ r)) < x + y := by
  have ho := odd_part hr hr2
  obtain ⟨z, hz⟩ := hr
  have hp := Nat.two_pow_pos r
  rw [hz, Nat.mul_div_cancel_left _ hp] at ho ⊢
  rw [gcd_odd hx]
  have hzy : z ≤ 2 ^ r * z := Nat.le_mul_of_pos_left z hp
  rcases Nat.le_total x z with h | h
  · rw [Nat.min_eq_left h, Nat.max_eq_right h]
    refine ⟨?_, hx, by omega⟩
    have h1 := Nat.gcd_self_add_right x (z - x)
    rw [show x + (z - x) = z by omega] at h1
    exact h1.symm
  · rw [Nat.min_eq_right h, Nat.max_eq_left h]
    refine ⟨?_, ho, by omega⟩
    have h1 := Nat.gcd_self_add_right z (x - z)
    rw [show z + (x - z) = x by omega] at h1
    rw [Nat.gcd_comm x z]
    exact h1.symm

theorem lead_val {xs : List Nat} {n s : Nat} (hn : xs.length = n + 2) (hx : ∀ x ∈ xs, x < 2 ^ 64) (hs : s ≤ 64) :
    val (2 ^ 64) xs / ((2 ^ 64) ^ n * 2 ^ (64 - s)) = xs.getD (n + 1) 0 * 2 ^ s + xs.getD n 0 / 2 ^ (64 - s) := by
  have h1 := val_split (2 ^ 64) xs n (by omega)
  rw [val_drop_cons _ _ _ (by omega), val_drop_cons _ _ _ (by omega), List.drop_of_length_le (by omega)] at h1
  have h2 : val (2 ^ 64) (xs.take n) < (2 ^ 64) ^ n := val_take_lt (2 ^ 64) xs n hx (by omega)
  have e : (2 : Nat) ^ 64 = 2 ^ (64 - s) * 2 ^ s := by rw [← Nat.pow_add, show 64 - s + s = 64 by omega]
  have hp := Nat.two_pow_pos (64 - s)
  simp only [val, Nat.mul_zero, Nat.add_zero] at h1
  rw [h1, ← Nat.div_div_eq_div_mul, Nat.add_mul_div_left _ _ (Nat.lt_of_le_of_lt (Nat.zero_le _) h2), Nat.div_eq_of_lt h2, Nat.zero_add]
  generalize xs.getD n 0 = y
  generalize xs.getD (n + 1) 0 = z
  rw [e, Nat.mul_assoc, Nat.add_mul_div_left _ _ hp, Nat.mul_comm (2 ^ s) z, Nat.add_comm]

structure DiffInv (b p q : Nat) (xs ys zs : List Nat) (i cx cy bw : Nat) : Prop where
  eq : p * val b (xs.take i) + (cy + bw) * b ^ i = val b (zs.take i) + q * val b (ys.take i) + cx * b ^ i
  cx : cx < b
  cy : cy < b
  bw : bw ≤ 1
theorem DiffInv.start {b p q : Nat} (hb : 0 < b) (xs ys zs : List Nat) : DiffInv b p q xs ys zs 0 0 0 0 := ⟨by simp [val], hb, hb, by omega⟩
theorem DiffInv.step {b p q : Nat} {xs ys zs : List Nat} {i cx cy bw fx fy z cx' cy' bw' : Nat} (h : DiffInv b p q xs ys zs i cx cy bw) (hx : i < xs.length) (hy : i < ys.length) (hz : i < zs.length)
    (ex : p * xs.getD i 0 + cx = fx + cx' * b) (ey : q * ys.getD i 0 + cy = fy + cy' * b) (ez : fx + bw' * b = z + fy + bw) (hcx : cx' < b) (hcy : cy' < b) (hbw : bw' ≤ 1) :
    DiffInv b p q xs ys (zs.set i z) (i + 1) cx' cy' bw' := by
  refine ⟨?_, hcx, hcy, hbw⟩
  have he := h.eq
  rw [val_take_succ b xs i hx, val_take_succ b ys i hy, val_take_succ b (zs.set i z) i (by rw [List.length_set]; exact hz)]
  have h1 : (zs.set i z).take i = zs.take i := List.take_set_of_le (Nat.le_refl _)
  have h2 : (zs.set i z).getD i 0 = z := by rw [List.getD_eq_getElem?_getD, List.getElem?_set_self hz]; rfl
  rw [h1, h2, Nat.pow_succ]
  generalize val b (xs.take i) = X at *
  generalize val b (ys.take i) = Y at *
  generalize val b (zs.take i) = Z at *
  generalize xs.getD i 0 = x at *
  generalize ys.getD i 0 = y at *
  generalize b ^ i = E at *
  clear h h1 h2 hcx hcy hbw hx hy hz
  grind
theorem DiffInv.done {b p q : Nat} {xs ys zs : List Nat} {n cx cy bw D : Nat} (h : DiffInv b p q xs ys zs n cx cy bw) (hx : xs.length = n) (hy : ys.length = n) (hz : zs.length = n) (hzb : ∀ z ∈ zs, z < b)
    (hD : D + q * val b ys = p * val b xs) (hDn : D < b ^ n) : val b zs = D := by
  have he := h.eq
  rw [List.take_of_length_le (by omega), List.take_of_length_le (by omega), List.take_of_length_le (by omega)] at he
  have hZ : val b zs < b ^ n := by rw [← hz]; exact val_lt b zs hzb
  have h1 : D + (cy + bw) * b ^ n = val b zs + cx * b ^ n := by omega
  have h2 := congrArg (· % b ^ n) h1
  simp only [Nat.add_mul_mod_self_right] at h2
  rwa [Nat.mod_eq_of_lt hDn, Nat.mod_eq_of_lt hZ, eq_comm] at h2
end Go.Proofs.YthenfejgnjdkjaaGreatDoor

/- A difference of two multiples, word by word: the program's. -/
namespace Go.Proofs.YthenfejgnjdkjaaGreatDoor
open Go.RowKit

theorem mul_carry {x p c hi lo s d : Nat} (hx : x < 2 ^ 64) (hp : p < 2 ^ 64) (hc : c < 2 ^ 64) (h1 : x * p = lo + 2 ^ 64 * hi) (h2 : lo + c + 0 = s + 2 ^ 64 * d) : p * x + c = s + (hi + d) * 2 ^ 64 ∧ hi + d < 2 ^ 64 := by
  have h3 : x * p ≤ (2 ^ 64 - 1) * (2 ^ 64 - 1) := Nat.mul_le_mul (by omega) (by omega)
  rw [Nat.mul_comm p x]
  generalize x * p = z at *
  omega

def RetDiff (w : World) (bz oz n D : Nat) : Ending → World → Prop := fun e w' =>
  ∃ zs' : List Nat, e = .returned (.tuple #[]) ∧ zs'.length = n ∧ (∀ x ∈ zs', x < 2 ^ 64) ∧ val (2 ^ 64) zs' = D ∧ At w' .u64 bz oz zs' ∧ Only w w' bz oz n

set_option maxRecDepth 100000 in
set_option maxHeartbeats 2000000 in
theorem diff_any (bz oz cz bx ox cx b3 oy cy n p q D : Nat) (zs xs ys : List Nat) (w : World) (hz : zs.length = n) (hx : xs.length = n) (hy : ys.length = n) (hn : n ≤ 4000000)
    (hne1 : bx ≠ bz) (hne2 : b3 ≠ bz) (h1 : At w .u64 bz oz zs) (hF : Fr w bz oz n) (h2 : At w .u64 bx ox xs) (h3 : At w .u64 b3 oy ys) (hZ : ∀ x ∈ zs, x < 2 ^ 64) (hX : ∀ x ∈ xs, x < 2 ^ 64) (hY : ∀ x ∈ ys, x < 2 ^ 64)
    (hp : p < 2 ^ 64) (hq : q < 2 ^ 64) (hD : D + q * val (2 ^ 64) ys = p * val (2 ^ 64) xs) (hDn : D < (2 ^ 64) ^ n) :
    Calls Tryz.prog 84 #[.slice (some ⟨bz, oz, none⟩) n cz, .slice (some ⟨bx, ox, none⟩) n cx, .slice (some ⟨b3, oy, none⟩) n cy, .int .u64 (p : Int), .int .u64 (q : Int)] w (RetDiff w bz oz n D) := by
  have H1 := Lib.hid h1; have HF := Lib.hid hF; have H2 := Lib.hid h2; have H3 := Lib.hid h3; have HZ := Lib.hid hZ; have HX := Lib.hid hX; have HY := Lib.hid hY; have HLZ := Lib.hid hz; have HLX := Lib.hid hx; have HLY := Lib.hid hy
  have HP := Lib.hid hp; have HQ := Lib.hid hq; have HD := Lib.hid hD; have HDN := Lib.hid hDn
  clear h1 hF h2 h3 hZ hX hY hz hx hy hp hq hD hDn
  go_enter Tryz.func84, Tryz.ntmps84
  go_wp2
  go_loopw [10, 11, 12, 20] (fun a1 a2 a3 i wr => ∃ k u v t : Nat, k ≤ n ∧ i = .int .i64 k ∧ a1 = .int .u64 (u : Int) ∧ a2 = .int .u64 (v : Int) ∧ a3 = .int .u64 (t : Int) ∧ ∃ zs', Hid (DiffInv (2 ^ 64) p q xs ys zs' k u v t) ∧ Hid (zs'.length = n ∧ ∀ x ∈ zs', x < 2 ^ 64) ∧ At wr .u64 bz oz zs' ∧ Only w wr bz oz n) (fun _ _ _ i _ => n - (intOf i).toNat)
  case atStart => exact ⟨0, 0, 0, 0, Nat.zero_le _, rfl, rfl, rfl, rfl, zs, Lib.hid (DiffInv.start (by omega) _ _ _), Lib.hid ⟨HLZ.out, HZ.out⟩, H1.out, Only.refl _ _ _ _⟩
  case round =>
    obtain ⟨k, u, v, t, hk, rfl, rfl, rfl, rfl, zs', HI, HL, hA, hO⟩ := hrel
    by_cases hlt : k < n
    · have c0 := hA k (by rw [HL.out.1]; exact hlt)
      have f0 := (HF.out.only hO) k hlt
      have c1 := (H2.out.only hO hne1) k (by rw [HLX.out]; exact hlt)
      have c2 := (H3.out.only hO hne2) k (by rw [HLY.out]; exact hlt)
      have hx1 := getD_lt HX.out (by omega) k
      have hy1 := getD_lt HY.out (by omega) k
      have hu := HI.out.cx; have hv := HI.out.cy; have ht := HI.out.bw
      have HN := fun fx fy z u' v' t' => HI.out.step (i := k) (fx := fx) (fy := fy) (z := z) (cx' := u') (cy' := v') (bw' := t') (by rw [HLX.out]; exact hlt) (by rw [HLY.out]; exact hlt) (by rw [HL.out.1]; exact hlt)
      have hmdx := Nat.mod_add_div (xs.getD k 0 * p) (2 ^ 64)
      have hmdlx := Nat.mod_lt (xs.getD k 0 * p) (by omega : 0 < 2 ^ 64)
      have hmdy := Nat.mod_add_div (ys.getD k 0 * q) (2 ^ 64)
      have hmdly := Nat.mod_lt (ys.getD k 0 * q) (by omega : 0 < 2 ^ 64)
      have HM1 := Lib.hid (mul64_any (xs.getD k 0) p (xs.getD k 0 * p / 2 ^ 64) (xs.getD k 0 * p % 2 ^ 64) hx1 HP.out hmdx.symm hmdlx)
      have HM2 := Lib.hid (mul64_any (ys.getD k 0) q (ys.getD k 0 * q / 2 ^ 64) (ys.getD k 0 * q % 2 ^ 64) hy1 HQ.out hmdy.symm hmdly)
      obtain ⟨s1, d1, hs1, hs12, hd1⟩ : ∃ s d, xs.getD k 0 * p % 2 ^ 64 + u + 0 = s + 2 ^ 64 * d ∧ s < 2 ^ 64 ∧ d ≤ 1 := ⟨(xs.getD k 0 * p % 2 ^ 64 + u) % 2 ^ 64, (xs.getD k 0 * p % 2 ^ 64 + u) / 2 ^ 64, by omega, by omega, by omega⟩
      obtain ⟨s2, d2, hs2, hs22, hd2⟩ : ∃ s d, ys.getD k 0 * q % 2 ^ 64 + v + 0 = s + 2 ^ 64 * d ∧ s < 2 ^ 64 ∧ d ≤ 1 := ⟨(ys.getD k 0 * q % 2 ^ 64 + v) % 2 ^ 64, (ys.getD k 0 * q % 2 ^ 64 + v) / 2 ^ 64, by omega, by omega, by omega⟩
      obtain ⟨ex, hux⟩ := mul_carry hx1 HP.out hu hmdx.symm hs1
      obtain ⟨ey, hvy⟩ := mul_carry hy1 HQ.out hv hmdy.symm hs2
      obtain ⟨z, t', hz1, hz2, ht'⟩ : ∃ s d, s1 + 2 ^ 64 * d = s + s2 + t ∧ s < 2 ^ 64 ∧ d ≤ 1 := by
        by_cases hb : s2 + t ≤ s1
        · exact ⟨s1 - (s2 + t), 0, by omega, by omega, by omega⟩
        · exact ⟨s1 + 2 ^ 64 - (s2 + t), 1, by omega, by omega, by omega⟩
      have HNEW := Lib.hid (HN s1 s2 z _ _ t' ex ey (by omega) hux hvy ht')
      have hadd1 := call_add64' (xs.getD k 0 * p % 2 ^ 64) u 0 s1 d1 (by omega) hs1 hs12
      have hadd2 := call_add64' (ys.getD k 0 * q % 2 ^ 64) v 0 s2 d2 (by omega) hs2 hs22
      have hsub := call_sub64' s1 s2 t z t' ht hs12 hs22 hz1 hz2
      rw [Int.natCast_zero] at hadd1 hadd2
      have HSL := Lib.hid (And.intro (show (zs'.set k z).length = n by rw [List.length_set]; exact HL.out.1) (set_all_lt (k := k) HL.out.2 hz2))
      have HAS := Lib.hid (hA.set k z (by rw [HL.out.1]; exact hlt))
      generalize xs.getD k 0 * p % 2 ^ 64 = lo1 at *
      generalize xs.getD k 0 * p / 2 ^ 64 = hi1 at *
      generalize ys.getD k 0 * q % 2 ^ 64 = lo2 at *
      generalize ys.getD k 0 * q / 2 ^ 64 = hi2 at *
      have hw1 : IntKind.u64.wrap ((hi1 : Int) + d1) = ((hi1 + d1 : Nat) : Int) := by rw [IntKind.wrap_u64]; omega
      have hw2 : IntKind.u64.wrap ((hi2 : Int) + d2) = ((hi2 + d2 : Nat) : Int) := by rw [IntKind.wrap_u64]; omega
      obtain ⟨u', hu'⟩ : ∃ u', u' = hi1 + d1 := ⟨_, rfl⟩
      obtain ⟨v', hv'⟩ : ∃ v', v' = hi2 + d2 := ⟨_, rfl⟩
      rw [← hu'] at hw1 HNEW
      rw [← hv'] at hw2 HNEW
      have i1 : (0 : Int) ≤ k := by omega
      have i2 : (k : Int) < n := by omega
      clear hu hv ht HN hmdx hmdlx hmdy hmdly hs1 hs12 hd1 hs2 hs22 hd2 ex ey hux hvy hz1 hz2 ht' hu' hv' HI hx1 hy1
      generalize xs.getD k 0 = x at *
      generalize ys.getD k 0 = y at *
      go_wp2_with fail
      refine (HM1.out _).mono ?_
      rintro e w1 ⟨rfl, rfl⟩
      go_wp2_with fail
      refine (HM2.out _).mono ?_
      rintro e w1 ⟨rfl, rfl⟩
      go_wp2
      go_roundw
      case rel => exact ⟨k + 1, u', v', t', by omega, by go_num, rfl, rfl, rfl, zs'.set k z, HNEW, HSL, HAS.out, hO.setCell _ (by omega) (by omega) _⟩
      case measure => simp [intOf]; omega
    · obtain rfl : k = n := by omega
      have HR := Lib.hid (HI.out.done HLX.out HLY.out HL.out.1 HL.out.2 HD.out HDN.out)
      have HA := Lib.hid hA; have HO := Lib.hid hO
      clear hA hO
      go_wp2
      go_end0
      exact ⟨zs', rfl, HL.out.1, HL.out.2, HR.out, HA.out, HO.out⟩
end Go.Proofs.YthenfejgnjdkjaaGreatDoor
