/- Trailing zeros of a word; the greatest divisor of two words, by halves and differences. -/
import Derived.Test.YthenfejgnjdkjaaGreatDoorLeapDiff
import Derived.Test.YthenfejgnjdkjaaGreatDoorMem
import Derived.Lib.TrailingZeros
import Derived.Laws.Bits64b
import Derived.Laws.BitsAllLaws
import Derived.Lib.Hide
import Derived.WalkSpells
import Derived.WalkLawsBesides
import Derived.BigQuiet
import Derived.BigRegion
namespace Go.Proofs.YthenfejgnjdkjaaGreatDoor
open Go.RowKit

def Tab64 (w : World) : Prop := ∀ j, j < 64 → w.cell? ⟨0, j, none⟩ = some (.int .u8 ((Lib.deBruijn64tab.getD j 0 : Nat) : Int))
theorem Tab64.mono {w w' : World} (h : Tab64 w) (hb : Below w.heap.size w w') : Tab64 w' := by
  intro j hj
  have h1 := h j hj
  rw [hb.cell (p := ⟨0, j, none⟩) (World.block_lt_of_cell? _ _ h1)]; exact h1
theorem tz_key (x a : Nat) (hx : x < 18446744073709551616) (hx0 : x ≠ 0) (hlow : x &&& (18446744073709551616 - x) = a) :
    IntKind.u64.wrap (bits BinOp.and IntKind.u64 (x : Int) (IntKind.u64.wrap (-(x : Int))) * 285870213051353865) / 288230376151711744 = ((a * 285870213051353865 % 18446744073709551616 / 288230376151711744 : Nat) : Int) := by
  have e1 : IntKind.u64.wrap (-(x : Int)) = ((18446744073709551616 - x : Nat) : Int) := by rw [IntKind.wrap_u64]; omega
  rw [e1, bits_and_u64_nat x _ hx (by omega), hlow, IntKind.wrap_u64]
  omega
theorem tz_spec (x : Nat) (h0 : x ≠ 0) (h : x < 2 ^ 64) : ∃ t, t < 64 ∧ x &&& (2 ^ 64 - x) = 2 ^ t ∧ 2 ^ t ∣ x ∧ ¬ 2 ^ (t + 1) ∣ x := by
  obtain ⟨hlow, hk⟩ := Lib.lowest_bit 64 x h0 h
  obtain ⟨m, hm, _⟩ := Lib.ctzFrom_spec 64 x (by omega) h
  have e : Lib.ctz 64 x = Lib.ctzFrom 64 x := by simp [Lib.ctz, h0]
  rw [e] at hlow hk
  refine ⟨_, hk, hlow, ⟨2 * m + 1, hm⟩, fun hd => ?_⟩
  obtain ⟨z, hz⟩ := hd
  rw [Nat.pow_succ, Nat.mul_assoc] at hz
  have h1 : 2 * m + 1 = 2 * z := Nat.eq_of_mul_eq_mul_left (Nat.two_pow_pos _) (hm.symm.trans hz)
  omega

set_option maxRecDepth 100000 in
set_option maxHeartbeats 1000000 in
theorem tz_any (x : Nat) (w : World) (h0 : x ≠ 0) (hx : x < 18446744073709551616) (hT : Tab64 w) :
    Calls Tryz.prog 61 #[.int .u64 (x : Int)] w fun e w' => w = w' ∧ ∃ t : Nat, t < 64 ∧ e = .returned (.int .i64 (t : Int)) ∧ 2 ^ t ∣ x ∧ ¬ 2 ^ (t + 1) ∣ x := by
  obtain ⟨t, ht, hlow, hd1, hd2⟩ := tz_spec x h0 hx
  obtain ⟨hi, htab⟩ := Lib.deBruijn64_at t ht
  have key := tz_key x (2 ^ t) hx h0 hlow
  obtain ⟨idx, hidx⟩ : ∃ i, i = 2 ^ t * 285870213051353865 % 18446744073709551616 / 288230376151711744 := ⟨_, rfl⟩
  rw [← hidx] at hi htab key
  have hcell := hT idx hi
  rw [htab] at hcell
  have d0 : ((x : Int) == 0) = false := beq_eq_false_iff_ne.2 (by omega)
  have hte : IntKind.i64.wrap (t : Int) = (t : Int) := by rw [IntKind.wrap_i64]; omega
  have HD := Lib.hid (And.intro hd1 hd2)
  clear hT hlow hd1 hd2 hidx htab hx h0
  go_enter Tryz.func61, Tryz.ntmps61
  go_wp2_with (simp only [key])
  go_ret
  exact ⟨rfl, t, ht, rfl, HD.out⟩

theorem div_pow_lt {x t : Nat} (hx : x < 18446744073709551616) : x / 2 ^ t < 18446744073709551616 := Nat.lt_of_le_of_lt (Nat.div_le_self _ _) hx

set_option maxRecDepth 100000 in
set_option maxHeartbeats 1000000 in
theorem gcdWords_any (x y : Nat) (w : World) (h0 : x ≠ 0) (hx : x < 18446744073709551616) (hy : y < 18446744073709551616) (hT : Tab64 w) :
    Calls Tryz.prog 33 #[.int .u64 (x : Int), .int .u64 (y : Int)] w fun e w' => w = w' ∧ e = .returned (.int .u64 ((Nat.gcd x y : Nat) : Int)) := by
  by_cases hy0 : y = 0
  · subst hy0
    rw [Nat.gcd_zero_right]
    go_enter Tryz.func33, Tryz.ntmps33
    go_wp2
    go_ret
    exact ⟨rfl, rfl⟩
  · have d0 : ((y : Int) == 0) = false := beq_eq_false_iff_ne.2 (by omega)
    obtain ⟨o, ho⟩ : ∃ o, o = x ||| y := ⟨_, rfl⟩
    have hor : bits .or .u64 (x : Int) (y : Int) = (o : Int) := by rw [ho]; exact u64_or_nat x y hx hy
    have ho0 : o ≠ 0 := by rw [ho]; intro h; exact h0 (Nat.or_eq_zero_iff.1 h).1
    have hol : o < 18446744073709551616 := by rw [ho]; exact Nat.or_lt_two_pow (n := 64) hx hy
    have TO := Lib.hid (tz_any o w ho0 hol hT)
    have TX := Lib.hid (tz_any x w h0 hx hT)
    have TY := Lib.hid (fun b (hb : b ≠ 0) (hb2 : b < 18446744073709551616) => tz_any b w hb hb2 hT)
    have HO := Lib.hid ho
    have HX := Lib.hid hx; have HY := Lib.hid hy
    clear ho ho0 hol hT hx hy
    go_enter Tryz.func33, Tryz.ntmps33
    go_wp2_with fail
    refine TO.out.mono ?_
    rintro e w' ⟨rfl, t, ht, rfl, hd1, hd2⟩
    have HDO := Lib.hid (And.intro hd1 hd2)
    clear hd1 hd2
    go_wp2_with fail
    refine TX.out.mono ?_
    rintro e w' ⟨rfl, s, hs, rfl, hd1, hd2⟩
    have HDX := Lib.hid (And.intro hd1 hd2)
    obtain ⟨x1, hx1⟩ : ∃ x1, x1 = x / 2 ^ s := ⟨_, rfl⟩
    have wsr : (x : Int) / 2 ^ s = (x1 : Int) := by rw [hx1, Int.natCast_ediv, Int.natCast_pow]; rfl
    have HX1 := Lib.hid hx1
    have hodd : x1 % 2 = 1 := by rw [hx1]; exact odd_part hd1 hd2
    have hxl : x1 < 18446744073709551616 := by rw [hx1]; exact div_pow_lt HX.out
    have HS := Lib.hid (And.intro hodd hxl)
    clear hd1 hd2 hx1 hodd hxl
    go_wp2_with fail
    clear wsr
    go_loopw [0, 1] (fun p q wr => ∃ a b : Nat, p = .int .u64 (a : Int) ∧ q = .int .u64 (b : Int) ∧ Hid (a % 2 = 1 ∧ a < 18446744073709551616 ∧ b < 18446744073709551616 ∧ Nat.gcd a b = Nat.gcd x1 y) ∧ Hid (wr = w)) (fun p q _ => (intOf p).toNat + (intOf q).toNat)
    case atStart => exact ⟨x1, y, rfl, rfl, Lib.hid ⟨HS.out.1, HS.out.2, HY.out, rfl⟩, Lib.hid rfl⟩
    case round =>
      obtain ⟨a, b, rfl, rfl, HI, HW⟩ := hrel
      obtain rfl := HW.out
      clear HW
      by_cases hb0 : b = 0
      · subst hb0
        have hg : a = Nat.gcd x1 y := by have := HI.out.2.2.2; rwa [Nat.gcd_zero_right] at this
        have hgt := gcd_twos HDX.out.1 HDX.out.2 (HO.out ▸ HDO.out.1) (HO.out ▸ HDO.out.2)
        rw [← HX1.out, ← hg] at hgt
        have hle : Nat.gcd x y < 18446744073709551616 := Nat.lt_of_le_of_lt (Nat.gcd_le_left _ (by omega)) HX.out
        have wsl : IntKind.u64.wrap ((a : Int) * 2 ^ t) = ((Nat.gcd x y : Nat) : Int) := by
          rw [show ((a : Int) * 2 ^ t) = ((2 ^ t * a : Nat) : Int) from by rw [Nat.mul_comm]; norm_cast, ← hgt, IntKind.wrap_u64]
          omega
        obtain ⟨G, hG⟩ : ∃ G, G = Nat.gcd x y := ⟨_, rfl⟩
        rw [← hG] at wsl
        have HG := Lib.hid hG
        clear hg hgt hle HI hG
        go_wp2
        go_ret
        exact ⟨rfl, ret_int (by rw [HG.out])⟩
      · have e0 : ((b : Int) != 0) = true := by rw [bne_iff_ne]; omega
        have hTb := TY.out b hb0 HI.out.2.2.1
        go_wp2_with fail
        refine hTb.mono ?_
        rintro e w' ⟨rfl, r, hr, rfl, hd1, hd2⟩
        have hrd := gcd_round HI.out.1 hd1 hd2
        obtain ⟨c, hc⟩ : ∃ c, c = b / 2 ^ r := ⟨_, rfl⟩
        have wsr : (b : Int) / 2 ^ r = (c : Int) := by rw [hc, Int.natCast_ediv, Int.natCast_pow]; rfl
        have hcl : c < 18446744073709551616 := by rw [hc]; exact div_pow_lt HI.out.2.2.1
        rw [← hc] at hrd
        have hal := HI.out.2.1
        have HRD := Lib.hid hrd
        have HIG := Lib.hid HI.out.2.2.2
        clear hd1 hd2 hc hrd hTb HI
        go_wp2_with fail
        have e1 : (if c < a then (c : Int) else (a : Int)) = ((min a c : Nat) : Int) := by split <;> omega
        have e2 : (if a < c then (c : Int) else (a : Int)) = ((max a c : Nat) : Int) := by split <;> omega
        have e3 : ((max a c : Nat) : Int) - ((min a c : Nat) : Int) = ((max a c - min a c : Nat) : Int) := by omega
        have e4 : min (a : Int) (c : Int) = ((min a c : Nat) : Int) := by omega
        have e5 : max (a : Int) (c : Int) = ((max a c : Nat) : Int) := by omega
        first | rw [e1, e2, e3] | rw [e4, e5, e3]
        refine ⟨⟨min a c, max a c - min a c, rfl, rfl, Lib.hid ⟨HRD.out.2.1, by omega, by omega, HRD.out.1.trans HIG.out⟩, Lib.hid trivial⟩, ?_⟩
        simp only [intOf, Int.toNat_natCast]
        exact HRD.out.2.2
end Go.Proofs.YthenfejgnjdkjaaGreatDoor
