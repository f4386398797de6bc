/- Products of rows, digit by digit. -/
import Derived.Test.YtciohlbpjaighaaDoorCarryNum
import Derived.Test.YtciohlbpjaighaaDoorCarry
namespace Go.Proofs.YtciohlbpjaighaaDoor
open Go.RowKit

/-- What the multiple of a row, added to a row as long, leaves. -/
def RetMul (w : World) (bz oz l : Nat) (zs xs : List Nat) (y : Nat) : Ending → World → Prop := fun e w' =>
  ∃ zs' c, e = .returned (.int .u64 ((c : Nat) : Int)) ∧ c < 2 ^ 64 ∧ zs'.length = l ∧ (∀ x ∈ zs', x < 2 ^ 64) ∧ val (2 ^ 64) zs' + (2 ^ 64) ^ l * c = val (2 ^ 64) zs + val (2 ^ 64) xs * y ∧ At w' .u64 bz oz zs' ∧ Only w w' bz oz l

theorem mul64_any (x y h l : Nat) (hx : x < 2 ^ 64) (hy : y < 2 ^ 64) (he : x * y = l + 2 ^ 64 * h) (hl : l < 2 ^ 64) (w : World) :
    Calls Tryd.prog 57 #[.int .u64 (x : Int), .int .u64 (y : Int)] w fun e w' => w = w' ∧ e = .returned (.tuple #[.int .u64 (h : Int), .int .u64 (l : Int)]) :=
  (Tryd.bits_Mul64 x y (by omega) (by omega) w).mono fun e w' ⟨h1, h2⟩ => by
    have e1 : x * y / 18446744073709551616 = h := by rw [he]; omega
    have e2 : x * y % 18446744073709551616 = l := by rw [he]; omega
    rw [e1, e2] at h1
    exact ⟨h2.symm, h1⟩

set_option maxHeartbeats 1000000 in
theorem addTimes_any (bz oz cz bx ox cx l : Nat) (zs xs : List Nat) (y : Nat) (w : World) (hz : zs.length = l) (hx : xs.length = l) (hl : l ≤ 4000000)
    (hne : bx ≠ bz) (h1 : At w .u64 bz oz zs) (hF : Fr w bz oz l) (h2 : At w .u64 bx ox xs) (hZ : ∀ x ∈ zs, x < 2 ^ 64) (hX : ∀ x ∈ xs, x < 2 ^ 64) (hy : y < 2 ^ 64) :
    Calls Tryd.prog 80 #[.slice (some ⟨bz, oz, none⟩) l cz, .slice (some ⟨bx, ox, none⟩) l cx, .int .u64 (y : Int)] w (RetMul w bz oz l zs xs y) := by
  have H1 := Lib.hid h1; have HF := Lib.hid hF; have H2 := Lib.hid h2; have HZ := Lib.hid hZ; have HX := Lib.hid hX; have HLZ := Lib.hid hz; have HLX := Lib.hid hx; have HY := Lib.hid hy
  clear h1 hF h2 hZ hX hz hx hy
  go_enter Tryd.func80, Tryd.ntmps80
  go_wp2
  go_loopw [7, 15] (fun c i wr => ∃ k c' : Nat, k ≤ l ∧ i = .int .i64 k ∧ c = .int .u64 (c' : Int) ∧ ∃ zs', Hid (MulInv (2 ^ 64) zs xs y zs' k c') ∧ At wr .u64 bz oz zs' ∧ Only w wr bz oz l) (fun _ i _ => l - (intOf i).toNat)
  case atStart => exact ⟨0, 0, Nat.zero_le _, rfl, rfl, zs, Lib.hid (MulInv.start (by omega) _ _ _ HZ.out), H1.out, Only.refl _ _ _ _⟩
  case round =>
    obtain ⟨k, c, hk, rfl, rfl, zs', HI, hA, hO⟩ := hrel
    by_cases hlt : k < l
    · have hzl : zs'.length = l := by rw [HI.out.len, HLZ.out]
      have c1 := hA k (by omega)
      have f1 := (HF.out.only hO) k (by omega)
      have c2 := (H2.out.only hO hne) k (by rw [HLX.out]; omega)
      have hx1 := getD_lt HX.out (by omega) k
      have hz1 := getD_lt HI.out.lt (by omega) k
      have hc1 := HI.out.carry
      have hb := mul_step_bound hx1 HY.out hz1 hc1
      have hm := Nat.mod_add_div (xs.getD k 0 * y) (2 ^ 64)
      have hml := Nat.mod_lt (xs.getD k 0 * y) (by omega : 0 < 2 ^ 64)
      obtain ⟨s, d, hs, hs2, hd⟩ : ∃ s d, xs.getD k 0 * y + zs'.getD k 0 + c = s + 2 ^ 64 * d ∧ s < 2 ^ 64 ∧ d < 2 ^ 64 := ⟨(xs.getD k 0 * y + zs'.getD k 0 + c) % 2 ^ 64, (xs.getD k 0 * y + zs'.getD k 0 + c) / 2 ^ 64, by omega, by omega, hb⟩
      have HN := Lib.hid (HI.out.step (by rw [HLZ.out]; omega) hs2 hd hs)
      have HM := Lib.hid (mul64_any (xs.getD k 0) y (xs.getD k 0 * y / 2 ^ 64) (xs.getD k 0 * y % 2 ^ 64) hx1 HY.out hm.symm hml)
      generalize xs.getD k 0 * y % 2 ^ 64 = lo at *
      generalize xs.getD k 0 * y / 2 ^ 64 = hi at *
      generalize xs.getD k 0 * y = p at *
      generalize zs'.getD k 0 = z at *
      generalize xs.getD k 0 = x at *
      obtain ⟨s1, d1, hs1, hs12, hd1⟩ : ∃ s d, lo + z + 0 = s + 2 ^ 64 * d ∧ s < 2 ^ 64 ∧ d ≤ 1 := ⟨(lo + z) % 2 ^ 64, (lo + z) / 2 ^ 64, by omega, by omega, by omega⟩
      obtain ⟨s2, d2, hs2', hs22, hd2⟩ : ∃ s d, s1 + c + 0 = s + 2 ^ 64 * d ∧ s < 2 ^ 64 ∧ d ≤ 1 := ⟨(s1 + c) % 2 ^ 64, (s1 + c) / 2 ^ 64, by omega, by omega, by omega⟩
      have es : s2 = s := by omega
      have ed : hi + d1 + d2 = d := by omega
      have hadd1 := call_add64' lo z 0 s1 d1 (by omega) hs1 hs12
      have hadd2 := call_add64' s1 c 0 s2 d2 (by omega) hs2' hs22
      rw [Int.natCast_zero] at hadd1 hadd2
      have hw1 : IntKind.u64.wrap ((hi : Int) + d1) = ((hi + d1 : Nat) : Int) := by rw [IntKind.wrap_u64]; omega
      have hw2 : IntKind.u64.wrap (((hi + d1 : Nat) : Int) + d2) = (d : Int) := by rw [IntKind.wrap_u64]; omega
      obtain ⟨q, hq⟩ : ∃ q, q = hi + d1 := ⟨_, rfl⟩
      rw [← hq] at hw1 hw2
      subst es
      have i1 : (0 : Int) ≤ k := by omega
      have i2 : (k : Int) < l := by omega
      clear hs hs2 hx1 hz1 hc1 hd HI hb hm hml hs1 hs12 hd1 hs2' hs22 hd2 ed hq
      go_wp2_with fail
      refine (HM.out _).mono ?_
      rintro e w1 ⟨rfl, rfl⟩
      go_wp2
      go_roundw
      case rel => exact ⟨k + 1, d, by omega, by go_num, rfl, zs'.set k s2, HN, hA.set k s2 (by omega), hO.setCell _ (by omega) (by omega) _⟩
      case measure => simp [intOf]; omega
    · obtain rfl : k = l := by omega
      go_wp2
      go_ret
      have hI := HI.out
      have hlx := HLX.out
      have e := HLZ.out
      subst e
      exact ⟨zs', c, rfl, hI.carry, hI.len, hI.lt, hI.done hlx, hA, hO⟩
end Go.Proofs.YtciohlbpjaighaaDoor
