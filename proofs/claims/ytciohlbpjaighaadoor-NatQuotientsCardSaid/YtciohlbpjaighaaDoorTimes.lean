/- A row less a multiple of another, in place. -/
import Derived.Test.YtciohlbpjaighaaDoorMulWords
import Derived.Test.YtciohlbpjaighaaDoorLong
namespace Go.Proofs.YtciohlbpjaighaaDoor
open Go.RowKit

/-- What a row, one digit longer, less a multiple of a row leaves. -/
def RetTimes (w : World) (bz oz l : Nat) (zs xs : List Nat) (y : Nat) : Ending → World → Prop := fun e w' =>
  ∃ (zs' : List Nat) (d : Nat), d ≤ 1 ∧ e = .returned (.bool ((d : Int) != 0)) ∧ zs'.length = l + 1 ∧ (∀ x ∈ zs', x < 2 ^ 64) ∧ val (2 ^ 64) zs' + val (2 ^ 64) xs * y = val (2 ^ 64) zs + (2 ^ 64) ^ (l + 1) * d ∧ At w' .u64 bz oz zs' ∧ Only w w' bz oz (l + 1)

set_option maxHeartbeats 1000000 in
theorem subTimes_any (bz oz cz bx ox cx l m : Nat) (zs xs : List Nat) (y : Nat) (w : World) (hm : m = l + 1) (hz : zs.length = m) (hx : xs.length = l) (hl : l ≤ 4000000)
    (hne : bx ≠ bz) (h1 : At w .u64 bz oz zs) (hF : Fr w bz oz m) (h2 : At w .u64 bx ox xs) (hZ : ∀ x ∈ zs, x < 2 ^ 64) (hX : ∀ x ∈ xs, x < 2 ^ 64) (hy : y < 2 ^ 64) :
    Calls Tryd.prog 42 #[.slice (some ⟨bz, oz, none⟩) m cz, .slice (some ⟨bx, ox, none⟩) l cx, .int .u64 (y : Int)] w (RetTimes w bz oz l zs xs y) := by
  have H1 := Lib.hid h1; have HF := Lib.hid hF; have H2 := Lib.hid h2; have HZ := Lib.hid hZ; have HX := Lib.hid hX; have HLZ := Lib.hid hz; have HLX := Lib.hid hx; have HY := Lib.hid hy; have HM1 := Lib.hid hm
  clear h1 hF h2 hZ hX hz hx hy hm
  go_enter Tryd.func42, Tryd.ntmps42
  go_wp2
  go_loopw [7, 17] (fun c i wr => ∃ k c' : Nat, k ≤ l ∧ i = .int .i64 k ∧ c = .int .u64 (c' : Int) ∧ ∃ zs', Hid (TimesInv (2 ^ 64) zs xs y zs' k c') ∧ At wr .u64 bz oz zs' ∧ Only w wr bz oz m) (fun _ i _ => l - (intOf i).toNat)
  case atStart => exact ⟨0, 0, Nat.zero_le _, rfl, rfl, zs, Lib.hid (TimesInv.start (by omega) _ _ _ HZ.out), H1.out, Only.refl _ _ _ _⟩
  case round =>
    obtain ⟨k, c, hk, rfl, rfl, zs', HI, hA, hO⟩ := hrel
    have hml := HM1.out
    have hzl : zs'.length = m := by rw [HI.out.len, HLZ.out]
    have hc1 := HI.out.carry
    by_cases hlt : k < l
    · have c1 := hA k (by omega)
      have f1 := (HF.out.only hO) k (by omega)
      have c2 := (H2.out.only hO hne) k (by rw [HLX.out]; omega)
      have hx1 := getD_lt HX.out (by omega) k
      have hz1 := getD_lt HI.out.lt (by omega) k
      obtain ⟨s, d, hs, hs2, hd⟩ := times_step hx1 HY.out hz1 hc1
      have hmd := Nat.mod_add_div (xs.getD k 0 * y) (2 ^ 64)
      have hmdl := Nat.mod_lt (xs.getD k 0 * y) (by omega : 0 < 2 ^ 64)
      have HN := Lib.hid (HI.out.step (by rw [HLZ.out]; omega) hs2 hd hs)
      have HM := Lib.hid (mul64_any (xs.getD k 0) y (xs.getD k 0 * y / 2 ^ 64) (xs.getD k 0 * y % 2 ^ 64) hx1 HY.out hmd.symm hmdl)
      have hib : xs.getD k 0 * y / 2 ^ 64 < 2 ^ 64 := by
        rw [Nat.div_lt_iff_lt_mul (by omega)]
        exact Nat.mul_lt_mul'' hx1 HY.out
      generalize xs.getD k 0 * y % 2 ^ 64 = lo at *
      generalize xs.getD k 0 * y / 2 ^ 64 = hi at *
      generalize xs.getD k 0 * y = p at *
      generalize zs'.getD k 0 = z at *
      generalize xs.getD k 0 = x at *
      obtain ⟨s1, d1, hs1, hs12, hd1⟩ : ∃ s d, lo + c + 0 = s + 2 ^ 64 * d ∧ s < 2 ^ 64 ∧ d ≤ 1 := ⟨(lo + c) % 2 ^ 64, (lo + c) / 2 ^ 64, by omega, by omega, by omega⟩
      obtain ⟨s2, d2, hs2', hs22, hd2⟩ : ∃ s d, z + 2 ^ 64 * d = s + s1 + 0 ∧ s < 2 ^ 64 ∧ d ≤ 1 := by
        by_cases hb : s1 ≤ z
        · exact ⟨z - s1, 0, by omega, by omega, by omega⟩
        · exact ⟨z + 2 ^ 64 - s1, 1, by omega, by omega, by omega⟩
      have es : s2 = s := by omega
      have ed : hi + d1 + d2 = d := by omega
      have hadd1 := call_add64' lo c 0 s1 d1 (by omega) hs1 hs12
      have hsub2 := call_sub64' z s1 0 s2 d2 (by omega) hz1 hs12 hs2' hs22
      rw [Int.natCast_zero] at hadd1 hsub2
      have hw1 : IntKind.u64.wrap ((hi : Int) + d1) = ((hi + d1 : Nat) : Int) := by rw [IntKind.wrap_u64]; omega
      have hw2 : IntKind.u64.wrap (((hi + d1 : Nat) : Int) + d2) = (d : Int) := by rw [IntKind.wrap_u64]; omega
      obtain ⟨q, hq⟩ : ∃ q, q = hi + d1 := ⟨_, rfl⟩
      rw [← hq] at hw1 hw2
      subst es
      have HLW := Lib.hid hzl
      have i1 : (0 : Int) ≤ k := by omega
      have i2 : (k : Int) < l := by omega
      have i3 : (k : Int) < m := by omega
      clear hml hzl hs hs2 hx1 hz1 hc1 hd HI hib hmd hmdl hs1 hs12 hd1 hs2' hs22 hd2 ed hq
      go_wp2_with fail
      refine (HM.out _).mono ?_
      rintro e w1 ⟨rfl, rfl⟩
      go_wp2
      go_roundw
      case rel =>
        have hzl : zs'.length = m := HLW.out
        exact ⟨k + 1, d, by omega, by go_num, rfl, zs'.set k s2, HN, hA.set k s2 (by omega), hO.setCell _ (by omega) (by omega) _⟩
      case measure => simp [intOf]; omega
    · obtain rfl : k = l := by omega
      have c1 := hA k (by omega)
      have f1 := (HF.out.only hO) k (by omega)
      have hz1 := getD_lt HI.out.lt (by omega) k
      obtain ⟨s2, d2, hs2', hs22, hd2⟩ : ∃ s d, zs'.getD k 0 + 2 ^ 64 * d = s + c + 0 ∧ s < 2 ^ 64 ∧ d ≤ 1 := by
        by_cases hb : c ≤ zs'.getD k 0
        · exact ⟨zs'.getD k 0 - c, 0, by omega, by omega, by omega⟩
        · exact ⟨zs'.getD k 0 + 2 ^ 64 - c, 1, by omega, by omega, by omega⟩
      have hsub2 := call_sub64' (zs'.getD k 0) c 0 s2 d2 (by omega) hz1 hc1 hs2' hs22
      rw [Int.natCast_zero] at hsub2
      have HD := Lib.hid (HI.out.done (s := s2) (d := d2) HLX.out (by rw [HLZ.out]; exact hml) (by omega))
      have HS := Lib.hid (set_all_lt (k := k) HI.out.lt hs22)
      have HSL : Hid ((zs'.set k s2).length = k + 1) := Lib.hid (by rw [List.length_set]; omega)
      have HAS := Lib.hid (hA.set k s2 (by omega))
      have HOS := Lib.hid (hO.setCell (oz + k) (by omega) (by omega) (.int .u64 (s2 : Int)))
      have HD2 := Lib.hid hd2
      generalize zs'.getD k 0 = z at *
      have i1 : (0 : Int) ≤ k := by omega
      have i3 : (k : Int) < m := by omega
      clear hml hc1 hz1 hs2' hs22 hd2 HI hzl hO hA
      go_wp2
      go_ret
      have hO := HOS.out
      rw [HM1.out] at hO
      exact ⟨_, d2, HD2.out, rfl, HSL.out, HS.out, HD.out, HAS.out, hO⟩
end Go.Proofs.YtciohlbpjaighaaDoor
