/- Records of both sides: the law's walk. -/
import Derived.Test.YtdmoiagliflecaaO15
import Derived.Test.YtdmoiagliflecaaO12
namespace Go.Proofs.Ytdmoiagliflecaa
open Go.RowKit

set_option maxRecDepth 100000 in
set_option maxHeartbeats 400000 in
theorem rNext_empty (p : Option Addr) (c : Nat) (w : World) : Calls Try.prog 21 #[.slice p 0 c] w (RetNext w (0, [], 0, 3)) := by
  go_enter Try.func21, Try.ntmps21
  go_wp2
  exact bodyPost_ret (v := .tuple #[.int .i64 0, .slice none 0 0, .int .i64 0, .int .i64 3]) (by simp [results, Try.results21, go_sem]) rfl (RetNext.err (n := 3) (Below.refl _ _))

set_option maxRecDepth 100000 in
set_option maxHeartbeats 400000 in
theorem rNext_zero (b off l c : Nat) (w : World) (h0 : 0 < l) (h : w.cell? ⟨b, off, none⟩ = some (.int .u8 0)) (_hlc : l ≤ c) : Calls Try.prog 21 #[.slice (some ⟨b, off, none⟩) l c] w (RetNext w (0, [], 0, 2)) := by
  go_enter Try.func21, Try.ntmps21
  go_wp2
  exact bodyPost_ret (v := .tuple #[.int .i64 0, .slice none 0 0, .int .i64 0, .int .i64 2]) (by simp [results, Try.results21, go_sem]) rfl (RetNext.err (n := 2) (Below.refl _ _))

/-- The document's Next. -/
theorem rNext_any (p : Option Addr) (l c : Nat) (t : List Nat) (w : World) (hm : l ≤ 140737488351232) (h : IsB w p l c t) :
    Calls Try.prog 21 #[.slice p l c] w (RetNext w (nextSpec t)) := by
  rcases h.cases with ⟨rfl, rfl⟩ | ⟨b, off, rfl, h1, h2, h3, h4, h5⟩
  · exact rNext_empty p c w
  · by_cases hx : t.getD 0 0 = 0
    · have hs : nextSpec t = (0, [], 0, 2) := by unfold nextSpec; rw [if_neg (by omega), if_pos hx]
      rw [hs]
      have hc := h4 0 (by omega)
      rw [hx] at hc
      exact rNext_zero b off l c w h1 hc h3
    · exact rNext_at b off l c t w hm h2 h1 h3 h5 h4 hx

set_option maxHeartbeats 400000 in
theorem seal_arg (k : Int) (p : Option Addr) (l c : Nat) (w : World) (h : k = -1 ∨ k = 0 ∨ k = 256) : Calls Try.prog 6 #[.int .i64 k, .slice p l c] w fun e w' => w = w' ∧ e = .returned (.tuple #[.slice none 0 0, .int .i64 1]) := by
  rcases h with rfl | rfl | rfl
  all_goals
    go_enter Try.func6, Try.ntmps6
    go_wp2
    go_ret2
    exact ⟨rfl, rfl⟩

set_option maxRecDepth 100000 in
set_option maxHeartbeats 2000000 in
theorem sealsLaw (kind how at_ : Int) (by_ l1 c1 l2 c2 l3 c3 : Nat) (p1 p2 p3 : Option Addr) (bs1 bs2 bs3 : List Nat) (w : World) (hk1 : -9223372036854775808 ≤ kind) (hk2 : kind ≤ 9223372036854775807)
    (hh1 : -9223372036854775808 ≤ how) (hh2 : how ≤ 9223372036854775807) (ha1 : -9223372036854775808 ≤ at_) (ha2 : at_ ≤ 9223372036854775807) (hy : by_ < 256)
    (h1 : IsB w p1 l1 c1 bs1) (h2 : IsB w p2 l2 c2 bs2) (h3 : IsB w p3 l3 c3 bs3) (hb2 : l2 ≤ 1048576) (hb3 : l3 ≤ 1048576) :
    Calls Try.prog 4 #[.int .i64 kind, .slice p1 l1 c1, .slice p2 l2 c2, .slice p3 l3 c3, .int .i64 how, .int .i64 at_, .int .u8 (by_ : Int)] w fun e w' => e = .returned (.bool true) ∧ Below w.heap.size w w' := by
  obtain ⟨r0, hr0⟩ : ∃ r0 : Nat, kind % ((258 : Nat) : Int) = (r0 : Int) := ⟨(kind % ((258 : Nat) : Int)).toNat, by omega⟩
  have hr1 : r0 < 258 := by omega
  have hB256 : ∀ x ∈ bs1.take 3000, x < 256 := fun x hx => h1.2.1 x (List.mem_of_mem_take hx)
  obtain ⟨m, hm⟩ : ∃ m, m = (bs1.take 3000).length := ⟨_, rfl⟩
  have hml : m ≤ 3000 := by rw [hm, List.length_take]; omega
  obtain ⟨B, hB⟩ : ∃ B, B = bs1.take 3000 := ⟨_, rfl⟩
  have hfew := fun w' (hb : Below w.heap.size w w') => few_any p1 l1 c1 3000 bs1 w' (by omega) (h1.mono hb)
  rw [← hB] at hm hB256 hfew
  have HF := Lib.hid hfew; have HB := Lib.hid hB256; have HM := Lib.hid hm; have HR0 := Lib.hid hr0
  have H2 := Lib.hid h2; have H3 := Lib.hid h3
  clear hfew hB256 hm hr0 h1 h2 h3 hB
  by_cases hout : r0 = 0 ∨ r0 = 1 ∨ r0 = 257
  · rcases hout with rfl | rfl | rfl
    all_goals
      go_enter Try.func4, Try.ntmps4
      go_wp2_with fail
      refine (pick_any kind 258 w hk1 hk2 (by omega) (by omega)).mono ?_
      rintro e w' ⟨rfl, rfl⟩
      rw [HR0.out]
      go_wp2_with fail
      refine (HF.out w (Below.refl _ _)).mono ?_
      rintro e w1 ⟨g, o, c1, rfl, x1, x2, x3, x4, hb⟩
      have HB1 := Lib.hid hb
      clear x1 x2 x3 x4 hb
      go_wp2_with fail
      refine (seal_arg _ _ _ _ w1 (by decide)).mono ?_
      rintro e w2 ⟨rfl, rfl⟩
      go_wp2_with fail
      refine (known4_any w1).mono ?_
      rintro e w3 ⟨rfl, hb⟩
      have HB3 := Lib.hid (below_step HB1.out hb)
      clear hb
      go_wp2
      go_ret
      exact ⟨rfl, HB3.out⟩
  · obtain ⟨k, hke⟩ : ∃ k, k = r0 - 1 := ⟨_, rfl⟩
    have hk : (r0 : Int) - 1 = (k : Int) := by omega
    have hkb1 : 1 ≤ k := by omega
    have hkb2 : k ≤ 255 := by omega
    obtain ⟨S, hS⟩ : ∃ S, S = sealed k B := ⟨_, rfl⟩
    obtain ⟨L, hL⟩ : ∃ L, L = S.length := ⟨_, rfl⟩
    have hLb : 10 ≤ L ∧ L ≤ 4000 := by
      rw [hL, hS, sealed_length, ← HM.out]
      have := varint_pos m
      have := varint_length m 4 (by omega) (by omega)
      omega
    have HS := Lib.hid hS; have HL := Lib.hid hL; have HK := Lib.hid hk
    have HX := Lib.hid (show ∀ x ∈ S, x < 256 by rw [hS]; exact sealed_lt k B (by omega) HB.out)
    clear hS hL hk hke hout
    go_enter Try.func4, Try.ntmps4
    go_wp2_with fail
    refine (pick_any kind 258 w hk1 hk2 (by omega) (by omega)).mono ?_
    rintro e w' ⟨rfl, rfl⟩
    rw [HR0.out]
    have hk := HK.out
    go_wp2_with fail
    refine (HF.out w (Below.refl _ _)).mono ?_
    rintro e w1 ⟨g, o, c1, rfl, x1, x2, x3, x4, hb⟩
    rw [← HM.out]
    have A1 := Lib.hid x3
    have HB1 := Lib.hid hb
    clear x1 x2 x3 x4 hb
    go_wp2_with fail
    refine (seal_any k g o m c1 B w1 hkb1 hkb2 HM.out.symm (by omega) HB.out A1.out).mono ?_
    rintro e w2 ⟨g2, rfl, x2, x3, x4, hb⟩
    rw [← HS.out] at x3 x4 ⊢
    rw [← HL.out]
    have A2 := Lib.hid x3
    have HB2 := Lib.hid (below_step HB1.out hb)
    clear x2 x3 x4 hb A1
    go_wp2_with fail
    refine (HF.out w2 HB2.out).mono ?_
    rintro e w3 ⟨g3, o3, c3', rfl, x1, x2, x3, x4, hb⟩
    rw [← HM.out]
    have A3 := Lib.hid x3
    have A2 := Lib.hid (A2.out.mono hb)
    have HB3 := Lib.hid (below_step HB2.out hb)
    clear x1 x2 x3 x4 hb
    go_wp2_with fail
    refine (rSeal_any k g3 o3 m c3' B w3 hkb2 HM.out.symm (by omega) HB.out A3.out).mono ?_
    rintro e w4 ⟨g4, c4, rfl, ho, hb⟩
    rw [← HS.out] at ho ⊢
    rw [← HL.out] at ho ⊢
    have O4 := Lib.hid ho
    have A2 := Lib.hid (A2.out.mono hb)
    have HB4 := Lib.hid (below_step HB3.out hb)
    have hg4 : w3.heap.size ≤ g4 := (ho.lt g4 rfl).1
    have hg4w := (ho.lt g4 rfl).2
    clear ho hb A3
    go_wp2_with fail
    refine (known4_any w4).mono ?_
    rintro e w5 ⟨rfl, hb⟩
    have O5 := Lib.hid (O4.out.kept (w' := w5) (row := none) ⟨hb.os, hb.tape, hb.output, hb.size, fun i hi _ => hb.block i hi⟩ (.inr (by simp [Value.ownBlock])))
    have A2 := Lib.hid (A2.out.mono hb)
    have HB5 := Lib.hid (below_step HB4.out hb)
    have hwg : w.heap.size ≤ g4 := by have := HB3.out.size; omega
    have hg5 : g4 < w5.heap.size := Nat.lt_of_lt_of_le hg4w hb.size
    have hz5 : w3.heap.size ≤ w5.heap.size := by omega
    obtain ⟨_, hLc, a4, f4⟩ := ownsRow_at (k := .u8) (xs := S) O5.out HL.out.symm
    have A4 := Lib.hid a4; have F4 := Lib.hid f4
    have hs1 := run_str_at (c := L) HL.out.symm A2.out
    have hs2 := run_str_at (c := c4) HL.out.symm A4.out
    obtain ⟨s, hse⟩ : ∃ s, s = bstr S := ⟨_, rfl⟩
    rw [← hse] at hs1 hs2
    clear hb hse a4 f4 hg4w O4
    go_wp2_with fail
    refine (sum_any p2 l2 c2 bs2 w5 (by omega) (H2.out.mono HB5.out)).mono ?_
    rintro e w' ⟨rfl, rfl⟩
    go_wp2_with fail
    refine (rsum_any p2 l2 c2 bs2 w5 (by omega) (H2.out.mono HB5.out)).mono ?_
    rintro e w' ⟨rfl, rfl⟩
    clear hs1 hs2
    obtain ⟨rh, hrh⟩ : ∃ rh : Nat, how % ((5 : Nat) : Int) = (rh : Int) := ⟨(how % ((5 : Nat) : Int)).toNat, by omega⟩
    have hrh5 : rh < 5 := by omega
    have HRH := Lib.hid hrh
    clear hrh
    go_wp2_with fail
    refine (pick_any how 5 w5 hh1 hh2 (by omega) (by omega)).mono ?_
    rintro e w' ⟨rfl, rfl⟩
    rw [HRH.out]
    rcases (by omega : rh = 0 ∨ rh = 1 ∨ rh = 2 ∨ rh = 3 ∨ rh = 4) with rfl | rfl | rfl | rfl | rfl
    · go_wp2_with fail
      refine (few_any p2 l2 c2 3000 bs2 w5 (by omega) (H2.out.mono HB5.out)).mono ?_
      rintro e w6 ⟨g6, o6, c6', rfl, x1, x2, x3, x4, hb⟩
      have AX := Lib.hid x3
      have HXX := Lib.hid (show ∀ x ∈ bs2.take 3000, x < 256 from fun x hx => H2.out.2.1 x (List.mem_of_mem_take hx))
      have HBX := Lib.hid (below_step HB5.out hb)
      obtain ⟨lx, hlx⟩ : ∃ lx, lx = (bs2.take 3000).length := ⟨_, rfl⟩
      have hlx2 : lx ≤ 3000 := by rw [hlx, List.length_take]; omega
      rw [← hlx] at x1 ⊢
      have HXL := Lib.hid hlx.symm
      obtain ⟨X, hX⟩ : ∃ X, X = bs2.take 3000 := ⟨_, rfl⟩
      rw [← hX] at AX HXX HXL
      clear x2 x3 x4 hb hlx hX
      go_wp2_with fail
      refine (few_any (some ⟨g6, o6, none⟩) lx c6' lx X w6 (by omega) (IsB.of_at AX.out HXL.out x1 HXX.out)).mono ?_
      rintro e wa ⟨gf, of, cf, rfl, y1, y2, y3, y4, hb⟩
      rw [List.take_of_length_le (by rw [HXL.out]; exact Nat.le_refl _)] at y1 y3 ⊢
      rw [HXL.out] at y1 ⊢
      have AF := Lib.hid y3
      have AX2 := Lib.hid (AX.out.mono hb)
      have HBA := Lib.hid (below_step HBX.out hb)
      clear y2 y3 y4 hb
      go_wp2_with fail
      refine (next_any (some ⟨gf, of, none⟩) lx cf X wa (by omega) (IsB.of_at AF.out HXL.out y1 HXX.out)).mono ?_
      obtain ⟨r, hr⟩ : ∃ r, r = nextSpec X := ⟨_, rfl⟩
      have HRR := Lib.hid hr
      rw [← hr]
      clear hr
      rintro e wb ⟨p5, l5, c5, rfl, hs5, hb⟩
      have S5 := Lib.hid hs5
      have AX3 := Lib.hid (AX2.out.mono hb)
      have HBB := Lib.hid (below_step HBA.out hb)
      clear hs5 hb AF
      go_wp2_with fail
      refine (rNext_any (some ⟨g6, o6, none⟩) lx c6' X wb (by omega) (IsB.of_at AX3.out HXL.out x1 HXX.out)).mono ?_
      rw [← HRR.out]
      rintro e wc ⟨p6, l6, c6, rfl, hs6, hb⟩
      have hq1 := run_str (S5.out.mono hb)
      have hq2 := run_str hs6
      have HBC := Lib.hid (below_step HBB.out hb)
      obtain ⟨sq, hsq⟩ : ∃ s, s = bstr r.2.1 := ⟨_, rfl⟩
      rw [← hsq] at hq1 hq2
      obtain ⟨a, bb, cc, ee⟩ := r
      simp only
      clear hsq hs6 hb S5 AX2 AX3
      go_wp2
      go_ret
      exact ⟨rfl, HBC.out⟩
    · obtain ⟨j, hj⟩ : ∃ j : Nat, at_ % (L : Int) = (j : Int) := ⟨(at_ % (L : Int)).toNat, by have := Int.emod_nonneg at_ (show (L : Int) ≠ 0 by omega); omega⟩
      have hjL : j < L := by have := Int.emod_lt_of_pos at_ (show (0 : Int) < L by omega); omega
      have hcell := A4.out j (by rw [← HL.out]; exact hjL)
      have hfr := F4.out j hjL
      rw [Nat.zero_add] at hcell hfr
      obtain ⟨x, hx⟩ : ∃ x, x = S.getD j 0 := ⟨_, rfl⟩
      rw [← hx] at hcell
      have hx256 : x < 256 := by rw [hx]; exact getD_lt HX.out (by omega) j
      obtain ⟨y, hyy⟩ : ∃ y, y = x ^^^ by_ := ⟨_, rfl⟩
      have hxor : bits .xor .u8 (x : Int) (by_ : Int) = (y : Int) := by rw [u8_xor_nat x by_ hx256 hy, hyy]
      have hy256 : y < 256 := by rw [hyy]; exact Nat.xor_lt_two_pow (n := 8) hx256 hy
      have AX := Lib.hid (A4.out.set0 j y (by rw [← HL.out]; exact hjL))
      have HBX := Lib.hid (HB5.out.setCell (p := ⟨g4, j, none⟩) hwg (.int .u8 (y : Int)))
      have HXL := Lib.hid (show (S.set j y).length = L by rw [List.length_set, HL.out])
      have HXX := Lib.hid (show ∀ z ∈ S.set j y, z < 256 from fun z hz => (List.mem_or_eq_of_mem_set hz).elim (fun h => HX.out z h) (fun h => by rw [h]; exact hy256))
      obtain ⟨X, hXe⟩ : ∃ X, X = S.set j y := ⟨_, rfl⟩
      rw [← hXe] at AX HXL HXX
      have HJ := Lib.hid hj
      clear hj hx hyy hXe A4 F4
      go_wp2_with fail
      refine (pick_any at_ L w5 ha1 ha2 (by omega) (by omega)).mono ?_
      rintro e w' ⟨rfl, rfl⟩
      rw [HJ.out]
      obtain ⟨w6, hw6⟩ : ∃ w6, w6 = w5.setCell ⟨g4, j, none⟩ (.int .u8 (y : Int)) := ⟨_, rfl⟩
      have HW6 := Lib.hid hw6
      rw [← hw6] at AX HBX
      clear hw6
      go_wp2_with fail
      rw [← HW6.out]
      refine (few_any (some ⟨g4, 0, none⟩) L c4 L X w6 (by omega) (IsB.of_at AX.out HXL.out hLc HXX.out)).mono ?_
      rintro e wa ⟨gf, of, cf, rfl, y1, y2, y3, y4, hb⟩
      rw [List.take_of_length_le (by rw [HXL.out]; exact Nat.le_refl _)] at y1 y3 ⊢
      rw [HXL.out] at y1 ⊢
      have AF := Lib.hid y3
      have AX2 := Lib.hid (AX.out.mono hb)
      have HBA := Lib.hid (below_step HBX.out hb)
      clear y2 y3 y4 hb
      go_wp2_with fail
      refine (next_any (some ⟨gf, of, none⟩) L cf X wa (by omega) (IsB.of_at AF.out HXL.out y1 HXX.out)).mono ?_
      obtain ⟨r, hr⟩ : ∃ r, r = nextSpec X := ⟨_, rfl⟩
      have HRR := Lib.hid hr
      rw [← hr]
      clear hr
      rintro e wb ⟨p5, l5, c5, rfl, hs5, hb⟩
      have S5 := Lib.hid hs5
      have AX3 := Lib.hid (AX2.out.mono hb)
      have HBB := Lib.hid (below_step HBA.out hb)
      clear hs5 hb AF
      go_wp2_with fail
      refine (rNext_any (some ⟨g4, 0, none⟩) L c4 X wb (by omega) (IsB.of_at AX3.out HXL.out hLc HXX.out)).mono ?_
      rw [← HRR.out]
      rintro e wc ⟨p6, l6, c6, rfl, hs6, hb⟩
      have hq1 := run_str (S5.out.mono hb)
      have hq2 := run_str hs6
      have HBC := Lib.hid (below_step HBB.out hb)
      obtain ⟨sq, hsq⟩ : ∃ s, s = bstr r.2.1 := ⟨_, rfl⟩
      rw [← hsq] at hq1 hq2
      obtain ⟨a, bb, cc, ee⟩ := r
      simp only
      clear hsq hs6 hb S5 AX2 AX3
      go_wp2
      go_ret
      exact ⟨rfl, HBC.out⟩
    · have hL1 : (L : Int) + 1 = ((L + 1 : Nat) : Int) := by omega
      obtain ⟨L1, hL1e⟩ : ∃ L1, L1 = L + 1 := ⟨_, rfl⟩
      rw [← hL1e] at hL1
      obtain ⟨j, hj⟩ : ∃ j : Nat, at_ % (L1 : Int) = (j : Int) := ⟨(at_ % (L1 : Int)).toNat, by have := Int.emod_nonneg at_ (show (L1 : Int) ≠ 0 by omega); omega⟩
      have hjL : j ≤ L := by have := Int.emod_lt_of_pos at_ (show (0 : Int) < L1 by omega); omega
      have hjc : j ≤ c4 := by omega
      have hL10 : 0 < L1 := by omega
      have hL12 : L1 ≤ 4001 := by omega
      have AX := Lib.hid (A4.out.take j)
      have HXL := Lib.hid (show (S.take j).length = j by rw [List.length_take, ← HL.out]; omega)
      have HXX := Lib.hid (show ∀ z ∈ S.take j, z < 256 from fun z hz => HX.out z (List.mem_of_mem_take hz))
      obtain ⟨X, hXe⟩ : ∃ X, X = S.take j := ⟨_, rfl⟩
      rw [← hXe] at AX HXL HXX
      have HJ := Lib.hid hj
      clear hj hXe A4 F4 hL1e
      go_wp2_with fail
      refine (pick_any at_ L1 w5 ha1 ha2 hL10 (by omega)).mono ?_
      rintro e w' ⟨rfl, rfl⟩
      rw [HJ.out]
      go_wp2_with fail
      refine (few_any (some ⟨g4, 0, none⟩) j c4 j X w5 (by omega) (IsB.of_at AX.out HXL.out hjc HXX.out)).mono ?_
      rintro e wa ⟨gf, of, cf, rfl, y1, y2, y3, y4, hb⟩
      rw [List.take_of_length_le (by rw [HXL.out]; exact Nat.le_refl _)] at y1 y3 ⊢
      rw [HXL.out] at y1 ⊢
      have AF := Lib.hid y3
      have AX2 := Lib.hid (AX.out.mono hb)
      have HBA := Lib.hid (below_step HB5.out hb)
      clear y2 y3 y4 hb
      go_wp2_with fail
      refine (next_any (some ⟨gf, of, none⟩) j cf X wa (by omega) (IsB.of_at AF.out HXL.out y1 HXX.out)).mono ?_
      obtain ⟨r, hr⟩ : ∃ r, r = nextSpec X := ⟨_, rfl⟩
      have HRR := Lib.hid hr
      rw [← hr]
      clear hr
      rintro e wb ⟨p5, l5, c5, rfl, hs5, hb⟩
      have S5 := Lib.hid hs5
      have AX3 := Lib.hid (AX2.out.mono hb)
      have HBB := Lib.hid (below_step HBA.out hb)
      clear hs5 hb AF
      go_wp2_with fail
      refine (rNext_any (some ⟨g4, 0, none⟩) j c4 X wb (by omega) (IsB.of_at AX3.out HXL.out hjc HXX.out)).mono ?_
      rw [← HRR.out]
      rintro e wc ⟨p6, l6, c6, rfl, hs6, hb⟩
      have hq1 := run_str (S5.out.mono hb)
      have hq2 := run_str hs6
      have HBC := Lib.hid (below_step HBB.out hb)
      obtain ⟨sq, hsq⟩ : ∃ s, s = bstr r.2.1 := ⟨_, rfl⟩
      rw [← hsq] at hq1 hq2
      obtain ⟨a, bb, cc, ee⟩ := r
      simp only
      clear hsq hs6 hb S5 AX2 AX3
      go_wp2
      go_ret
      exact ⟨rfl, HBC.out⟩
    · rcases (H3.out.mono HB5.out).cases with ⟨rfl, rfl⟩ | ⟨b8, o8, rfl, h81, h82, h83, h84, h85⟩
      · have hp3 : p3 = none ∧ c3 = 0 ∨ ∃ ad, p3 = some ad := by
          cases p3 with
          | none => obtain ⟨_, _, ⟨_, _, h⟩ | ⟨_, _, _, h, _⟩⟩ := H3.out
                    · exact Or.inl ⟨rfl, h⟩
                    · cases h
          | some ad => exact Or.inr ⟨ad, rfl⟩
        rcases hp3 with ⟨rfl, rfl⟩ | ⟨ad, rfl⟩
        · have HXL := Lib.hid HL.out.symm
          obtain ⟨i0, hi, hz0, hz1, hz2⟩ := info_parts Try.infoU8
          have HOW := Lib.hid O5.out
          go_wp2_with (at_builtin; go_loud (refine wpList_append_own_none rfl (.tmp 106) (.tmp 107) 22 rfl w3.heap.size 5 i0 1 Try.underlying22 hi (.slice (some ⟨g4, 0, none⟩) L c4) L (cellsOfRow .u8 S) rfl HOW.out rfl ?_))
          go_wp2_with fail
          refine (few_any (some ⟨g4, 0, none⟩) L c4 L S w5 (by omega) (IsB.of_at A4.out HXL.out hLc HX.out)).mono ?_
          rintro e wa ⟨gf, of, cf, rfl, y1, y2, y3, y4, hb⟩
          rw [List.take_of_length_le (by rw [HXL.out]; exact Nat.le_refl _)] at y1 y3 ⊢
          rw [HXL.out] at y1 ⊢
          have AF := Lib.hid y3
          have AX2 := Lib.hid (A4.out.mono hb)
          have HBA := Lib.hid (below_step HB5.out hb)
          clear y2 y3 y4 hb
          go_wp2_with fail
          refine (next_any (some ⟨gf, of, none⟩) L cf S wa (by omega) (IsB.of_at AF.out HXL.out y1 HX.out)).mono ?_
          obtain ⟨r, hr⟩ : ∃ r, r = nextSpec S := ⟨_, rfl⟩
          have HRR := Lib.hid hr
          rw [← hr]
          clear hr
          rintro e wb ⟨p5, l5, c5, rfl, hs5, hb⟩
          have S5 := Lib.hid hs5
          have AX3 := Lib.hid (AX2.out.mono hb)
          have HBB := Lib.hid (below_step HBA.out hb)
          clear hs5 hb AF
          go_wp2_with fail
          refine (rNext_any (some ⟨g4, 0, none⟩) L c4 S wb (by omega) (IsB.of_at AX3.out HXL.out hLc HX.out)).mono ?_
          rw [← HRR.out]
          rintro e wc ⟨p6, l6, c6, rfl, hs6, hb⟩
          have hq1 := run_str (S5.out.mono hb)
          have hq2 := run_str hs6
          have HBC := Lib.hid (below_step HBB.out hb)
          obtain ⟨sq, hsq⟩ : ∃ s, s = bstr r.2.1 := ⟨_, rfl⟩
          rw [← hsq] at hq1 hq2
          obtain ⟨a, bb, cc, ee⟩ := r
          simp only
          clear hsq hs6 hb S5 AX2 AX3
          go_wp2
          go_ret
          exact ⟨rfl, HBC.out⟩
        · have HXL := Lib.hid HL.out.symm
          obtain ⟨i0, hi, hz0, hz1, hz2⟩ := info_parts Try.infoU8
          have hLm : L + 0 ≤ maxLen := by unfold maxLen; omega
          have hLm2 : (L + 0) * 1 ≤ 140737488355328 := by omega
          go_wp2_with (at_builtin; go_loud (refine wpList_append_own _ rfl (.tmp 106) (.tmp 107) 22 rfl w3.heap.size 5 i0 (.int .u8 0) 1 1 Try.underlying22 hi hz0 hz1 hz2 rfl (by decide) (.slice (some ⟨g4, 0, none⟩) L c4) L (cellsOfRow .u8 S) rfl O5.out ad 0 c3 [] rfl rfl (fun j u h => by simp at h) (fun u h => by simp at h) hLm hLm2 hz5 ?_))
          intro v' w6 hown hg _
          obtain ⟨g7, c7, rfl⟩ := ownsRow_pos hown (by omega)
          obtain ⟨_, hlc7, a7, f7⟩ := ownsRow_at (k := .u8) (xs := S) hown HXL.out
          have AX := Lib.hid a7
          have hb6 : Below w3.heap.size w5 w6 := (Below.refl w3.heap.size w5).grown hg hz5 (fun q hq => (O5.out.lt q hq).1)
          have HBX := Lib.hid (HB5.out.trans (hb6.mono HB3.out.size))
          clear hown hg a7 f7 hb6 A4 F4
          go_wp2_with fail
          refine (few_any (some ⟨g7, 0, none⟩) L c7 L S w6 (by omega) (IsB.of_at AX.out HXL.out hlc7 HX.out)).mono ?_
          rintro e wa ⟨gf, of, cf, rfl, y1, y2, y3, y4, hb⟩
          rw [List.take_of_length_le (by rw [HXL.out]; exact Nat.le_refl _)] at y1 y3 ⊢
          rw [HXL.out] at y1 ⊢
          have AF := Lib.hid y3
          have AX2 := Lib.hid (AX.out.mono hb)
          have HBA := Lib.hid (below_step HBX.out hb)
          clear y2 y3 y4 hb
          go_wp2_with fail
          refine (next_any (some ⟨gf, of, none⟩) L cf S wa (by omega) (IsB.of_at AF.out HXL.out y1 HX.out)).mono ?_
          obtain ⟨r, hr⟩ : ∃ r, r = nextSpec S := ⟨_, rfl⟩
          have HRR := Lib.hid hr
          rw [← hr]
          clear hr
          rintro e wb ⟨p5, l5, c5, rfl, hs5, hb⟩
          have S5 := Lib.hid hs5
          have AX3 := Lib.hid (AX2.out.mono hb)
          have HBB := Lib.hid (below_step HBA.out hb)
          clear hs5 hb AF
          go_wp2_with fail
          refine (rNext_any (some ⟨g7, 0, none⟩) L c7 S wb (by omega) (IsB.of_at AX3.out HXL.out hlc7 HX.out)).mono ?_
          rw [← HRR.out]
          rintro e wc ⟨p6, l6, c6, rfl, hs6, hb⟩
          have hq1 := run_str (S5.out.mono hb)
          have hq2 := run_str hs6
          have HBC := Lib.hid (below_step HBB.out hb)
          obtain ⟨sq, hsq⟩ : ∃ s, s = bstr r.2.1 := ⟨_, rfl⟩
          rw [← hsq] at hq1 hq2
          obtain ⟨a, bb, cc, ee⟩ := r
          simp only
          clear hsq hs6 hb S5 AX2 AX3
          go_wp2
          go_ret
          exact ⟨rfl, HBC.out⟩
      · have HXL := Lib.hid (show (S ++ bs3).length = L + l3 by rw [List.length_append, ← HL.out, h82])
        have HXX := Lib.hid (show ∀ z ∈ S ++ bs3, z < 256 from fun z hz => (List.mem_append.1 hz).elim (HX.out z) (h85 z))
        have H82 := Lib.hid h82; have H84 := Lib.hid h84
        clear h82 h84 h85
        go_wp2_with (at_builtin; go_loud (refine wpList_append_wr _ rfl (.tmp 106) (.tmp 107) rfl w3.heap.size (.slice (some ⟨g4, 0, none⟩) L c4) L S bs3 rfl HL.out.symm O5.out b8 o8 l3 c3 rfl H82.out H84.out (by omega) (by omega) hz5 ?_))
        intro g7 c7 w6 hown hg hold
        obtain ⟨X, hXe⟩ : ∃ X, X = S ++ bs3 := ⟨_, rfl⟩
        obtain ⟨lx, hlx⟩ : ∃ lx, lx = L + l3 := ⟨_, rfl⟩
        rw [← hXe] at HXL HXX hown
        rw [← hlx] at HXL hown ⊢
        have hlx2 : lx ≤ 1100000 := by omega
        clear hXe hlx hold
        obtain ⟨_, hlc7, a7, f7⟩ := ownsRow_at (k := .u8) (xs := X) hown HXL.out
        have AX := Lib.hid a7
        have hb6 : Below w3.heap.size w5 w6 := (Below.refl w3.heap.size w5).grown hg hz5 (fun q hq => (O5.out.lt q hq).1)
        have HBX := Lib.hid (HB5.out.trans (hb6.mono HB3.out.size))
        clear hown hg a7 f7 hb6 A4 F4
        go_wp2_with fail
        refine (few_any (some ⟨g7, 0, none⟩) lx c7 lx X w6 (by omega) (IsB.of_at AX.out HXL.out hlc7 HXX.out)).mono ?_
        rintro e wa ⟨gf, of, cf, rfl, y1, y2, y3, y4, hb⟩
        rw [List.take_of_length_le (by rw [HXL.out]; exact Nat.le_refl _)] at y1 y3 ⊢
        rw [HXL.out] at y1 ⊢
        have AF := Lib.hid y3
        have AX2 := Lib.hid (AX.out.mono hb)
        have HBA := Lib.hid (below_step HBX.out hb)
        clear y2 y3 y4 hb
        go_wp2_with fail
        refine (next_any (some ⟨gf, of, none⟩) lx cf X wa (by omega) (IsB.of_at AF.out HXL.out y1 HXX.out)).mono ?_
        obtain ⟨r, hr⟩ : ∃ r, r = nextSpec X := ⟨_, rfl⟩
        have HRR := Lib.hid hr
        rw [← hr]
        clear hr
        rintro e wb ⟨p5, l5, c5, rfl, hs5, hb⟩
        have S5 := Lib.hid hs5
        have AX3 := Lib.hid (AX2.out.mono hb)
        have HBB := Lib.hid (below_step HBA.out hb)
        clear hs5 hb AF
        go_wp2_with fail
        refine (rNext_any (some ⟨g7, 0, none⟩) lx c7 X wb (by omega) (IsB.of_at AX3.out HXL.out hlc7 HXX.out)).mono ?_
        rw [← HRR.out]
        rintro e wc ⟨p6, l6, c6, rfl, hs6, hb⟩
        have hq1 := run_str (S5.out.mono hb)
        have hq2 := run_str hs6
        have HBC := Lib.hid (below_step HBB.out hb)
        obtain ⟨sq, hsq⟩ : ∃ s, s = bstr r.2.1 := ⟨_, rfl⟩
        rw [← hsq] at hq1 hq2
        obtain ⟨a, bb, cc, ee⟩ := r
        simp only
        clear hsq hs6 hb S5 AX2 AX3
        go_wp2
        go_ret
        exact ⟨rfl, HBC.out⟩
    · have HXL := Lib.hid HL.out.symm
      go_wp2_with fail
      refine (few_any (some ⟨g4, 0, none⟩) L c4 L S w5 (by omega) (IsB.of_at A4.out HXL.out hLc HX.out)).mono ?_
      rintro e wa ⟨gf, of, cf, rfl, y1, y2, y3, y4, hb⟩
      rw [List.take_of_length_le (by rw [HXL.out]; exact Nat.le_refl _)] at y1 y3 ⊢
      rw [HXL.out] at y1 ⊢
      have AF := Lib.hid y3
      have AX2 := Lib.hid (A4.out.mono hb)
      have HBA := Lib.hid (below_step HB5.out hb)
      clear y2 y3 y4 hb
      go_wp2_with fail
      refine (next_any (some ⟨gf, of, none⟩) L cf S wa (by omega) (IsB.of_at AF.out HXL.out y1 HX.out)).mono ?_
      obtain ⟨r, hr⟩ : ∃ r, r = nextSpec S := ⟨_, rfl⟩
      have HRR := Lib.hid hr
      rw [← hr]
      clear hr
      rintro e wb ⟨p5, l5, c5, rfl, hs5, hb⟩
      have S5 := Lib.hid hs5
      have AX3 := Lib.hid (AX2.out.mono hb)
      have HBB := Lib.hid (below_step HBA.out hb)
      clear hs5 hb AF
      go_wp2_with fail
      refine (rNext_any (some ⟨g4, 0, none⟩) L c4 S wb (by omega) (IsB.of_at AX3.out HXL.out hLc HX.out)).mono ?_
      rw [← HRR.out]
      rintro e wc ⟨p6, l6, c6, rfl, hs6, hb⟩
      have hq1 := run_str (S5.out.mono hb)
      have hq2 := run_str hs6
      have HBC := Lib.hid (below_step HBB.out hb)
      obtain ⟨sq, hsq⟩ : ∃ s, s = bstr r.2.1 := ⟨_, rfl⟩
      rw [← hsq] at hq1 hq2
      obtain ⟨a, bb, cc, ee⟩ := r
      simp only
      clear hsq hs6 hb S5 AX2 AX3
      go_wp2
      go_ret
      exact ⟨rfl, HBC.out⟩
end Go.Proofs.Ytdmoiagliflecaa
