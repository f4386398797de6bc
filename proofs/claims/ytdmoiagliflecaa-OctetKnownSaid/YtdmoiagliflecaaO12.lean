/- A record of which one byte is turned is refused: the law's walk. -/
import Derived.Test.YtdmoiagliflecaaO10
import Derived.Test.YtdmoiagliflecaaO11
import Derived.Test.YtdmoiagliflecaaPick
namespace Go.Proofs.Ytdmoiagliflecaa
open Go.RowKit

/-- Next. -/
theorem next_any (p : Option Addr) (l c : Nat) (t : List Nat) (w : World) (hm : l ≤ 140737488351232) (h : IsB w p l c t) :
    Calls Try.prog 7 #[.slice p l c] w (RetNext w (nextSpec t)) := by
  by_cases he : (findSpec t).2.2 = 0
  · rcases h.cases with ⟨rfl, rfl⟩ | ⟨b, off, rfl, h1, h2, h3, h4, h5⟩
    · cases he
    · by_cases hs : l < (findSpec t).2.1 + 8
      · rw [nextSpec_find, if_neg (fun e => e he), if_pos (by omega)]
        exact next_short b off l c t w hm h2 h3 h5 h4 he hs
      · exact next_at b off l c t w hm h2 h3 h5 h4 he (by omega)
  · rw [nextSpec_find, if_pos he]
    exact next_err p l c t w hm h he

/-- One byte of the body, or of the checksum, is another one. -/
theorem turned_sum (k : Nat) (B : List Nat) (p y : Nat) (hk : 1 ≤ k) (hk2 : k ≤ 255) (hB : ∀ x ∈ B, x < 256) (hlen : B.length ≤ 4194304)
    (h1 : 1 + (varint B.length).length ≤ p) (h2 : p < (sealed k B).length) (hy : y < 256) (hne : y ≠ (sealed k B).getD p 0) : nextSpec ((sealed k B).set p y) = (0, [], 0, 13) := by
  have hul := unsealed_length k B
  have hx := unsealed_lt k B (by omega) hB
  unfold sealed at hne ⊢
  rw [sealed_length] at h2
  rw [List.set_append]
  by_cases hp : p < (unsealed k B).length
  · rw [if_pos hp]
    have e1 : (unsealed k B).set p y = k :: (varint B.length ++ B.set (p - 1 - (varint B.length).length) y) := by
      unfold unsealed
      rw [show p = (p - 1) + 1 from by omega, List.set_cons_succ, List.set_append, if_neg (by omega), Nat.add_sub_cancel]
    have hg : ((unsealed k B) ++ be8 (fnv (unsealed k B))).getD p 0 = (unsealed k B).getD p 0 := by
      rw [List.getD_eq_getElem?_getD, List.getElem?_append_left hp, ← List.getD_eq_getElem?_getD]
    rw [hg] at hne
    have hf := fnv_set_ne (unsealed k B) p y hx hp hy hne
    rw [e1] at hf ⊢
    refine nextSpec_sum k B.length _ _ (by omega) (by rw [List.length_set]) hlen rfl (fun h => hf ?_)
    exact (be8_inj (fnv_lt _) (fnv_lt _) h).symm
  · rw [if_neg hp]
    refine nextSpec_sum k B.length B _ (by omega) rfl hlen (by rw [List.length_set]; rfl) (fun h => hne ?_)
    have hi : p - (unsealed k B).length < (be8 (fnv (unsealed k B))).length := by rw [be8_length]; omega
    have h3 := congrArg (fun l => List.getD l (p - (unsealed k B).length) 0) h
    rw [List.getD_eq_getElem?_getD, List.getElem?_set_self hi] at h3
    rw [List.getD_eq_getElem?_getD, List.getElem?_append_right (by omega), ← List.getD_eq_getElem?_getD]
    exact h3

set_option maxHeartbeats 400000 in
theorem turnedLaw (kind at_ : Int) (by_ l c : Nat) (p : Option Addr) (bs : List Nat) (w : World) (hk1 : -9223372036854775808 ≤ kind) (hk2 : kind ≤ 9223372036854775807) (ha1 : -9223372036854775808 ≤ at_) (ha2 : at_ ≤ 9223372036854775807)
    (hy : by_ < 256) (h : IsB w p l c bs) :
    Calls Try.prog 5 #[.int .i64 kind, .slice p l c, .int .i64 at_, .int .u8 (by_ : Int)] w fun e w' => e = .returned (.bool true) ∧ Below w.heap.size w w' := by
  obtain ⟨r0, hr0⟩ : ∃ r0 : Nat, kind % ((255 : Nat) : Int) = (r0 : Int) := ⟨(kind % ((255 : Nat) : Int)).toNat, by omega⟩
  have hr1 : r0 < 255 := by omega
  have hB256 : ∀ x ∈ bs.take 2000, x < 256 := fun x hx => h.2.1 x (List.mem_of_mem_take hx)
  obtain ⟨m, hm⟩ : ∃ m, m = (bs.take 2000).length := ⟨_, rfl⟩
  have hm2 : m = min l 2000 := by rw [hm, List.length_take, h.1]; omega
  have hml : m ≤ 2000 := by omega
  have HI := Lib.hid h
  obtain ⟨B, hB⟩ : ∃ B, B = bs.take 2000 := ⟨_, rfl⟩
  have hfew := fun w' (hb : Below w.heap.size w w') => few_any p l c 2000 bs w' (by omega) (h.mono hb)
  rw [← hB] at hm hB256 hfew
  obtain ⟨v, hv⟩ : ∃ v, v = (varint m).length := ⟨_, rfl⟩
  have hv1 : 0 < v := by rw [hv]; exact varint_pos m
  have hv9 : v ≤ 9 := by rw [hv]; exact varint_length m 9 (by omega) (by omega)
  obtain ⟨k, hke⟩ : ∃ k, k = 1 + r0 := ⟨_, rfl⟩
  have hk : (1 : Int) + (r0 : Int) = (k : Int) := by omega
  have hkb1 : 1 ≤ k := by omega
  have hkb2 : k ≤ 255 := by omega
  obtain ⟨L, hL⟩ : ∃ L, L = (sealed k B).length := ⟨_, rfl⟩
  have hLe : L = 1 + v + m + 8 := by rw [hL, sealed_length, ← hm, ← hv]
  have HF := Lib.hid hfew; have HB := Lib.hid hB256; have HM := Lib.hid hm; have HL := Lib.hid hL; have HV := Lib.hid hv; have HK := Lib.hid hk; have HR0 := Lib.hid hr0
  have HLE := Lib.hid hLe; have HM2 := Lib.hid hm2
  have hL1 : 10 ≤ L := by omega
  have hL2 : L ≤ 3000 := by omega
  clear hfew hB256 hm hL hv hk hr0 hke hLe hB h hm2
  go_enter Try.func5, Try.ntmps5
  go_wp2_with fail
  refine (pick_any kind 255 w hk1 hk2 (by omega) (by omega)).mono ?_
  rintro e w' ⟨rfl, rfl⟩
  rw [HR0.out]
  have hk := HK.out
  go_wp2_with fail
  refine (HF.out w (Below.refl _ _)).mono ?_
  rintro e w1 ⟨g, o, c1, rfl, x1, x2, x3, x4, hb⟩
  rw [← HM.out]
  have A1 := Lib.hid x3
  have HB1 := Lib.hid hb
  clear x1 x2 x3 x4 hb
  go_wp2_with fail
  refine (seal_any k g o m c1 B w1 hkb1 hkb2 HM.out.symm (by omega) HB.out A1.out).mono ?_
  rintro e w2 ⟨g2, rfl, h2, h3, h4, hb⟩
  rw [← HL.out]
  have HG2 := Lib.hid (show w.heap.size ≤ g2 by have := HB1.out.size; omega)
  have A2 := Lib.hid h3
  have F2 := Lib.hid h4
  have HB2 := Lib.hid (below_step HB1.out hb)
  clear h2 h3 h4 hb hk A1
  go_wp2_with fail
  refine (known4_any w2).mono ?_
  rintro e w3 ⟨rfl, hb⟩
  have A3 := Lib.hid (A2.out.mono hb)
  have F3 := Lib.hid (F2.out.mono hb (by have := A2.out.lt (by rw [← HL.out]; omega); exact this))
  have HB3 := Lib.hid (below_step HB2.out hb)
  clear hb A2 F2
  by_cases hy0 : by_ = 0
  · subst hy0
    go_wp2
    go_ret
    exact ⟨rfl, HB3.out⟩
  · have hye : ((by_ : Int) == 0) = false := by simpa using hy0
    by_cases h2000 : l ≤ 2000
    · skip
      have hs1 : (L : Int) - 8 - (l : Int) = ((1 + v : Nat) : Int) := by have := HLE.out; have := HM2.out; omega
      obtain ⟨n, hn⟩ : ∃ n, n = 1 + v := ⟨_, rfl⟩
      rw [← hn] at hs1
      have hs2 : (L : Int) - (n : Int) = ((m + 8 : Nat) : Int) := by have := HLE.out; omega
      obtain ⟨d, hd⟩ : ∃ d, d = m + 8 := ⟨_, rfl⟩
      rw [← hd] at hs2
      obtain ⟨j, hj⟩ : ∃ j : Nat, at_ % (d : Int) = (j : Int) := ⟨(at_ % (d : Int)).toNat, by have := Int.emod_nonneg at_ (show (d : Int) ≠ 0 by omega); omega⟩
      have hjd : j < d := by have := Int.emod_lt_of_pos at_ (show (0 : Int) < d by omega); omega
      have hs3 : (n : Int) + (j : Int) = ((n + j : Nat) : Int) := by omega
      obtain ⟨q, hq⟩ : ∃ q, q = n + j := ⟨_, rfl⟩
      rw [← hq] at hs3
      have hqL : q < L := by have := HLE.out; omega
      have hd18 : d ≤ 2008 := by omega
      have hd0 : 0 < d := by omega
      have hcell := A3.out q (by rw [← HL.out]; exact hqL)
      have hfr := F3.out q (by rw [← HL.out]; exact hqL)
      rw [Nat.zero_add] at hcell hfr
      obtain ⟨x, hx⟩ : ∃ x, x = (sealed k B).getD q 0 := ⟨_, rfl⟩
      rw [← hx] at hcell
      have hx256 : x < 256 := by rw [hx]; exact getD_lt (sealed_lt k B (by omega) HB.out) (by omega) q
      obtain ⟨y, hyy⟩ : ∃ y, y = x ^^^ by_ := ⟨_, rfl⟩
      have hxor : bits .xor .u8 (x : Int) (by_ : Int) = (y : Int) := by rw [u8_xor_nat x by_ hx256 hy, hyy]
      have hy256 : y < 256 := by rw [hyy]; exact Nat.xor_lt_two_pow (n := 8) hx256 hy
      have hyx : y ≠ x := by
        intro e
        apply hy0
        have : x ^^^ by_ = x ^^^ 0 := by rw [← hyy, e, Nat.xor_zero]
        rw [Nat.xor_comm x by_, Nat.xor_comm x 0] at this
        exact xor_inj this
      have hns := turned_sum k B q y hkb1 hkb2 HB.out (by rw [← HM.out]; omega) (by rw [← HM.out, ← HV.out]; omega) (by rw [← HL.out]; exact hqL) hy256 (by rw [← hx]; exact hyx)
      have HNS := Lib.hid hns
      have HJ := Lib.hid hj
      have HS3 := Lib.hid hs3
      have hwg : w.heap.size ≤ g2 := HG2.out
      have AS := Lib.hid (A3.out.set0 q y (by rw [← HL.out]; exact hqL))
      have BS := Lib.hid (HB3.out.setCell (p := ⟨g2, q, none⟩) hwg (.int .u8 (y : Int)))
      have SL := Lib.hid (show ((sealed k B).set q y).length = L by rw [List.length_set, HL.out])
      have SX := Lib.hid (show ∀ z ∈ (sealed k B).set q y, z < 256 from fun z hz => (List.mem_or_eq_of_mem_set hz).elim (fun h => sealed_lt k B (by omega) HB.out z h) (fun h => by rw [h]; exact hy256))
      have HQL := Lib.hid hqL
      clear hns hj hs3 hq hx hyy hyx hn hd hy0
      go_wp2_with fail
      refine (pick_any at_ d w3 ha1 ha2 hd0 (by omega)).mono ?_
      rintro e w' ⟨rfl, rfl⟩
      rw [HJ.out]
      have hs3 := HS3.out
      go_wp2_with fail
      refine (next_any _ _ _ ((sealed k B).set q y) _ (by omega) (IsB.of_at AS.out SL.out (Nat.le_refl _) SX.out)).mono ?_
      rw [HNS.out]
      rintro e w4 ⟨p4, l4, c4, rfl, hs4, hb⟩
      have hl4 : l4 = 0 := hs4.1.symm
      subst hl4
      have HB4 := Lib.hid (below_step BS.out hb)
      clear hs4 hb
      go_wp2
      go_ret
      exact ⟨rfl, HB4.out⟩
    · have h2001 : 2000 < l := by omega
      have hs1 : (L : Int) - 8 - 2000 = ((1 + v : Nat) : Int) := by have := HLE.out; have := HM2.out; omega
      obtain ⟨n, hn⟩ : ∃ n, n = 1 + v := ⟨_, rfl⟩
      rw [← hn] at hs1
      have hs2 : (L : Int) - (n : Int) = ((m + 8 : Nat) : Int) := by have := HLE.out; omega
      obtain ⟨d, hd⟩ : ∃ d, d = m + 8 := ⟨_, rfl⟩
      rw [← hd] at hs2
      obtain ⟨j, hj⟩ : ∃ j : Nat, at_ % (d : Int) = (j : Int) := ⟨(at_ % (d : Int)).toNat, by have := Int.emod_nonneg at_ (show (d : Int) ≠ 0 by omega); omega⟩
      have hjd : j < d := by have := Int.emod_lt_of_pos at_ (show (0 : Int) < d by omega); omega
      have hs3 : (n : Int) + (j : Int) = ((n + j : Nat) : Int) := by omega
      obtain ⟨q, hq⟩ : ∃ q, q = n + j := ⟨_, rfl⟩
      rw [← hq] at hs3
      have hqL : q < L := by have := HLE.out; omega
      have hd18 : d ≤ 2008 := by omega
      have hd0 : 0 < d := by omega
      have hcell := A3.out q (by rw [← HL.out]; exact hqL)
      have hfr := F3.out q (by rw [← HL.out]; exact hqL)
      rw [Nat.zero_add] at hcell hfr
      obtain ⟨x, hx⟩ : ∃ x, x = (sealed k B).getD q 0 := ⟨_, rfl⟩
      rw [← hx] at hcell
      have hx256 : x < 256 := by rw [hx]; exact getD_lt (sealed_lt k B (by omega) HB.out) (by omega) q
      obtain ⟨y, hyy⟩ : ∃ y, y = x ^^^ by_ := ⟨_, rfl⟩
      have hxor : bits .xor .u8 (x : Int) (by_ : Int) = (y : Int) := by rw [u8_xor_nat x by_ hx256 hy, hyy]
      have hy256 : y < 256 := by rw [hyy]; exact Nat.xor_lt_two_pow (n := 8) hx256 hy
      have hyx : y ≠ x := by
        intro e
        apply hy0
        have : x ^^^ by_ = x ^^^ 0 := by rw [← hyy, e, Nat.xor_zero]
        rw [Nat.xor_comm x by_, Nat.xor_comm x 0] at this
        exact xor_inj this
      have hns := turned_sum k B q y hkb1 hkb2 HB.out (by rw [← HM.out]; omega) (by rw [← HM.out, ← HV.out]; omega) (by rw [← HL.out]; exact hqL) hy256 (by rw [← hx]; exact hyx)
      have HNS := Lib.hid hns
      have HJ := Lib.hid hj
      have HS3 := Lib.hid hs3
      have hwg : w.heap.size ≤ g2 := HG2.out
      have AS := Lib.hid (A3.out.set0 q y (by rw [← HL.out]; exact hqL))
      have BS := Lib.hid (HB3.out.setCell (p := ⟨g2, q, none⟩) hwg (.int .u8 (y : Int)))
      have SL := Lib.hid (show ((sealed k B).set q y).length = L by rw [List.length_set, HL.out])
      have SX := Lib.hid (show ∀ z ∈ (sealed k B).set q y, z < 256 from fun z hz => (List.mem_or_eq_of_mem_set hz).elim (fun h => sealed_lt k B (by omega) HB.out z h) (fun h => by rw [h]; exact hy256))
      have HQL := Lib.hid hqL
      clear hns hj hs3 hq hx hyy hyx hn hd hy0
      go_wp2_with fail
      refine (pick_any at_ d w3 ha1 ha2 hd0 (by omega)).mono ?_
      rintro e w' ⟨rfl, rfl⟩
      rw [HJ.out]
      have hs3 := HS3.out
      go_wp2_with fail
      refine (next_any _ _ _ ((sealed k B).set q y) _ (by omega) (IsB.of_at AS.out SL.out (Nat.le_refl _) SX.out)).mono ?_
      rw [HNS.out]
      rintro e w4 ⟨p4, l4, c4, rfl, hs4, hb⟩
      have hl4 : l4 = 0 := hs4.1.symm
      subst hl4
      have HB4 := Lib.hid (below_step BS.out hb)
      clear hs4 hb
      go_wp2
      go_ret
      exact ⟨rfl, HB4.out⟩
end Go.Proofs.Ytdmoiagliflecaa
