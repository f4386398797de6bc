/- A raw number as a place in a slice of whatever length; a slice of bytes cut there. -/
import Derived.Test.YtciohlbpjaighaaDoorPick
import Derived.Test.YtciohlbpjaighaaDoorRefQuot
import Derived.Test.YtciohlbpjaighaaDoorDivN
import Derived.Test.YtciohlbpjaighaaDoorLawKit
import Derived.Test.YtciohlbpjaighaaDoorIs
import Derived.Test.YtciohlbpjaighaaDoorRefKit
namespace Go.Proofs.YtciohlbpjaighaaDoor
open Go.RowKit

theorem IsB.pre {w : World} {p : Option Addr} {l c : Nat} {bs : List Nat} (h : IsB w p l c bs) (v : Nat) (hv : v ≤ l) : IsB w p v c (bs.take v) := by
  obtain ⟨h1, h2, h3⟩ := h
  refine ⟨by rw [List.length_take]; omega, fun x hx => h2 x (List.mem_of_mem_take hx), ?_⟩
  rcases h3 with ⟨rfl, rfl, rfl⟩ | ⟨b, off, sp, rfl, hc, hat⟩
  · exact Or.inl ⟨rfl, by omega, rfl⟩
  · refine Or.inr ⟨b, off, sp, rfl, by omega, fun i hi => ?_⟩
    rw [List.length_take] at hi
    have e : (bs.take v).getD i 0 = bs.getD i 0 := by simp [List.getD, List.getElem?_take_of_lt (by omega : i < v)]
    rw [e]; exact hat i (by omega)

theorem pick_of (n M t v : Int) (w : World) (hm : ¬ M = 0) (ht : n.tmod M = t) (wt : IntKind.i64.wrap t = t) (hv : v = if t < 0 then IntKind.i64.wrap (t + M) else t) :
    Calls Tryd.prog 5 #[.int .i64 n, .int .i64 M] w fun e w' => w = w' ∧ e = .returned (.int .i64 v) := by
  have HV := Lib.hid hv
  clear hv
  rcases Int.lt_or_le t 0 with hneg | hneg
  · obtain ⟨u, hu⟩ : ∃ u, IntKind.i64.wrap (t + M) = u := ⟨_, rfl⟩
    have HU := Lib.hid hu
    have wt2 : IntKind.i64.wrap (n.tmod M) = t := by rw [ht]; exact wt
    go_enter Tryd.func5, Tryd.ntmps5
    go_wp2
    go_ret
    rw [HV.out, if_pos hneg, HU.out]
    exact ⟨rfl, rfl⟩
  · have wt2 : IntKind.i64.wrap (n.tmod M) = t := by rw [ht]; exact wt
    go_enter Tryd.func5, Tryd.ntmps5
    go_wp2
    go_ret
    rw [HV.out, if_neg (by omega)]
    exact ⟨rfl, rfl⟩

theorem pick_cut (n : Int) (L : Nat) (w : World) (h1 : -9223372036854775808 ≤ n) (h2 : n ≤ 9223372036854775807) (hL : L ≤ 9223372036854775807) :
    Calls Tryd.prog 5 #[.int .i64 n, .int .i64 (IntKind.i64.wrap ((L : Int) + 1))] w fun e w' => w = w' ∧ ∃ v : Nat, v ≤ L ∧ e = .returned (.int .i64 (v : Int)) := by
  rcases Nat.lt_or_ge L 9223372036854775807 with hl | hl
  · have hw : IntKind.i64.wrap ((L : Int) + 1) = (L : Int) + 1 := by rw [IntKind.wrap_i64]; omega
    rw [hw]
    have hlt : n.tmod ((L : Int) + 1) < (L : Int) + 1 := Int.tmod_lt_of_pos n (by omega)
    have hgt : -((L : Int) + 1) < n.tmod ((L : Int) + 1) := by
      have := Int.tmod_lt_of_pos (-n) (show (0 : Int) < (L : Int) + 1 by omega)
      rw [Int.neg_tmod] at this
      omega
    obtain ⟨t, ht⟩ : ∃ t, n.tmod ((L : Int) + 1) = t := ⟨_, rfl⟩
    rw [ht] at hlt hgt
    have wt : IntKind.i64.wrap t = t := by rw [IntKind.wrap_i64]; omega
    obtain ⟨v, hv⟩ : ∃ v : Nat, (v : Int) = if t < 0 then IntKind.i64.wrap (t + ((L : Int) + 1)) else t := by
      rw [IntKind.wrap_i64]
      split
      · exact ⟨(t + ((L : Int) + 1)).toNat, by omega⟩
      · exact ⟨t.toNat, by omega⟩
    refine (pick_of n ((L : Int) + 1) t v w (by omega) ht wt hv).mono fun e w' h => ⟨h.1, v, ?_, h.2⟩
    rw [IntKind.wrap_i64] at hv
    split at hv <;> omega
  · obtain rfl : L = 9223372036854775807 := by omega
    have hw : IntKind.i64.wrap (((9223372036854775807 : Nat) : Int) + 1) = -9223372036854775808 := by rw [IntKind.wrap_i64]; omega
    rw [hw]
    obtain ⟨t, ht⟩ : ∃ t, n.tmod (-9223372036854775808) = t := ⟨_, rfl⟩
    have htv : t = if n = -9223372036854775808 then 0 else n := by
      rw [← ht, Int.tmod_neg]
      split
      · rename_i h; subst h; decide
      · rcases Int.lt_or_le n 0 with h | h
        · have h3 : (-n).tmod 9223372036854775808 = -n := Int.tmod_eq_of_lt (by omega) (by omega)
          rw [Int.neg_tmod] at h3
          omega
        · exact Int.tmod_eq_of_lt h (by omega)
    have wt : IntKind.i64.wrap t = t := by rw [IntKind.wrap_i64]; split at htv <;> omega
    obtain ⟨v, hv⟩ : ∃ v : Nat, (v : Int) = if t < 0 then IntKind.i64.wrap (t + -9223372036854775808) else t := by
      rw [IntKind.wrap_i64]
      split
      · exact ⟨((t + -9223372036854775808 + 9223372036854775808) % 18446744073709551616 - 9223372036854775808).toNat, by split at htv <;> omega⟩
      · exact ⟨t.toNat, by omega⟩
    refine (pick_of n (-9223372036854775808) t v w (by decide) ht wt hv).mono fun e w' h => ⟨h.1, v, ?_, h.2⟩
    rw [IntKind.wrap_i64] at hv
    split at hv <;> split at htv <;> omega
end Go.Proofs.YtciohlbpjaighaaDoor

/- NatQuotients: quotients and what is left are the document's; division by 0 is refused. -/
namespace Go.Proofs.YtciohlbpjaighaaDoor
open Go.RowKit

theorem rDiv_any (p q : Option Addr) (l k c d m n : Nat) (w : World) (hl : l ≤ 50000) (hn : 0 < n) (h1 : IsR w p l c m) (h2 : IsR w q k d n) :
    Calls Tryd.prog 9 #[.slice p l c, .slice q k d] w (RetRR w (m / n) (m % n)) := by
  rcases Nat.lt_or_ge m n with h | h
  · exact rDiv_less p q l k c d m n w (by omega) h h1 h2
  · rcases Nat.lt_or_ge n (2 ^ 32) with h3 | h3
    · exact rDiv_one p q l k c d m n w (by omega) h (by omega) h3 h1 h2
    · exact rDiv_long p q l k c d m n w hl h h3 h1 h2

set_option maxRecDepth 100000 in
set_option maxHeartbeats 8000000 in
theorem quotients_any (p q : Option Addr) (l c k d : Nat) (i : Int) (xs ys : List Nat) (w : World) (hi1 : -9223372036854775808 ≤ i) (hi2 : i ≤ 9223372036854775807) (hk : k ≤ 9223372036854775807) (h1 : IsB w p l c xs) (h2 : IsB w q k d ys) :
    Calls Tryd.prog 3 #[.slice p l c, .slice q k d, .int .i64 i] w fun e w' => e = .returned (.bool true) ∧ Below w.heap.size w w' := by
  have sm := ds_nb xs h1.2.1
  have hkd : k ≤ d := by rcases h2.2.2 with ⟨_, h, h'⟩ | ⟨_, _, _, _, h, _⟩ <;> omega
  have P1 := Lib.hid (fun W => pick_cut i k W hi1 hi2 hk)
  obtain ⟨M, hM⟩ : ∃ M : Int, IntKind.i64.wrap ((k : Int) + 1) = M := ⟨_, rfl⟩
  rw [hM] at P1
  have CUT := Lib.hid (fun v hv => h2.pre v hv)
  have SN := Lib.hid (fun v => ds_nb (ys.take v) (fun x hx => h2.2.1 x (List.mem_of_mem_take hx)))
  have T1 := Lib.hid (fun v w h1 h2 => two_any p q l c v d xs (ys.take v) w h1 h2)
  have H1 := Lib.hid h1
  have HK := Lib.hid hk
  clear h1 h2 hi1 hi2 hk
  generalize nb (xs.take 48) = m at *
  go_enter Tryd.func3, Tryd.ntmps3
  go_wp2_with fail
  refine (P1.out _).mono ?_
  rintro e _ ⟨rfl, v, hv, rfl⟩
  have hvd : (v : Int) ≤ d := by omega
  have hv0 : (0 : Int) ≤ v := by omega
  have hvm : (v : Int) ≤ 9223372036854775807 := by have := HK.out; omega
  go_wp2_with fail
  refine (T1.out v _ H1.out (CUT.out v hv)).mono ?_
  rintro e w1 ⟨s1, p1, l1, c1, s2, p2, l2, c2, p3, l3, c3, p4, l4, c4, rfl, n1, n2, r1, r2, hX⟩
  have sn := SN.out v
  have N1 := Lib.hid n1; have N2 := Lib.hid n2; have R1 := Lib.hid r1; have R2 := Lib.hid r2
  have HB := Lib.hid hX
  clear n1 n2 r1 r2 hX T1 H1 CUT SN P1 HK
  generalize nb (List.take 48 (List.take v ys)) = n at *
  have b3 : l3 ≤ 12 := R1.out.short sm
  have b4 : l4 ≤ 12 := R2.out.short sn
  have sq : (ds (m / n)).length ≤ 6 := Nat.le_trans (ds_mono (Nat.div_le_self m n)) sm
  have sr : (ds (m % n)).length ≤ 6 := Nat.le_trans (ds_mono (Nat.mod_le m n)) sm
  clear hkd hM hv hvd hv0 hvm
  go_wp2_with fail
  have BX : Below w1.heap.size w1 ((w1.alloc (.cells #[.int .u64 s1, .slice p1 l1 c1] 26)).alloc (.cells #[.int .u64 s2, .slice p2 l2 c2] 26)) := (by repeat' first | exact Below.refl _ _ | refine below_alloc ?_ _ | refine Below.drew ?_ | refine below_step ?_ (by assumption))
  have A0 : ((w1.alloc (.cells #[.int .u64 s1, .slice p1 l1 c1] 26)).alloc (.cells #[.int .u64 s2, .slice p2 l2 c2] 26)).cell? ⟨w1.heap.size, 0, none⟩ = some (.int .u64 s1) := by simp [go_sem]
  have A1 : ((w1.alloc (.cells #[.int .u64 s1, .slice p1 l1 c1] 26)).alloc (.cells #[.int .u64 s2, .slice p2 l2 c2] 26)).cell? ⟨w1.heap.size, 1, none⟩ = some (.slice p1 l1 c1) := by simp [go_sem]
  have B0 : ((w1.alloc (.cells #[.int .u64 s1, .slice p1 l1 c1] 26)).alloc (.cells #[.int .u64 s2, .slice p2 l2 c2] 26)).cell? ⟨w1.heap.size + 1, 0, none⟩ = some (.int .u64 s2) := by simp [go_sem]
  have B1 : ((w1.alloc (.cells #[.int .u64 s1, .slice p1 l1 c1] 26)).alloc (.cells #[.int .u64 s2, .slice p2 l2 c2] 26)).cell? ⟨w1.heap.size + 1, 1, none⟩ = some (.slice p2 l2 c2) := by simp [go_sem]
  obtain ⟨w2, hW⟩ : ∃ W, W = (w1.alloc (.cells #[.int .u64 s1, .slice p1 l1 c1] 26)).alloc (.cells #[.int .u64 s2, .slice p2 l2 c2] 26) := ⟨_, rfl⟩
  rw [← hW] at BX A0 A1 B0 B1 ⊢
  have N1 := Lib.hid (N1.out.mono BX)
  have N2 := Lib.hid (N2.out.mono BX)
  have R1 := Lib.hid (R1.out.mono BX)
  have R2 := Lib.hid (R2.out.mono BX)
  have HB := Lib.hid (below_step HB.out BX)
  obtain ⟨a, hG⟩ : ∃ g, g = w1.heap.size := ⟨_, rfl⟩
  rw [← hG] at A0 A1 B0 B1 ⊢
  clear hW BX hG
  rcases Nat.eq_zero_or_pos n with hn0 | hn0
  · subst hn0
    obtain ⟨rfl, rfl, rfl, rfl⟩ : s2 = 0 ∧ p2 = none ∧ l2 = 0 ∧ c2 = 0 := by rcases N2.out with ⟨_, h1, h2, h3, h4⟩ | ⟨h1, _⟩ <;> first | exact ⟨h1, h2, h3, h4⟩ | omega
    obtain rfl : l4 = 0 := by have := R2.out.1; rw [dr_zero] at this; exact this
    refine (div_zero s1 p1 l1 c1 _).mono ?_
    rintro e w3 ⟨rfl, hX⟩
    have A0 := wcell hX A0
    have A1 := wcell hX A1
    have B0 := wcell hX B0
    have B1 := wcell hX B1
    have N1 := Lib.hid (N1.out.mono hX)
    have N2 := Lib.hid (N2.out.mono hX)
    have R1 := Lib.hid (R1.out.mono hX)
    have R2 := Lib.hid (R2.out.mono hX)
    have HB := Lib.hid (below_step HB.out hX)
    clear hX
    go_wp2_with fail
    have BX : Below w3.heap.size w3 ((w3.alloc (.cells #[.int .u64 0, .slice none 0 0] 26)).alloc (.cells #[.int .u64 0, .slice none 0 0] 26)) := (by repeat' first | exact Below.refl _ _ | refine below_alloc ?_ _ | refine Below.drew ?_ | refine below_step ?_ (by assumption))
    have D0 : ((w3.alloc (.cells #[.int .u64 0, .slice none 0 0] 26)).alloc (.cells #[.int .u64 0, .slice none 0 0] 26)).cell? ⟨w3.heap.size, 0, none⟩ = some (.int .u64 0) := by simp [go_sem]
    have D1 : ((w3.alloc (.cells #[.int .u64 0, .slice none 0 0] 26)).alloc (.cells #[.int .u64 0, .slice none 0 0] 26)).cell? ⟨w3.heap.size, 1, none⟩ = some (.slice none 0 0) := by simp [go_sem]
    have E0 : ((w3.alloc (.cells #[.int .u64 0, .slice none 0 0] 26)).alloc (.cells #[.int .u64 0, .slice none 0 0] 26)).cell? ⟨w3.heap.size + 1, 0, none⟩ = some (.int .u64 0) := by simp [go_sem]
    have E1 : ((w3.alloc (.cells #[.int .u64 0, .slice none 0 0] 26)).alloc (.cells #[.int .u64 0, .slice none 0 0] 26)).cell? ⟨w3.heap.size + 1, 1, none⟩ = some (.slice none 0 0) := by simp [go_sem]
    obtain ⟨w4, hW⟩ : ∃ W, W = (w3.alloc (.cells #[.int .u64 0, .slice none 0 0] 26)).alloc (.cells #[.int .u64 0, .slice none 0 0] 26) := ⟨_, rfl⟩
    rw [← hW] at BX D0 D1 E0 E1 ⊢
    have A0 := wcell BX A0
    have A1 := wcell BX A1
    have B0 := wcell BX B0
    have B1 := wcell BX B1
    have N1 := Lib.hid (N1.out.mono BX)
    have N2 := Lib.hid (N2.out.mono BX)
    have R1 := Lib.hid (R1.out.mono BX)
    have R2 := Lib.hid (R2.out.mono BX)
    have HB := Lib.hid (below_step HB.out BX)
    obtain ⟨g, hG⟩ : ∃ g, g = w3.heap.size := ⟨_, rfl⟩
    rw [← hG] at D0 D1 E0 E1 ⊢
    clear hW BX hG
    refine (known_any _).mono ?_
    rintro e w5 ⟨rfl, hX⟩
    have A0 := wcell hX A0
    have A1 := wcell hX A1
    have B0 := wcell hX B0
    have B1 := wcell hX B1
    have D0 := wcell hX D0
    have D1 := wcell hX D1
    have E0 := wcell hX E0
    have E1 := wcell hX E1
    have N1 := Lib.hid (N1.out.mono hX)
    have N2 := Lib.hid (N2.out.mono hX)
    have R1 := Lib.hid (R1.out.mono hX)
    have R2 := Lib.hid (R2.out.mono hX)
    have HB := Lib.hid (below_step HB.out hX)
    clear hX
    go_wp2_with fail
    refine (nbits_any 0 0 none 0 0 _ (Or.inl ⟨by omega, rfl, rfl, rfl, rfl⟩) (by rw [ds_one (by omega)]; omega)).mono ?_
    rintro e w6 ⟨rfl, hX⟩
    have A0 := wcell hX A0
    have A1 := wcell hX A1
    have B0 := wcell hX B0
    have B1 := wcell hX B1
    have D0 := wcell hX D0
    have D1 := wcell hX D1
    have E0 := wcell hX E0
    have E1 := wcell hX E1
    have N1 := Lib.hid (N1.out.mono hX)
    have N2 := Lib.hid (N2.out.mono hX)
    have R1 := Lib.hid (R1.out.mono hX)
    have R2 := Lib.hid (R2.out.mono hX)
    have HB := Lib.hid (below_step HB.out hX)
    clear hX  
    rw [show bitLen 0 = 0 from by unfold bitLen; rfl]
    go_wp2_with fail
    refine (nbits_any 0 0 none 0 0 _ (Or.inl ⟨by omega, rfl, rfl, rfl, rfl⟩) (by rw [ds_one (by omega)]; omega)).mono ?_
    rintro e w7 ⟨rfl, hX⟩
    have A0 := wcell hX A0
    have A1 := wcell hX A1
    have B0 := wcell hX B0
    have B1 := wcell hX B1
    have D0 := wcell hX D0
    have D1 := wcell hX D1
    have E0 := wcell hX E0
    have E1 := wcell hX E1
    have N1 := Lib.hid (N1.out.mono hX)
    have N2 := Lib.hid (N2.out.mono hX)
    have R1 := Lib.hid (R1.out.mono hX)
    have R2 := Lib.hid (R2.out.mono hX)
    have HB := Lib.hid (below_step HB.out hX)
    clear hX  
    rw [show bitLen 0 = 0 from by unfold bitLen; rfl]
    go_wp2
    go_ret
    exact ⟨rfl, HB.out⟩
  · have hl4 : ¬ (l4 : Int) = 0 := by have h1 := R2.out.1; have h2 := dr_pos (n := n) (by omega); omega
    have hl4' : ((l4 : Int) == 0) = false := beq_eq_false_iff_ne.2 hl4
    refine (div_any s1 s2 p1 p2 l1 c1 l2 c2 m n _ (by omega) hn0 N1.out N2.out).mono ?_
    rintro e w3 ⟨s5, p5, l5, c5, s6, p6, l6, c6, rfl, n5, n6, hX⟩
    have A0 := wcell hX A0
    have A1 := wcell hX A1
    have B0 := wcell hX B0
    have B1 := wcell hX B1
    have N1 := Lib.hid (N1.out.mono hX)
    have N2 := Lib.hid (N2.out.mono hX)
    have R1 := Lib.hid (R1.out.mono hX)
    have R2 := Lib.hid (R2.out.mono hX)
    have HB := Lib.hid (below_step HB.out hX)
    have N5 := Lib.hid n5; have N6 := Lib.hid n6
    clear n5 n6 hX
    go_wp2_with fail
    have BX : Below w3.heap.size w3 ((w3.alloc (.cells #[.int .u64 s5, .slice p5 l5 c5] 26)).alloc (.cells #[.int .u64 s6, .slice p6 l6 c6] 26)) := (by repeat' first | exact Below.refl _ _ | refine below_alloc ?_ _ | refine Below.drew ?_ | refine below_step ?_ (by assumption))
    have D0 : ((w3.alloc (.cells #[.int .u64 s5, .slice p5 l5 c5] 26)).alloc (.cells #[.int .u64 s6, .slice p6 l6 c6] 26)).cell? ⟨w3.heap.size, 0, none⟩ = some (.int .u64 s5) := by simp [go_sem]
    have D1 : ((w3.alloc (.cells #[.int .u64 s5, .slice p5 l5 c5] 26)).alloc (.cells #[.int .u64 s6, .slice p6 l6 c6] 26)).cell? ⟨w3.heap.size, 1, none⟩ = some (.slice p5 l5 c5) := by simp [go_sem]
    have E0 : ((w3.alloc (.cells #[.int .u64 s5, .slice p5 l5 c5] 26)).alloc (.cells #[.int .u64 s6, .slice p6 l6 c6] 26)).cell? ⟨w3.heap.size + 1, 0, none⟩ = some (.int .u64 s6) := by simp [go_sem]
    have E1 : ((w3.alloc (.cells #[.int .u64 s5, .slice p5 l5 c5] 26)).alloc (.cells #[.int .u64 s6, .slice p6 l6 c6] 26)).cell? ⟨w3.heap.size + 1, 1, none⟩ = some (.slice p6 l6 c6) := by simp [go_sem]
    obtain ⟨w4, hW⟩ : ∃ W, W = (w3.alloc (.cells #[.int .u64 s5, .slice p5 l5 c5] 26)).alloc (.cells #[.int .u64 s6, .slice p6 l6 c6] 26) := ⟨_, rfl⟩
    rw [← hW] at BX D0 D1 E0 E1 ⊢
    have A0 := wcell BX A0
    have A1 := wcell BX A1
    have B0 := wcell BX B0
    have B1 := wcell BX B1
    have N1 := Lib.hid (N1.out.mono BX)
    have N2 := Lib.hid (N2.out.mono BX)
    have R1 := Lib.hid (R1.out.mono BX)
    have R2 := Lib.hid (R2.out.mono BX)
    have N5 := Lib.hid (N5.out.mono BX)
    have N6 := Lib.hid (N6.out.mono BX)
    have HB := Lib.hid (below_step HB.out BX)
    obtain ⟨g, hG⟩ : ∃ g, g = w3.heap.size := ⟨_, rfl⟩
    rw [← hG] at D0 D1 E0 E1 ⊢
    clear hW BX hG
    refine (rDiv_any p3 p4 l3 l4 c3 c4 m n _ (by omega) hn0 R1.out R2.out).mono ?_
    rintro e w5 ⟨p7, l7, c7, p8, l8, c8, rfl, r7, r8, hX⟩
    have A0 := wcell hX A0
    have A1 := wcell hX A1
    have B0 := wcell hX B0
    have B1 := wcell hX B1
    have D0 := wcell hX D0
    have D1 := wcell hX D1
    have E0 := wcell hX E0
    have E1 := wcell hX E1
    have N1 := Lib.hid (N1.out.mono hX)
    have N2 := Lib.hid (N2.out.mono hX)
    have R1 := Lib.hid (R1.out.mono hX)
    have R2 := Lib.hid (R2.out.mono hX)
    have N5 := Lib.hid (N5.out.mono hX)
    have N6 := Lib.hid (N6.out.mono hX)
    have HB := Lib.hid (below_step HB.out hX)
    have R7 := Lib.hid r7; have R8 := Lib.hid r8
    clear r7 r8 hX
    have b7 : l7 ≤ 12 := R7.out.short sq
    have b8 : l8 ≤ 12 := R8.out.short sr
    go_wp2_with fail
    refine (known_any _).mono ?_
    rintro e w6 ⟨rfl, hX⟩
    have A0 := wcell hX A0
    have A1 := wcell hX A1
    have B0 := wcell hX B0
    have B1 := wcell hX B1
    have D0 := wcell hX D0
    have D1 := wcell hX D1
    have E0 := wcell hX E0
    have E1 := wcell hX E1
    have N1 := Lib.hid (N1.out.mono hX)
    have N2 := Lib.hid (N2.out.mono hX)
    have R1 := Lib.hid (R1.out.mono hX)
    have R2 := Lib.hid (R2.out.mono hX)
    have N5 := Lib.hid (N5.out.mono hX)
    have N6 := Lib.hid (N6.out.mono hX)
    have R7 := Lib.hid (R7.out.mono hX)
    have R8 := Lib.hid (R8.out.mono hX)
    have HB := Lib.hid (below_step HB.out hX)
    clear hX  
    go_wp2_with fail
    refine (is_yes (m / n) s5 p5 p7 l5 c5 l7 c7 _ N5.out R7.out (by omega) (by omega)).mono ?_
    rintro e w7 ⟨rfl, hX⟩
    have A0 := wcell hX A0
    have A1 := wcell hX A1
    have B0 := wcell hX B0
    have B1 := wcell hX B1
    have D0 := wcell hX D0
    have D1 := wcell hX D1
    have E0 := wcell hX E0
    have E1 := wcell hX E1
    have N1 := Lib.hid (N1.out.mono hX)
    have N2 := Lib.hid (N2.out.mono hX)
    have R1 := Lib.hid (R1.out.mono hX)
    have R2 := Lib.hid (R2.out.mono hX)
    have N5 := Lib.hid (N5.out.mono hX)
    have N6 := Lib.hid (N6.out.mono hX)
    have R7 := Lib.hid (R7.out.mono hX)
    have R8 := Lib.hid (R8.out.mono hX)
    have HB := Lib.hid (below_step HB.out hX)
    clear hX  
    go_wp2_with fail
    refine (is_yes (m % n) s6 p6 p8 l6 c6 l8 c8 _ N6.out R8.out (by omega) (by omega)).mono ?_
    rintro e w8 ⟨rfl, hX⟩
    have A0 := wcell hX A0
    have A1 := wcell hX A1
    have B0 := wcell hX B0
    have B1 := wcell hX B1
    have D0 := wcell hX D0
    have D1 := wcell hX D1
    have E0 := wcell hX E0
    have E1 := wcell hX E1
    have N1 := Lib.hid (N1.out.mono hX)
    have N2 := Lib.hid (N2.out.mono hX)
    have R1 := Lib.hid (R1.out.mono hX)
    have R2 := Lib.hid (R2.out.mono hX)
    have N5 := Lib.hid (N5.out.mono hX)
    have N6 := Lib.hid (N6.out.mono hX)
    have R7 := Lib.hid (R7.out.mono hX)
    have R8 := Lib.hid (R8.out.mono hX)
    have HB := Lib.hid (below_step HB.out hX)
    clear hX  
    go_wp2
    go_ret
    exact ⟨rfl, HB.out⟩
end Go.Proofs.YtciohlbpjaighaaDoor
