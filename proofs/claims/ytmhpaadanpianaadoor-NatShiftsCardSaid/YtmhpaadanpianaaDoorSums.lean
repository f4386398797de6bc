/- NatSums: sums, differences, products and comparisons are the document's. -/
import Derived.Test.YtmhpaadanpianaaDoorLawKit
import Derived.Test.YtmhpaadanpianaaDoorIs
import Derived.Test.YtmhpaadanpianaaDoorRefSum
import Derived.Test.YtmhpaadanpianaaDoorRefCmp
import Derived.Test.YtmhpaadanpianaaDoorRefDiff
import Derived.Test.YtmhpaadanpianaaDoorRefProd
namespace Go.Proofs.YtmhpaadanpianaaDoor
open Go.RowKit

theorem dr_ds (n : Nat) : (dr n).length ≤ 2 * (ds n).length := by
  refine digs_length_le (by omega) ?_
  have := lt_ds n
  rw [show (2 : Nat) ^ 64 = (2 ^ 32) ^ 2 from by omega, ← Nat.pow_mul] at this
  exact this
theorem IsR.short {w : World} {p : Option Addr} {l c n k : Nat} (h : IsR w p l c n) (hk : (ds n).length ≤ k) : l ≤ 2 * k := by
  have h1 := h.1; have h2 := dr_ds n; omega
theorem RetSubN.lt {W w' : World} {m n : Nat} {e : Ending} (h : RetSubN W m n e w') (hlt : m < n) : e = .returned (.tuple #[.agg #[.int .u64 0, .slice none 0 0], .bool false]) ∧ Below W.heap.size W w' := by
  rcases h with ⟨_, h1, h2⟩ | ⟨h1, _⟩
  · exact ⟨h1, h2⟩
  · omega
theorem RetSubN.ge {W w' : World} {m n : Nat} {e : Ending} (h : RetSubN W m n e w') (hle : n ≤ m) : ∃ s p l c, e = .returned (.tuple #[.agg #[.int .u64 s, .slice p l c], .bool true]) ∧ IsN w' s p l c (m - n) ∧ Below W.heap.size W w' := by
  rcases h with ⟨h1, _⟩ | ⟨_, h⟩
  · omega
  · exact h
theorem is_want (w : World) (u v : Value) (n : Nat) (hn : (ds n).length ≤ 400) (h1 : Num w u n) (h2 : RNum w v n) :
    Calls Tryd.prog 26 #[u, v] w fun e w' => ∃ v', e = .returned v' ∧ v' = .bool true ∧ Below w.heap.size w w' := by
  obtain ⟨s, p, l, c, rfl, h1⟩ := h1
  obtain ⟨q, k, d, rfl, h2⟩ := h2
  have := h2.short hn
  exact (is_yes n s p q l c k d w h1 h2 (by omega) (by omega)).mono fun _ _ ⟨h, hb⟩ => ⟨_, h, rfl, hb⟩

set_option maxRecDepth 100000 in
set_option maxHeartbeats 8000000 in
theorem sums_any (p q : Option Addr) (l c k d : Nat) (xs ys : List Nat) (w : World) (h1 : IsB w p l c xs) (h2 : IsB w q k d ys) :
    Calls Tryd.prog 4 #[.slice p l c, .slice q k d] w fun e w' => e = .returned (.bool true) ∧ Below w.heap.size w w' := by
  have sm := ds_nb xs h1.2.1
  have sn := ds_nb ys h2.2.1
  have T1 := Lib.hid (fun w h1 h2 => two_any p q l c k d xs ys w h1 h2)
  have H1 := Lib.hid h1; have H2 := Lib.hid h2
  clear h1 h2
  generalize nb (xs.take 48) = m at *
  generalize nb (ys.take 48) = n at *
  have sa := ds_add m n
  have su := ds_mul m n
  go_enter Tryd.func4, Tryd.ntmps4
  go_wp2_with fail
  refine (T1.out _ H1.out H2.out).mono ?_
  rintro e w1 ⟨s1, p1, l1, c1, s2, p2, l2, c2, p3, l3, c3, p4, l4, c4, rfl, n1, n2, r1, r2, hX⟩
  have N1 := Lib.hid n1; have N2 := Lib.hid n2; have R1 := Lib.hid r1; have R2 := Lib.hid r2
  have HB := Lib.hid hX
  have b3 : l3 ≤ 12 := r1.short sm
  have b4 : l4 ≤ 12 := r2.short sn
  clear n1 n2 r1 r2 hX T1 H1 H2
  go_wp2_with fail
  have BX : Below w1.heap.size w1 ((w1.alloc (.cells #[.int .u64 s1, .slice p1 l1 c1] 25)).alloc (.cells #[.int .u64 s2, .slice p2 l2 c2] 25)) := (by repeat' first | exact Below.refl _ _ | refine below_alloc ?_ _ | refine Below.drew ?_ | refine below_step ?_ (by assumption))
  have A0 : ((w1.alloc (.cells #[.int .u64 s1, .slice p1 l1 c1] 25)).alloc (.cells #[.int .u64 s2, .slice p2 l2 c2] 25)).cell? ⟨w1.heap.size, 0, none⟩ = some (.int .u64 s1) := by simp [go_sem]
  have A1 : ((w1.alloc (.cells #[.int .u64 s1, .slice p1 l1 c1] 25)).alloc (.cells #[.int .u64 s2, .slice p2 l2 c2] 25)).cell? ⟨w1.heap.size, 1, none⟩ = some (.slice p1 l1 c1) := by simp [go_sem]
  have B0 : ((w1.alloc (.cells #[.int .u64 s1, .slice p1 l1 c1] 25)).alloc (.cells #[.int .u64 s2, .slice p2 l2 c2] 25)).cell? ⟨w1.heap.size + 1, 0, none⟩ = some (.int .u64 s2) := by simp [go_sem]
  have B1 : ((w1.alloc (.cells #[.int .u64 s1, .slice p1 l1 c1] 25)).alloc (.cells #[.int .u64 s2, .slice p2 l2 c2] 25)).cell? ⟨w1.heap.size + 1, 1, none⟩ = some (.slice p2 l2 c2) := by simp [go_sem]
  obtain ⟨w2, hW⟩ : ∃ W, W = (w1.alloc (.cells #[.int .u64 s1, .slice p1 l1 c1] 25)).alloc (.cells #[.int .u64 s2, .slice p2 l2 c2] 25) := ⟨_, rfl⟩
  rw [← hW] at BX A0 A1 B0 B1 ⊢
  have N1 := Lib.hid (N1.out.mono BX)
  have N2 := Lib.hid (N2.out.mono BX)
  have R1 := Lib.hid (R1.out.mono BX)
  have R2 := Lib.hid (R2.out.mono BX)
  have HB := Lib.hid (below_step HB.out BX)
  obtain ⟨a, hG⟩ : ∃ g, g = w1.heap.size := ⟨_, rfl⟩
  rw [← hG] at A0 A1 B0 B1 ⊢
  clear hW BX hG
  rcases Nat.lt_or_ge m n with hmn | hmn
  · refine (sub_any s1 s2 p1 p2 l1 c1 l2 c2 m n _ (by omega) N1.out N2.out).mono ?_
    rintro e w3 h
    obtain ⟨rfl, hX⟩ := RetSubN.lt h hmn
    have A0 := wcell hX A0
    have A1 := wcell hX A1
    have B0 := wcell hX B0
    have B1 := wcell hX B1
    have N1 := Lib.hid (N1.out.mono hX)
    have N2 := Lib.hid (N2.out.mono hX)
    have R1 := Lib.hid (R1.out.mono hX)
    have R2 := Lib.hid (R2.out.mono hX)
    have HB := Lib.hid (below_step HB.out hX)
    clear hX h
    go_wp2_with fail
    have BX : Below w3.heap.size w3 (w3.alloc (.cells #[.int .u64 0, .slice none 0 0] 25)) := (by repeat' first | exact Below.refl _ _ | refine below_alloc ?_ _ | refine Below.drew ?_ | refine below_step ?_ (by assumption))
    have D0 : (w3.alloc (.cells #[.int .u64 0, .slice none 0 0] 25)).cell? ⟨w3.heap.size, 0, none⟩ = some (.int .u64 0) := by simp [go_sem]
    have D1 : (w3.alloc (.cells #[.int .u64 0, .slice none 0 0] 25)).cell? ⟨w3.heap.size, 1, none⟩ = some (.slice none 0 0) := by simp [go_sem]
    obtain ⟨w4, hW⟩ : ∃ W, W = w3.alloc (.cells #[.int .u64 0, .slice none 0 0] 25) := ⟨_, rfl⟩
    rw [← hW] at BX D0 D1 ⊢
    have A0 := wcell BX A0
    have A1 := wcell BX A1
    have B0 := wcell BX B0
    have B1 := wcell BX B1
    have N1 := Lib.hid (N1.out.mono BX)
    have N2 := Lib.hid (N2.out.mono BX)
    have R1 := Lib.hid (R1.out.mono BX)
    have R2 := Lib.hid (R2.out.mono BX)
    have HB := Lib.hid (below_step HB.out BX)
    obtain ⟨g, hG⟩ : ∃ g, g = w3.heap.size := ⟨_, rfl⟩
    rw [← hG] at D0 D1 ⊢
    clear hW BX hG
    refine (known_any _).mono ?_
    rintro e w5 ⟨rfl, hX⟩
    have A0 := wcell hX A0
    have A1 := wcell hX A1
    have B0 := wcell hX B0
    have B1 := wcell hX B1
    have D0 := wcell hX D0
    have D1 := wcell hX D1
    have N1 := Lib.hid (N1.out.mono hX)
    have N2 := Lib.hid (N2.out.mono hX)
    have R1 := Lib.hid (R1.out.mono hX)
    have R2 := Lib.hid (R2.out.mono hX)
    have HB := Lib.hid (below_step HB.out hX)
    clear hX
    go_wp2_with fail
    refine (add_any s1 s2 p1 p2 l1 c1 l2 c2 m n _ (by omega) (by omega) N1.out N2.out).mono ?_
    rintro e w6 ⟨s6, p6, l6, c6, rfl, n6, hX⟩
    have A0 := wcell hX A0
    have A1 := wcell hX A1
    have B0 := wcell hX B0
    have B1 := wcell hX B1
    have D0 := wcell hX D0
    have D1 := wcell hX D1
    have N1 := Lib.hid (N1.out.mono hX)
    have N2 := Lib.hid (N2.out.mono hX)
    have R1 := Lib.hid (R1.out.mono hX)
    have R2 := Lib.hid (R2.out.mono hX)
    have HB := Lib.hid (below_step HB.out hX)
    have N6 := Lib.hid n6
    clear hX n6 
    go_wp2_with fail
    refine (rAdd_any p3 p4 l3 c3 l4 c4 m n _ (by omega) (by omega) R1.out R2.out).mono ?_
    rintro e w7 ⟨p7, l7, c7, rfl, r7, hX⟩
    have A0 := wcell hX A0
    have A1 := wcell hX A1
    have B0 := wcell hX B0
    have B1 := wcell hX B1
    have D0 := wcell hX D0
    have D1 := wcell hX D1
    have N1 := Lib.hid (N1.out.mono hX)
    have N2 := Lib.hid (N2.out.mono hX)
    have R1 := Lib.hid (R1.out.mono hX)
    have R2 := Lib.hid (R2.out.mono hX)
    have N6 := Lib.hid (N6.out.mono hX)
    have HB := Lib.hid (below_step HB.out hX)
    have R7 := Lib.hid r7
    clear hX r7 
    have b7 := R7.out.short (k := 12) (by omega)
    go_wp2_with fail
    refine (is_yes (m + n) s6 p6 p7 l6 c6 l7 c7 _ N6.out R7.out (by omega) (by omega)).mono ?_
    rintro e w8 ⟨rfl, hX⟩
    have A0 := wcell hX A0
    have A1 := wcell hX A1
    have B0 := wcell hX B0
    have B1 := wcell hX B1
    have D0 := wcell hX D0
    have D1 := wcell hX D1
    have N1 := Lib.hid (N1.out.mono hX)
    have N2 := Lib.hid (N2.out.mono hX)
    have R1 := Lib.hid (R1.out.mono hX)
    have R2 := Lib.hid (R2.out.mono hX)
    have N6 := Lib.hid (N6.out.mono hX)
    have R7 := Lib.hid (R7.out.mono hX)
    have HB := Lib.hid (below_step HB.out hX)
    clear hX  N6 R7 b7
    go_wp2_with fail
    refine (mul_any s1 s2 p1 p2 l1 c1 l2 c2 m n _ (by omega) (by omega) (Or.inl (by omega)) N1.out N2.out).mono ?_
    rintro e w9 ⟨s6, p6, l6, c6, rfl, n6, hX⟩
    have A0 := wcell hX A0
    have A1 := wcell hX A1
    have B0 := wcell hX B0
    have B1 := wcell hX B1
    have D0 := wcell hX D0
    have D1 := wcell hX D1
    have N1 := Lib.hid (N1.out.mono hX)
    have N2 := Lib.hid (N2.out.mono hX)
    have R1 := Lib.hid (R1.out.mono hX)
    have R2 := Lib.hid (R2.out.mono hX)
    have HB := Lib.hid (below_step HB.out hX)
    have N6 := Lib.hid n6
    clear hX n6 
    go_wp2_with fail
    refine (rMul_any p3 p4 l3 c3 l4 c4 m n _ (by omega) (by omega) R1.out R2.out).mono ?_
    rintro e w10 ⟨p7, l7, c7, rfl, r7, hX⟩
    have A0 := wcell hX A0
    have A1 := wcell hX A1
    have B0 := wcell hX B0
    have B1 := wcell hX B1
    have D0 := wcell hX D0
    have D1 := wcell hX D1
    have N1 := Lib.hid (N1.out.mono hX)
    have N2 := Lib.hid (N2.out.mono hX)
    have R1 := Lib.hid (R1.out.mono hX)
    have R2 := Lib.hid (R2.out.mono hX)
    have N6 := Lib.hid (N6.out.mono hX)
    have HB := Lib.hid (below_step HB.out hX)
    have R7 := Lib.hid r7
    clear hX r7 
    have b7 := R7.out.short (k := 12) (by omega)
    go_wp2_with fail
    refine (is_yes (m * n) s6 p6 p7 l6 c6 l7 c7 _ N6.out R7.out (by omega) (by omega)).mono ?_
    rintro e w11 ⟨rfl, hX⟩
    have A0 := wcell hX A0
    have A1 := wcell hX A1
    have B0 := wcell hX B0
    have B1 := wcell hX B1
    have D0 := wcell hX D0
    have D1 := wcell hX D1
    have N1 := Lib.hid (N1.out.mono hX)
    have N2 := Lib.hid (N2.out.mono hX)
    have R1 := Lib.hid (R1.out.mono hX)
    have R2 := Lib.hid (R2.out.mono hX)
    have N6 := Lib.hid (N6.out.mono hX)
    have R7 := Lib.hid (R7.out.mono hX)
    have HB := Lib.hid (below_step HB.out hX)
    clear hX  N6 R7 b7
    go_wp2_with fail
    refine (cmp_any s1 s2 p1 p2 l1 l2 c1 c2 m n _ N1.out N2.out (by omega)).mono ?_
    rintro e w12 ⟨rfl, hX⟩
    have A0 := wcell hX A0
    have A1 := wcell hX A1
    have B0 := wcell hX B0
    have B1 := wcell hX B1
    have D0 := wcell hX D0
    have D1 := wcell hX D1
    have N1 := Lib.hid (N1.out.mono hX)
    have N2 := Lib.hid (N2.out.mono hX)
    have R1 := Lib.hid (R1.out.mono hX)
    have R2 := Lib.hid (R2.out.mono hX)
    have HB := Lib.hid (below_step HB.out hX)
    clear hX  
    go_wp2_with fail
    refine (rCmp_any p3 p4 l3 l4 c3 c4 m n _ (by omega) R1.out R2.out).mono ?_
    rintro e w13 ⟨rfl, hX⟩
    have A0 := wcell hX A0
    have A1 := wcell hX A1
    have B0 := wcell hX B0
    have B1 := wcell hX B1
    have D0 := wcell hX D0
    have D1 := wcell hX D1
    have N1 := Lib.hid (N1.out.mono hX)
    have N2 := Lib.hid (N2.out.mono hX)
    have R1 := Lib.hid (R1.out.mono hX)
    have R2 := Lib.hid (R2.out.mono hX)
    have HB := Lib.hid (below_step HB.out hX)
    clear hX  
    go_wp2_with fail
    refine (rCmp_any p3 p4 l3 l4 c3 c4 m n _ (by omega) R1.out R2.out).mono ?_
    rintro e w14 ⟨rfl, hX⟩
    have A0 := wcell hX A0
    have A1 := wcell hX A1
    have B0 := wcell hX B0
    have B1 := wcell hX B1
    have D0 := wcell hX D0
    have D1 := wcell hX D1
    have N1 := Lib.hid (N1.out.mono hX)
    have N2 := Lib.hid (N2.out.mono hX)
    have R1 := Lib.hid (R1.out.mono hX)
    have R2 := Lib.hid (R2.out.mono hX)
    have HB := Lib.hid (below_step HB.out hX)
    clear hX  
    rw [cmp3_lt (by exact_mod_cast hmn)]
    go_wp2_with fail
    refine (nbits_any 0 0 none 0 0 _ (Or.inl ⟨by omega, rfl, rfl, rfl, rfl⟩) (by rw [ds_one (by omega)]; omega)).mono ?_
    rintro e w15 ⟨rfl, hX⟩
    have A0 := wcell hX A0
    have A1 := wcell hX A1
    have B0 := wcell hX B0
    have B1 := wcell hX B1
    have D0 := wcell hX D0
    have D1 := wcell hX D1
    have N1 := Lib.hid (N1.out.mono hX)
    have N2 := Lib.hid (N2.out.mono hX)
    have R1 := Lib.hid (R1.out.mono hX)
    have R2 := Lib.hid (R2.out.mono hX)
    have HB := Lib.hid (below_step HB.out hX)
    clear hX  
    rw [show bitLen 0 = 0 from by unfold bitLen; rfl]
    go_wp2
    go_ret
    exact ⟨rfl, HB.out⟩
  · refine (sub_any s1 s2 p1 p2 l1 c1 l2 c2 m n _ (by omega) N1.out N2.out).mono ?_
    rintro e w3 h
    obtain ⟨s5, p5, l5, c5, rfl, n5, hX⟩ := RetSubN.ge h hmn
    have A0 := wcell hX A0
    have A1 := wcell hX A1
    have B0 := wcell hX B0
    have B1 := wcell hX B1
    have N1 := Lib.hid (N1.out.mono hX)
    have N2 := Lib.hid (N2.out.mono hX)
    have R1 := Lib.hid (R1.out.mono hX)
    have R2 := Lib.hid (R2.out.mono hX)
    have HB := Lib.hid (below_step HB.out hX)
    have N5 := Lib.hid n5
    clear hX n5 h
    go_wp2_with fail
    have BX : Below w3.heap.size w3 (w3.alloc (.cells #[.int .u64 s5, .slice p5 l5 c5] 25)) := (by repeat' first | exact Below.refl _ _ | refine below_alloc ?_ _ | refine Below.drew ?_ | refine below_step ?_ (by assumption))
    have D0 : (w3.alloc (.cells #[.int .u64 s5, .slice p5 l5 c5] 25)).cell? ⟨w3.heap.size, 0, none⟩ = some (.int .u64 s5) := by simp [go_sem]
    have D1 : (w3.alloc (.cells #[.int .u64 s5, .slice p5 l5 c5] 25)).cell? ⟨w3.heap.size, 1, none⟩ = some (.slice p5 l5 c5) := by simp [go_sem]
    obtain ⟨w4, hW⟩ : ∃ W, W = w3.alloc (.cells #[.int .u64 s5, .slice p5 l5 c5] 25) := ⟨_, rfl⟩
    rw [← hW] at BX D0 D1 ⊢
    have A0 := wcell BX A0
    have A1 := wcell BX A1
    have B0 := wcell BX B0
    have B1 := wcell BX B1
    have N1 := Lib.hid (N1.out.mono BX)
    have N2 := Lib.hid (N2.out.mono BX)
    have R1 := Lib.hid (R1.out.mono BX)
    have R2 := Lib.hid (R2.out.mono BX)
    have N5 := Lib.hid (N5.out.mono BX)
    have HB := Lib.hid (below_step HB.out BX)
    obtain ⟨g, hG⟩ : ∃ g, g = w3.heap.size := ⟨_, rfl⟩
    rw [← hG] at D0 D1 ⊢
    clear hW BX hG
    refine (known_any _).mono ?_
    rintro e w5 ⟨rfl, hX⟩
    have A0 := wcell hX A0
    have A1 := wcell hX A1
    have B0 := wcell hX B0
    have B1 := wcell hX B1
    have D0 := wcell hX D0
    have D1 := wcell hX D1
    have N1 := Lib.hid (N1.out.mono hX)
    have N2 := Lib.hid (N2.out.mono hX)
    have R1 := Lib.hid (R1.out.mono hX)
    have R2 := Lib.hid (R2.out.mono hX)
    have N5 := Lib.hid (N5.out.mono hX)
    have HB := Lib.hid (below_step HB.out hX)
    clear hX
    go_wp2_with fail
    refine (add_any s1 s2 p1 p2 l1 c1 l2 c2 m n _ (by omega) (by omega) N1.out N2.out).mono ?_
    rintro e w6 ⟨s6, p6, l6, c6, rfl, n6, hX⟩
    have A0 := wcell hX A0
    have A1 := wcell hX A1
    have B0 := wcell hX B0
    have B1 := wcell hX B1
    have D0 := wcell hX D0
    have D1 := wcell hX D1
    have N1 := Lib.hid (N1.out.mono hX)
    have N2 := Lib.hid (N2.out.mono hX)
    have R1 := Lib.hid (R1.out.mono hX)
    have R2 := Lib.hid (R2.out.mono hX)
    have N5 := Lib.hid (N5.out.mono hX)
    have HB := Lib.hid (below_step HB.out hX)
    have N6 := Lib.hid n6
    clear hX n6 
    go_wp2_with fail
    refine (rAdd_any p3 p4 l3 c3 l4 c4 m n _ (by omega) (by omega) R1.out R2.out).mono ?_
    rintro e w7 ⟨p7, l7, c7, rfl, r7, hX⟩
    have A0 := wcell hX A0
    have A1 := wcell hX A1
    have B0 := wcell hX B0
    have B1 := wcell hX B1
    have D0 := wcell hX D0
    have D1 := wcell hX D1
    have N1 := Lib.hid (N1.out.mono hX)
    have N2 := Lib.hid (N2.out.mono hX)
    have R1 := Lib.hid (R1.out.mono hX)
    have R2 := Lib.hid (R2.out.mono hX)
    have N5 := Lib.hid (N5.out.mono hX)
    have N6 := Lib.hid (N6.out.mono hX)
    have HB := Lib.hid (below_step HB.out hX)
    have R7 := Lib.hid r7
    clear hX r7 
    have b7 := R7.out.short (k := 12) (by omega)
    go_wp2_with fail
    refine (is_yes (m + n) s6 p6 p7 l6 c6 l7 c7 _ N6.out R7.out (by omega) (by omega)).mono ?_
    rintro e w8 ⟨rfl, hX⟩
    have A0 := wcell hX A0
    have A1 := wcell hX A1
    have B0 := wcell hX B0
    have B1 := wcell hX B1
    have D0 := wcell hX D0
    have D1 := wcell hX D1
    have N1 := Lib.hid (N1.out.mono hX)
    have N2 := Lib.hid (N2.out.mono hX)
    have R1 := Lib.hid (R1.out.mono hX)
    have R2 := Lib.hid (R2.out.mono hX)
    have N5 := Lib.hid (N5.out.mono hX)
    have N6 := Lib.hid (N6.out.mono hX)
    have R7 := Lib.hid (R7.out.mono hX)
    have HB := Lib.hid (below_step HB.out hX)
    clear hX  N6 R7 b7
    go_wp2_with fail
    refine (mul_any s1 s2 p1 p2 l1 c1 l2 c2 m n _ (by omega) (by omega) (Or.inl (by omega)) N1.out N2.out).mono ?_
    rintro e w9 ⟨s6, p6, l6, c6, rfl, n6, hX⟩
    have A0 := wcell hX A0
    have A1 := wcell hX A1
    have B0 := wcell hX B0
    have B1 := wcell hX B1
    have D0 := wcell hX D0
    have D1 := wcell hX D1
    have N1 := Lib.hid (N1.out.mono hX)
    have N2 := Lib.hid (N2.out.mono hX)
    have R1 := Lib.hid (R1.out.mono hX)
    have R2 := Lib.hid (R2.out.mono hX)
    have N5 := Lib.hid (N5.out.mono hX)
    have HB := Lib.hid (below_step HB.out hX)
    have N6 := Lib.hid n6
    clear hX n6 
    go_wp2_with fail
    refine (rMul_any p3 p4 l3 c3 l4 c4 m n _ (by omega) (by omega) R1.out R2.out).mono ?_
    rintro e w10 ⟨p7, l7, c7, rfl, r7, hX⟩
    have A0 := wcell hX A0
    have A1 := wcell hX A1
    have B0 := wcell hX B0
    have B1 := wcell hX B1
    have D0 := wcell hX D0
    have D1 := wcell hX D1
    have N1 := Lib.hid (N1.out.mono hX)
    have N2 := Lib.hid (N2.out.mono hX)
    have R1 := Lib.hid (R1.out.mono hX)
    have R2 := Lib.hid (R2.out.mono hX)
    have N5 := Lib.hid (N5.out.mono hX)
    have N6 := Lib.hid (N6.out.mono hX)
    have HB := Lib.hid (below_step HB.out hX)
    have R7 := Lib.hid r7
    clear hX r7 
    have b7 := R7.out.short (k := 12) (by omega)
    go_wp2_with fail
    refine (is_yes (m * n) s6 p6 p7 l6 c6 l7 c7 _ N6.out R7.out (by omega) (by omega)).mono ?_
    rintro e w11 ⟨rfl, hX⟩
    have A0 := wcell hX A0
    have A1 := wcell hX A1
    have B0 := wcell hX B0
    have B1 := wcell hX B1
    have D0 := wcell hX D0
    have D1 := wcell hX D1
    have N1 := Lib.hid (N1.out.mono hX)
    have N2 := Lib.hid (N2.out.mono hX)
    have R1 := Lib.hid (R1.out.mono hX)
    have R2 := Lib.hid (R2.out.mono hX)
    have N5 := Lib.hid (N5.out.mono hX)
    have N6 := Lib.hid (N6.out.mono hX)
    have R7 := Lib.hid (R7.out.mono hX)
    have HB := Lib.hid (below_step HB.out hX)
    clear hX  N6 R7 b7
    go_wp2_with fail
    refine (cmp_any s1 s2 p1 p2 l1 l2 c1 c2 m n _ N1.out N2.out (by omega)).mono ?_
    rintro e w12 ⟨rfl, hX⟩
    have A0 := wcell hX A0
    have A1 := wcell hX A1
    have B0 := wcell hX B0
    have B1 := wcell hX B1
    have D0 := wcell hX D0
    have D1 := wcell hX D1
    have N1 := Lib.hid (N1.out.mono hX)
    have N2 := Lib.hid (N2.out.mono hX)
    have R1 := Lib.hid (R1.out.mono hX)
    have R2 := Lib.hid (R2.out.mono hX)
    have N5 := Lib.hid (N5.out.mono hX)
    have HB := Lib.hid (below_step HB.out hX)
    clear hX  
    go_wp2_with fail
    refine (rCmp_any p3 p4 l3 l4 c3 c4 m n _ (by omega) R1.out R2.out).mono ?_
    rintro e w13 ⟨rfl, hX⟩
    have A0 := wcell hX A0
    have A1 := wcell hX A1
    have B0 := wcell hX B0
    have B1 := wcell hX B1
    have D0 := wcell hX D0
    have D1 := wcell hX D1
    have N1 := Lib.hid (N1.out.mono hX)
    have N2 := Lib.hid (N2.out.mono hX)
    have R1 := Lib.hid (R1.out.mono hX)
    have R2 := Lib.hid (R2.out.mono hX)
    have N5 := Lib.hid (N5.out.mono hX)
    have HB := Lib.hid (below_step HB.out hX)
    clear hX  
    go_wp2_with fail
    refine (rCmp_any p3 p4 l3 l4 c3 c4 m n _ (by omega) R1.out R2.out).mono ?_
    rintro e w14 ⟨rfl, hX⟩
    have A0 := wcell hX A0
    have A1 := wcell hX A1
    have B0 := wcell hX B0
    have B1 := wcell hX B1
    have D0 := wcell hX D0
    have D1 := wcell hX D1
    have N1 := Lib.hid (N1.out.mono hX)
    have N2 := Lib.hid (N2.out.mono hX)
    have R1 := Lib.hid (R1.out.mono hX)
    have R2 := Lib.hid (R2.out.mono hX)
    have N5 := Lib.hid (N5.out.mono hX)
    have HB := Lib.hid (below_step HB.out hX)
    clear hX  
    have h0 : 0 ≤ cmp3 m n := by unfold cmp3; rw [if_neg (by omega)]; split <;> omega
    have sd := ds_mono (show m - n ≤ m by omega)
    go_wp2_with fail
    refine region_phase (T := [0, 1, 2, 3, 4, 5, 6, 7]) (slots := [67, 68, 69, 70, 71, 72, 73, 74]) (fuel := 1) (n := 8) (deps := [0, 1, 2, 2, 2, 26, 38, 66, 255]) (Tm := 255) (Lm := 255)
        (L := #[true, true, true, true, true, true, true, true, false])
        (V := Tab [.is (.bool true), .is (.bool true), .num (m - n), .is (.slice p3 l3 c3), .is (.slice p4 l4 c4), .rnum (m - n), .is (.bool true), .is (.bool true)] 0)
        (by kernel_rfl) rfl Tab.stable (by kernel_rfl) (by kernel_rfl) (by kernel_rfl) (by kernel_rfl) (by kernel_rfl) (by kernel_rfl) (by kernel_rfl) ?_ ?_
    · skip
      refine AllGo.cons rfl (fun E W hb hc hf hE hV => ⟨rfl, ?_⟩) ?_
      · have e1 : E (.tmp 10) = .bool true := hE 10 (by kernel_rfl)
        clear hE hV
        exact Does.value (w' := W) (by go_simp) ⟨rfl, Below.refl _ _⟩
      refine AllGo.cons rfl (fun E W hb hc hf hE hV => ⟨rfl, ?_⟩) ?_
      · have e1 : E (.tmp 67) = _ := hV 0 67 (by kernel_rfl) (by kernel_rfl) (by kernel_rfl)
        clear hE hV
        exact Does.value (w' := W) (by go_simp) ⟨rfl, Below.refl _ _⟩
      refine AllGo.cons rfl (fun E W hb hc hf hE hV => ⟨wanted_of (d := 68) (b := true) rfl (by kernel_rfl) (hV 1 68 (by kernel_rfl) (by kernel_rfl) (by kernel_rfl)), ?_⟩) ?_
      · have e1 : E (.tmp 9) = .pointer (some ⟨g, 0, none⟩) := hE 9 (by kernel_rfl)
        have q := wcell hb D0
        have q' := wcell hb D1
        clear hE hV
        exact Does.value (v := .agg #[.int .u64 s5, .slice p5 l5 c5]) (w' := W) (by go_simp) ⟨⟨_, _, _, _, rfl, N5.out.mono hb⟩, Below.refl _ _⟩
      refine AllGo.cons rfl (fun E W hb hc hf hE hV => ⟨wanted_of (d := 68) (b := true) rfl (by kernel_rfl) (hV 1 68 (by kernel_rfl) (by kernel_rfl) (by kernel_rfl)), ?_⟩) ?_
      · have e1 : E (.tmp 7) = .slice p3 l3 c3 := hE 7 (by kernel_rfl)
        clear hE hV
        exact Does.value (w' := W) (by go_simp) ⟨rfl, Below.refl _ _⟩
      refine AllGo.cons rfl (fun E W hb hc hf hE hV => ⟨wanted_of (d := 68) (b := true) rfl (by kernel_rfl) (hV 1 68 (by kernel_rfl) (by kernel_rfl) (by kernel_rfl)), ?_⟩) ?_
      · have e1 : E (.tmp 8) = .slice p4 l4 c4 := hE 8 (by kernel_rfl)
        clear hE hV
        exact Does.value (w' := W) (by go_simp) ⟨rfl, Below.refl _ _⟩
      refine AllGo.cons rfl (fun E W hb hc hf hE hV => ⟨wanted_of (d := 68) (b := true) rfl (by kernel_rfl) (hV 1 68 (by kernel_rfl) (by kernel_rfl) (by kernel_rfl)), ?_⟩) ?_
      · have e1 : E (.tmp 70) = _ := hV 3 70 (by kernel_rfl) (by kernel_rfl) (by kernel_rfl)
        have e2 : E (.tmp 71) = _ := hV 4 71 (by kernel_rfl) (by kernel_rfl) (by kernel_rfl)
        clear hE hV
        exact Does.call (w' := W) (by go_simp) ((rSub_any p3 p4 l3 c3 l4 c4 m n W (by omega) hmn (R1.out.mono hb) (R2.out.mono hb)).mono fun e w' ⟨p, l, c, h1, h2, h3⟩ => ⟨_, h1, ⟨p, l, c, rfl, h2⟩, h3⟩)
      refine AllGo.cons rfl (fun E W hb hc hf hE hV => ⟨wanted_of (d := 68) (b := true) rfl (by kernel_rfl) (hV 1 68 (by kernel_rfl) (by kernel_rfl) (by kernel_rfl)), ?_⟩) ?_
      · have e1 : Means W (.num (m - n)) (E (.tmp 69)) := hV 2 69 (by kernel_rfl) (by kernel_rfl) (by kernel_rfl)
        have e2 : Means W (.rnum (m - n)) (E (.tmp 72)) := hV 5 72 (by kernel_rfl) (by kernel_rfl) (by kernel_rfl)
        clear hE hV
        exact Does.call (w' := W) (by go_simp) ((is_want W _ _ (m - n) (by omega) e1 e2).mono fun e w' ⟨v, h1, h2, h3⟩ => ⟨v, h1, h2, h3⟩)
      refine AllGo.cons rfl (fun E W hb hc hf hE hV => ⟨rfl, ?_⟩) ?_
      · have e1 : E (.tmp 68) = _ := hV 1 68 (by kernel_rfl) (by kernel_rfl) (by kernel_rfl)
        have e2 : E (.tmp 73) = _ := hV 6 73 (by kernel_rfl) (by kernel_rfl) (by kernel_rfl)
        clear hE hV
        exact Does.value (w' := W) (by go_simp) ⟨rfl, Below.refl _ _⟩
      exact AllGo.nil
    · intro f W hf hb
      have e74 : f 74 = .bool true := hf (7, 74) (by simp)
      have HW := Lib.hid (below_step HB.out hb)
      clear hf hb
      simp only [fillSlots]
      refine wpAny_ready (rs := [8]) (by kernel_rfl) (by simp) ?_
      refine AllReady.cons rfl (fun K hK => ?_) AllReady.nil
      go_simp
      refine hK _ _ ?_; clear hK K
      refine wpAny_done (by kernel_rfl) ?_ _
      go_wp2
      go_ret
      exact ⟨by simp, HW.out⟩
end Go.Proofs.YtmhpaadanpianaaDoor
