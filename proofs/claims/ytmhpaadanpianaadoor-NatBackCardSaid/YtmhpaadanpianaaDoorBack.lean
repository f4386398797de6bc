/- NatBack: the quotient times the divisor, and what is left, is the number; a product by a factor is the other factor. -/
import Derived.Test.YtmhpaadanpianaaDoorBack0
namespace Go.Proofs.YtmhpaadanpianaaDoor
open Go.RowKit

set_option maxRecDepth 100000 in
set_option maxHeartbeats 16000000 in
theorem back_any (p q : Option Addr) (l c k d : Nat) (xs ys : List Nat) (w : World) (h1 : IsB w p l c xs) (h2 : IsB w q k d ys) :
    Calls Tryd.prog 10 #[.slice p l c, .slice q k d] w fun e w' => e = .returned (.bool true) ∧ Below w.heap.size w w' := by
  have sm := ds_nb xs h1.2.1
  have sn := ds_nb ys h2.2.1
  have T1 := Lib.hid (fun w h1 h2 => two_any p q l c k d xs ys w h1 h2)
  have H1 := Lib.hid h1; have H2 := Lib.hid h2
  clear h1 h2
  generalize nb (xs.take 48) = m at *
  generalize nb (ys.take 48) = n at *
  have sq : (ds (m / n)).length ≤ 6 := Nat.le_trans (ds_mono (Nat.div_le_self m n)) sm
  have sr : (ds (m % n)).length ≤ 6 := Nat.le_trans (ds_mono (Nat.mod_le m n)) sm
  have su := ds_mul m n
  have sv := ds_mul (m / n) n
  have sw := ds_add ((m / n) * n) (m % n)
  have hdm : (m / n) * n + m % n = m := by rw [Nat.mul_comm]; exact Nat.div_add_mod m n
  have HDM := Lib.hid hdm
  clear hdm
  go_enter Tryd.func10, Tryd.ntmps10
  go_wp2_with fail
  refine (T1.out _ H1.out H2.out).mono ?_
  rintro e w1 ⟨s1, p1, l1, c1, s2, p2, l2, c2, p3, l3, c3, p4, l4, c4, rfl, n1, n2, r1, r2, hX⟩
  have N1 := Lib.hid n1; have N2 := Lib.hid n2
  have HB := Lib.hid hX
  clear n1 n2 r1 r2 hX T1 H1 H2
  go_wp2_with fail
  have BX : Below w1.heap.size w1 ((w1.alloc (.cells #[.int .u64 s1, .slice p1 l1 c1] 25)).alloc (.cells #[.int .u64 s2, .slice p2 l2 c2] 25)) := (by repeat' first | exact Below.refl _ _ | refine below_alloc ?_ _ | refine Below.drew ?_ | refine below_step ?_ (by assumption))
  have A0 : ((w1.alloc (.cells #[.int .u64 s1, .slice p1 l1 c1] 25)).alloc (.cells #[.int .u64 s2, .slice p2 l2 c2] 25)).cell? ⟨w1.heap.size, 0, none⟩ = some (.int .u64 s1) := by simp [go_sem]
  have A1 : ((w1.alloc (.cells #[.int .u64 s1, .slice p1 l1 c1] 25)).alloc (.cells #[.int .u64 s2, .slice p2 l2 c2] 25)).cell? ⟨w1.heap.size, 1, none⟩ = some (.slice p1 l1 c1) := by simp [go_sem]
  have B0 : ((w1.alloc (.cells #[.int .u64 s1, .slice p1 l1 c1] 25)).alloc (.cells #[.int .u64 s2, .slice p2 l2 c2] 25)).cell? ⟨w1.heap.size + 1, 0, none⟩ = some (.int .u64 s2) := by simp [go_sem]
  have B1 : ((w1.alloc (.cells #[.int .u64 s1, .slice p1 l1 c1] 25)).alloc (.cells #[.int .u64 s2, .slice p2 l2 c2] 25)).cell? ⟨w1.heap.size + 1, 1, none⟩ = some (.slice p2 l2 c2) := by simp [go_sem]
  obtain ⟨w2, hW⟩ : ∃ W, W = (w1.alloc (.cells #[.int .u64 s1, .slice p1 l1 c1] 25)).alloc (.cells #[.int .u64 s2, .slice p2 l2 c2] 25) := ⟨_, rfl⟩
  rw [← hW] at BX A0 A1 B0 B1 ⊢
  have N1 := Lib.hid (N1.out.mono BX)
  have N2 := Lib.hid (N2.out.mono BX)
  have HB := Lib.hid (below_step HB.out BX)
  obtain ⟨a, hG⟩ : ∃ g, g = w1.heap.size := ⟨_, rfl⟩
  rw [← hG] at A0 A1 B0 B1 ⊢
  clear hW BX hG
  rcases Nat.eq_zero_or_pos n with hn0 | hn0
  · subst hn0
    obtain ⟨rfl, rfl, rfl, rfl⟩ : s2 = 0 ∧ p2 = none ∧ l2 = 0 ∧ c2 = 0 := by rcases N2.out with ⟨_, h1, h2, h3, h4⟩ | ⟨h1, _⟩ <;> first | exact ⟨h1, h2, h3, h4⟩ | omega
    refine (div_zero s1 p1 l1 c1 _).mono ?_
    rintro e w3 ⟨rfl, hX⟩
    have A0 := wcell hX A0
    have A1 := wcell hX A1
    have B0 := wcell hX B0
    have B1 := wcell hX B1
    have N1 := Lib.hid (N1.out.mono hX)
    have N2 := Lib.hid (N2.out.mono hX)
    have HB := Lib.hid (below_step HB.out hX)
    clear hX
    go_wp2_with fail
    have BX : Below w3.heap.size w3 ((w3.alloc (.cells #[.int .u64 0, .slice none 0 0] 25)).alloc (.cells #[.int .u64 0, .slice none 0 0] 25)) := (by repeat' first | exact Below.refl _ _ | refine below_alloc ?_ _ | refine Below.drew ?_ | refine below_step ?_ (by assumption))
    have D0 : ((w3.alloc (.cells #[.int .u64 0, .slice none 0 0] 25)).alloc (.cells #[.int .u64 0, .slice none 0 0] 25)).cell? ⟨w3.heap.size, 0, none⟩ = some (.int .u64 0) := by simp [go_sem]
    have D1 : ((w3.alloc (.cells #[.int .u64 0, .slice none 0 0] 25)).alloc (.cells #[.int .u64 0, .slice none 0 0] 25)).cell? ⟨w3.heap.size, 1, none⟩ = some (.slice none 0 0) := by simp [go_sem]
    have E0 : ((w3.alloc (.cells #[.int .u64 0, .slice none 0 0] 25)).alloc (.cells #[.int .u64 0, .slice none 0 0] 25)).cell? ⟨w3.heap.size + 1, 0, none⟩ = some (.int .u64 0) := by simp [go_sem]
    have E1 : ((w3.alloc (.cells #[.int .u64 0, .slice none 0 0] 25)).alloc (.cells #[.int .u64 0, .slice none 0 0] 25)).cell? ⟨w3.heap.size + 1, 1, none⟩ = some (.slice none 0 0) := by simp [go_sem]
    obtain ⟨w4, hW⟩ : ∃ W, W = (w3.alloc (.cells #[.int .u64 0, .slice none 0 0] 25)).alloc (.cells #[.int .u64 0, .slice none 0 0] 25) := ⟨_, rfl⟩
    rw [← hW] at BX D0 D1 E0 E1 ⊢
    have A0 := wcell BX A0
    have A1 := wcell BX A1
    have B0 := wcell BX B0
    have B1 := wcell BX B1
    have N1 := Lib.hid (N1.out.mono BX)
    have N2 := Lib.hid (N2.out.mono BX)
    have HB := Lib.hid (below_step HB.out BX)
    obtain ⟨g, hG⟩ : ∃ g, g = w3.heap.size := ⟨_, rfl⟩
    rw [← hG] at D0 D1 E0 E1 ⊢
    clear hW BX hG
    refine (known_any _).mono ?_
    rintro e w5 ⟨rfl, hX⟩
    have A0 := wcell hX A0
    have A1 := wcell hX A1
    have B0 := wcell hX B0
    have B1 := wcell hX B1
    have D0 := wcell hX D0
    have D1 := wcell hX D1
    have E0 := wcell hX E0
    have E1 := wcell hX E1
    have N1 := Lib.hid (N1.out.mono hX)
    have N2 := Lib.hid (N2.out.mono hX)
    have HB := Lib.hid (below_step HB.out hX)
    clear hX
    go_wp2_with fail
    refine (nbits_any 0 0 none 0 0 _ (Or.inl ⟨by omega, rfl, rfl, rfl, rfl⟩) (by rw [ds_one (by omega)]; omega)).mono ?_
    rintro e w6 ⟨rfl, hX⟩
    have A0 := wcell hX A0
    have A1 := wcell hX A1
    have B0 := wcell hX B0
    have B1 := wcell hX B1
    have D0 := wcell hX D0
    have D1 := wcell hX D1
    have E0 := wcell hX E0
    have E1 := wcell hX E1
    have N1 := Lib.hid (N1.out.mono hX)
    have N2 := Lib.hid (N2.out.mono hX)
    have HB := Lib.hid (below_step HB.out hX)
    clear hX  
    rw [show bitLen 0 = 0 from by unfold bitLen; rfl]
    go_wp2
    go_ret
    exact ⟨rfl, HB.out⟩
  · refine (div_any s1 s2 p1 p2 l1 c1 l2 c2 m n _ (by omega) hn0 N1.out N2.out).mono ?_
    rintro e w3 ⟨s5, p5, l5, c5, s6, p6, l6, c6, rfl, n5, n6, hX⟩
    have A0 := wcell hX A0
    have A1 := wcell hX A1
    have B0 := wcell hX B0
    have B1 := wcell hX B1
    have N1 := Lib.hid (N1.out.mono hX)
    have N2 := Lib.hid (N2.out.mono hX)
    have HB := Lib.hid (below_step HB.out hX)
    have N5 := Lib.hid n5; have N6 := Lib.hid n6
    clear n5 n6 hX
    go_wp2_with fail
    have BX : Below w3.heap.size w3 ((w3.alloc (.cells #[.int .u64 s5, .slice p5 l5 c5] 25)).alloc (.cells #[.int .u64 s6, .slice p6 l6 c6] 25)) := (by repeat' first | exact Below.refl _ _ | refine below_alloc ?_ _ | refine Below.drew ?_ | refine below_step ?_ (by assumption))
    have D0 : ((w3.alloc (.cells #[.int .u64 s5, .slice p5 l5 c5] 25)).alloc (.cells #[.int .u64 s6, .slice p6 l6 c6] 25)).cell? ⟨w3.heap.size, 0, none⟩ = some (.int .u64 s5) := by simp [go_sem]
    have D1 : ((w3.alloc (.cells #[.int .u64 s5, .slice p5 l5 c5] 25)).alloc (.cells #[.int .u64 s6, .slice p6 l6 c6] 25)).cell? ⟨w3.heap.size, 1, none⟩ = some (.slice p5 l5 c5) := by simp [go_sem]
    have E0 : ((w3.alloc (.cells #[.int .u64 s5, .slice p5 l5 c5] 25)).alloc (.cells #[.int .u64 s6, .slice p6 l6 c6] 25)).cell? ⟨w3.heap.size + 1, 0, none⟩ = some (.int .u64 s6) := by simp [go_sem]
    have E1 : ((w3.alloc (.cells #[.int .u64 s5, .slice p5 l5 c5] 25)).alloc (.cells #[.int .u64 s6, .slice p6 l6 c6] 25)).cell? ⟨w3.heap.size + 1, 1, none⟩ = some (.slice p6 l6 c6) := by simp [go_sem]
    obtain ⟨w4, hW⟩ : ∃ W, W = (w3.alloc (.cells #[.int .u64 s5, .slice p5 l5 c5] 25)).alloc (.cells #[.int .u64 s6, .slice p6 l6 c6] 25) := ⟨_, rfl⟩
    rw [← hW] at BX D0 D1 E0 E1 ⊢
    have A0 := wcell BX A0
    have A1 := wcell BX A1
    have B0 := wcell BX B0
    have B1 := wcell BX B1
    have N1 := Lib.hid (N1.out.mono BX)
    have N2 := Lib.hid (N2.out.mono BX)
    have N5 := Lib.hid (N5.out.mono BX)
    have N6 := Lib.hid (N6.out.mono BX)
    have HB := Lib.hid (below_step HB.out BX)
    obtain ⟨g, hG⟩ : ∃ g, g = w3.heap.size := ⟨_, rfl⟩
    rw [← hG] at D0 D1 E0 E1 ⊢
    clear hW BX hG
    rename_i K hKK
    obtain ⟨base, hbase⟩ : ∃ base, base = w4.heap.size := ⟨_, rfl⟩
    have hwb : w.heap.size ≤ base := by rw [hbase]; exact HB.out.size
    have za : a < base := by rw [hbase]; exact World.block_lt_of_cell? _ _ A0
    have zb : a + 1 < base := by rw [hbase]; exact World.block_lt_of_cell? _ _ B0
    have zd : g < base := by rw [hbase]; exact World.block_lt_of_cell? _ _ D0
    have ze : g + 1 < base := by rw [hbase]; exact World.block_lt_of_cell? _ _ E0
    have key : ∀ (u0 u1 u2 u3 u4 u7 u8 u15 u16 u17 u18 u19 u20 u21 u22 u23 u24 u25 u26 u27 u28 u29 u30 u31 u32 u33 u34 u35 u36 u37 u38 u39 u40 u41 u42 u43 u44 u45 u46 u47 u48 u49 u50 u51 u52 u53 u54 u55 u56 u57 u58 u59 u60 u61 u62 u63 u64 u65 u66 u67 u68 u69 u70 u71 u72 u73 u74 u75 u76 u77 : Value) (bz bs : Nat) (s7 : Int) (p7 : Option Addr) (l7 c7 : Nat) (s8 : Int) (p8 : Option Addr) (l8 c8 : Nat) (W W1 : World), base ≤ bz → base ≤ bs → Rest bz bs W W1 → Below w4.heap.size w4 W →
        (W.heap.size ≤ bz ∨ W.cell? ⟨bz, 1, none⟩ = some (.slice none 0 0)) → (W.heap.size ≤ bs ∨ W.cell? ⟨bs, 1, none⟩ = some (.slice none 0 0)) → IsN W s7 p7 l7 c7 m → IsN W s8 p8 l8 c8 0 →
        W1.cell? ⟨bz, 0, none⟩ = some (.int .u64 s7) → W1.cell? ⟨bz, 1, none⟩ = some (.slice p7 l7 c7) → W1.cell? ⟨bs, 0, none⟩ = some (.int .u64 s8) → W1.cell? ⟨bs, 1, none⟩ = some (.slice p8 l8 c8) →
        K { tmps := #[u0, u1, u2, u3, u4, .pointer (some ⟨a, 0, none⟩), .pointer (some ⟨a + 1, 0, none⟩), u7, u8, .pointer (some ⟨g, 0, none⟩), .pointer (some ⟨g + 1, 0, none⟩), .bool true, .pointer (some ⟨bz, 0, none⟩), .pointer (some ⟨bs, 0, none⟩), .bool true, u15, u16, u17, u18, u19, u20, u21, u22, u23, u24, u25, u26, u27, u28, u29, u30, u31, u32, u33, u34, u35, u36, u37, u38, u39, u40, u41, u42, u43, u44, u45, u46, u47, u48, u49, u50, u51, u52, u53, u54, u55, u56, u57, u58, u59, u60, u61, u62, u63, u64, u65, u66, u67, u68, u69, u70, u71, u72, u73, u74, u75, u76, u77], defers := [] } W1 := by
      intro u0 u1 u2 u3 u4 u7 u8 u15 u16 u17 u18 u19 u20 u21 u22 u23 u24 u25 u26 u27 u28 u29 u30 u31 u32 u33 u34 u35 u36 u37 u38 u39 u40 u41 u42 u43 u44 u45 u46 u47 u48 u49 u50 u51 u52 u53 u54 u55 u56 u57 u58 u59 u60 u61 u62 u63 u64 u65 u66 u67 u68 u69 u70 u71 u72 u73 u74 u75 u76 u77 bz bs s7 p7 l7 c7 s8 p8 l8 c8 W W1 hbz hbs hR hb hx hy n7 n8 Z0 Z1 S0 S1
      have N7 := Lib.hid (n7.rest hR hx hy); have N8 := Lib.hid (n8.rest hR hx hy)
      have N1 := Lib.hid ((N1.out.mono hb).rest hR hx hy); have N2 := Lib.hid ((N2.out.mono hb).rest hR hx hy); have N5 := Lib.hid ((N5.out.mono hb).rest hR hx hy); have N6 := Lib.hid ((N6.out.mono hb).rest hR hx hy)
      have A0 := hR.cell (wcell hb A0) (by omega) (by omega); have A1 := hR.cell (wcell hb A1) (by omega) (by omega)
      have B0 := hR.cell (wcell hb B0) (by omega) (by omega); have B1 := hR.cell (wcell hb B1) (by omega) (by omega)
      have D0 := hR.cell (wcell hb D0) (by omega) (by omega); have D1 := hR.cell (wcell hb D1) (by omega) (by omega)
      have E0 := hR.cell (wcell hb E0) (by omega) (by omega); have E1 := hR.cell (wcell hb E1) (by omega) (by omega)
      have HB := Lib.hid (hR.below (below_step HB.out hb) (Nat.le_refl _) (by omega) (by omega))
      clear hR hb hx hy n7 n8 hbz hbs za zb zd ze hbase hwb
      refine hKK _ _ ?_
      clear hKK
      go_wp2_with fail
      refine region_phase (T := [0, 1, 2, 3, 4, 5, 6, 7, 8, 9, 10, 11, 12, 13, 14, 15, 16, 17, 18, 19, 20, 21, 22, 23, 24, 25, 26, 27, 28, 29, 30]) (slots := [47, 48, 49, 50, 51, 52, 53, 54, 55, 56, 57, 58, 59, 60, 61, 62, 63, 64, 65, 66, 67, 68, 69, 70, 71, 72, 73, 74, 75, 76, 77]) (fuel := 1) (n := 31) (deps := [0, 1, 2, 2, 14, 2, 50, 2, 194, 258, 514, 1280, 2048, 2048, 14336, 18432, 34816, 81920, 131072, 393216, 655360, 1048576, 1048576, 7340032, 9437184, 17825792, 41943040, 67108864, 201326592, 335544320, 603979776, 2147483647]) (Tm := 2147483647) (Lm := 2147483647)
          (L := #[true, true, true, true, true, true, true, true, true, true, true, true, true, true, true, true, true, true, true, true, true, true, true, true, true, true, true, true, true, true, true, false])
          (V := Tab [.is (.bool true), .is (.bool true), .num (m / n), .num n, .num ((m / n) * n), .num (m % n), .num (((m / n) * n) + (m % n)), .num m, .is (.int .i64 0), .is (.bool true), .is (.bool true), .is (.bool true), .num (m % n), .num n, .is (.int .i64 (-1)), .is (.bool true), .is (.bool true), .is (.bool true), .is (.bool true), .is (.bool true), .is (.bool true), .num m, .num m, .is (.int .i64 0), .is (.bool true), .is (.bool true), .is (.bool true), .num 0, .is (.int .i64 0), .is (.bool true), .is (.bool true)] 0)
          (by kernel_rfl) rfl Tab.stable (by kernel_rfl) (by kernel_rfl) (by kernel_rfl) (by kernel_rfl) (by kernel_rfl) (by kernel_rfl) (by kernel_rfl) ?_ ?_
      · skip
        refine AllGo.cons rfl (fun E W hb hc hf hE hV => ⟨rfl, ?_⟩) ?_
        · clear hE hV
          exact Does.call (w' := W) (by go_simp) ((known_any W).mono fun e w' ⟨h1, h2⟩ => ⟨_, h1, rfl, h2⟩)
        refine AllGo.cons rfl (fun E W hb hc hf hE hV => ⟨rfl, ?_⟩) ?_
        · have e1 : E (.tmp 47) = _ := hV 0 47 (by kernel_rfl) (by kernel_rfl) (by kernel_rfl)
          clear hE hV
          exact Does.value (w' := W) (by go_simp) ⟨rfl, Below.refl _ _⟩
        refine AllGo.cons rfl (fun E W hb hc hf hE hV => ⟨wanted_of (d := 48) (b := true) rfl (by kernel_rfl) (hV 1 48 (by kernel_rfl) (by kernel_rfl) (by kernel_rfl)), ?_⟩) ?_
        · have e1 : E (.tmp 9) = .pointer (some ⟨g, 0, none⟩) := hE 9 (by kernel_rfl)
          have q := wcell hb D0
          have q' := wcell hb D1
          clear hE hV
          exact Does.value (v := .agg #[.int .u64 s5, .slice p5 l5 c5]) (w' := W) (by go_simp) ⟨⟨_, _, _, _, rfl, N5.out.mono hb⟩, Below.refl _ _⟩
        refine AllGo.cons rfl (fun E W hb hc hf hE hV => ⟨wanted_of (d := 48) (b := true) rfl (by kernel_rfl) (hV 1 48 (by kernel_rfl) (by kernel_rfl) (by kernel_rfl)), ?_⟩) ?_
        · have e1 : E (.tmp 6) = .pointer (some ⟨a + 1, 0, none⟩) := hE 6 (by kernel_rfl)
          have q := wcell hb B0
          have q' := wcell hb B1
          clear hE hV
          exact Does.value (v := .agg #[.int .u64 s2, .slice p2 l2 c2]) (w' := W) (by go_simp) ⟨⟨_, _, _, _, rfl, N2.out.mono hb⟩, Below.refl _ _⟩
        refine AllGo.cons rfl (fun E W hb hc hf hE hV => ⟨wanted_of (d := 48) (b := true) rfl (by kernel_rfl) (hV 1 48 (by kernel_rfl) (by kernel_rfl) (by kernel_rfl)), ?_⟩) ?_
        · have e1 : Means W (.num (m / n)) (E (.tmp 49)) := hV 2 49 (by kernel_rfl) (by kernel_rfl) (by kernel_rfl)
          have e2 : Means W (.num n) (E (.tmp 50)) := hV 3 50 (by kernel_rfl) (by kernel_rfl) (by kernel_rfl)
          clear hE hV
          exact Does.call (w' := W) (by go_simp) ((mul_want W _ _ (m / n) n (by omega) (by omega) e1 e2).mono fun e w' ⟨v, h1, h2, h3⟩ => ⟨v, h1, h2, h3⟩)
        refine AllGo.cons rfl (fun E W hb hc hf hE hV => ⟨wanted_of (d := 48) (b := true) rfl (by kernel_rfl) (hV 1 48 (by kernel_rfl) (by kernel_rfl) (by kernel_rfl)), ?_⟩) ?_
        · have e1 : E (.tmp 10) = .pointer (some ⟨g + 1, 0, none⟩) := hE 10 (by kernel_rfl)
          have q := wcell hb E0
          have q' := wcell hb E1
          clear hE hV
          exact Does.value (v := .agg #[.int .u64 s6, .slice p6 l6 c6]) (w' := W) (by go_simp) ⟨⟨_, _, _, _, rfl, N6.out.mono hb⟩, Below.refl _ _⟩
        refine AllGo.cons rfl (fun E W hb hc hf hE hV => ⟨wanted_of (d := 48) (b := true) rfl (by kernel_rfl) (hV 1 48 (by kernel_rfl) (by kernel_rfl) (by kernel_rfl)), ?_⟩) ?_
        · have e1 : Means W (.num ((m / n) * n)) (E (.tmp 51)) := hV 4 51 (by kernel_rfl) (by kernel_rfl) (by kernel_rfl)
          have e2 : Means W (.num (m % n)) (E (.tmp 52)) := hV 5 52 (by kernel_rfl) (by kernel_rfl) (by kernel_rfl)
          clear hE hV
          exact Does.call (w' := W) (by go_simp) ((add_want W _ _ ((m / n) * n) (m % n) (by omega) (by omega) e1 e2).mono fun e w' ⟨v, h1, h2, h3⟩ => ⟨v, h1, h2, h3⟩)
        refine AllGo.cons rfl (fun E W hb hc hf hE hV => ⟨wanted_of (d := 48) (b := true) rfl (by kernel_rfl) (hV 1 48 (by kernel_rfl) (by kernel_rfl) (by kernel_rfl)), ?_⟩) ?_
        · have e1 : E (.tmp 5) = .pointer (some ⟨a, 0, none⟩) := hE 5 (by kernel_rfl)
          have q := wcell hb A0
          have q' := wcell hb A1
          clear hE hV
          exact Does.value (v := .agg #[.int .u64 s1, .slice p1 l1 c1]) (w' := W) (by go_simp) ⟨⟨_, _, _, _, rfl, N1.out.mono hb⟩, Below.refl _ _⟩
        refine AllGo.cons rfl (fun E W hb hc hf hE hV => ⟨wanted_of (d := 48) (b := true) rfl (by kernel_rfl) (hV 1 48 (by kernel_rfl) (by kernel_rfl) (by kernel_rfl)), ?_⟩) ?_
        · have e1 : Means W (.num (((m / n) * n) + (m % n))) (E (.tmp 53)) := hV 6 53 (by kernel_rfl) (by kernel_rfl) (by kernel_rfl)
          have e2 : Means W (.num m) (E (.tmp 54)) := hV 7 54 (by kernel_rfl) (by kernel_rfl) (by kernel_rfl)
          clear hE hV
          exact Does.call (w' := W) (by go_simp) ((cmp_want W _ _ (((m / n) * n) + (m % n)) m (by omega) e1 e2).mono fun e w' ⟨v, h1, h2, h3⟩ => ⟨v, h1, h2.trans (congrArg (Value.int .i64) (by rw [HDM.out]; exact cmp3_eq _)), h3⟩)
        refine AllGo.cons rfl (fun E W hb hc hf hE hV => ⟨wanted_of (d := 48) (b := true) rfl (by kernel_rfl) (hV 1 48 (by kernel_rfl) (by kernel_rfl) (by kernel_rfl)), ?_⟩) ?_
        · have e1 : E (.tmp 55) = _ := hV 8 55 (by kernel_rfl) (by kernel_rfl) (by kernel_rfl)
          clear hE hV
          exact Does.value (w' := W) (by go_simp) ⟨rfl, Below.refl _ _⟩
        refine AllGo.cons rfl (fun E W hb hc hf hE hV => ⟨rfl, ?_⟩) ?_
        · have e1 : E (.tmp 48) = _ := hV 1 48 (by kernel_rfl) (by kernel_rfl) (by kernel_rfl)
          have e2 : E (.tmp 56) = _ := hV 9 56 (by kernel_rfl) (by kernel_rfl) (by kernel_rfl)
          clear hE hV
          exact Does.value (w' := W) (by go_simp) ⟨rfl, Below.refl _ _⟩
        refine AllGo.cons rfl (fun E W hb hc hf hE hV => ⟨rfl, ?_⟩) ?_
        · have e1 : E (.tmp 57) = _ := hV 10 57 (by kernel_rfl) (by kernel_rfl) (by kernel_rfl)
          clear hE hV
          exact Does.value (w' := W) (by go_simp) ⟨rfl, Below.refl _ _⟩
        refine AllGo.cons rfl (fun E W hb hc hf hE hV => ⟨wanted_of (d := 58) (b := true) rfl (by kernel_rfl) (hV 11 58 (by kernel_rfl) (by kernel_rfl) (by kernel_rfl)), ?_⟩) ?_
        · have e1 : E (.tmp 10) = .pointer (some ⟨g + 1, 0, none⟩) := hE 10 (by kernel_rfl)
          have q := wcell hb E0
          have q' := wcell hb E1
          clear hE hV
          exact Does.value (v := .agg #[.int .u64 s6, .slice p6 l6 c6]) (w' := W) (by go_simp) ⟨⟨_, _, _, _, rfl, N6.out.mono hb⟩, Below.refl _ _⟩
        refine AllGo.cons rfl (fun E W hb hc hf hE hV => ⟨wanted_of (d := 58) (b := true) rfl (by kernel_rfl) (hV 11 58 (by kernel_rfl) (by kernel_rfl) (by kernel_rfl)), ?_⟩) ?_
        · have e1 : E (.tmp 6) = .pointer (some ⟨a + 1, 0, none⟩) := hE 6 (by kernel_rfl)
          have q := wcell hb B0
          have q' := wcell hb B1
          clear hE hV
          exact Does.value (v := .agg #[.int .u64 s2, .slice p2 l2 c2]) (w' := W) (by go_simp) ⟨⟨_, _, _, _, rfl, N2.out.mono hb⟩, Below.refl _ _⟩
        refine AllGo.cons rfl (fun E W hb hc hf hE hV => ⟨wanted_of (d := 58) (b := true) rfl (by kernel_rfl) (hV 11 58 (by kernel_rfl) (by kernel_rfl) (by kernel_rfl)), ?_⟩) ?_
        · have e1 : Means W (.num (m % n)) (E (.tmp 59)) := hV 12 59 (by kernel_rfl) (by kernel_rfl) (by kernel_rfl)
          have e2 : Means W (.num n) (E (.tmp 60)) := hV 13 60 (by kernel_rfl) (by kernel_rfl) (by kernel_rfl)
          clear hE hV
          exact Does.call (w' := W) (by go_simp) ((cmp_want W _ _ (m % n) n (by omega) e1 e2).mono fun e w' ⟨v, h1, h2, h3⟩ => ⟨v, h1, h2.trans (congrArg (Value.int .i64) (cmp3_lt (by exact_mod_cast Nat.mod_lt m hn0))), h3⟩)
        refine AllGo.cons rfl (fun E W hb hc hf hE hV => ⟨wanted_of (d := 58) (b := true) rfl (by kernel_rfl) (hV 11 58 (by kernel_rfl) (by kernel_rfl) (by kernel_rfl)), ?_⟩) ?_
        · have e1 : E (.tmp 61) = _ := hV 14 61 (by kernel_rfl) (by kernel_rfl) (by kernel_rfl)
          clear hE hV
          exact Does.value (w' := W) (by go_simp) ⟨rfl, Below.refl _ _⟩
        refine AllGo.cons rfl (fun E W hb hc hf hE hV => ⟨rfl, ?_⟩) ?_
        · have e1 : E (.tmp 58) = _ := hV 11 58 (by kernel_rfl) (by kernel_rfl) (by kernel_rfl)
          have e2 : E (.tmp 62) = _ := hV 15 62 (by kernel_rfl) (by kernel_rfl) (by kernel_rfl)
          clear hE hV
          exact Does.value (w' := W) (by go_simp) ⟨rfl, Below.refl _ _⟩
        refine AllGo.cons rfl (fun E W hb hc hf hE hV => ⟨rfl, ?_⟩) ?_
        · have e1 : E (.tmp 63) = _ := hV 16 63 (by kernel_rfl) (by kernel_rfl) (by kernel_rfl)
          clear hE hV
          exact Does.value (w' := W) (by go_simp) ⟨rfl, Below.refl _ _⟩
        refine AllGo.cons rfl (fun E W hb hc hf hE hV => ⟨wanted_of (d := 64) (b := true) rfl (by kernel_rfl) (hV 17 64 (by kernel_rfl) (by kernel_rfl) (by kernel_rfl)), ?_⟩) ?_
        · have e1 : E (.tmp 14) = .bool true := hE 14 (by kernel_rfl)
          clear hE hV
          exact Does.value (w' := W) (by go_simp) ⟨rfl, Below.refl _ _⟩
        refine AllGo.cons rfl (fun E W hb hc hf hE hV => ⟨rfl, ?_⟩) ?_
        · have e1 : E (.tmp 64) = _ := hV 17 64 (by kernel_rfl) (by kernel_rfl) (by kernel_rfl)
          have e2 : E (.tmp 65) = _ := hV 18 65 (by kernel_rfl) (by kernel_rfl) (by kernel_rfl)
          clear hE hV
          exact Does.value (w' := W) (by go_simp) ⟨rfl, Below.refl _ _⟩
        refine AllGo.cons rfl (fun E W hb hc hf hE hV => ⟨rfl, ?_⟩) ?_
        · have e1 : E (.tmp 66) = _ := hV 19 66 (by kernel_rfl) (by kernel_rfl) (by kernel_rfl)
          clear hE hV
          exact Does.value (w' := W) (by go_simp) ⟨rfl, Below.refl _ _⟩
        refine AllGo.cons rfl (fun E W hb hc hf hE hV => ⟨wanted_of (d := 67) (b := true) rfl (by kernel_rfl) (hV 20 67 (by kernel_rfl) (by kernel_rfl) (by kernel_rfl)), ?_⟩) ?_
        · have e1 : E (.tmp 12) = .pointer (some ⟨bz, 0, none⟩) := hE 12 (by kernel_rfl)
          have q := wcell hb Z0
          have q' := wcell hb Z1
          clear hE hV
          exact Does.value (v := .agg #[.int .u64 s7, .slice p7 l7 c7]) (w' := W) (by go_simp) ⟨⟨_, _, _, _, rfl, N7.out.mono hb⟩, Below.refl _ _⟩
        refine AllGo.cons rfl (fun E W hb hc hf hE hV => ⟨wanted_of (d := 67) (b := true) rfl (by kernel_rfl) (hV 20 67 (by kernel_rfl) (by kernel_rfl) (by kernel_rfl)), ?_⟩) ?_
        · have e1 : E (.tmp 5) = .pointer (some ⟨a, 0, none⟩) := hE 5 (by kernel_rfl)
          have q := wcell hb A0
          have q' := wcell hb A1
          clear hE hV
          exact Does.value (v := .agg #[.int .u64 s1, .slice p1 l1 c1]) (w' := W) (by go_simp) ⟨⟨_, _, _, _, rfl, N1.out.mono hb⟩, Below.refl _ _⟩
        refine AllGo.cons rfl (fun E W hb hc hf hE hV => ⟨wanted_of (d := 67) (b := true) rfl (by kernel_rfl) (hV 20 67 (by kernel_rfl) (by kernel_rfl) (by kernel_rfl)), ?_⟩) ?_
        · have e1 : Means W (.num m) (E (.tmp 68)) := hV 21 68 (by kernel_rfl) (by kernel_rfl) (by kernel_rfl)
          have e2 : Means W (.num m) (E (.tmp 69)) := hV 22 69 (by kernel_rfl) (by kernel_rfl) (by kernel_rfl)
          clear hE hV
          exact Does.call (w' := W) (by go_simp) ((cmp_want W _ _ m m (by omega) e1 e2).mono fun e w' ⟨v, h1, h2, h3⟩ => ⟨v, h1, h2.trans (congrArg (Value.int .i64) (cmp3_eq _)), h3⟩)
        refine AllGo.cons rfl (fun E W hb hc hf hE hV => ⟨wanted_of (d := 67) (b := true) rfl (by kernel_rfl) (hV 20 67 (by kernel_rfl) (by kernel_rfl) (by kernel_rfl)), ?_⟩) ?_
        · have e1 : E (.tmp 70) = _ := hV 23 70 (by kernel_rfl) (by kernel_rfl) (by kernel_rfl)
          clear hE hV
          exact Does.value (w' := W) (by go_simp) ⟨rfl, Below.refl _ _⟩
        refine AllGo.cons rfl (fun E W hb hc hf hE hV => ⟨rfl, ?_⟩) ?_
        · have e1 : E (.tmp 67) = _ := hV 20 67 (by kernel_rfl) (by kernel_rfl) (by kernel_rfl)
          have e2 : E (.tmp 71) = _ := hV 24 71 (by kernel_rfl) (by kernel_rfl) (by kernel_rfl)
          clear hE hV
          exact Does.value (w' := W) (by go_simp) ⟨rfl, Below.refl _ _⟩
        refine AllGo.cons rfl (fun E W hb hc hf hE hV => ⟨rfl, ?_⟩) ?_
        · have e1 : E (.tmp 72) = _ := hV 25 72 (by kernel_rfl) (by kernel_rfl) (by kernel_rfl)
          clear hE hV
          exact Does.value (w' := W) (by go_simp) ⟨rfl, Below.refl _ _⟩
        refine AllGo.cons rfl (fun E W hb hc hf hE hV => ⟨wanted_of (d := 73) (b := true) rfl (by kernel_rfl) (hV 26 73 (by kernel_rfl) (by kernel_rfl) (by kernel_rfl)), ?_⟩) ?_
        · have e1 : E (.tmp 13) = .pointer (some ⟨bs, 0, none⟩) := hE 13 (by kernel_rfl)
          have q := wcell hb S0
          have q' := wcell hb S1
          clear hE hV
          exact Does.value (v := .agg #[.int .u64 s8, .slice p8 l8 c8]) (w' := W) (by go_simp) ⟨⟨_, _, _, _, rfl, N8.out.mono hb⟩, Below.refl _ _⟩
        refine AllGo.cons rfl (fun E W hb hc hf hE hV => ⟨wanted_of (d := 73) (b := true) rfl (by kernel_rfl) (hV 26 73 (by kernel_rfl) (by kernel_rfl) (by kernel_rfl)), ?_⟩) ?_
        · have e1 : Means W (.num 0) (E (.tmp 74)) := hV 27 74 (by kernel_rfl) (by kernel_rfl) (by kernel_rfl)
          clear hE hV
          obtain ⟨s, p, l, c, e1, h1⟩ := e1
          exact Does.call (w' := W) (by go_simp) ((nbits_any 0 s p l c W h1 (by rw [ds_one (by omega)]; omega)).mono fun e w' ⟨h1, h2⟩ => ⟨_, h1, rfl, h2⟩)
        refine AllGo.cons rfl (fun E W hb hc hf hE hV => ⟨wanted_of (d := 73) (b := true) rfl (by kernel_rfl) (hV 26 73 (by kernel_rfl) (by kernel_rfl) (by kernel_rfl)), ?_⟩) ?_
        · have e1 : E (.tmp 75) = _ := hV 28 75 (by kernel_rfl) (by kernel_rfl) (by kernel_rfl)
          clear hE hV
          exact Does.value (w' := W) (by go_simp) ⟨rfl, Below.refl _ _⟩
        refine AllGo.cons rfl (fun E W hb hc hf hE hV => ⟨rfl, ?_⟩) ?_
        · have e1 : E (.tmp 73) = _ := hV 26 73 (by kernel_rfl) (by kernel_rfl) (by kernel_rfl)
          have e2 : E (.tmp 76) = _ := hV 29 76 (by kernel_rfl) (by kernel_rfl) (by kernel_rfl)
          clear hE hV
          exact Does.value (w' := W) (by go_simp) ⟨rfl, Below.refl _ _⟩
        exact AllGo.nil
      · intro f W hf hb
        have e77 : f 77 = .bool true := hf (30, 77) (by simp)
        have HW := Lib.hid (below_step HB.out hb)
        clear hf hb
        simp only [fillSlots]
        refine wpAny_ready (rs := [31]) (by kernel_rfl) (by simp) ?_
        refine AllReady.cons rfl (fun K hK => ?_) AllReady.nil
        go_simp
        refine hK _ _ ?_; clear hK K
        refine wpAny_done (by kernel_rfl) ?_ _
        go_wp2
        go_ret
        exact ⟨by simp, HW.out⟩
    clear hKK
    have KEY := Lib.hid key
    clear key
    refine region_ends2 (T := [0, 1, 2, 3, 4, 5, 6, 7, 8, 9, 10]) (slots := [39, 40, 41, 42, 43, 38, 44, 45, 46, 12, 13]) (fuel := 5) (n := 9) (deps := [0, 0, 3, 0, 12, 16, 32, 32, 32, 0, 0, 1663, 3839, 8191]) (ends := [1663, 1727, 1855, 1407, 895, 1471, 959, 1279, 767, 511]) (Tm := 2047) (i1 := 9) (i2 := 10) (d1 := 12) (d2 := 13)
        (V := Tab [.num m, .num n, .num (m * n), .num n, .three (.num m) (.num 0) (.is (.bool true)), .three (.num m) (.num 0) (.is (.bool true)), .num m, .num 0, .is (.bool true), .newbox w4.heap.size, .newbox w4.heap.size] 0)
        (by kernel_rfl) rfl Tab.stable (by kernel_rfl) (by kernel_rfl) (by kernel_rfl) (by kernel_rfl) (by kernel_rfl) (by kernel_rfl) (by omega) (by kernel_rfl) (by kernel_rfl) (by kernel_rfl) ?_ ?_ ?_
    · rintro i (rfl | rfl) o ho
      · obtain rfl := Option.some.inj ho
        exact ⟨rfl, fun E w => ⟨.cells #[.int .u64 0, .slice none 0 0] 25, by go_simp⟩⟩
      · obtain rfl := Option.some.inj ho
        exact ⟨rfl, fun E w => ⟨.cells #[.int .u64 0, .slice none 0 0] 25, by go_simp⟩⟩
    · skip
      refine AllGo.cons rfl (fun E W hb hc hf hE hV => ⟨rfl, ?_⟩) ?_
      · have e1 : E (.tmp 5) = .pointer (some ⟨a, 0, none⟩) := hE 5 (by kernel_rfl)
        have q := wcell hb A0
        have q' := wcell hb A1
        clear hE hV
        exact Does.value (v := .agg #[.int .u64 s1, .slice p1 l1 c1]) (w' := W) (by go_simp) ⟨⟨_, _, _, _, rfl, N1.out.mono hb⟩, Below.refl _ _⟩
      refine AllGo.cons rfl (fun E W hb hc hf hE hV => ⟨rfl, ?_⟩) ?_
      · have e1 : E (.tmp 6) = .pointer (some ⟨a + 1, 0, none⟩) := hE 6 (by kernel_rfl)
        have q := wcell hb B0
        have q' := wcell hb B1
        clear hE hV
        exact Does.value (v := .agg #[.int .u64 s2, .slice p2 l2 c2]) (w' := W) (by go_simp) ⟨⟨_, _, _, _, rfl, N2.out.mono hb⟩, Below.refl _ _⟩
      refine AllGo.cons rfl (fun E W hb hc hf hE hV => ⟨rfl, ?_⟩) ?_
      · have e1 : Means W (.num m) (E (.tmp 39)) := hV 0 39 (by kernel_rfl) (by kernel_rfl) (by kernel_rfl)
        have e2 : Means W (.num n) (E (.tmp 40)) := hV 1 40 (by kernel_rfl) (by kernel_rfl) (by kernel_rfl)
        clear hE hV
        exact Does.call (w' := W) (by go_simp) ((mul_want W _ _ m n (by omega) (by omega) e1 e2).mono fun e w' ⟨v, h1, h2, h3⟩ => ⟨v, h1, h2, h3⟩)
      refine AllGo.cons rfl (fun E W hb hc hf hE hV => ⟨rfl, ?_⟩) ?_
      · have e1 : E (.tmp 6) = .pointer (some ⟨a + 1, 0, none⟩) := hE 6 (by kernel_rfl)
        have q := wcell hb B0
        have q' := wcell hb B1
        clear hE hV
        exact Does.value (v := .agg #[.int .u64 s2, .slice p2 l2 c2]) (w' := W) (by go_simp) ⟨⟨_, _, _, _, rfl, N2.out.mono hb⟩, Below.refl _ _⟩
      refine AllGo.cons rfl (fun E W hb hc hf hE hV => ⟨rfl, ?_⟩) ?_
      · have e1 : Means W (.num (m * n)) (E (.tmp 41)) := hV 2 41 (by kernel_rfl) (by kernel_rfl) (by kernel_rfl)
        have e2 : Means W (.num n) (E (.tmp 42)) := hV 3 42 (by kernel_rfl) (by kernel_rfl) (by kernel_rfl)
        clear hE hV
        exact Does.call (w' := W) (by go_simp) ((div_want W _ _ (m * n) n (by omega) hn0 e1 e2).mono fun e w' ⟨v, h1, ⟨x, y, z, h2, h3, h4, h5⟩, h6⟩ => ⟨v, h1, ⟨x, y, z, h2, by rw [Nat.mul_div_cancel m hn0] at h3; exact h3, by rw [Nat.mul_mod_left] at h4; exact h4, h5⟩, h6⟩)
      refine AllGo.cons rfl (fun E W hb hc hf hE hV => ⟨rfl, ?_⟩) ?_
      · have e1 : Means W (.three (.num m) (.num 0) (.is (.bool true))) (E (.tmp 43)) := hV 4 43 (by kernel_rfl) (by kernel_rfl) (by kernel_rfl)
        clear hE hV
        obtain ⟨x, y, z, e1, h1, h2, h3⟩ := e1
        exact Does.value (v := .tuple #[x, y, z]) (w' := W) (by go_simp) ⟨⟨x, y, z, rfl, h1, h2, h3⟩, Below.refl _ _⟩
      refine AllGo.cons rfl (fun E W hb hc hf hE hV => ⟨rfl, ?_⟩) ?_
      · have e1 : Means W (.three (.num m) (.num 0) (.is (.bool true))) (E (.tmp 38)) := hV 5 38 (by kernel_rfl) (by kernel_rfl) (by kernel_rfl)
        clear hE hV
        obtain ⟨x, y, z, e1, h1, h2, h3⟩ := e1
        exact Does.value (v := x) (w' := W) (by go_simp) ⟨h1, Below.refl _ _⟩
      refine AllGo.cons rfl (fun E W hb hc hf hE hV => ⟨rfl, ?_⟩) ?_
      · have e1 : Means W (.three (.num m) (.num 0) (.is (.bool true))) (E (.tmp 38)) := hV 5 38 (by kernel_rfl) (by kernel_rfl) (by kernel_rfl)
        clear hE hV
        obtain ⟨x, y, z, e1, h1, h2, h3⟩ := e1
        exact Does.value (v := y) (w' := W) (by go_simp) ⟨h2, Below.refl _ _⟩
      refine AllGo.cons rfl (fun E W hb hc hf hE hV => ⟨rfl, ?_⟩) ?_
      · have e1 : Means W (.three (.num m) (.num 0) (.is (.bool true))) (E (.tmp 38)) := hV 5 38 (by kernel_rfl) (by kernel_rfl) (by kernel_rfl)
        clear hE hV
        obtain ⟨x, y, z, e1, h1, h2, h3⟩ := e1
        exact Does.value (v := z) (w' := W) (by go_simp) ⟨h3, Below.refl _ _⟩
      refine AllGo.cons rfl (fun E W hb hc hf hE hV => ⟨rfl, ?_⟩) ?_
      · clear hE hV
        refine Does.value (v := .pointer (some ⟨W.heap.size, 0, none⟩)) (w' := W.alloc (.cells #[.int .u64 0, .slice none 0 0] 25)) (by go_simp) ⟨⟨W.heap.size, rfl, by have := hb.size; omega, by simp [go_sem], by simp [go_sem], by simp [go_sem], by simp [go_sem]⟩, below_alloc (Below.refl _ _) _⟩
      refine AllGo.cons rfl (fun E W hb hc hf hE hV => ⟨rfl, ?_⟩) ?_
      · clear hE hV
        refine Does.value (v := .pointer (some ⟨W.heap.size, 0, none⟩)) (w' := W.alloc (.cells #[.int .u64 0, .slice none 0 0] 25)) (by go_simp) ⟨⟨W.heap.size, rfl, by have := hb.size; omega, by simp [go_sem], by simp [go_sem], by simp [go_sem], by simp [go_sem]⟩, below_alloc (Below.refl _ _) _⟩
      exact AllGo.nil
    refine ⟨?_, ?_, ?_, ?_, ?_, ?_, ?_, ?_, ?_, ?_, trivial⟩
    · intro f W hf hne hb
      have e38 : Means W (.three (.num m) (.num 0) (.is (.bool true))) (f 38) := hf (5, 38) (by simp) (by kernel_rfl)
      obtain ⟨x, y, z, e38, hxx, hyy, e46⟩ := e38
      have hxx : Means W (.num m) (f 44) := hf (6, 44) (by simp) (by kernel_rfl)
      obtain ⟨s7, p7, l7, c7, e44, hz⟩ := hxx
      obtain ⟨s8, p8, l8, c8, e45, hs⟩ := hyy
      subst e45
      have e46 : z = .bool true := e46
      subst e46
      have e12 : Means W (.newbox w4.heap.size) (f 12) := hf (9, 12) (by simp) (by kernel_rfl)
      obtain ⟨bz, e12, hbz, z0, z1, zf0, zf1⟩ := e12
      have lz := World.block_lt_of_cell? _ _ z0
      have e13 : Means W (.newbox w4.heap.size) (f 13) := hf (10, 13) (by simp) (by kernel_rfl)
      obtain ⟨bs, e13, hbs, y0, y1, yf0, yf1⟩ := e13
      have ly := World.block_lt_of_cell? _ _ y0
      have hne2 : bz ≠ bs := by
        intro h
        exact hne (by kernel_rfl) (by kernel_rfl) (by rw [e12, e13, h])
      have hne3 : bs ≠ bz := fun h => hne2 h.symm
      have HZ := Lib.hid hz; have HS := Lib.hid hs; have HWB := Lib.hid hb
      have hWs : base ≤ W.heap.size := by rw [hbase]; exact hb.size
      clear hf hb hz hs hne
      simp only [fillSlots]
      refine wpAny_ready (rs := [7, 8, 11]) (by kernel_rfl) (by simp) ?_
      refine AllReady.cons rfl (fun K' hK => ?_) (AllReady.cons rfl (fun K' hK => ?_) (AllReady.cons rfl (fun K' hK => ?_) AllReady.nil))
      · go_simp
        refine hK _ _ ?_; clear hK K'
        refine wpAny_ready (rs := [8, 11]) (by kernel_rfl) (by simp) ?_
        refine AllReady.cons rfl (fun K' hK => ?_) (AllReady.cons rfl (fun K' hK => ?_) AllReady.nil)
        · go_simp
          refine hK _ _ ?_; clear hK K'
          refine wpAny_ready (rs := [11]) (by kernel_rfl) (by simp) ?_
          refine AllReady.cons rfl (fun K' hK => ?_) AllReady.nil
          go_simp
          refine hK _ _ ?_; clear hK K'
          refine wpAny_ready (rs := [12]) (by kernel_rfl) (by simp) ?_
          refine AllReady.cons rfl (fun K' hK => ?_) AllReady.nil
          go_simp
          refine hK _ _ ?_; clear hK K'
          refine wpAny_ready (rs := [13]) (by kernel_rfl) (by simp) ?_
          refine AllReady.cons rfl (fun K' hK => ?_) AllReady.nil
          go_simp
          refine hK _ _ ?_; clear hK K'
          refine wpAny_done (by kernel_rfl) ?_ _
          exact KEY.out _ _ _ _ _ _ _ _ _ _ _ _ _ _ _ _ _ _ _ _ _ _ _ _ _ _ _ _ _ _ _ _ _ _ _ _ _ _ _ _ _ _ _ _ _ _ _ _ _ _ _ _ _ _ _ _ _ _ _ _ _ _ _ _ _ _ _ _ _ _ bz bs s7 p7 l7 c7 s8 p8 l8 c8 W _ (by rw [hbase]; exact hbz) (by rw [hbase]; exact hbs) (by repeat' first | exact Rest.refl _ _ _ | refine Rest.alloc ?_ _ | (refine Rest.setCell ?_ (by simp) (by omega) _)) HWB.out (Or.inr z1) (Or.inr y1) HZ.out HS.out (by simp [go_sem, *]) (by simp [go_sem, *]) (by simp [go_sem, *]) (by simp [go_sem, *])
        · go_simp
          refine hK _ _ ?_; clear hK K'
          refine wpAny_ready (rs := [8, 12]) (by kernel_rfl) (by simp) ?_
          refine AllReady.cons rfl (fun K' hK => ?_) (AllReady.cons rfl (fun K' hK => ?_) AllReady.nil)
          · go_simp
            refine hK _ _ ?_; clear hK K'
            refine wpAny_ready (rs := [12]) (by kernel_rfl) (by simp) ?_
            refine AllReady.cons rfl (fun K' hK => ?_) AllReady.nil
            go_simp
            refine hK _ _ ?_; clear hK K'
            refine wpAny_ready (rs := [13]) (by kernel_rfl) (by simp) ?_
            refine AllReady.cons rfl (fun K' hK => ?_) AllReady.nil
            go_simp
            refine hK _ _ ?_; clear hK K'
            refine wpAny_done (by kernel_rfl) ?_ _
            exact KEY.out _ _ _ _ _ _ _ _ _ _ _ _ _ _ _ _ _ _ _ _ _ _ _ _ _ _ _ _ _ _ _ _ _ _ _ _ _ _ _ _ _ _ _ _ _ _ _ _ _ _ _ _ _ _ _ _ _ _ _ _ _ _ _ _ _ _ _ _ _ _ bz bs s7 p7 l7 c7 s8 p8 l8 c8 W _ (by rw [hbase]; exact hbz) (by rw [hbase]; exact hbs) (by repeat' first | exact Rest.refl _ _ _ | refine Rest.alloc ?_ _ | (refine Rest.setCell ?_ (by simp) (by omega) _)) HWB.out (Or.inr z1) (Or.inr y1) HZ.out HS.out (by simp [go_sem, *]) (by simp [go_sem, *]) (by simp [go_sem, *]) (by simp [go_sem, *])
          · go_simp
            refine hK _ _ ?_; clear hK K'
            refine wpAny_ready (rs := [8]) (by kernel_rfl) (by simp) ?_
            refine AllReady.cons rfl (fun K' hK => ?_) AllReady.nil
            go_simp
            refine hK _ _ ?_; clear hK K'
            refine wpAny_ready (rs := [13]) (by kernel_rfl) (by simp) ?_
            refine AllReady.cons rfl (fun K' hK => ?_) AllReady.nil
            go_simp
            refine hK _ _ ?_; clear hK K'
            refine wpAny_done (by kernel_rfl) ?_ _
            exact KEY.out _ _ _ _ _ _ _ _ _ _ _ _ _ _ _ _ _ _ _ _ _ _ _ _ _ _ _ _ _ _ _ _ _ _ _ _ _ _ _ _ _ _ _ _ _ _ _ _ _ _ _ _ _ _ _ _ _ _ _ _ _ _ _ _ _ _ _ _ _ _ bz bs s7 p7 l7 c7 s8 p8 l8 c8 W _ (by rw [hbase]; exact hbz) (by rw [hbase]; exact hbs) (by repeat' first | exact Rest.refl _ _ _ | refine Rest.alloc ?_ _ | (refine Rest.setCell ?_ (by simp) (by omega) _)) HWB.out (Or.inr z1) (Or.inr y1) HZ.out HS.out (by simp [go_sem, *]) (by simp [go_sem, *]) (by simp [go_sem, *]) (by simp [go_sem, *])
      · go_simp
        refine hK _ _ ?_; clear hK K'
        refine wpAny_ready (rs := [7, 11]) (by kernel_rfl) (by simp) ?_
        refine AllReady.cons rfl (fun K' hK => ?_) (AllReady.cons rfl (fun K' hK => ?_) AllReady.nil)
        · go_simp
          refine hK _ _ ?_; clear hK K'
          refine wpAny_ready (rs := [11]) (by kernel_rfl) (by simp) ?_
          refine AllReady.cons rfl (fun K' hK => ?_) AllReady.nil
          go_simp
          refine hK _ _ ?_; clear hK K'
          refine wpAny_ready (rs := [12]) (by kernel_rfl) (by simp) ?_
          refine AllReady.cons rfl (fun K' hK => ?_) AllReady.nil
          go_simp
          refine hK _ _ ?_; clear hK K'
          refine wpAny_ready (rs := [13]) (by kernel_rfl) (by simp) ?_
          refine AllReady.cons rfl (fun K' hK => ?_) AllReady.nil
          go_simp
          refine hK _ _ ?_; clear hK K'
          refine wpAny_done (by kernel_rfl) ?_ _
          exact KEY.out _ _ _ _ _ _ _ _ _ _ _ _ _ _ _ _ _ _ _ _ _ _ _ _ _ _ _ _ _ _ _ _ _ _ _ _ _ _ _ _ _ _ _ _ _ _ _ _ _ _ _ _ _ _ _ _ _ _ _ _ _ _ _ _ _ _ _ _ _ _ bz bs s7 p7 l7 c7 s8 p8 l8 c8 W _ (by rw [hbase]; exact hbz) (by rw [hbase]; exact hbs) (by repeat' first | exact Rest.refl _ _ _ | refine Rest.alloc ?_ _ | (refine Rest.setCell ?_ (by simp) (by omega) _)) HWB.out (Or.inr z1) (Or.inr y1) HZ.out HS.out (by simp [go_sem, *]) (by simp [go_sem, *]) (by simp [go_sem, *]) (by simp [go_sem, *])
        · go_simp
          refine hK _ _ ?_; clear hK K'
          refine wpAny_ready (rs := [7]) (by kernel_rfl) (by simp) ?_
          refine AllReady.cons rfl (fun K' hK => ?_) AllReady.nil
          go_simp
          refine hK _ _ ?_; clear hK K'
          refine wpAny_ready (rs := [12]) (by kernel_rfl) (by simp) ?_
          refine AllReady.cons rfl (fun K' hK => ?_) AllReady.nil
          go_simp
          refine hK _ _ ?_; clear hK K'
          refine wpAny_ready (rs := [13]) (by kernel_rfl) (by simp) ?_
          refine AllReady.cons rfl (fun K' hK => ?_) AllReady.nil
          go_simp
          refine hK _ _ ?_; clear hK K'
          refine wpAny_done (by kernel_rfl) ?_ _
          exact KEY.out _ _ _ _ _ _ _ _ _ _ _ _ _ _ _ _ _ _ _ _ _ _ _ _ _ _ _ _ _ _ _ _ _ _ _ _ _ _ _ _ _ _ _ _ _ _ _ _ _ _ _ _ _ _ _ _ _ _ _ _ _ _ _ _ _ _ _ _ _ _ bz bs s7 p7 l7 c7 s8 p8 l8 c8 W _ (by rw [hbase]; exact hbz) (by rw [hbase]; exact hbs) (by repeat' first | exact Rest.refl _ _ _ | refine Rest.alloc ?_ _ | (refine Rest.setCell ?_ (by simp) (by omega) _)) HWB.out (Or.inr z1) (Or.inr y1) HZ.out HS.out (by simp [go_sem, *]) (by simp [go_sem, *]) (by simp [go_sem, *]) (by simp [go_sem, *])
      · go_simp
        refine hK _ _ ?_; clear hK K'
        refine wpAny_ready (rs := [7, 8]) (by kernel_rfl) (by simp) ?_
        refine AllReady.cons rfl (fun K' hK => ?_) (AllReady.cons rfl (fun K' hK => ?_) AllReady.nil)
        · go_simp
          refine hK _ _ ?_; clear hK K'
          refine wpAny_ready (rs := [8, 12]) (by kernel_rfl) (by simp) ?_
          refine AllReady.cons rfl (fun K' hK => ?_) (AllReady.cons rfl (fun K' hK => ?_) AllReady.nil)
          · go_simp
            refine hK _ _ ?_; clear hK K'
            refine wpAny_ready (rs := [12]) (by kernel_rfl) (by simp) ?_
            refine AllReady.cons rfl (fun K' hK => ?_) AllReady.nil
            go_simp
            refine hK _ _ ?_; clear hK K'
            refine wpAny_ready (rs := [13]) (by kernel_rfl) (by simp) ?_
            refine AllReady.cons rfl (fun K' hK => ?_) AllReady.nil
            go_simp
            refine hK _ _ ?_; clear hK K'
            refine wpAny_done (by kernel_rfl) ?_ _
            exact KEY.out _ _ _ _ _ _ _ _ _ _ _ _ _ _ _ _ _ _ _ _ _ _ _ _ _ _ _ _ _ _ _ _ _ _ _ _ _ _ _ _ _ _ _ _ _ _ _ _ _ _ _ _ _ _ _ _ _ _ _ _ _ _ _ _ _ _ _ _ _ _ bz bs s7 p7 l7 c7 s8 p8 l8 c8 W _ (by rw [hbase]; exact hbz) (by rw [hbase]; exact hbs) (by repeat' first | exact Rest.refl _ _ _ | refine Rest.alloc ?_ _ | (refine Rest.setCell ?_ (by simp) (by omega) _)) HWB.out (Or.inr z1) (Or.inr y1) HZ.out HS.out (by simp [go_sem, *]) (by simp [go_sem, *]) (by simp [go_sem, *]) (by simp [go_sem, *])
          · go_simp
            refine hK _ _ ?_; clear hK K'
            refine wpAny_ready (rs := [8]) (by kernel_rfl) (by simp) ?_
            refine AllReady.cons rfl (fun K' hK => ?_) AllReady.nil
            go_simp
            refine hK _ _ ?_; clear hK K'
            refine wpAny_ready (rs := [13]) (by kernel_rfl) (by simp) ?_
            refine AllReady.cons rfl (fun K' hK => ?_) AllReady.nil
            go_simp
            refine hK _ _ ?_; clear hK K'
            refine wpAny_done (by kernel_rfl) ?_ _
            exact KEY.out _ _ _ _ _ _ _ _ _ _ _ _ _ _ _ _ _ _ _ _ _ _ _ _ _ _ _ _ _ _ _ _ _ _ _ _ _ _ _ _ _ _ _ _ _ _ _ _ _ _ _ _ _ _ _ _ _ _ _ _ _ _ _ _ _ _ _ _ _ _ bz bs s7 p7 l7 c7 s8 p8 l8 c8 W _ (by rw [hbase]; exact hbz) (by rw [hbase]; exact hbs) (by repeat' first | exact Rest.refl _ _ _ | refine Rest.alloc ?_ _ | (refine Rest.setCell ?_ (by simp) (by omega) _)) HWB.out (Or.inr z1) (Or.inr y1) HZ.out HS.out (by simp [go_sem, *]) (by simp [go_sem, *]) (by simp [go_sem, *]) (by simp [go_sem, *])
        · go_simp
          refine hK _ _ ?_; clear hK K'
          refine wpAny_ready (rs := [7]) (by kernel_rfl) (by simp) ?_
          refine AllReady.cons rfl (fun K' hK => ?_) AllReady.nil
          go_simp
          refine hK _ _ ?_; clear hK K'
          refine wpAny_ready (rs := [12]) (by kernel_rfl) (by simp) ?_
          refine AllReady.cons rfl (fun K' hK => ?_) AllReady.nil
          go_simp
          refine hK _ _ ?_; clear hK K'
          refine wpAny_ready (rs := [13]) (by kernel_rfl) (by simp) ?_
          refine AllReady.cons rfl (fun K' hK => ?_) AllReady.nil
          go_simp
          refine hK _ _ ?_; clear hK K'
          refine wpAny_done (by kernel_rfl) ?_ _
          exact KEY.out _ _ _ _ _ _ _ _ _ _ _ _ _ _ _ _ _ _ _ _ _ _ _ _ _ _ _ _ _ _ _ _ _ _ _ _ _ _ _ _ _ _ _ _ _ _ _ _ _ _ _ _ _ _ _ _ _ _ _ _ _ _ _ _ _ _ _ _ _ _ bz bs s7 p7 l7 c7 s8 p8 l8 c8 W _ (by rw [hbase]; exact hbz) (by rw [hbase]; exact hbs) (by repeat' first | exact Rest.refl _ _ _ | refine Rest.alloc ?_ _ | (refine Rest.setCell ?_ (by simp) (by omega) _)) HWB.out (Or.inr z1) (Or.inr y1) HZ.out HS.out (by simp [go_sem, *]) (by simp [go_sem, *]) (by simp [go_sem, *]) (by simp [go_sem, *])
    · intro f W hf hne hb
      have e38 : Means W (.three (.num m) (.num 0) (.is (.bool true))) (f 38) := hf (5, 38) (by simp) (by kernel_rfl)
      obtain ⟨x, y, z, e38, hxx, hyy, e46⟩ := e38
      obtain ⟨s7, p7, l7, c7, e44, hz⟩ := hxx
      subst e44
      have hyy : Means W (.num 0) (f 45) := hf (7, 45) (by simp) (by kernel_rfl)
      obtain ⟨s8, p8, l8, c8, e45, hs⟩ := hyy
      have e46 : z = .bool true := e46
      subst e46
      have e12 : Means W (.newbox w4.heap.size) (f 12) := hf (9, 12) (by simp) (by kernel_rfl)
      obtain ⟨bz, e12, hbz, z0, z1, zf0, zf1⟩ := e12
      have lz := World.block_lt_of_cell? _ _ z0
      have e13 : Means W (.newbox w4.heap.size) (f 13) := hf (10, 13) (by simp) (by kernel_rfl)
      obtain ⟨bs, e13, hbs, y0, y1, yf0, yf1⟩ := e13
      have ly := World.block_lt_of_cell? _ _ y0
      have hne2 : bz ≠ bs := by
        intro h
        exact hne (by kernel_rfl) (by kernel_rfl) (by rw [e12, e13, h])
      have hne3 : bs ≠ bz := fun h => hne2 h.symm
      have HZ := Lib.hid hz; have HS := Lib.hid hs; have HWB := Lib.hid hb
      have hWs : base ≤ W.heap.size := by rw [hbase]; exact hb.size
      clear hf hb hz hs hne
      simp only [fillSlots]
      refine wpAny_ready (rs := [6, 8]) (by kernel_rfl) (by simp) ?_
      refine AllReady.cons rfl (fun K' hK => ?_) (AllReady.cons rfl (fun K' hK => ?_) AllReady.nil)
      · go_simp
        refine hK _ _ ?_; clear hK K'
        refine wpAny_ready (rs := [8, 11]) (by kernel_rfl) (by simp) ?_
        refine AllReady.cons rfl (fun K' hK => ?_) (AllReady.cons rfl (fun K' hK => ?_) AllReady.nil)
        · go_simp
          refine hK _ _ ?_; clear hK K'
          refine wpAny_ready (rs := [11]) (by kernel_rfl) (by simp) ?_
          refine AllReady.cons rfl (fun K' hK => ?_) AllReady.nil
          go_simp
          refine hK _ _ ?_; clear hK K'
          refine wpAny_ready (rs := [12]) (by kernel_rfl) (by simp) ?_
          refine AllReady.cons rfl (fun K' hK => ?_) AllReady.nil
          go_simp
          refine hK _ _ ?_; clear hK K'
          refine wpAny_ready (rs := [13]) (by kernel_rfl) (by simp) ?_
          refine AllReady.cons rfl (fun K' hK => ?_) AllReady.nil
          go_simp
          refine hK _ _ ?_; clear hK K'
          refine wpAny_done (by kernel_rfl) ?_ _
          exact KEY.out _ _ _ _ _ _ _ _ _ _ _ _ _ _ _ _ _ _ _ _ _ _ _ _ _ _ _ _ _ _ _ _ _ _ _ _ _ _ _ _ _ _ _ _ _ _ _ _ _ _ _ _ _ _ _ _ _ _ _ _ _ _ _ _ _ _ _ _ _ _ bz bs s7 p7 l7 c7 s8 p8 l8 c8 W _ (by rw [hbase]; exact hbz) (by rw [hbase]; exact hbs) (by repeat' first | exact Rest.refl _ _ _ | refine Rest.alloc ?_ _ | (refine Rest.setCell ?_ (by simp) (by omega) _)) HWB.out (Or.inr z1) (Or.inr y1) HZ.out HS.out (by simp [go_sem, *]) (by simp [go_sem, *]) (by simp [go_sem, *]) (by simp [go_sem, *])
        · go_simp
          refine hK _ _ ?_; clear hK K'
          refine wpAny_ready (rs := [8, 12]) (by kernel_rfl) (by simp) ?_
          refine AllReady.cons rfl (fun K' hK => ?_) (AllReady.cons rfl (fun K' hK => ?_) AllReady.nil)
          · go_simp
            refine hK _ _ ?_; clear hK K'
            refine wpAny_ready (rs := [12]) (by kernel_rfl) (by simp) ?_
            refine AllReady.cons rfl (fun K' hK => ?_) AllReady.nil
            go_simp
            refine hK _ _ ?_; clear hK K'
            refine wpAny_ready (rs := [13]) (by kernel_rfl) (by simp) ?_
            refine AllReady.cons rfl (fun K' hK => ?_) AllReady.nil
            go_simp
            refine hK _ _ ?_; clear hK K'
            refine wpAny_done (by kernel_rfl) ?_ _
            exact KEY.out _ _ _ _ _ _ _ _ _ _ _ _ _ _ _ _ _ _ _ _ _ _ _ _ _ _ _ _ _ _ _ _ _ _ _ _ _ _ _ _ _ _ _ _ _ _ _ _ _ _ _ _ _ _ _ _ _ _ _ _ _ _ _ _ _ _ _ _ _ _ bz bs s7 p7 l7 c7 s8 p8 l8 c8 W _ (by rw [hbase]; exact hbz) (by rw [hbase]; exact hbs) (by repeat' first | exact Rest.refl _ _ _ | refine Rest.alloc ?_ _ | (refine Rest.setCell ?_ (by simp) (by omega) _)) HWB.out (Or.inr z1) (Or.inr y1) HZ.out HS.out (by simp [go_sem, *]) (by simp [go_sem, *]) (by simp [go_sem, *]) (by simp [go_sem, *])
          · go_simp
            refine hK _ _ ?_; clear hK K'
            refine wpAny_ready (rs := [8]) (by kernel_rfl) (by simp) ?_
            refine AllReady.cons rfl (fun K' hK => ?_) AllReady.nil
            go_simp
            refine hK _ _ ?_; clear hK K'
            refine wpAny_ready (rs := [13]) (by kernel_rfl) (by simp) ?_
            refine AllReady.cons rfl (fun K' hK => ?_) AllReady.nil
            go_simp
            refine hK _ _ ?_; clear hK K'
            refine wpAny_done (by kernel_rfl) ?_ _
            exact KEY.out _ _ _ _ _ _ _ _ _ _ _ _ _ _ _ _ _ _ _ _ _ _ _ _ _ _ _ _ _ _ _ _ _ _ _ _ _ _ _ _ _ _ _ _ _ _ _ _ _ _ _ _ _ _ _ _ _ _ _ _ _ _ _ _ _ _ _ _ _ _ bz bs s7 p7 l7 c7 s8 p8 l8 c8 W _ (by rw [hbase]; exact hbz) (by rw [hbase]; exact hbs) (by repeat' first | exact Rest.refl _ _ _ | refine Rest.alloc ?_ _ | (refine Rest.setCell ?_ (by simp) (by omega) _)) HWB.out (Or.inr z1) (Or.inr y1) HZ.out HS.out (by simp [go_sem, *]) (by simp [go_sem, *]) (by simp [go_sem, *]) (by simp [go_sem, *])
      · go_simp
        refine hK _ _ ?_; clear hK K'
        refine wpAny_ready (rs := [6]) (by kernel_rfl) (by simp) ?_
        refine AllReady.cons rfl (fun K' hK => ?_) AllReady.nil
        go_simp
        refine hK _ _ ?_; clear hK K'
        refine wpAny_ready (rs := [11]) (by kernel_rfl) (by simp) ?_
        refine AllReady.cons rfl (fun K' hK => ?_) AllReady.nil
        go_simp
        refine hK _ _ ?_; clear hK K'
        refine wpAny_ready (rs := [12]) (by kernel_rfl) (by simp) ?_
        refine AllReady.cons rfl (fun K' hK => ?_) AllReady.nil
        go_simp
        refine hK _ _ ?_; clear hK K'
        refine wpAny_ready (rs := [13]) (by kernel_rfl) (by simp) ?_
        refine AllReady.cons rfl (fun K' hK => ?_) AllReady.nil
        go_simp
        refine hK _ _ ?_; clear hK K'
        refine wpAny_done (by kernel_rfl) ?_ _
        exact KEY.out _ _ _ _ _ _ _ _ _ _ _ _ _ _ _ _ _ _ _ _ _ _ _ _ _ _ _ _ _ _ _ _ _ _ _ _ _ _ _ _ _ _ _ _ _ _ _ _ _ _ _ _ _ _ _ _ _ _ _ _ _ _ _ _ _ _ _ _ _ _ bz bs s7 p7 l7 c7 s8 p8 l8 c8 W _ (by rw [hbase]; exact hbz) (by rw [hbase]; exact hbs) (by repeat' first | exact Rest.refl _ _ _ | refine Rest.alloc ?_ _ | (refine Rest.setCell ?_ (by simp) (by omega) _)) HWB.out (Or.inr z1) (Or.inr y1) HZ.out HS.out (by simp [go_sem, *]) (by simp [go_sem, *]) (by simp [go_sem, *]) (by simp [go_sem, *])
    · intro f W hf hne hb
      have e38 : Means W (.three (.num m) (.num 0) (.is (.bool true))) (f 38) := hf (5, 38) (by simp) (by kernel_rfl)
      obtain ⟨x, y, z, e38, hxx, hyy, e46⟩ := e38
      obtain ⟨s7, p7, l7, c7, e44, hz⟩ := hxx
      subst e44
      obtain ⟨s8, p8, l8, c8, e45, hs⟩ := hyy
      subst e45
      have e46' : f 46 = .bool true := hf (8, 46) (by simp) (by kernel_rfl)
      have e12 : Means W (.newbox w4.heap.size) (f 12) := hf (9, 12) (by simp) (by kernel_rfl)
      obtain ⟨bz, e12, hbz, z0, z1, zf0, zf1⟩ := e12
      have lz := World.block_lt_of_cell? _ _ z0
      have e13 : Means W (.newbox w4.heap.size) (f 13) := hf (10, 13) (by simp) (by kernel_rfl)
      obtain ⟨bs, e13, hbs, y0, y1, yf0, yf1⟩ := e13
      have ly := World.block_lt_of_cell? _ _ y0
      have hne2 : bz ≠ bs := by
        intro h
        exact hne (by kernel_rfl) (by kernel_rfl) (by rw [e12, e13, h])
      have hne3 : bs ≠ bz := fun h => hne2 h.symm
      have HZ := Lib.hid hz; have HS := Lib.hid hs; have HWB := Lib.hid hb
      have hWs : base ≤ W.heap.size := by rw [hbase]; exact hb.size
      clear hf hb hz hs hne
      simp only [fillSlots]
      refine wpAny_ready (rs := [6, 7]) (by kernel_rfl) (by simp) ?_
      refine AllReady.cons rfl (fun K' hK => ?_) (AllReady.cons rfl (fun K' hK => ?_) AllReady.nil)
      · go_simp
        refine hK _ _ ?_; clear hK K'
        refine wpAny_ready (rs := [7, 11]) (by kernel_rfl) (by simp) ?_
        refine AllReady.cons rfl (fun K' hK => ?_) (AllReady.cons rfl (fun K' hK => ?_) AllReady.nil)
        · go_simp
          refine hK _ _ ?_; clear hK K'
          refine wpAny_ready (rs := [11]) (by kernel_rfl) (by simp) ?_
          refine AllReady.cons rfl (fun K' hK => ?_) AllReady.nil
          go_simp
          refine hK _ _ ?_; clear hK K'
          refine wpAny_ready (rs := [12]) (by kernel_rfl) (by simp) ?_
          refine AllReady.cons rfl (fun K' hK => ?_) AllReady.nil
          go_simp
          refine hK _ _ ?_; clear hK K'
          refine wpAny_ready (rs := [13]) (by kernel_rfl) (by simp) ?_
          refine AllReady.cons rfl (fun K' hK => ?_) AllReady.nil
          go_simp
          refine hK _ _ ?_; clear hK K'
          refine wpAny_done (by kernel_rfl) ?_ _
          exact KEY.out _ _ _ _ _ _ _ _ _ _ _ _ _ _ _ _ _ _ _ _ _ _ _ _ _ _ _ _ _ _ _ _ _ _ _ _ _ _ _ _ _ _ _ _ _ _ _ _ _ _ _ _ _ _ _ _ _ _ _ _ _ _ _ _ _ _ _ _ _ _ bz bs s7 p7 l7 c7 s8 p8 l8 c8 W _ (by rw [hbase]; exact hbz) (by rw [hbase]; exact hbs) (by repeat' first | exact Rest.refl _ _ _ | refine Rest.alloc ?_ _ | (refine Rest.setCell ?_ (by simp) (by omega) _)) HWB.out (Or.inr z1) (Or.inr y1) HZ.out HS.out (by simp [go_sem, *]) (by simp [go_sem, *]) (by simp [go_sem, *]) (by simp [go_sem, *])
        · go_simp
          refine hK _ _ ?_; clear hK K'
          refine wpAny_ready (rs := [7]) (by kernel_rfl) (by simp) ?_
          refine AllReady.cons rfl (fun K' hK => ?_) AllReady.nil
          go_simp
          refine hK _ _ ?_; clear hK K'
          refine wpAny_ready (rs := [12]) (by kernel_rfl) (by simp) ?_
          refine AllReady.cons rfl (fun K' hK => ?_) AllReady.nil
          go_simp
          refine hK _ _ ?_; clear hK K'
          refine wpAny_ready (rs := [13]) (by kernel_rfl) (by simp) ?_
          refine AllReady.cons rfl (fun K' hK => ?_) AllReady.nil
          go_simp
          refine hK _ _ ?_; clear hK K'
          refine wpAny_done (by kernel_rfl) ?_ _
          exact KEY.out _ _ _ _ _ _ _ _ _ _ _ _ _ _ _ _ _ _ _ _ _ _ _ _ _ _ _ _ _ _ _ _ _ _ _ _ _ _ _ _ _ _ _ _ _ _ _ _ _ _ _ _ _ _ _ _ _ _ _ _ _ _ _ _ _ _ _ _ _ _ bz bs s7 p7 l7 c7 s8 p8 l8 c8 W _ (by rw [hbase]; exact hbz) (by rw [hbase]; exact hbs) (by repeat' first | exact Rest.refl _ _ _ | refine Rest.alloc ?_ _ | (refine Rest.setCell ?_ (by simp) (by omega) _)) HWB.out (Or.inr z1) (Or.inr y1) HZ.out HS.out (by simp [go_sem, *]) (by simp [go_sem, *]) (by simp [go_sem, *]) (by simp [go_sem, *])
      · go_simp
        refine hK _ _ ?_; clear hK K'
        refine wpAny_ready (rs := [6]) (by kernel_rfl) (by simp) ?_
        refine AllReady.cons rfl (fun K' hK => ?_) AllReady.nil
        go_simp
        refine hK _ _ ?_; clear hK K'
        refine wpAny_ready (rs := [11]) (by kernel_rfl) (by simp) ?_
        refine AllReady.cons rfl (fun K' hK => ?_) AllReady.nil
        go_simp
        refine hK _ _ ?_; clear hK K'
        refine wpAny_ready (rs := [12]) (by kernel_rfl) (by simp) ?_
        refine AllReady.cons rfl (fun K' hK => ?_) AllReady.nil
        go_simp
        refine hK _ _ ?_; clear hK K'
        refine wpAny_ready (rs := [13]) (by kernel_rfl) (by simp) ?_
        refine AllReady.cons rfl (fun K' hK => ?_) AllReady.nil
        go_simp
        refine hK _ _ ?_; clear hK K'
        refine wpAny_done (by kernel_rfl) ?_ _
        exact KEY.out _ _ _ _ _ _ _ _ _ _ _ _ _ _ _ _ _ _ _ _ _ _ _ _ _ _ _ _ _ _ _ _ _ _ _ _ _ _ _ _ _ _ _ _ _ _ _ _ _ _ _ _ _ _ _ _ _ _ _ _ _ _ _ _ _ _ _ _ _ _ bz bs s7 p7 l7 c7 s8 p8 l8 c8 W _ (by rw [hbase]; exact hbz) (by rw [hbase]; exact hbs) (by repeat' first | exact Rest.refl _ _ _ | refine Rest.alloc ?_ _ | (refine Rest.setCell ?_ (by simp) (by omega) _)) HWB.out (Or.inr z1) (Or.inr y1) HZ.out HS.out (by simp [go_sem, *]) (by simp [go_sem, *]) (by simp [go_sem, *]) (by simp [go_sem, *])
    · intro f W hf hne hb
      have e38 : Means W (.three (.num m) (.num 0) (.is (.bool true))) (f 38) := hf (5, 38) (by simp) (by kernel_rfl)
      obtain ⟨x, y, z, e38, hxx, hyy, e46⟩ := e38
      have hxx : Means W (.num m) (f 44) := hf (6, 44) (by simp) (by kernel_rfl)
      obtain ⟨s7, p7, l7, c7, e44, hz⟩ := hxx
      obtain ⟨s8, p8, l8, c8, e45, hs⟩ := hyy
      subst e45
      have e46' : f 46 = .bool true := hf (8, 46) (by simp) (by kernel_rfl)
      have e13 : Means W (.newbox w4.heap.size) (f 13) := hf (10, 13) (by simp) (by kernel_rfl)
      obtain ⟨bs, e13, hbs, y0, y1, yf0, yf1⟩ := e13
      have ly := World.block_lt_of_cell? _ _ y0
      have hy1 : bs ≠ W.heap.size := Nat.ne_of_lt ly
      have hy2 : W.heap.size ≠ bs := fun h => hy1 h.symm
      have HZ := Lib.hid hz; have HS := Lib.hid hs; have HWB := Lib.hid hb
      have hWs : base ≤ W.heap.size := by rw [hbase]; exact hb.size
      clear hf hb hz hs hne
      simp only [fillSlots]
      refine wpAny_ready (rs := [7, 9]) (by kernel_rfl) (by simp) ?_
      refine AllReady.cons rfl (fun K' hK => ?_) (AllReady.cons rfl (fun K' hK => ?_) AllReady.nil)
      · go_simp
        refine hK _ _ ?_; clear hK K'
        refine wpAny_ready (rs := [9]) (by kernel_rfl) (by simp) ?_
        refine AllReady.cons rfl (fun K' hK => ?_) AllReady.nil
        go_simp
        refine hK _ _ ?_; clear hK K'
        refine wpAny_ready (rs := [11]) (by kernel_rfl) (by simp) ?_
        refine AllReady.cons rfl (fun K' hK => ?_) AllReady.nil
        go_simp
        refine hK _ _ ?_; clear hK K'
        refine wpAny_ready (rs := [12]) (by kernel_rfl) (by simp) ?_
        refine AllReady.cons rfl (fun K' hK => ?_) AllReady.nil
        go_simp
        refine hK _ _ ?_; clear hK K'
        refine wpAny_ready (rs := [13]) (by kernel_rfl) (by simp) ?_
        refine AllReady.cons rfl (fun K' hK => ?_) AllReady.nil
        go_simp
        refine hK _ _ ?_; clear hK K'
        refine wpAny_done (by kernel_rfl) ?_ _
        exact KEY.out _ _ _ _ _ _ _ _ _ _ _ _ _ _ _ _ _ _ _ _ _ _ _ _ _ _ _ _ _ _ _ _ _ _ _ _ _ _ _ _ _ _ _ _ _ _ _ _ _ _ _ _ _ _ _ _ _ _ _ _ _ _ _ _ _ _ _ _ _ _ W.heap.size bs s7 p7 l7 c7 s8 p8 l8 c8 W _ (by omega) (by rw [hbase]; exact hbs) (by repeat' first | exact Rest.refl _ _ _ | refine Rest.alloc ?_ _ | (refine Rest.setCell ?_ (by simp) (by omega) _)) HWB.out (Or.inl (by omega)) (Or.inr y1) HZ.out HS.out (by simp [go_sem, *]) (by simp [go_sem, *]) (by simp [go_sem, *]) (by simp [go_sem, *])
      · go_simp
        refine hK _ _ ?_; clear hK K'
        refine wpAny_ready (rs := [7, 11]) (by kernel_rfl) (by simp) ?_
        refine AllReady.cons rfl (fun K' hK => ?_) (AllReady.cons rfl (fun K' hK => ?_) AllReady.nil)
        · go_simp
          refine hK _ _ ?_; clear hK K'
          refine wpAny_ready (rs := [11]) (by kernel_rfl) (by simp) ?_
          refine AllReady.cons rfl (fun K' hK => ?_) AllReady.nil
          go_simp
          refine hK _ _ ?_; clear hK K'
          refine wpAny_ready (rs := [12]) (by kernel_rfl) (by simp) ?_
          refine AllReady.cons rfl (fun K' hK => ?_) AllReady.nil
          go_simp
          refine hK _ _ ?_; clear hK K'
          refine wpAny_ready (rs := [13]) (by kernel_rfl) (by simp) ?_
          refine AllReady.cons rfl (fun K' hK => ?_) AllReady.nil
          go_simp
          refine hK _ _ ?_; clear hK K'
          refine wpAny_done (by kernel_rfl) ?_ _
          exact KEY.out _ _ _ _ _ _ _ _ _ _ _ _ _ _ _ _ _ _ _ _ _ _ _ _ _ _ _ _ _ _ _ _ _ _ _ _ _ _ _ _ _ _ _ _ _ _ _ _ _ _ _ _ _ _ _ _ _ _ _ _ _ _ _ _ _ _ _ _ _ _ W.heap.size bs s7 p7 l7 c7 s8 p8 l8 c8 W _ (by omega) (by rw [hbase]; exact hbs) (by repeat' first | exact Rest.refl _ _ _ | refine Rest.alloc ?_ _ | (refine Rest.setCell ?_ (by simp) (by omega) _)) HWB.out (Or.inl (by omega)) (Or.inr y1) HZ.out HS.out (by simp [go_sem, *]) (by simp [go_sem, *]) (by simp [go_sem, *]) (by simp [go_sem, *])
        · go_simp
          refine hK _ _ ?_; clear hK K'
          refine wpAny_ready (rs := [7]) (by kernel_rfl) (by simp) ?_
          refine AllReady.cons rfl (fun K' hK => ?_) AllReady.nil
          go_simp
          refine hK _ _ ?_; clear hK K'
          refine wpAny_ready (rs := [12]) (by kernel_rfl) (by simp) ?_
          refine AllReady.cons rfl (fun K' hK => ?_) AllReady.nil
          go_simp
          refine hK _ _ ?_; clear hK K'
          refine wpAny_ready (rs := [13]) (by kernel_rfl) (by simp) ?_
          refine AllReady.cons rfl (fun K' hK => ?_) AllReady.nil
          go_simp
          refine hK _ _ ?_; clear hK K'
          refine wpAny_done (by kernel_rfl) ?_ _
          exact KEY.out _ _ _ _ _ _ _ _ _ _ _ _ _ _ _ _ _ _ _ _ _ _ _ _ _ _ _ _ _ _ _ _ _ _ _ _ _ _ _ _ _ _ _ _ _ _ _ _ _ _ _ _ _ _ _ _ _ _ _ _ _ _ _ _ _ _ _ _ _ _ W.heap.size bs s7 p7 l7 c7 s8 p8 l8 c8 W _ (by omega) (by rw [hbase]; exact hbs) (by repeat' first | exact Rest.refl _ _ _ | refine Rest.alloc ?_ _ | (refine Rest.setCell ?_ (by simp) (by omega) _)) HWB.out (Or.inl (by omega)) (Or.inr y1) HZ.out HS.out (by simp [go_sem, *]) (by simp [go_sem, *]) (by simp [go_sem, *]) (by simp [go_sem, *])
    · intro f W hf hne hb
      have e38 : Means W (.three (.num m) (.num 0) (.is (.bool true))) (f 38) := hf (5, 38) (by simp) (by kernel_rfl)
      obtain ⟨x, y, z, e38, hxx, hyy, e46⟩ := e38
      have hxx : Means W (.num m) (f 44) := hf (6, 44) (by simp) (by kernel_rfl)
      obtain ⟨s7, p7, l7, c7, e44, hz⟩ := hxx
      obtain ⟨s8, p8, l8, c8, e45, hs⟩ := hyy
      subst e45
      have e46' : f 46 = .bool true := hf (8, 46) (by simp) (by kernel_rfl)
      have e12 : Means W (.newbox w4.heap.size) (f 12) := hf (9, 12) (by simp) (by kernel_rfl)
      obtain ⟨bz, e12, hbz, z0, z1, zf0, zf1⟩ := e12
      have lz := World.block_lt_of_cell? _ _ z0
      have hz1 : bz ≠ W.heap.size := Nat.ne_of_lt lz
      have hz2 : W.heap.size ≠ bz := fun h => hz1 h.symm
      have HZ := Lib.hid hz; have HS := Lib.hid hs; have HWB := Lib.hid hb
      have hWs : base ≤ W.heap.size := by rw [hbase]; exact hb.size
      clear hf hb hz hs hne
      simp only [fillSlots]
      refine wpAny_ready (rs := [7, 10]) (by kernel_rfl) (by simp) ?_
      refine AllReady.cons rfl (fun K' hK => ?_) (AllReady.cons rfl (fun K' hK => ?_) AllReady.nil)
      · go_simp
        refine hK _ _ ?_; clear hK K'
        refine wpAny_ready (rs := [10]) (by kernel_rfl) (by simp) ?_
        refine AllReady.cons rfl (fun K' hK => ?_) AllReady.nil
        go_simp
        refine hK _ _ ?_; clear hK K'
        refine wpAny_ready (rs := [11]) (by kernel_rfl) (by simp) ?_
        refine AllReady.cons rfl (fun K' hK => ?_) AllReady.nil
        go_simp
        refine hK _ _ ?_; clear hK K'
        refine wpAny_ready (rs := [12]) (by kernel_rfl) (by simp) ?_
        refine AllReady.cons rfl (fun K' hK => ?_) AllReady.nil
        go_simp
        refine hK _ _ ?_; clear hK K'
        refine wpAny_ready (rs := [13]) (by kernel_rfl) (by simp) ?_
        refine AllReady.cons rfl (fun K' hK => ?_) AllReady.nil
        go_simp
        refine hK _ _ ?_; clear hK K'
        refine wpAny_done (by kernel_rfl) ?_ _
        exact KEY.out _ _ _ _ _ _ _ _ _ _ _ _ _ _ _ _ _ _ _ _ _ _ _ _ _ _ _ _ _ _ _ _ _ _ _ _ _ _ _ _ _ _ _ _ _ _ _ _ _ _ _ _ _ _ _ _ _ _ _ _ _ _ _ _ _ _ _ _ _ _ bz W.heap.size s7 p7 l7 c7 s8 p8 l8 c8 W _ (by rw [hbase]; exact hbz) (by omega) (by repeat' first | exact Rest.refl _ _ _ | refine Rest.alloc ?_ _ | (refine Rest.setCell ?_ (by simp) (by omega) _)) HWB.out (Or.inr z1) (Or.inl (by omega)) HZ.out HS.out (by simp [go_sem, *]) (by simp [go_sem, *]) (by simp [go_sem, *]) (by simp [go_sem, *])
      · go_simp
        refine hK _ _ ?_; clear hK K'
        refine wpAny_ready (rs := [7, 11]) (by kernel_rfl) (by simp) ?_
        refine AllReady.cons rfl (fun K' hK => ?_) (AllReady.cons rfl (fun K' hK => ?_) AllReady.nil)
        · go_simp
          refine hK _ _ ?_; clear hK K'
          refine wpAny_ready (rs := [11]) (by kernel_rfl) (by simp) ?_
          refine AllReady.cons rfl (fun K' hK => ?_) AllReady.nil
          go_simp
          refine hK _ _ ?_; clear hK K'
          refine wpAny_ready (rs := [12]) (by kernel_rfl) (by simp) ?_
          refine AllReady.cons rfl (fun K' hK => ?_) AllReady.nil
          go_simp
          refine hK _ _ ?_; clear hK K'
          refine wpAny_ready (rs := [13]) (by kernel_rfl) (by simp) ?_
          refine AllReady.cons rfl (fun K' hK => ?_) AllReady.nil
          go_simp
          refine hK _ _ ?_; clear hK K'
          refine wpAny_done (by kernel_rfl) ?_ _
          exact KEY.out _ _ _ _ _ _ _ _ _ _ _ _ _ _ _ _ _ _ _ _ _ _ _ _ _ _ _ _ _ _ _ _ _ _ _ _ _ _ _ _ _ _ _ _ _ _ _ _ _ _ _ _ _ _ _ _ _ _ _ _ _ _ _ _ _ _ _ _ _ _ bz W.heap.size s7 p7 l7 c7 s8 p8 l8 c8 W _ (by rw [hbase]; exact hbz) (by omega) (by repeat' first | exact Rest.refl _ _ _ | refine Rest.alloc ?_ _ | (refine Rest.setCell ?_ (by simp) (by omega) _)) HWB.out (Or.inr z1) (Or.inl (by omega)) HZ.out HS.out (by simp [go_sem, *]) (by simp [go_sem, *]) (by simp [go_sem, *]) (by simp [go_sem, *])
        · go_simp
          refine hK _ _ ?_; clear hK K'
          refine wpAny_ready (rs := [7]) (by kernel_rfl) (by simp) ?_
          refine AllReady.cons rfl (fun K' hK => ?_) AllReady.nil
          go_simp
          refine hK _ _ ?_; clear hK K'
          refine wpAny_ready (rs := [12]) (by kernel_rfl) (by simp) ?_
          refine AllReady.cons rfl (fun K' hK => ?_) AllReady.nil
          go_simp
          refine hK _ _ ?_; clear hK K'
          refine wpAny_ready (rs := [13]) (by kernel_rfl) (by simp) ?_
          refine AllReady.cons rfl (fun K' hK => ?_) AllReady.nil
          go_simp
          refine hK _ _ ?_; clear hK K'
          refine wpAny_done (by kernel_rfl) ?_ _
          exact KEY.out _ _ _ _ _ _ _ _ _ _ _ _ _ _ _ _ _ _ _ _ _ _ _ _ _ _ _ _ _ _ _ _ _ _ _ _ _ _ _ _ _ _ _ _ _ _ _ _ _ _ _ _ _ _ _ _ _ _ _ _ _ _ _ _ _ _ _ _ _ _ bz W.heap.size s7 p7 l7 c7 s8 p8 l8 c8 W _ (by rw [hbase]; exact hbz) (by omega) (by repeat' first | exact Rest.refl _ _ _ | refine Rest.alloc ?_ _ | (refine Rest.setCell ?_ (by simp) (by omega) _)) HWB.out (Or.inr z1) (Or.inl (by omega)) HZ.out HS.out (by simp [go_sem, *]) (by simp [go_sem, *]) (by simp [go_sem, *]) (by simp [go_sem, *])
    · intro f W hf hne hb
      have e38 : Means W (.three (.num m) (.num 0) (.is (.bool true))) (f 38) := hf (5, 38) (by simp) (by kernel_rfl)
      obtain ⟨x, y, z, e38, hxx, hyy, e46⟩ := e38
      obtain ⟨s7, p7, l7, c7, e44, hz⟩ := hxx
      subst e44
      have hyy : Means W (.num 0) (f 45) := hf (7, 45) (by simp) (by kernel_rfl)
      obtain ⟨s8, p8, l8, c8, e45, hs⟩ := hyy
      have e46' : f 46 = .bool true := hf (8, 46) (by simp) (by kernel_rfl)
      have e13 : Means W (.newbox w4.heap.size) (f 13) := hf (10, 13) (by simp) (by kernel_rfl)
      obtain ⟨bs, e13, hbs, y0, y1, yf0, yf1⟩ := e13
      have ly := World.block_lt_of_cell? _ _ y0
      have hy1 : bs ≠ W.heap.size := Nat.ne_of_lt ly
      have hy2 : W.heap.size ≠ bs := fun h => hy1 h.symm
      have HZ := Lib.hid hz; have HS := Lib.hid hs; have HWB := Lib.hid hb
      have hWs : base ≤ W.heap.size := by rw [hbase]; exact hb.size
      clear hf hb hz hs hne
      simp only [fillSlots]
      refine wpAny_ready (rs := [6, 9]) (by kernel_rfl) (by simp) ?_
      refine AllReady.cons rfl (fun K' hK => ?_) (AllReady.cons rfl (fun K' hK => ?_) AllReady.nil)
      · go_simp
        refine hK _ _ ?_; clear hK K'
        refine wpAny_ready (rs := [9]) (by kernel_rfl) (by simp) ?_
        refine AllReady.cons rfl (fun K' hK => ?_) AllReady.nil
        go_simp
        refine hK _ _ ?_; clear hK K'
        refine wpAny_ready (rs := [11]) (by kernel_rfl) (by simp) ?_
        refine AllReady.cons rfl (fun K' hK => ?_) AllReady.nil
        go_simp
        refine hK _ _ ?_; clear hK K'
        refine wpAny_ready (rs := [12]) (by kernel_rfl) (by simp) ?_
        refine AllReady.cons rfl (fun K' hK => ?_) AllReady.nil
        go_simp
        refine hK _ _ ?_; clear hK K'
        refine wpAny_ready (rs := [13]) (by kernel_rfl) (by simp) ?_
        refine AllReady.cons rfl (fun K' hK => ?_) AllReady.nil
        go_simp
        refine hK _ _ ?_; clear hK K'
        refine wpAny_done (by kernel_rfl) ?_ _
        exact KEY.out _ _ _ _ _ _ _ _ _ _ _ _ _ _ _ _ _ _ _ _ _ _ _ _ _ _ _ _ _ _ _ _ _ _ _ _ _ _ _ _ _ _ _ _ _ _ _ _ _ _ _ _ _ _ _ _ _ _ _ _ _ _ _ _ _ _ _ _ _ _ W.heap.size bs s7 p7 l7 c7 s8 p8 l8 c8 W _ (by omega) (by rw [hbase]; exact hbs) (by repeat' first | exact Rest.refl _ _ _ | refine Rest.alloc ?_ _ | (refine Rest.setCell ?_ (by simp) (by omega) _)) HWB.out (Or.inl (by omega)) (Or.inr y1) HZ.out HS.out (by simp [go_sem, *]) (by simp [go_sem, *]) (by simp [go_sem, *]) (by simp [go_sem, *])
      · go_simp
        refine hK _ _ ?_; clear hK K'
        refine wpAny_ready (rs := [6]) (by kernel_rfl) (by simp) ?_
        refine AllReady.cons rfl (fun K' hK => ?_) AllReady.nil
        go_simp
        refine hK _ _ ?_; clear hK K'
        refine wpAny_ready (rs := [11]) (by kernel_rfl) (by simp) ?_
        refine AllReady.cons rfl (fun K' hK => ?_) AllReady.nil
        go_simp
        refine hK _ _ ?_; clear hK K'
        refine wpAny_ready (rs := [12]) (by kernel_rfl) (by simp) ?_
        refine AllReady.cons rfl (fun K' hK => ?_) AllReady.nil
        go_simp
        refine hK _ _ ?_; clear hK K'
        refine wpAny_ready (rs := [13]) (by kernel_rfl) (by simp) ?_
        refine AllReady.cons rfl (fun K' hK => ?_) AllReady.nil
        go_simp
        refine hK _ _ ?_; clear hK K'
        refine wpAny_done (by kernel_rfl) ?_ _
        exact KEY.out _ _ _ _ _ _ _ _ _ _ _ _ _ _ _ _ _ _ _ _ _ _ _ _ _ _ _ _ _ _ _ _ _ _ _ _ _ _ _ _ _ _ _ _ _ _ _ _ _ _ _ _ _ _ _ _ _ _ _ _ _ _ _ _ _ _ _ _ _ _ W.heap.size bs s7 p7 l7 c7 s8 p8 l8 c8 W _ (by omega) (by rw [hbase]; exact hbs) (by repeat' first | exact Rest.refl _ _ _ | refine Rest.alloc ?_ _ | (refine Rest.setCell ?_ (by simp) (by omega) _)) HWB.out (Or.inl (by omega)) (Or.inr y1) HZ.out HS.out (by simp [go_sem, *]) (by simp [go_sem, *]) (by simp [go_sem, *]) (by simp [go_sem, *])
    · intro f W hf hne hb
      have e38 : Means W (.three (.num m) (.num 0) (.is (.bool true))) (f 38) := hf (5, 38) (by simp) (by kernel_rfl)
      obtain ⟨x, y, z, e38, hxx, hyy, e46⟩ := e38
      obtain ⟨s7, p7, l7, c7, e44, hz⟩ := hxx
      subst e44
      have hyy : Means W (.num 0) (f 45) := hf (7, 45) (by simp) (by kernel_rfl)
      obtain ⟨s8, p8, l8, c8, e45, hs⟩ := hyy
      have e46' : f 46 = .bool true := hf (8, 46) (by simp) (by kernel_rfl)
      have e12 : Means W (.newbox w4.heap.size) (f 12) := hf (9, 12) (by simp) (by kernel_rfl)
      obtain ⟨bz, e12, hbz, z0, z1, zf0, zf1⟩ := e12
      have lz := World.block_lt_of_cell? _ _ z0
      have hz1 : bz ≠ W.heap.size := Nat.ne_of_lt lz
      have hz2 : W.heap.size ≠ bz := fun h => hz1 h.symm
      have HZ := Lib.hid hz; have HS := Lib.hid hs; have HWB := Lib.hid hb
      have hWs : base ≤ W.heap.size := by rw [hbase]; exact hb.size
      clear hf hb hz hs hne
      simp only [fillSlots]
      refine wpAny_ready (rs := [6, 10]) (by kernel_rfl) (by simp) ?_
      refine AllReady.cons rfl (fun K' hK => ?_) (AllReady.cons rfl (fun K' hK => ?_) AllReady.nil)
      · go_simp
        refine hK _ _ ?_; clear hK K'
        refine wpAny_ready (rs := [10]) (by kernel_rfl) (by simp) ?_
        refine AllReady.cons rfl (fun K' hK => ?_) AllReady.nil
        go_simp
        refine hK _ _ ?_; clear hK K'
        refine wpAny_ready (rs := [11]) (by kernel_rfl) (by simp) ?_
        refine AllReady.cons rfl (fun K' hK => ?_) AllReady.nil
        go_simp
        refine hK _ _ ?_; clear hK K'
        refine wpAny_ready (rs := [12]) (by kernel_rfl) (by simp) ?_
        refine AllReady.cons rfl (fun K' hK => ?_) AllReady.nil
        go_simp
        refine hK _ _ ?_; clear hK K'
        refine wpAny_ready (rs := [13]) (by kernel_rfl) (by simp) ?_
        refine AllReady.cons rfl (fun K' hK => ?_) AllReady.nil
        go_simp
        refine hK _ _ ?_; clear hK K'
        refine wpAny_done (by kernel_rfl) ?_ _
        exact KEY.out _ _ _ _ _ _ _ _ _ _ _ _ _ _ _ _ _ _ _ _ _ _ _ _ _ _ _ _ _ _ _ _ _ _ _ _ _ _ _ _ _ _ _ _ _ _ _ _ _ _ _ _ _ _ _ _ _ _ _ _ _ _ _ _ _ _ _ _ _ _ bz W.heap.size s7 p7 l7 c7 s8 p8 l8 c8 W _ (by rw [hbase]; exact hbz) (by omega) (by repeat' first | exact Rest.refl _ _ _ | refine Rest.alloc ?_ _ | (refine Rest.setCell ?_ (by simp) (by omega) _)) HWB.out (Or.inr z1) (Or.inl (by omega)) HZ.out HS.out (by simp [go_sem, *]) (by simp [go_sem, *]) (by simp [go_sem, *]) (by simp [go_sem, *])
      · go_simp
        refine hK _ _ ?_; clear hK K'
        refine wpAny_ready (rs := [6]) (by kernel_rfl) (by simp) ?_
        refine AllReady.cons rfl (fun K' hK => ?_) AllReady.nil
        go_simp
        refine hK _ _ ?_; clear hK K'
        refine wpAny_ready (rs := [11]) (by kernel_rfl) (by simp) ?_
        refine AllReady.cons rfl (fun K' hK => ?_) AllReady.nil
        go_simp
        refine hK _ _ ?_; clear hK K'
        refine wpAny_ready (rs := [12]) (by kernel_rfl) (by simp) ?_
        refine AllReady.cons rfl (fun K' hK => ?_) AllReady.nil
        go_simp
        refine hK _ _ ?_; clear hK K'
        refine wpAny_ready (rs := [13]) (by kernel_rfl) (by simp) ?_
        refine AllReady.cons rfl (fun K' hK => ?_) AllReady.nil
        go_simp
        refine hK _ _ ?_; clear hK K'
        refine wpAny_done (by kernel_rfl) ?_ _
        exact KEY.out _ _ _ _ _ _ _ _ _ _ _ _ _ _ _ _ _ _ _ _ _ _ _ _ _ _ _ _ _ _ _ _ _ _ _ _ _ _ _ _ _ _ _ _ _ _ _ _ _ _ _ _ _ _ _ _ _ _ _ _ _ _ _ _ _ _ _ _ _ _ bz W.heap.size s7 p7 l7 c7 s8 p8 l8 c8 W _ (by rw [hbase]; exact hbz) (by omega) (by repeat' first | exact Rest.refl _ _ _ | refine Rest.alloc ?_ _ | (refine Rest.setCell ?_ (by simp) (by omega) _)) HWB.out (Or.inr z1) (Or.inl (by omega)) HZ.out HS.out (by simp [go_sem, *]) (by simp [go_sem, *]) (by simp [go_sem, *]) (by simp [go_sem, *])
    · intro f W hf hne hb
      have e38 : Means W (.three (.num m) (.num 0) (.is (.bool true))) (f 38) := hf (5, 38) (by simp) (by kernel_rfl)
      obtain ⟨x, y, z, e38, hxx, hyy, e46⟩ := e38
      have hxx : Means W (.num m) (f 44) := hf (6, 44) (by simp) (by kernel_rfl)
      obtain ⟨s7, p7, l7, c7, e44, hz⟩ := hxx
      have hyy : Means W (.num 0) (f 45) := hf (7, 45) (by simp) (by kernel_rfl)
      obtain ⟨s8, p8, l8, c8, e45, hs⟩ := hyy
      have e46 : z = .bool true := e46
      subst e46
      have e13 : Means W (.newbox w4.heap.size) (f 13) := hf (10, 13) (by simp) (by kernel_rfl)
      obtain ⟨bs, e13, hbs, y0, y1, yf0, yf1⟩ := e13
      have ly := World.block_lt_of_cell? _ _ y0
      have hy1 : bs ≠ W.heap.size := Nat.ne_of_lt ly
      have hy2 : W.heap.size ≠ bs := fun h => hy1 h.symm
      have HZ := Lib.hid hz; have HS := Lib.hid hs; have HWB := Lib.hid hb
      have hWs : base ≤ W.heap.size := by rw [hbase]; exact hb.size
      clear hf hb hz hs hne
      simp only [fillSlots]
      refine wpAny_ready (rs := [8, 9]) (by kernel_rfl) (by simp) ?_
      refine AllReady.cons rfl (fun K' hK => ?_) (AllReady.cons rfl (fun K' hK => ?_) AllReady.nil)
      · go_simp
        refine hK _ _ ?_; clear hK K'
        refine wpAny_ready (rs := [9]) (by kernel_rfl) (by simp) ?_
        refine AllReady.cons rfl (fun K' hK => ?_) AllReady.nil
        go_simp
        refine hK _ _ ?_; clear hK K'
        refine wpAny_ready (rs := [11]) (by kernel_rfl) (by simp) ?_
        refine AllReady.cons rfl (fun K' hK => ?_) AllReady.nil
        go_simp
        refine hK _ _ ?_; clear hK K'
        refine wpAny_ready (rs := [12]) (by kernel_rfl) (by simp) ?_
        refine AllReady.cons rfl (fun K' hK => ?_) AllReady.nil
        go_simp
        refine hK _ _ ?_; clear hK K'
        refine wpAny_ready (rs := [13]) (by kernel_rfl) (by simp) ?_
        refine AllReady.cons rfl (fun K' hK => ?_) AllReady.nil
        go_simp
        refine hK _ _ ?_; clear hK K'
        refine wpAny_done (by kernel_rfl) ?_ _
        exact KEY.out _ _ _ _ _ _ _ _ _ _ _ _ _ _ _ _ _ _ _ _ _ _ _ _ _ _ _ _ _ _ _ _ _ _ _ _ _ _ _ _ _ _ _ _ _ _ _ _ _ _ _ _ _ _ _ _ _ _ _ _ _ _ _ _ _ _ _ _ _ _ W.heap.size bs s7 p7 l7 c7 s8 p8 l8 c8 W _ (by omega) (by rw [hbase]; exact hbs) (by repeat' first | exact Rest.refl _ _ _ | refine Rest.alloc ?_ _ | (refine Rest.setCell ?_ (by simp) (by omega) _)) HWB.out (Or.inl (by omega)) (Or.inr y1) HZ.out HS.out (by simp [go_sem, *]) (by simp [go_sem, *]) (by simp [go_sem, *]) (by simp [go_sem, *])
      · go_simp
        refine hK _ _ ?_; clear hK K'
        refine wpAny_ready (rs := [8, 11]) (by kernel_rfl) (by simp) ?_
        refine AllReady.cons rfl (fun K' hK => ?_) (AllReady.cons rfl (fun K' hK => ?_) AllReady.nil)
        · go_simp
          refine hK _ _ ?_; clear hK K'
          refine wpAny_ready (rs := [11]) (by kernel_rfl) (by simp) ?_
          refine AllReady.cons rfl (fun K' hK => ?_) AllReady.nil
          go_simp
          refine hK _ _ ?_; clear hK K'
          refine wpAny_ready (rs := [12]) (by kernel_rfl) (by simp) ?_
          refine AllReady.cons rfl (fun K' hK => ?_) AllReady.nil
          go_simp
          refine hK _ _ ?_; clear hK K'
          refine wpAny_ready (rs := [13]) (by kernel_rfl) (by simp) ?_
          refine AllReady.cons rfl (fun K' hK => ?_) AllReady.nil
          go_simp
          refine hK _ _ ?_; clear hK K'
          refine wpAny_done (by kernel_rfl) ?_ _
          exact KEY.out _ _ _ _ _ _ _ _ _ _ _ _ _ _ _ _ _ _ _ _ _ _ _ _ _ _ _ _ _ _ _ _ _ _ _ _ _ _ _ _ _ _ _ _ _ _ _ _ _ _ _ _ _ _ _ _ _ _ _ _ _ _ _ _ _ _ _ _ _ _ W.heap.size bs s7 p7 l7 c7 s8 p8 l8 c8 W _ (by omega) (by rw [hbase]; exact hbs) (by repeat' first | exact Rest.refl _ _ _ | refine Rest.alloc ?_ _ | (refine Rest.setCell ?_ (by simp) (by omega) _)) HWB.out (Or.inl (by omega)) (Or.inr y1) HZ.out HS.out (by simp [go_sem, *]) (by simp [go_sem, *]) (by simp [go_sem, *]) (by simp [go_sem, *])
        · go_simp
          refine hK _ _ ?_; clear hK K'
          refine wpAny_ready (rs := [8, 12]) (by kernel_rfl) (by simp) ?_
          refine AllReady.cons rfl (fun K' hK => ?_) (AllReady.cons rfl (fun K' hK => ?_) AllReady.nil)
          · go_simp
            refine hK _ _ ?_; clear hK K'
            refine wpAny_ready (rs := [12]) (by kernel_rfl) (by simp) ?_
            refine AllReady.cons rfl (fun K' hK => ?_) AllReady.nil
            go_simp
            refine hK _ _ ?_; clear hK K'
            refine wpAny_ready (rs := [13]) (by kernel_rfl) (by simp) ?_
            refine AllReady.cons rfl (fun K' hK => ?_) AllReady.nil
            go_simp
            refine hK _ _ ?_; clear hK K'
            refine wpAny_done (by kernel_rfl) ?_ _
            exact KEY.out _ _ _ _ _ _ _ _ _ _ _ _ _ _ _ _ _ _ _ _ _ _ _ _ _ _ _ _ _ _ _ _ _ _ _ _ _ _ _ _ _ _ _ _ _ _ _ _ _ _ _ _ _ _ _ _ _ _ _ _ _ _ _ _ _ _ _ _ _ _ W.heap.size bs s7 p7 l7 c7 s8 p8 l8 c8 W _ (by omega) (by rw [hbase]; exact hbs) (by repeat' first | exact Rest.refl _ _ _ | refine Rest.alloc ?_ _ | (refine Rest.setCell ?_ (by simp) (by omega) _)) HWB.out (Or.inl (by omega)) (Or.inr y1) HZ.out HS.out (by simp [go_sem, *]) (by simp [go_sem, *]) (by simp [go_sem, *]) (by simp [go_sem, *])
          · go_simp
            refine hK _ _ ?_; clear hK K'
            refine wpAny_ready (rs := [8]) (by kernel_rfl) (by simp) ?_
            refine AllReady.cons rfl (fun K' hK => ?_) AllReady.nil
            go_simp
            refine hK _ _ ?_; clear hK K'
            refine wpAny_ready (rs := [13]) (by kernel_rfl) (by simp) ?_
            refine AllReady.cons rfl (fun K' hK => ?_) AllReady.nil
            go_simp
            refine hK _ _ ?_; clear hK K'
            refine wpAny_done (by kernel_rfl) ?_ _
            exact KEY.out _ _ _ _ _ _ _ _ _ _ _ _ _ _ _ _ _ _ _ _ _ _ _ _ _ _ _ _ _ _ _ _ _ _ _ _ _ _ _ _ _ _ _ _ _ _ _ _ _ _ _ _ _ _ _ _ _ _ _ _ _ _ _ _ _ _ _ _ _ _ W.heap.size bs s7 p7 l7 c7 s8 p8 l8 c8 W _ (by omega) (by rw [hbase]; exact hbs) (by repeat' first | exact Rest.refl _ _ _ | refine Rest.alloc ?_ _ | (refine Rest.setCell ?_ (by simp) (by omega) _)) HWB.out (Or.inl (by omega)) (Or.inr y1) HZ.out HS.out (by simp [go_sem, *]) (by simp [go_sem, *]) (by simp [go_sem, *]) (by simp [go_sem, *])
    · intro f W hf hne hb
      have e38 : Means W (.three (.num m) (.num 0) (.is (.bool true))) (f 38) := hf (5, 38) (by simp) (by kernel_rfl)
      obtain ⟨x, y, z, e38, hxx, hyy, e46⟩ := e38
      have hxx : Means W (.num m) (f 44) := hf (6, 44) (by simp) (by kernel_rfl)
      obtain ⟨s7, p7, l7, c7, e44, hz⟩ := hxx
      have hyy : Means W (.num 0) (f 45) := hf (7, 45) (by simp) (by kernel_rfl)
      obtain ⟨s8, p8, l8, c8, e45, hs⟩ := hyy
      have e46 : z = .bool true := e46
      subst e46
      have e12 : Means W (.newbox w4.heap.size) (f 12) := hf (9, 12) (by simp) (by kernel_rfl)
      obtain ⟨bz, e12, hbz, z0, z1, zf0, zf1⟩ := e12
      have lz := World.block_lt_of_cell? _ _ z0
      have hz1 : bz ≠ W.heap.size := Nat.ne_of_lt lz
      have hz2 : W.heap.size ≠ bz := fun h => hz1 h.symm
      have HZ := Lib.hid hz; have HS := Lib.hid hs; have HWB := Lib.hid hb
      have hWs : base ≤ W.heap.size := by rw [hbase]; exact hb.size
      clear hf hb hz hs hne
      simp only [fillSlots]
      refine wpAny_ready (rs := [8, 10]) (by kernel_rfl) (by simp) ?_
      refine AllReady.cons rfl (fun K' hK => ?_) (AllReady.cons rfl (fun K' hK => ?_) AllReady.nil)
      · go_simp
        refine hK _ _ ?_; clear hK K'
        refine wpAny_ready (rs := [10]) (by kernel_rfl) (by simp) ?_
        refine AllReady.cons rfl (fun K' hK => ?_) AllReady.nil
        go_simp
        refine hK _ _ ?_; clear hK K'
        refine wpAny_ready (rs := [11]) (by kernel_rfl) (by simp) ?_
        refine AllReady.cons rfl (fun K' hK => ?_) AllReady.nil
        go_simp
        refine hK _ _ ?_; clear hK K'
        refine wpAny_ready (rs := [12]) (by kernel_rfl) (by simp) ?_
        refine AllReady.cons rfl (fun K' hK => ?_) AllReady.nil
        go_simp
        refine hK _ _ ?_; clear hK K'
        refine wpAny_ready (rs := [13]) (by kernel_rfl) (by simp) ?_
        refine AllReady.cons rfl (fun K' hK => ?_) AllReady.nil
        go_simp
        refine hK _ _ ?_; clear hK K'
        refine wpAny_done (by kernel_rfl) ?_ _
        exact KEY.out _ _ _ _ _ _ _ _ _ _ _ _ _ _ _ _ _ _ _ _ _ _ _ _ _ _ _ _ _ _ _ _ _ _ _ _ _ _ _ _ _ _ _ _ _ _ _ _ _ _ _ _ _ _ _ _ _ _ _ _ _ _ _ _ _ _ _ _ _ _ bz W.heap.size s7 p7 l7 c7 s8 p8 l8 c8 W _ (by rw [hbase]; exact hbz) (by omega) (by repeat' first | exact Rest.refl _ _ _ | refine Rest.alloc ?_ _ | (refine Rest.setCell ?_ (by simp) (by omega) _)) HWB.out (Or.inr z1) (Or.inl (by omega)) HZ.out HS.out (by simp [go_sem, *]) (by simp [go_sem, *]) (by simp [go_sem, *]) (by simp [go_sem, *])
      · go_simp
        refine hK _ _ ?_; clear hK K'
        refine wpAny_ready (rs := [8, 11]) (by kernel_rfl) (by simp) ?_
        refine AllReady.cons rfl (fun K' hK => ?_) (AllReady.cons rfl (fun K' hK => ?_) AllReady.nil)
        · go_simp
          refine hK _ _ ?_; clear hK K'
          refine wpAny_ready (rs := [11]) (by kernel_rfl) (by simp) ?_
          refine AllReady.cons rfl (fun K' hK => ?_) AllReady.nil
          go_simp
          refine hK _ _ ?_; clear hK K'
          refine wpAny_ready (rs := [12]) (by kernel_rfl) (by simp) ?_
          refine AllReady.cons rfl (fun K' hK => ?_) AllReady.nil
          go_simp
          refine hK _ _ ?_; clear hK K'
          refine wpAny_ready (rs := [13]) (by kernel_rfl) (by simp) ?_
          refine AllReady.cons rfl (fun K' hK => ?_) AllReady.nil
          go_simp
          refine hK _ _ ?_; clear hK K'
          refine wpAny_done (by kernel_rfl) ?_ _
          exact KEY.out _ _ _ _ _ _ _ _ _ _ _ _ _ _ _ _ _ _ _ _ _ _ _ _ _ _ _ _ _ _ _ _ _ _ _ _ _ _ _ _ _ _ _ _ _ _ _ _ _ _ _ _ _ _ _ _ _ _ _ _ _ _ _ _ _ _ _ _ _ _ bz W.heap.size s7 p7 l7 c7 s8 p8 l8 c8 W _ (by rw [hbase]; exact hbz) (by omega) (by repeat' first | exact Rest.refl _ _ _ | refine Rest.alloc ?_ _ | (refine Rest.setCell ?_ (by simp) (by omega) _)) HWB.out (Or.inr z1) (Or.inl (by omega)) HZ.out HS.out (by simp [go_sem, *]) (by simp [go_sem, *]) (by simp [go_sem, *]) (by simp [go_sem, *])
        · go_simp
          refine hK _ _ ?_; clear hK K'
          refine wpAny_ready (rs := [8, 12]) (by kernel_rfl) (by simp) ?_
          refine AllReady.cons rfl (fun K' hK => ?_) (AllReady.cons rfl (fun K' hK => ?_) AllReady.nil)
          · go_simp
            refine hK _ _ ?_; clear hK K'
            refine wpAny_ready (rs := [12]) (by kernel_rfl) (by simp) ?_
            refine AllReady.cons rfl (fun K' hK => ?_) AllReady.nil
            go_simp
            refine hK _ _ ?_; clear hK K'
            refine wpAny_ready (rs := [13]) (by kernel_rfl) (by simp) ?_
            refine AllReady.cons rfl (fun K' hK => ?_) AllReady.nil
            go_simp
            refine hK _ _ ?_; clear hK K'
            refine wpAny_done (by kernel_rfl) ?_ _
            exact KEY.out _ _ _ _ _ _ _ _ _ _ _ _ _ _ _ _ _ _ _ _ _ _ _ _ _ _ _ _ _ _ _ _ _ _ _ _ _ _ _ _ _ _ _ _ _ _ _ _ _ _ _ _ _ _ _ _ _ _ _ _ _ _ _ _ _ _ _ _ _ _ bz W.heap.size s7 p7 l7 c7 s8 p8 l8 c8 W _ (by rw [hbase]; exact hbz) (by omega) (by repeat' first | exact Rest.refl _ _ _ | refine Rest.alloc ?_ _ | (refine Rest.setCell ?_ (by simp) (by omega) _)) HWB.out (Or.inr z1) (Or.inl (by omega)) HZ.out HS.out (by simp [go_sem, *]) (by simp [go_sem, *]) (by simp [go_sem, *]) (by simp [go_sem, *])
          · go_simp
            refine hK _ _ ?_; clear hK K'
            refine wpAny_ready (rs := [8]) (by kernel_rfl) (by simp) ?_
            refine AllReady.cons rfl (fun K' hK => ?_) AllReady.nil
            go_simp
            refine hK _ _ ?_; clear hK K'
            refine wpAny_ready (rs := [13]) (by kernel_rfl) (by simp) ?_
            refine AllReady.cons rfl (fun K' hK => ?_) AllReady.nil
            go_simp
            refine hK _ _ ?_; clear hK K'
            refine wpAny_done (by kernel_rfl) ?_ _
            exact KEY.out _ _ _ _ _ _ _ _ _ _ _ _ _ _ _ _ _ _ _ _ _ _ _ _ _ _ _ _ _ _ _ _ _ _ _ _ _ _ _ _ _ _ _ _ _ _ _ _ _ _ _ _ _ _ _ _ _ _ _ _ _ _ _ _ _ _ _ _ _ _ bz W.heap.size s7 p7 l7 c7 s8 p8 l8 c8 W _ (by rw [hbase]; exact hbz) (by omega) (by repeat' first | exact Rest.refl _ _ _ | refine Rest.alloc ?_ _ | (refine Rest.setCell ?_ (by simp) (by omega) _)) HWB.out (Or.inr z1) (Or.inl (by omega)) HZ.out HS.out (by simp [go_sem, *]) (by simp [go_sem, *]) (by simp [go_sem, *]) (by simp [go_sem, *])
    · intro f W hf hne hb
      have e38 : Means W (.three (.num m) (.num 0) (.is (.bool true))) (f 38) := hf (5, 38) (by simp) (by kernel_rfl)
      obtain ⟨x, y, z, e38, hxx, hyy, e46⟩ := e38
      have hxx : Means W (.num m) (f 44) := hf (6, 44) (by simp) (by kernel_rfl)
      obtain ⟨s7, p7, l7, c7, e44, hz⟩ := hxx
      have hyy : Means W (.num 0) (f 45) := hf (7, 45) (by simp) (by kernel_rfl)
      obtain ⟨s8, p8, l8, c8, e45, hs⟩ := hyy
      have e46' : f 46 = .bool true := hf (8, 46) (by simp) (by kernel_rfl)
      have HZ := Lib.hid hz; have HS := Lib.hid hs; have HWB := Lib.hid hb
      have hWs : base ≤ W.heap.size := by rw [hbase]; exact hb.size
      clear hf hb hz hs hne
      simp only [fillSlots]
      refine wpAny_ready (rs := [9, 10]) (by kernel_rfl) (by simp) ?_
      refine AllReady.cons rfl (fun K' hK => ?_) (AllReady.cons rfl (fun K' hK => ?_) AllReady.nil)
      · go_simp
        refine hK _ _ ?_; clear hK K'
        refine wpAny_ready (rs := [10]) (by kernel_rfl) (by simp) ?_
        refine AllReady.cons rfl (fun K' hK => ?_) AllReady.nil
        go_simp
        refine hK _ _ ?_; clear hK K'
        refine wpAny_ready (rs := [11]) (by kernel_rfl) (by simp) ?_
        refine AllReady.cons rfl (fun K' hK => ?_) AllReady.nil
        go_simp
        refine hK _ _ ?_; clear hK K'
        refine wpAny_ready (rs := [12]) (by kernel_rfl) (by simp) ?_
        refine AllReady.cons rfl (fun K' hK => ?_) AllReady.nil
        go_simp
        refine hK _ _ ?_; clear hK K'
        refine wpAny_ready (rs := [13]) (by kernel_rfl) (by simp) ?_
        refine AllReady.cons rfl (fun K' hK => ?_) AllReady.nil
        go_simp
        refine hK _ _ ?_; clear hK K'
        refine wpAny_done (by kernel_rfl) ?_ _
        exact KEY.out _ _ _ _ _ _ _ _ _ _ _ _ _ _ _ _ _ _ _ _ _ _ _ _ _ _ _ _ _ _ _ _ _ _ _ _ _ _ _ _ _ _ _ _ _ _ _ _ _ _ _ _ _ _ _ _ _ _ _ _ _ _ _ _ _ _ _ _ _ _ W.heap.size (W.heap.size + 1) s7 p7 l7 c7 s8 p8 l8 c8 W _ (by omega) (by omega) (by repeat' first | exact Rest.refl _ _ _ | refine Rest.alloc ?_ _ | (refine Rest.setCell ?_ (by simp) (by omega) _)) HWB.out (Or.inl (by omega)) (Or.inl (by omega)) HZ.out HS.out (by simp [go_sem, *]) (by simp [go_sem, *]) (by simp [go_sem, *]) (by simp [go_sem, *])
      · go_simp
        refine hK _ _ ?_; clear hK K'
        refine wpAny_ready (rs := [9]) (by kernel_rfl) (by simp) ?_
        refine AllReady.cons rfl (fun K' hK => ?_) AllReady.nil
        go_simp
        refine hK _ _ ?_; clear hK K'
        refine wpAny_ready (rs := [11]) (by kernel_rfl) (by simp) ?_
        refine AllReady.cons rfl (fun K' hK => ?_) AllReady.nil
        go_simp
        refine hK _ _ ?_; clear hK K'
        refine wpAny_ready (rs := [12]) (by kernel_rfl) (by simp) ?_
        refine AllReady.cons rfl (fun K' hK => ?_) AllReady.nil
        go_simp
        refine hK _ _ ?_; clear hK K'
        refine wpAny_ready (rs := [13]) (by kernel_rfl) (by simp) ?_
        refine AllReady.cons rfl (fun K' hK => ?_) AllReady.nil
        go_simp
        refine hK _ _ ?_; clear hK K'
        refine wpAny_done (by kernel_rfl) ?_ _
        exact KEY.out _ _ _ _ _ _ _ _ _ _ _ _ _ _ _ _ _ _ _ _ _ _ _ _ _ _ _ _ _ _ _ _ _ _ _ _ _ _ _ _ _ _ _ _ _ _ _ _ _ _ _ _ _ _ _ _ _ _ _ _ _ _ _ _ _ _ _ _ _ _ (W.heap.size + 1) W.heap.size s7 p7 l7 c7 s8 p8 l8 c8 W _ (by omega) (by omega) (by repeat' first | exact Rest.refl _ _ _ | refine Rest.alloc ?_ _ | (refine Rest.setCell ?_ (by simp) (by omega) _)) HWB.out (Or.inl (by omega)) (Or.inl (by omega)) HZ.out HS.out (by simp [go_sem, *]) (by simp [go_sem, *]) (by simp [go_sem, *]) (by simp [go_sem, *])
end Go.Proofs.YtmhpaadanpianaaDoor
