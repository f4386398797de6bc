/- Leaps for as long as leading words determine any: the program's. -/
import Derived.Test.YthenfejgnjdkjaaGreatDoorLeapNum
namespace Go.Proofs.YthenfejgnjdkjaaGreatDoor
open Go.RowKit

theorem frSub {w : World} {b n m : Nat} (h : Fr w b 0 n) (hm : m ≤ n) : Fr w b 0 m := fun i hi => h i (by omega)

def RetLeapOn (w : World) (X Y : Nat) : Ending → World → Prop := fun e w' =>
  ∃ P Q s3 p3 l3 c3 s4 p4 l4 c4, e = .returned (.tuple #[.agg #[.int .u64 s3, .slice p3 l3 c3], .agg #[.int .u64 s4, .slice p4 l4 c4]]) ∧ IsN w' s3 p3 l3 c3 P ∧ IsN w' s4 p4 l4 c4 Q ∧ Q < P ∧ P ≤ X ∧ Nat.gcd P Q = Nat.gcd X Y ∧ Below w.heap.size w w'

set_option maxRecDepth 100000 in
set_option maxHeartbeats 4000000 in
theorem leapOn_any (X Y : Nat) (s1 s2 : Int) (p1 p2 : Option Addr) (l1 c1 l2 c2 : Nat) (w : World) (h1 : IsN w s1 p1 l1 c1 X) (h2 : IsN w s2 p2 l2 c2 Y) (hdX : (ds X).length ≤ 100000) (hdY : (ds Y).length ≤ 100000) (hX0 : X ≠ 0) (hYX : Y < X) (hbX : bitLen X ≤ 6400000) :
    Calls Tryz.prog 32 #[.agg #[.int .u64 s1, .slice p1 l1 c1], .agg #[.int .u64 s2, .slice p2 l2 c2]] w (RetLeapOn w X Y) := by
  obtain ⟨bl, hbl⟩ : ∃ bl, bl = bitLen X := ⟨_, rfl⟩
  obtain ⟨N, hN⟩ : ∃ N, N = (bl + 63) / 64 := ⟨_, rfl⟩
  have hbp := bitLen_pos hX0
  have hN1 : 1 ≤ N := by omega
  have hN2 : N ≤ 100000 := by omega
  have hXN : X < (2 ^ 64) ^ N := words_fit (by rw [hN, hbl])
  have a1 : IntKind.i64.wrap ((bl : Int) + 64) = (bl : Int) + 64 := by rw [IntKind.wrap_i64]; omega
  have a2 : IntKind.i64.wrap ((bl : Int) + 64 - 1) = (bl : Int) + 63 := by rw [IntKind.wrap_i64]; omega
  have a3 : (bl : Int) + 64 - 1 = (bl : Int) + 63 := by omega
  have a6 : IntKind.i64.wrap ((bl : Int) + 63) = (bl : Int) + 63 := by rw [IntKind.wrap_i64]; omega
  have a4 : ((bl : Int) + 63).tdiv 64 = (N : Int) := by rw [Int.tdiv_eq_ediv_of_nonneg (by omega)]; omega
  have a4' : ((bl : Int) + 63) / 64 = (N : Int) := by omega
  have a5 : IntKind.i64.wrap (N : Int) = (N : Int) := by rw [IntKind.wrap_i64]; omega
  have BITS := Lib.hid (fun W (hI : IsN W s1 p1 l1 c1 X) => nbits_any X s1 p1 l1 c1 W hI (by omega))
  rw [← hbl] at BITS
  have WX := Lib.hid (fun W (hI : IsN W s1 p1 l1 c1 X) => wordsOf_any X N s1 p1 l1 c1 W hI hdX (by omega) hN2 hXN)
  have WY := Lib.hid (fun W (hI : IsN W s2 p2 l2 c2 Y) => wordsOf_any Y N s2 p2 l2 c2 W hI hdY (by omega) hN2 (by omega))
  have HTOP := Lib.hid (fun zs (hl : zs.length = N) hb hv => words_top (X := X) (n := N) (zs := zs) hX0 (by rw [hN, hbl]) hl hb hv)
  have H1 := Lib.hid h1; have H2 := Lib.hid h2; have HYX := Lib.hid hYX
  clear h1 h2 hbl hN hbp hXN hdX hdY hX0 hbX hYX
  go_enter Tryz.func32, Tryz.ntmps32
  go_wp2
  obtain ⟨wA, hwA⟩ : ∃ wA, wA = (((w.alloc (.cells #[.int .u64 s1, .slice p1 l1 c1] 25)).alloc (.cells #[.int .u64 s2, .slice p2 l2 c2] 25)).alloc (.cells #[.int .u64 0, .slice none 0 0] 25)).alloc (.cells #[.int .u64 0, .slice none 0 0] 25) := ⟨_, rfl⟩
  rw [← hwA]
  obtain ⟨o0, ho0⟩ : ∃ o, o = w.heap.size := ⟨_, rfl⟩
  obtain ⟨o1, ho1⟩ : ∃ o, o = w.heap.size + 1 := ⟨_, rfl⟩
  obtain ⟨o2, ho2⟩ : ∃ o, o = w.heap.size + 1 + 1 := ⟨_, rfl⟩
  obtain ⟨o3, ho3⟩ : ∃ o, o = w.heap.size + 1 + 1 + 1 := ⟨_, rfl⟩
  obtain ⟨B, hBB⟩ : ∃ B, B = wA.heap.size := ⟨_, rfl⟩
  have hBs : B = w.heap.size + 4 := by rw [hBB, hwA]; simp
  have B00 := Lib.hid (show wA.cell? ⟨o0, 0, none⟩ = some (.int .u64 s1) from by rw [hwA, ho0]; simp [go_sem])
  have B01 := Lib.hid (show wA.cell? ⟨o0, 1, none⟩ = some (.slice p1 l1 c1) from by rw [hwA, ho0]; simp [go_sem])
  have B10 := Lib.hid (show wA.cell? ⟨o1, 0, none⟩ = some (.int .u64 s2) from by rw [hwA, ho1]; simp [go_sem])
  have B11 := Lib.hid (show wA.cell? ⟨o1, 1, none⟩ = some (.slice p2 l2 c2) from by rw [hwA, ho1]; simp [go_sem])
  have B20 := Lib.hid (show wA.cell? ⟨o2, 0, none⟩ = some (.int .u64 0) from by rw [hwA, ho2]; simp [go_sem])
  have B21 := Lib.hid (show wA.cell? ⟨o2, 1, none⟩ = some (.slice none 0 0) from by rw [hwA, ho2]; simp [go_sem])
  have B30 := Lib.hid (show wA.cell? ⟨o3, 0, none⟩ = some (.int .u64 0) from by rw [hwA, ho3]; simp [go_sem])
  have B31 := Lib.hid (show wA.cell? ⟨o3, 1, none⟩ = some (.slice none 0 0) from by rw [hwA, ho3]; simp [go_sem])
  have F20 := Lib.hid (show wA.frozen? ⟨o2, 0, none⟩ = false from by rw [hwA, ho2]; simp [go_sem])
  have F21 := Lib.hid (show wA.frozen? ⟨o2, 1, none⟩ = false from by rw [hwA, ho2]; simp [go_sem])
  have F30 := Lib.hid (show wA.frozen? ⟨o3, 0, none⟩ = false from by rw [hwA, ho3]; simp [go_sem])
  have F31 := Lib.hid (show wA.frozen? ⟨o3, 1, none⟩ = false from by rw [hwA, ho3]; simp [go_sem])
  have hBA : Below w.heap.size w wA := by rw [hwA]; repeat' first | exact Below.refl _ _ | refine below_alloc ?_ _
  have HX := Lib.hid (H1.out.mono hBA); have HY := Lib.hid (H2.out.mono hBA)
  have HBA := Lib.hid hBA
  have HBS := Lib.hid (And.intro hBB hBs)
  have HO := Lib.hid (And.intro ho0 (And.intro ho1 (And.intro ho2 ho3)))
  rw [← ho3, ← ho2, ← ho1, ← ho0]
  have hoB : o0 < B ∧ o1 < B ∧ o2 < B ∧ o3 < B := by omega
  clear hwA hBA hBB hBs ho0 ho1 ho2 ho3 H1 H2
--REGION1
  refine region_v (slots := [13, 14, 15, 16, 17, 18, 19, 6]) (V := LTab [.is (.agg #[.int .u64 s1, .slice p1 l1 c1]), .is (.agg #[.int .u64 s1, .slice p1 l1 c1]), .is (.int .i64 (bl : Int)), .is (.int .i64 ((bl : Int) + 64)), .is (.int .i64 ((bl : Int) + 63)), .is (.int .i64 (N : Int)), .rowp B N X, .rowp B N X] 0) (by kernel_rfl) (by kernel_rfl) LTab.stable (by kernel_rfl) (by kernel_rfl) ?_ ?_
  · skip
    refine AllV.cons rfl (fun E W hb hc hf hE hV => Or.inl ⟨rfl, ?_⟩) ?_
    · have e1 : E (.tmp 2) = .pointer (some ⟨o0, 0, none⟩) := hE 2 (by kernel_rfl)
      have q0 := wcell hb B00.out
      have q1 := wcell hb B01.out
      clear hE hV
      exact Does.value (w' := W) (by go_simp) ⟨rfl, Below.refl _ _⟩
    refine AllV.cons rfl (fun E W hb hc hf hE hV => Or.inl ⟨rfl, ?_⟩) ?_
    · have e1 : E (.tmp 2) = .pointer (some ⟨o0, 0, none⟩) := hE 2 (by kernel_rfl)
      have q0 := wcell hb B00.out
      have q1 := wcell hb B01.out
      clear hE hV
      exact Does.value (w' := W) (by go_simp) ⟨rfl, Below.refl _ _⟩
    refine AllV.cons rfl (fun E W hb hc hf hE hV => Or.inl ⟨rfl, ?_⟩) ?_
    · have e1 : E (.tmp 14) = _ := hV 1 14 (by kernel_rfl) (by kernel_rfl)
      clear hE hV
      exact Does.call (w' := W) (by go_simp) ((BITS.out W (HX.out.mono hb)).mono fun e w' ⟨h1, h2⟩ => ⟨_, h1, rfl, h2⟩)
    refine AllV.cons rfl (fun E W hb hc hf hE hV => Or.inl ⟨rfl, ?_⟩) ?_
    · have e1 : E (.tmp 15) = _ := hV 2 15 (by kernel_rfl) (by kernel_rfl)
      clear hE hV
      exact Does.value (w' := W) (by go_simp) ⟨rfl, Below.refl _ _⟩
    refine AllV.cons rfl (fun E W hb hc hf hE hV => Or.inl ⟨rfl, ?_⟩) ?_
    · have e1 : E (.tmp 16) = _ := hV 3 16 (by kernel_rfl) (by kernel_rfl)
      clear hE hV
      exact Does.value (w' := W) (by go_simp) ⟨rfl, Below.refl _ _⟩
    refine AllV.cons rfl (fun E W hb hc hf hE hV => Or.inl ⟨rfl, ?_⟩) ?_
    · have e1 : E (.tmp 17) = _ := hV 4 17 (by kernel_rfl) (by kernel_rfl)
      clear hE hV
      exact Does.value (w' := W) (by go_simp) ⟨rfl, Below.refl _ _⟩
    refine AllV.cons rfl (fun E W hb hc hf hE hV => Or.inl ⟨rfl, ?_⟩) ?_
    · have e1 : E (.tmp 13) = _ := hV 0 13 (by kernel_rfl) (by kernel_rfl)
      have e2 : E (.tmp 18) = _ := hV 5 18 (by kernel_rfl) (by kernel_rfl)
      clear hE hV
      exact Does.call (w' := W) (by go_simp) ((WX.out W (HX.out.mono hb)).mono fun e w' ⟨b, zs, c, h1, h2, h3, h4, h5, h6, h7, h8, h9⟩ => ⟨_, h1, ⟨b, zs, c, rfl, h2, h3, h4, h5, (by have := HBS.out.1; have := hb.size; omega), h7, h8, h7.lt (by rw [h2]; exact hN1)⟩, h9⟩)
    refine AllV.cons rfl (fun E W hb hc hf hE hV => Or.inl ⟨rfl, ?_⟩) ?_
    · have e1 : LMeans W (.rowp B N X) (E (.tmp 19)) := hV 6 19 (by kernel_rfl) (by kernel_rfl)
      clear hE hV
      exact Does.value (w' := W) (by go_simp) ⟨e1, Below.refl _ _⟩
    exact AllV.nil
--ENDREGION1
  intro f w1 hf hb
  obtain ⟨g1, xs, k1, e6, lx, lk1, bx, vx, hg1, A1, R1, hg1W⟩ := hf (7, 6) (by decide)
  have C1 := Lib.hid (And.intro lx (And.intro bx vx))
  have HA1 := Lib.hid A1; have HR1 := Lib.hid R1
  have Q10 := wcell hb B10.out; have Q11 := wcell hb B11.out
  have HY1 := Lib.hid (HY.out.mono hb)
  have HB1 := Lib.hid hb
  have hmk := fun W => make_u64 N (by omega) W
  have e6' : f 6 = .slice (some ⟨g1, 0, none⟩) N k1 := e6
  simp only [fillSlots, List.setIfInBounds_toArray, List.set_cons_succ, List.set_cons_zero, e6']
  generalize f 13 = u13; generalize f 14 = u14; generalize f 15 = u15; generalize f 16 = u16; generalize f 17 = u17; generalize f 18 = u18; generalize f 19 = u19
  clear hf hb e6 e6' lx bx vx A1 R1 HX BITS WX a1 a2 a3 a4 a4' a5 a6 HY
  go_wp2_with fail
  refine (WY.out w1 HY1.out).mono ?_
  rintro e w2 ⟨g2, ys, k2, rfl, ly, lk2, by_, vy, hg2, A2, R2, hb⟩
  have C2 := Lib.hid (And.intro ly (And.intro by_ vy))
  have HA12 := Lib.hid (HA1.out.mono hb); have HR12 := Lib.hid (HR1.out.mono hb hg1W)
  have HA2 := Lib.hid A2; have HR2 := Lib.hid R2
  have hg2W := A2.lt (by omega)
  have HB2 := Lib.hid (below_step HB1.out hb)
  have hg12 : g1 < g2 := by omega
  clear hb ly by_ vy A2 R2 Q10 Q11 HA1 HR1 HB1 WY HY1
  go_wp2
  go_big_region
  all_goals
    obtain ⟨w3, hw3⟩ : ∃ w3, w3 = ((w2.alloc (.cells (madeCells #[.int .u64 0] N) 22)).alloc (.cells (madeCells #[.int .u64 0] N) 22)).drew := ⟨_, rfl⟩
    rw [← hw3]
    obtain ⟨gH, hgH⟩ : ∃ g, g = w2.heap.size + 1 := ⟨_, rfl⟩
    obtain ⟨gL, hgL⟩ : ∃ g, g = w2.heap.size := ⟨_, rfl⟩
    rw [← hgH, ← hgL]
    have hB3 : Below w2.heap.size w2 w3 := by rw [hw3]; exact Below.drew (below_alloc (below_alloc (Below.refl _ _) _) _)
    have HAL := Lib.hid (show At w3 .u64 gL 0 (List.replicate N 0) from by rw [hw3, hgL]; exact (At.made w2 .u64 N 22).mono (Below.drew (below_alloc (Below.refl _ _) _)))
    have HRL := Lib.hid (show Fr w3 gL 0 N from by rw [hw3, hgL]; exact (Fr.made w2 .u64 N N 22).mono (Below.drew (below_alloc (Below.refl _ _) _)) (by simp))
    have HAH := Lib.hid (show At w3 .u64 gH 0 (List.replicate N 0) from by
      rw [hw3, hgH, show w2.heap.size + 1 = (w2.alloc (.cells (madeCells #[.int .u64 0] N) 22)).heap.size from by simp]
      exact (At.made _ .u64 N 22).drew)
    have HRH := Lib.hid (show Fr w3 gH 0 N from by
      rw [hw3, hgH, show w2.heap.size + 1 = (w2.alloc (.cells (madeCells #[.int .u64 0] N) 22)).heap.size from by simp]
      exact Fr.made _ .u64 N N 22)
    have HA13 := Lib.hid (HA12.out.mono hB3); have HR13 := Lib.hid (HR12.out.mono hB3 (by omega))
    have HA23 := Lib.hid (HA2.out.mono hB3); have HR23 := Lib.hid (HR2.out.mono hB3 hg2W)
    have hgs : B ≤ g1 ∧ g1 < g2 ∧ g2 < gL ∧ gL < gH := by omega
    have HB3 := Lib.hid (below_step HB2.out hB3)
    have HINV := Lib.hid (show LeapRows X Y N xs ys (List.replicate N 0) (List.replicate N 0) X Y from
      ⟨hN1, C1.out.1, C2.out.1, List.length_replicate, List.length_replicate, C1.out.2.1, C2.out.2.1, fun x hx => by rw [List.eq_of_mem_replicate hx]; omega, fun x hx => by rw [List.eq_of_mem_replicate hx]; omega,
        C1.out.2.2, C2.out.2.2, HYX.out, Nat.le_refl _, rfl, fun _ => HTOP.out xs C1.out.1 C1.out.2.1 C1.out.2.2⟩)
    clear hw3 hgH hgL hB3 HA12 HR12 HA2 HR2 HB2 hmk C1 C2 HTOP hg2W hg1W hg1 hg2 hg12 B00 B01 B10 B11
    go_wp2_with fail
    go_loopw [6, 7, 8, 9] (fun a6 a7 a8 a9 wr => ∃ (n g1 g2 g3 g4 k1 k2 k3 k4 P Q : Nat) (xs ys zs us : List Nat), a6 = .slice (some ⟨g1, 0, none⟩) n k1 ∧ a7 = .slice (some ⟨g2, 0, none⟩) n k2 ∧ a8 = .slice (some ⟨g3, 0, none⟩) n k3 ∧ a9 = .slice (some ⟨g4, 0, none⟩) n k4 ∧
        (n ≤ k1 ∧ n ≤ k2 ∧ n ≤ k3 ∧ n ≤ k4 ∧ n ≤ 100000 ∧ B ≤ g1 ∧ B ≤ g2 ∧ B ≤ g3 ∧ B ≤ g4 ∧ g1 ≠ g2 ∧ g1 ≠ g3 ∧ g1 ≠ g4 ∧ g2 ≠ g3 ∧ g2 ≠ g4 ∧ g3 ≠ g4) ∧ Hid (LeapRows X Y n xs ys zs us P Q) ∧
        Hid (At wr .u64 g1 0 xs ∧ At wr .u64 g2 0 ys ∧ At wr .u64 g3 0 zs ∧ At wr .u64 g4 0 us) ∧ Hid (Fr wr g1 0 n ∧ Fr wr g2 0 n ∧ Fr wr g3 0 n ∧ Fr wr g4 0 n) ∧ Hid (Below wA.heap.size wA wr)) (fun a6 _ _ _ wr => rowAt wr a6)
    case atStart => first | exact ⟨N, g1, g2, gL, gH, k1, k2, N, N, X, Y, xs, ys, _, _, rfl, rfl, rfl, rfl, by omega, HINV, Lib.hid ⟨HA13.out, HA23.out, HAL.out, HAH.out⟩, Lib.hid ⟨HR13.out, HR23.out, HRL.out, HRH.out⟩, HB3⟩ | exact ⟨N, g1, g2, gH, gL, k1, k2, N, N, X, Y, xs, ys, _, _, rfl, rfl, rfl, rfl, by omega, HINV, Lib.hid ⟨HA13.out, HA23.out, HAH.out, HAL.out⟩, Lib.hid ⟨HR13.out, HR23.out, HRH.out, HRL.out⟩, HB3⟩
    case round =>
      clear HINV HAL HRL HAH HRH HA13 HR13 HA23 HR23 HB3 hgs lk1 lk2
      obtain ⟨n, g1, g2, g3, g4, k1, k2, k3, k4, P, Q, xs, ys, zs, us, rfl, rfl, rfl, rfl, hk, HI, HA, HF, HB⟩ := hrel
      have hI := HI.out
      have HM0 := Lib.hid (show rowAt wr (.slice (some ⟨g1, 0, none⟩) n k1) = P from by rw [rowAt_eq HA.out.1 hI.lx]; exact hI.vx)
      have hk5 := hk.2.2.2.2.1
      have LEAD := Lib.hid (fun (h : 2 ≤ n) (ht : xs.getD (n - 1) 0 ≠ 0) => leading_any g1 0 k1 g2 0 k2 n xs ys wr hI.lx hI.ly h (by omega) hI.bx hI.by_ HA.out.1 HA.out.2.1 ht (by rw [hI.vx, hI.vy]; have := hI.lt; omega))
      by_cases hn1 : 1 < n
      · have hni : (1 : Int) < n := by omega
        go_wp2_with fail
        refine (LEAD.out hn1 (hI.top hn1)).mono ?_
        rintro e w5 ⟨K, a, b, hK, ha, hb, ha1, ha2, rfl, hbw⟩
        rw [hI.vx] at ha
        rw [hI.vy] at hb
        have hba : b ≤ a := by rw [ha, hb]; exact Nat.div_le_div_right (by have := hI.lt; omega)
        have LF := Lib.hid (leapFrom_any P Q K a b w5 hK ha hb hba ha1 ha2)
        have HB5 := Lib.hid (below_step HB.out hbw)
        have HA5 := Lib.hid (And.intro (HA.out.1.mono hbw) (And.intro (HA.out.2.1.mono hbw) (And.intro (HA.out.2.2.1.mono hbw) (HA.out.2.2.2.mono hbw))))
        have z1 := HA.out.1.lt (by rw [hI.lx]; omega)
        have z2 := HA.out.2.1.lt (by rw [hI.ly]; omega)
        have z3 := HA.out.2.2.1.lt (by rw [hI.lz]; omega)
        have z4 := HA.out.2.2.2.lt (by rw [hI.lu]; omega)
        have HF5 := Lib.hid (And.intro (HF.out.1.mono hbw z1) (And.intro (HF.out.2.1.mono hbw z2) (And.intro (HF.out.2.2.1.mono hbw z3) (HF.out.2.2.2.mono hbw z4))))
        have HAB := Lib.hid (And.intro ha hb)
        have HZ5 := Lib.hid (show g1 < w5.heap.size ∧ g2 < w5.heap.size ∧ g3 < w5.heap.size ∧ g4 < w5.heap.size by have := hbw.size; omega)
        clear ha hb hbw z1 z2 z3 z4 LEAD hI HA HF HB
        go_wp2_with fail
        refine LF.out.mono ?_
        rintro e w6 ⟨A, D, u0, u1, u2, v0, v1, v2, odd, rfl, hSt, hbw⟩
        have HB6 := Lib.hid (below_step HB5.out hbw)
        have HA6 := Lib.hid (And.intro (HA5.out.1.mono hbw) (And.intro (HA5.out.2.1.mono hbw) (And.intro (HA5.out.2.2.1.mono hbw) (HA5.out.2.2.2.mono hbw))))
        have HF6 := Lib.hid (And.intro (HF5.out.1.mono hbw HZ5.out.1) (And.intro (HF5.out.2.1.mono hbw HZ5.out.2.1) (And.intro (HF5.out.2.2.1.mono hbw HZ5.out.2.2.1) (HF5.out.2.2.2.mono hbw HZ5.out.2.2.2))))
        have HZ6 := Lib.hid (show g1 < w6.heap.size ∧ g2 < w6.heap.size ∧ g3 < w6.heap.size ∧ g4 < w6.heap.size by have := hbw.size; have := HZ5.out; omega)
        have HST := Lib.hid hSt
        clear hSt hbw LF HB5 HA5 HF5 HZ5
        by_cases hv0 : v0 = 0
        · have e0 : (((v0 : Nat) : Int) != 0) = false := by rw [hv0]; rfl
          subst hv0
          go_wp2_with fail
          obtain ⟨wz, hwz⟩ : ∃ wz, wz = w6.alloc (.cells #[.int .u64 (u0 : Int), .int .u64 0, .int .u64 (u1 : Int), .int .u64 (v1 : Int), .bool odd] 96) := ⟨_, rfl⟩
          have hbz : Below w6.heap.size w6 wz := by rw [hwz]; exact below_alloc (Below.refl _ _) _
          rw [← hwz]
          have HBZ := Lib.hid (below_step HB6.out hbz)
          have HAZ := Lib.hid (And.intro (HA6.out.1.mono hbz) (HA6.out.2.1.mono hbz))
          clear hwz hbz HA6 HF6 HB6
          refine (natOf_any g1 0 k1 n xs wz HI.out.lx hk5 HI.out.n1 HAZ.out.1 HI.out.bx).mono ?_
          rintro e w7 ⟨s3, p3, l3, c3, rfl, h3, hb7⟩
          have N3 := Lib.hid h3
          have HA7 := Lib.hid ((show At wz .u64 g2 0 ys from HAZ.out.2).mono hb7)
          have HB7 := Lib.hid (below_step (show Below wA.heap.size wA wz from HBZ.out) hb7)
          clear h3 hb7
          go_wp2_with fail
          refine (natOf_any g2 0 k2 n ys w7 HI.out.ly hk5 HI.out.n1 HA7.out HI.out.by_).mono ?_
          rintro e w8 ⟨s4, p4, l4, c4, rfl, h4, hb8⟩
          have N4 := Lib.hid h4
          have N3 := Lib.hid (N3.out.mono hb8)
          have HB8 := Lib.hid (below_step HB7.out hb8)
          have r0 := wcell HB8.out B20.out; have r1 := wcell HB8.out B21.out; have r2 := wcell HB8.out B30.out; have r3 := wcell HB8.out B31.out
          have f0 := wfree HB8.out B20.out F20.out; have f1 := wfree HB8.out B21.out F21.out; have f2 := wfree HB8.out B30.out F30.out; have f3 := wfree HB8.out B31.out F31.out
          have hne : ¬ o3 = o2 := by have := HO.out; omega
          have hne2 : ¬ o2 = o3 := by have := HO.out; omega
          clear h4 hb8
          go_wp2
          have hRES := HI.out
          rw [hRES.vx] at N3
          rw [hRES.vy] at N4
          exact bodyPost_ret (v := .tuple #[.agg #[.int .u64 s3, .slice p3 l3 c3], .agg #[.int .u64 s4, .slice p4 l4 c4]]) (by simp [results, Tryz.results32, go_sem, r0, r1, r2, r3]) rfl
            ⟨P, Q, _, _, _, _, _, _, _, _, rfl, (N3.out.box r1).box (q := none) (k := 0) (d := 0) (by simp [go_sem, r3]), (N4.out.box r1).box (q := none) (k := 0) (d := 0) (by simp [go_sem, r3]), hRES.lt, hRES.le, hRES.gcd,
              (by have hBw : Below w.heap.size w w8 := HBA.out.trans (HB8.out.mono (by have := HBS.out; omega)); have hOO := HO.out; repeat' first | exact hBw | (refine Below.setCell ?_ (by simp; omega) _))⟩
        · have e0 : (((v0 : Nat) : Int) != 0) = true := by rw [bne_iff_ne]; omega
          rcases HST.out with ⟨_, _, _, _, _, hv, _⟩ | ⟨P', Q', q, hrun⟩
          · exact absurd hv (fun h => hv0 h)
          · have hwords := hrun.words
            have hpy := hrun.py hv0
            have hqp := hrun.lt
            have hgcd := hrun.gcd
            have hI := HI.out
            have hPn : P < (2 ^ 64) ^ n := by rw [← hI.vx, ← hI.lx]; exact val_lt _ _ hI.bx
            have hPn1 : P' < (2 ^ 64) ^ n := Nat.lt_trans (by have := hI.lt; omega) hPn
            have hPn2 : Q' < (2 ^ 64) ^ n := Nat.lt_trans hqp hPn1
            have hTAKE : ∀ W : World, w6.heap.size ≤ W.heap.size → At W .u64 g3 0 zs → Fr W g3 0 n → At W .u64 g4 0 us → Fr W g4 0 n → At W .u64 g1 0 xs → At W .u64 g2 0 ys → Calls Tryz.prog 59 #[.agg #[.int .u64 (u0 : Int), .int .u64 (v0 : Int), .int .u64 (u1 : Int), .int .u64 (v1 : Int), .bool odd], .slice (some ⟨g3, 0, none⟩) n k3, .slice (some ⟨g4, 0, none⟩) n k4, .slice (some ⟨g1, 0, none⟩) n k1, .slice (some ⟨g2, 0, none⟩) n k2] W (RetTake W g3 0 g4 0 n P' Q') := by
              intro W hW a1 a2 a3 a4 a5 a6
              have hz := HZ6.out
              cases odd with
              | true =>
                exact take_odd g3 0 k3 g4 0 k4 g1 0 k1 g2 0 k2 n u0 v0 u1 v1 P' Q' zs us xs ys W hI.lz hI.lu hI.lx hI.ly (by omega) (by omega) (by omega) (by omega) (by omega) (by omega) (by omega) (by omega) a1 a2 a3 a4 a5 a6 hI.bz hI.bu hI.bx hI.by_ (by omega) (by omega) (by omega) (by omega)
                  (by rw [hI.vx, hI.vy]; exact hrun.odd_eqs.1) (by rw [hI.vx, hI.vy]; exact hrun.odd_eqs.2) hPn1 hPn2
              | false =>
                exact take_even g3 0 k3 g4 0 k4 g1 0 k1 g2 0 k2 n u0 v0 u1 v1 P' Q' zs us xs ys W hI.lz hI.lu hI.lx hI.ly (by omega) (by omega) (by omega) (by omega) (by omega) (by omega) (by omega) (by omega) a1 a2 a3 a4 a5 a6 hI.bz hI.bu hI.bx hI.by_ (by omega) (by omega) (by omega) (by omega)
                  (by rw [hI.vx, hI.vy]; exact hrun.even_eqs.1) (by rw [hI.vx, hI.vy]; exact hrun.even_eqs.2) hPn1 hPn2
            have TAKE := Lib.hid hTAKE
            clear hTAKE
            have HPP := Lib.hid (show P' < P by have := hI.lt; omega)
            have HNXT := Lib.hid (fun (m : Nat) (qs ps : List Nat) (e1 : qs.length = n) (e2 : ps.length = n) e3 e4 e5 e6 e7 e8 e9 e10 => hI.next (m := m) (P' := P') (Q' := Q') e1 e2 e3 e4 e5 e6 hqp (by have := hI.lt; have := hI.le; omega) (hgcd.trans hI.gcd) e7 e8 e9 e10)
            clear hwords hpy hqp hgcd hI hPn hPn1 hPn2 hrun HST HAB
            go_wp2_with fail
            obtain ⟨wz, hwz⟩ : ∃ wz, wz = w6.alloc (.cells #[.int .u64 (u0 : Int), .int .u64 (v0 : Int), .int .u64 (u1 : Int), .int .u64 (v1 : Int), .bool odd] 96) := ⟨_, rfl⟩
            have hbz : Below w6.heap.size w6 wz := by rw [hwz]; exact below_alloc (Below.refl _ _) _
            rw [← hwz]
            have HBZ := Lib.hid (below_step HB6.out hbz)
            have HAZ := Lib.hid (And.intro (HA6.out.1.mono hbz) (And.intro (HA6.out.2.1.mono hbz) (And.intro (HA6.out.2.2.1.mono hbz) (HA6.out.2.2.2.mono hbz))))
            have HFZ := Lib.hid (And.intro (HF6.out.1.mono hbz HZ6.out.1) (And.intro (HF6.out.2.1.mono hbz HZ6.out.2.1) (And.intro (HF6.out.2.2.1.mono hbz HZ6.out.2.2.1) (HF6.out.2.2.2.mono hbz HZ6.out.2.2.2))))
            have HSZ := Lib.hid hbz.size
            clear hwz hbz HA6 HF6 HB6
            refine (TAKE.out wz HSZ.out HAZ.out.2.2.1 HFZ.out.2.2.1 HAZ.out.2.2.2 HFZ.out.2.2.2 HAZ.out.1 HAZ.out.2.1).mono ?_
            rintro e w7 ⟨qs, ps, y1, y2, rfl, lq, lp, bq, bp, vq, vp, Aq, Ap, hby, hO1, hO2⟩
            have hk1 := hk
            have hz := HZ6.out
            have hsz := HSZ.out
            have hy1 := hby.size
            have hy2 := hO1.size
            have HA7 := Lib.hid (And.intro (((HAZ.out.1.mono hby).only hO1 (by omega)).only hO2 (by omega)) (And.intro (((HAZ.out.2.1.mono hby).only hO1 (by omega)).only hO2 (by omega)) (And.intro Aq Ap)))
            have HF7 := Lib.hid (And.intro (((HFZ.out.1.mono hby (by omega)).onlyOther hO1 (by omega) (by omega)).onlyOther hO2 (by omega) (by omega)) (And.intro (((HFZ.out.2.1.mono hby (by omega)).onlyOther hO1 (by omega) (by omega)).onlyOther hO2 (by omega) (by omega))
              (And.intro (((HFZ.out.2.2.1.mono hby (by omega)).only hO1).onlyOther hO2 (by omega) (by omega)) (((HFZ.out.2.2.2.mono hby (by omega)).onlyOther hO1 (by omega) (by omega)).only hO2))))
            have HB7 := Lib.hid (show Below wA.heap.size wA w7 from by
              have hBs := HBS.out.1
              have hws := HBZ.out.size
              exact ((below_step HBZ.out hby).trans (hO1.below (by omega) (by omega))).trans (hO2.below (by omega) (by omega)))
            have HZ7 := Lib.hid (show g1 < w7.heap.size ∧ g2 < w7.heap.size ∧ g3 < w7.heap.size ∧ g4 < w7.heap.size by have := hO2.size; omega)
            have HN0 := Lib.hid (fun m e7 e8 e9 e10 => HNXT.out m qs ps lq lp bq bp vq vp e7 e8 e9 e10)
            have HLQ := Lib.hid lq
            clear lq lp bq bp vq vp Aq Ap hby hO1 hO2 hz hsz hy1 hy2 hk1 HBZ HAZ HFZ HSZ HZ6 TAKE HNXT
            go_wp2_with fail
            go_loopw [12] (fun i wr => ∃ m : Nat, i = .int .i64 m ∧ 1 ≤ m ∧ m ≤ n ∧ Hid (∀ i, m ≤ i → i < n → qs.getD i 0 = 0) ∧ Hid (wr = w7)) (fun i _ => (intOf i).toNat)
            case atStart => exact ⟨n, rfl, by omega, Nat.le_refl _, Lib.hid (fun i h1 h2 => absurd h1 (by omega)), Lib.hid rfl⟩
            case round =>
              obtain ⟨m, rfl, hm1, hmn, H0, HW⟩ := hrel
              obtain rfl := HW.out
              clear HW
              have c9 := HA7.out.2.2.1.zero (m - 1) (by rw [HLQ.out]; omega)
              obtain ⟨x, hx⟩ : ∃ x, x = qs.getD (m - 1) 0 := ⟨_, rfl⟩
              rw [← hx] at c9
              have i1 : (0 : Int) ≤ (m : Int) - 1 := by omega
              have i2 : (m : Int) - 1 < n := by omega
              by_cases hc : 1 < m ∧ x = 0
              · have i3 : (1 : Int) < m := by omega
                have e1 : ((x : Int) == 0) = true := by rw [hc.2]; rfl
                have HX := Lib.hid (hx.symm.trans hc.2)
                clear hx hc
                go_wp2
                go_roundw
                case rel =>
                  refine ⟨m - 1, by congr 1; omega, by omega, by omega, Lib.hid (fun i h1 h2 => ?_), Lib.hid (by first | exact trivial | rfl)⟩
                  rcases Nat.lt_or_ge i m with h3 | h3
                  · rw [show i = m - 1 by omega]; exact HX.out
                  · exact H0.out i h3 h2
                case measure => simp [intOf]; omega
              · have HN := Lib.hid (HN0.out m hm1 hmn H0.out (fun h => by rw [← hx]; intro h2; exact hc ⟨h, h2⟩))
                have hc2 : m = 1 ∨ (1 < m ∧ x ≠ 0) := by
                  rcases Nat.lt_or_ge 1 m with h | h
                  · exact Or.inr ⟨h, fun h2 => hc ⟨h, h2⟩⟩
                  · exact Or.inl (by omega)
                clear hx hc HN0 H0
                rcases hc2 with hm | hm
                all_goals
                  first
                  | have i3 : (1 : Int) < m := by omega
                    have e1 : ((x : Int) == 0) = false := beq_eq_false_iff_ne.2 (by omega)
                    clear hm
                    go_wp2
                    clear e1
                  | have i3 : ¬ (1 : Int) < m := by omega
                    clear hm
                    go_wp2
                  clear c9 i1 i2 i3
--REGION11A
                  refine region_v (slots := [64, 65, 66, 67, 68, 69, 70, 71, 72, 73, 74, 75, 6, 7, 8, 9]) (V := LTab [.is (.slice (some ⟨g3, 0, none⟩) n k3), .is (.int .i64 (m : Int)), .is (.slice (some ⟨g3, 0, none⟩) m k3), .is (.slice (some ⟨g4, 0, none⟩) n k4), .is (.int .i64 (m : Int)), .is (.slice (some ⟨g4, 0, none⟩) m k4), .is (.slice (some ⟨g1, 0, none⟩) n k1), .is (.int .i64 (m : Int)), .is (.slice (some ⟨g1, 0, none⟩) m k1), .is (.slice (some ⟨g2, 0, none⟩) n k2), .is (.int .i64 (m : Int)), .is (.slice (some ⟨g2, 0, none⟩) m k2), .is (.slice (some ⟨g3, 0, none⟩) m k3), .is (.slice (some ⟨g4, 0, none⟩) m k4), .is (.slice (some ⟨g1, 0, none⟩) m k1), .is (.slice (some ⟨g2, 0, none⟩) m k2)] 0) (by kernel_rfl) (by kernel_rfl) LTab.stable (by kernel_rfl) (by kernel_rfl) ?_ ?_
                  · skip
                    refine AllV.cons rfl (fun E W hb hc hf hE hV => Or.inl ⟨rfl, ?_⟩) ?_
                    · have e1 : E (.tmp 8) = .slice (some ⟨g3, 0, none⟩) n k3 := hE 8 (by kernel_rfl)
                      clear hE hV
                      exact Does.value (w' := W) (by go_simp) ⟨rfl, Below.refl _ _⟩
                    refine AllV.cons rfl (fun E W hb hc hf hE hV => Or.inl ⟨rfl, ?_⟩) ?_
                    · have e1 : E (.tmp 12) = .int .i64 (m : Int) := hE 12 (by kernel_rfl)
                      clear hE hV
                      exact Does.value (w' := W) (by go_simp) ⟨rfl, Below.refl _ _⟩
                    refine AllV.cons rfl (fun E W hb hc hf hE hV => Or.inl ⟨rfl, ?_⟩) ?_
                    · have e1 : E (.tmp 64) = _ := hV 0 64 (by kernel_rfl) (by kernel_rfl)
                      have e2 : E (.tmp 65) = _ := hV 1 65 (by kernel_rfl) (by kernel_rfl)
                      have j1 : ¬ k3 < m := by omega
                      clear hE hV
                      exact Does.value (w' := W) (by go_simp) ⟨rfl, Below.refl _ _⟩
                    refine AllV.cons rfl (fun E W hb hc hf hE hV => Or.inl ⟨rfl, ?_⟩) ?_
                    · have e1 : E (.tmp 9) = .slice (some ⟨g4, 0, none⟩) n k4 := hE 9 (by kernel_rfl)
                      clear hE hV
                      exact Does.value (w' := W) (by go_simp) ⟨rfl, Below.refl _ _⟩
                    refine AllV.cons rfl (fun E W hb hc hf hE hV => Or.inl ⟨rfl, ?_⟩) ?_
                    · have e1 : E (.tmp 12) = .int .i64 (m : Int) := hE 12 (by kernel_rfl)
                      clear hE hV
                      exact Does.value (w' := W) (by go_simp) ⟨rfl, Below.refl _ _⟩
                    refine AllV.cons rfl (fun E W hb hc hf hE hV => Or.inl ⟨rfl, ?_⟩) ?_
                    · have e1 : E (.tmp 67) = _ := hV 3 67 (by kernel_rfl) (by kernel_rfl)
                      have e2 : E (.tmp 68) = _ := hV 4 68 (by kernel_rfl) (by kernel_rfl)
                      have j1 : ¬ k4 < m := by omega
                      clear hE hV
                      exact Does.value (w' := W) (by go_simp) ⟨rfl, Below.refl _ _⟩
                    refine AllV.cons rfl (fun E W hb hc hf hE hV => Or.inl ⟨rfl, ?_⟩) ?_
                    · have e1 : E (.tmp 6) = .slice (some ⟨g1, 0, none⟩) n k1 := hE 6 (by kernel_rfl)
                      clear hE hV
                      exact Does.value (w' := W) (by go_simp) ⟨rfl, Below.refl _ _⟩
                    refine AllV.cons rfl (fun E W hb hc hf hE hV => Or.inl ⟨rfl, ?_⟩) ?_
                    · have e1 : E (.tmp 12) = .int .i64 (m : Int) := hE 12 (by kernel_rfl)
                      clear hE hV
                      exact Does.value (w' := W) (by go_simp) ⟨rfl, Below.refl _ _⟩
                    refine AllV.cons rfl (fun E W hb hc hf hE hV => Or.inl ⟨rfl, ?_⟩) ?_
                    · have e1 : E (.tmp 70) = _ := hV 6 70 (by kernel_rfl) (by kernel_rfl)
                      have e2 : E (.tmp 71) = _ := hV 7 71 (by kernel_rfl) (by kernel_rfl)
                      have j1 : ¬ k1 < m := by omega
                      clear hE hV
                      exact Does.value (w' := W) (by go_simp) ⟨rfl, Below.refl _ _⟩
                    refine AllV.cons rfl (fun E W hb hc hf hE hV => Or.inl ⟨rfl, ?_⟩) ?_
                    · have e1 : E (.tmp 7) = .slice (some ⟨g2, 0, none⟩) n k2 := hE 7 (by kernel_rfl)
                      clear hE hV
                      exact Does.value (w' := W) (by go_simp) ⟨rfl, Below.refl _ _⟩
                    refine AllV.cons rfl (fun E W hb hc hf hE hV => Or.inl ⟨rfl, ?_⟩) ?_
                    · have e1 : E (.tmp 12) = .int .i64 (m : Int) := hE 12 (by kernel_rfl)
                      clear hE hV
                      exact Does.value (w' := W) (by go_simp) ⟨rfl, Below.refl _ _⟩
                    refine AllV.cons rfl (fun E W hb hc hf hE hV => Or.inl ⟨rfl, ?_⟩) ?_
                    · have e1 : E (.tmp 73) = _ := hV 9 73 (by kernel_rfl) (by kernel_rfl)
                      have e2 : E (.tmp 74) = _ := hV 10 74 (by kernel_rfl) (by kernel_rfl)
                      have j1 : ¬ k2 < m := by omega
                      clear hE hV
                      exact Does.value (w' := W) (by go_simp) ⟨rfl, Below.refl _ _⟩
                    refine AllV.cons rfl (fun E W hb hc hf hE hV => Or.inl ⟨rfl, ?_⟩) ?_
                    · have e1 : E (.tmp 66) = _ := hV 2 66 (by kernel_rfl) (by kernel_rfl)
                      clear hE hV
                      exact Does.value (w' := W) (by go_simp) ⟨rfl, Below.refl _ _⟩
                    refine AllV.cons rfl (fun E W hb hc hf hE hV => Or.inl ⟨rfl, ?_⟩) ?_
                    · have e1 : E (.tmp 69) = _ := hV 5 69 (by kernel_rfl) (by kernel_rfl)
                      clear hE hV
                      exact Does.value (w' := W) (by go_simp) ⟨rfl, Below.refl _ _⟩
                    refine AllV.cons rfl (fun E W hb hc hf hE hV => Or.inl ⟨rfl, ?_⟩) ?_
                    · have e1 : E (.tmp 72) = _ := hV 8 72 (by kernel_rfl) (by kernel_rfl)
                      clear hE hV
                      exact Does.value (w' := W) (by go_simp) ⟨rfl, Below.refl _ _⟩
                    refine AllV.cons rfl (fun E W hb hc hf hE hV => Or.inl ⟨rfl, ?_⟩) ?_
                    · have e1 : E (.tmp 75) = _ := hV 11 75 (by kernel_rfl) (by kernel_rfl)
                      clear hE hV
                      exact Does.value (w' := W) (by go_simp) ⟨rfl, Below.refl _ _⟩
                    exact AllV.nil
--ENDREGION11A
                  intro f W hf hb
                  have h6 : f 6 = .slice (some ⟨g3, 0, none⟩) m k3 := hf (12, 6) (by decide)
                  have h7 : f 7 = .slice (some ⟨g4, 0, none⟩) m k4 := hf (13, 7) (by decide)
                  have h8 : f 8 = .slice (some ⟨g1, 0, none⟩) m k1 := hf (14, 8) (by decide)
                  have h9 : f 9 = .slice (some ⟨g2, 0, none⟩) m k2 := hf (15, 9) (by decide)
                  simp only [fillSlots, List.setIfInBounds_toArray, List.set_cons_succ, List.set_cons_zero, h6, h7, h8, h9]
                  generalize f 64 = v64; generalize f 65 = v65; generalize f 66 = v66; generalize f 67 = v67; generalize f 68 = v68; generalize f 69 = v69; generalize f 70 = v70; generalize f 71 = v71; generalize f 72 = v72; generalize f 73 = v73; generalize f 74 = v74; generalize f 75 = v75
                  have HA9 := Lib.hid (And.intro ((HA7.out.1.mono hb).take m) (And.intro ((HA7.out.2.1.mono hb).take m) (And.intro ((HA7.out.2.2.1.mono hb).take m) ((HA7.out.2.2.2.mono hb).take m))))
                  have HF9 := Lib.hid (And.intro (frSub ((HF7.out.1.mono hb HZ7.out.1)) hmn) (And.intro (frSub ((HF7.out.2.1.mono hb HZ7.out.2.1)) hmn) (And.intro (frSub ((HF7.out.2.2.1.mono hb HZ7.out.2.2.1)) hmn) (frSub ((HF7.out.2.2.2.mono hb HZ7.out.2.2.2)) hmn))))
                  have HB9 := Lib.hid (below_step HB7.out hb)
                  clear hf hb h6 h7 h8 h9
                  go_wp2
                  go_roundw
                  case rel => exact ⟨m, g3, g4, g1, g2, k3, k4, k1, k2, P', Q', qs.take m, ps.take m, xs.take m, ys.take m, rfl, rfl, rfl, rfl, by omega, HN, Lib.hid ⟨HA9.out.2.2.1, HA9.out.2.2.2, HA9.out.1, HA9.out.2.1⟩, Lib.hid ⟨HF9.out.2.2.1, HF9.out.2.2.2, HF9.out.1, HF9.out.2.1⟩, HB9⟩
                  case measure =>
                    rw [rowAt_eq HA9.out.2.2.1 HN.out.lx, HN.out.vx, HM0.out]
                    exact HPP.out
      · clear LEAD hI
        go_wp2_with fail
        refine (natOf_any g1 0 k1 n xs wr HI.out.lx hk5 HI.out.n1 HA.out.1 HI.out.bx).mono ?_
        rintro e w7 ⟨s3, p3, l3, c3, rfl, h3, hb7⟩
        have N3 := Lib.hid h3
        have HA7 := Lib.hid ((show At wr .u64 g2 0 ys from HA.out.2.1).mono hb7)
        have HB7 := Lib.hid (below_step (show Below wA.heap.size wA wr from HB.out) hb7)
        clear h3 hb7
        go_wp2_with fail
        refine (natOf_any g2 0 k2 n ys w7 HI.out.ly hk5 HI.out.n1 HA7.out HI.out.by_).mono ?_
        rintro e w8 ⟨s4, p4, l4, c4, rfl, h4, hb8⟩
        have N4 := Lib.hid h4
        have N3 := Lib.hid (N3.out.mono hb8)
        have HB8 := Lib.hid (below_step HB7.out hb8)
        have r0 := wcell HB8.out B20.out; have r1 := wcell HB8.out B21.out; have r2 := wcell HB8.out B30.out; have r3 := wcell HB8.out B31.out
        have f0 := wfree HB8.out B20.out F20.out; have f1 := wfree HB8.out B21.out F21.out; have f2 := wfree HB8.out B30.out F30.out; have f3 := wfree HB8.out B31.out F31.out
        have hne : ¬ o3 = o2 := by have := HO.out; omega
        have hne2 : ¬ o2 = o3 := by have := HO.out; omega
        clear h4 hb8
        go_wp2
        have hRES := HI.out
        rw [hRES.vx] at N3
        rw [hRES.vy] at N4
        exact bodyPost_ret (v := .tuple #[.agg #[.int .u64 s3, .slice p3 l3 c3], .agg #[.int .u64 s4, .slice p4 l4 c4]]) (by simp [results, Tryz.results32, go_sem, r0, r1, r2, r3]) rfl
          ⟨P, Q, _, _, _, _, _, _, _, _, rfl, (N3.out.box r1).box (q := none) (k := 0) (d := 0) (by simp [go_sem, r3]), (N4.out.box r1).box (q := none) (k := 0) (d := 0) (by simp [go_sem, r3]), hRES.lt, hRES.le, hRES.gcd,
            (by have hBw : Below w.heap.size w w8 := HBA.out.trans (HB8.out.mono (by have := HBS.out; omega)); have hOO := HO.out; repeat' first | exact hBw | (refine Below.setCell ?_ (by simp; omega) _))⟩
end Go.Proofs.YthenfejgnjdkjaaGreatDoor
