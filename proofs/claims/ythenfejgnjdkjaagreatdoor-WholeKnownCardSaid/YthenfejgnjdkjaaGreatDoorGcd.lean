/- The greatest divisor of two integers: the program's. -/
import Derived.Test.YthenfejgnjdkjaaGreatDoorLeapOn
import Derived.Test.YthenfejgnjdkjaaGreatDoorTz
import Derived.Test.YthenfejgnjdkjaaGreatDoorDivN
import Derived.Test.YthenfejgnjdkjaaGreatDoorIntDiv
namespace Go.Proofs.YthenfejgnjdkjaaGreatDoor
open Go.RowKit

def Sized (M : Nat) : Prop := ∀ k, k ≤ M → (ds k).length ≤ 100000 ∧ bitLen k ≤ 6400000

set_option maxRecDepth 100000 in
set_option maxHeartbeats 1000000 in
theorem fits_any (s : Int) (p : Option Addr) (l c : Nat) (w : World) :
    Calls Tryz.prog 31 #[.agg #[.int .u64 s, .slice p l c]] w fun e w' => e = .returned (.bool ((l : Int) == 0)) ∧ Below w.heap.size w w' := by
  go_enter Tryz.func31, Tryz.ntmps31
  go_wp2_with fail
  refine (nsmall_any s p l c _).mono ?_
  rintro e w1 ⟨rfl, hb⟩
  have HB := Lib.hid (show Below w.heap.size w w1 from (by repeat' first | exact Below.refl _ _ | refine below_alloc ?_ _ | refine below_step ?_ (by assumption)))
  clear hb
  obtain ⟨q, hq⟩ : ∃ q, q = ((l : Int) == 0) := ⟨_, rfl⟩
  rw [← hq]
  have HQ := Lib.hid hq
  clear hq
  go_wp2
  go_ret
  exact ⟨ret_bool HQ.out, HB.out⟩

structure GK (w wr : World) (bR bX bY : Nat) : Prop where
  r0 : wr.cell? ⟨bR, 0, none⟩ = some (.int .u64 0)
  r1 : wr.cell? ⟨bR, 1, none⟩ = some (.slice none 0 0)
  f0 : wr.frozen? ⟨bR, 0, none⟩ = false
  f1 : wr.frozen? ⟨bR, 1, none⟩ = false
  x0 : wr.frozen? ⟨bX, 0, none⟩ = false
  x1 : wr.frozen? ⟨bX, 1, none⟩ = false
  y0 : wr.frozen? ⟨bY, 0, none⟩ = false
  y1 : wr.frozen? ⟨bY, 1, none⟩ = false
  t : Tab64 wr
  b : Below w.heap.size w wr
  lx : bX < wr.heap.size
  ly : bY < wr.heap.size
  ne : bR ≠ bX ∧ bR ≠ bY ∧ bX ≠ bY ∧ w.heap.size ≤ bR ∧ w.heap.size ≤ bX ∧ w.heap.size ≤ bY
  g : 0 < w.heap.size
theorem GK.mono {w wr w' : World} {bR bX bY : Nat} (h : GK w wr bR bX bY) (hb : Below wr.heap.size wr w') : GK w w' bR bX bY :=
  have hR : bR < wr.heap.size := World.block_lt_of_cell? _ _ h.r0
  ⟨wcell hb h.r0, wcell hb h.r1, wfree hb h.r0 h.f0, wfree hb h.r1 h.f1, by rw [hb.frozen (p := ⟨bX, 0, none⟩) h.lx]; exact h.x0, by rw [hb.frozen (p := ⟨bX, 1, none⟩) h.lx]; exact h.x1,
    by rw [hb.frozen (p := ⟨bY, 0, none⟩) h.ly]; exact h.y0, by rw [hb.frozen (p := ⟨bY, 1, none⟩) h.ly]; exact h.y1, h.t.mono hb, below_step h.b hb, Nat.lt_of_lt_of_le h.lx hb.size, Nat.lt_of_lt_of_le h.ly hb.size, h.ne, h.g⟩
theorem GK.set {w wr : World} {bR bX bY : Nat} (h : GK w wr bR bX bY) {z : Nat} (hz : z = bX ∨ z = bY) (o : Nat) (v : Value) : GK w (wr.setCell ⟨z, o, none⟩ v) bR bX bY := by
  have hne := h.ne
  have hs : (wr.setCell ⟨z, o, none⟩ v).heap.size = wr.heap.size := by simp [World.setCell]
  have hzR : z ≠ bR := by omega
  have hzt : z ≠ 0 := by have := h.g; omega
  refine ⟨?_, ?_, ?_, ?_, ?_, ?_, ?_, ?_, fun j hj => ?_, h.b.setCell (by show w.heap.size ≤ z; omega) v, by rw [hs]; exact h.lx, by rw [hs]; exact h.ly, hne, h.g⟩
  · rw [World.cell?_setCell_other _ _ _ _ (by intro e; injection e; omega)]; exact h.r0
  · rw [World.cell?_setCell_other _ _ _ _ (by intro e; injection e; omega)]; exact h.r1
  · rw [World.frozen?_setCell]; exact h.f0
  · rw [World.frozen?_setCell]; exact h.f1
  · rw [World.frozen?_setCell]; exact h.x0
  · rw [World.frozen?_setCell]; exact h.x1
  · rw [World.frozen?_setCell]; exact h.y0
  · rw [World.frozen?_setCell]; exact h.y1
  · rw [World.cell?_setCell_other _ _ _ _ (by intro e; injection e; omega)]; exact h.t j hj
def GBox (wr : World) (bX bY : Nat) (s : Int) (p : Option Addr) (l c : Nat) (t : Int) (q : Option Addr) (k d : Nat) : Prop :=
  wr.cell? ⟨bX, 0, none⟩ = some (.int .u64 s) ∧ wr.cell? ⟨bX, 1, none⟩ = some (.slice p l c) ∧ wr.cell? ⟨bY, 0, none⟩ = some (.int .u64 t) ∧ wr.cell? ⟨bY, 1, none⟩ = some (.slice q k d)
theorem GBox.mono {wr w' : World} {bX bY : Nat} {s t : Int} {p q : Option Addr} {l c k d : Nat} (h : GBox wr bX bY s p l c t q k d) (hb : Below wr.heap.size wr w') : GBox w' bX bY s p l c t q k d :=
  ⟨wcell hb h.1, wcell hb h.2.1, wcell hb h.2.2.1, wcell hb h.2.2.2⟩

set_option maxRecDepth 100000 in
set_option maxHeartbeats 4000000 in
theorem gcd_any (M X Y : Nat) (q1 q2 : Bool) (s1 s2 : Int) (p1 p2 : Option Addr) (l1 c1 l2 c2 : Nat) (w : World) (hM : Sized M) (hX : X ≤ M) (hY : Y ≤ M) (h1 : IsN w s1 p1 l1 c1 X) (h2 : IsN w s2 p2 l2 c2 Y) (hT : Tab64 w) :
    Calls Tryz.prog 14 #[.agg #[.bool q1, .int .u64 s1, .slice p1 l1 c1], .agg #[.bool q2, .int .u64 s2, .slice p2 l2 c2]] w (RetN w (Nat.gcd X Y)) := by
  have H1 := Lib.hid h1; have H2 := Lib.hid h2; have HT := Lib.hid hT; have HM := Lib.hid hM
  have hgt : 0 < w.heap.size := World.block_lt_of_cell? _ _ (hT 0 (by omega))
  obtain ⟨G, hG⟩ : ∃ G, G = Nat.gcd X Y := ⟨_, rfl⟩
  rw [← hG]
  have HG := Lib.hid hG
  clear h1 h2 hT hM hG
  go_enter Tryz.func14, Tryz.ntmps14
  go_wp2
  go_big_region
  all_goals
    first
    | obtain ⟨wA, hwA⟩ : ∃ wA, wA = (((((w.alloc (.cells #[.bool q1, .int .u64 s1, .slice p1 l1 c1] 27)).alloc (.cells #[.bool q2, .int .u64 s2, .slice p2 l2 c2] 27)).alloc (.cells #[.int .u64 0, .slice none 0 0] 25)).alloc (.cells #[.int .u64 s1, .slice p1 l1 c1] 25)).alloc (.cells #[.int .u64 s2, .slice p2 l2 c2] 25)).drew := ⟨_, rfl⟩
      rw [← hwA]
      obtain ⟨bX, hbX⟩ : ∃ b, b = w.heap.size + 1 + 1 + 1 := ⟨_, rfl⟩
      obtain ⟨bY, hbY⟩ : ∃ b, b = w.heap.size + 1 + 1 + 1 + 1 := ⟨_, rfl⟩
      obtain ⟨bR, hbR⟩ : ∃ b, b = w.heap.size + 1 + 1 := ⟨_, rfl⟩
      rw [← hbY, ← hbX, ← hbR]
      have X0 : wA.cell? ⟨bX, 0, none⟩ = some (.int .u64 s1) := by rw [hwA, hbX]; simp [go_sem]
      have FX0 : wA.frozen? ⟨bX, 0, none⟩ = false := by rw [hwA, hbX]; simp [go_sem]
      have X1 : wA.cell? ⟨bX, 1, none⟩ = some (.slice p1 l1 c1) := by rw [hwA, hbX]; simp [go_sem]
      have FX1 : wA.frozen? ⟨bX, 1, none⟩ = false := by rw [hwA, hbX]; simp [go_sem]
      have Y0 : wA.cell? ⟨bY, 0, none⟩ = some (.int .u64 s2) := by rw [hwA, hbY]; simp [go_sem]
      have FY0 : wA.frozen? ⟨bY, 0, none⟩ = false := by rw [hwA, hbY]; simp [go_sem]
      have Y1 : wA.cell? ⟨bY, 1, none⟩ = some (.slice p2 l2 c2) := by rw [hwA, hbY]; simp [go_sem]
      have FY1 : wA.frozen? ⟨bY, 1, none⟩ = false := by rw [hwA, hbY]; simp [go_sem]
      have R0 : wA.cell? ⟨bR, 0, none⟩ = some (.int .u64 0) := by rw [hwA, hbR]; simp [go_sem]
      have FR0 : wA.frozen? ⟨bR, 0, none⟩ = false := by rw [hwA, hbR]; simp [go_sem]
      have R1 : wA.cell? ⟨bR, 1, none⟩ = some (.slice none 0 0) := by rw [hwA, hbR]; simp [go_sem]
      have FR1 : wA.frozen? ⟨bR, 1, none⟩ = false := by rw [hwA, hbR]; simp [go_sem]
      have hBA : Below w.heap.size w wA := by rw [hwA]; exact Below.drew (by repeat' first | exact Below.refl _ _ | refine below_alloc ?_ _)
      have hne : bR ≠ bX ∧ bR ≠ bY ∧ bX ≠ bY ∧ w.heap.size ≤ bR ∧ w.heap.size ≤ bX ∧ w.heap.size ≤ bY := by omega
      clear hwA hbX hbY hbR
    | obtain ⟨wA, hwA⟩ : ∃ wA, wA = (((((w.alloc (.cells #[.bool q1, .int .u64 s1, .slice p1 l1 c1] 27)).alloc (.cells #[.bool q2, .int .u64 s2, .slice p2 l2 c2] 27)).alloc (.cells #[.int .u64 0, .slice none 0 0] 25)).alloc (.cells #[.int .u64 s2, .slice p2 l2 c2] 25)).alloc (.cells #[.int .u64 s1, .slice p1 l1 c1] 25)).drew := ⟨_, rfl⟩
      rw [← hwA]
      obtain ⟨bX, hbX⟩ : ∃ b, b = w.heap.size + 1 + 1 + 1 + 1 := ⟨_, rfl⟩
      obtain ⟨bY, hbY⟩ : ∃ b, b = w.heap.size + 1 + 1 + 1 := ⟨_, rfl⟩
      obtain ⟨bR, hbR⟩ : ∃ b, b = w.heap.size + 1 + 1 := ⟨_, rfl⟩
      rw [← hbX, ← hbY, ← hbR]
      have X0 : wA.cell? ⟨bX, 0, none⟩ = some (.int .u64 s1) := by rw [hwA, hbX]; simp [go_sem]
      have FX0 : wA.frozen? ⟨bX, 0, none⟩ = false := by rw [hwA, hbX]; simp [go_sem]
      have X1 : wA.cell? ⟨bX, 1, none⟩ = some (.slice p1 l1 c1) := by rw [hwA, hbX]; simp [go_sem]
      have FX1 : wA.frozen? ⟨bX, 1, none⟩ = false := by rw [hwA, hbX]; simp [go_sem]
      have Y0 : wA.cell? ⟨bY, 0, none⟩ = some (.int .u64 s2) := by rw [hwA, hbY]; simp [go_sem]
      have FY0 : wA.frozen? ⟨bY, 0, none⟩ = false := by rw [hwA, hbY]; simp [go_sem]
      have Y1 : wA.cell? ⟨bY, 1, none⟩ = some (.slice p2 l2 c2) := by rw [hwA, hbY]; simp [go_sem]
      have FY1 : wA.frozen? ⟨bY, 1, none⟩ = false := by rw [hwA, hbY]; simp [go_sem]
      have R0 : wA.cell? ⟨bR, 0, none⟩ = some (.int .u64 0) := by rw [hwA, hbR]; simp [go_sem]
      have FR0 : wA.frozen? ⟨bR, 0, none⟩ = false := by rw [hwA, hbR]; simp [go_sem]
      have R1 : wA.cell? ⟨bR, 1, none⟩ = some (.slice none 0 0) := by rw [hwA, hbR]; simp [go_sem]
      have FR1 : wA.frozen? ⟨bR, 1, none⟩ = false := by rw [hwA, hbR]; simp [go_sem]
      have hBA : Below w.heap.size w wA := by rw [hwA]; exact Below.drew (by repeat' first | exact Below.refl _ _ | refine below_alloc ?_ _)
      have hne : bR ≠ bX ∧ bR ≠ bY ∧ bX ≠ bY ∧ w.heap.size ≤ bR ∧ w.heap.size ≤ bX ∧ w.heap.size ≤ bY := by omega
      clear hwA hbX hbY hbR
    have HBOX := Lib.hid (show GBox wA bX bY s1 p1 l1 c1 s2 p2 l2 c2 from ⟨X0, X1, Y0, Y1⟩)
    have HGK := Lib.hid (show GK w wA bR bX bY from ⟨R0, R1, FR0, FR1, FX0, FX1, FY0, FY1, HT.out.mono hBA, hBA, World.block_lt_of_cell? _ _ X0, World.block_lt_of_cell? _ _ Y0, hne, hgt⟩)
    have HN1 := Lib.hid (H1.out.mono hBA); have HN2 := Lib.hid (H2.out.mono hBA)
    have HNE := Lib.hid hne
    clear X0 X1 Y0 Y1 R0 R1 FX0 FX1 FY0 FY1 FR0 FR1 hBA hne H1 H2 HT hgt
    go_wp2_with fail
    go_loopg [9] Y (fun Q _ wr => ∃ P s p l c t q k d, Hid (GBox wr bX bY s p l c t q k d) ∧ Hid (GK w wr bR bX bY) ∧ Hid (IsN wr s p l c P ∧ IsN wr t q k d Q) ∧ Hid (Nat.gcd P Q = G ∧ P ≤ M ∧ Q ≤ M))
    case atStart => exact ⟨X, s1, p1, l1, c1, s2, p2, l2, c2, HBOX, HGK, Lib.hid ⟨HN1.out, HN2.out⟩, Lib.hid ⟨HG.out.symm, hX, hY⟩⟩
    case round =>
      clear HBOX HGK HN1 HN2
      obtain ⟨P, s, p, l, c, t, q, k, d, HBX, HGK, HN, HI⟩ := hrel
      obtain ⟨Q, hQ⟩ : ∃ Q, Q = gk := ⟨_, rfl⟩
      rw [← hQ] at HN HI
      have HQ := Lib.hid hQ
      clear hQ
      obtain ⟨b0, b1, b2, b3⟩ := HBX.out
      go_wp2_with fail
      refine (fits_any t q k d wr).mono ?_
      rintro e w2 ⟨rfl, hb⟩
      have HBX2 := Lib.hid (HBX.out.mono hb); have HGK2 := Lib.hid (HGK.out.mono hb)
      have HN2 := Lib.hid (And.intro (HN.out.1.mono hb) (HN.out.2.mono hb))
      clear hb b0 b1 b2 b3 HBX HGK HN
      obtain ⟨b0, b1, b2, b3⟩ := HBX2.out
      rcases HN2.out.2.pos with ⟨hk0, hQ64, hts, hq0, hd0⟩ | hk0
      · subst hk0 hts hq0 hd0
        have e0 : (((0 : Nat) : Int) == 0) = true := rfl
        rw [e0]
        by_cases hQ0 : Q = 0
        · subst hQ0
          go_wp2_with fail
          refine (div_zero s p l c w2).mono ?_
          rintro e w3 ⟨rfl, hb⟩
          have HBX3 := Lib.hid (HBX2.out.mono hb); have HGK3 := Lib.hid (HGK2.out.mono hb)
          have HN3 := Lib.hid (HN2.out.1.mono hb)
          have HPG := Lib.hid (show P = G by have := HI.out.1; rwa [Nat.gcd_zero_right] at this)
          clear hb b0 b1 b2 b3 HBX2 HGK2 HN2
          obtain ⟨b0, b1, b2, b3⟩ := HBX3.out
          have zx := HGK3.out.lx; have zy := HGK3.out.ly; have zr : bR < w3.heap.size := World.block_lt_of_cell? _ _ HGK3.out.r0
          have nx1 : ¬ bX = w3.heap.size := by omega
          have nx2 : ¬ bX = w3.heap.size + 1 := by omega
          have ny1 : ¬ bY = w3.heap.size := by omega
          have ny2 : ¬ bY = w3.heap.size + 1 := by omega
          have nr1 : ¬ bR = w3.heap.size := by omega
          have nr2 : ¬ bR = w3.heap.size + 1 := by omega
          have r0 := HGK3.out.r0; have r1 := HGK3.out.r1; have f0 := HGK3.out.f0; have f1 := HGK3.out.f1
          go_wp2
          have hnn := HNE.out
          have e0 := fun (A D : Obj) => wcell (w1 := (((w3.setCell ⟨bR, 0, none⟩ (.int .u64 s)).setCell ⟨bR, 1, none⟩ (.slice p l c)).alloc A).alloc D) (below_alloc (below_alloc (Below.refl _ _) _) _) (show ((w3.setCell ⟨bR, 0, none⟩ (.int .u64 s)).setCell ⟨bR, 1, none⟩ (.slice p l c)).cell? ⟨bR, 0, none⟩ = some (.int .u64 s) by simp [go_sem, r0])
          have e1 := fun (A D : Obj) => wcell (w1 := (((w3.setCell ⟨bR, 0, none⟩ (.int .u64 s)).setCell ⟨bR, 1, none⟩ (.slice p l c)).alloc A).alloc D) (below_alloc (below_alloc (Below.refl _ _) _) _) (show ((w3.setCell ⟨bR, 0, none⟩ (.int .u64 s)).setCell ⟨bR, 1, none⟩ (.slice p l c)).cell? ⟨bR, 1, none⟩ = some (.slice p l c) by simp [go_sem, r1])
          refine bodyPost_ret (v := .agg #[.int .u64 s, .slice p l c]) (by simp [results, Tryz.results14, go_sem, e0, e1]) rfl ⟨s, p, l, c, rfl, ?_, ?_⟩
          · rw [← HPG.out]
            exact (HN3.out.box r1).mono (below_alloc (below_alloc (Below.refl _ _) _) _)
          · repeat' first | exact HGK3.out.b | refine below_alloc ?_ _ | (refine Below.setCell ?_ (by simp; omega) _)
        · obtain ⟨R, hR⟩ : ∃ R, R = P % Q := ⟨_, rfl⟩
          have hrem : R < Q := by rw [hR]; exact Nat.mod_lt _ (by omega)
          have hDV := fun (h1 : IsN w2 s p l c P) (h2 : IsN w2 ((Q : Nat) : Int) none 0 0 Q) => div_any s (Q : Int) p none l c 0 0 P Q w2 (by have := (HM.out P HI.out.2.1).1; omega) (by omega) h1 h2
          rw [← hR] at hDV
          have DV := Lib.hid hDV
          have HGG := Lib.hid (show Nat.gcd Q R = G by rw [hR, ← HI.out.1, Nat.gcd_comm P Q, Nat.gcd_comm Q (P % Q)]; exact (Nat.gcd_rec Q P).symm)
          clear hDV hR
          go_wp2_with fail
          refine (DV.out HN2.out.1 HN2.out.2).mono ?_
          rintro e w3 ⟨s3, p3, l3, c3, s4, p4, l4, c4, rfl, h3, h4, hb⟩
          rcases h4.pos with ⟨hl4, hr64, hs4, hp4, hc4⟩ | hl4
          · subst hl4 hs4 hp4 hc4
            have HBX3 := Lib.hid (HBX2.out.mono hb); have HGK3 := Lib.hid (HGK2.out.mono hb)
            clear hb b0 b1 b2 b3 HBX2 HGK2 HN2 h3 h4 DV
            obtain ⟨b0, b1, b2, b3⟩ := HBX3.out
            have zx := HGK3.out.lx; have zy := HGK3.out.ly; have zr : bR < w3.heap.size := World.block_lt_of_cell? _ _ HGK3.out.r0
            have nx1 : ¬ bX = w3.heap.size := by omega
            have nx2 : ¬ bX = w3.heap.size + 1 := by omega
            have ny1 : ¬ bY = w3.heap.size := by omega
            have ny2 : ¬ bY = w3.heap.size + 1 := by omega
            have nr1 : ¬ bR = w3.heap.size := by omega
            have nr2 : ¬ bR = w3.heap.size + 1 := by omega
            go_wp2_with fail
            obtain ⟨w4, hw4⟩ : ∃ w4, w4 = (w3.alloc (.cells #[.int .u64 s3, .slice p3 l3 c3] 25)).alloc (.cells #[.int .u64 (R : Int), .slice none 0 0] 25) := ⟨_, rfl⟩
            rw [← hw4]
            have hb4 : Below w3.heap.size w3 w4 := by rw [hw4]; exact below_alloc (below_alloc (Below.refl _ _) _) _
            obtain ⟨o, ho⟩ : ∃ o, o = w3.heap.size + 1 := ⟨_, rfl⟩
            rw [← ho]
            have g0 : w4.cell? ⟨o, 0, none⟩ = some (.int .u64 (R : Int)) := by rw [hw4, ho]; simp [go_sem]
            have g1 : w4.cell? ⟨o, 1, none⟩ = some (.slice none 0 0) := by rw [hw4, ho]; simp [go_sem]
            have HGK4 := Lib.hid (HGK3.out.mono hb4)
            clear hw4 hb4 ho b0 b1 b2 b3 zx zy zr nx1 nx2 ny1 ny2 nr1 nr2 HGK3 HBX3
            refine (nsmall_any (Q : Int) none 0 0 w4).mono ?_
            rintro e w5 ⟨rfl, hb⟩
            have HGK5 := Lib.hid (HGK4.out.mono hb)
            have g0 := wcell hb g0; have g1 := wcell hb g1
            clear hb HGK4
            go_wp2_with fail
            refine (nsmall_any (R : Int) none 0 0 w5).mono ?_
            rintro e w6 ⟨rfl, hb⟩
            have HGK6 := Lib.hid (HGK5.out.mono hb)
            clear hb HGK5 g0 g1
            go_wp2_with fail
            refine (gcdWords_any Q R w6 hQ0 hQ64 (by omega) HGK6.out.t).mono ?_
            rintro e w' ⟨rfl, rfl⟩
            rw [HGG.out]
            go_wp2_with fail
            refine (of_any (G : Int) w6).mono ?_
            rintro e w7 ⟨rfl, hb⟩
            have HGK7 := Lib.hid (HGK6.out.mono hb)
            clear hb HGK6
            have r0 := HGK7.out.r0; have r1 := HGK7.out.r1; have f0 := HGK7.out.f0; have f1 := HGK7.out.f1
            go_wp2
            have hnn := HNE.out
            have hGl : G < 2 ^ 64 := by rw [← HGG.out]; exact Nat.lt_of_le_of_lt (Nat.gcd_le_left _ (by omega)) hQ64
            refine bodyPost_ret (v := .agg #[.int .u64 (G : Int), .slice none 0 0]) (by simp [results, Tryz.results14, go_sem, r0, r1]) rfl ⟨_, _, _, _, rfl, IsN.short hGl, ?_⟩
            repeat' first | exact HGK7.out.b | refine below_alloc ?_ _ | (refine Below.setCell ?_ (by simp; omega) _)
          · have := (h4.row hl4).1
            omega
      · have e0 : ((k : Int) == 0) = false := beq_eq_false_iff_ne.2 (by omega)
        rw [e0]
        have hQ64 := (HN2.out.2.row hk0).1
        obtain ⟨R, hR⟩ : ∃ R, R = P % Q := ⟨_, rfl⟩
        have hrem : R < Q := by rw [hR]; exact Nat.mod_lt _ (by omega)
        have hDV := fun (h1 : IsN w2 s p l c P) (h2 : IsN w2 t q k d Q) => div_any s t p q l c k d P Q w2 (by have := (HM.out P HI.out.2.1).1; omega) (by omega) h1 h2
        rw [← hR] at hDV
        have DV := Lib.hid hDV
        have HGG := Lib.hid (show Nat.gcd Q R = G by rw [hR, ← HI.out.1, Nat.gcd_comm P Q, Nat.gcd_comm Q (P % Q)]; exact (Nat.gcd_rec Q P).symm)
        clear hDV hR
        go_wp2_with fail
        refine (DV.out HN2.out.1 HN2.out.2).mono ?_
        rintro e w3 ⟨s3, p3, l3, c3, s4, p4, l4, c4, rfl, h3, h4, hb⟩
        have HBX3 := Lib.hid (HBX2.out.mono hb); have HGK3 := Lib.hid (HGK2.out.mono hb)
        have HN3 := Lib.hid (And.intro (HN2.out.2.mono hb) h4)
        clear hb b0 b1 b2 b3 HBX2 HGK2 HN2 h3 h4 DV
        obtain ⟨b0, b1, b2, b3⟩ := HBX3.out
        have zx := HGK3.out.lx; have zy := HGK3.out.ly; have zr : bR < w3.heap.size := World.block_lt_of_cell? _ _ HGK3.out.r0
        have nx1 : ¬ bX = w3.heap.size := by omega
        have nx2 : ¬ bX = w3.heap.size + 1 := by omega
        have ny1 : ¬ bY = w3.heap.size := by omega
        have ny2 : ¬ bY = w3.heap.size + 1 := by omega
        have nr1 : ¬ bR = w3.heap.size := by omega
        have nr2 : ¬ bR = w3.heap.size + 1 := by omega
        go_wp2_with fail
        obtain ⟨w4, hw4⟩ : ∃ w4, w4 = (w3.alloc (.cells #[.int .u64 s3, .slice p3 l3 c3] 25)).alloc (.cells #[.int .u64 s4, .slice p4 l4 c4] 25) := ⟨_, rfl⟩
        rw [← hw4]
        have hb4 : Below w3.heap.size w3 w4 := by rw [hw4]; exact below_alloc (below_alloc (Below.refl _ _) _) _
        have HBX4 := Lib.hid (HBX3.out.mono hb4); have HGK4 := Lib.hid (HGK3.out.mono hb4)
        have HN4 := Lib.hid (And.intro (HN3.out.1.mono hb4) (HN3.out.2.mono hb4))
        clear hw4 hb4 b0 b1 b2 b3 zx zy zr nx1 nx2 ny1 ny2 nr1 nr2 HGK3 HBX3 HN3
        have hQM := HM.out Q HI.out.2.2
        refine (leapOn_any Q R t s4 q p4 k d l4 c4 w4 HN4.out.1 HN4.out.2 hQM.1 (HM.out R (by have := HI.out.2.2; omega)).1 (by omega) hrem hQM.2).mono ?_
        rintro e w5 ⟨P', Q', s5, p5, l5, c5, s6, p6, l6, c6, rfl, h5, h6, hlt, hle, hg, hb⟩
        have HBX5 := Lib.hid (HBX4.out.mono hb); have HGK5 := Lib.hid (HGK4.out.mono hb)
        have HN5 := Lib.hid (And.intro h5 h6)
        have HLL := Lib.hid (show Nat.gcd P' Q' = G ∧ P' ≤ M ∧ Q' ≤ M ∧ Q' < Q by refine ⟨hg.trans HGG.out, ?_, ?_, ?_⟩ <;> have := HI.out.2.2 <;> omega)
        clear h5 h6 hlt hle hg hb HBX4 HGK4 HN4 HI HGG hQM
        obtain ⟨b0, b1, b2, b3⟩ := HBX5.out
        have x0 := HGK5.out.x0; have x1 := HGK5.out.x1; have y0 := HGK5.out.y0; have y1 := HGK5.out.y1
        have nxy : ¬ bX = bY := HNE.out.2.2.1
        have nyx : ¬ bY = bX := fun h => nxy h.symm
        go_wp2
        go_roundg Q'
        case measure => have := HLL.out; have := HQ.out; omega
        case rel =>
          refine ⟨P', s5, p5, l5, c5, s6, p6, l6, c6, Lib.hid ⟨?_, ?_, ?_, ?_⟩, Lib.hid ((((HGK5.out.set (Or.inl rfl) _ _).set (Or.inl rfl) _ _).set (Or.inr rfl) _ _).set (Or.inr rfl) _ _), Lib.hid ⟨?_, ?_⟩, Lib.hid ⟨HLL.out.1, HLL.out.2.1, HLL.out.2.2.1⟩⟩
          · simp [go_sem, b0]
          · simp [go_sem, b1]
          · simp [go_sem, b2]
          · simp [go_sem, b3]
          · exact (HN5.out.1.box b1).box (q := q) (k := k) (d := d) (by simp [go_sem, b3])
          · exact (HN5.out.2.box b1).box (q := q) (k := k) (d := d) (by simp [go_sem, b3])
end Go.Proofs.YthenfejgnjdkjaaGreatDoor
