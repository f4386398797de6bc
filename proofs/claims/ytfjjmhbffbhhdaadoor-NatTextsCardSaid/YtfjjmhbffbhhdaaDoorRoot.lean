/- The root, out of what quotients, sums and halves do. -/
import Derived.Test.YtfjjmhbffbhhdaaDoorDivS
import Derived.Test.YtfjjmhbffbhhdaaDoorShiftS
import Derived.Test.YtfjjmhbffbhhdaaDoorRefCmp
import Derived.Deep.LoopGhost
namespace Go.Proofs.YtfjjmhbffbhhdaaDoor
open Go.RowKit

theorem newton_ge {n r x : Nat} (hr : r * r ≤ n) (hx : 0 < x) : r ≤ (x + n / x) / 2 := by
  by_cases h : 2 * r ≤ x + n / x
  · omega
  · exfalso
    have h1 : n < x * (n / x + 1) := Nat.lt_mul_div_succ n hx
    generalize n / x = q at *
    have hle : x ≤ 2 * r := by omega
    obtain ⟨y, hy⟩ : ∃ y, x + y = 2 * r := ⟨2 * r - x, by omega⟩
    have h2 : q + 1 ≤ y := by omega
    have h3 : x * (q + 1) ≤ x * y := Nat.mul_le_mul_left x h2
    have h4 : x * y ≤ r * r := by
      rcases Nat.le_total x r with h | h
      · obtain ⟨d, rfl⟩ := Nat.exists_eq_add_of_le h
        have : y = x + d + d := by omega
        subst this
        have e : (x + d) * (x + d) = x * (x + d + d) + d * d := by grind
        omega
      · obtain ⟨d, rfl⟩ := Nat.exists_eq_add_of_le h
        have : y + d = r := by omega
        subst this
        have e : (y + d) * (y + d) = (y + d + d) * y + d * d := by grind
        omega
    omega

theorem newton_lt {n r x : Nat} (hr : n < (r + 1) * (r + 1)) (hx : r < x) : (x + n / x) / 2 < x := by
  have h0 : 0 < x := by omega
  have h1 : (r + 1) * (r + 1) ≤ x * x := Nat.mul_le_mul (by omega) (by omega)
  have h2 : n / x < x := (Nat.div_lt_iff_lt_mul h0).2 (by omega)
  omega

theorem start_ge {n r k : Nat} (hr : r * r ≤ n) (hn : n < 2 ^ k * 2 ^ k) : r ≤ 2 ^ k := by
  by_cases h : r ≤ 2 ^ k
  · exact h
  · exfalso
    have : 2 ^ k * 2 ^ k ≤ r * r := Nat.mul_le_mul (by omega) (by omega)
    omega

set_option maxHeartbeats 400000 in
theorem root_zero (w : World) (s : Int) (p : Option Addr) (l c : Nat) (h : IsN w s p l c 0) :
    Calls Tryd.prog 13 #[.agg #[.int .u64 s, .slice p l c]] w (RetN w 0) := by
  have H := Lib.hid h; clear h
  go_enter Tryd.func13, Tryd.ntmps13
  go_wp2_with fail
  refine (nbits_any 0 s p l c _ (H.out.mono (by repeat' first | exact Below.refl _ _ | refine below_alloc ?_ _)) (by rw [ds_one (by omega)]; omega)).mono ?_
  rintro e w1 ⟨rfl, hb⟩
  rw [show bitLen 0 = 0 from rfl]
  obtain ⟨hc, hf⟩ := bcell hb
  have HB : Below w.heap.size w w1 := (by repeat' first | exact Below.refl _ _ | refine below_alloc ?_ _ | refine below_step ?_ (by assumption))
  go_wp2
  exact bodyPost_ret (v := .agg #[.int .u64 0, .slice none 0 0]) (by simp [results, Tryd.results13, go_sem, hc]) rfl (RetN.short (n := 0) (by omega) (by repeat' first | exact HB | (refine Below.setCell ?_ (by simp) _)))

set_option maxRecDepth 100000 in
set_option maxHeartbeats 1000000 in
theorem root_of (n r K : Nat) (hr : r * r ≤ n) (hr2 : n < (r + 1) * (r + 1)) (hn0 : n ≠ 0) (hK : K = (bitLen n + 1) / 2) (hnl : (ds n).length ≤ 1000000) (hnl2 : (ds (2 ^ K + n)).length ≤ 1000000)
    (HU : ∀ w, Calls Tryd.prog 37 #[.agg #[.int .u64 1, .slice none 0 0], .int .i64 (K : Int)] w (RetN w (2 ^ K)))
    (HD : ∀ w s p l c t q k d x, IsN w s p l c n → IsN w t q k d x → 0 < x → x ≤ 2 ^ K → Calls Tryd.prog 8 #[.agg #[.int .u64 s, .slice p l c], .agg #[.int .u64 t, .slice q k d]] w (RetD w (n / x) (n % x)))
    (HA : ∀ w s p l c t q k d x y, IsN w s p l c x → IsN w t q k d y → x ≤ 2 ^ K → y ≤ n → Calls Tryd.prog 27 #[.agg #[.int .u64 s, .slice p l c], .agg #[.int .u64 t, .slice q k d]] w (RetN w (x + y)))
    (HS : ∀ w s p l c x, IsN w s p l c x → x ≤ 2 ^ K + n → Calls Tryd.prog 38 #[.agg #[.int .u64 s, .slice p l c], .int .i64 1] w (RetN w (x / 2)))
    (w : World) (s : Int) (p : Option Addr) (l c : Nat) (h : IsN w s p l c n) :
    Calls Tryd.prog 13 #[.agg #[.int .u64 s, .slice p l c]] w (RetN w r) := by
  have HRR := Lib.hid (And.intro hr hr2)
  have H := Lib.hid h
  have hU := Lib.hid HU; have hD := Lib.hid HD; have hA := Lib.hid HA; have hS := Lib.hid HS
  have hN0 := Lib.hid hn0
  have hlb : bitLen n ≤ 64000000 := by
    have h1 := bitLen_ds n
    have h2 := bitLen_lt_pow.1 (getD_lt (ds_lt n) (by omega) ((ds n).length - 1))
    have := ds_pos n
    omega
  have hq : (((bitLen n : Nat) : Int) + 1) / 2 = (K : Int) := by omega
  have d0 : (((bitLen n : Nat) : Int) == 0) = false := beq_eq_false_iff_ne.2 (by have := bitLen_pos hn0; omega)
  have hKK := Lib.hid hK
  have hLL := Lib.hid hnl2
  clear h HU HD HA HS hr hr2 hn0 hK hnl2
  go_enter Tryd.func13, Tryd.ntmps13
  go_wp2_with fail
  refine (nbits_any n s p l c _ (H.out.mono (by repeat' first | exact Below.refl _ _ | refine below_alloc ?_ _)) (by omega)).mono ?_
  rintro e w1 ⟨rfl, hb⟩
  obtain ⟨hc, hf⟩ := bcell hb
  have HB : Below w.heap.size w w1 := (by repeat' first | exact Below.refl _ _ | refine below_alloc ?_ _ | refine below_step ?_ (by assumption))
  go_wp2_with fail
  obtain ⟨g, hg⟩ : ∃ g, g = w.heap.size := ⟨_, rfl⟩
  have q0 : w1.cell? ⟨g, 0, none⟩ = some (.int .u64 s) := by simp [hg, hc, go_sem]
  have q1 : w1.cell? ⟨g, 1, none⟩ = some (.slice p l c) := by simp [hg, hc, go_sem]
  have q2 : w1.cell? ⟨g + 1, 0, none⟩ = some (.int .u64 0) := by simp [hg, hc, go_sem]
  have q3 : w1.cell? ⟨g + 1, 1, none⟩ = some (.slice none 0 0) := by simp [hg, hc, go_sem]
  have f2 : w1.frozen? ⟨g + 1, 0, none⟩ = false := by simp [hg, hf, go_sem]
  have f3 : w1.frozen? ⟨g + 1, 1, none⟩ = false := by simp [hg, hf, go_sem]
  have HG := Lib.hid hg
  have gz : g + 1 < w1.heap.size := by have := hb.size; simp at this; omega
  rw [← hg]
  clear hc hf hb hg
  have hNN := Lib.hid (H.out.mono HB)
  have hw1 : IntKind.i64.wrap (((bitLen n : Nat) : Int) + 1) = ((bitLen n : Nat) : Int) + 1 := by rw [IntKind.wrap_i64]; omega
  have hw2 : IntKind.i64.wrap ((((bitLen n : Nat) : Int) + 1).tdiv 2) = (K : Int) := by rw [Int.tdiv_eq_ediv_of_nonneg (by omega), hq, IntKind.wrap_i64]; omega
--REGION
  refine region_phase (T := [0, 1, 2, 3, 4, 5, 6]) (slots := [12, 13, 14, 15, 16, 17, 3]) (fuel := 1) (n := 7) (deps := [0, 0, 3, 4, 8, 21, 0, 127]) (Tm := 127) (Lm := 127)
      (L := #[true, true, true, true, true, true, true, false])
      (V := Tab [.is (.agg #[.int .u64 1, .slice none 0 0]), .is (.agg #[.int .u64 s, .slice p l c]), .is (.int .i64 (bitLen n : Nat)), .is (.int .i64 ((bitLen n : Nat) + 1)), .is (.int .i64 (K : Int)), .num (2 ^ K), .newbox (g + 1 + 1)] 0)
      (by kernel_rfl) rfl Tab.stable (by kernel_rfl) (by kernel_rfl) (by kernel_rfl) (by kernel_rfl) (by kernel_rfl) (by kernel_rfl) (by kernel_rfl) ?_ ?_
  · skip
    refine AllGo.cons rfl (fun E W hb hc hf hE hV => ⟨rfl, ?_⟩) ?_
    · clear hE hV
      exact Does.call (w' := W) (by go_simp) ((of_any _ _).mono fun e w' ⟨h1, h2⟩ => ⟨_, h1, rfl, h2⟩)
    refine AllGo.cons rfl (fun E W hb hc hf hE hV => ⟨rfl, ?_⟩) ?_
    · have e1 : E (.tmp 1) = .pointer (some ⟨g, 0, none⟩) := hE 1 (by kernel_rfl)
      have q := wcell hb q0
      have q' := wcell hb q1
      clear hE hV
      exact Does.value (w' := W) (by go_simp) ⟨rfl, Below.refl _ _⟩
    refine AllGo.cons rfl (fun E W hb hc hf hE hV => ⟨rfl, ?_⟩) ?_
    · have e1 : E (.tmp 13) = _ := hV 1 13 (by kernel_rfl) (by kernel_rfl) (by kernel_rfl)
      clear hE hV
      exact Does.call (w' := W) (by go_simp) ((nbits_any n s p l c _ (hNN.out.mono hb) (by omega)).mono fun e w' ⟨h1, h2⟩ => ⟨_, h1, rfl, h2⟩)
    refine AllGo.cons rfl (fun E W hb hc hf hE hV => ⟨rfl, ?_⟩) ?_
    · have e1 : E (.tmp 14) = _ := hV 2 14 (by kernel_rfl) (by kernel_rfl) (by kernel_rfl)
      clear hE hV
      exact Does.value (w' := W) (by go_simp) ⟨rfl, Below.refl _ _⟩
    refine AllGo.cons rfl (fun E W hb hc hf hE hV => ⟨rfl, ?_⟩) ?_
    · have e1 : E (.tmp 15) = _ := hV 3 15 (by kernel_rfl) (by kernel_rfl) (by kernel_rfl)
      clear hE hV
      exact Does.value (w' := W) (by go_simp) ⟨rfl, Below.refl _ _⟩
    refine AllGo.cons rfl (fun E W hb hc hf hE hV => ⟨rfl, ?_⟩) ?_
    · have e1 : E (.tmp 12) = _ := hV 0 12 (by kernel_rfl) (by kernel_rfl) (by kernel_rfl)
      have e2 : E (.tmp 16) = _ := hV 4 16 (by kernel_rfl) (by kernel_rfl) (by kernel_rfl)
      clear hE hV
      exact Does.call (w' := W) (by go_simp) ((hU.out W).mono fun e w' ⟨s, p, l, c, h1, h2, h3⟩ => ⟨_, h1, ⟨s, p, l, c, rfl, h2⟩, h3⟩)
    refine AllGo.cons rfl (fun E W hb hc hf hE hV => ⟨rfl, ?_⟩) ?_
    · clear hE hV
      refine Does.value (v := .pointer (some ⟨W.heap.size, 0, none⟩)) (w' := W.alloc (.cells #[.int .u64 0, .slice none 0 0] 25)) (by go_simp) ⟨⟨W.heap.size, rfl, by have := hb.size; omega, by simp [go_sem], by simp [go_sem], by simp [go_sem], by simp [go_sem]⟩, below_alloc (Below.refl _ _) _⟩
    exact AllGo.nil
  · intro f W hf hb
    have e17 : Means W (.num (2 ^ K)) (f 17) := hf (5, 17) (by simp)
    have e3 : Means W (.newbox (g + 1 + 1)) (f 3) := hf (6, 3) (by simp)
    obtain ⟨s1, p1, l1, c1, e17, hx⟩ := e17
    obtain ⟨b, e3, hgb, b0, b1, bf0, bf1⟩ := e3
    have HX := Lib.hid hx
    have q0 := wcell hb q0; have q1 := wcell hb q1
    have f2 := wfree hb q2 f2; have f3 := wfree hb q3 f3
    have q2 := wcell hb q2; have q3 := wcell hb q3
    have HW := Lib.hid (below_step HB hb)
    have HNW := Lib.hid (hNN.out.mono hb)
    clear hf hb hx
    simp only [fillSlots]
    refine wpAny_ready (rs := [7]) (by kernel_rfl) (by simp) ?_
    refine AllReady.cons rfl (fun K hK => ?_) AllReady.nil
    go_simp
    refine hK _ _ ?_; clear hK K
    refine wpAny_done (by kernel_rfl) ?_ _
    go_wp2_with fail
    have hxbox := HX.out.box (g := b) (u := .int .u64 s1) (v := .slice p1 l1 c1) b1
    have hnbox := HNW.out.box (g := b) (u := .int .u64 s1) (v := .slice p1 l1 c1) b1
    have hbg : b ≠ g ∧ b ≠ g + 1 := by omega
    have hBW : Below w.heap.size w ((W.setCell ⟨b, 0, none⟩ (.int .u64 s1)).setCell ⟨b, 1, none⟩ (.slice p1 l1 c1)) :=
      (HW.out.setCell (by show w.heap.size ≤ b; have := HG.out; omega) _).setCell (by show w.heap.size ≤ b; have := HG.out; omega) _
    have c1' : ((W.setCell ⟨b, 0, none⟩ (.int .u64 s1)).setCell ⟨b, 1, none⟩ (.slice p1 l1 c1)).cell? ⟨b, 0, none⟩ = some (.int .u64 s1) := by
      rw [World.cell?_setCell_other _ _ _ _ (by simp), World.cell?_setCell_same _ _ _ b0]
    have c2' : ((W.setCell ⟨b, 0, none⟩ (.int .u64 s1)).setCell ⟨b, 1, none⟩ (.slice p1 l1 c1)).cell? ⟨b, 1, none⟩ = some (.slice p1 l1 c1) := by
      rw [World.cell?_setCell_same _ _ _ (by rw [World.cell?_setCell_other _ _ _ _ (by simp)]; exact b1)]
    have c3' : ∀ x o v, x ≠ b → W.cell? ⟨x, o, none⟩ = some v → ((W.setCell ⟨b, 0, none⟩ (.int .u64 s1)).setCell ⟨b, 1, none⟩ (.slice p1 l1 c1)).cell? ⟨x, o, none⟩ = some v := fun x o v hx h => by
      rw [World.cell?_setCell_other _ _ _ _ (by intro e; injection e with e; exact hx e.symm), World.cell?_setCell_other _ _ _ _ (by intro e; injection e with e; exact hx e.symm)]; exact h
    have q0 := c3' g 0 _ (by omega) q0; have q1 := c3' g 1 _ (by omega) q1
    have q2 := c3' (g + 1) 0 _ (by omega) q2; have q3 := c3' (g + 1) 1 _ (by omega) q3
    have f2 : ((W.setCell ⟨b, 0, none⟩ (.int .u64 s1)).setCell ⟨b, 1, none⟩ (.slice p1 l1 c1)).frozen? ⟨g + 1, 0, none⟩ = false := by rw [World.frozen?_setCell, World.frozen?_setCell]; exact f2
    have f3 : ((W.setCell ⟨b, 0, none⟩ (.int .u64 s1)).setCell ⟨b, 1, none⟩ (.slice p1 l1 c1)).frozen? ⟨g + 1, 1, none⟩ = false := by rw [World.frozen?_setCell, World.frozen?_setCell]; exact f3
    have f4 : ((W.setCell ⟨b, 0, none⟩ (.int .u64 s1)).setCell ⟨b, 1, none⟩ (.slice p1 l1 c1)).frozen? ⟨b, 0, none⟩ = false := by rw [World.frozen?_setCell, World.frozen?_setCell]; exact bf0
    have f5 : ((W.setCell ⟨b, 0, none⟩ (.int .u64 s1)).setCell ⟨b, 1, none⟩ (.slice p1 l1 c1)).frozen? ⟨b, 1, none⟩ = false := by rw [World.frozen?_setCell, World.frozen?_setCell]; exact bf1
    generalize (W.setCell ⟨b, 0, none⟩ (.int .u64 s1)).setCell ⟨b, 1, none⟩ (.slice p1 l1 c1) = W1 at *
    have HBW := Lib.hid hBW
    have HI := Lib.hid (And.intro hxbox hnbox)
    have HST : Hid (r ≤ 2 ^ K) := by
      have hn : n < 2 ^ K * 2 ^ K := by
        rw [← Nat.pow_add]
        have h1 := (bitLen_spec n).1
        have h2 : bitLen n ≤ K + K := by have := hKK.out; omega
        exact Nat.lt_of_lt_of_le h1 (Nat.pow_le_pow_right (by omega) h2)
      exact Lib.hid (start_ge HRR.out.1 hn)
    clear hBW hxbox hnbox c3' b0 b1 bf0 bf1
    go_loopg [4, 5, 6, 7] (2 ^ K) (fun k _ _ _ _ wr => ∃ s' p' l' c', (k ≤ 2 ^ K ∧ r ≤ k ∧ 0 < k) ∧ IsN wr s' p' l' c' k ∧ IsN wr s p l c n ∧ Below w.heap.size w wr ∧
      wr.cell? ⟨b, 0, none⟩ = some (.int .u64 s') ∧ wr.cell? ⟨b, 1, none⟩ = some (.slice p' l' c') ∧ wr.cell? ⟨g, 0, none⟩ = some (.int .u64 s) ∧ wr.cell? ⟨g, 1, none⟩ = some (.slice p l c) ∧
      wr.cell? ⟨g + 1, 0, none⟩ = some (.int .u64 0) ∧ wr.cell? ⟨g + 1, 1, none⟩ = some (.slice none 0 0) ∧
      wr.frozen? ⟨g + 1, 0, none⟩ = false ∧ wr.frozen? ⟨g + 1, 1, none⟩ = false ∧ wr.frozen? ⟨b, 0, none⟩ = false ∧ wr.frozen? ⟨b, 1, none⟩ = false)
    case atStart => exact ⟨s1, p1, l1, c1, ⟨Nat.le_refl _, HST.out, Nat.two_pow_pos K⟩, HI.out.1, HI.out.2, HBW.out, c1', c2', q0, q1, q2, q3, f2, f3, f4, f5⟩
    case round =>
      clear c1' c2' q0 q1 q2 q3 f2 f3 f4 f5 HBW HI
      obtain ⟨s', p', l', c', hk, hX, hN, hB, c1', c2', q0, q1, q2, q3, f2, f3, f4, f5⟩ := hrel
      have zb := World.block_lt_of_cell? _ _ c1'
      have zg := World.block_lt_of_cell? _ _ q0
      have zg1 := World.block_lt_of_cell? _ _ q2
      have HX := Lib.hid hX; have HN := Lib.hid hN; have HB' := Lib.hid hB; have HKk := Lib.hid hk
      clear hX hN hB hk
      go_wp2_with fail
      refine (hD.out _ _ _ _ _ _ _ _ _ gk HN.out HX.out HKk.out.2.2 HKk.out.1).mono ?_
      rintro e w2 ⟨s2, p2, l2, c2, t2, u2, k2, d2, rfl, h1, _, hb2⟩
      have H1 := Lib.hid h1; clear h1
      obtain ⟨hc2, hf2⟩ := bcell hb2
      have y2 := hb2.size
      have zb2 : b < w2.heap.size := by omega
      have zg2 : g < w2.heap.size := by omega
      have zg12 : g + 1 < w2.heap.size := by omega
      have HQ := Lib.hid (show n / gk ≤ n from Nat.div_le_self n gk)
      go_wp2_with fail
      refine (hA.out _ _ _ _ _ _ _ _ _ gk (n / gk) ((HX.out.mono hb2).mono ?_) (H1.out.mono ?_) HKk.out.1 HQ.out).mono ?_
      · exact below_alloc (below_alloc (Below.refl _ _) _) _
      · exact below_alloc (below_alloc (Below.refl _ _) _) _
      rintro e w3 ⟨s3, p3, l3, c3, rfl, h3, hb3⟩
      have H3 := Lib.hid h3; clear h3
      replace hb3 := below_step (below_alloc (below_alloc hb2 _) _) hb3
      obtain ⟨hc3, hf3⟩ := bcell hb3
      have y3 := hb3.size
      have zb3 : b < w3.heap.size := by omega
      have zg3 : g < w3.heap.size := by omega
      have zg13 : g + 1 < w3.heap.size := by omega
      go_wp2_with fail
      refine (hS.out _ _ _ _ _ (gk + n / gk) H3.out (by have h1 := HKk.out.1; have h2 := HQ.out; omega)).mono ?_
      rintro e w4 ⟨s4, p4, l4, c4, rfl, h4, hb4⟩
      have H4 := Lib.hid h4; clear h4
      replace hb4 := below_step hb3 hb4
      obtain ⟨hc4, hf4⟩ := bcell hb4
      clear hc2 hf2 hc3 hf3
      have y4 := hb4.size
      have zb4 : b < w4.heap.size := by omega
      have zg4 : g < w4.heap.size := by omega
      have zg14 : g + 1 < w4.heap.size := by omega
      go_wp2_with fail
      have hB5 : Below w4.heap.size w4 (w4.alloc (.cells #[.int .u64 s4, .slice p4 l4 c4] 25)) := below_alloc (Below.refl _ _) _
      refine (cmp_any s4 s' p4 p' l4 l' c4 c' ((gk + n / gk) / 2) gk _ (H4.out.mono hB5) ((HX.out.mono hb4).mono hB5) ?_).mono ?_
      · refine Nat.le_trans (ds_mono (n := 2 ^ K + n) ?_) (by have := hLL.out; omega)
        have h1 := HKk.out.1; have h2 := HQ.out; omega
      rintro e w5 ⟨rfl, hb5⟩
      obtain ⟨hc5, hf5⟩ := bcell hb5
      have H5 := Lib.hid ((H4.out.mono hB5).mono hb5)
      have H6 := Lib.hid (((HX.out.mono hb4).mono hB5).mono hb5)
      have H7 := Lib.hid (((HN.out.mono hb4).mono hB5).mono hb5)
      have HB5 := Lib.hid (below_step (below_step (below_step HB'.out hb4) hB5) hb5)
      have y5 := hb5.size
      rw [World.size_alloc] at y5
      have z45 : w4.heap.size < w5.heap.size := by omega
      have zb5 : b < w5.heap.size := by omega
      have zg5 : g < w5.heap.size := by omega
      have zg15 : g + 1 < w5.heap.size := by omega
      have hlt : (gk + n / gk) / 2 < gk ∨ gk ≤ (gk + n / gk) / 2 := by omega
      have HGE := Lib.hid (newton_ge HRR.out.1 HKk.out.2.2)
      have HLT := Lib.hid (fun h => newton_lt (x := gk) HRR.out.2 h)
      generalize (gk + n / gk) / 2 = x at *
      have HLT0 := Lib.hid hlt
      rcases hlt with hlt | hge
      · rw [cmp3_lt (by omega)]
        clear HLT0
        go_wp2
        have m0 := wcell hb5 (wcell hB5 (wcell hb4 c1')); have m1 := wcell hb5 (wcell hB5 (wcell hb4 c2'))
        have n4 := wfree hb5 (wcell hB5 (wcell hb4 c1')) (wfree hB5 (wcell hb4 c1') (wfree hb4 c1' f4)); have n5 := wfree hb5 (wcell hB5 (wcell hb4 c2')) (wfree hB5 (wcell hb4 c2') (wfree hb4 c2' f5))
        have n2 := wfree hb5 (wcell hB5 (wcell hb4 q2)) (wfree hB5 (wcell hb4 q2) (wfree hb4 q2 f2)); have n3 := wfree hb5 (wcell hB5 (wcell hb4 q3)) (wfree hB5 (wcell hb4 q3) (wfree hb4 q3 f3))
        have k0 := wcell hb5 (wcell hB5 (wcell hb4 q0)); have k1 := wcell hb5 (wcell hB5 (wcell hb4 q1)); have k2 := wcell hb5 (wcell hB5 (wcell hb4 q2)); have k3 := wcell hb5 (wcell hB5 (wcell hb4 q3))
        have far : ∀ y o v, y ≠ b → w5.cell? ⟨y, o, none⟩ = some v → ((w5.setCell ⟨b, 0, none⟩ (.int .u64 s4)).setCell ⟨b, 1, none⟩ (.slice p4 l4 c4)).cell? ⟨y, o, none⟩ = some v := fun y o v hy h => by
          rw [World.cell?_setCell_other _ _ _ _ (by intro e; injection e with e; exact hy e.symm), World.cell?_setCell_other _ _ _ _ (by intro e; injection e with e; exact hy e.symm)]; exact h
        have hgw := HG.out
        go_roundg x
        case measure => exact hlt
        case rel =>
          refine ⟨s4, p4, l4, c4, ⟨by have := HKk.out.1; omega, HGE.out, ?_⟩, H5.out.box m1, H7.out.box m1, (HB5.out.setCell (by show w.heap.size ≤ b; omega) _).setCell (by show w.heap.size ≤ b; omega) _, ?_, ?_, far g 0 _ (by omega) k0, far g 1 _ (by omega) k1, far (g + 1) 0 _ (by omega) k2, far (g + 1) 1 _ (by omega) k3, ?_, ?_, ?_, ?_⟩
          · have h1 := HRR.out.2; have h2 := hN0.out; have h3 := HGE.out
            rcases Nat.eq_zero_or_pos r with h | h
            · subst h; omega
            · omega
          · rw [World.cell?_setCell_other _ _ _ _ (by simp), World.cell?_setCell_same _ _ _ m0]
          · rw [World.cell?_setCell_same _ _ _ (by rw [World.cell?_setCell_other _ _ _ _ (by simp)]; exact m1)]
          · rw [World.frozen?_setCell, World.frozen?_setCell]; exact n2
          · rw [World.frozen?_setCell, World.frozen?_setCell]; exact n3
          · rw [World.frozen?_setCell, World.frozen?_setCell]; exact n4
          · rw [World.frozen?_setCell, World.frozen?_setCell]; exact n5
      · have h0 : 0 ≤ cmp3 x gk := by unfold cmp3; rw [if_neg (by omega)]; split <;> omega
        go_wp2
        have hgw := HG.out
        have k2 := wcell hb5 (wcell hB5 (wcell hb4 q2)); have k3 := wcell hb5 (wcell hB5 (wcell hb4 q3))
        have er : gk = r := by
          have h1 := HKk.out.2.1
          rcases Nat.lt_or_ge r gk with h | h
          · have := HLT.out h; omega
          · omega
        have H6' := H6.out
        rw [er] at H6'
        refine bodyPost_ret (v := .agg #[.int .u64 s', .slice p' l' c']) (by simp [results, Tryd.results13, go_sem, k2, k3]) rfl ⟨s', p', l', c', rfl, H6'.box k3, ?_⟩
        exact (HB5.out.setCell (by show w.heap.size ≤ g + 1; omega) _).setCell (by show w.heap.size ≤ g + 1; omega) _
end Go.Proofs.YtfjjmhbffbhhdaaDoor
