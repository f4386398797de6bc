/- The document's sums. -/
import Derived.Test.YtmhpaadanpianaaDoorFill
import Derived.Test.YtmhpaadanpianaaDoorProduct
namespace Go.Proofs.YtmhpaadanpianaaDoor
open Go.RowKit

theorem rAt_any (n i : Nat) (p : Option Addr) (l c : Nat) (w : World) (h : IsR w p l c n) (hi : i ≤ 1000000) :
    Calls Tryd.prog 69 #[.slice p l c, .int .i64 (i : Int)] w fun e w' => w = w' ∧ e = .returned (.int .u64 (((dr n).getD i 0 : Nat) : Int)) := by
  obtain ⟨h1, h2, h3⟩ := h
  by_cases hl : i < l
  · have hn : n ≠ 0 := fun e => by subst e; rw [dr_zero] at h1; simp at h1; omega
    obtain ⟨b, off, rfl, h4⟩ := h3 hn
    have c1 := h4 i (by omega)
    have hx := getD_lt (dr_lt n) (by omega) i
    generalize (dr n).getD i 0 = x at *
    clear h3 h4 h1
    go_enter Tryd.func69, Tryd.ntmps69
    go_wp2
    go_ret
    exact ⟨rfl, rfl⟩
  · have hx : (dr n).getD i 0 = 0 := by simp [List.getD, List.getElem?_eq_none (show (dr n).length ≤ i by omega)]
    rw [hx]
    clear h3 h1 hx
    go_enter Tryd.func69, Tryd.ntmps69
    go_wp2
    go_ret
    exact ⟨rfl, rfl⟩

/-- After k digits of a sum. -/
structure RSum (b : Nat) (xs ys zs : List Nat) (k c : Nat) : Prop where
  lt : ∀ x ∈ zs, x < b
  one : c ≤ 1
  sum : val b (zs.take k) + b ^ k * c = val b (xs.take k) + val b (ys.take k)

theorem RSum.start {b : Nat} (hb : 0 < b) (xs ys : List Nat) (n : Nat) : RSum b xs ys (List.replicate n 0) 0 0 :=
  ⟨fun x hx => by rw [List.eq_of_mem_replicate hx]; exact hb, by omega, by simp [val]⟩

theorem RSum.step {b : Nat} {xs ys zs : List Nat} {k c : Nat} (h : RSum b xs ys zs k c) (hb : 2 ≤ b) (hX : ∀ x ∈ xs, x < b) (hY : ∀ x ∈ ys, x < b) (hk : k < zs.length) :
    RSum b xs ys (zs.set k ((c + xs.getD k 0 + ys.getD k 0) % b)) (k + 1) ((c + xs.getD k 0 + ys.getD k 0) / b) := by
  have h1 := getD_lt hX (by omega) k
  have h2 := getD_lt hY (by omega) k
  have h3 := h.one
  refine ⟨set_all_lt h.lt (Nat.mod_lt _ (by omega)), ?_, ?_⟩
  · have : (c + xs.getD k 0 + ys.getD k 0) / b < 2 := by rw [Nat.div_lt_iff_lt_mul (by omega)]; omega
    omega
  · rw [val_take_succ', take_set_self, getD_set_self _ _ _ hk, val_take_succ', val_take_succ']
    have h4 := h.sum
    have h5 := Nat.div_add_mod (c + xs.getD k 0 + ys.getD k 0) b
    generalize (c + xs.getD k 0 + ys.getD k 0) / b = d at *
    generalize (c + xs.getD k 0 + ys.getD k 0) % b = r at *
    rw [Nat.pow_succ]
    generalize b ^ k = P at *
    generalize xs.getD k 0 = x at *
    generalize ys.getD k 0 = y at *
    grind

theorem RSum.done {b : Nat} {xs ys zs : List Nat} {k c : Nat} (h : RSum b xs ys zs (k + 1) c) (hb : 2 ≤ b) (hz : zs.length = k + 1) (hx : xs.length ≤ k) (hy : ys.length ≤ k) (hX : ∀ x ∈ xs, x < b) (hY : ∀ x ∈ ys, x < b) :
    val b zs = val b xs + val b ys := by
  have h1 := h.sum
  rw [List.take_of_length_le (by omega), List.take_of_length_le (by omega), List.take_of_length_le (by omega)] at h1
  have h2 := Nat.lt_of_lt_of_le (val_lt b xs hX) (Nat.pow_le_pow_right (by omega) hx)
  have h3 := Nat.lt_of_lt_of_le (val_lt b ys hY) (Nat.pow_le_pow_right (by omega) hy)
  have h4 : b ^ k * 2 ≤ b ^ (k + 1) := by rw [Nat.pow_succ]; exact Nat.mul_le_mul_left _ hb
  have h5 : c = 0 := by
    rcases Nat.eq_zero_or_pos c with h | h
    · exact h
    · have : b ^ (k + 1) * 1 ≤ b ^ (k + 1) * c := Nat.mul_le_mul_left _ h
      omega
  subst h5
  omega

/-- A number of the document stays what it is when one newer block is written. -/
theorem IsR.keeps {w w1 w2 : World} {p : Option Addr} {l c n g o z : Nat} (h : IsR w p l c n) (hb : Below w.heap.size w w1) (ho : Only w1 w2 g o z) (hg : w.heap.size ≤ g) : IsR w2 p l c n := by
  obtain ⟨a1, a2, a3⟩ := h
  refine ⟨a1, a2, fun hn => ?_⟩
  obtain ⟨b, off, a4, a5⟩ := a3 hn
  have hlt := a5.lt (dr_pos hn)
  exact ⟨b, off, a4, (a5.mono hb).only ho (by omega)⟩

set_option maxHeartbeats 1000000 in
/-- The document's sum of two numbers. -/
theorem rAdd_any (p q : Option Addr) (l c k d m n : Nat) (w : World) (hl : l ≤ 100000) (hk : k ≤ 100000) (h1 : IsR w p l c m) (h2 : IsR w q k d n) :
    Calls Tryd.prog 28 #[.slice p l c, .slice q k d] w (RetR w (m + n)) := by
  have H1 := Lib.hid h1; have H2 := Lib.hid h2
  have e1 := Lib.hid h1.1; have e2 := Lib.hid h2.1
  obtain ⟨N, hN⟩ : ∃ N, N = max l k := ⟨_, rfl⟩
  have hmax : max (l : Int) (k : Int) = (N : Int) := by omega
  have hNb : N ≤ 100000 := by omega
  have HN := Lib.hid hN
  obtain ⟨M, hM⟩ : ∃ M, M = N + 1 := ⟨_, rfl⟩
  have hmk := make_rn M (by omega)
  have hq : (N : Int) + 1 = (M : Int) := by omega
  have HM := Lib.hid hM
  have HQ := Lib.hid hq
  clear h1 h2 hN hM
  go_enter Tryd.func28, Tryd.ntmps28
  go_wp2_with fail
  have A3 := At.made w .u32 M 100
  have F3 := Fr.made w .u32 M M 100
  have B3 : Below w.heap.size w (w.alloc (.cells (madeCells #[.int .u32 0] M) 100)) := below_alloc (Below.refl _ _) _
  have hz3 : (w.alloc (.cells (madeCells #[.int .u32 0] M) 100)).heap.size = w.heap.size + 1 := by simp
  obtain ⟨w3, hw3⟩ : ∃ w3, w3 = w.alloc (.cells (madeCells #[.int .u32 0] M) 100) := ⟨_, rfl⟩
  obtain ⟨g, hg⟩ : ∃ g, g = w.heap.size := ⟨_, rfl⟩
  rw [← hw3] at A3 F3 B3 hz3 ⊢
  rw [← hg] at A3 F3 hz3 ⊢
  have HG := Lib.hid hg; have HZ3 := Lib.hid hz3
  have HA3 := Lib.hid A3; have HF3 := Lib.hid F3
  have HB3 := Lib.hid B3
  have X1 := Lib.hid (H1.out.mono B3); have X2 := Lib.hid (H2.out.mono B3)
  clear A3 F3 B3 hw3 hg hmk hz3 hq
  go_loopw [7, 8] (fun c' i wr => ∃ j cc : Nat, j ≤ M ∧ i = .int .i64 j ∧ c' = .int .u64 (cc : Int) ∧ ∃ L : List Nat, L.length = M ∧ At wr .u32 g 0 L ∧ Hid (RSum (2 ^ 32) (dr m) (dr n) L j cc) ∧ Hid (IsR wr p l c m) ∧ Hid (IsR wr q k d n) ∧ Only w3 wr g 0 M) (fun _ i _ => M - (intOf i).toNat)
  case atStart => exact ⟨0, 0, Nat.zero_le _, rfl, rfl, List.replicate M 0, by simp, HA3.out, Lib.hid (RSum.start (by omega) _ _ _), X1, X2, Only.refl _ _ _ _⟩
  case round =>
    obtain ⟨j, cc, hj, rfl, rfl, L, hL, hA, HI, Y1, Y2, hO⟩ := hrel
    have hMN := HM.out
    by_cases hlt : j < M
    · have c1 := hA.zero j (by omega)
      have c2 := (HF3.out.only hO).zero j (by omega)
      have hjN : (j : Int) ≤ N := by omega
      have hc1 := HI.out.one
      have hst := Lib.hid (HI.out.step (by omega) (dr_lt m) (dr_lt n) (by omega : j < L.length))
      have hx := getD_lt (dr_lt m) (by omega) j
      have hy := getD_lt (dr_lt n) (by omega) j
      have T1 := Lib.hid (rAt_any m j p l c wr Y1.out (by omega))
      have T2 := Lib.hid (rAt_any n j q k d wr Y2.out (by omega))
      generalize (dr m).getD j 0 = x at *
      generalize (dr n).getD j 0 = y at *
      generalize L.getD j 0 = z at *
      clear hMN
      go_wp2_with fail
      refine T1.out.mono ?_
      rintro e _ ⟨rfl, rfl⟩
      go_wp2_with fail
      refine T2.out.mono ?_
      rintro e _ ⟨rfl, rfl⟩
      go_wp2
      have hON := hO.setCell j (by omega) (by omega) (.int .u32 (((cc : Int) + x + y) % 4294967296))
      go_roundw
      case rel =>
        refine ⟨j + 1, (cc + x + y) / 2 ^ 32, by omega, by go_num, ?_, L.set j ((cc + x + y) % 2 ^ 32), by rw [List.length_set]; exact hL, ?_, hst, Lib.hid (H1.out.keeps HB3.out hON (by have := HG.out; omega)), Lib.hid (H2.out.keeps HB3.out hON (by have := HG.out; omega)), hON⟩
        · have hc : (((cc + x + y) / 2 ^ 32 : Nat) : Int) = ((cc : Int) + x + y) / 4294967296 := by omega
          rw [hc]
        · have := hA.set j ((cc + x + y) % 2 ^ 32) (by omega)
          have hc : (((cc + x + y) % 2 ^ 32 : Nat) : Int) = ((cc : Int) + x + y) % 4294967296 := by omega
          rw [Nat.zero_add, hc] at this
          exact this
      case measure => simp [intOf]; omega
    · obtain rfl : j = M := by omega
      have hv := HI.out
      rw [hMN] at hv hL
      have hdone := hv.done (by omega) hL (by have := e1.out; have := HN.out; omega) (by have := e2.out; have := HN.out; omega) (dr_lt m) (dr_lt n)
      rw [val_dr, val_dr] at hdone
      rw [← hMN] at hL
      have HT := Lib.hid (rtrim_n g 0 j j L hL wr hA hv.lt (by omega) (Nat.le_refl _))
      rw [hdone] at HT
      have HBR := Lib.hid (HB3.out.trans (hO.below (show w.heap.size ≤ g by have := HG.out; omega) (by have := HZ3.out; have := HG.out; omega)))
      have hjN : (N : Int) < j := by omega
      clear hv hdone hA HI hO hMN
      go_wp2_with fail
      refine HT.out.mono ?_
      rintro e w6 ⟨p6, l6, c6, rfl, h6, hb6⟩
      have H6 := Lib.hid h6; clear h6
      have HB6 := Lib.hid (below_step HBR.out hb6)
      clear hb6
      go_wp2
      go_ret
      exact ⟨_, _, _, rfl, H6.out, HB6.out⟩
end Go.Proofs.YtmhpaadanpianaaDoor
