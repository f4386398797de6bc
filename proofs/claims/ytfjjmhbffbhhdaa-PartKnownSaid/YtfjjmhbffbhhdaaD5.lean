/- A shuffled row; an order. -/
import Derived.Test.YtfjjmhbffbhhdaaD4
namespace Go.Proofs.Ytfjjmhbffbhhdaa
open Go.RowKit

theorem dorder_def (n s : Nat) : dorder n s = dshuf (n - 1) s (List.range n) := rfl
theorem dorderS_def (n s : Nat) : dorderS n s = dshufS (n - 1) s (List.range n) := rfl

set_option maxRecDepth 100000 in
set_option maxHeartbeats 2000000 in
theorem dDraw_none (b n : Nat) (w : World) (hn : 0 < n) :
    Calls Try.prog 17 #[.pointer (some ⟨b, 0, none⟩), .int .i64 (n : Int), .int .i64 0] w fun e w' => e = .returned (.slice none 0 0) ∧ w = w' := by
  have d1 : ¬ (n : Int) < 1 := by omega
  go_enter Try.func17, Try.ntmps17
  go_wp2
  go_ret
  exact ⟨rfl, rfl⟩

set_option maxRecDepth 100000 in
set_option maxHeartbeats 2000000 in
theorem shuffled_anyF (b s n : Nat) (w : World) (h : IsD w b s) (hn : 0 < n) (hn2 : n ≤ 65536) :
    Calls Try.prog 29 #[.int .i64 (n : Int), .func (.func 28) #[.pointer (some ⟨b, 0, none⟩)] #[]] w (RetRowF w b (dorderS n s) (dorder n s)) := by
  have hm := make_int n (by omega) w
  have hbg : b < w.heap.size := h.lt
  obtain ⟨g, hg⟩ : ∃ g, g = w.heap.size := ⟨_, rfl⟩
  obtain ⟨w1, hw1⟩ : ∃ w1, w1 = w.alloc (.cells (madeCells #[.int .i64 0] n) 3) := ⟨_, rfl⟩
  have HA := Lib.hid (show At w1 .i64 g 0 (List.replicate n 0) from by rw [hw1, hg]; exact At.made w .i64 n 3)
  have HF := Lib.hid (show Fr w1 g 0 n from by rw [hw1, hg]; exact Fr.made w .i64 n n 3)
  have hst : Below w.heap.size w w1 := by rw [hw1]; exact below_alloc (Below.refl _ _) _
  have HD := Lib.hid (show Drawn w w1 b s from ⟨h.mono hst, Only.of_below hst hbg⟩)
  have HG := Lib.hid (show w.heap.size ≤ g by omega)
  have hgb : g ≠ b := by omega
  rw [← hw1, ← hg] at hm
  obtain ⟨D, hD⟩ : ∃ D, D = dorder n s := ⟨_, rfl⟩
  obtain ⟨T, hT⟩ : ∃ T, T = dorderS n s := ⟨_, rfl⟩
  rw [← hD, ← hT]
  have HDD := Lib.hid hD; have HTT := Lib.hid hT
  have HDL := Lib.hid (show D.length = n from by rw [hD, dorder_len])
  clear hst h hw1 hg hD hT
  go_enter Try.func29, Try.ntmps29
  go_wp2_with fail
  go_loopw [13] (fun i wr => ∃ (j : Nat) (L : List Nat), j ≤ n ∧ i = .int .i64 j ∧ L.length = n ∧ Hid (∀ m, m < j → L.getD m 0 = m) ∧ Hid (At wr .i64 g 0 L) ∧ Hid (Fr wr g 0 n) ∧ Hid (Drawn w wr b s)) (fun i _ => n - (intOf i).toNat)
  case atStart => exact ⟨0, List.replicate n 0, Nat.zero_le _, rfl, List.length_replicate, Lib.hid (fun m hm => absurd hm (Nat.not_lt_zero m)), HA, HF, HD⟩
  case round =>
    clear HA HF HD
    obtain ⟨j, L, hj, rfl, hL, HV, HA, HF, HD⟩ := hrel
    by_cases hlt : j < n
    · have c2 := HA.out.zero j (by omega)
      have f2 := HF.out.zero j (by omega)
      have i1 : (0 : Int) ≤ j := by omega
      have i2 : (j : Int) < n := by omega
      go_wp2
      go_roundw
      case rel =>
        refine ⟨j + 1, L.set j j, by omega, by go_num, by rw [List.length_set]; exact hL, Lib.hid (fun m hm => ?_), Lib.hid (HA.out.put0 j j (by omega)), Lib.hid (HF.out.setCell _ _), Lib.hid (HD.out.fresh HG.out hgb _ _)⟩
        rw [getD_set _ _ _ _ (by omega)]
        split
        · omega
        · exact HV.out m (by omega)
      case measure => simp [intOf]; omega
    · obtain rfl : j = n := by omega
      have he : L = List.range j := ext_getD (by rw [hL, List.length_range]) (fun m hm => by rw [range_get (by omega)]; exact HV.out m (by omega))
      have HA0 := Lib.hid (show At wr .i64 g 0 (List.range j) from he ▸ HA.out)
      have wj : IntKind.i64.wrap ((j : Int) - 1) = ((j - 1 : Nat) : Int) := by rw [IntKind.wrap_i64]; omega
      clear HA HV he hL hlt
      go_wp2_with fail
      go_loopw [7] (fun i wr => ∃ (i' s' : Nat) (L : List Nat), i' ≤ j - 1 ∧ i = .int .i64 i' ∧ L.length = j ∧ Hid (dshuf i' s' L = D) ∧ Hid (dshufS i' s' L = T) ∧ Hid (At wr .i64 g 0 L) ∧ Hid (Fr wr g 0 j) ∧ Hid (Drawn w wr b s')) (fun i _ => (intOf i).toNat)
      case atStart => exact ⟨j - 1, s, List.range j, Nat.le_refl _, rfl, List.length_range, Lib.hid (by rw [HDD.out, dorder_def]), Lib.hid (by rw [HTT.out, dorderS_def]), HA0, HF, HD⟩
      case round =>
        clear HA0 HF HD HDD HTT
        obtain ⟨i', s', L, hi', rfl, hL, H1, H2, HA, HF, HD⟩ := hrel
        rcases Nat.eq_zero_or_pos i' with rfl | hpos
        · have e1 : L = D := by have := H1.out; rwa [dshuf_zero] at this
          have e2 : s' = T := by have := H2.out; rwa [dshufS_zero] at this
          subst e1 e2
          have hdl := HDL.out
          go_wp2
          go_ret
          exact ⟨g, by rw [hdl]; rfl, HG.out, HA.out, by rw [hdl]; exact HF.out, HD.out⟩
        · obtain ⟨m, hm1⟩ : ∃ m, i' = m + 1 := ⟨i' - 1, by omega⟩
          obtain ⟨p, hp1⟩ : ∃ p, p = m + 2 := ⟨_, rfl⟩
          have e1 := H1.out; rw [hm1, dshuf_succ, ← hm1, ← hp1] at e1
          have e2 := H2.out; rw [hm1, dshufS_succ, ← hm1, ← hp1] at e2
          have hvl := dbelowV_lt (n := p) s' (by omega)
          have hB := fun W (hI : IsD W b s') => dBelow_any b s' p W hI (by omega) (by omega)
          obtain ⟨v, hv⟩ : ∃ v, v = dbelowV p s' := ⟨_, rfl⟩
          obtain ⟨q, hq⟩ : ∃ q, q = dbelowS p s' := ⟨_, rfl⟩
          rw [← hv] at e1 e2 hvl hB
          rw [← hq] at e1 e2 hB
          have E1 := Lib.hid e1; have E2 := Lib.hid e2; have HB := Lib.hid hB
          have hge : (1 : Int) ≤ (i' : Int) := by omega
          have hsum : IntKind.i64.wrap ((i' : Int) + 1) = (p : Int) := by rw [IntKind.wrap_i64]; omega
          have hdec : IntKind.i64.wrap ((i' : Int) - 1) = (m : Int) := by rw [IntKind.wrap_i64]; omega
          have HM := Lib.hid (And.intro hm1 hp1)
          have hin : i' < j := by omega
          have hvn : v < j := by omega
          have i1 : (0 : Int) ≤ i' := by omega
          have i2 : (i' : Int) < j := by omega
          have i3 : (0 : Int) ≤ v := by omega
          have i4 : (v : Int) < j := by omega
          clear e1 e2 hv hq hB H1 H2 hm1 hp1 hvl
          go_wp2_with fail
          refine (HB.out wr HD.out.1).mono ?_
          rintro e w2 ⟨rfl, hD⟩
          have A2 := HA.out.only hD.2 hgb
          have F2 := HF.out.onlyOther hD.2 (HA.out.lt (by omega)) hgb
          have c1 := A2.zero i' (by omega)
          have f1 := F2.zero i' (by omega)
          have c2 := A2.zero v (by omega)
          have f2 := F2.zero v (by omega)
          have HD2 := Lib.hid (HD.out.trans hD)
          have HA2 := Lib.hid A2; have HF2 := Lib.hid F2
          clear A2 F2 HA HF HD hD
          obtain ⟨x, hx⟩ : ∃ x, x = L.getD i' 0 := ⟨_, rfl⟩
          obtain ⟨y, hy⟩ : ∃ y, y = L.getD v 0 := ⟨_, rfl⟩
          rw [← hx] at c1
          rw [← hy] at c2
          have HX := Lib.hid hx; have HY := Lib.hid hy
          clear hx hy
          by_cases hiv : v = i'
          · subst hiv
            have hyx : y = x := by rw [HX.out, HY.out]
            subst hyx
            go_wp2
            go_region_with fail
            all_goals go_wp2
            all_goals
              have hm := HM.out
              refine ⟨⟨m, q, swap2 L v v, by omega, rfl, by rw [swap2_len]; exact hL, E1, E2, Lib.hid ?_, Lib.hid ((HF2.out.setCell _ _).setCell _ _), Lib.hid ⟨?_, ((HD2.out.2.fresh HG.out hgb _ _).fresh HG.out hgb _ _).drew⟩⟩, by simp [intOf]; omega⟩
              · unfold swap2
                rw [← HY.out]
                exact (HA2.out.put0 v y (by omega)).put0 v y (by rw [List.length_set]; omega)
              · exact (HD2.out.1.fresh hgb _ _).fresh hgb _ _
          · have hne : i' ≠ v := fun h => hiv h.symm
            go_wp2
            go_region_with fail
            all_goals go_wp2
            all_goals
              have hm := HM.out
              refine ⟨⟨m, q, swap2 L i' v, by omega, rfl, by rw [swap2_len]; exact hL, E1, E2, Lib.hid ?_, Lib.hid ((HF2.out.setCell _ _).setCell _ _), Lib.hid ⟨?_, ((HD2.out.2.fresh HG.out hgb _ _).fresh HG.out hgb _ _).drew⟩⟩, by simp [intOf]; omega⟩
              · unfold swap2
                rw [← HX.out, ← HY.out]
                exact (HA2.out.put0 i' y (by omega)).put0 v x (by rw [List.length_set]; omega)
              · exact (HD2.out.1.fresh hgb _ _).fresh hgb _ _
end Go.Proofs.Ytfjjmhbffbhhdaa
