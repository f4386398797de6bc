/- The document's long division. -/
import Derived.Test.YtjhjlecnjkjbbaaGreatDoorRefQuot2
import Derived.Test.YtjhjlecnjkjbbaaGreatDoorRefShift
import Derived.Test.YtjhjlecnjkjbbaaGreatDoorRefProd
import Derived.Test.YtjhjlecnjkjbbaaGreatDoorDivide
import Derived.Test.YtjhjlecnjkjbbaaGreatDoorInv
namespace Go.Proofs.YtjhjlecnjkjbbaaGreatDoor
open Go.RowKit

theorem own_below {w w' : World} {base : Nat} {e : TypeId} {size : Nat} {v : Value} {n : Nat} {xs : List Value} (h : w.ownsRow base e size v n xs) (hb : Below w.heap.size w w') : w'.ownsRow base e size v n xs :=
  h.kept (row := none) ⟨hb.os, hb.tape, hb.output, hb.size, fun k hk _ => hb.block k hk⟩ (by by_cases h : v.ownBlock = none; exact .inl h; exact .inr h)

theorem at_cells {w : World} {k : IntKind} {b off : Nat} {xs : List Nat} (h : At w k b off xs) : ∀ j u, (cellsOfRow k xs)[j]? = some u → w.cell? ((⟨b, off, none⟩ : Addr).add j) = some u := by
  intro j u hj
  have hjl : j < xs.length := by
    rcases Nat.lt_or_ge j xs.length with h | h
    · exact h
    · rw [List.getElem?_eq_none (by simpa [cellsOfRow] using h)] at hj; cases hj
  have h1 := h j hjl
  have h2 : w.cell? ((⟨b, off, none⟩ : Addr).add j) = w.cell? ⟨b, off + j, none⟩ := by
    simp only [Addr.add]
    split
    · rename_i h0; rw [h0, Nat.add_zero]
    · rfl
  rw [h2, h1, ← hj]
  simp [cellsOfRow, List.getD, hjl]

theorem rShiftNeg_any (p : Option Addr) (l c m n : Nat) (w : World) (hl : l ≤ 100000) (hn : n ≤ 1000000) (h : IsR w p l c m) :
    Calls Tryz.prog 144 #[.slice p l c, .int .i64 (-(n : Int))] w (RetR w (m / 2 ^ n)) := by
  rcases Nat.eq_zero_or_pos n with h0 | h0
  · subst h0
    have := rShiftUp_any p l c m 0 w hl (by omega) h
    rw [Nat.pow_zero, Nat.mul_one] at this
    rw [Nat.pow_zero, Nat.div_one]
    exact this
  · exact rShiftDown_any p l c m n w hl h0 hn h

theorem row_plain {k : IntKind} (xs : List Nat) : ∀ u ∈ cellsOfRow k xs, ∃ x : Nat, u = .int k x := by
  intro u hu
  simp only [cellsOfRow, List.mem_map] at hu
  obtain ⟨x, _, rfl⟩ := hu
  exact ⟨x, rfl⟩

theorem own_row0 {W w2 : World} {k : IntKind} {t : TypeId} {v : Value} {bs : List Nat} (h : w2.ownsRow W.heap.size t 1 v bs.length (cellsOfRow k bs)) (hn : v ≠ .slice none 0 0) :
    ∃ g cap, v = .slice (some ⟨g, 0, none⟩) bs.length cap ∧ bs.length ≤ cap ∧ W.heap.size ≤ g ∧ At w2 k g 0 bs ∧ Fr w2 g 0 bs.length := by
  rcases h.2 with ⟨h1, _⟩ | ⟨g, cap, cur, rfl, hg, _, hcap, _, _, _⟩
  · exact absurd h1 hn
  · refine ⟨g, cap, rfl, hcap, hg, fun i hi => ?_, fun i _ => ?_⟩
    · rw [Nat.zero_add, World.ownsRow.cellAt h i (by omega)]
      simp [cellsOfRow, List.getD, hi]
    · rw [Nat.zero_add]; exact World.ownsRow.frozenAt h i

set_option maxRecDepth 100000 in
set_option maxHeartbeats 8000000 in
theorem rDiv_long (p q : Option Addr) (l k c d m n : Nat) (w : World) (hl : l ≤ 50000) (hle : n ≤ m) (h0 : 2 ^ 32 ≤ n) (h1 : IsR w p l c m) (h2 : IsR w q k d n) :
    Calls Tryz.prog 95 #[.slice p l c, .slice q k d] w (RetRR w (m / n) (m % n)) := by
  obtain ⟨e0, hi, hz0, hz1, hz2⟩ := info_parts Tryz.infoU32
  have HC := Lib.hid (rCmp_any p q l k c d m n w (by omega) h1 h2)
  have hk2 : 1 < k := by rw [h2.1]; exact digs_length_lt (by omega) (by rw [Nat.pow_one]; exact h0)
  have hkl : k ≤ l := by rw [h1.1, h2.1]; exact digs_length_mono (by omega) hle
  obtain ⟨s, hs⟩ : ∃ s, s = 32 * k - bitLen n := ⟨_, rfl⟩
  obtain ⟨n1, n2, n3, n4⟩ := rnorm (by omega) h2.1.symm hs
  have hbn : bitLen n ≤ 32 * k := bitLen_lt_pow.1 (by rw [Nat.pow_mul, h2.1]; exact dr_lt_pow n)
  have i0 : 32 * (k : Int) - (bitLen n : Int) = (s : Int) := by omega
  have T1 := Lib.hid (fun W a => rbits_any n q k d W a (by omega))
  have T2 := Lib.hid (fun W a => rShiftUp_any q k d n s W (by omega) (by omega) a)
  have T3 := Lib.hid (fun W a => rShiftUp_any p l c m s W (by omega) (by omega) a)
  have H1 := Lib.hid h1; have H2 := Lib.hid h2; have HLE := Lib.hid hle; have N3 := Lib.hid n3; have N4 := Lib.hid n4
  have ik : ¬ (k : Int) = 1 := by omega
  have N0 : Hid (0 < n) := Lib.hid (by omega)
  have HLR2' : Hid (∀ lx, lx = (dr (m * 2 ^ s)).length → lx ≤ 60000) := Lib.hid (by
    rintro lx rfl
    have e1 : m < (2 ^ 32) ^ l := by rw [h1.1]; exact dr_lt_pow m
    have e2 : m * 2 ^ s < (2 ^ 32) ^ (l + 1) := by
      rw [Nat.pow_succ]
      exact Nat.lt_of_lt_of_le (Nat.mul_lt_mul_of_pos_right e1 (Nat.two_pow_pos s)) (Nat.mul_le_mul_left _ (Nat.pow_le_pow_right (by omega) (by omega)))
    have e3 : (dr (m * 2 ^ s)).length ≤ l + 1 := digs_length_le (by omega) e2
    omega)
  have HLX2 : Hid (∀ lx, lx = (dr (m * 2 ^ s)).length → lx ≤ 100000) := Lib.hid (fun lx h => Nat.le_trans (HLR2'.out lx h) (by omega))
  generalize bitLen n = bl at *
  clear h1 h2 hle n3 n4 h0 hs
  go_enter Tryz.func95, Tryz.ntmps95
  go_wp2_with fail
  refine HC.out.mono ?_
  rintro e w1 ⟨rfl, hb⟩
  have A1 := Lib.hid (H1.out.mono hb); have A2 := Lib.hid (H2.out.mono hb); have HB := Lib.hid hb
  have hcm : ¬ cmp3 (m : Int) n < 0 := by have := HLE.out; unfold cmp3; split <;> (try split) <;> omega
  generalize cmp3 (m : Int) n = u at *
  clear hb HC
  go_wp2_with fail
  refine (T1.out _ A2.out).mono ?_
  rintro e _ ⟨rfl, rfl⟩
  go_wp2_with fail
  refine (T2.out _ A2.out).mono ?_
  rintro e w2 ⟨py, ly, cy, rfl, y1, hb2⟩
  have Y1 := Lib.hid y1; have A3 := Lib.hid (A1.out.mono hb2); have HB2 := Lib.hid (below_step HB.out hb2)
  have hly : ly = k := by rw [y1.1, N3.out]
  subst hly
  clear y1 hb2 A1 A2 T1 T2
  go_wp2_with fail
  have hM0 : m * 2 ^ s ≠ 0 := fun e => by have h1 := Nat.mul_eq_zero.1 e; have := Nat.two_pow_pos s; have := HLE.out; have := N0.out; omega
  refine (T3.out _ (A3.out.mono (below_alloc (Below.refl _ _) _))).mono ?_
  rintro e w3 ⟨px, lx, cx0, rfl, x1, hb3⟩
  have hlx := x1.1
  have hcx := x1.2.1
  obtain ⟨bx, ox, rfl, x2⟩ := x1.2.2 hM0
  have O1 := Lib.hid (own_below (World.ownsRow_made (base := w2.heap.size) (e := 118) (size := 1) w2 #[] 0 (Nat.le_refl _) (by simp [maxLen]) (by simp)) hb3)
  have X2 := Lib.hid x2; have HLX := Lib.hid hlx
  have HB3 := Lib.hid (below_step (below_alloc (Below.refl w2.heap.size w2) (.cells #[] 118)) hb3)
  have hz3 : w2.heap.size + 1 ≤ w3.heap.size := by have := hb3.size; simpa using this
  clear x1 x2 hb3 hlx T3 A3 hM0
  have hlx2 : lx ≤ 100000 := HLX2.out lx HLX.out
  go_wp2_with (at_builtin; go_loud (refine wpList_append_own _ rfl (.tmp 54) (.tmp 57) 26 rfl w2.heap.size 118 e0 (.int .u32 0) 1 4 Tryz.underlying26 hi hz0 hz1 hz2 rfl (by decide) (.slice (some ⟨w2.heap.size, 0, none⟩) 0 0) 0 [] rfl ?own ⟨bx, ox, none⟩ lx cx0 (cellsOfRow .u32 (dr (m * 2 ^ s))) rfl ?c1 ?c2 ?c3 ?c4 ?c5 ?c6 ?_))
  case own => exact O1.out
  case c1 => rw [cellsOfRow, List.length_map, Nat.mul_one]; exact HLX.out.symm
  case c2 => exact at_cells X2.out
  case c3 => intro u hu; obtain ⟨x, rfl⟩ := row_plain _ u hu; rfl
  case c4 => unfold maxLen; omega
  case c5 => omega
  case c6 => first | omega | (simp; omega)
  intro v4 w4 hown hg hnil
  have O4 := Lib.hid hown
  have B4 := Lib.hid (HB3.out.grown hg (by omega) (fun k hk => (O1.out.lt k hk).1))
  clear hown hg hnil O1 X2 HB3 hz3 hcx hcm
  go_wp2_with (at_builtin; go_loud (refine wpList_append_own _ rfl (.tmp 58) (.tmp 59) 26 rfl w2.heap.size 118 e0 (.int .u32 0) 1 4 Tryz.underlying26 hi hz0 hz1 hz2 rfl (by decide) v4 lx (cellsOfRow .u32 (dr (m * 2 ^ s))) rfl ?own ⟨w4.heap.size, 0, none⟩ 2 2 (cellsOfRow .u32 [0, 0]) rfl ?c1 ?c2 ?c3 ?c4 ?c5 ?c6 ?_))
  case own => exact O4.out.alloc _
  case c1 => rfl
  case c2 =>
    intro j u hj
    rcases j with _ | _ | j <;> simp [cellsOfRow] at hj
    · subst hj; simp [Addr.add, go_sem]
    · subst hj; simp [Addr.add, go_sem]
  case c3 => intro u hu; obtain ⟨x, rfl⟩ := row_plain _ u hu; rfl
  case c4 => unfold maxLen; omega
  case c5 => omega
  case c6 => have := B4.out.size; simp; omega
  intro v5 w5 hown hg hnil
  have B5 := Lib.hid ((below_alloc B4.out _).grown hg (by have := B4.out.size; simp; omega) (fun k hk => (O4.out.lt k hk).1))
  have e5 : cellsOfRow .u32 (dr (m * 2 ^ s)) ++ cellsOfRow .u32 [0, 0] = cellsOfRow .u32 (dr (m * 2 ^ s) ++ [0, 0]) := by simp [cellsOfRow]
  have e6 : lx + 2 = (dr (m * 2 ^ s) ++ [0, 0]).length := by rw [List.length_append, ← HLX.out]; rfl
  rw [e5, e6] at hown
  obtain ⟨gx, cx, rfl, v1, v2, v3, v6⟩ := own_row0 hown (by simpa using hnil)
  rw [← e6] at v1 ⊢
  have hgx : gx < w5.heap.size := v3.lt (by rw [← e6]; omega)
  have X5 := Lib.hid v3; have F5 := Lib.hid v6; have HGX := Lib.hid v2
  have HXL := Lib.hid e6
  have Y5 := Lib.hid (Y1.out.mono B5.out)
  have HD0 : Hid (n * 2 ^ s ≠ 0) := Lib.hid (fun e => by have h1 := Nat.mul_eq_zero.1 e; have := Nat.two_pow_pos s; have := N0.out; omega)
  obtain ⟨gy, oy, rfl, y5⟩ := Y1.out.2.2 HD0.out
  have hgy : gy < w2.heap.size := y5.lt (by rw [N3.out]; omega)
  have YA := Lib.hid (y5.mono B5.out)
  have HW5 := Lib.hid (below_step HB2.out B5.out)
  clear y5 e5 e6 hown hg hnil v2 v3 v6 O4 B4 Y1 Y5
  obtain ⟨lr, hlr⟩ : ∃ lr, lr = lx + 2 := ⟨_, rfl⟩
  obtain ⟨lq, hlq⟩ : ∃ lq, lq = lr - ly := ⟨_, rfl⟩
  have hll : ly ≤ lx := by rw [HLX.out, ← N3.out]; exact digs_length_mono (by omega) (Nat.mul_le_mul_right _ HLE.out)
  obtain ⟨L1, L2⟩ := rlong_start (M := m * 2 ^ s) (D := n * 2 ^ s) HLX.out.symm N3.out hk2 hll
  rw [← hlr, ← hlq] at L2
  rw [← hlr] at v1 HXL ⊢
  have i3 : (lr : Int) - ly = (lq : Int) := by omega
  have hmk := make_rn lq (by omega)
  obtain ⟨j1, hj1⟩ : ∃ j, j = ly - 1 := ⟨_, rfl⟩
  obtain ⟨j2, hj2⟩ : ∃ j, j = ly - 2 := ⟨_, rfl⟩
  have i4 : (ly : Int) - 1 = (j1 : Int) := by omega
  have i5 : (ly : Int) - 2 = (j2 : Int) := by omega
  have i6 : (j1 : Int) < ly := by omega
  have i7 : (j2 : Int) < ly := by omega
  have t1 := YA.out j1 (by rw [N3.out]; omega)
  have t2 := YA.out j2 (by rw [N3.out]; omega)
  have hd1 := getD_lt (dr_lt (n * 2 ^ s)) (by omega) j1
  have hd2 := getD_lt (dr_lt (n * 2 ^ s)) (by omega) j2
  have HT := N4
  rw [← hj1] at HT
  have DL := N3; have DX := Lib.hid (dr_lt (n * 2 ^ s)); have DV := Lib.hid (val_dr (n * 2 ^ s))
  have RX := HXL; have RV : Hid (val (2 ^ 32) (dr (m * 2 ^ s) ++ [0, 0]) = m * 2 ^ s) := Lib.hid (by rw [val_append, val_dr]; simp [val])
  have L1' := Lib.hid L1; have L2' := Lib.hid L2
  rw [← HXL.out] at F5
  generalize dr (m * 2 ^ s) ++ [0, 0] = rs0 at *
  generalize dr (n * 2 ^ s) = dt at *
  obtain ⟨D, hDD⟩ : ∃ D, D = n * 2 ^ s := ⟨_, rfl⟩
  rw [← hDD] at DV L1' L2' HD0
  obtain ⟨top, ht1⟩ : ∃ x, x = dt.getD j1 0 := ⟨_, rfl⟩
  obtain ⟨nxt, ht2⟩ : ∃ x, x = dt.getD j2 0 := ⟨_, rfl⟩
  rw [← ht1] at t1 hd1 HT
  rw [← ht2] at t2 hd2
  have x1 : IntKind.u64.wrap (top : Int) = top := by rw [IntKind.wrap_u64]; omega
  have x2 : IntKind.u64.wrap (nxt : Int) = nxt := by rw [IntKind.wrap_u64]; omega
  have HJ1 := Lib.hid hj1; have HJ2 := Lib.hid hj2; have HT1 := Lib.hid ht1; have HT2 := Lib.hid ht2; have HDD := Lib.hid hDD; have HLR := Lib.hid hlr; have HLQ := Lib.hid hlq
  have D1 := Lib.hid hd1; have D2 := Lib.hid hd2
  have b1 : lq ≤ 1000000 := by omega
  have b2 : ly ≤ 1000000 := by omega
  have b3 : lr ≤ 1000000 := by omega
  have HK := Lib.hid hk2
  have HGY := Lib.hid hgy; have HW2 := Lib.hid HB2.out.size; have HS := Lib.hid n1; have HLR2 : Hid (lr ≤ 100000) := Lib.hid (by have := HLR2'.out lx HLX.out; omega)
  clear L1 L2 N3 N4 hlr hlq hj1 hj2 ht1 ht2 hDD hd1 hd2 hll hlx2 hkl hk2 HLX HXL hbn i0 n1 n2 hi hz0 hz1 hz2 HLX2 hgx hgy H1 H2 hl HB2
  clear e0 ik
  go_wp2
  have A3 := At.made w5 .u32 lq 118
  have F3 := Fr.made w5 .u32 lq lq 118
  have B3 : Below w5.heap.size w5 (w5.alloc (.cells (madeCells #[.int .u32 0] lq) 118)) := below_alloc (Below.refl _ _) _
  obtain ⟨w6, hw6⟩ : ∃ w6, w6 = w5.alloc (.cells (madeCells #[.int .u32 0] lq) 118) := ⟨_, rfl⟩
  rw [← hw6] at A3 F3 B3 ⊢
  obtain ⟨gq, hgq⟩ : ∃ gq, gq = w5.heap.size := ⟨_, rfl⟩
  rw [← hgq] at A3 F3 ⊢
  have hgx : gx < w5.heap.size := X5.out.lt (by have := RX.out; have := HLR.out; omega)
  have hgy : gy < w5.heap.size := YA.out.lt (by rw [DL.out]; have := HK.out; omega)
  have n1' : Hid (gx ≠ gq ∧ gy ≠ gq ∧ gy ≠ gx ∧ w.heap.size ≤ gq ∧ w.heap.size ≤ gx) := Lib.hid (by
    have h1 := HGX.out; have h2 := HGY.out; have h3 := HW5.out.size; have h4 := HW2.out; have h5 := B5.out.size; omega)
  have S1 := Lib.hid (X5.out.mono B3)
  have S2 := Lib.hid (F5.out.mono B3 hgx)
  have S3 := Lib.hid (YA.out.mono B3)
  have S4 := Lib.hid A3; have S5 := Lib.hid F3
  have S6 := Lib.hid (below_step HW5.out B3)
  clear A3 F3 B3 hw6 hgq hgx hgy X5 F5 YA HW5 hmk t1 t2 i4 i5 i6 i7 i3
  go_loopw [15] (fun i wr => ∃ k : Nat, k ≤ lq ∧ i = .int .i64 ((k : Int) - 1) ∧ ∃ rs qs, Hid (LongInv (2 ^ 32) ly D rs0 rs qs k) ∧ Hid (At wr .u32 gx 0 rs) ∧ Hid (Fr wr gx 0 lr) ∧ Hid (At wr .u32 gy oy dt) ∧ Hid (At wr .u32 gq 0 qs) ∧ Hid (Fr wr gq 0 lq) ∧ Hid (Below w.heap.size w wr)) (fun i _ => (intOf i + 1).toNat)
  case atStart => exact ⟨lq, Nat.le_refl _, rfl, rs0, List.replicate lq 0, L2', S1, S2, S3, S4, S5, S6⟩
  case round =>
    clear S1 S2 S3 S4 S5 S6
    obtain ⟨k, hk, rfl, rs, qs, HI, S1, S2, S3, S4, S5, S6⟩ := hrel
    have hrl : rs.length = lr := by rw [HI.out.len, RX.out]
    have hql : qs.length = lq := by have h1 := HI.out.qlen; have h2 := RX.out; have h3 := HLR.out; have h4 := HLQ.out; omega
    rcases Nat.eq_zero_or_pos k with hk0 | hk0
    · subst hk0
      have hinv := HI.out
      have hsm := hinv.small
      have hsum := hinv.sum
      rw [List.drop_zero] at hsm
      rw [List.drop_zero, List.drop_zero, List.drop_zero, RV.out, HDD.out] at hsum
      rw [HDD.out] at hsm
      obtain ⟨e1, e2⟩ := long_end N0.out hsum hsm
      have HT1 := Lib.hid (fun W (a : At W .u32 gq 0 qs) => rtrim_n gq 0 lq lq qs hql W a hinv.qlt (by omega) (Nat.le_refl _))
      have HT2 := Lib.hid (fun W (a : At W .u32 gx 0 rs) => rtrim_n gx 0 cx lr rs hrl W a hinv.lt (by omega) v1)
      have HE2 := Lib.hid e2
      rw [e1] at HT1
      have HT3 := Lib.hid (fun W p l c (a : IsR W p l c (val (2 ^ 32) rs)) (hl : l ≤ 100000) => rShiftNeg_any p l c (val (2 ^ 32) rs) s W hl (by have := HS.out; omega) a)
      rw [e2] at HT3
      have HLS : Hid ((dr (val (2 ^ 32) rs)).length ≤ 100000) := Lib.hid (Nat.le_trans (digs_length_le (k := lr) (by omega) (by rw [← hrl]; exact val_lt _ _ hinv.lt)) (by have := HLR2.out; omega))
      generalize val (2 ^ 32) rs = R at *
      clear hinv hsm hsum e1 e2 HI hrl hql hk
      go_wp2_with fail
      refine (HT1.out _ S4.out).mono ?_
      rintro e u1 ⟨p1, l1, c1, rfl, q1, hb1⟩
      have Q1 := Lib.hid q1; have U1 := Lib.hid (S1.out.mono hb1); have HB1 := Lib.hid (below_step S6.out hb1)
      clear q1 hb1
      go_wp2_with fail
      refine (HT2.out _ U1.out).mono ?_
      rintro e u2 ⟨p2, l2, c2, rfl, q2, hb2⟩
      have Q2 := Lib.hid q2; have Q1 := Lib.hid (Q1.out.mono hb2); have HB2 := Lib.hid (below_step HB1.out hb2)
      clear q2 hb2
      have hl2 : l2 ≤ 100000 := by rw [Q2.out.1]; exact HLS.out
      have hs := HS.out
      go_wp2_with fail
      refine (HT3.out _ _ _ _ Q2.out hl2).mono ?_
      rintro e u3 ⟨p3, l3, c3, rfl, q3, hb3⟩
      have Q3 := Lib.hid q3; have Q1 := Lib.hid (Q1.out.mono hb3); have HB3 := Lib.hid (below_step HB2.out hb3)
      clear q3 hb3
      go_wp2
      exact bodyPost_ret (v := .tuple #[.slice p1 l1 c1, .slice p3 l3 c3]) (by simp [results, Tryz.results95, go_sem]) rfl ⟨_, _, _, _, _, _, rfl, Q1.out, Q3.out, HB3.out⟩
    · obtain ⟨j, rfl⟩ : ∃ j, k = j + 1 := ⟨k - 1, by omega⟩
      have hk2 := HK.out; have hlr := HLR.out; have hlq := HLQ.out; have hlr2 := HLR2.out
      obtain ⟨p1, p2, p3, p4⟩ := HI.out.part (by omega) L1'.out (by omega)
      obtain ⟨n1, hn1⟩ : ∃ n1, n1 = ly + 1 := ⟨_, rfl⟩
      have hpl : ((rs.drop j).take n1).length = n1 := by rw [List.length_take, List.length_drop]; omega
      have hpX : ∀ x ∈ (rs.drop j).take n1, x < 2 ^ 32 := fun x hx => HI.out.lt x (List.mem_of_mem_drop (List.mem_of_mem_take hx))
      have HST := Lib.hid (fun q zs a b c d e => HI.out.step (q := q) (zs := zs) (by omega) L1'.out (by omega) a b c d e)
      rw [← hn1] at HST
      have hPV : val (2 ^ 32) ((rs.drop j).take n1) < 2 ^ 32 * D := by rw [hn1, p1]; exact p2
      have hjk : j + n1 ≤ rs.length := by omega
      have SA : At wr .u32 gx 0 (midRow rs ((rs.drop j).take n1) j n1) := by rw [midRow_start _ _ _ hjk]; exact S1.out
      generalize (rs.drop j).take n1 = part at *
      obtain ⟨jn, hjn⟩ : ∃ x, x = j + ly := ⟨_, rfl⟩
      obtain ⟨ja, hja⟩ : ∃ x, x = j + ly - 1 := ⟨_, rfl⟩
      obtain ⟨jb, hjb⟩ : ∃ x, x = j + ly - 2 := ⟨_, rfl⟩
      have c0 := SA.zero jn (by rw [midRow_length hjk hpl]; omega)
      have c1 := SA.zero ja (by rw [midRow_length hjk hpl]; omega)
      have c2 := SA.zero jb (by rw [midRow_length hjk hpl]; omega)
      rw [show jn = j + ly from hjn, midRow_getD hjk hpl (by omega), ← hjn] at c0
      rw [show ja = j + (ly - 1) from by omega, midRow_getD hjk hpl (by omega), ← show ja = j + (ly - 1) from by omega] at c1
      rw [show jb = j + (ly - 2) from by omega, midRow_getD hjk hpl (by omega), ← show jb = j + (ly - 2) from by omega] at c2
      have hj1 := HJ1.out; have hj2 := HJ2.out
      rw [← hj1] at c1
      rw [← hj2] at c2
      have a0 := getD_lt hpX (by omega) ly
      have a1 := getD_lt hpX (by omega) j1
      have a2 := getD_lt hpX (by omega) j2
      have hTT : 2 ^ 31 ≤ dt.getD j1 0 := by rw [← HT1.out]; exact HT.out
      have HGU := Lib.hid (fun g (hg : g < 2 ^ 32) h1 h2 => rguess_of (b := 2 ^ 32) (j := j2) (zs := part) (xs := dt) (by omega) (by omega) (by rw [DL.out]; omega) hpX DX.out (by rw [show j2 + 1 = j1 from by omega]; omega) (by rw [DV.out]; exact hPV) hg h1 h2)
      have hp0 := rguess_head (b := 2 ^ 32) (j := j2) (zs := part) (xs := dt) (by omega) (by omega) (by rw [DL.out]; omega) DX.out (by rw [DV.out]; exact hPV)
      rw [show j2 + 1 = j1 from by omega, show j2 + 2 = ly from by omega, ← HT1.out] at hp0
      rw [show j2 + 1 = j1 from by omega, show j2 + 2 = ly from by omega, ← HT1.out, ← HT2.out, DV.out] at HGU
      generalize part.getD ly 0 = p0 at *
      generalize part.getD j1 0 = q1 at *
      generalize part.getD j2 0 = q2 at *
      clear HI
      have A0 := Lib.hid a0; have A1 := Lib.hid a1; have A2 := Lib.hid a2
      have HST' := HST
      obtain ⟨two, htwo⟩ : ∃ x, x = p0 * 2 ^ 32 + q1 := ⟨_, rfl⟩
      have ht64 : two < 2 ^ 64 := by omega
      have i0 : ((j + 1 : Nat) : Int) - 1 = (j : Int) := by omega
      rw [i0]
      have i1 : (0 : Int) ≤ j := by omega
      have i2 : (j : Int) < lq := by omega
      have i3 : (j : Int) + ly = (jn : Int) := by omega
      have i4 : (jn : Int) - 1 = (ja : Int) := by omega
      have i5 : (jn : Int) - 2 = (jb : Int) := by omega
      have i6 : (jn : Int) < lr := by omega
      have i7 : (ja : Int) < lr := by omega
      have i8 : (jb : Int) < lr := by omega
      have wor : bits .or .u64 ((p0 : Int) * 4294967296) (q1 : Int) = (two : Int) := by
        rw [show (p0 : Int) * 4294967296 = ((2 ^ 32 * p0 : Nat) : Int) from by omega, u64_or_nat _ _ (by omega) (by omega), ← Nat.two_pow_add_eq_or_of_lt a1, htwo, Nat.mul_comm]
      have wsl : IntKind.u64.wrap ((p0 : Int) * 4294967296) = (p0 : Int) * 4294967296 := by rw [IntKind.wrap_u64]; omega
      have wp0 : IntKind.u64.wrap (p0 : Int) = p0 := by rw [IntKind.wrap_u64]; omega
      have wq1 : IntKind.u64.wrap (q1 : Int) = q1 := by rw [IntKind.wrap_u64]; omega
      have hD1 := D1.out; have hD2 := D2.out; have hHT := HT.out
      obtain ⟨g0, hg0⟩ : ∃ x, x = two / top := ⟨_, rfl⟩
      obtain ⟨r0, hr0⟩ : ∃ x, x = two % top := ⟨_, rfl⟩
      have wtop : ((top : Int) == 0) = false := beq_eq_false_iff_ne.2 (by omega)
      have wtop2 : ¬ top = 0 := by omega
      have wq : (two : Int) / top = (g0 : Int) := by rw [hg0, Int.natCast_ediv]
      have ws : (two : Int) % top = (r0 : Int) := by rw [hr0, Int.natCast_emod]
      have wq2 : (two : Int).tdiv top = (g0 : Int) := by rw [Int.tdiv_eq_ediv_of_nonneg (by omega), wq]
      have ws2 : (two : Int).tmod top = (r0 : Int) := by rw [Int.tmod_eq_emod_of_nonneg (by omega), ws]
      have hr00 : r0 < top := by rw [hr0]; exact Nat.mod_lt _ (by omega)
      have hg00 : g0 ≤ two := by rw [hg0]; exact Nat.div_le_self _ _
      have wg0 : IntKind.u64.wrap (g0 : Int) = g0 := by rw [IntKind.wrap_u64]; omega
      have HI : Hid (RGuess (2 ^ 32) (p0 * 2 ^ 32 + q1) q2 top nxt g0 r0) := Lib.hid (by rw [hg0, hr0, htwo]; exact RGuess.start (by omega) a2)
      have HR0 : Hid (r0 < 2 ^ 32) := Lib.hid (by omega)
      have HP0 := Lib.hid hp0; have HT2 := Lib.hid htwo; have HT64 := Lib.hid ht64
      have HJN := Lib.hid hjn; have HHJ1 := Lib.hid hj1; have HPL := Lib.hid hpl; have HPX := Lib.hid hpX; have HPV := Lib.hid hPV; have HN1 := Lib.hid hn1; have HJK := Lib.hid hjk; have HSA := Lib.hid SA; have HRL := Lib.hid hrl; have HQL := Lib.hid hql
      clear hp0 htwo ht64 hjn hja hjb hj1 hj2 hpl hpX hPV hn1 hjk SA hrl hql a0 a1 a2 hk2 hlr hlq hlr2 hk hk0 p1 p2 p3 p4 HST hD1 hD2 hHT hg0 hr0 hr00 hg00
      go_wp2
      go_big_region
      go_wp2
--GUESS
      obtain ⟨wd, hwd⟩ : ∃ x, x = wr.drew := ⟨_, rfl⟩
      have hbd : Below wr.heap.size wr wr.drew := (Below.refl _ _).drew
      have hgx : gx < wr.heap.size := S1.out.lt (by rw [HRL.out]; have := HLR.out; omega)
      have hgq : gq < wr.heap.size := S4.out.lt (by rw [HQL.out]; omega)
      rw [← hwd] at hbd
      have M1 := Lib.hid (HSA.out.mono hbd); have M2 := Lib.hid (S2.out.mono hbd hgx); have M3 := Lib.hid (S3.out.mono hbd); have M4 := Lib.hid (S4.out.mono hbd); have M5 := Lib.hid (S5.out.mono hbd hgq); have M6 := Lib.hid (below_step S6.out hbd)
      have c2' : wd.cell? ⟨gx, jb, none⟩ = some (Value.int IntKind.u32 (q2 : Int)) := by rw [hwd]; simpa [go_sem] using c2
      rw [← hwd]
      clear hbd hgx hgq hwd c0 c1 c2 wor wsl wp0 wq1 wq ws wq2 ws2 wg0 wtop wtop2 HSA S2 S3 S4 S5 S6
      rename_i K hKK
      have key : ∀ (u19 u20 u21 u22 u23 u24 u85 u86 u87 u88 u89 u90 u91 u92 u93 u94 u95 u96 u97 u98 u99 u100 u101 u102 u103 u104 u105 u106 u107 u108 u109 u110 u111 u112 u113 u114 u115 u116 u117 u118 u119 u120 u121 u122 u123 u124 u125 u126 u127 u128 u129 u130 u131 u132 u133 u134 u135 u136 u137 u138 u139 u140 u141 u142 u143 u144 u145 u146 u147 u148 u149 u150 u151 u152 u153 u154 u155 u156 u157 u158 u159 u160 u161 u162 u163 u164 u165 u166 u167 u168 u169 u170 u171 u172 u173 u174 u175 u176 u177 u178 u179 u180 u181 u182 u183 u184 u185 u186 u187 u188 u189 u190 u191 u192 u193 u194 u195 u196 u197 u198 u199 u200 u201 u202 u203 u204 u205 u206 u207 u208 u209 u210 u211 u212 u213 u214 u215 u216 u217 u218 u219 u220 u221 u222 u223 u224 u225 u226 u227 u228 u229 u230 u231 u232 u233 u234 u235 u236 u237 u238 u239 u240 u241 u242 u243 u244 u245 u246 u247 u248 u249 u250 : Value) (g r : Nat), g < 2 ^ 32 → val (2 ^ 32) part / D ≤ g ∧ g ≤ val (2 ^ 32) part / D + 1 → K { tmps := #[.slice p l c, .slice q ly d, undef, undef, .slice none 0 0, .slice none 0 0, undef, undef, .int .i64 (s : Int), .slice (some ⟨gy, oy, none⟩) ly cy, .slice (some ⟨gx, 0, none⟩) lr cx, .int .i64 (ly : Int), .int .u64 (top : Int), .int .u64 (nxt : Int), .slice (some ⟨gq, 0, none⟩) lq lq, .int .i64 (j : Int), .int .u64 (two : Int), .int .u64 (g : Int), .int .u64 (r : Int), u19, u20, u21, u22, u23, u24, .slice p l c, .slice q ly d, .int .i64 u, .bool (decide (u < 0)), undef, .slice q ly d, .int .i64 (ly : Int), .bool false, undef, undef, undef, undef, undef, undef, undef, undef, undef, undef, undef, undef, .slice q ly d, .int .i64 (ly : Int), .int .i64 (32 * (ly : Int)), .slice q ly d, .int .i64 (bl : Int), .int .i64 (s : Int), .slice q ly d, .int .i64 (s : Int), .slice (some ⟨gy, oy, none⟩) ly cy, .slice (some ⟨w2.heap.size, 0, none⟩) 0 0, .slice p l c, .int .i64 (s : Int), .slice (some ⟨bx, ox, none⟩) lx cx0, v4, .slice (some ⟨w4.heap.size, 0, none⟩) 2 2, .slice (some ⟨gx, 0, none⟩) lr cx, .slice (some ⟨gy, oy, none⟩) ly cy, .int .i64 (ly : Int), .slice (some ⟨gy, oy, none⟩) ly cy, .int .i64 (ly : Int), .int .i64 (j1 : Int), .pointer (some ⟨gy, oy + j1, none⟩), .int .u32 (top : Int), .int .u64 (top : Int), .slice (some ⟨gy, oy, none⟩) ly cy, .int .i64 (ly : Int), .int .i64 (j2 : Int), .pointer (some ⟨gy, oy + j2, none⟩), .int .u32 (nxt : Int), .int .u64 (nxt : Int), .slice (some ⟨gx, 0, none⟩) lr cx, .int .i64 (lr : Int), .int .i64 (ly : Int), .int .i64 (lq : Int), .slice (some ⟨gq, 0, none⟩) lq lq, .slice (some ⟨gx, 0, none⟩) lr cx, .int .i64 (lr : Int), .int .i64 (ly : Int), .int .i64 (lq : Int), .int .i64 ((lq : Int) - 1), u85, u86, u87, u88, u89, u90, u91, u92, u93, u94, u95, u96, u97, u98, u99, u100, u101, u102, u103, u104, u105, u106, u107, u108, u109, u110, u111, u112, u113, u114, u115, u116, u117, u118, u119, u120, u121, u122, u123, u124, u125, u126, u127, u128, u129, u130, u131, u132, u133, u134, u135, u136, u137, u138, u139, u140, u141, u142, u143, u144, u145, u146, u147, u148, u149, u150, u151, u152, u153, u154, u155, u156, u157, u158, u159, u160, u161, u162, u163, u164, u165, u166, u167, u168, u169, u170, u171, u172, u173, u174, u175, u176, u177, u178, u179, u180, u181, u182, u183, u184, u185, u186, u187, u188, u189, u190, u191, u192, u193, u194, u195, u196, u197, u198, u199, u200, u201, u202, u203, u204, u205, u206, u207, u208, u209, u210, u211, u212, u213, u214, u215, u216, u217, u218, u219, u220, u221, u222, u223, u224, u225, u226, u227, u228, u229, u230, u231, u232, u233, u234, u235, u236, u237, u238, u239, u240, u241, u242, u243, u244, u245, u246, u247, u248, u249, u250, undef, undef, undef, undef, undef, undef, undef], defers := [] } wd := by
        intro u19 u20 u21 u22 u23 u24 u85 u86 u87 u88 u89 u90 u91 u92 u93 u94 u95 u96 u97 u98 u99 u100 u101 u102 u103 u104 u105 u106 u107 u108 u109 u110 u111 u112 u113 u114 u115 u116 u117 u118 u119 u120 u121 u122 u123 u124 u125 u126 u127 u128 u129 u130 u131 u132 u133 u134 u135 u136 u137 u138 u139 u140 u141 u142 u143 u144 u145 u146 u147 u148 u149 u150 u151 u152 u153 u154 u155 u156 u157 u158 u159 u160 u161 u162 u163 u164 u165 u166 u167 u168 u169 u170 u171 u172 u173 u174 u175 u176 u177 u178 u179 u180 u181 u182 u183 u184 u185 u186 u187 u188 u189 u190 u191 u192 u193 u194 u195 u196 u197 u198 u199 u200 u201 u202 u203 u204 u205 u206 u207 u208 u209 u210 u211 u212 u213 u214 u215 u216 u217 u218 u219 u220 u221 u222 u223 u224 u225 u226 u227 u228 u229 u230 u231 u232 u233 u234 u235 u236 u237 u238 u239 u240 u241 u242 u243 u244 u245 u246 u247 u248 u249 u250 g r hg hgu
        refine hKK _ _ ?_
        have HG := Lib.hid hg; have HGV := Lib.hid hgu
        clear hKK hg hgu HI HR0 HGU c2'
        go_wp2
        have hGb := HG.out
        have BN := n1'.out
        have HD0' : 0 < D := Nat.pos_of_ne_zero HD0.out
        have hjk := HJK.out; have hrl := HRL.out; have hn1 := HN1.out; have hlr := HLR.out; have hlq := HLQ.out; have hpl := HPL.out; have hdl := DL.out; have hjn := HJN.out
        have hgyx : gy ≠ gx := BN.2.2.1
        have hgqx : gq ≠ gx := fun h => BN.1 h.symm
        have hgy' : gq ≠ gy := fun h => BN.2.1 h.symm
        have hwgq := BN.2.2.2.1; have hwgx := BN.2.2.2.2
        clear BN
        have HX := Lib.hid (And.intro hjk (And.intro hrl (And.intro hn1 (And.intro hpl (And.intro hdl hjn)))))
        have HY := Lib.hid (And.intro hgyx (And.intro hgqx (And.intro hgy' (And.intro hwgq hwgx))))
        have HDP := Lib.hid HD0'
        clear hGb HD0' hjk hrl hn1 hlr hlq hpl hdl hjn hgyx hgqx hgy' hwgq hwgx
        clear S1 L1' hTT i4 i5 i7 i8 x1 x2 HT64 HT2 HP0
        go_loopw [19, 20, 21] (fun c o i wq => ∃ k c' o' : Nat, k ≤ ly ∧ i = .int .i64 (k : Int) ∧ c = .int .u64 (c' : Int) ∧ o = .int .u64 (o' : Int) ∧ c' ≤ 2 ^ 32 - 2 ∧ o' ≤ 1 ∧ ∃ zs, Hid (TimesInv (2 ^ 32) part dt g zs k (c' + o')) ∧ Hid (At wq .u32 gx 0 (midRow rs zs j n1)) ∧ Hid (Only wd wq gx 0 lr)) (fun _ _ i _ => ly - (intOf i).toNat)
        case atStart => exact ⟨0, 0, 0, Nat.zero_le _, rfl, rfl, rfl, by omega, by omega, part, Lib.hid (TimesInv.start (by omega) _ _ _ HPX.out), M1, Lib.hid (Only.refl _ _ _ _)⟩
        case round =>
          clear M1
          obtain ⟨k, c, o, hk, rfl, rfl, rfl, hc, ho, zs, HI, HA, HO⟩ := hrel
          obtain ⟨hjk, hrl, hn1, hpl, hdl, hjn⟩ := HX.out
          have hzl : zs.length = n1 := by rw [HI.out.len, hpl]
          have hgb := HG.out
          by_cases hlt : k < ly
          · obtain ⟨jk, hjk2⟩ : ∃ x, x = j + k := ⟨_, rfl⟩
            have c1 := HA.out.zero jk (by rw [midRow_length hjk hzl]; omega)
            rw [hjk2, midRow_getD hjk hzl (by omega), ← hjk2] at c1
            have f1 := (M2.out.only HO.out).zero jk (by omega)
            have c3 := (M3.out.only HO.out HY.out.1) k (by omega)
            have hz := getD_lt HI.out.lt (by omega) k
            have hy := getD_lt DX.out (by omega) k
            obtain ⟨C, hC⟩ : ∃ x, x = c + g * dt.getD k 0 := ⟨_, rfl⟩
            obtain ⟨e1, e2⟩ := rtimes_fits hy hgb hc
            obtain ⟨s1, b, hb1, hs1, hlt2, heq, ws, wb⟩ := rtimes_digit hz hy hgb hc ho hC
            have HNX := HI.out.step (by omega) hs1 hlt2 heq
            rw [← hC] at e1 e2
            have HAN := HA.out.set jk s1 (by rw [midRow_length hjk hzl]; omega)
            rw [Nat.zero_add, hjk2, midRow_set hjk hzl (by omega), ← hjk2] at HAN
            have HON := HO.out.setCell jk (by omega) (by omega) (.int .u32 (s1 : Int))
            obtain ⟨P, hP⟩ : ∃ x, x = g * dt.getD k 0 := ⟨_, rfl⟩
            rw [← hP] at hC
            have wy : IntKind.u64.wrap ((dt.getD k 0 : Nat) : Int) = ((dt.getD k 0 : Nat) : Int) := by rw [IntKind.wrap_u64]; omega
            have wz : IntKind.u64.wrap ((zs.getD k 0 : Nat) : Int) = ((zs.getD k 0 : Nat) : Int) := by rw [IntKind.wrap_u64]; omega
            have wm1 : IntKind.u64.wrap ((g : Int) * ((dt.getD k 0 : Nat) : Int)) = (P : Int) := by
              rw [show (g : Int) * ((dt.getD k 0 : Nat) : Int) = (P : Int) from by rw [hP]; norm_cast, IntKind.wrap_u64]; omega
            have wm2 : IntKind.u64.wrap ((c : Int) + P) = (C : Int) := by rw [IntKind.wrap_u64]; omega
            have wlo : bits .and .u64 (C : Int) 4294967295 = ((C % 2 ^ 32 : Nat) : Int) := Mul64.maskN C (by omega)
            generalize C % 2 ^ 32 = lo at *
            generalize hc2 : C / 2 ^ 32 = c2 at *
            have wc2 : (C : Int) / 4294967296 = (c2 : Int) := by omega
            generalize dt.getD k 0 = y at *
            generalize zs.getD k 0 = z at *
            obtain ⟨v1, hv1⟩ : ∃ x : Nat, IntKind.u64.wrap ((z : Int) - lo) = (x : Int) := ⟨(IntKind.u64.wrap ((z : Int) - lo)).toNat, by have := IntKind.wrap_u64 ((z : Int) - lo); omega⟩
            rw [hv1] at ws wb
            obtain ⟨v2, hv2⟩ : ∃ x : Nat, IntKind.u64.wrap ((v1 : Int) - o) = (x : Int) := ⟨(IntKind.u64.wrap ((v1 : Int) - o)).toNat, by have := IntKind.wrap_u64 ((v1 : Int) - o); omega⟩
            rw [hv2] at ws wb
            have i9 : (j : Int) + k = (jk : Int) := by omega
            have i10 : (jk : Int) < lr := by omega
            have i11 : (0 : Int) ≤ k := by omega
            have i12 : (k : Int) < ly := by omega
            have HNX' := Lib.hid HNX; have HAN' := Lib.hid HAN; have HON' := Lib.hid HON; have HE2 := Lib.hid e2; have HB1 := Lib.hid hb1
            clear HI HA HO HNX HAN HON hjk hrl hn1 hpl hdl hjn hzl hgb hjk2 hz hy hC e1 e2 hs1 hlt2 heq hP hc2 hc ho hb1
            go_wp2
            go_roundw
            case rel => exact ⟨k + 1, c2, b, by omega, by go_num, rfl, rfl, HE2.out, HB1.out, zs.set k s1, HNX', HAN', HON'⟩
            case measure => simp [intOf]; omega
          · obtain rfl : k = ly := by omega
            have hz := getD_lt HI.out.lt (by omega) k
            have c1 := HA.out.zero jn (by rw [midRow_length hjk hzl]; omega)
            rw [hjn, midRow_getD hjk hzl (by omega), ← hjn] at c1
            have f1 := (M2.out.only HO.out).zero jn (by omega)
            obtain ⟨s1, b, hb1, hs1, heq, ws, wb⟩ := rless_digit (l := c) (o := o) hz (by omega) ho
            have hdone := HI.out.done (s := s1) (d := b) hdl (by omega) (by omega)
            rw [DV.out, ← hn1] at hdone
            have hlt1 := set_all_lt (k := k) HI.out.lt hs1
            have hl1 : (zs.set k s1).length = n1 := by rw [List.length_set]; exact hzl
            have HAN := HA.out.set jn s1 (by rw [midRow_length hjk hzl]; omega)
            rw [Nat.zero_add, hjn, midRow_set hjk hzl (by omega), ← hjn] at HAN
            have HON := HO.out.setCell jn (by omega) (by omega) (.int .u32 (s1 : Int))
            have wz : IntKind.u64.wrap ((zs.getD k 0 : Nat) : Int) = ((zs.getD k 0 : Nat) : Int) := by rw [IntKind.wrap_u64]; omega
            have hDM : D ≤ (2 ^ 32) ^ n1 := by
              have h1 : D < (2 ^ 32) ^ k := by rw [← DV.out, ← hdl]; exact val_lt _ _ DX.out
              have h2 : (2 ^ 32) ^ k ≤ (2 ^ 32) ^ n1 := Nat.pow_le_pow_right (by omega) (by omega)
              omega
            have hVM : val (2 ^ 32) (zs.set k s1) < (2 ^ 32) ^ n1 := by rw [← hl1]; exact val_lt _ _ hlt1
            have hdig := long_digit HDP.out hDM HGV.out.1 HGV.out.2 hVM hdone hb1
            have hqb : val (2 ^ 32) part / D < 2 ^ 32 := (Nat.div_lt_iff_lt_mul HDP.out).2 HPV.out
            generalize zs.getD k 0 = z at *
            generalize zs.set k s1 = zs1 at *
            obtain ⟨v1, hv1⟩ : ∃ x : Nat, IntKind.u64.wrap ((z : Int) - c) = (x : Int) := ⟨(IntKind.u64.wrap ((z : Int) - c)).toNat, by have := IntKind.wrap_u64 ((z : Int) - c); omega⟩
            rw [hv1] at ws wb
            obtain ⟨v2, hv2⟩ : ∃ x : Nat, IntKind.u64.wrap ((v1 : Int) - o) = (x : Int) := ⟨(IntKind.u64.wrap ((v1 : Int) - o)).toNat, by have := IntKind.wrap_u64 ((v1 : Int) - o); omega⟩
            rw [hv2] at ws wb
            have HDIG := Lib.hid hdig; have HQB := Lib.hid hqb; have HLT1 := Lib.hid hlt1; have HL1 := Lib.hid hl1; have HAN' := Lib.hid HAN; have HON' := Lib.hid HON; have HB1 := Lib.hid hb1
            clear HI HA HO HAN HON hdig hqb hlt1 hl1 hdone hDM hVM hz hs1 heq hb1 hjk hrl hn1 hpl hdl hjn hzl hgb hk hlt hc ho
            rcases Nat.eq_zero_or_pos b with hb0 | hb0
            · subst hb0
              obtain ⟨y1, y2, y3⟩ := HDIG.out.1 rfl
              have HF := Lib.hid (HST'.out g zs1 HL1.out HLT1.out HG.out y2 y3)
              have HE := HON'.out
              have Q3 := M4.out.only HE HY.out.2.1
              have Q4 := M5.out.onlyOther HE (M4.out.lt (by rw [HQL.out]; omega)) HY.out.2.1
              have B3 := Lib.hid (M3.out.only HE HY.out.1)
              have F3 := Lib.hid (M2.out.only HE)
              have W3 := Lib.hid (M6.out.trans (HE.below (B := w.heap.size) HY.out.2.2.2.2 M6.out.size))
              have c4 := Q3.zero j (by rw [HQL.out]; omega)
              have f4 := Q4.zero j (by omega)
              have Q5 := Q3.set j g (by rw [HQL.out]; omega)
              rw [Nat.zero_add] at Q5
              have Q6 := Lib.hid Q5; have Q7 := Lib.hid Q4
              generalize qs.getD j 0 = q0 at *
              have wbI : (v2 : Int) / 9223372036854775808 = 0 := by simpa using wb
              have wg : (g : Int) % 4294967296 = g := by have := HG.out; omega
              clear y1 y2 y3 HE Q3 Q4 Q5 HDIG HST' wb
              go_wp2
              go_roundw
              case rel => exact ⟨j, by omega, by go_num, _, _, HF, Lib.hid (HAN'.out.setOther _ _ HY.out.2.1), Lib.hid (F3.out.setCell _ _), Lib.hid (B3.out.setOther _ _ HY.out.2.2.1), Q6, Lib.hid (Q7.out.setCell _ _), Lib.hid (W3.out.setCell HY.out.2.2.2.1 _)⟩
              case measure => simp [intOf]
            · obtain rfl : b = 1 := by have := HB1.out; omega
              obtain ⟨y0, y1, y2⟩ := HDIG.out.2 (by omega)
              have Y0 := Lib.hid y0; have Y1 := Lib.hid y1; have Y2 := Lib.hid y2
              obtain ⟨g1, hg1⟩ : ∃ x, x = g - 1 := ⟨_, rfl⟩
              have wg1 : IntKind.u64.wrap ((g : Int) - 1) = (g1 : Int) := wrap_at (by have := HG.out; omega)
              rw [← hg1] at Y1 Y2
              have HG1 := Lib.hid hg1
              have wbI : (v2 : Int) / 9223372036854775808 = 1 := by simpa using wb
              clear y0 y1 y2 hg1 HDIG wb hb0
              go_wp2
              obtain ⟨wa, hwa⟩ : ∃ x, x = wr.setCell ⟨gx, jn, none⟩ (.int .u32 (s1 : Int)) := ⟨_, rfl⟩
              rw [← hwa] at HAN' HON' ⊢
              clear hwa c1 f1 hv1 hv2 ws wz HB1 HGV HPV HDP
              go_loopw [19, 24] (fun c i wq => ∃ t c' : Nat, t ≤ k ∧ i = .int .i64 (t : Int) ∧ c = .int .u64 (c' : Int) ∧ ∃ zs', Hid (AddInv (2 ^ 32) zs1 dt zs' t c') ∧ Hid (At wq .u32 gx 0 (midRow rs zs' j n1)) ∧ Hid (Only wd wq gx 0 lr)) (fun _ i _ => k - (intOf i).toNat)
              case atStart => exact ⟨0, 0, Nat.zero_le _, rfl, rfl, zs1, Lib.hid (AddInv.start _ _ _ HLT1.out), HAN', HON'⟩
              case round =>
                clear HAN' HON'
                obtain ⟨t, c, ht, rfl, rfl, zs', HI, HA, HO⟩ := hrel
                obtain ⟨hjk, hrl, hn1, hpl, hdl, hjn⟩ := HX.out
                have hzl : zs'.length = n1 := by rw [HI.out.len, HL1.out]
                have hc := HI.out.carry
                by_cases hlt : t < k
                · obtain ⟨jk, hjk2⟩ : ∃ x, x = j + t := ⟨_, rfl⟩
                  have c1 := HA.out.zero jk (by rw [midRow_length hjk hzl]; omega)
                  rw [hjk2, midRow_getD hjk hzl (by omega), ← hjk2] at c1
                  have f1 := (M2.out.only HO.out).zero jk (by omega)
                  have c3 := (M3.out.only HO.out HY.out.1) t (by omega)
                  have hz := getD_lt HI.out.lt (by omega) t
                  have hy := getD_lt DX.out (by omega) t
                  obtain ⟨S, hS⟩ : ∃ x, x = c + zs'.getD t 0 + dt.getD t 0 := ⟨_, rfl⟩
                  obtain ⟨P, hP⟩ : ∃ x, x = c + zs'.getD t 0 := ⟨_, rfl⟩
                  obtain ⟨s2, hs2⟩ : ∃ x, x = S % 4294967296 := ⟨_, rfl⟩
                  obtain ⟨c2, hc2⟩ : ∃ x, x = S / 4294967296 := ⟨_, rfl⟩
                  have HNX := HI.out.step (s := s2) (d := c2) (by rw [HL1.out]; omega) (by omega) (by omega) (by omega)
                  have HAN := HA.out.drew.set jk s2 (by rw [midRow_length hjk hzl]; omega)
                  rw [Nat.zero_add, hjk2, midRow_set hjk hzl (by omega), ← hjk2] at HAN
                  have HON := HO.out.drew.setCell jk (by omega) (by omega) (.int .u32 (s2 : Int))
                  have wy : IntKind.u64.wrap ((dt.getD t 0 : Nat) : Int) = ((dt.getD t 0 : Nat) : Int) := by rw [IntKind.wrap_u64]; omega
                  have wz : IntKind.u64.wrap ((zs'.getD t 0 : Nat) : Int) = ((zs'.getD t 0 : Nat) : Int) := by rw [IntKind.wrap_u64]; omega
                  have wa1 : IntKind.u64.wrap ((c : Int) + ((zs'.getD t 0 : Nat) : Int)) = (P : Int) := by rw [IntKind.wrap_u64]; omega
                  have wa2 : IntKind.u64.wrap ((P : Int) + ((dt.getD t 0 : Nat) : Int)) = (S : Int) := by rw [IntKind.wrap_u64]; omega
                  have ws : (S : Int) % 4294967296 = (s2 : Int) := by omega
                  have wc2 : (S : Int) / 4294967296 = (c2 : Int) := by omega
                  generalize dt.getD t 0 = y at *
                  generalize zs'.getD t 0 = z at *
                  have i9 : (j : Int) + t = (jk : Int) := by omega
                  have i10 : (jk : Int) < lr := by omega
                  have i11 : (0 : Int) ≤ t := by omega
                  have i12 : (t : Int) < k := by omega
                  have HNX' := Lib.hid HNX; have HAN' := Lib.hid HAN; have HON' := Lib.hid HON
                  clear HI HA HO HNX HAN HON hjk hrl hn1 hpl hdl hjn hzl hjk2 hz hy hS hP hs2 hc2 hc ht
                  go_wp2
                  go_big_region
                  go_wp2
                  go_roundw
                  case rel => exact ⟨t + 1, c2, by omega, by go_num, rfl, zs'.set t s2, HNX', HAN', HON'⟩
                  case measure => simp [intOf]; omega
                · obtain rfl : t = k := by omega
                  have hz := getD_lt HI.out.lt (by omega) t
                  have c1 := HA.out.zero jn (by rw [midRow_length hjk hzl]; omega)
                  rw [hjn, midRow_getD hjk hzl (by omega), ← hjn] at c1
                  have f1 := (M2.out.only HO.out).zero jn (by omega)
                  obtain ⟨S, hS⟩ : ∃ x, x = zs'.getD t 0 + c := ⟨_, rfl⟩
                  obtain ⟨s2, hs2⟩ : ∃ x, x = S % 4294967296 := ⟨_, rfl⟩
                  obtain ⟨c2, hc2⟩ : ∃ x, x = S / 4294967296 := ⟨_, rfl⟩
                  have hd0 : dt.getD t 0 = 0 := by simp [List.getD, hdl]
                  have HNX := HI.out.step (s := s2) (d := c2) (by rw [HL1.out]; omega) (by omega) (by omega) (by omega)
                  have hdone := HNX.done (by omega) (by rw [HL1.out]; omega) (Or.inr (by rw [HL1.out]; omega))
                  rw [HL1.out, DV.out] at hdone
                  have hlt2 := HNX.lt
                  have hl2 : (zs'.set t s2).length = n1 := by rw [List.length_set]; exact hzl
                  obtain ⟨y2, y3⟩ := Y2.out (val (2 ^ 32) (zs'.set t s2)) c2 (by rw [← hl2]; exact val_lt _ _ hlt2) HNX.carry hdone
                  have hg1b : g1 < 2 ^ 32 := by rw [Y1.out]; exact HQB.out
                  have HF := Lib.hid (HST'.out g1 _ hl2 hlt2 hg1b y2 y3)
                  have HAN := HA.out.set jn s2 (by rw [midRow_length hjk hzl]; omega)
                  rw [Nat.zero_add, hjn, midRow_set hjk hzl (by omega), ← hjn] at HAN
                  have HE := HO.out.setCell jn (by omega) (by omega) (.int .u32 (s2 : Int))
                  have Q3 := M4.out.only HE HY.out.2.1
                  have Q4 := M5.out.onlyOther HE (M4.out.lt (by rw [HQL.out]; omega)) HY.out.2.1
                  have B3 := Lib.hid (M3.out.only HE HY.out.1)
                  have F3 := Lib.hid (M2.out.only HE)
                  have W3 := Lib.hid (M6.out.trans (HE.below (B := w.heap.size) HY.out.2.2.2.2 M6.out.size))
                  have c4 := Q3.zero j (by rw [HQL.out]; omega)
                  have f4 := Q4.zero j (by omega)
                  have Q5 := Q3.set j g1 (by rw [HQL.out]; omega)
                  rw [Nat.zero_add] at Q5
                  have Q6 := Lib.hid Q5; have Q7 := Lib.hid Q4; have HAN' := Lib.hid HAN
                  generalize qs.getD j 0 = q0 at *
                  have wz : IntKind.u64.wrap ((zs'.getD t 0 : Nat) : Int) = ((zs'.getD t 0 : Nat) : Int) := by rw [IntKind.wrap_u64]; omega
                  have wa1 : IntKind.u64.wrap (((zs'.getD t 0 : Nat) : Int) + (c : Int)) = (S : Int) := by rw [IntKind.wrap_u64]; omega
                  have ws : (S : Int) % 4294967296 = (s2 : Int) := by omega
                  have wg : (g1 : Int) % 4294967296 = g1 := by omega
                  generalize zs'.getD t 0 = z at *
                  generalize zs'.set t s2 = zs2 at *
                  clear y2 y3 HE Q3 Q4 Q5 HAN HST' HI HA HO HNX hdone hlt2 hl2 hg1b hz hS hs2 hc2 hd0 hjk hrl hn1 hpl hdl hjn hzl hlt hc
                  go_wp2
                  go_roundw
                  case rel => exact ⟨j, by omega, by go_num, _, _, HF, Lib.hid (HAN'.out.setOther _ _ HY.out.2.1), Lib.hid (F3.out.setCell _ _), Lib.hid (B3.out.setOther _ _ HY.out.2.2.1), Q6, Lib.hid (Q7.out.setCell _ _), Lib.hid (W3.out.setCell HY.out.2.2.2.1 _)⟩
                  case measure => simp [intOf]
      have KEY := Lib.hid key
      clear key hKK
      have hwd := Lib.hid (rfl : wd = wd)
      go_loopw [17, 18] (fun a c wq => ∃ g r : Nat, a = .int .u64 (g : Int) ∧ c = .int .u64 (r : Int) ∧ wq = wd ∧ r < 2 ^ 32 ∧ Hid (RGuess (2 ^ 32) (p0 * 2 ^ 32 + q1) q2 top nxt g r)) (fun a _ _ => (intOf a).toNat)
      case atStart => exact ⟨_, _, rfl, rfl, rfl, HR0.out, HI⟩
      case round =>
        clear HI HR0
        obtain ⟨g, r, rfl, rfl, rfl, hr, HI⟩ := hrel
        have hD1 := D1.out; have hD2 := D2.out; have hHT := HT.out; have hq2 := A2.out
        have htop2 := HI.out.top HP0.out A1.out (by omega)
        have HC : Hid ((2 ^ 32 ≤ g ∨ r * 2 ^ 32 + q2 < g * nxt) → 0 < g ∧ RGuess (2 ^ 32) (p0 * 2 ^ 32 + q1) q2 top nxt (g - 1) (r + top)) := Lib.hid (fun h => ⟨RGuess.pos (by omega) h, HI.out.step (by omega) h⟩)
        have HN : Hid (g < 2 ^ 32 → g * nxt ≤ r * 2 ^ 32 + q2 → g < 2 ^ 32 ∧ val (2 ^ 32) part / D ≤ g ∧ g ≤ val (2 ^ 32) part / D + 1) := Lib.hid (fun h1 h2 => ⟨h1, HGU.out g h1 (guess_fits HI.out.eq h2) HI.out.over⟩)
        obtain ⟨G, hG⟩ : ∃ x, x = g * nxt := ⟨_, rfl⟩
        obtain ⟨T, hT⟩ : ∃ x, x = r * 2 ^ 32 + q2 := ⟨_, rfl⟩
        have hG64 : G < 2 ^ 64 := by
          have h1 : g * nxt ≤ (2 ^ 32 + 1) * (2 ^ 32 - 1) := Nat.mul_le_mul htop2 (by omega)
          omega
        rw [← hG, ← hT] at HC HN
        have wmul : IntKind.u64.wrap ((g : Int) * nxt) = (G : Int) := by
          rw [show (g : Int) * nxt = (G : Int) from by rw [hG]; norm_cast, IntKind.wrap_u64]; omega
        have wor : bits .or .u64 ((r : Int) * 4294967296) (q2 : Int) = (T : Int) := by
          rw [show (r : Int) * 4294967296 = ((2 ^ 32 * r : Nat) : Int) from by omega, u64_or_nat _ _ (by omega) (by omega), ← Nat.two_pow_add_eq_or_of_lt hq2, hT, Nat.mul_comm]
        have wsl : IntKind.u64.wrap ((r : Int) * 4294967296) = (r : Int) * 4294967296 := by rw [IntKind.wrap_u64]; omega
        have wq2 : IntKind.u64.wrap (q2 : Int) = q2 := by rw [IntKind.wrap_u64]; omega
        obtain ⟨g5, hg5⟩ : ∃ x, x = g - 1 := ⟨_, rfl⟩
        obtain ⟨r5, hr5⟩ : ∃ x, x = r + top := ⟨_, rfl⟩
        have wr5 : IntKind.u64.wrap ((r : Int) + top) = (r5 : Int) := by rw [IntKind.wrap_u64]; omega
        rw [← hg5, ← hr5] at HC
        have hrI : (r : Int) < 4294967296 := by omega
        have HBK : Hid (0 < g → 2 ^ 32 ≤ r5 → RGuess (2 ^ 32) (p0 * 2 ^ 32 + q1) q2 top nxt g5 r5 → g5 < 2 ^ 32 ∧ val (2 ^ 32) part / D ≤ g5 ∧ g5 ≤ val (2 ^ 32) part / D + 1) := Lib.hid (fun h0 h1 h2 => by
          have h3 := HI.out.most HP0.out A1.out (by omega)
          refine ⟨by omega, HGU.out g5 (by omega) (guess_fits h2.eq ?_) h2.over⟩
          have e1 : g5 * nxt ≤ 2 ^ 32 * 2 ^ 32 := Nat.mul_le_mul (by omega) (by omega)
          omega)
        have HTP := Lib.hid htop2
        have HG5 := Lib.hid hg5; have HR5 := Lib.hid hr5
        clear HI hG hT hG64 hr5 hD1 hD2 hHT hq2 htop2 hg5 HGU
        by_cases hc : 2 ^ 32 ≤ g
        · obtain ⟨hp, hst⟩ := HC.out (Or.inl hc)
          have cI : (4294967296 : Int) ≤ g := by omega
          have wg5 : IntKind.u64.wrap ((g : Int) - 1) = (g5 : Int) := wrap_at (by have := HG5.out; have := HTP.out; omega)
          have HST := Lib.hid hst; have HPP := Lib.hid hp
          clear hc HC HN hst hp
          by_cases hb : 2 ^ 32 ≤ r5
          · have bI : (4294967296 : Int) ≤ r5 := by omega
            have hgo := HBK.out HPP.out hb HST.out
            clear HBK HST
            go_wp2
            exact KEY.out _ _ _ _ _ _ _ _ _ _ _ _ _ _ _ _ _ _ _ _ _ _ _ _ _ _ _ _ _ _ _ _ _ _ _ _ _ _ _ _ _ _ _ _ _ _ _ _ _ _ _ _ _ _ _ _ _ _ _ _ _ _ _ _ _ _ _ _ _ _ _ _ _ _ _ _ _ _ _ _ _ _ _ _ _ _ _ _ _ _ _ _ _ _ _ _ _ _ _ _ _ _ _ _ _ _ _ _ _ _ _ _ _ _ _ _ _ _ _ _ _ _ _ _ _ _ _ _ _ _ _ _ _ _ _ _ _ _ _ _ _ _ _ _ _ _ _ _ _ _ _ _ _ _ _ _ _ _ _ _ _ _ _ _ _ _ _ _ _ _ _ _ _ _ hgo.1 hgo.2
          · have bI : ¬ (4294967296 : Int) ≤ r5 := by omega
            have HB5 : Hid (r5 < 2 ^ 32) := Lib.hid (by omega)
            clear HBK hb
            go_wp2
            go_roundw
            case rel => exact ⟨g5, r5, rfl, rfl, by trivial, HB5.out, HST⟩
            case measure => have := HG5.out; have := HPP.out; simp [intOf]; omega
        · have cI : ¬ (4294967296 : Int) ≤ g := by omega
          by_cases hc2 : T < G
          · obtain ⟨hp, hst⟩ := HC.out (Or.inr hc2)
            have cI2 : (T : Int) < G := by omega
            have wg5 : IntKind.u64.wrap ((g : Int) - 1) = (g5 : Int) := wrap_at (by have := HG5.out; have := HTP.out; omega)
            have HST := Lib.hid hst; have HPP := Lib.hid hp
            clear hc hc2 HC HN hst hp
            by_cases hb : 2 ^ 32 ≤ r5
            · have bI : (4294967296 : Int) ≤ r5 := by omega
              have hgo := HBK.out HPP.out hb HST.out
              clear HBK HST
              go_wp2
              exact KEY.out _ _ _ _ _ _ _ _ _ _ _ _ _ _ _ _ _ _ _ _ _ _ _ _ _ _ _ _ _ _ _ _ _ _ _ _ _ _ _ _ _ _ _ _ _ _ _ _ _ _ _ _ _ _ _ _ _ _ _ _ _ _ _ _ _ _ _ _ _ _ _ _ _ _ _ _ _ _ _ _ _ _ _ _ _ _ _ _ _ _ _ _ _ _ _ _ _ _ _ _ _ _ _ _ _ _ _ _ _ _ _ _ _ _ _ _ _ _ _ _ _ _ _ _ _ _ _ _ _ _ _ _ _ _ _ _ _ _ _ _ _ _ _ _ _ _ _ _ _ _ _ _ _ _ _ _ _ _ _ _ _ _ _ _ _ _ _ _ _ _ _ _ _ _ hgo.1 hgo.2
            · have bI : ¬ (4294967296 : Int) ≤ r5 := by omega
              have HB5 : Hid (r5 < 2 ^ 32) := Lib.hid (by omega)
              clear HBK hb
              go_wp2
              go_roundw
              case rel => exact ⟨g5, r5, rfl, rfl, by trivial, HB5.out, HST⟩
              case measure => have := HG5.out; have := HPP.out; simp [intOf]; omega
          · have cI2 : ¬ (T : Int) < G := by omega
            have hgo := HN.out (by omega) (by omega)
            clear hc hc2 HC HN HBK
            go_wp2
            exact KEY.out _ _ _ _ _ _ _ _ _ _ _ _ _ _ _ _ _ _ _ _ _ _ _ _ _ _ _ _ _ _ _ _ _ _ _ _ _ _ _ _ _ _ _ _ _ _ _ _ _ _ _ _ _ _ _ _ _ _ _ _ _ _ _ _ _ _ _ _ _ _ _ _ _ _ _ _ _ _ _ _ _ _ _ _ _ _ _ _ _ _ _ _ _ _ _ _ _ _ _ _ _ _ _ _ _ _ _ _ _ _ _ _ _ _ _ _ _ _ _ _ _ _ _ _ _ _ _ _ _ _ _ _ _ _ _ _ _ _ _ _ _ _ _ _ _ _ _ _ _ _ _ _ _ _ _ _ _ _ _ _ _ _ _ _ _ _ _ _ _ _ _ _ _ _ hgo.1 hgo.2
end Go.Proofs.YtjhjlecnjkjbbaaGreatDoor
