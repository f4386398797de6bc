/- The document's quotient by one digit of 32 bits. -/
import Derived.Test.YtjhjlecnjkjbbaaGreatDoorRefProd
import Derived.Test.YtjhjlecnjkjbbaaGreatDoorLong
import Derived.Test.YtjhjlecnjkjbbaaGreatDoorDiv64
import Derived.Test.YtjhjlecnjkjbbaaGreatDoorRefCmp
import Derived.Test.YtjhjlecnjkjbbaaGreatDoorGuess
namespace Go.Proofs.YtjhjlecnjkjbbaaGreatDoor
open Go.RowKit

structure ROne (b d : Nat) (ws zs : List Nat) (i r : Nat) : Prop where
  len : zs.length = ws.length
  lt : ∀ x ∈ zs, x < b
  rest : r < d
  sum : val b (zs.drop i) * d + r = val b (ws.drop i)

theorem ROne.start {b d : Nat} {ws : List Nat} (hb : 0 < b) (hd : 0 < d) : ROne b d ws (List.replicate ws.length 0) ws.length 0 :=
  ⟨by simp, fun x hx => by rw [List.eq_of_mem_replicate hx]; exact hb, hd, by rw [List.drop_eq_nil_of_le (by simp), List.drop_eq_nil_of_le (Nat.le_refl _)]; simp [val]⟩

theorem ROne.step {b d : Nat} {ws zs : List Nat} {i r q s : Nat} (h : ROne b d ws zs (i + 1) r) (hi : i < ws.length) (hq : q < b) (hs : s < d) (e : q * d + s = r * b + ws.getD i 0) :
    ROne b d ws (zs.set i q) i s := by
  have hl := h.len
  refine ⟨by rw [List.length_set]; exact hl, set_all_lt h.lt hq, hs, ?_⟩
  rw [val_drop_cons b (zs.set i q) i (by rw [List.length_set]; omega), drop_set_succ, getD_set_self _ _ _ (by omega), val_drop_cons b ws i hi, ← h.sum]
  generalize val b (zs.drop (i + 1)) = V at *
  have e1 : (q + b * V) * d = q * d + b * (V * d) := by grind
  have e2 : b * (V * d + r) = b * (V * d) + r * b := by grind
  omega

theorem ROne.done {b d : Nat} {ws zs : List Nat} {r : Nat} (h : ROne b d ws zs 0 r) : val b zs = val b ws / d ∧ r = val b ws % d := by
  have h1 := h.sum
  have h2 := h.rest
  rw [List.drop_zero, List.drop_zero] at h1
  have h3 : val b ws / d = val b zs := Nat.div_eq_of_lt_le (by omega) (by rw [Nat.add_mul]; omega)
  refine ⟨h3.symm, ?_⟩
  have h4 := Nat.div_add_mod (val b ws) d
  rw [h3, Nat.mul_comm] at h4
  omega

set_option maxRecDepth 100000 in
set_option maxHeartbeats 2000000 in
theorem rOne_any (p : Option Addr) (l c m d : Nat) (w : World) (hl : l ≤ 100000) (hd : 0 < d) (hd2 : d < 2 ^ 32) (h : IsR w p l c m) :
    Calls Tryz.prog 142 #[.slice p l c, .int .u32 (d : Int)] w fun e w' => ∃ p' l' c', e = .returned (.tuple #[.slice p' l' c', .int .u32 ((m % d : Nat) : Int)]) ∧ IsR w' p' l' c' (m / d) ∧ Below w.heap.size w w' := by
  have H1 := Lib.hid h
  have e1 := Lib.hid h.1
  have HD := Lib.hid hd
  have d0 : ((d : Int) == 0) = false := beq_eq_false_iff_ne.2 (by omega)
  have d1 : (0 : Int) < d := by omega
  have d2 : (d : Int) < 4294967296 := by omega
  have hmk := make_rn l (by omega)
  clear h
  go_enter Tryz.func142, Tryz.ntmps142
  go_wp2_with fail
  have A3 := At.made w .u32 l 118
  have F3 := Fr.made w .u32 l l 118
  have B3 : Below w.heap.size w (w.alloc (.cells (madeCells #[.int .u32 0] l) 118)) := below_alloc (Below.refl _ _) _
  have hz3 : (w.alloc (.cells (madeCells #[.int .u32 0] l) 118)).heap.size = w.heap.size + 1 := by simp
  obtain ⟨w3, hw3⟩ : ∃ w3, w3 = w.alloc (.cells (madeCells #[.int .u32 0] l) 118) := ⟨_, rfl⟩
  obtain ⟨g, hg⟩ : ∃ g, g = w.heap.size := ⟨_, rfl⟩
  rw [← hw3] at A3 F3 B3 hz3 ⊢
  rw [← hg] at A3 F3 hz3 ⊢
  have HG := Lib.hid hg; have HZ3 := Lib.hid hz3
  have HA3 := Lib.hid A3; have HF3 := Lib.hid F3
  have HB3 := Lib.hid B3
  have X1 := Lib.hid (H1.out.mono B3)
  clear A3 F3 B3 hw3 hg hmk hz3
  go_loopw [7, 8] (fun r' i wr => ∃ k r : Nat, k ≤ l ∧ i = .int .i64 ((k : Int) - 1) ∧ r' = .int .u64 (r : Int) ∧ ∃ L : List Nat, L.length = l ∧ At wr .u32 g 0 L ∧ Hid (ROne (2 ^ 32) d (dr m) L k r) ∧ Hid (IsR wr p l c m) ∧ Only w3 wr g 0 l) (fun _ i _ => (intOf i + 1).toNat)
  case atStart => exact ⟨l, 0, Nat.le_refl _, rfl, rfl, List.replicate l 0, by simp, HA3.out, Lib.hid (by have := ROne.start (b := 2 ^ 32) (ws := dr m) (by omega) HD.out; rwa [← e1.out] at this), X1, Only.refl _ _ _ _⟩
  case round =>
    obtain ⟨k, r, hk, rfl, rfl, L, hL, hA, HI, Y1, hO⟩ := hrel
    rcases Nat.eq_zero_or_pos k with hk0 | hk0
    · subst hk0
      have hdone := HI.out.done
      rw [val_dr] at hdone
      have hr := HI.out.rest
      have HT := Lib.hid (rtrim_n g 0 l l L hL wr hA HI.out.lt (by omega) (Nat.le_refl _))
      rw [hdone.1] at HT
      have HBR := Lib.hid (HB3.out.trans (hO.below (show w.heap.size ≤ g by have := HG.out; omega) (by have := HZ3.out; have := HG.out; omega)))
      have HR := Lib.hid hdone.2
      clear hdone hA HI hO
      go_wp2_with fail
      refine HT.out.mono ?_
      rintro e w6 ⟨p6, l6, c6, rfl, h6, hb6⟩
      have H6 := Lib.hid h6; clear h6
      have HB6 := Lib.hid (below_step HBR.out hb6)
      clear hb6
      have r2 : (r : Int) % 4294967296 = r := by omega
      go_wp2
      exact bodyPost_ret (v := .tuple #[.slice p6 l6 c6, .int .u32 (r : Int)]) (by simp [results, Tryz.results142, go_sem]) rfl ⟨p6, l6, c6, by rw [← HR.out], H6.out, HB6.out⟩
    · obtain ⟨j, rfl⟩ : ∃ j, k = j + 1 := ⟨k - 1, by omega⟩
      have hm0 : m ≠ 0 := fun e => by have := e1.out; subst e; rw [dr_zero] at this; simp at this; omega
      obtain ⟨b, off, rfl, y1⟩ := Y1.out.2.2 hm0
      have c0 := y1 j (by rw [← e1.out]; omega)
      have c1 := hA.zero j (by omega)
      have c2 := (HF3.out.only hO).zero j (by omega)
      have hx := getD_lt (dr_lt m) (by omega) j
      have hr := HI.out.rest
      have hq := word_digit hr hx
      have hst := Lib.hid (HI.out.step (by rw [← e1.out]; omega) hq (Nat.mod_lt _ HD.out) (by rw [Nat.mul_comm]; exact Nat.div_add_mod _ _))
      generalize (dr m).getD j 0 = x at *
      generalize L.getD j 0 = z at *
      obtain ⟨t, ht⟩ : ∃ t, t = r * 2 ^ 32 + x := ⟨_, rfl⟩
      rw [← ht] at hst hq
      have ht64 : t < 18446744073709551616 := by omega
      obtain ⟨q, hqd⟩ : ∃ q, q = t / d := ⟨_, rfl⟩
      obtain ⟨s, hsd⟩ : ∃ s, s = t % d := ⟨_, rfl⟩
      rw [← hqd] at hst hq
      rw [← hsd] at hst
      have hsl : s < d := by rw [hsd]; exact Nat.mod_lt _ HD.out
      have wor : bits .or .u64 ((r : Int) * 4294967296) (x : Int) = (t : Int) := by
        rw [show (r : Int) * 4294967296 = ((2 ^ 32 * r : Nat) : Int) from by omega, u64_or_nat _ _ (by omega) (by omega), ← Nat.two_pow_add_eq_or_of_lt hx, ht, Nat.mul_comm]
      have wsl : IntKind.u64.wrap ((r : Int) * 4294967296) = (r : Int) * 4294967296 := by rw [IntKind.wrap_u64]; omega
      have wq : (t : Int) / d = (q : Int) := by rw [hqd, Int.natCast_ediv]
      have ws : (t : Int) % d = (s : Int) := by rw [hsd, Int.natCast_emod]
      have wq2 : (t : Int).tdiv d = (q : Int) := by rw [Int.tdiv_eq_ediv_of_nonneg (by omega), wq]
      have ws2 : (t : Int).tmod d = (s : Int) := by rw [Int.tmod_eq_emod_of_nonneg (by omega), ws]
      have wq3 : (q : Int) % 4294967296 = q := by omega
      have wx : IntKind.u64.wrap (x : Int) = x := by rw [IntKind.wrap_u64]; omega
      have wqw : IntKind.u64.wrap (q : Int) = q := by rw [IntKind.wrap_u64]; omega
      have xb : (x : Int) < 4294967296 := by omega
      have i0 : ((j + 1 : Nat) : Int) - 1 = (j : Int) := by omega
      rw [i0]
      have i1 : (0 : Int) ≤ j := by omega
      have i2 : (j : Int) < l := by omega
      have HON := Lib.hid (hO.setCell j (by omega) (by omega) (.int .u32 (q : Int)))
      have HAN := Lib.hid (hA.set j q (by omega))
      rw [Nat.zero_add] at HAN
      have HST := hst
      have HL := Lib.hid hL
      clear y1 hm0 hst hO hA HI ht hqd hsd hx hL
      go_wp2
      go_roundw
      case rel => exact ⟨j, s, by omega, by go_num, rfl, L.set j q, by rw [List.length_set]; exact HL.out, HAN.out, HST, Lib.hid (H1.out.keeps HB3.out HON.out (by have := HG.out; omega)), HON.out⟩
      case measure => simp [intOf]
end Go.Proofs.YtjhjlecnjkjbbaaGreatDoor

/- The numbers of the document's long division: digits of 32 bits in words of 64. -/
namespace Go.Proofs.YtjhjlecnjkjbbaaGreatDoor
open Go.RowKit

theorem rless_digit {z l o : Nat} (hz : z < 2 ^ 32) (hl : l + o ≤ 2 ^ 32) (ho : o ≤ 1) :
    ∃ s b, b ≤ 1 ∧ s < 2 ^ 32 ∧ s + l + o = z + 2 ^ 32 * b ∧ (IntKind.u64.wrap (IntKind.u64.wrap ((z : Int) - (l : Int)) - (o : Int))) % 4294967296 = (s : Int) ∧ IntKind.u64.wrap (IntKind.u64.wrap ((z : Int) - (l : Int)) - (o : Int)) / 9223372036854775808 = (b : Int) := by
  refine ⟨if z < l + o then z + 2 ^ 32 - l - o else z - l - o, if z < l + o then 1 else 0, ?_, ?_, ?_, ?_, ?_⟩
  · split <;> omega
  · split <;> omega
  · split <;> omega
  · rw [IntKind.wrap_u64, IntKind.wrap_u64]; split <;> omega
  · rw [IntKind.wrap_u64, IntKind.wrap_u64]; split <;> omega

theorem rtimes_fits {y g c : Nat} (hy : y < 2 ^ 32) (hg : g < 2 ^ 32) (hc : c ≤ 2 ^ 32 - 2) : c + g * y < 2 ^ 64 ∧ (c + g * y) / 2 ^ 32 ≤ 2 ^ 32 - 2 := by
  have h : g * y ≤ (2 ^ 32 - 1) * (2 ^ 32 - 1) := Nat.mul_le_mul (by omega) (by omega)
  generalize g * y = p at *
  omega

theorem rtimes_digit {z y g c o : Nat} (hz : z < 2 ^ 32) (hy : y < 2 ^ 32) (hg : g < 2 ^ 32) (hc : c ≤ 2 ^ 32 - 2) (ho : o ≤ 1) {C : Nat} (hC : C = c + g * y) :
    ∃ s b, b ≤ 1 ∧ s < 2 ^ 32 ∧ C / 2 ^ 32 + b < 2 ^ 32 ∧ s + y * g + (c + o) = z + 2 ^ 32 * (C / 2 ^ 32 + b) ∧
      (IntKind.u64.wrap (IntKind.u64.wrap ((z : Int) - ((C % 2 ^ 32 : Nat) : Int)) - (o : Int))) % 4294967296 = (s : Int) ∧ IntKind.u64.wrap (IntKind.u64.wrap ((z : Int) - ((C % 2 ^ 32 : Nat) : Int)) - (o : Int)) / 9223372036854775808 = (b : Int) := by
  obtain ⟨h1, h2⟩ := rtimes_fits hy hg hc
  rw [← hC] at h1 h2
  obtain ⟨s, b, e1, e2, e3, e4, e5⟩ := rless_digit (l := C % 2 ^ 32) hz (by omega) ho
  refine ⟨s, b, e1, e2, by omega, ?_, e4, e5⟩
  rw [Nat.mul_comm y g]
  generalize g * y = p at *
  omega

theorem rnorm {n l s : Nat} (hn : n ≠ 0) (hl : (dr n).length = l) (hs : s = 32 * l - bitLen n) :
    s < 32 ∧ 0 < l ∧ (dr (n * 2 ^ s)).length = l ∧ 2 ^ 31 ≤ (dr (n * 2 ^ s)).getD (l - 1) 0 := by
  have h0 := dr_pos hn
  have ht := bitLen_top (e := 32) (by omega) hn
  change bitLen n = 32 * ((dr n).length - 1) + bitLen ((dr n).getD ((dr n).length - 1) 0) at ht
  have h1 := digs_last (b := 2 ^ 32) (by omega) hn
  change (dr n).getD ((dr n).length - 1) 0 ≠ 0 at h1
  have h2 := getD_lt (dr_lt n) (by omega) ((dr n).length - 1)
  generalize (dr n).getD ((dr n).length - 1) 0 = t at *
  have h3 := bitLen_pos h1
  have h4 : bitLen t ≤ 32 := bitLen_lt_pow.1 h2
  rw [hl] at ht h0
  have hs32 : s < 32 := by omega
  have hb : bitLen n + s = 32 * l := by omega
  have hlt : n < 2 ^ bitLen n := bitLen_lt_pow.2 (Nat.le_refl _)
  have hge : 2 ^ (bitLen n - 1) ≤ n := by
    rcases Nat.lt_or_ge n (2 ^ (bitLen n - 1)) with h | h
    · have := bitLen_lt_pow.1 h; omega
    · exact h
  have hp := Nat.two_pow_pos s
  have hup : n * 2 ^ s < (2 ^ 32) ^ l := by
    rw [← Nat.pow_mul, ← hb, Nat.pow_add]
    exact Nat.mul_lt_mul_of_pos_right hlt hp
  have hlo : 2 ^ 31 * (2 ^ 32) ^ (l - 1) ≤ n * 2 ^ s := by
    rw [← Nat.pow_mul, ← Nat.pow_add, show 31 + 32 * (l - 1) = bitLen n - 1 + s from by omega, Nat.pow_add]
    exact Nat.mul_le_mul_right _ hge
  have hpos : 0 < (2 ^ 32) ^ (l - 1) := Nat.pow_pos (by omega)
  have hlen1 : (dr (n * 2 ^ s)).length ≤ l := digs_length_le (by omega) hup
  have hlen2 : l - 1 < (dr (n * 2 ^ s)).length := digs_length_lt (by omega) (by
    have : 1 * (2 ^ 32) ^ (l - 1) ≤ 2 ^ 31 * (2 ^ 32) ^ (l - 1) := Nat.mul_le_mul_right _ (by omega)
    omega)
  refine ⟨hs32, h0, by omega, ?_⟩
  have e : (dr (n * 2 ^ s)).getD (l - 1) 0 = n * 2 ^ s / (2 ^ 32) ^ (l - 1) % 2 ^ 32 := digs_getD (by omega) _ _
  have hq : n * 2 ^ s / (2 ^ 32) ^ (l - 1) < 2 ^ 32 := by
    rw [Nat.div_lt_iff_lt_mul hpos, ← Nat.pow_succ', Nat.succ_eq_add_one, show l - 1 + 1 = l from by omega]
    exact hup
  rw [e, Nat.mod_eq_of_lt hq, Nat.le_div_iff_mul_le hpos]
  exact hlo
end Go.Proofs.YtjhjlecnjkjbbaaGreatDoor

/- The document's quotient where no long division is asked for. -/
namespace Go.Proofs.YtjhjlecnjkjbbaaGreatDoor
open Go.RowKit

def RetRR (W : World) (q r : Nat) : Ending → World → Prop := fun e w' =>
  ∃ p1 l1 c1 p2 l2 c2, e = .returned (.tuple #[.slice p1 l1 c1, .slice p2 l2 c2]) ∧ IsR w' p1 l1 c1 q ∧ IsR w' p2 l2 c2 r ∧ Below W.heap.size W w'

theorem isR_none (w : World) : IsR w none 0 0 0 := ⟨by rw [dr_zero]; rfl, Nat.le_refl _, fun h => absurd rfl h⟩

set_option maxRecDepth 100000 in
set_option maxHeartbeats 2000000 in
theorem rDiv_less (p q : Option Addr) (l k c d m n : Nat) (w : World) (hl : l ≤ 100000) (hlt : m < n) (h1 : IsR w p l c m) (h2 : IsR w q k d n) :
    Calls Tryz.prog 95 #[.slice p l c, .slice q k d] w (RetRR w (m / n) (m % n)) := by
  have HC := Lib.hid (rCmp_any p q l k c d m n w (by omega) h1 h2)
  have HQ := Lib.hid (Nat.div_eq_of_lt hlt); have HR := Lib.hid (Nat.mod_eq_of_lt hlt)
  have H1 := Lib.hid h1
  rw [HQ.out, HR.out]
  have HLT := Lib.hid hlt
  clear h1 h2 HQ HR hlt
  go_enter Tryz.func95, Tryz.ntmps95
  go_wp2_with fail
  refine HC.out.mono ?_
  rintro e w1 ⟨rfl, hb⟩
  have H2 := Lib.hid (H1.out.mono hb); have HB := Lib.hid hb
  rw [cmp3_lt (by exact_mod_cast HLT.out)]
  clear hb HC
  go_wp2
  exact bodyPost_ret (v := .tuple #[.slice none 0 0, .slice p l c]) (by simp [results, Tryz.results95, go_sem]) rfl ⟨none, 0, 0, p, l, c, rfl, isR_none _, H2.out, HB.out⟩

theorem dr_one {n : Nat} (hn : n ≠ 0) (h : n < 2 ^ 32) : dr n = [n] := by
  unfold dr
  rw [digs_pos (by omega) hn, Nat.div_eq_of_lt h, digs_zero, Nat.mod_eq_of_lt h]

set_option maxRecDepth 100000 in
set_option maxHeartbeats 2000000 in
theorem rDiv_one (p q : Option Addr) (l k c d m n : Nat) (w : World) (hl : l ≤ 100000) (hle : n ≤ m) (h0 : n ≠ 0) (hn : n < 2 ^ 32) (h1 : IsR w p l c m) (h2 : IsR w q k d n) :
    Calls Tryz.prog 95 #[.slice p l c, .slice q k d] w (RetRR w (m / n) (m % n)) := by
  have HC := Lib.hid (rCmp_any p q l k c d m n w (by omega) h1 h2)
  obtain ⟨b, off, rfl, h4⟩ := h2.2.2 h0
  have hk := h2.1
  rw [dr_one h0 hn] at h4 hk
  have c0 := h4 0 (by simp)
  rw [Nat.add_zero, List.getD_cons_zero] at c0
  obtain rfl : k = 1 := hk
  have HT := Lib.hid (fun W (a : IsR W p l c m) => rOne_any p l c m n W hl (by omega) hn a)
  have hr : m % n < 2 ^ 32 := Nat.lt_trans (Nat.mod_lt _ (by omega)) hn
  have HO := Lib.hid (fun W => rof_any (m % n) (by omega) W)
  have H1 := Lib.hid h1
  have HLE := Lib.hid hle
  obtain ⟨r, hrr⟩ : ∃ r, r = m % n := ⟨_, rfl⟩
  rw [← hrr] at HT HO hr ⊢
  clear h1 h2 h4 hle hrr
  go_enter Tryz.func95, Tryz.ntmps95
  go_wp2_with fail
  refine HC.out.mono ?_
  rintro e w1 ⟨rfl, hb⟩
  have H2 := Lib.hid (H1.out.mono hb); have HB := Lib.hid hb
  have c1 := wcell hb c0
  have hcm : ¬ cmp3 (m : Int) n < 0 := by have := HLE.out; unfold cmp3; split <;> (try split) <;> omega
  generalize cmp3 (m : Int) n = u at *
  clear hb HC c0
  go_wp2_with fail
  refine (HT.out _ H2.out).mono ?_
  rintro e w2 ⟨p', l', c', rfl, h5, hb2⟩
  have H5 := Lib.hid h5; have HB2 := Lib.hid (below_step HB.out hb2)
  clear h5 hb2 HT
  go_wp2_with fail
  refine (HO.out _).mono ?_
  rintro e w3 ⟨p6, l6, c6, rfl, h6, hb3⟩
  have H6 := Lib.hid h6; have H7 := Lib.hid (H5.out.mono hb3); have HB3 := Lib.hid (below_step HB2.out hb3)
  clear h6 hb3 HO
  go_wp2
  exact bodyPost_ret (v := .tuple #[.slice p' l' c', .slice p6 l6 c6]) (by simp [results, Tryz.results95, go_sem]) rfl ⟨_, _, _, _, _, _, rfl, H7.out, H6.out, HB3.out⟩
end Go.Proofs.YtjhjlecnjkjbbaaGreatDoor

/- The numbers of the document's guess at a digit, and of the start of its long division. -/
namespace Go.Proofs.YtjhjlecnjkjbbaaGreatDoor
open Go.RowKit

structure RGuess (b p p2 d1 d2 g r : Nat) : Prop where
  eq : g * d1 + r = p
  over : b ≤ g + 1 ∨ p * b + p2 < (g + 1) * (d1 * b + d2)

theorem RGuess.start {b p p2 d1 d2 : Nat} (h1 : 0 < d1) (h2 : p2 < b) : RGuess b p p2 d1 d2 (p / d1) (p % d1) :=
  ⟨by rw [Nat.mul_comm]; exact Nat.div_add_mod p d1, Or.inr (guess_start h1 h2)⟩

theorem RGuess.pos {b p2 d2 g r : Nat} (hb : 0 < b) (hc : b ≤ g ∨ r * b + p2 < g * d2) : 0 < g := by
  rcases hc with h | h
  · omega
  · rcases Nat.eq_zero_or_pos g with h0 | h0
    · rw [h0, Nat.zero_mul] at h; omega
    · exact h0

theorem RGuess.step {b p p2 d1 d2 g r : Nat} (h : RGuess b p p2 d1 d2 g r) (hb : 0 < b) (hc : b ≤ g ∨ r * b + p2 < g * d2) : RGuess b p p2 d1 d2 (g - 1) (r + d1) := by
  have hp := RGuess.pos hb hc
  have he := h.eq
  obtain ⟨k, rfl⟩ : ∃ k, g = k + 1 := ⟨g - 1, by omega⟩
  rw [Nat.add_sub_cancel]
  refine ⟨by rw [← he, Nat.add_mul]; omega, ?_⟩
  rcases hc with hc | hc
  · exact Or.inl hc
  · exact Or.inr (guess_over he hc)

theorem RGuess.most {b p0 p1 p2 d1 d2 g r : Nat} (h : RGuess b (p0 * b + p1) p2 d1 d2 g r) (h0 : p0 ≤ d1) (h1 : p1 < b) (hr : b ≤ r + d1) : g ≤ b := by
  rcases Nat.lt_or_ge b g with hg | hg
  · have he := h.eq
    have e1 : (b + 1) * d1 ≤ g * d1 := Nat.mul_le_mul_right _ hg
    have e2 : p0 * b ≤ d1 * b := Nat.mul_le_mul_right _ h0
    rw [Nat.add_mul, Nat.one_mul, Nat.mul_comm b d1] at e1
    omega
  · exact hg
theorem RGuess.top {b p0 p1 p2 d1 d2 g r : Nat} (h : RGuess b (p0 * b + p1) p2 d1 d2 g r) (h0 : p0 ≤ d1) (h1 : p1 < b) (hd : b ≤ 2 * d1) : g ≤ b + 1 := by
  rcases Nat.lt_or_ge (b + 1) g with hg | hg
  · have he := h.eq
    have e1 : (b + 2) * d1 ≤ g * d1 := Nat.mul_le_mul_right _ hg
    have e2 : p0 * b ≤ d1 * b := Nat.mul_le_mul_right _ h0
    rw [Nat.add_mul, Nat.mul_comm b d1] at e1
    omega
  · exact hg

theorem rguess_of {b j : Nat} {zs xs : List Nat} (hb : 2 ≤ b) (hz : zs.length = j + 3) (hx : xs.length = j + 2) (hZ : ∀ x ∈ zs, x < b) (hX : ∀ x ∈ xs, x < b) (htop : b ≤ 2 * xs.getD (j + 1) 0) (hlt : val b zs < b * val b xs) {g : Nat} (hg : g < b)
    (hfit : g * (xs.getD (j + 1) 0 * b + xs.getD j 0) ≤ (zs.getD (j + 2) 0 * b + zs.getD (j + 1) 0) * b + zs.getD j 0)
    (hov : b ≤ g + 1 ∨ (zs.getD (j + 2) 0 * b + zs.getD (j + 1) 0) * b + zs.getD j 0 < (g + 1) * (xs.getD (j + 1) 0 * b + xs.getD j 0)) : val b zs / val b xs ≤ g ∧ g ≤ val b zs / val b xs + 1 := by
  obtain ⟨G1, G2⟩ := guess_of hb hz hx hZ hX htop hlt
  have a1 := getD_lt hZ (by omega) (j + 1)
  have a2 := getD_lt hZ (by omega) j
  generalize zs.getD (j + 2) 0 = p0 at *
  generalize zs.getD (j + 1) 0 = p1 at *
  generalize zs.getD j 0 = p2 at *
  generalize xs.getD (j + 1) 0 = d1 at *
  generalize xs.getD j 0 = d2 at *
  by_cases hF : (p0 * b + p1) * b + p2 < (g + 1) * (d1 * b + d2)
  · exact G2 g hg (Nat.div_eq_of_lt_le hfit hF).symm
  · have hgb : g = b - 1 := by rcases hov with h | h <;> omega
    refine G1 g ?_ hgb
    have e : g + 1 = b := by omega
    rw [e] at hF
    have h1 : b * (d1 * b) ≤ b * (d1 * b + d2) := Nat.mul_le_mul_left _ (by omega)
    have h2 : (p1 + 1) * b ≤ b * b := Nat.mul_le_mul_right _ a1
    rw [Nat.add_mul, Nat.one_mul] at h2
    have h3 : (p0 * b + p1) * b = p0 * (b * b) + p1 * b := by rw [Nat.add_mul, Nat.mul_assoc]
    have h4 : b * (d1 * b) = d1 * (b * b) := by grind
    have h5 : d1 * (b * b) < (p0 + 1) * (b * b) := by rw [Nat.add_mul, Nat.one_mul]; omega
    have := Nat.lt_of_mul_lt_mul_right h5
    omega

theorem rguess_head {b j : Nat} {zs xs : List Nat} (hb : 2 ≤ b) (hz : zs.length = j + 3) (hx : xs.length = j + 2) (hX : ∀ x ∈ xs, x < b) (hlt : val b zs < b * val b xs) : zs.getD (j + 2) 0 ≤ xs.getD (j + 1) 0 := by
  have ez : val b zs = val b (zs.take (j + 2)) + b ^ (j + 2) * zs.getD (j + 2) 0 := by
    rw [← val_take_succ', List.take_of_length_le (by omega)]
  have ex : val b xs = val b (xs.take (j + 1)) + b ^ (j + 1) * xs.getD (j + 1) 0 := by
    rw [← val_take_succ', List.take_of_length_le (by omega)]
  have lx := val_take_lt b xs (j + 1) hX (by omega)
  generalize zs.getD (j + 2) 0 = z at *
  generalize xs.getD (j + 1) 0 = x at *
  have h1 : val b xs < b ^ (j + 1) * (x + 1) := by rw [Nat.mul_add]; omega
  have h2 : b * val b xs < b * (b ^ (j + 1) * (x + 1)) := Nat.mul_lt_mul_of_pos_left h1 (by omega)
  have h3 : b * (b ^ (j + 1) * (x + 1)) = b ^ (j + 2) * (x + 1) := by rw [Nat.pow_succ b (j + 1)]; grind
  have h4 : b ^ (j + 2) * z < b ^ (j + 2) * (x + 1) := by omega
  have := Nat.lt_of_mul_lt_mul_left h4
  omega

theorem rlong_start {M D k L : Nat} (hL : (dr M).length = L) (hD : (dr D).length = k) (hk : 2 ≤ k) (hle : k ≤ L) :
    D ≤ (2 ^ 32) ^ k ∧ LongInv (2 ^ 32) k D (dr M ++ [0, 0]) (dr M ++ [0, 0]) (List.replicate (L + 2 - k) 0) (L + 2 - k) := by
  have h1 : D < (2 ^ 32) ^ k := by rw [← hD]; exact dr_lt_pow D
  have hd0 : D ≠ 0 := fun e => by subst e; rw [dr_zero] at hD; simp at hD; omega
  have h2 : (2 ^ 32) ^ (k - 1) ≤ D := by rw [← hD]; exact pow_le_digs (by omega) hd0
  refine ⟨Nat.le_of_lt h1, rfl, by simp; omega, ?_, fun x hx => by rw [List.eq_of_mem_replicate hx]; omega, rfl, ?_, ?_⟩
  · intro x hx
    rcases List.mem_append.1 hx with hx | hx
    · exact dr_lt M x hx
    · have : x = 0 := by simpa using hx
      omega
  · rw [List.drop_append_of_le_length (by omega), val_append]
    have e0 : val (2 ^ 32) [0, 0] = 0 := by simp [val]
    rw [e0, Nat.mul_zero, Nat.add_zero]
    have h3 := val_lt (2 ^ 32) ((dr M).drop (L + 2 - k)) (fun x hx => dr_lt M x (List.mem_of_mem_drop hx))
    rw [List.length_drop, hL] at h3
    have h4 : (2 ^ 32) ^ (L - (L + 2 - k)) ≤ (2 ^ 32) ^ (k - 1) := Nat.pow_le_pow_right (by omega) (by omega)
    omega
  · have e1 : (List.replicate (L + 2 - k) 0).drop (L + 2 - k) = ([] : List Nat) := List.drop_eq_nil_of_le (by simp)
    rw [e1]
    simp [val]
end Go.Proofs.YtjhjlecnjkjbbaaGreatDoor
