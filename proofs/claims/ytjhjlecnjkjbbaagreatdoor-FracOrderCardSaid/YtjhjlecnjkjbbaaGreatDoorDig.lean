/- Powers of the program's numbers. -/
import Derived.Test.YtjhjlecnjkjbbaaGreatDoorQNum
import Derived.Laws.BitsLemmas
import Derived.Deep.LoopGhost
import Derived.Test.YtjhjlecnjkjbbaaGreatDoorMove
import Derived.Test.YtjhjlecnjkjbbaaGreatDoorShiftS
import Derived.Test.YtjhjlecnjkjbbaaGreatDoorDivN
import Derived.Test.YtjhjlecnjkjbbaaGreatDoorQOps
import Derived.LoopN
import Derived.Handy
namespace Go.Proofs.YtjhjlecnjkjbbaaGreatDoor
open Go.RowKit

theorem i64_and1 (n : Int) : bits .and .i64 n 1 = n % 2 := by
  have h1 : (BitVec.ofInt 64 1).toNat = 2 ^ 1 - 1 := by decide
  have key : (BitVec.ofInt 64 n &&& BitVec.ofInt 64 1).toNat = (n % ((2 ^ 64 : Nat) : Int)).toNat % 2 ^ 1 := by
    rw [BitVec.toNat_and, BitVec.toNat_ofInt, h1, Nat.and_two_pow_sub_one_eq_mod]
  show IntKind.i64.wrap ((BitVec.ofInt 64 n &&& BitVec.ofInt 64 1).toNat : Nat) = n % 2
  rw [key, IntKind.wrap_i64]
  omega

theorem ds_pow_le (m e a : Nat) (hm : (ds m).length ≤ a) : (ds (m ^ e)).length ≤ a * e + 1 := by
  induction e with
  | zero => rw [Nat.pow_zero, ds_one (by omega)]; omega
  | succ e ih =>
    rw [Nat.pow_succ, Nat.mul_succ]
    have := ds_mul (m ^ e) m
    omega

theorem len_any (n : Nat) (hn : n < 2 ^ 64) (w : World) : Calls Tryz.prog 173 #[.int .u64 (n : Int)] w fun e w' => w = w' ∧ e = .returned (.int .i64 (bitLen n : Nat)) := by
  go_enter Tryz.func173, Tryz.ntmps173
  go_wp2_with (go_at_call 136; refine (len64_any n hn _).mono ?_; rintro e w2 ⟨rfl, rfl⟩)
  go_ret
  exact ⟨rfl, rfl⟩

set_option maxRecDepth 100000 in
set_option maxHeartbeats 4000000 in
theorem pow_any (m n : Nat) (s : Int) (p : Option Addr) (l c : Nat) (w : World) (hm1 : (ds m).length ≤ 60) (hm : (ds m).length * n ≤ 60) (hn : n ≤ 60) (h : IsN w s p l c m) :
    Calls Tryz.prog 149 #[.agg #[.int .u64 s, .slice p l c], .int .i64 (n : Int)] w fun e w' => ∃ s1 p1 l1 c1, e = .returned (.tuple #[.agg #[.int .u64 s1, .slice p1 l1 c1], .bool true]) ∧ IsN w' s1 p1 l1 c1 (m ^ n) ∧ Below w.heap.size w w' := by
  have H := Lib.hid h
  have HL := Lib.hid (len_any n (by omega))
  have hb3 : bitLen n ≤ 6 := bitLen_lt_pow.1 (by omega)
  have HN0 : Hid (n / 2 ^ bitLen n = 0) := Lib.hid (Nat.div_eq_of_lt (bitLen_lt_pow.2 (Nat.le_refl _)))
  have HM := Lib.hid (fun e (he : e ≤ n) => show (ds (m ^ e)).length ≤ 61 from Nat.le_trans (ds_pow_le m e _ (Nat.le_refl _)) (by have := Nat.mul_le_mul_left (ds m).length he; omega))
  have HMM := Lib.hid hm1
  obtain ⟨bl, hbl⟩ : ∃ bl, bl = bitLen n := ⟨_, rfl⟩
  rw [← hbl] at HL hb3 HN0
  clear h hbl hm hm1
  go_enter Tryz.func149, Tryz.ntmps149
  go_wp2_with fail
  refine (of_any _ _).mono ?_
  rintro e w1 ⟨rfl, hb⟩
  obtain ⟨hc, hf⟩ := bcell hb
  have HB1 : Below w.heap.size w w1 := (by repeat' first | exact Below.refl _ _ | refine below_alloc ?_ _ | refine below_step ?_ (by assumption))
  go_wp2_with fail
  refine (HL.out _).mono ?_
  rintro e _ ⟨rfl, rfl⟩
  go_wp2_with fail
  obtain ⟨g, hg⟩ : ∃ g, g = w.heap.size := ⟨_, rfl⟩
  obtain ⟨b, hbb⟩ : ∃ b, b = w1.heap.size := ⟨_, rfl⟩
  have hz := hb.size
  simp only [World.size_alloc] at hz
  have q0 : w1.cell? ⟨g, 0, none⟩ = some (.int .u64 s) := by simp [hg, hc, go_sem]
  have q1 : w1.cell? ⟨g, 1, none⟩ = some (.slice p l c) := by simp [hg, hc, go_sem]
  have r0 : w1.cell? ⟨g + 1, 0, none⟩ = some (.int .u64 0) := by simp [hg, hc, go_sem]
  have r1 : w1.cell? ⟨g + 1, 1, none⟩ = some (.slice none 0 0) := by simp [hg, hc, go_sem]
  have f0 : w1.frozen? ⟨g + 1, 0, none⟩ = false := by simp [hg, hf, go_sem]
  have f1 : w1.frozen? ⟨g + 1, 1, none⟩ = false := by simp [hg, hf, go_sem]
  have BX : Below w1.heap.size w1 (w1.alloc (.cells #[.int .u64 1, .slice none 0 0] 35)) := below_alloc (Below.refl _ _) _
  have q0 := wcell BX q0; have q1 := wcell BX q1
  have f0 := wfree BX r0 f0; have f1 := wfree BX r1 f1
  have r0 := wcell BX r0; have r1 := wcell BX r1
  have b0 : (w1.alloc (.cells #[.int .u64 1, .slice none 0 0] 35)).cell? ⟨b, 0, none⟩ = some (.int .u64 1) := by simp [hbb, go_sem]
  have b1 : (w1.alloc (.cells #[.int .u64 1, .slice none 0 0] 35)).cell? ⟨b, 1, none⟩ = some (.slice none 0 0) := by simp [hbb, go_sem]
  have x0 : (w1.alloc (.cells #[.int .u64 1, .slice none 0 0] 35)).frozen? ⟨b, 0, none⟩ = false := by simp [hbb, go_sem]
  have x1 : (w1.alloc (.cells #[.int .u64 1, .slice none 0 0] 35)).frozen? ⟨b, 1, none⟩ = false := by simp [hbb, go_sem]
  have HBW : Below w.heap.size w (w1.alloc (.cells #[.int .u64 1, .slice none 0 0] 35)) := below_alloc HB1 _
  have ng : g ≠ b := by omega
  have ng1 : g + 1 ≠ b := by omega
  have hgb : w.heap.size ≤ b := by omega
  have hgg : w.heap.size ≤ g + 1 := by omega
  have NM := Lib.hid (H.out.mono HBW)
  have HB := Lib.hid HBW
  rw [← hbb, ← hg]
  generalize w1.alloc (.cells #[.int .u64 1, .slice none 0 0] 35) = W at *
  have HGB := Lib.hid hgb; have HGG := Lib.hid hgg
  clear BX hc hf hb HB1 hz hg hbb hgb hgg HBW H HL
  go_loopw [7] (fun i wr => ∃ (k : Nat) (s' : Int) (p' : Option Addr) (l' c' : Nat), i = .int .i64 ((k : Int) - 1) ∧ k ≤ bl ∧ IsN wr s' p' l' c' (m ^ (n / 2 ^ k)) ∧ IsN wr s p l c m ∧ Below w.heap.size w wr ∧
    wr.cell? ⟨g, 0, none⟩ = some (.int .u64 s) ∧ wr.cell? ⟨g, 1, none⟩ = some (.slice p l c) ∧ wr.cell? ⟨g + 1, 0, none⟩ = some (.int .u64 0) ∧ wr.cell? ⟨g + 1, 1, none⟩ = some (.slice none 0 0) ∧
    wr.frozen? ⟨g + 1, 0, none⟩ = false ∧ wr.frozen? ⟨g + 1, 1, none⟩ = false ∧ wr.cell? ⟨b, 0, none⟩ = some (.int .u64 s') ∧ wr.cell? ⟨b, 1, none⟩ = some (.slice p' l' c') ∧ wr.frozen? ⟨b, 0, none⟩ = false ∧ wr.frozen? ⟨b, 1, none⟩ = false) (fun i _ => (intOf i + 1).toNat)
  case atStart => exact ⟨bl, 1, none, 0, 0, rfl, Nat.le_refl _, by rw [HN0.out, Nat.pow_zero]; exact Or.inl ⟨by omega, rfl, rfl, rfl, rfl⟩, NM.out, HB.out, q0, q1, r0, r1, f0, f1, b0, b1, x0, x1⟩
  case round =>
    clear q0 q1 r0 r1 f0 f1 b0 b1 x0 x1 NM HB
    obtain ⟨k, s', p', l', c', rfl, hk, hP, hN, hB, q0, q1, r0, r1, f0, f1, b0, b1, x0, x1⟩ := hrel
    rcases Nat.eq_zero_or_pos k with hk0 | hk0
    · subst hk0
      rw [Nat.pow_zero, Nat.div_one] at hP
      have NP := Lib.hid hP; have HB := Lib.hid hB
      clear hP hN hB
      go_wp2
      exact bodyPost_ret (v := .tuple #[.agg #[.int .u64 s', .slice p' l' c'], .bool true]) (by simp [results, Tryz.results149, go_sem, r0, r1]) rfl
        ⟨s', p', l', c', rfl, NP.out.box r1, (HB.out.setCell (p := ⟨g + 1, 0, none⟩) HGG.out _).setCell (p := ⟨g + 1, 1, none⟩) HGG.out _⟩
    · obtain ⟨j, rfl⟩ : ∃ j, k = j + 1 := ⟨k - 1, by omega⟩
      obtain ⟨q, t, hqt, ht⟩ : ∃ q t, n / 2 ^ j = 2 * q + t ∧ t < 2 := ⟨n / 2 ^ j / 2, n / 2 ^ j % 2, by omega, by omega⟩
      have hq : n / 2 ^ (j + 1) = q := by rw [Nat.pow_succ, ← Nat.div_div_eq_div_mul, hqt]; omega
      have hnj : n / 2 ^ j ≤ n := Nat.div_le_self _ _
      rw [hq] at hP
      have NP := Lib.hid hP; have NM := Lib.hid hN; have HB := Lib.hid hB
      have zg := World.block_lt_of_cell? _ _ q0; have zg1 := World.block_lt_of_cell? _ _ r0; have zb := World.block_lt_of_cell? _ _ b0
      have hs1 := HM.out q (by omega)
      have hs2 := HM.out (2 * q) (by omega)
      have e2 : m ^ q * m ^ q = m ^ (2 * q) := by rw [← Nat.pow_add]; congr 1; omega
      have T1 := Lib.hid (mul_any s' s' p' p' l' c' l' c' (m ^ q) (m ^ q) wr (by omega) (by omega) (Or.inl (by omega)) hP hP)
      rw [e2] at T1
      have T2 := Lib.hid (fun W s1 p1 l1 c1 a1 a2 => mul_any s1 s p1 p l1 c1 l c (m ^ (2 * q)) m W (by omega) (by have := HMM.out; omega) (Or.inl (by omega)) a1 a2)
      rw [← Nat.pow_succ] at T2
      have i0 : ((j + 1 : Nat) : Int) - 1 = (j : Int) := by omega
      rw [i0]
      have i1 : (0 : Int) ≤ j := by omega
      have i2 : j ≤ 6 := by omega
      have HQ := Lib.hid hqt
      have hsh : (n : Int) / 2 ^ j = ((2 * q + t : Nat) : Int) := by rw [← hqt, Int.natCast_ediv, Int.natCast_pow]; rfl
      obtain ⟨u, hu⟩ : ∃ u, u = 2 * q + t := ⟨_, rfl⟩
      rw [← hu] at hsh
      have wand : bits .and .i64 (u : Int) 1 = (t : Int) := by
        rw [i64_and1]; omega
      clear hP hN hB hqt hq hnj hs1 hs2 e2 hu hk0
      go_wp2_with fail
      refine T1.out.mono ?_
      rintro e w2 ⟨s2, p2, l2, c2, rfl, n2, hb2⟩
      have q0 := wcell hb2 q0; have q1 := wcell hb2 q1
      have f0 := wfree hb2 r0 f0; have f1 := wfree hb2 r1 f1; have x0 := wfree hb2 b0 x0; have x1 := wfree hb2 b1 x1
      have r0 := wcell hb2 r0; have r1 := wcell hb2 r1; have b0 := wcell hb2 b0; have b1 := wcell hb2 b1
      have NP2 := Lib.hid (n2.box (g := b) (u := .int .u64 s2) (v := .slice p2 l2 c2) b1)
      have NM2 := Lib.hid ((NM.out.mono hb2).box (g := b) (u := .int .u64 s2) (v := .slice p2 l2 c2) b1)
      have HB2 := Lib.hid (((below_step HB.out hb2).setCell (p := ⟨b, 0, none⟩) HGB.out (.int .u64 s2)).setCell (p := ⟨b, 1, none⟩) HGB.out (.slice p2 l2 c2))
      clear n2 NP NM HB T1 hb2 zg zg1 zb
      have : t = 0 ∨ t = 1 := by omega
      rcases this with rfl | rfl
      · have HNN : Hid (n / 2 ^ j = 2 * q) := Lib.hid (by have := HQ.out; omega)
        go_wp2
        have q0 := bx_other (b := b) (u := .int .u64 s2) (v := .slice p2 l2 c2) q0 ng; have q1 := bx_other (b := b) (u := .int .u64 s2) (v := .slice p2 l2 c2) q1 ng
        have r0 := bx_other (b := b) (u := .int .u64 s2) (v := .slice p2 l2 c2) r0 ng1; have r1 := bx_other (b := b) (u := .int .u64 s2) (v := .slice p2 l2 c2) r1 ng1
        have b0 := bx_zero (b := b) (u := .int .u64 s2) (v := .slice p2 l2 c2) b0
        have b1 := bx_one (b := b) (u := .int .u64 s2) (v := .slice p2 l2 c2) b1
        go_roundw
        case rel => exact ⟨j, s2, p2, l2, c2, by go_num, by omega, by rw [HNN.out]; exact NP2.out, NM2.out, HB2.out, q0, q1, r0, r1, by rw [World.frozen?_setCell, World.frozen?_setCell]; exact f0, by rw [World.frozen?_setCell, World.frozen?_setCell]; exact f1, b0, b1, by rw [World.frozen?_setCell, World.frozen?_setCell]; exact x0, by rw [World.frozen?_setCell, World.frozen?_setCell]; exact x1⟩
        case measure => simp [intOf]
      · have HNN : Hid (n / 2 ^ j = 2 * q + 1) := Lib.hid HQ.out
        go_wp2_with fail
        have q0 := bx_other (b := b) (u := .int .u64 s2) (v := .slice p2 l2 c2) q0 ng; have q1 := bx_other (b := b) (u := .int .u64 s2) (v := .slice p2 l2 c2) q1 ng
        have r0 := bx_other (b := b) (u := .int .u64 s2) (v := .slice p2 l2 c2) r0 ng1; have r1 := bx_other (b := b) (u := .int .u64 s2) (v := .slice p2 l2 c2) r1 ng1
        have b0 := bx_zero (b := b) (u := .int .u64 s2) (v := .slice p2 l2 c2) b0
        have b1 := bx_one (b := b) (u := .int .u64 s2) (v := .slice p2 l2 c2) b1
        have f0 : ((w2.setCell ⟨b, 0, none⟩ (.int .u64 s2)).setCell ⟨b, 1, none⟩ (.slice p2 l2 c2)).frozen? ⟨g + 1, 0, none⟩ = false := by rw [World.frozen?_setCell, World.frozen?_setCell]; exact f0
        have f1 : ((w2.setCell ⟨b, 0, none⟩ (.int .u64 s2)).setCell ⟨b, 1, none⟩ (.slice p2 l2 c2)).frozen? ⟨g + 1, 1, none⟩ = false := by rw [World.frozen?_setCell, World.frozen?_setCell]; exact f1
        have x0 : ((w2.setCell ⟨b, 0, none⟩ (.int .u64 s2)).setCell ⟨b, 1, none⟩ (.slice p2 l2 c2)).frozen? ⟨b, 0, none⟩ = false := by rw [World.frozen?_setCell, World.frozen?_setCell]; exact x0
        have x1 : ((w2.setCell ⟨b, 0, none⟩ (.int .u64 s2)).setCell ⟨b, 1, none⟩ (.slice p2 l2 c2)).frozen? ⟨b, 1, none⟩ = false := by rw [World.frozen?_setCell, World.frozen?_setCell]; exact x1
        generalize (w2.setCell ⟨b, 0, none⟩ (.int .u64 s2)).setCell ⟨b, 1, none⟩ (.slice p2 l2 c2) = w3 at *
        refine (T2.out _ _ _ _ _ NP2.out NM2.out).mono ?_
        rintro e w4 ⟨s4, p4, l4, c4, rfl, n4, hb4⟩
        have q0 := wcell hb4 q0; have q1 := wcell hb4 q1
        have f0 := wfree hb4 r0 f0; have f1 := wfree hb4 r1 f1; have x0 := wfree hb4 b0 x0; have x1 := wfree hb4 b1 x1
        have r0 := wcell hb4 r0; have r1 := wcell hb4 r1; have b0 := wcell hb4 b0; have b1 := wcell hb4 b1
        have NP4 := Lib.hid (n4.box (g := b) (u := .int .u64 s4) (v := .slice p4 l4 c4) b1)
        have NM4 := Lib.hid ((NM2.out.mono hb4).box (g := b) (u := .int .u64 s4) (v := .slice p4 l4 c4) b1)
        have HB4 := Lib.hid (((below_step HB2.out hb4).setCell (p := ⟨b, 0, none⟩) HGB.out (.int .u64 s4)).setCell (p := ⟨b, 1, none⟩) HGB.out (.slice p4 l4 c4))
        clear n4 NP2 NM2 HB2 T2 hb4
        go_wp2
        have q0 := bx_other (b := b) (u := .int .u64 s4) (v := .slice p4 l4 c4) q0 ng; have q1 := bx_other (b := b) (u := .int .u64 s4) (v := .slice p4 l4 c4) q1 ng
        have r0 := bx_other (b := b) (u := .int .u64 s4) (v := .slice p4 l4 c4) r0 ng1; have r1 := bx_other (b := b) (u := .int .u64 s4) (v := .slice p4 l4 c4) r1 ng1
        have b0 := bx_zero (b := b) (u := .int .u64 s4) (v := .slice p4 l4 c4) b0
        have b1 := bx_one (b := b) (u := .int .u64 s4) (v := .slice p4 l4 c4) b1
        go_roundw
        case rel => exact ⟨j, s4, p4, l4, c4, by go_num, by omega, by rw [HNN.out]; exact NP4.out, NM4.out, HB4.out, q0, q1, r0, r1, by rw [World.frozen?_setCell, World.frozen?_setCell]; exact f0, by rw [World.frozen?_setCell, World.frozen?_setCell]; exact f1, b0, b1, by rw [World.frozen?_setCell, World.frozen?_setCell]; exact x0, by rw [World.frozen?_setCell, World.frozen?_setCell]; exact x1⟩
        case measure => simp [intOf]
end Go.Proofs.YtjhjlecnjkjbbaaGreatDoor

/- Numbers of any length moved by bits. -/
namespace Go.Proofs.YtjhjlecnjkjbbaaGreatDoor
open Go.RowKit

set_option maxHeartbeats 1000000 in
theorem trim_none (w : World) : Calls Tryz.prog 83 #[.slice none 0 0] w fun e w' => w = w' ∧ e = .returned (.slice none 0 0) := by
  go_enter Tryz.func83, Tryz.ntmps83
  go_wp2
  go_loopw [3] (fun i wr => i = .int .i64 0 ∧ wr = w) (fun _ _ => 0)
  case atStart => exact ⟨rfl, rfl⟩
  case round =>
    obtain ⟨rfl, rfl⟩ := hrel
    go_wp2
    go_ret
    exact ⟨rfl, rfl⟩
theorem ofWords_none (w : World) : Calls Tryz.prog 113 #[.slice none 0 0] w (RetN w 0) := by
  go_enter Tryz.func113, Tryz.ntmps113
  go_wp2_with (go_at_call 83; refine (trim_none _).mono ?_; rintro e w1 ⟨rfl, rfl⟩)
  exact bodyPost_ret (v := .agg #[.int .u64 0, .slice none 0 0]) (by simp [results, Tryz.results113, go_sem]) rfl (RetN.short (n := 0) (by omega) (by repeat' first | exact Below.refl _ _ | refine below_alloc ?_ _ | (refine Below.setCell ?_ (by simp) _)))

set_option maxRecDepth 100000 in
set_option maxHeartbeats 2000000 in
theorem up_long (m n : Nat) (s : Int) (p : Option Addr) (l c : Nat) (w : World) (hm : (ds m).length ≤ 1000000) (hn : n ≤ 100000000) (hl : 0 < l) (h : IsN w s p l c m) :
    Calls Tryz.prog 88 #[.agg #[.int .u64 s, .slice p l c], .int .i64 (n : Int)] w (RetN w (m * 2 ^ n)) := by
  have H := Lib.hid h
  have HU := Lib.hid (fun W b off cc a => shiftUp_any b off cc (ds m).length n ((ds m).length + n / 64 + 1) (ds m) W rfl (ds_pos m) hm hn rfl a (ds_lt m))
  rw [val_ds] at HU
  have hrow : (ds m).length + n / 64 + 1 ≤ 281474976710656 := by omega
  have HR := Lib.hid hrow
  generalize (ds m).length + n / 64 + 1 = lr at *
  clear h hrow
  go_enter Tryz.func88, Tryz.ntmps88
  go_wp2_with fail
  refine (short_no _ _ _ _ hl _).mono ?_
  rintro e w1 ⟨rfl, hb1⟩
  obtain ⟨hc1, hf1⟩ := bcell hb1
  have HB1 : Below w.heap.size w w1 := (by repeat' first | exact Below.refl _ _ | refine below_alloc ?_ _ | refine below_step ?_ (by assumption))
  go_wp2_with fail
  refine (list_any m s p l c _ (H.out.mono HB1)).mono ?_
  rintro e w2 ⟨b, off, cc, rfl, e1, e2, hb2⟩
  have E2 := Lib.hid e2
  replace hb2 := below_step hb1 hb2
  obtain ⟨hc2, hf2⟩ := bcell hb2
  clear hc1 hf1 hb1 e2
  go_wp2_with fail
  refine (HU.out _ _ _ _ E2.out).mono ?_
  rintro e w3 ⟨g, zs, cz, rfl, z1, z2, z3, z4, z5, z6, z7, hb3⟩
  have Z1 := Lib.hid z1; have Z3 := Lib.hid z3; have Z4 := Lib.hid z4; have Z6 := Lib.hid z6; have Z2 := Lib.hid z2
  replace hb3 := below_step hb2 hb3
  obtain ⟨hc3, hf3⟩ := bcell hb3
  clear hc2 hf2 hb2 z1 z2 z3 z4 z5 z6 z7 HU
  go_wp2_with fail
  refine (ofWords_any g 0 cz lr zs Z1.out _ Z6.out Z3.out HR.out Z2.out).mono ?_
  rintro e w4 ⟨s1, p1, l1, c1, rfl, n1, hb4⟩
  rw [Z4.out] at n1
  have N1 := Lib.hid n1
  replace hb4 := below_step hb3 hb4
  obtain ⟨hc4, hf4⟩ := bcell hb4
  clear hc3 hf3 hb3 n1
  have HB4 : Below w.heap.size w w4 := (by repeat' first | exact Below.refl _ _ | refine below_alloc ?_ _ | refine below_step ?_ (by assumption))
  have r1 : w4.cell? ⟨w.heap.size + 1, 1, none⟩ = some (.slice none 0 0) := by simp [hc4, go_sem]
  go_wp2
  exact bodyPost_ret (v := .agg #[.int .u64 s1, .slice p1 l1 c1]) (by simp [results, Tryz.results88, go_sem, hc4]) rfl ⟨s1, p1, l1, c1, rfl, N1.out.box r1, (by repeat' first | exact HB4 | (refine Below.setCell ?_ (by simp) _))⟩
set_option maxRecDepth 100000 in
set_option maxHeartbeats 2000000 in
theorem up_over (m n : Nat) (w : World) (hm2 : m < 2 ^ 64) (hbig : 64 < bitLen m + n) (hn : n ≤ 100000000) :
    Calls Tryz.prog 88 #[.agg #[.int .u64 (m : Int), .slice none 0 0], .int .i64 (n : Int)] w (RetN w (m * 2 ^ n)) := by
  have H := Lib.hid (fun W => IsN.short (w := W) hm2)
  have hm : (ds m).length ≤ 1000000 := by rw [ds_one hm2]; omega
  have hbl : bitLen m ≤ 64 := bitLen_lt_pow.1 hm2
  have HLEN := Lib.hid (len64_any m hm2)
  have HU := Lib.hid (fun W b off cc a => shiftUp_any b off cc (ds m).length n ((ds m).length + n / 64 + 1) (ds m) W rfl (ds_pos m) hm hn rfl a (ds_lt m))
  rw [val_ds] at HU
  have hrow : (ds m).length + n / 64 + 1 ≤ 281474976710656 := by omega
  have HR := Lib.hid hrow
  generalize (ds m).length + n / 64 + 1 = lr at *
  have d1 : ¬ ((bitLen m : Nat) : Int) + n ≤ 64 := by omega
  generalize bitLen m = bl at *
  clear hrow hm hbig hm2
  go_enter Tryz.func88, Tryz.ntmps88
  go_wp2_with fail
  refine (short_yes _ _ _ _).mono ?_
  rintro e w1 ⟨rfl, hb1⟩
  obtain ⟨hc1, hf1⟩ := bcell hb1
  have HB1 : Below w.heap.size w w1 := (by repeat' first | exact Below.refl _ _ | refine below_alloc ?_ _ | refine below_step ?_ (by assumption))
  go_wp2_with (go_at_call 136; refine (HLEN.out _).mono ?_; rintro e w2 ⟨rfl, rfl⟩)
  refine (list_any m _ none 0 0 _ (H.out _)).mono ?_
  rintro e w2 ⟨b, off, cc, rfl, e1, e2, hb2⟩
  have E2 := Lib.hid e2
  replace hb2 := below_step hb1 hb2
  obtain ⟨hc2, hf2⟩ := bcell hb2
  clear hc1 hf1 hb1 e2
  go_wp2_with fail
  refine (HU.out _ _ _ _ E2.out).mono ?_
  rintro e w3 ⟨g, zs, cz, rfl, z1, z2, z3, z4, z5, z6, z7, hb3⟩
  have Z1 := Lib.hid z1; have Z3 := Lib.hid z3; have Z4 := Lib.hid z4; have Z6 := Lib.hid z6; have Z2 := Lib.hid z2
  replace hb3 := below_step hb2 hb3
  obtain ⟨hc3, hf3⟩ := bcell hb3
  clear hc2 hf2 hb2 z1 z2 z3 z4 z5 z6 z7 HU
  go_wp2_with fail
  refine (ofWords_any g 0 cz lr zs Z1.out _ Z6.out Z3.out HR.out Z2.out).mono ?_
  rintro e w4 ⟨s1, p1, l1, c1, rfl, n1, hb4⟩
  rw [Z4.out] at n1
  have N1 := Lib.hid n1
  replace hb4 := below_step hb3 hb4
  obtain ⟨hc4, hf4⟩ := bcell hb4
  clear hc3 hf3 hb3 n1
  have HB4 : Below w.heap.size w w4 := (by repeat' first | exact Below.refl _ _ | refine below_alloc ?_ _ | refine below_step ?_ (by assumption))
  have r1 : w4.cell? ⟨w.heap.size + 1, 1, none⟩ = some (.slice none 0 0) := by simp [hc4, go_sem]
  go_wp2
  exact bodyPost_ret (v := .agg #[.int .u64 s1, .slice p1 l1 c1]) (by simp [results, Tryz.results88, go_sem, hc4]) rfl ⟨s1, p1, l1, c1, rfl, N1.out.box r1, (by repeat' first | exact HB4 | (refine Below.setCell ?_ (by simp) _))⟩

theorem up_any (m n : Nat) (s : Int) (p : Option Addr) (l c : Nat) (w : World) (hm : (ds m).length ≤ 1000000) (hn : n ≤ 100000000) (h : IsN w s p l c m) :
    Calls Tryz.prog 88 #[.agg #[.int .u64 s, .slice p l c], .int .i64 (n : Int)] w (RetN w (m * 2 ^ n)) := by
  rcases Nat.eq_zero_or_pos l with hl | hl
  · obtain ⟨rfl, rfl, rfl, hm2⟩ := word_of h hl
    subst hl
    rcases Nat.lt_or_ge 64 (bitLen m + n) with h2 | h2
    · exact up_over m n w hm2 h2 hn
    · exact up_s m n hm2 h2 w
  · exact up_long m n s p l c w hm hn hl h

set_option maxRecDepth 100000 in
set_option maxHeartbeats 2000000 in
theorem down_long (m n : Nat) (s : Int) (p : Option Addr) (l c : Nat) (w : World) (hm : (ds m).length ≤ 1000000) (hn : n ≤ 100000000) (hl : 0 < l) (h : IsN w s p l c m) :
    Calls Tryz.prog 87 #[.agg #[.int .u64 s, .slice p l c], .int .i64 (n : Int)] w (RetN w (m / 2 ^ n)) := by
  obtain ⟨hm64, rfl, b, off, rfl, hl2, hlc, ha⟩ := h.row hl
  have HSD := Lib.hid (fun W a => shiftDown_any b off c l n (ds m) W hl2.symm hlc (by omega) hn a (ds_lt m))
  rw [val_ds] at HSD
  have HA := Lib.hid ha
  have HLL : Hid (l ≤ 1000000) := Lib.hid (by omega)
  clear h ha hm64 hl2 hm
  go_enter Tryz.func87, Tryz.ntmps87
  go_wp2_with fail
  refine (short_no _ _ _ _ hl _).mono ?_
  rintro e w1 ⟨rfl, hb1⟩
  obtain ⟨hc1, hf1⟩ := bcell hb1
  have HB1 : Below w.heap.size w w1 := (by repeat' first | exact Below.refl _ _ | refine below_alloc ?_ _ | refine below_step ?_ (by assumption))
  go_wp2_with fail
  refine (HSD.out _ (HA.out.mono HB1)).mono ?_
  rintro e w2 ⟨q, k, d, zs, rfl, z1, z2, z3, z4, z5, hb2⟩
  replace hb2 := below_step hb1 hb2
  obtain ⟨hc2, hf2⟩ := bcell hb2
  have HOW : Calls Tryz.prog 113 #[.slice q k d] w2 (RetN w2 (m / 2 ^ n)) := by
    rcases z5 with ⟨rfl, rfl, rfl, _⟩ | ⟨g, o, rfl, z6, z7⟩
    · have : zs = [] := List.eq_nil_of_length_eq_zero z1
      subst this
      rw [← z4]
      exact ofWords_none w2
    · have := ofWords_any g o d k zs z1 w2 z7 z3 (by have := HLL.out; omega) z6
      rwa [z4] at this
  have HO := Lib.hid HOW
  clear hc1 hf1 hb1 z1 z2 z3 z4 z5 HSD HOW
  go_wp2_with fail
  refine HO.out.mono ?_
  rintro e w4 ⟨s1, p1, l1, c1, rfl, n1, hb4⟩
  have N1 := Lib.hid n1
  replace hb4 := below_step hb2 hb4
  obtain ⟨hc4, hf4⟩ := bcell hb4
  clear hc2 hf2 hb2 n1
  have HB4 : Below w.heap.size w w4 := (by repeat' first | exact Below.refl _ _ | refine below_alloc ?_ _ | refine below_step ?_ (by assumption))
  have r1 : w4.cell? ⟨w.heap.size + 1, 1, none⟩ = some (.slice none 0 0) := by simp [hc4, go_sem]
  go_wp2
  exact bodyPost_ret (v := .agg #[.int .u64 s1, .slice p1 l1 c1]) (by simp [results, Tryz.results87, go_sem, hc4]) rfl ⟨s1, p1, l1, c1, rfl, N1.out.box r1, (by repeat' first | exact HB4 | (refine Below.setCell ?_ (by simp) _))⟩

theorem down_any (m n : Nat) (s : Int) (p : Option Addr) (l c : Nat) (w : World) (hm : (ds m).length ≤ 1000000) (hn : n ≤ 100000000) (h : IsN w s p l c m) :
    Calls Tryz.prog 87 #[.agg #[.int .u64 s, .slice p l c], .int .i64 (n : Int)] w (RetN w (m / 2 ^ n)) := by
  rcases Nat.eq_zero_or_pos l with hl | hl
  · obtain ⟨rfl, rfl, rfl, hm2⟩ := word_of h hl
    subst hl
    exact down_s m n hm2 w
  · exact down_long m n s p l c w hm hn hl h

set_option maxHeartbeats 1000000 in
theorem shift_up (m n : Nat) (s : Int) (p : Option Addr) (l c : Nat) (w : World) (hm : (ds m).length ≤ 1000000) (hn : n ≤ 65536) (h : IsN w s p l c m) :
    Calls Tryz.prog 35 #[.agg #[.int .u64 s, .slice p l c], .int .i64 (n : Int)] w (RetN w (m * 2 ^ n)) := by
  have HU := Lib.hid (fun W a => up_any m n s p l c W hm (by omega) a)
  have H := Lib.hid h
  have hmin : min (n : Int) 65536 = n := by omega
  clear h hm
  go_enter Tryz.func35, Tryz.ntmps35
  go_wp2_with fail
  refine (HU.out _ (H.out.mono (by repeat' first | exact Below.refl _ _ | refine below_alloc ?_ _))).mono ?_
  rintro e w4 ⟨s1, p1, l1, c1, rfl, n1, hb4⟩
  have N1 := Lib.hid n1
  obtain ⟨hc4, hf4⟩ := bcell hb4
  clear n1
  have HB4 : Below w.heap.size w w4 := (by repeat' first | exact Below.refl _ _ | refine below_alloc ?_ _ | refine below_step ?_ (by assumption))
  have r1 : w4.cell? ⟨w.heap.size + 1, 1, none⟩ = some (.slice none 0 0) := by simp [hc4, go_sem]
  go_wp2
  exact bodyPost_ret (v := .agg #[.int .u64 s1, .slice p1 l1 c1]) (by simp [results, Tryz.results35, go_sem, hc4]) rfl ⟨s1, p1, l1, c1, rfl, N1.out.box r1, (by repeat' first | exact HB4 | (refine Below.setCell ?_ (by simp) _))⟩
set_option maxHeartbeats 1000000 in
theorem shift_down (m n : Nat) (s : Int) (p : Option Addr) (l c : Nat) (w : World) (hm : (ds m).length ≤ 1000000) (h0 : 0 < n) (hn : n ≤ 65536) (h : IsN w s p l c m) :
    Calls Tryz.prog 35 #[.agg #[.int .u64 s, .slice p l c], .int .i64 (-(n : Int))] w (RetN w (m / 2 ^ n)) := by
  have HU := Lib.hid (fun W a => down_any m n s p l c W hm (by omega) a)
  have H := Lib.hid h
  obtain ⟨z, hz⟩ : ∃ z : Int, z = -(n : Int) := ⟨_, rfl⟩
  rw [← hz]
  have hmax : max z (-65536) = z := by omega
  have hneg : -z = (n : Int) := by omega
  have i0 : z < 0 := by omega
  clear h hm hz h0
  go_enter Tryz.func35, Tryz.ntmps35
  go_wp2_with fail
  refine (HU.out _ (H.out.mono (by repeat' first | exact Below.refl _ _ | refine below_alloc ?_ _))).mono ?_
  rintro e w4 ⟨s1, p1, l1, c1, rfl, n1, hb4⟩
  have N1 := Lib.hid n1
  obtain ⟨hc4, hf4⟩ := bcell hb4
  clear n1
  have HB4 : Below w.heap.size w w4 := (by repeat' first | exact Below.refl _ _ | refine below_alloc ?_ _ | refine below_step ?_ (by assumption))
  have r1 : w4.cell? ⟨w.heap.size + 1, 1, none⟩ = some (.slice none 0 0) := by simp [hc4, go_sem]
  go_wp2
  exact bodyPost_ret (v := .agg #[.int .u64 s1, .slice p1 l1 c1]) (by simp [results, Tryz.results35, go_sem, hc4]) rfl ⟨s1, p1, l1, c1, rfl, N1.out.box r1, (by repeat' first | exact HB4 | (refine Below.setCell ?_ (by simp) _))⟩
end Go.Proofs.YtjhjlecnjkjbbaaGreatDoor

/- Texts of small numbers; a few library calls on texts that are written out. -/
namespace Go.Proofs.YtjhjlecnjkjbbaaGreatDoor
open Go.RowKit

theorem Holds.lt {w : World} {b : Nat} {k : BK} {x : Want} (h : Holds w b k x) (h0 : k.shape.isEmpty = false) : b < w.heap.size := by
  obtain ⟨_, _, _, _, h⟩ := h.op h0
  exact h
set_option maxHeartbeats 2000000 in
theorem isDec_0 (w : World) : Calls Tryz.prog 170 #[.string ⟨#[48]⟩] w (Gives w (.is (.bool true))) := by
  refine Calls.mono (R := fun e w' => e = .returned (.bool true) ∧ w = w') ?_ fun e w' ⟨h1, h2⟩ => ⟨_, h1, rfl, by rw [h2]; exact Below.refl _ _⟩
  go_enter Tryz.func170, Tryz.ntmps170
  go_wp2
  go_rounds 3
  all_goals (go_ret; exact ⟨rfl, rfl⟩)
set_option maxHeartbeats 2000000 in
theorem isDec_50 (w : World) : Calls Tryz.prog 170 #[.string ⟨#[53, 48]⟩] w (Gives w (.is (.bool true))) := by
  refine Calls.mono (R := fun e w' => e = .returned (.bool true) ∧ w = w') ?_ fun e w' ⟨h1, h2⟩ => ⟨_, h1, rfl, by rw [h2]; exact Below.refl _ _⟩
  go_enter Tryz.func170, Tryz.ntmps170
  go_wp2
  go_rounds 4
  all_goals (go_ret; exact ⟨rfl, rfl⟩)
theorem cut_gives (w : World) (s sep a b : ByteArray) (f : Bool) (m : Int) (hm : w.cell? ⟨4, 0, none⟩ = some (.int .i64 m)) (hs : s.size < 4294967281) (h : Lib.cut s.data.toList sep.data.toList = (a.data.toList, b.data.toList, f)) :
    Calls Tryz.prog 99 #[.string s, .string sep] w (Gives w (.three (.is (.string a)) (.is (.string b)) (.is (.bool f)))) := by
  refine (Tryz.strings_Cut s sep m w hs hm).mono fun e w' ⟨h1, n, h2⟩ => ?_
  rw [h] at h1
  exact ⟨_, h1, ⟨_, _, _, rfl, rfl, rfl, rfl⟩, by rw [h2]; exact below_drewN (Below.refl _ _) _⟩
theorem cutPrefix_gives (w : World) (s p a : ByteArray) (f : Bool) (h1 : Lib.trimPrefix s.data.toList p.data.toList = a.data.toList) (h2 : Lib.hasPrefix s.data.toList p.data.toList = f) :
    Calls Tryz.prog 147 #[.string s, .string p] w (Gives w (.two (.is (.string a)) (.is (.bool f)))) := by
  refine (Tryz.strings_CutPrefix s p w).mono fun e w' ⟨h, hw⟩ => ?_
  rw [h1, h2] at h
  exact ⟨_, h, ⟨_, _, rfl, rfl, rfl⟩, by rw [hw]; exact Below.refl _ _⟩
theorem trimLeft_gives (w : World) (s a : ByteArray) (c : UInt8) (hc : c.toNat < 128) (h1 : Lib.trimLeftB s.data.toList c = a.data.toList) :
    Calls Tryz.prog 172 #[.string s, .string ⟨#[c]⟩] w (Gives w (.is (.string a))) := by
  refine (Tryz.strings_TrimLeft_one s c hc w).mono fun e w' ⟨h, hw⟩ => ?_
  rw [h1] at h
  exact ⟨_, h, rfl, by rw [hw]; exact Below.refl _ _⟩
theorem nPow_gives (w : World) (u : Value) (m n : Nat) (hm : (ds m).length ≤ 1) (hn : n ≤ 60) (h : Num w u m) : Calls Tryz.prog 149 #[u, .int .i64 (n : Int)] w (Gives w (.two (.num (m ^ n)) (.is (.bool true)))) := by
  obtain ⟨s, p, l, c, rfl, h⟩ := h
  have := ds_pos m
  have e : (ds m).length = 1 := by omega
  exact (pow_any m n s p l c w (by omega) (by rw [e]; omega) hn h).mono fun _ _ ⟨_, _, _, _, h, hi, hb⟩ => ⟨_, h, ⟨_, _, rfl, ⟨_, _, _, _, rfl, hi⟩, rfl⟩, hb⟩
theorem nShift_gives (w : World) (u : Value) (m n : Nat) (hm : (ds m).length ≤ 60) (hn : n ≤ 65536) (h : Num w u m) : Calls Tryz.prog 35 #[u, .int .i64 (n : Int)] w (Gives w (.num (m * 2 ^ n))) := by
  obtain ⟨s, p, l, c, rfl, h⟩ := h
  exact (shift_up m n s p l c w (by omega) hn h).mono fun _ _ ⟨_, _, _, _, h, hi, hb⟩ => ⟨_, h, ⟨_, _, _, _, rfl, hi⟩, hb⟩
theorem nText_small (w : World) (u : Value) (n : Nat) (t : ByteArray) (hn : n < 2 ^ 64) (H : ∀ w, Calls Tryz.prog 80 #[.int .u64 (n : Int), .int .i64 10] w fun e w' => e = .returned (.string t) ∧ w = w') (h : Num w u n) : Calls Tryz.prog 30 #[u] w (Gives w (.is (.string t))) := by
  obtain ⟨s, p, l, c, rfl, ⟨_, h2, h3, h4, h5⟩ | ⟨h, _⟩⟩ := h
  · subst h2 h3 h4 h5
    exact (text_short _ _ w H).mono fun e w' ⟨h, hb⟩ => ⟨_, h, rfl, hb⟩
  · omega
theorem iText_gives (w : World) (u : Value) (n : Nat) (t : ByteArray) (hn : n < 2 ^ 64) (H : ∀ w, Calls Tryz.prog 80 #[.int .u64 (n : Int), .int .i64 10] w fun e w' => e = .returned (.string t) ∧ w = w') (h : INum w u (n : Int)) : Calls Tryz.prog 103 #[u] w (Gives w (.is (.string t))) := by
  obtain ⟨g, s, p, l, c, rfl, h⟩ := h
  obtain ⟨rfl, rfl, rfl, rfl, rfl⟩ := isI_small h (by rw [Int.natAbs_natCast]; exact hn)
  rw [decide_eq_false (by omega), Int.natAbs_natCast]
  exact (iText_pos _ t w H).mono fun e w' ⟨h, hb⟩ => ⟨_, h, rfl, hb⟩
theorem iText_neg1 (w : World) (u : Value) (h : INum w u (-1)) : Calls Tryz.prog 103 #[u] w (Gives w (.is (.string ⟨#[45, 49]⟩))) := by
  obtain ⟨g, s, p, l, c, rfl, h⟩ := h
  obtain ⟨rfl, rfl, rfl, rfl, rfl⟩ := isI_small h (by decide)
  exact (iText_m1 w).mono fun e w' ⟨h, hb⟩ => ⟨_, h, rfl, hb⟩
theorem ev_ldQ0v {E : Operand → Value} {w : World} {d : Option Tmp} {ty : TypeId} {pos : String} {af : Array Edge} {gd : Option (Nat × Bool)} {x : Operand} {b : Nat} {X : Rat} {n : Int} (h : E x = .pointer (some ⟨b, 0, none⟩)) (hs : Says w b .frac (.that (fracS X))) (hn : X.num = n) : Does Tryz.prog ⟨d, .load 37 x, ty, pos, af, gd⟩ E w fun v' w' => Means w' (.int n) v' ∧ Below w.heap.size w w' := by
  subst hn; exact ev_ldQ0 h hs
theorem ev_ldQ3v {E : Operand → Value} {w : World} {d : Option Tmp} {ty : TypeId} {pos : String} {af : Array Edge} {gd : Option (Nat × Bool)} {x : Operand} {b : Nat} {X : Rat} {n : Nat} (h : E x = .pointer (some ⟨b, 3, none⟩)) (hs : Says w b .frac (.that (fracS X))) (hn : dn X = n) : Does Tryz.prog ⟨d, .load 35 x, ty, pos, af, gd⟩ E w fun v' w' => Means w' (.num n) v' ∧ Below w.heap.size w w' := by
  subst hn; exact ev_ldQ3 h hs
theorem ev_gtr {E : Operand → Value} {w : World} {d : Option Tmp} {ty : TypeId} {pos : String} {af : Array Edge} {gd : Option (Nat × Bool)} {x y : Operand} {a b : Int} (h1 : E x = .int .i64 a) (h2 : E y = .int .i64 b) {v : Bool} (hv : (decide (b < a)) = v) : Does Tryz.prog ⟨d, .binOp .gtr 3 x y 3, ty, pos, af, gd⟩ E w fun v' w' => v' = .bool v ∧ Below w.heap.size w w' :=
  Does.value (w' := w) (by go_simp) ⟨congrArg Value.bool hv, Below.refl _ _⟩
end Go.Proofs.YtjhjlecnjkjbbaaGreatDoor
