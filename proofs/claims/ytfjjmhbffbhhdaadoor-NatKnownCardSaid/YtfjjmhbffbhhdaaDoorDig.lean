/- Powers of the program's numbers. -/
import Derived.Test.YtfjjmhbffbhhdaaDoorQNum
import Derived.Laws.BitsLemmas
import Derived.Deep.LoopGhost
import Derived.Test.YtfjjmhbffbhhdaaDoorQOps
import Derived.Test.YtfjjmhbffbhhdaaDoorRoots0
import Derived.LoopN
import Derived.Handy
namespace Go.Proofs.YtfjjmhbffbhhdaaDoor
open Go.RowKit

theorem i64_and1 (n : Int) : bits .and .i64 n 1 = n % 2 := by
  have h1 : (BitVec.ofInt 64 1).toNat = 2 ^ 1 - 1 := by decide
  have key : (BitVec.ofInt 64 n &&& BitVec.ofInt 64 1).toNat = (n % ((2 ^ 64 : Nat) : Int)).toNat % 2 ^ 1 := by
    rw [BitVec.toNat_and, BitVec.toNat_ofInt, h1, Nat.and_two_pow_sub_one_eq_mod]
  show IntKind.i64.wrap ((BitVec.ofInt 64 n &&& BitVec.ofInt 64 1).toNat : Nat) = n % 2
  rw [key, IntKind.wrap_i64]
  omega

theorem len_any (n : Nat) (hn : n < 2 ^ 64) (w : World) : Calls Tryd.prog 35 #[.int .u64 (n : Int)] w fun e w' => w = w' ∧ e = .returned (.int .i64 (bitLen n : Nat)) := by
  go_enter Tryd.func35, Tryd.ntmps35
  go_wp2_with (go_at_call 36; refine (len64_any n hn _).mono ?_; rintro e w2 ⟨rfl, rfl⟩)
  go_ret
  exact ⟨rfl, rfl⟩

set_option maxRecDepth 100000 in
set_option maxHeartbeats 4000000 in
theorem pow_neg (n : Int) (s : Int) (p : Option Addr) (l c : Nat) (w : World) (hn : n < 0) :
    Calls Tryd.prog 10 #[.agg #[.int .u64 s, .slice p l c], .int .i64 n] w fun e w' => e = .returned (.tuple #[.agg #[.int .u64 0, .slice none 0 0], .bool false]) ∧ Below w.heap.size w w' := by
  go_enter Tryd.func10, Tryd.ntmps10
  go_wp2
  exact bodyPost_ret (v := .tuple #[.agg #[.int .u64 0, .slice none 0 0], .bool false]) (by simp [results, Tryd.results10, go_sem]) rfl ⟨rfl, (by repeat' first | exact Below.refl _ _ | refine below_alloc ?_ _ | (refine Below.setCell ?_ (by simp) _))⟩

set_option maxRecDepth 100000 in
set_option maxHeartbeats 4000000 in
theorem pow_gen (m n : Nat) (s : Int) (p : Option Addr) (l c : Nat) (w : World) (hm1 : (ds m).length ≤ 60) (hm : ∀ e, e ≤ n → (ds (m ^ e)).length ≤ 61) (hn : n ≤ 1000) (h : IsN w s p l c m) :
    Calls Tryd.prog 10 #[.agg #[.int .u64 s, .slice p l c], .int .i64 (n : Int)] w fun e w' => ∃ s1 p1 l1 c1, e = .returned (.tuple #[.agg #[.int .u64 s1, .slice p1 l1 c1], .bool true]) ∧ IsN w' s1 p1 l1 c1 (m ^ n) ∧ Below w.heap.size w w' := by
  have H := Lib.hid h
  have HL := Lib.hid (len_any n (by omega))
  have hb3 : bitLen n ≤ 10 := bitLen_lt_pow.1 (by omega)
  have HN0 : Hid (n / 2 ^ bitLen n = 0) := Lib.hid (Nat.div_eq_of_lt (bitLen_lt_pow.2 (Nat.le_refl _)))
  have HM := Lib.hid hm
  have HMM := Lib.hid hm1
  obtain ⟨bl, hbl⟩ : ∃ bl, bl = bitLen n := ⟨_, rfl⟩
  rw [← hbl] at HL hb3 HN0
  clear h hbl hm hm1
  go_enter Tryd.func10, Tryd.ntmps10
  go_wp2_with fail
  refine (of_any _ _).mono ?_
  rintro e w1 ⟨rfl, hb⟩
  obtain ⟨hc, hf⟩ := bcell hb
  have HB1 : Below w.heap.size w w1 := (by repeat' first | exact Below.refl _ _ | refine below_alloc ?_ _ | refine below_step ?_ (by assumption))
  go_wp2_with fail
  refine (HL.out _).mono ?_
  rintro e _ ⟨rfl, rfl⟩
  go_wp2_with fail
  obtain ⟨g, hg⟩ : ∃ g, g = w.heap.size := ⟨_, rfl⟩
  obtain ⟨b, hbb⟩ : ∃ b, b = w1.heap.size := ⟨_, rfl⟩
  have hz := hb.size
  simp only [World.size_alloc] at hz
  have q0 : w1.cell? ⟨g, 0, none⟩ = some (.int .u64 s) := by simp [hg, hc, go_sem]
  have q1 : w1.cell? ⟨g, 1, none⟩ = some (.slice p l c) := by simp [hg, hc, go_sem]
  have r0 : w1.cell? ⟨g + 1, 0, none⟩ = some (.int .u64 0) := by simp [hg, hc, go_sem]
  have r1 : w1.cell? ⟨g + 1, 1, none⟩ = some (.slice none 0 0) := by simp [hg, hc, go_sem]
  have f0 : w1.frozen? ⟨g + 1, 0, none⟩ = false := by simp [hg, hf, go_sem]
  have f1 : w1.frozen? ⟨g + 1, 1, none⟩ = false := by simp [hg, hf, go_sem]
  have BX : Below w1.heap.size w1 (w1.alloc (.cells #[.int .u64 1, .slice none 0 0] 25)) := below_alloc (Below.refl _ _) _
  have q0 := wcell BX q0; have q1 := wcell BX q1
  have f0 := wfree BX r0 f0; have f1 := wfree BX r1 f1
  have r0 := wcell BX r0; have r1 := wcell BX r1
  have b0 : (w1.alloc (.cells #[.int .u64 1, .slice none 0 0] 25)).cell? ⟨b, 0, none⟩ = some (.int .u64 1) := by simp [hbb, go_sem]
  have b1 : (w1.alloc (.cells #[.int .u64 1, .slice none 0 0] 25)).cell? ⟨b, 1, none⟩ = some (.slice none 0 0) := by simp [hbb, go_sem]
  have x0 : (w1.alloc (.cells #[.int .u64 1, .slice none 0 0] 25)).frozen? ⟨b, 0, none⟩ = false := by simp [hbb, go_sem]
  have x1 : (w1.alloc (.cells #[.int .u64 1, .slice none 0 0] 25)).frozen? ⟨b, 1, none⟩ = false := by simp [hbb, go_sem]
  have HBW : Below w.heap.size w (w1.alloc (.cells #[.int .u64 1, .slice none 0 0] 25)) := below_alloc HB1 _
  have ng : g ≠ b := by omega
  have ng1 : g + 1 ≠ b := by omega
  have hgb : w.heap.size ≤ b := by omega
  have hgg : w.heap.size ≤ g + 1 := by omega
  have NM := Lib.hid (H.out.mono HBW)
  have HB := Lib.hid HBW
  rw [← hbb, ← hg]
  generalize w1.alloc (.cells #[.int .u64 1, .slice none 0 0] 25) = W at *
  have HGB := Lib.hid hgb; have HGG := Lib.hid hgg
  clear BX hc hf hb HB1 hz hg hbb hgb hgg HBW H HL
  go_loopw [7] (fun i wr => ∃ (k : Nat) (s' : Int) (p' : Option Addr) (l' c' : Nat), i = .int .i64 ((k : Int) - 1) ∧ k ≤ bl ∧ IsN wr s' p' l' c' (m ^ (n / 2 ^ k)) ∧ IsN wr s p l c m ∧ Below w.heap.size w wr ∧
    wr.cell? ⟨g, 0, none⟩ = some (.int .u64 s) ∧ wr.cell? ⟨g, 1, none⟩ = some (.slice p l c) ∧ wr.cell? ⟨g + 1, 0, none⟩ = some (.int .u64 0) ∧ wr.cell? ⟨g + 1, 1, none⟩ = some (.slice none 0 0) ∧
    wr.frozen? ⟨g + 1, 0, none⟩ = false ∧ wr.frozen? ⟨g + 1, 1, none⟩ = false ∧ wr.cell? ⟨b, 0, none⟩ = some (.int .u64 s') ∧ wr.cell? ⟨b, 1, none⟩ = some (.slice p' l' c') ∧ wr.frozen? ⟨b, 0, none⟩ = false ∧ wr.frozen? ⟨b, 1, none⟩ = false) (fun i _ => (intOf i + 1).toNat)
  case atStart => exact ⟨bl, 1, none, 0, 0, rfl, Nat.le_refl _, by rw [HN0.out, Nat.pow_zero]; exact Or.inl ⟨by omega, rfl, rfl, rfl, rfl⟩, NM.out, HB.out, q0, q1, r0, r1, f0, f1, b0, b1, x0, x1⟩
  case round =>
    clear q0 q1 r0 r1 f0 f1 b0 b1 x0 x1 NM HB
    obtain ⟨k, s', p', l', c', rfl, hk, hP, hN, hB, q0, q1, r0, r1, f0, f1, b0, b1, x0, x1⟩ := hrel
    rcases Nat.eq_zero_or_pos k with hk0 | hk0
    · subst hk0
      rw [Nat.pow_zero, Nat.div_one] at hP
      have NP := Lib.hid hP; have HB := Lib.hid hB
      clear hP hN hB
      go_wp2
      exact bodyPost_ret (v := .tuple #[.agg #[.int .u64 s', .slice p' l' c'], .bool true]) (by simp [results, Tryd.results10, go_sem, r0, r1]) rfl
        ⟨s', p', l', c', rfl, NP.out.box r1, (HB.out.setCell (p := ⟨g + 1, 0, none⟩) HGG.out _).setCell (p := ⟨g + 1, 1, none⟩) HGG.out _⟩
    · obtain ⟨j, rfl⟩ : ∃ j, k = j + 1 := ⟨k - 1, by omega⟩
      obtain ⟨q, t, hqt, ht⟩ : ∃ q t, n / 2 ^ j = 2 * q + t ∧ t < 2 := ⟨n / 2 ^ j / 2, n / 2 ^ j % 2, by omega, by omega⟩
      have hq : n / 2 ^ (j + 1) = q := by rw [Nat.pow_succ, ← Nat.div_div_eq_div_mul, hqt]; omega
      have hnj : n / 2 ^ j ≤ n := Nat.div_le_self _ _
      rw [hq] at hP
      have NP := Lib.hid hP; have NM := Lib.hid hN; have HB := Lib.hid hB
      have zg := World.block_lt_of_cell? _ _ q0; have zg1 := World.block_lt_of_cell? _ _ r0; have zb := World.block_lt_of_cell? _ _ b0
      have hs1 := HM.out q (by omega)
      have hs2 := HM.out (2 * q) (by omega)
      have e2 : m ^ q * m ^ q = m ^ (2 * q) := by rw [← Nat.pow_add]; congr 1; omega
      have T1 := Lib.hid (mul_any s' s' p' p' l' c' l' c' (m ^ q) (m ^ q) wr (by omega) (by omega) (Or.inl (by omega)) hP hP)
      rw [e2] at T1
      have T2 := Lib.hid (fun W s1 p1 l1 c1 a1 a2 => mul_any s1 s p1 p l1 c1 l c (m ^ (2 * q)) m W (by omega) (by have := HMM.out; omega) (Or.inl (by omega)) a1 a2)
      rw [← Nat.pow_succ] at T2
      have i0 : ((j + 1 : Nat) : Int) - 1 = (j : Int) := by omega
      rw [i0]
      have i1 : (0 : Int) ≤ j := by omega
      have i2 : j ≤ 10 := by omega
      have HQ := Lib.hid hqt
      have hsh : (n : Int) / 2 ^ j = ((2 * q + t : Nat) : Int) := by rw [← hqt, Int.natCast_ediv, Int.natCast_pow]; rfl
      obtain ⟨u, hu⟩ : ∃ u, u = 2 * q + t := ⟨_, rfl⟩
      rw [← hu] at hsh
      have wand : bits .and .i64 (u : Int) 1 = (t : Int) := by
        rw [i64_and1]; omega
      clear hP hN hB hqt hq hnj hs1 hs2 e2 hu hk0
      go_wp2_with fail
      refine T1.out.mono ?_
      rintro e w2 ⟨s2, p2, l2, c2, rfl, n2, hb2⟩
      have q0 := wcell hb2 q0; have q1 := wcell hb2 q1
      have f0 := wfree hb2 r0 f0; have f1 := wfree hb2 r1 f1; have x0 := wfree hb2 b0 x0; have x1 := wfree hb2 b1 x1
      have r0 := wcell hb2 r0; have r1 := wcell hb2 r1; have b0 := wcell hb2 b0; have b1 := wcell hb2 b1
      have NP2 := Lib.hid (n2.box (g := b) (u := .int .u64 s2) (v := .slice p2 l2 c2) b1)
      have NM2 := Lib.hid ((NM.out.mono hb2).box (g := b) (u := .int .u64 s2) (v := .slice p2 l2 c2) b1)
      have HB2 := Lib.hid (((below_step HB.out hb2).setCell (p := ⟨b, 0, none⟩) HGB.out (.int .u64 s2)).setCell (p := ⟨b, 1, none⟩) HGB.out (.slice p2 l2 c2))
      clear n2 NP NM HB T1 hb2 zg zg1 zb
      have : t = 0 ∨ t = 1 := by omega
      rcases this with rfl | rfl
      · have HNN : Hid (n / 2 ^ j = 2 * q) := Lib.hid (by have := HQ.out; omega)
        go_wp2
        have q0 := bx_other (b := b) (u := .int .u64 s2) (v := .slice p2 l2 c2) q0 ng; have q1 := bx_other (b := b) (u := .int .u64 s2) (v := .slice p2 l2 c2) q1 ng
        have r0 := bx_other (b := b) (u := .int .u64 s2) (v := .slice p2 l2 c2) r0 ng1; have r1 := bx_other (b := b) (u := .int .u64 s2) (v := .slice p2 l2 c2) r1 ng1
        have b0 := bx_zero (b := b) (u := .int .u64 s2) (v := .slice p2 l2 c2) b0
        have b1 := bx_one (b := b) (u := .int .u64 s2) (v := .slice p2 l2 c2) b1
        go_roundw
        case rel => exact ⟨j, s2, p2, l2, c2, by go_num, by omega, by rw [HNN.out]; exact NP2.out, NM2.out, HB2.out, q0, q1, r0, r1, by rw [World.frozen?_setCell, World.frozen?_setCell]; exact f0, by rw [World.frozen?_setCell, World.frozen?_setCell]; exact f1, b0, b1, by rw [World.frozen?_setCell, World.frozen?_setCell]; exact x0, by rw [World.frozen?_setCell, World.frozen?_setCell]; exact x1⟩
        case measure => simp [intOf]
      · have HNN : Hid (n / 2 ^ j = 2 * q + 1) := Lib.hid HQ.out
        go_wp2_with fail
        have q0 := bx_other (b := b) (u := .int .u64 s2) (v := .slice p2 l2 c2) q0 ng; have q1 := bx_other (b := b) (u := .int .u64 s2) (v := .slice p2 l2 c2) q1 ng
        have r0 := bx_other (b := b) (u := .int .u64 s2) (v := .slice p2 l2 c2) r0 ng1; have r1 := bx_other (b := b) (u := .int .u64 s2) (v := .slice p2 l2 c2) r1 ng1
        have b0 := bx_zero (b := b) (u := .int .u64 s2) (v := .slice p2 l2 c2) b0
        have b1 := bx_one (b := b) (u := .int .u64 s2) (v := .slice p2 l2 c2) b1
        have f0 : ((w2.setCell ⟨b, 0, none⟩ (.int .u64 s2)).setCell ⟨b, 1, none⟩ (.slice p2 l2 c2)).frozen? ⟨g + 1, 0, none⟩ = false := by rw [World.frozen?_setCell, World.frozen?_setCell]; exact f0
        have f1 : ((w2.setCell ⟨b, 0, none⟩ (.int .u64 s2)).setCell ⟨b, 1, none⟩ (.slice p2 l2 c2)).frozen? ⟨g + 1, 1, none⟩ = false := by rw [World.frozen?_setCell, World.frozen?_setCell]; exact f1
        have x0 : ((w2.setCell ⟨b, 0, none⟩ (.int .u64 s2)).setCell ⟨b, 1, none⟩ (.slice p2 l2 c2)).frozen? ⟨b, 0, none⟩ = false := by rw [World.frozen?_setCell, World.frozen?_setCell]; exact x0
        have x1 : ((w2.setCell ⟨b, 0, none⟩ (.int .u64 s2)).setCell ⟨b, 1, none⟩ (.slice p2 l2 c2)).frozen? ⟨b, 1, none⟩ = false := by rw [World.frozen?_setCell, World.frozen?_setCell]; exact x1
        generalize (w2.setCell ⟨b, 0, none⟩ (.int .u64 s2)).setCell ⟨b, 1, none⟩ (.slice p2 l2 c2) = w3 at *
        refine (T2.out _ _ _ _ _ NP2.out NM2.out).mono ?_
        rintro e w4 ⟨s4, p4, l4, c4, rfl, n4, hb4⟩
        have q0 := wcell hb4 q0; have q1 := wcell hb4 q1
        have f0 := wfree hb4 r0 f0; have f1 := wfree hb4 r1 f1; have x0 := wfree hb4 b0 x0; have x1 := wfree hb4 b1 x1
        have r0 := wcell hb4 r0; have r1 := wcell hb4 r1; have b0 := wcell hb4 b0; have b1 := wcell hb4 b1
        have NP4 := Lib.hid (n4.box (g := b) (u := .int .u64 s4) (v := .slice p4 l4 c4) b1)
        have NM4 := Lib.hid ((NM2.out.mono hb4).box (g := b) (u := .int .u64 s4) (v := .slice p4 l4 c4) b1)
        have HB4 := Lib.hid (((below_step HB2.out hb4).setCell (p := ⟨b, 0, none⟩) HGB.out (.int .u64 s4)).setCell (p := ⟨b, 1, none⟩) HGB.out (.slice p4 l4 c4))
        clear n4 NP2 NM2 HB2 T2 hb4
        go_wp2
        have q0 := bx_other (b := b) (u := .int .u64 s4) (v := .slice p4 l4 c4) q0 ng; have q1 := bx_other (b := b) (u := .int .u64 s4) (v := .slice p4 l4 c4) q1 ng
        have r0 := bx_other (b := b) (u := .int .u64 s4) (v := .slice p4 l4 c4) r0 ng1; have r1 := bx_other (b := b) (u := .int .u64 s4) (v := .slice p4 l4 c4) r1 ng1
        have b0 := bx_zero (b := b) (u := .int .u64 s4) (v := .slice p4 l4 c4) b0
        have b1 := bx_one (b := b) (u := .int .u64 s4) (v := .slice p4 l4 c4) b1
        go_roundw
        case rel => exact ⟨j, s4, p4, l4, c4, by go_num, by omega, by rw [HNN.out]; exact NP4.out, NM4.out, HB4.out, q0, q1, r0, r1, by rw [World.frozen?_setCell, World.frozen?_setCell]; exact f0, by rw [World.frozen?_setCell, World.frozen?_setCell]; exact f1, b0, b1, by rw [World.frozen?_setCell, World.frozen?_setCell]; exact x0, by rw [World.frozen?_setCell, World.frozen?_setCell]; exact x1⟩
        case measure => simp [intOf]
end Go.Proofs.YtfjjmhbffbhhdaaDoor

/- Texts of small numbers; a few library calls on texts that are written out. -/
namespace Go.Proofs.YtfjjmhbffbhhdaaDoor
open Go.RowKit

theorem Holds.lt {w : World} {b : Nat} {k : BK} {x : Want} (h : Holds w b k x) (h0 : k.shape.isEmpty = false) : b < w.heap.size := by
  obtain ⟨_, _, _, _, h⟩ := h.op h0
  exact h
theorem ev_gtr {E : Operand → Value} {w : World} {d : Option Tmp} {ty : TypeId} {pos : String} {af : Array Edge} {gd : Option (Nat × Bool)} {x y : Operand} {a b : Int} (h1 : E x = .int .i64 a) (h2 : E y = .int .i64 b) {v : Bool} (hv : (decide (b < a)) = v) : Does Tryd.prog ⟨d, .binOp .gtr 3 x y 3, ty, pos, af, gd⟩ E w fun v' w' => v' = .bool v ∧ Below w.heap.size w w' :=
  Does.value (w' := w) (by go_simp) ⟨congrArg Value.bool hv, Below.refl _ _⟩
end Go.Proofs.YtfjjmhbffbhhdaaDoor
