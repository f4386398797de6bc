/- Powers of the program's integers. -/
import Derived.Test.YthenfejgnjdkjaaGreatDoorLaw2
import Derived.Test.YthenfejgnjdkjaaGreatDoorPow
import Derived.Test.YthenfejgnjdkjaaGreatDoorPick
import Derived.Lib.Hide
import Derived.Deep.LoopGhost
namespace Go.Proofs.YthenfejgnjdkjaaGreatDoor
open Go.RowKit

theorem pow_parts (x : Int) (n : Nat) : sgn (decide (x < 0) && decide (n % 2 = 1)) (x.natAbs ^ n) = x ^ n := by
  obtain ⟨m, ⟨rfl, d, e⟩ | ⟨rfl, _, d, e⟩⟩ := int_cases x
  · rw [d, e, Bool.false_and]
    show ((m ^ n : Nat) : Int) = (m : Int) ^ n
    exact Int.natCast_pow m n
  · rw [d, e, Bool.true_and]
    rcases Nat.mod_two_eq_zero_or_one n with h | h
    · rw [decide_eq_false (by omega)]
      show ((m ^ n : Nat) : Int) = (-(m : Int)) ^ n
      have h2 : n = 2 * (n / 2) := by omega
      rw [h2, Int.natCast_pow, Int.pow_mul, Int.pow_mul, show (-(m : Int)) ^ 2 = (m : Int) ^ 2 by rw [Int.pow_succ, Int.pow_succ, Int.pow_succ, Int.pow_succ]; simp [Int.neg_mul_neg]]
    · rw [decide_eq_true h]
      show -((m ^ n : Nat) : Int) = (-(m : Int)) ^ n
      have h2 : n = 2 * (n / 2) + 1 := by omega
      rw [h2, Int.natCast_pow, Int.pow_succ, Int.pow_succ, Int.pow_mul, Int.pow_mul, show (-(m : Int)) ^ 2 = (m : Int) ^ 2 by rw [Int.pow_succ, Int.pow_succ, Int.pow_succ, Int.pow_succ]; simp [Int.neg_mul_neg], Int.mul_neg]

def RetPI (W : World) (z : Int) (ok : Bool) : Ending → World → Prop := fun e w' =>
  ∃ g s p l c, e = .returned (.tuple #[.agg #[.bool g, .int .u64 s, .slice p l c], .bool ok]) ∧ IsI w' g s p l c z ∧ Below W.heap.size W w'

set_option maxRecDepth 100000 in
set_option maxHeartbeats 4000000 in
theorem iPow_any (x : Int) (n : Nat) (g : Bool) (s : Int) (p : Option Addr) (l c : Nat) (w : World) (hm1 : (ds x.natAbs).length ≤ 60) (hm : (ds x.natAbs).length * n ≤ 60) (hn : n ≤ 60) (h : IsI w g s p l c x) :
    Calls Tryz.prog 9 #[.agg #[.bool g, .int .u64 s, .slice p l c], .int .i64 (n : Int)] w (RetPI w (x ^ n) true) := by
  obtain ⟨hg, h⟩ := h
  have H := Lib.hid h
  have HP := Lib.hid (fun W a => pow_any x.natAbs n s p l c W hm1 hm hn a)
  have HF := Lib.hid (fun s p l c W a => iFrom_any (g && decide (n % 2 = 1)) (x.natAbs ^ n) s p l c W a)
  rw [show sgn (g && decide (n % 2 = 1)) (x.natAbs ^ n) = x ^ n by rw [hg]; exact pow_parts x n] at HF
  have hpar : (((n : Int) % 2) == 1) = decide (n % 2 = 1) := by
    rcases Nat.mod_two_eq_zero_or_one n with h | h
    · rw [show (n : Int) % 2 = 0 by omega, h]; rfl
    · rw [show (n : Int) % 2 = 1 by omega, h]; rfl
  generalize decide (n % 2 = 1) = odd at *
  have HO := Lib.hid hpar
  clear h hm1 hm hg hpar
  obtain ⟨W, a, r, hW, hr, ha, BA, BR, HB⟩ := boxesI w g false s 0 p none l c 0 0
  have fr : ∀ o : Nat, o < 3 → W.frozen? ⟨r, o, none⟩ = false := by intro o ho; subst hW; subst hr; rcases (by omega : o = 0 ∨ o = 1 ∨ o = 2) with rfl | rfl | rfl <;> simp [go_sem]
  go_enter Tryz.func9, Tryz.ntmps9
  go_wp2_with fail
  rw [← hW, ← hr, ← ha]
  have har : a ≠ r := by omega
  have zw : w.heap.size ≤ r := by omega
  have hra : r ≠ a := by omega
  replace HB := Lib.hid HB
  refine (HP.out _ (H.out.mono HB.out)).mono ?_
  rintro e w1 ⟨s1, p1, l1, c1, rfl, i1, hb⟩
  have I1 := Lib.hid i1; have HB1 := Lib.hid hb
  obtain ⟨A0, A1, A2⟩ := BA; obtain ⟨R0, R1, R2⟩ := BR
  replace A0 := wcell hb A0
  have f0 := wfree hb R0 (fr 0 (by omega)); have f1 := wfree hb R1 (fr 1 (by omega)); have f2 := wfree hb R2 (fr 2 (by omega))
  clear fr
  replace R0 := wcell hb R0
  replace R1 := wcell hb R1
  replace R2 := wcell hb R2
  clear hW hr ha i1 A1 A2 HP H
  have za : a < w1.heap.size := World.block_lt_of_cell? _ _ A0
  have zr : r < w1.heap.size := World.block_lt_of_cell? _ _ R0
  have za1 : a < w1.heap.size + 1 := by omega
  have zr1 : r < w1.heap.size + 1 := by omega
  cases g with
  | false =>
    go_wp2_with fail
    refine (HF.out _ _ _ _ _ (I1.out.mono (below_alloc (Below.refl _ _) _))).mono ?_
    rintro e w2 ⟨g2, s2, p2, l2, c2, rfl, i2, hb2⟩
    have I2 := Lib.hid i2
    clear i2 HF HO I1
    have q0 : w2.cell? ⟨r, 0, none⟩ = some (.bool false) := wcell hb2 (by simpa [go_sem, zr] using R0)
    have q1 : w2.cell? ⟨r, 1, none⟩ = some (.int .u64 0) := wcell hb2 (by simpa [go_sem, zr] using R1)
    have q2 : w2.cell? ⟨r, 2, none⟩ = some (.slice none 0 0) := wcell hb2 (by simpa [go_sem, zr] using R2)
    have t0 : w2.frozen? ⟨r, 0, none⟩ = false := wfree hb2 (v := .bool false) (by simpa [go_sem, zr] using R0) (by simpa [go_sem, zr] using f0)
    have t1 : w2.frozen? ⟨r, 1, none⟩ = false := wfree hb2 (v := .int .u64 0) (by simpa [go_sem, zr] using R1) (by simpa [go_sem, zr] using f1)
    have t2 : w2.frozen? ⟨r, 2, none⟩ = false := wfree hb2 (v := .slice none 0 0) (by simpa [go_sem, zr] using R2) (by simpa [go_sem, zr] using f2)
    have HB2 := Lib.hid (below_step (below_alloc (below_step HB.out HB1.out) _) hb2)
    clear hb hb2 A0 R0 R1 R2 f0 f1 f2 HB HB1 za za1
    go_wp2
    exact bodyPost_ret (v := .tuple #[.agg #[.bool g2, .int .u64 s2, .slice p2 l2 c2], .bool true]) (by simp [results, Tryz.results9, go_sem, q0, q1, q2]) rfl ⟨_, _, _, _, _, rfl, ⟨I2.out.1, I2.out.2.ibox q0 q2⟩, below_iset HB2.out zw⟩
  | true =>
    go_wp2_with fail
    rw [HO.out]
    refine (HF.out _ _ _ _ _ (I1.out.mono (below_alloc (Below.refl _ _) _))).mono ?_
    rintro e w2 ⟨g2, s2, p2, l2, c2, rfl, i2, hb2⟩
    have I2 := Lib.hid i2
    clear i2 HF HO I1
    have q0 : w2.cell? ⟨r, 0, none⟩ = some (.bool false) := wcell hb2 (by simpa [go_sem, zr] using R0)
    have q1 : w2.cell? ⟨r, 1, none⟩ = some (.int .u64 0) := wcell hb2 (by simpa [go_sem, zr] using R1)
    have q2 : w2.cell? ⟨r, 2, none⟩ = some (.slice none 0 0) := wcell hb2 (by simpa [go_sem, zr] using R2)
    have t0 : w2.frozen? ⟨r, 0, none⟩ = false := wfree hb2 (v := .bool false) (by simpa [go_sem, zr] using R0) (by simpa [go_sem, zr] using f0)
    have t1 : w2.frozen? ⟨r, 1, none⟩ = false := wfree hb2 (v := .int .u64 0) (by simpa [go_sem, zr] using R1) (by simpa [go_sem, zr] using f1)
    have t2 : w2.frozen? ⟨r, 2, none⟩ = false := wfree hb2 (v := .slice none 0 0) (by simpa [go_sem, zr] using R2) (by simpa [go_sem, zr] using f2)
    have HB2 := Lib.hid (below_step (below_alloc (below_step HB.out HB1.out) _) hb2)
    clear hb hb2 A0 R0 R1 R2 f0 f1 f2 HB HB1 za za1
    go_wp2
    exact bodyPost_ret (v := .tuple #[.agg #[.bool g2, .int .u64 s2, .slice p2 l2 c2], .bool true]) (by simp [results, Tryz.results9, go_sem, q0, q1, q2]) rfl ⟨_, _, _, _, _, rfl, ⟨I2.out.1, I2.out.2.ibox q0 q2⟩, below_iset HB2.out zw⟩

end Go.Proofs.YthenfejgnjdkjaaGreatDoor

/- WholePowers: powers of one base multiply by adding their numbers; a power is a product repeated; a number below 0 is refused. -/
namespace Go.Proofs.YthenfejgnjdkjaaGreatDoor
open Go.RowKit

end Go.Proofs.YthenfejgnjdkjaaGreatDoor
