/- Powers of the program's integers. -/
import Derived.Test.YtadhmpkndnhebaaDoorLaw2
import Derived.Test.YtadhmpkndnhebaaDoorPow
import Derived.Test.YtadhmpkndnhebaaDoorPick
import Derived.Deep.LoopGhost
namespace Go.Proofs.YtadhmpkndnhebaaDoor
open Go.RowKit

theorem pow_parts (x : Int) (n : Nat) : sgn (decide (x < 0) && decide (n % 2 = 1)) (x.natAbs ^ n) = x ^ n := by
  obtain ⟨m, ⟨rfl, d, e⟩ | ⟨rfl, _, d, e⟩⟩ := int_cases x
  · rw [d, e, Bool.false_and]
    show ((m ^ n : Nat) : Int) = (m : Int) ^ n
    exact Int.natCast_pow m n
  · rw [d, e, Bool.true_and]
    rcases Nat.mod_two_eq_zero_or_one n with h | h
    · rw [decide_eq_false (by omega)]
      show ((m ^ n : Nat) : Int) = (-(m : Int)) ^ n
      have h2 : n = 2 * (n / 2) := by omega
      rw [h2, Int.natCast_pow, Int.pow_mul, Int.pow_mul, show (-(m : Int)) ^ 2 = (m : Int) ^ 2 by rw [Int.pow_succ, Int.pow_succ, Int.pow_succ, Int.pow_succ]; simp [Int.neg_mul_neg]]
    · rw [decide_eq_true h]
      show -((m ^ n : Nat) : Int) = (-(m : Int)) ^ n
      have h2 : n = 2 * (n / 2) + 1 := by omega
      rw [h2, Int.natCast_pow, Int.pow_succ, Int.pow_succ, Int.pow_mul, Int.pow_mul, show (-(m : Int)) ^ 2 = (m : Int) ^ 2 by rw [Int.pow_succ, Int.pow_succ, Int.pow_succ, Int.pow_succ]; simp [Int.neg_mul_neg], Int.mul_neg]

/-- What a power gives back. -/
def RetPI (W : World) (z : Int) (ok : Bool) : Ending → World → Prop := fun e w' =>
  ∃ g s p l c, e = .returned (.tuple #[.agg #[.bool g, .int .u64 s, .slice p l c], .bool ok]) ∧ IsI w' g s p l c z ∧ Below W.heap.size W w'

set_option maxRecDepth 100000 in
set_option maxHeartbeats 4000000 in
theorem iPow_any (x : Int) (n : Nat) (g : Bool) (s : Int) (p : Option Addr) (l c : Nat) (w : World) (hm1 : (ds x.natAbs).length ≤ 60) (hm : (ds x.natAbs).length * n ≤ 60) (hn : n ≤ 60) (h : IsI w g s p l c x) :
    Calls Tryd.prog 40 #[.agg #[.bool g, .int .u64 s, .slice p l c], .int .i64 (n : Int)] w (RetPI w (x ^ n) true) := by
  obtain ⟨hg, h⟩ := h
  have H := Lib.hid h
  have HP := Lib.hid (fun W a => pow_any x.natAbs n s p l c W hm1 hm hn a)
  have HF := Lib.hid (fun s p l c W a => iFrom_any (g && decide (n % 2 = 1)) (x.natAbs ^ n) s p l c W a)
  rw [show sgn (g && decide (n % 2 = 1)) (x.natAbs ^ n) = x ^ n by rw [hg]; exact pow_parts x n] at HF
  have hpar : (((n : Int) % 2) == 1) = decide (n % 2 = 1) := by
    rcases Nat.mod_two_eq_zero_or_one n with h | h
    · rw [show (n : Int) % 2 = 0 by omega, h]; rfl
    · rw [show (n : Int) % 2 = 1 by omega, h]; rfl
  generalize decide (n % 2 = 1) = odd at *
  have HO := Lib.hid hpar
  clear h hm1 hm hg hpar
  obtain ⟨W, a, r, hW, hr, ha, BA, BR, HB⟩ := boxesI w g false s 0 p none l c 0 0
  have fr : ∀ o : Nat, o < 3 → W.frozen? ⟨r, o, none⟩ = false := by intro o ho; subst hW; subst hr; rcases (by omega : o = 0 ∨ o = 1 ∨ o = 2) with rfl | rfl | rfl <;> simp [go_sem]
  go_enter Tryd.func40, Tryd.ntmps40
  go_wp2_with fail
  rw [← hW, ← hr, ← ha]
  have har : a ≠ r := by omega
  have zw : w.heap.size ≤ r := by omega
  have hra : r ≠ a := by omega
  replace HB := Lib.hid HB
  refine (HP.out _ (H.out.mono HB.out)).mono ?_
  rintro e w1 ⟨s1, p1, l1, c1, rfl, i1, hb⟩
  have I1 := Lib.hid i1; have HB1 := Lib.hid hb
  obtain ⟨A0, A1, A2⟩ := BA; obtain ⟨R0, R1, R2⟩ := BR
  replace A0 := wcell hb A0
  have f0 := wfree hb R0 (fr 0 (by omega)); have f1 := wfree hb R1 (fr 1 (by omega)); have f2 := wfree hb R2 (fr 2 (by omega))
  clear fr
  replace R0 := wcell hb R0
  replace R1 := wcell hb R1
  replace R2 := wcell hb R2
  clear hW hr ha i1 A1 A2 HP H
  have za : a < w1.heap.size := World.block_lt_of_cell? _ _ A0
  have zr : r < w1.heap.size := World.block_lt_of_cell? _ _ R0
  have za1 : a < w1.heap.size + 1 := by omega
  have zr1 : r < w1.heap.size + 1 := by omega
  cases g with
  | false =>
    go_wp2_with fail
    refine (HF.out _ _ _ _ _ (I1.out.mono (below_alloc (Below.refl _ _) _))).mono ?_
    rintro e w2 ⟨g2, s2, p2, l2, c2, rfl, i2, hb2⟩
    have I2 := Lib.hid i2
    clear i2 HF HO I1
    have q0 : w2.cell? ⟨r, 0, none⟩ = some (.bool false) := wcell hb2 (by simpa [go_sem, zr] using R0)
    have q1 : w2.cell? ⟨r, 1, none⟩ = some (.int .u64 0) := wcell hb2 (by simpa [go_sem, zr] using R1)
    have q2 : w2.cell? ⟨r, 2, none⟩ = some (.slice none 0 0) := wcell hb2 (by simpa [go_sem, zr] using R2)
    have t0 : w2.frozen? ⟨r, 0, none⟩ = false := wfree hb2 (v := .bool false) (by simpa [go_sem, zr] using R0) (by simpa [go_sem, zr] using f0)
    have t1 : w2.frozen? ⟨r, 1, none⟩ = false := wfree hb2 (v := .int .u64 0) (by simpa [go_sem, zr] using R1) (by simpa [go_sem, zr] using f1)
    have t2 : w2.frozen? ⟨r, 2, none⟩ = false := wfree hb2 (v := .slice none 0 0) (by simpa [go_sem, zr] using R2) (by simpa [go_sem, zr] using f2)
    have HB2 := Lib.hid (below_step (below_alloc (below_step HB.out HB1.out) _) hb2)
    clear hb hb2 A0 R0 R1 R2 f0 f1 f2 HB HB1 za za1
    go_wp2
    exact bodyPost_ret (v := .tuple #[.agg #[.bool g2, .int .u64 s2, .slice p2 l2 c2], .bool true]) (by simp [results, Tryd.results40, go_sem, q0, q1, q2]) rfl ⟨_, _, _, _, _, rfl, ⟨I2.out.1, I2.out.2.ibox q0 q2⟩, below_iset HB2.out zw⟩
  | true =>
    go_wp2_with fail
    rw [HO.out]
    refine (HF.out _ _ _ _ _ (I1.out.mono (below_alloc (Below.refl _ _) _))).mono ?_
    rintro e w2 ⟨g2, s2, p2, l2, c2, rfl, i2, hb2⟩
    have I2 := Lib.hid i2
    clear i2 HF HO I1
    have q0 : w2.cell? ⟨r, 0, none⟩ = some (.bool false) := wcell hb2 (by simpa [go_sem, zr] using R0)
    have q1 : w2.cell? ⟨r, 1, none⟩ = some (.int .u64 0) := wcell hb2 (by simpa [go_sem, zr] using R1)
    have q2 : w2.cell? ⟨r, 2, none⟩ = some (.slice none 0 0) := wcell hb2 (by simpa [go_sem, zr] using R2)
    have t0 : w2.frozen? ⟨r, 0, none⟩ = false := wfree hb2 (v := .bool false) (by simpa [go_sem, zr] using R0) (by simpa [go_sem, zr] using f0)
    have t1 : w2.frozen? ⟨r, 1, none⟩ = false := wfree hb2 (v := .int .u64 0) (by simpa [go_sem, zr] using R1) (by simpa [go_sem, zr] using f1)
    have t2 : w2.frozen? ⟨r, 2, none⟩ = false := wfree hb2 (v := .slice none 0 0) (by simpa [go_sem, zr] using R2) (by simpa [go_sem, zr] using f2)
    have HB2 := Lib.hid (below_step (below_alloc (below_step HB.out HB1.out) _) hb2)
    clear hb hb2 A0 R0 R1 R2 f0 f1 f2 HB HB1 za za1
    go_wp2
    exact bodyPost_ret (v := .tuple #[.agg #[.bool g2, .int .u64 s2, .slice p2 l2 c2], .bool true]) (by simp [results, Tryd.results40, go_sem, q0, q1, q2]) rfl ⟨_, _, _, _, _, rfl, ⟨I2.out.1, I2.out.2.ibox q0 q2⟩, below_iset HB2.out zw⟩

set_option maxRecDepth 100000 in
set_option maxHeartbeats 4000000 in
theorem iPow_neg (x n : Int) (g : Bool) (s : Int) (p : Option Addr) (l c : Nat) (w : World) (hn : n < 0) (h : IsI w g s p l c x) :
    Calls Tryd.prog 40 #[.agg #[.bool g, .int .u64 s, .slice p l c], .int .i64 n] w (RetPI w 0 false) := by
  obtain ⟨hg, h⟩ := h
  have H := Lib.hid h
  have HP := Lib.hid (fun W => pow_neg n s p l c W hn)
  have z0 : ∀ b, sgn b 0 = 0 := fun b => by unfold sgn; cases b <;> rfl
  have HF := Lib.hid (fun b W a => z0 b ▸ iFrom_any b 0 0 none 0 0 W a)
  clear z0
  clear h hg
  obtain ⟨W, a, r, hW, hr, ha, BA, BR, HB⟩ := boxesI w g false s 0 p none l c 0 0
  have fr : ∀ o : Nat, o < 3 → W.frozen? ⟨r, o, none⟩ = false := by intro o ho; subst hW; subst hr; rcases (by omega : o = 0 ∨ o = 1 ∨ o = 2) with rfl | rfl | rfl <;> simp [go_sem]
  go_enter Tryd.func40, Tryd.ntmps40
  go_wp2_with fail
  rw [← hW, ← hr, ← ha]
  have har : a ≠ r := by omega
  have zw : w.heap.size ≤ r := by omega
  have hra : r ≠ a := by omega
  replace HB := Lib.hid HB
  refine (HP.out _).mono ?_
  rintro e w1 ⟨rfl, hb⟩
  have HB1 := Lib.hid hb
  obtain ⟨A0, A1, A2⟩ := BA; obtain ⟨R0, R1, R2⟩ := BR
  replace A0 := wcell hb A0
  have f0 := wfree hb R0 (fr 0 (by omega)); have f1 := wfree hb R1 (fr 1 (by omega)); have f2 := wfree hb R2 (fr 2 (by omega))
  clear fr
  replace R0 := wcell hb R0
  replace R1 := wcell hb R1
  replace R2 := wcell hb R2
  clear hW hr ha A1 A2 HP H
  have za : a < w1.heap.size := World.block_lt_of_cell? _ _ A0
  have zr : r < w1.heap.size := World.block_lt_of_cell? _ _ R0
  have za1 : a < w1.heap.size + 1 := by omega
  have zr1 : r < w1.heap.size + 1 := by omega
  cases g with
  | false =>
    go_wp2_with fail
    refine (HF.out _ _ (Or.inl ⟨by omega, rfl, rfl, rfl, rfl⟩)).mono ?_
    rintro e w2 ⟨g2, s2, p2, l2, c2, rfl, i2, hb2⟩
    have I2 := Lib.hid i2
    clear i2 HF
    have q0 : w2.cell? ⟨r, 0, none⟩ = some (.bool false) := wcell hb2 (by simpa [go_sem, zr] using R0)
    have q1 : w2.cell? ⟨r, 1, none⟩ = some (.int .u64 0) := wcell hb2 (by simpa [go_sem, zr] using R1)
    have q2 : w2.cell? ⟨r, 2, none⟩ = some (.slice none 0 0) := wcell hb2 (by simpa [go_sem, zr] using R2)
    have t0 : w2.frozen? ⟨r, 0, none⟩ = false := wfree hb2 (v := .bool false) (by simpa [go_sem, zr] using R0) (by simpa [go_sem, zr] using f0)
    have t1 : w2.frozen? ⟨r, 1, none⟩ = false := wfree hb2 (v := .int .u64 0) (by simpa [go_sem, zr] using R1) (by simpa [go_sem, zr] using f1)
    have t2 : w2.frozen? ⟨r, 2, none⟩ = false := wfree hb2 (v := .slice none 0 0) (by simpa [go_sem, zr] using R2) (by simpa [go_sem, zr] using f2)
    have HB2 := Lib.hid (below_step (below_alloc (below_step HB.out HB1.out) _) hb2)
    clear hb hb2 A0 R0 R1 R2 f0 f1 f2 HB HB1 za za1
    go_wp2
    exact bodyPost_ret (v := .tuple #[.agg #[.bool g2, .int .u64 s2, .slice p2 l2 c2], .bool false]) (by simp [results, Tryd.results40, go_sem, q0, q1, q2]) rfl ⟨_, _, _, _, _, rfl, ⟨I2.out.1, I2.out.2.ibox q0 q2⟩, below_iset HB2.out zw⟩
  | true =>
    go_wp2_with fail
    refine (HF.out _ _ (Or.inl ⟨by omega, rfl, rfl, rfl, rfl⟩)).mono ?_
    rintro e w2 ⟨g2, s2, p2, l2, c2, rfl, i2, hb2⟩
    have I2 := Lib.hid i2
    clear i2 HF
    have q0 : w2.cell? ⟨r, 0, none⟩ = some (.bool false) := wcell hb2 (by simpa [go_sem, zr] using R0)
    have q1 : w2.cell? ⟨r, 1, none⟩ = some (.int .u64 0) := wcell hb2 (by simpa [go_sem, zr] using R1)
    have q2 : w2.cell? ⟨r, 2, none⟩ = some (.slice none 0 0) := wcell hb2 (by simpa [go_sem, zr] using R2)
    have t0 : w2.frozen? ⟨r, 0, none⟩ = false := wfree hb2 (v := .bool false) (by simpa [go_sem, zr] using R0) (by simpa [go_sem, zr] using f0)
    have t1 : w2.frozen? ⟨r, 1, none⟩ = false := wfree hb2 (v := .int .u64 0) (by simpa [go_sem, zr] using R1) (by simpa [go_sem, zr] using f1)
    have t2 : w2.frozen? ⟨r, 2, none⟩ = false := wfree hb2 (v := .slice none 0 0) (by simpa [go_sem, zr] using R2) (by simpa [go_sem, zr] using f2)
    have HB2 := Lib.hid (below_step (below_alloc (below_step HB.out HB1.out) _) hb2)
    clear hb hb2 A0 R0 R1 R2 f0 f1 f2 HB HB1 za za1
    go_wp2
    exact bodyPost_ret (v := .tuple #[.agg #[.bool g2, .int .u64 s2, .slice p2 l2 c2], .bool false]) (by simp [results, Tryd.results40, go_sem, q0, q1, q2]) rfl ⟨_, _, _, _, _, rfl, ⟨I2.out.1, I2.out.2.ibox q0 q2⟩, below_iset HB2.out zw⟩
end Go.Proofs.YtadhmpkndnhebaaDoor

/- WholePowers: powers of one base multiply by adding their numbers; a power is a product repeated; a number below 0 is refused. -/
namespace Go.Proofs.YtadhmpkndnhebaaDoor
open Go.RowKit

theorem ds_nb12 (bs : List Nat) (hb : ∀ x ∈ bs, x < 256) : (ds (nb (bs.take 12))).length ≤ 2 := by
  refine ds_le (by omega) ?_
  have h1 := nb_lt (bs.take 12) 12 (fun x hx => hb x (List.mem_of_mem_take hx)) (by rw [List.length_take]; omega)
  refine Nat.lt_of_lt_of_le h1 ?_
  decide
theorem ds_pow_int (x : Int) (e : Nat) (h : (ds x.natAbs).length ≤ 2) : (ds (x ^ e).natAbs).length ≤ 2 * e + 1 := by
  rw [Int.natAbs_pow]; exact ds_pow_le _ _ _ h

theorem boxI1 (w : World) (g : Bool) (s : Int) (p : Option Addr) (l c : Nat) :
    ∃ W a, W = w.alloc (.cells #[.bool g, .int .u64 s, .slice p l c] 59) ∧ a = w.heap.size ∧ Box W a g s p l c ∧ Below w.heap.size w W := by
  refine ⟨_, _, rfl, rfl, ⟨?_, ?_, ?_⟩, below_alloc (Below.refl _ _) _⟩
  all_goals simp [go_sem]

theorem boxI2 (w : World) (g : Bool) (s : Int) (p : Option Addr) (l c : Nat) :
    ∃ W a, W = w.alloc (.cells #[.bool g, .int .u64 s, .slice p l c] 59) ∧ a = w.heap.size ∧ Box W a g s p l c ∧ Below w.heap.size w W ∧ W.frozen? ⟨a, 0, none⟩ = false ∧ W.frozen? ⟨a, 1, none⟩ = false ∧ W.frozen? ⟨a, 2, none⟩ = false := by
  refine ⟨_, _, rfl, rfl, ⟨?_, ?_, ?_⟩, below_alloc (Below.refl _ _) _, ?_, ?_, ?_⟩
  all_goals simp [go_sem]
theorem IsI.iset {w : World} {g g' : Bool} {s : Int} {p p' q : Option Addr} {l c l' c' k d r : Nat} {x : Bool} {v : Value} {z : Int} (h : IsI w g s p l c z) (h0 : w.cell? ⟨r, 0, none⟩ = some (.bool x)) (h2 : w.cell? ⟨r, 2, none⟩ = some (.slice q k d)) :
    IsI (((w.setCell ⟨r, 0, none⟩ (.bool g')).setCell ⟨r, 1, none⟩ v).setCell ⟨r, 2, none⟩ (.slice p' l' c')) g s p l c z := ⟨h.1, h.2.ibox h0 h2⟩
theorem Box.iset {w : World} {a r : Nat} {g : Bool} {s : Int} {p : Option Addr} {l c : Nat} {u v y : Value} (h : Box w a g s p l c) (hn : a ≠ r) : Box (((w.setCell ⟨r, 0, none⟩ u).setCell ⟨r, 1, none⟩ v).setCell ⟨r, 2, none⟩ y) a g s p l c :=
  ⟨rset_other h.1 hn, rset_other h.2.1 hn, rset_other h.2.2 hn⟩

set_option maxRecDepth 100000 in
set_option maxHeartbeats 8000000 in
theorem wpow_any (p : Option Addr) (l c : Nat) (f : Bool) (n m : Int) (xs : List Nat) (w : World) (hn1 : -9223372036854775808 ≤ n) (hn2 : n ≤ 9223372036854775807) (hm1 : -9223372036854775808 ≤ m) (hm2 : m ≤ 9223372036854775807) (h1 : IsB w p l c xs) :
    Calls Tryd.prog 7 #[.slice p l c, .bool f, .int .i64 n, .int .i64 m] w fun e w' => e = .returned (.bool true) ∧ Below w.heap.size w w' := by
  have hby : ∀ x ∈ xs.take 12, x < 256 := fun x hx => h1.2.1 x (List.mem_of_mem_take hx)
  have hln : (xs.take 12).length ≤ 40 := by rw [List.length_take]; omega
  have sx : (ds (sgn f (nb (xs.take 12))).natAbs).length ≤ 2 := by rw [sgn_abs]; exact ds_nb12 xs h1.2.1
  have F1 := Lib.hid (fun w => few_any p l c 12 xs w (by omega))
  have T1 := Lib.hid (fun b off cc W a => two2_any (some ⟨b, off, none⟩) none (xs.take 12).length cc 0 0 (xs.take 12) [] f false W a ⟨rfl, by simp, Or.inl ⟨rfl, rfl, rfl⟩⟩)
  rw [List.take_of_length_le hln] at T1
  generalize sgn f (nb (xs.take 12)) = x at *
  have H1 := Lib.hid h1
  generalize xs.take 12 = B at *
  have HBY := Lib.hid hby
  have P1 := Lib.hid (fun W => pick_any n 8 W hn1 hn2 (by omega) (by omega))
  have P2 := Lib.hid (fun W => pick_any m 8 W hm1 hm2 (by omega) (by omega))
  obtain ⟨a, ha⟩ : ∃ a : Nat, (a : Int) = n % ((8 : Nat) : Int) := ⟨(n % ((8 : Nat) : Int)).toNat, by omega⟩
  obtain ⟨b, hb⟩ : ∃ b : Nat, (b : Int) = m % ((8 : Nat) : Int) := ⟨(m % ((8 : Nat) : Int)).toNat, by omega⟩
  have a1 : a < 8 := by omega
  have b1 : b < 8 := by omega
  rw [← ha] at P1
  rw [← hb] at P2
  clear h1 hby ha hb hn1 hn2 hm1 hm2 hln
  go_enter Tryd.func7, Tryd.ntmps7
  go_wp2_with fail
  refine (F1.out _ H1.out).mono ?_
  rintro e w1 ⟨b0, o0, c0, rfl, hc, -, hat, -, hB⟩
  have T2 := Lib.hid (T1.out b0 o0 c0 w1 ⟨rfl, HBY.out, Or.inr ⟨b0, o0, none, rfl, hc, fun i hi => by have := hat i hi; cases i with | zero => simpa [Addr.add] using this | succ i => simpa [Addr.add] using this⟩⟩)
  have HB := Lib.hid hB
  clear hat hB hc T1 F1 H1 HBY
  go_wp2_with fail
  refine T2.out.mono ?_
  rintro e w2 ⟨g1, s1, p1, l1, c1, g2, s2, p2, l2, c2, g3, p3, l3, c3, g4, p4, l4, c4, rfl, i1, -, -, -, hb⟩
  have I1 := Lib.hid i1
  replace HB := Lib.hid (below_step HB.out hb)
  clear i1 hb T2
  obtain ⟨V, r1, -, hV, -, hr1, BA, -, hb⟩ := boxesF w2 g1 g2 g3 g4 s1 s2 p1 p2 p3 p4 l1 c1 l2 c2 l3 c3 l4 c4
  replace BA := Lib.hid BA
  go_wp2_with fail
  rw [← hV, ← hr1]
  replace I1 := Lib.hid (I1.out.mono hb); replace HB := Lib.hid (below_step HB.out hb)
  clear hV hr1 hb
  refine (P1.out _).mono ?_
  rintro e w3 ⟨rfl, rfl⟩
  go_wp2_with fail
  refine (P2.out _).mono ?_
  rintro e w4 ⟨rfl, rfl⟩
  have eab : ((a + b : Nat) : Int) = (a : Int) + (b : Int) := by omega
  have wab : IntKind.i64.wrap ((a : Int) + (b : Int)) = (a : Int) + (b : Int) := by rw [IntKind.wrap_i64]; omega
  have wn : IntKind.i64.wrap (-1 - (a : Int)) = -1 - (a : Int) := by rw [IntKind.wrap_i64]; omega
  have ma : (ds x.natAbs).length * a ≤ 2 * 14 := Nat.mul_le_mul sx (by omega)
  have mb : (ds x.natAbs).length * b ≤ 2 * 14 := Nat.mul_le_mul sx (by omega)
  have mab : (ds x.natAbs).length * (a + b) ≤ 2 * 14 := Nat.mul_le_mul sx (by omega)
  have CP := Lib.hid (fun W I => iPow_any x a g1 s1 p1 l1 c1 W (by omega) (by omega) (by omega) I)
  have CQ := Lib.hid (fun W I => iPow_any x b g1 s1 p1 l1 c1 W (by omega) (by omega) (by omega) I)
  have CR := Lib.hid (fun W I => iPow_any x (a + b) g1 s1 p1 l1 c1 W (by omega) (by omega) (by omega) I)
  have CE := Lib.hid (fun W I => iPow_neg x (-1 - (a : Int)) g1 s1 p1 l1 c1 W (by omega) I)
  rw [eab] at CR
  clear eab ma mb mab
  obtain ⟨y00, y01, y02⟩ := BA.out; have z0 := BA.out.lt
  go_wp2_with fail
  clear y00 y01 y02 z0
  refine (CP.out _ I1.out).mono ?_
  rintro e wp ⟨gp, sp, pp, lp, cp, rfl, ip, hb⟩
  replace I1 := Lib.hid (I1.out.mono hb)
  replace BA := Lib.hid (BA.out.mono hb)
  replace HB := Lib.hid (below_step HB.out hb)
  have IP := Lib.hid ip
  clear ip hb CP
  obtain ⟨y00, y01, y02⟩ := BA.out; have z0 := BA.out.lt
  obtain ⟨Vp, rp, hV, hr, BP, hb⟩ := boxI1 wp gp sp pp lp cp
  go_wp2_with fail
  rw [← hV, ← hr]
  have hlp : r1 < rp := by omega
  clear y00 y01 y02 z0
  replace I1 := Lib.hid (I1.out.mono hb)
  replace IP := Lib.hid (IP.out.mono hb)
  replace BA := Lib.hid (BA.out.mono hb)
  replace HB := Lib.hid (below_step HB.out hb)
  replace BP := Lib.hid BP
  clear hV hr hb
  obtain ⟨y00, y01, y02⟩ := BA.out; have z0 := BA.out.lt
  obtain ⟨y10, y11, y12⟩ := BP.out; have z1 := BP.out.lt
  clear y00 y01 y02 z0 y10 y11 y12 z1
  refine (CQ.out _ I1.out).mono ?_
  rintro e wq ⟨gq, sq, pq, lq, cq, rfl, iq, hb⟩
  replace I1 := Lib.hid (I1.out.mono hb)
  replace IP := Lib.hid (IP.out.mono hb)
  replace BA := Lib.hid (BA.out.mono hb)
  replace BP := Lib.hid (BP.out.mono hb)
  replace HB := Lib.hid (below_step HB.out hb)
  have IQ := Lib.hid iq
  clear iq hb CQ
  obtain ⟨y00, y01, y02⟩ := BA.out; have z0 := BA.out.lt
  obtain ⟨y10, y11, y12⟩ := BP.out; have z1 := BP.out.lt
  obtain ⟨Vq, rq, hV, hr, BQ, hb⟩ := boxI1 wq gq sq pq lq cq
  go_wp2_with fail
  rw [← hV, ← hr]
  have hlq : r1 < rq := by omega
  have hlpq : rp < rq := by omega
  clear y00 y01 y02 z0 y10 y11 y12 z1
  replace I1 := Lib.hid (I1.out.mono hb)
  replace IP := Lib.hid (IP.out.mono hb)
  replace IQ := Lib.hid (IQ.out.mono hb)
  replace BA := Lib.hid (BA.out.mono hb)
  replace BP := Lib.hid (BP.out.mono hb)
  replace HB := Lib.hid (below_step HB.out hb)
  replace BQ := Lib.hid BQ
  clear hV hr hb
  obtain ⟨y00, y01, y02⟩ := BA.out; have z0 := BA.out.lt
  obtain ⟨y10, y11, y12⟩ := BP.out; have z1 := BP.out.lt
  obtain ⟨y20, y21, y22⟩ := BQ.out; have z2 := BQ.out.lt
  clear y00 y01 y02 z0 y10 y11 y12 z1 y20 y21 y22 z2
  refine (CR.out _ I1.out).mono ?_
  rintro e wr ⟨gr, sr, pr, lr, cr, rfl, ir, hb⟩
  replace I1 := Lib.hid (I1.out.mono hb)
  replace IP := Lib.hid (IP.out.mono hb)
  replace IQ := Lib.hid (IQ.out.mono hb)
  replace BA := Lib.hid (BA.out.mono hb)
  replace BP := Lib.hid (BP.out.mono hb)
  replace BQ := Lib.hid (BQ.out.mono hb)
  replace HB := Lib.hid (below_step HB.out hb)
  have IR := Lib.hid ir
  clear ir hb CR
  obtain ⟨y00, y01, y02⟩ := BA.out; have z0 := BA.out.lt
  obtain ⟨y10, y11, y12⟩ := BP.out; have z1 := BP.out.lt
  obtain ⟨y20, y21, y22⟩ := BQ.out; have z2 := BQ.out.lt
  obtain ⟨Vr, rr, hV, hr, BR, hb⟩ := boxI1 wr gr sr pr lr cr
  go_wp2_with fail
  rw [← hV, ← hr]
  have hlr : r1 < rr := by omega
  have hlpr : rp < rr := by omega
  have hlqr : rq < rr := by omega
  clear y00 y01 y02 z0 y10 y11 y12 z1 y20 y21 y22 z2
  replace I1 := Lib.hid (I1.out.mono hb)
  replace IP := Lib.hid (IP.out.mono hb)
  replace IQ := Lib.hid (IQ.out.mono hb)
  replace IR := Lib.hid (IR.out.mono hb)
  replace BA := Lib.hid (BA.out.mono hb)
  replace BP := Lib.hid (BP.out.mono hb)
  replace BQ := Lib.hid (BQ.out.mono hb)
  replace HB := Lib.hid (below_step HB.out hb)
  replace BR := Lib.hid BR
  clear hV hr hb
  obtain ⟨y00, y01, y02⟩ := BA.out; have z0 := BA.out.lt
  obtain ⟨y10, y11, y12⟩ := BP.out; have z1 := BP.out.lt
  obtain ⟨y20, y21, y22⟩ := BQ.out; have z2 := BQ.out.lt
  obtain ⟨y30, y31, y32⟩ := BR.out; have z3 := BR.out.lt
  clear y00 y01 y02 z0 y10 y11 y12 z1 y20 y21 y22 z2 y30 y31 y32 z3
  refine (CE.out _ I1.out).mono ?_
  rintro e we ⟨ge, se, pe, le, ce, rfl, ie, hb⟩
  replace I1 := Lib.hid (I1.out.mono hb)
  replace IP := Lib.hid (IP.out.mono hb)
  replace IQ := Lib.hid (IQ.out.mono hb)
  replace IR := Lib.hid (IR.out.mono hb)
  replace BA := Lib.hid (BA.out.mono hb)
  replace BP := Lib.hid (BP.out.mono hb)
  replace BQ := Lib.hid (BQ.out.mono hb)
  replace BR := Lib.hid (BR.out.mono hb)
  replace HB := Lib.hid (below_step HB.out hb)
  have IE := Lib.hid ie
  clear ie hb CE
  obtain ⟨y00, y01, y02⟩ := BA.out; have z0 := BA.out.lt
  obtain ⟨y10, y11, y12⟩ := BP.out; have z1 := BP.out.lt
  obtain ⟨y20, y21, y22⟩ := BQ.out; have z2 := BQ.out.lt
  obtain ⟨y30, y31, y32⟩ := BR.out; have z3 := BR.out.lt
  obtain ⟨Ve, re, hV, hr, BE, hb⟩ := boxI1 we ge se pe le ce
  go_wp2_with fail
  rw [← hV, ← hr]
  have hle : r1 < re := by omega
  have hlpe : rp < re := by omega
  have hlqe : rq < re := by omega
  have hlre : rr < re := by omega
  clear y00 y01 y02 z0 y10 y11 y12 z1 y20 y21 y22 z2 y30 y31 y32 z3
  replace I1 := Lib.hid (I1.out.mono hb)
  replace IP := Lib.hid (IP.out.mono hb)
  replace IQ := Lib.hid (IQ.out.mono hb)
  replace IR := Lib.hid (IR.out.mono hb)
  replace IE := Lib.hid (IE.out.mono hb)
  replace BA := Lib.hid (BA.out.mono hb)
  replace BP := Lib.hid (BP.out.mono hb)
  replace BQ := Lib.hid (BQ.out.mono hb)
  replace BR := Lib.hid (BR.out.mono hb)
  replace HB := Lib.hid (below_step HB.out hb)
  replace BE := Lib.hid BE
  clear hV hr hb
  obtain ⟨y00, y01, y02⟩ := BA.out; have z0 := BA.out.lt
  obtain ⟨y10, y11, y12⟩ := BP.out; have z1 := BP.out.lt
  obtain ⟨y20, y21, y22⟩ := BQ.out; have z2 := BQ.out.lt
  obtain ⟨y30, y31, y32⟩ := BR.out; have z3 := BR.out.lt
  obtain ⟨y40, y41, y42⟩ := BE.out; have z4 := BE.out.lt
  clear y00 y01 y02 z0 y10 y11 y12 z1 y20 y21 y22 z2 y30 y31 y32 z3 y40 y41 y42 z4
  refine (iOf_any 1 _ (by omega) (by omega)).mono ?_
  rintro e wk ⟨gk, sk, pk, lk, ck, rfl, ik, hb⟩
  replace I1 := Lib.hid (I1.out.mono hb)
  replace IP := Lib.hid (IP.out.mono hb)
  replace IQ := Lib.hid (IQ.out.mono hb)
  replace IR := Lib.hid (IR.out.mono hb)
  replace IE := Lib.hid (IE.out.mono hb)
  replace BA := Lib.hid (BA.out.mono hb)
  replace BP := Lib.hid (BP.out.mono hb)
  replace BQ := Lib.hid (BQ.out.mono hb)
  replace BR := Lib.hid (BR.out.mono hb)
  replace BE := Lib.hid (BE.out.mono hb)
  replace HB := Lib.hid (below_step HB.out hb)
  have IK := Lib.hid ik
  clear ik hb wab wn IE BE
  obtain ⟨y00, y01, y02⟩ := BA.out; have z0 := BA.out.lt
  obtain ⟨y10, y11, y12⟩ := BP.out; have z1 := BP.out.lt
  obtain ⟨y20, y21, y22⟩ := BQ.out; have z2 := BQ.out.lt
  obtain ⟨y30, y31, y32⟩ := BR.out; have z3 := BR.out.lt
  obtain ⟨Vk, rk, hV, hr, BK, hb, f0, f1, f2⟩ := boxI2 wk gk sk pk lk ck
  go_wp2_with fail
  rw [← hV, ← hr]
  have n1 : r1 ≠ rk := by omega
  have np : rp ≠ rk := by omega
  have nq : rq ≠ rk := by omega
  have nr : rr ≠ rk := by omega
  have hrw : w.heap.size ≤ rk := by have := HB.out.size; omega
  clear y00 y01 y02 z0 y10 y11 y12 z1 y20 y21 y22 z2 y30 y31 y32 z3
  replace I1 := Lib.hid (I1.out.mono hb)
  replace IP := Lib.hid (IP.out.mono hb)
  replace IQ := Lib.hid (IQ.out.mono hb)
  replace IR := Lib.hid (IR.out.mono hb)
  replace IK := Lib.hid (IK.out.mono hb)
  replace BA := Lib.hid (BA.out.mono hb)
  replace BP := Lib.hid (BP.out.mono hb)
  replace BQ := Lib.hid (BQ.out.mono hb)
  replace BR := Lib.hid (BR.out.mono hb)
  replace HB := Lib.hid (below_step HB.out hb)
  replace BK := Lib.hid BK
  have HRW := Lib.hid hrw
  clear hV hr hb hrw
  go_loopw [22] (fun i wr => ∃ (k : Nat) (g' : Bool) (s' : Int) (p' : Option Addr) (l' c' : Nat), i = .int .i64 (k : Int) ∧ k ≤ a ∧ IsI wr g' s' p' l' c' (x ^ k) ∧ Box wr rk g' s' p' l' c' ∧ wr.frozen? ⟨rk, 0, none⟩ = false ∧ wr.frozen? ⟨rk, 1, none⟩ = false ∧ wr.frozen? ⟨rk, 2, none⟩ = false ∧ IsI wr g1 s1 p1 l1 c1 x ∧ IsI wr gp sp pp lp cp (x ^ a) ∧ IsI wr gq sq pq lq cq (x ^ b) ∧ IsI wr gr sr pr lr cr (x ^ (a + b)) ∧ Box wr r1 g1 s1 p1 l1 c1 ∧ Box wr rp gp sp pp lp cp ∧ Box wr rq gq sq pq lq cq ∧ Box wr rr gr sr pr lr cr ∧ Below w.heap.size w wr) (fun i _ => ((a : Int) - intOf i).toNat)
  case atStart => exact ⟨0, _, _, _, _, _, rfl, Nat.zero_le _, by rw [Int.pow_zero]; exact IK.out, BK.out, f0, f1, f2, I1.out, IP.out, IQ.out, IR.out, BA.out, BP.out, BQ.out, BR.out, HB.out⟩
  case round =>
    clear f0 f1 f2 IK BK HB I1 IP IQ IR BA BP BQ BR
    obtain ⟨k, g', s', p', l', c', rfl, hk, iK, bK, f0, f1, f2, i1, iP, iQ, iR, bA, bP, bQ, bR, hB⟩ := hrel
    have I1 := Lib.hid i1
    have IP := Lib.hid iP
    have IQ := Lib.hid iQ
    have IR := Lib.hid iR
    have BA := Lib.hid bA
    have BP := Lib.hid bP
    have BQ := Lib.hid bQ
    have BR := Lib.hid bR
    have IK := Lib.hid iK
    have BK := Lib.hid bK
    have HB := Lib.hid hB
    clear hB i1 iP iQ iR bA bP bQ bR iK bK
    rcases Nat.lt_or_ge k a with hka | hka
    · have hlt : (k : Int) < (a : Int) := by omega
      have wk1 : IntKind.i64.wrap ((k : Int) + 1) = (k : Int) + 1 := by rw [IntKind.wrap_i64]; omega
      have sk1 := ds_pow_int x k sx
      have CM := Lib.hid (iMul_any (x ^ k) x g' g1 s' s1 p' p1 l' c' l1 c1 wr (by omega) (by omega) (Or.inl (by omega)) IK.out I1.out)
      rw [← Int.pow_succ] at CM
      clear sk1
      obtain ⟨y00, y01, y02⟩ := BA.out; obtain ⟨y10, y11, y12⟩ := BK.out; have z0 := BA.out.lt; have z1 := BK.out.lt
      go_wp2_with fail
      refine CM.out.mono ?_
      rintro e w6 ⟨g6, s6, p6, l6, c6, rfl, i6, hb⟩
      clear y00 y01 y02 z0 z1
      replace y10 := wcell hb y10; replace y11 := wcell hb y11; replace y12 := wcell hb y12
      replace f0 := wfree hb BK.out.1 f0; replace f1 := wfree hb BK.out.2.1 f1; replace f2 := wfree hb BK.out.2.2 f2
      replace I1 := Lib.hid ((I1.out.mono hb).iset (g' := g6) (v := .int .u64 s6) (p' := p6) (l' := l6) (c' := c6) y10 y12)
      replace IP := Lib.hid ((IP.out.mono hb).iset (g' := g6) (v := .int .u64 s6) (p' := p6) (l' := l6) (c' := c6) y10 y12)
      replace IQ := Lib.hid ((IQ.out.mono hb).iset (g' := g6) (v := .int .u64 s6) (p' := p6) (l' := l6) (c' := c6) y10 y12)
      replace IR := Lib.hid ((IR.out.mono hb).iset (g' := g6) (v := .int .u64 s6) (p' := p6) (l' := l6) (c' := c6) y10 y12)
      replace BA := Lib.hid ((BA.out.mono hb).iset (u := .bool g6) (v := .int .u64 s6) (y := .slice p6 l6 c6) n1)
      replace BP := Lib.hid ((BP.out.mono hb).iset (u := .bool g6) (v := .int .u64 s6) (y := .slice p6 l6 c6) np)
      replace BQ := Lib.hid ((BQ.out.mono hb).iset (u := .bool g6) (v := .int .u64 s6) (y := .slice p6 l6 c6) nq)
      replace BR := Lib.hid ((BR.out.mono hb).iset (u := .bool g6) (v := .int .u64 s6) (y := .slice p6 l6 c6) nr)
      have I6 := Lib.hid (i6.iset (g' := g6) (v := .int .u64 s6) (p' := p6) (l' := l6) (c' := c6) y10 y12)
      replace HB := Lib.hid (below_iset (u := .bool g6) (v := .int .u64 s6) (y := .slice p6 l6 c6) (below_step HB.out hb) HRW.out)
      clear hb i6 CM IK BK
      have B6 := Lib.hid (show Box (((w6.setCell ⟨rk, 0, none⟩ (.bool g6)).setCell ⟨rk, 1, none⟩ (.int .u64 s6)).setCell ⟨rk, 2, none⟩ (.slice p6 l6 c6)) rk g6 s6 p6 l6 c6 from ⟨by simp [go_sem, y10], by simp [go_sem, y11], by simp [go_sem, y12]⟩)
      go_wp2
      go_roundw
      case rel => exact ⟨k + 1, g6, s6, p6, l6, c6, by go_num, by omega, I6.out, B6.out, by simp only [World.frozen?_setCell]; exact f0, by simp only [World.frozen?_setCell]; exact f1, by simp only [World.frozen?_setCell]; exact f2, I1.out, IP.out, IQ.out, IR.out, BA.out, BP.out, BQ.out, BR.out, HB.out⟩
      case measure => simp [intOf]; omega
    · obtain rfl : k = a := by omega
      have hlt : ¬ (k : Int) < (k : Int) := by omega
      go_wp2
      have := ds_pow_int x k sx; have := ds_pow_int x b sx; have := ds_pow_int x (k + b) sx
      have := ds_natAbs_mul (x ^ k) (x ^ b)
      refine region_told (T := [0, 1, 2, 3, 4, 5, 6, 7, 8, 9, 10, 11, 12, 13, 14, 15, 16, 17, 18, 19, 20, 21, 22, 23, 24, 25, 26, 27, 28]) (slots := [72, 73, 74, 75, 76, 77, 78, 79, 80, 81, 82, 83, 84, 85, 86, 87, 88, 89, 90, 91, 92, 93, 94, 95, 96, 97, 98, 99, 8])
          (tab := [.is (.bool true), .is (.bool true), .is (.bool true), .is (.bool true), .is (.bool true), .is (.bool true), .is (.bool true), .is (.bool true), .is (.bool true), .is (.bool true), .is (.bool true), .is (.bool false), .is (.bool true), .is (.bool true), .is (.bool true), .int (x ^ k), .int (x ^ b), .int ((x ^ k) * (x ^ b)), .int (x ^ (k + b)), .is (.int .i64 0), .is (.bool true), .is (.bool true), .is (.bool true), .int (x ^ k), .int (x ^ k), .is (.int .i64 0), .is (.bool true), .is (.bool true), .is (.bool true)])
          (D := [])
          (F := [(.agg #[.bool gp, .int .u64 sp, .slice pp lp cp], .int (x ^ k)), (.agg #[.bool gq, .int .u64 sq, .slice pq lq cq], .int (x ^ b)), (.agg #[.bool gr, .int .u64 sr, .slice pr lr cr], .int (x ^ (k + b))), (.agg #[.bool g', .int .u64 s', .slice p' l' c'], .int (x ^ k))])
          (by kernel_rfl) (by kernel_rfl) (by kernel_rfl) (by kernel_rfl) (by kernel_rfl) (by kernel_rfl) (by kernel_rfl) ?_ ?_ ?_ ?_ ?_
      · exact List.Pairwise.nil
      · intro f hf; simp only [List.mem_cons, List.not_mem_nil, or_false] at hf; rcases hf with rfl | rfl | rfl | rfl
        · exact ⟨_, _, _, _, _, rfl, IP.out⟩
        · exact ⟨_, _, _, _, _, rfl, IQ.out⟩
        · exact ⟨_, _, _, _, _, rfl, IR.out⟩
        · exact ⟨_, _, _, _, _, rfl, IK.out⟩
      · intro x hx; cases hx
      · skip
        refine AllTold.cons rfl (fun β E W hA hF hc hf hE hV hP hB hS => Or.inl ⟨rfl, (by kernel_rfl), ?_⟩) ?_
        · clear hE hV hP hB hS
          exact ev_call0 (hf _) run_known2 ((known2_any W).mono fun e w' ⟨h1, h2⟩ => ⟨_, h1, rfl, h2⟩)
        refine AllTold.cons rfl (fun β E W hA hF hc hf hE hV hP hB hS => Or.inl ⟨rfl, (by kernel_rfl), ?_⟩) ?_
        · have e1 : E (.tmp 72) = (.bool true) := hV 0 72 (by kernel_rfl) rfl
          clear hE hV hP hB hS
          exact ev_move _ e1
        refine AllTold.cons rfl (fun β E W hA hF hc hf hE hV hP hB hS => Or.inl ⟨wanted_of (d := 73) (b := true) rfl (by kernel_rfl) (hV 1 73 (by kernel_rfl) rfl), (by kernel_rfl), ?_⟩) ?_
        · have e1 : E (.tmp 14) = .bool true := hE 14 (by kernel_rfl)
          clear hE hV hP hB hS
          exact ev_move _ e1
        refine AllTold.cons rfl (fun β E W hA hF hc hf hE hV hP hB hS => Or.inl ⟨rfl, (by kernel_rfl), ?_⟩) ?_
        · have e1 : E (.tmp 73) = (.bool true) := hV 1 73 (by kernel_rfl) rfl
          have e2 : E (.tmp 74) = (.bool true) := hV 2 74 (by kernel_rfl) rfl
          clear hE hV hP hB hS
          exact ev_pick e1 e2
        refine AllTold.cons rfl (fun β E W hA hF hc hf hE hV hP hB hS => Or.inl ⟨rfl, (by kernel_rfl), ?_⟩) ?_
        · have e1 : E (.tmp 75) = (.bool true) := hV 3 75 (by kernel_rfl) rfl
          clear hE hV hP hB hS
          exact ev_move _ e1
        refine AllTold.cons rfl (fun β E W hA hF hc hf hE hV hP hB hS => Or.inl ⟨wanted_of (d := 76) (b := true) rfl (by kernel_rfl) (hV 4 76 (by kernel_rfl) rfl), (by kernel_rfl), ?_⟩) ?_
        · have e1 : E (.tmp 16) = .bool true := hE 16 (by kernel_rfl)
          clear hE hV hP hB hS
          exact ev_move _ e1
        refine AllTold.cons rfl (fun β E W hA hF hc hf hE hV hP hB hS => Or.inl ⟨rfl, (by kernel_rfl), ?_⟩) ?_
        · have e1 : E (.tmp 76) = (.bool true) := hV 4 76 (by kernel_rfl) rfl
          have e2 : E (.tmp 77) = (.bool true) := hV 5 77 (by kernel_rfl) rfl
          clear hE hV hP hB hS
          exact ev_pick e1 e2
        refine AllTold.cons rfl (fun β E W hA hF hc hf hE hV hP hB hS => Or.inl ⟨rfl, (by kernel_rfl), ?_⟩) ?_
        · have e1 : E (.tmp 78) = (.bool true) := hV 6 78 (by kernel_rfl) rfl
          clear hE hV hP hB hS
          exact ev_move _ e1
        refine AllTold.cons rfl (fun β E W hA hF hc hf hE hV hP hB hS => Or.inl ⟨wanted_of (d := 79) (b := true) rfl (by kernel_rfl) (hV 7 79 (by kernel_rfl) rfl), (by kernel_rfl), ?_⟩) ?_
        · have e1 : E (.tmp 18) = .bool true := hE 18 (by kernel_rfl)
          clear hE hV hP hB hS
          exact ev_move _ e1
        refine AllTold.cons rfl (fun β E W hA hF hc hf hE hV hP hB hS => Or.inl ⟨rfl, (by kernel_rfl), ?_⟩) ?_
        · have e1 : E (.tmp 79) = (.bool true) := hV 7 79 (by kernel_rfl) rfl
          have e2 : E (.tmp 80) = (.bool true) := hV 8 80 (by kernel_rfl) rfl
          clear hE hV hP hB hS
          exact ev_pick e1 e2
        refine AllTold.cons rfl (fun β E W hA hF hc hf hE hV hP hB hS => Or.inl ⟨rfl, (by kernel_rfl), ?_⟩) ?_
        · have e1 : E (.tmp 81) = (.bool true) := hV 9 81 (by kernel_rfl) rfl
          clear hE hV hP hB hS
          exact ev_move _ e1
        refine AllTold.cons rfl (fun β E W hA hF hc hf hE hV hP hB hS => Or.inl ⟨wanted_of (d := 82) (b := true) rfl (by kernel_rfl) (hV 10 82 (by kernel_rfl) rfl), (by kernel_rfl), ?_⟩) ?_
        · have e1 : E (.tmp 20) = .bool false := hE 20 (by kernel_rfl)
          clear hE hV hP hB hS
          exact ev_move _ e1
        refine AllTold.cons rfl (fun β E W hA hF hc hf hE hV hP hB hS => Or.inl ⟨wanted_of (d := 82) (b := true) rfl (by kernel_rfl) (hV 10 82 (by kernel_rfl) rfl), (by kernel_rfl), ?_⟩) ?_
        · have e1 : E (.tmp 83) = (.bool false) := hV 11 83 (by kernel_rfl) rfl
          clear hE hV hP hB hS
          exact ev_not e1 rfl
        refine AllTold.cons rfl (fun β E W hA hF hc hf hE hV hP hB hS => Or.inl ⟨rfl, (by kernel_rfl), ?_⟩) ?_
        · have e1 : E (.tmp 82) = (.bool true) := hV 10 82 (by kernel_rfl) rfl
          have e2 : E (.tmp 84) = (.bool true) := hV 12 84 (by kernel_rfl) rfl
          clear hE hV hP hB hS
          exact ev_pick e1 e2
        refine AllTold.cons rfl (fun β E W hA hF hc hf hE hV hP hB hS => Or.inl ⟨rfl, (by kernel_rfl), ?_⟩) ?_
        · have e1 : E (.tmp 85) = (.bool true) := hV 13 85 (by kernel_rfl) rfl
          clear hE hV hP hB hS
          exact ev_move _ e1
        refine AllTold.cons rfl (fun β E W hA hF hc hf hE hV hP hB hS => Or.inl ⟨wanted_of (d := 86) (b := true) rfl (by kernel_rfl) (hV 14 86 (by kernel_rfl) rfl), (by kernel_rfl), ?_⟩) ?_
        · have e1 : E (.tmp 13) = .pointer (some ⟨rp, 0, none⟩) := hE 13 (by kernel_rfl)
          have q0 := hA.cell BP.out.1 (by intro h; cases h)
          have q1 := hA.cell BP.out.2.1 (by intro h; cases h)
          have q2 := hA.cell BP.out.2.2 (by intro h; cases h)
          clear hE hV hP hB hS
          exact ev_loadI e1 q0 q1 q2 (hF (_, _) (List.mem_cons_self ..))
        refine AllTold.cons rfl (fun β E W hA hF hc hf hE hV hP hB hS => Or.inl ⟨wanted_of (d := 86) (b := true) rfl (by kernel_rfl) (hV 14 86 (by kernel_rfl) rfl), (by kernel_rfl), ?_⟩) ?_
        · have e1 : E (.tmp 15) = .pointer (some ⟨rq, 0, none⟩) := hE 15 (by kernel_rfl)
          have q0 := hA.cell BQ.out.1 (by intro h; cases h)
          have q1 := hA.cell BQ.out.2.1 (by intro h; cases h)
          have q2 := hA.cell BQ.out.2.2 (by intro h; cases h)
          clear hE hV hP hB hS
          exact ev_loadI e1 q0 q1 q2 (hF (_, _) (List.mem_cons_of_mem _ (List.mem_cons_self ..)))
        refine AllTold.cons rfl (fun β E W hA hF hc hf hE hV hP hB hS => Or.inl ⟨wanted_of (d := 86) (b := true) rfl (by kernel_rfl) (hV 14 86 (by kernel_rfl) rfl), (by kernel_rfl), ?_⟩) ?_
        · have e1 : Means W (.int (x ^ k)) (E (.tmp 87)) := hV 15 87 (by kernel_rfl) rfl
          have e2 : Means W (.int (x ^ b)) (E (.tmp 88)) := hV 16 88 (by kernel_rfl) rfl
          clear hE hV hP hB hS
          exact ev_call2 (hf _) run_iMul ((iMul_want W _ _ (x ^ k) (x ^ b) (by omega) (by omega) e1 e2).mono fun e w' ⟨v, h1, h2, h3⟩ => ⟨v, h1, h2, h3⟩)
        refine AllTold.cons rfl (fun β E W hA hF hc hf hE hV hP hB hS => Or.inl ⟨wanted_of (d := 86) (b := true) rfl (by kernel_rfl) (hV 14 86 (by kernel_rfl) rfl), (by kernel_rfl), ?_⟩) ?_
        · have e1 : E (.tmp 17) = .pointer (some ⟨rr, 0, none⟩) := hE 17 (by kernel_rfl)
          have q0 := hA.cell BR.out.1 (by intro h; cases h)
          have q1 := hA.cell BR.out.2.1 (by intro h; cases h)
          have q2 := hA.cell BR.out.2.2 (by intro h; cases h)
          clear hE hV hP hB hS
          exact ev_loadI e1 q0 q1 q2 (hF (_, _) (List.mem_cons_of_mem _ (List.mem_cons_of_mem _ (List.mem_cons_self ..))))
        refine AllTold.cons rfl (fun β E W hA hF hc hf hE hV hP hB hS => Or.inl ⟨wanted_of (d := 86) (b := true) rfl (by kernel_rfl) (hV 14 86 (by kernel_rfl) rfl), (by kernel_rfl), ?_⟩) ?_
        · have e1 : Means W (.int ((x ^ k) * (x ^ b))) (E (.tmp 89)) := hV 17 89 (by kernel_rfl) rfl
          have e2 : Means W (.int (x ^ (k + b))) (E (.tmp 90)) := hV 18 90 (by kernel_rfl) rfl
          clear hE hV hP hB hS
          exact ev_call2 (hf _) run_iCmp ((iCmp_val W _ _ ((x ^ k) * (x ^ b)) (x ^ (k + b)) 0 (cmp_same (Int.pow_add x k b).symm) (by omega) (by omega) e1 e2).mono fun e w' ⟨v, h1, h2, h3⟩ => ⟨v, h1, h2, h3⟩)
        refine AllTold.cons rfl (fun β E W hA hF hc hf hE hV hP hB hS => Or.inl ⟨wanted_of (d := 86) (b := true) rfl (by kernel_rfl) (hV 14 86 (by kernel_rfl) rfl), (by kernel_rfl), ?_⟩) ?_
        · have e1 : E (.tmp 91) = (.int .i64 0) := hV 19 91 (by kernel_rfl) rfl
          clear hE hV hP hB hS
          exact ev_eql e1 (hc _) rfl
        refine AllTold.cons rfl (fun β E W hA hF hc hf hE hV hP hB hS => Or.inl ⟨rfl, (by kernel_rfl), ?_⟩) ?_
        · have e1 : E (.tmp 86) = (.bool true) := hV 14 86 (by kernel_rfl) rfl
          have e2 : E (.tmp 92) = (.bool true) := hV 20 92 (by kernel_rfl) rfl
          clear hE hV hP hB hS
          exact ev_pick e1 e2
        refine AllTold.cons rfl (fun β E W hA hF hc hf hE hV hP hB hS => Or.inl ⟨rfl, (by kernel_rfl), ?_⟩) ?_
        · have e1 : E (.tmp 93) = (.bool true) := hV 21 93 (by kernel_rfl) rfl
          clear hE hV hP hB hS
          exact ev_move _ e1
        refine AllTold.cons rfl (fun β E W hA hF hc hf hE hV hP hB hS => Or.inl ⟨wanted_of (d := 94) (b := true) rfl (by kernel_rfl) (hV 22 94 (by kernel_rfl) rfl), (by kernel_rfl), ?_⟩) ?_
        · have e1 : E (.tmp 21) = .pointer (some ⟨rk, 0, none⟩) := hE 21 (by kernel_rfl)
          have q0 := hA.cell BK.out.1 (by intro h; cases h)
          have q1 := hA.cell BK.out.2.1 (by intro h; cases h)
          have q2 := hA.cell BK.out.2.2 (by intro h; cases h)
          clear hE hV hP hB hS
          exact ev_loadI e1 q0 q1 q2 (hF (_, _) (List.mem_cons_of_mem _ (List.mem_cons_of_mem _ (List.mem_cons_of_mem _ (List.mem_cons_self ..)))))
        refine AllTold.cons rfl (fun β E W hA hF hc hf hE hV hP hB hS => Or.inl ⟨wanted_of (d := 94) (b := true) rfl (by kernel_rfl) (hV 22 94 (by kernel_rfl) rfl), (by kernel_rfl), ?_⟩) ?_
        · have e1 : E (.tmp 13) = .pointer (some ⟨rp, 0, none⟩) := hE 13 (by kernel_rfl)
          have q0 := hA.cell BP.out.1 (by intro h; cases h)
          have q1 := hA.cell BP.out.2.1 (by intro h; cases h)
          have q2 := hA.cell BP.out.2.2 (by intro h; cases h)
          clear hE hV hP hB hS
          exact ev_loadI e1 q0 q1 q2 (hF (_, _) (List.mem_cons_self ..))
        refine AllTold.cons rfl (fun β E W hA hF hc hf hE hV hP hB hS => Or.inl ⟨wanted_of (d := 94) (b := true) rfl (by kernel_rfl) (hV 22 94 (by kernel_rfl) rfl), (by kernel_rfl), ?_⟩) ?_
        · have e1 : Means W (.int (x ^ k)) (E (.tmp 95)) := hV 23 95 (by kernel_rfl) rfl
          have e2 : Means W (.int (x ^ k)) (E (.tmp 96)) := hV 24 96 (by kernel_rfl) rfl
          clear hE hV hP hB hS
          exact ev_call2 (hf _) run_iCmp ((iCmp_val W _ _ (x ^ k) (x ^ k) 0 (cmp_same rfl) (by omega) (by omega) e1 e2).mono fun e w' ⟨v, h1, h2, h3⟩ => ⟨v, h1, h2, h3⟩)
        refine AllTold.cons rfl (fun β E W hA hF hc hf hE hV hP hB hS => Or.inl ⟨wanted_of (d := 94) (b := true) rfl (by kernel_rfl) (hV 22 94 (by kernel_rfl) rfl), (by kernel_rfl), ?_⟩) ?_
        · have e1 : E (.tmp 97) = (.int .i64 0) := hV 25 97 (by kernel_rfl) rfl
          clear hE hV hP hB hS
          exact ev_eql e1 (hc _) rfl
        refine AllTold.cons rfl (fun β E W hA hF hc hf hE hV hP hB hS => Or.inl ⟨rfl, (by kernel_rfl), ?_⟩) ?_
        · have e1 : E (.tmp 94) = (.bool true) := hV 22 94 (by kernel_rfl) rfl
          have e2 : E (.tmp 98) = (.bool true) := hV 26 98 (by kernel_rfl) rfl
          clear hE hV hP hB hS
          exact ev_pick e1 e2
        refine AllTold.cons rfl (fun β E W hA hF hc hf hE hV hP hB hS => Or.inl ⟨rfl, (by kernel_rfl), ?_⟩) ?_
        · have e1 : E (.tmp 99) = (.bool true) := hV 27 99 (by kernel_rfl) rfl
          clear hE hV hP hB hS
          exact ev_assign _ e1
        exact AllTold.nil
      · intro β f' W' hf hS hN hA _ _ _ _
        have e8 : f' 8 = .bool true := hf (28, 8) (by simp)
        have HB := Lib.hid (below_step HB.out hA.below0)
        clear hf hS hN hA
        simp only [fillSlots, e8, List.setIfInBounds_toArray, List.set_cons_succ, List.set_cons_zero]
        go_wp2
        go_ret
        exact ⟨rfl, HB.out⟩
end Go.Proofs.YtadhmpkndnhebaaDoor
