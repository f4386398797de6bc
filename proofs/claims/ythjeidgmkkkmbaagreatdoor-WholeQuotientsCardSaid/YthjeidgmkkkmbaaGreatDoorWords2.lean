/- The first bytes of an argument; the program's number of a document's. -/
import Derived.Test.YthjeidgmkkkmbaaGreatDoorFill
import Derived.Test.YthjeidgmkkkmbaaGreatDoorSum
import Derived.OwnWalk
import Derived.Laws.AppendOwnNone
import Derived.Test.YthjeidgmkkkmbaaGreatDoorMove
import Derived.Test.YthjeidgmkkkmbaaGreatDoorArith
import Derived.Deep.RegionWith
import Derived.Deep.RegionHeld3
namespace Go.Proofs.YthjeidgmkkkmbaaGreatDoor
open Go.RowKit

theorem bitLen_dr (n : Nat) : bitLen n ≤ 32 * (dr n).length := by
  apply bitLen_lt_pow.1
  rw [Nat.pow_mul]
  exact lt_pow_digs (by omega) n
theorem nb_be (n : Nat) : nb (be n) = n := by unfold nb be; rw [List.reverse_reverse]; exact val_digs (by omega) n
theorem be_lt (n : Nat) : ∀ x ∈ be n, x < 256 := fun x hx => digs_lt (by omega) n x (List.mem_reverse.1 hx)

set_option maxHeartbeats 1000000 in
/-- The program's number of a document's. -/
theorem hNat_any (n : Nat) (p : Option Addr) (l c : Nat) (w : World) (h : IsR w p l c n) (hl : (dr n).length ≤ 200000) :
    Calls Tryz.prog 51 #[.slice p l c] w (RetN w n) := by
  have H := Lib.hid h
  have hbl : (be n).length ≤ 1000000 := by have := bitLen_dr n; rw [be_length]; omega
  have hll : l ≤ 1000000 := by have := h.1; omega
  clear h
  go_enter Tryz.func51, Tryz.ntmps51
  go_wp2_with fail
  refine (rbytes_any n p l c _ (H.out.mono (below_alloc (Below.refl _ _) _)) hll).mono ?_
  rintro e w1 ⟨g, og, cg, rfl, x1, x2, x3, x4, hb⟩
  obtain ⟨hc, hf⟩ := bcell hb
  have X3 := Lib.hid x3
  clear x3 x4
  go_wp2_with fail
  refine (fromBytes_any g og cg _ (be n) w1 rfl hbl X3.out (be_lt n)).mono ?_
  rintro e w2 ⟨s, q, k, d, rfl, h2, hb2⟩
  rw [nb_be] at h2
  have H2 := Lib.hid h2; clear h2
  replace hb2 := below_step hb hb2
  obtain ⟨hc2, hf2⟩ := bcell hb2
  have HB : Below w.heap.size w w2 := (by repeat' first | exact Below.refl _ _ | refine below_alloc ?_ _ | refine below_step ?_ (by assumption))
  go_wp2
  have r1 : w2.cell? ⟨w.heap.size, 1, none⟩ = some (.slice none 0 0) := by simp [hc2, go_sem]
  refine bodyPost_ret (v := .agg #[.int .u64 s, .slice q k d]) (by simp [results, Tryz.results51, go_sem, hc2]) rfl ⟨s, q, k, d, rfl, H2.out.box r1, ?_⟩
  exact (HB.setCell (by simp) _).setCell (by simp) _
end Go.Proofs.YthjeidgmkkkmbaaGreatDoor

/- The program's operations on numbers, in the words of an open statement; how long their results are; boxes. -/
namespace Go.Proofs.YthjeidgmkkkmbaaGreatDoor
open Go.RowKit

theorem ds_add (m n : Nat) : (ds (m + n)).length ≤ (ds m).length + (ds n).length := by
  have h1 := lt_ds m
  have h2 := lt_ds n
  have p1 := ds_pos m; have p2 := ds_pos n
  refine ds_le (by omega) ?_
  rw [Nat.pow_add]
  generalize (ds m).length = i at *
  generalize (ds n).length = j at *
  have e1 : 2 ≤ (2 ^ 64) ^ i := Nat.le_trans (show 2 ≤ (2 ^ 64) ^ 1 by omega) (Nat.pow_le_pow_right (by omega) p1)
  have e2 : 2 ≤ (2 ^ 64) ^ j := Nat.le_trans (show 2 ≤ (2 ^ 64) ^ 1 by omega) (Nat.pow_le_pow_right (by omega) p2)
  generalize (2 ^ 64) ^ i = P at *
  generalize (2 ^ 64) ^ j = Q at *
  have : P + Q ≤ P * Q := by
    obtain ⟨a, rfl⟩ := Nat.exists_eq_add_of_le e1
    obtain ⟨b, rfl⟩ := Nat.exists_eq_add_of_le e2
    grind
  omega
theorem ds_mul (m n : Nat) : (ds (m * n)).length ≤ (ds m).length + (ds n).length := by
  have h1 := lt_ds m
  have h2 := lt_ds n
  have p1 := ds_pos m
  refine ds_le (by omega) ?_
  rw [Nat.pow_add]
  exact Nat.mul_lt_mul'' h1 h2

theorem IsR.box {w : World} {p q : Option Addr} {l c k d n g : Nat} {x : Int} {u v : Value} (h : IsR w p l c n) (h0 : w.cell? ⟨g, 0, none⟩ = some (.int .u64 x)) (h1 : w.cell? ⟨g, 1, none⟩ = some (.slice q k d)) :
    IsR ((w.setCell ⟨g, 0, none⟩ u).setCell ⟨g, 1, none⟩ v) p l c n := by
  obtain ⟨a1, a2, a3⟩ := h
  refine ⟨a1, a2, fun hn => ?_⟩
  obtain ⟨b, off, a4, a5⟩ := a3 hn
  refine ⟨b, off, a4, fun i hi => ?_⟩
  have h2 := a5 i hi
  have e0 : (⟨g, 0, none⟩ : Addr) ≠ ⟨b, off + i, none⟩ := by intro e; rw [← e, h0] at h2; cases h2
  have e1 : (⟨g, 1, none⟩ : Addr) ≠ ⟨b, off + i, none⟩ := by intro e; rw [← e, h1] at h2; cases h2
  rw [World.cell?_setCell_other _ _ _ _ e1, World.cell?_setCell_other _ _ _ _ e0]
  exact h2
theorem nb_lt (bs : List Nat) (k : Nat) (hb : ∀ x ∈ bs, x < 256) (hk : bs.length ≤ k) : nb bs < 256 ^ k := by
  have h1 := val_lt 256 bs.reverse (fun x hx => hb x (List.mem_reverse.1 hx))
  rw [List.length_reverse] at h1
  exact Nat.lt_of_lt_of_le h1 (Nat.pow_le_pow_right (by omega) hk)
theorem bx_other {W : World} {x b o : Nat} {u v y : Value} (h : W.cell? ⟨x, o, none⟩ = some y) (hx : x ≠ b) : ((W.setCell ⟨b, 0, none⟩ u).setCell ⟨b, 1, none⟩ v).cell? ⟨x, o, none⟩ = some y := by
  rw [World.cell?_setCell_other _ _ _ _ (by intro e; injection e with e; exact hx e.symm), World.cell?_setCell_other _ _ _ _ (by intro e; injection e with e; exact hx e.symm)]; exact h
theorem bx_zero {W : World} {b : Nat} {u v y : Value} (h : W.cell? ⟨b, 0, none⟩ = some y) : ((W.setCell ⟨b, 0, none⟩ u).setCell ⟨b, 1, none⟩ v).cell? ⟨b, 0, none⟩ = some u := by
  simp [go_sem, h]
theorem bx_one {W : World} {b : Nat} {u v z : Value} (h1 : W.cell? ⟨b, 1, none⟩ = some z) : ((W.setCell ⟨b, 0, none⟩ u).setCell ⟨b, 1, none⟩ v).cell? ⟨b, 1, none⟩ = some v := by
  simp [go_sem, h1]

end Go.Proofs.YthjeidgmkkkmbaaGreatDoor

/- The program's integers: what a value says; the smallest calls. -/
namespace Go.Proofs.YthjeidgmkkkmbaaGreatDoor
open Go.RowKit

/-- What a call that returns an integer leaves. -/
def RetI (W : World) (z : Int) : Ending → World → Prop := fun e w' =>
  ∃ g s p l c, e = .returned (.agg #[.bool g, .int .u64 s, .slice p l c]) ∧ IsI w' g s p l c z ∧ Below W.heap.size W w'
theorem RetI.want {W w' : World} {z : Int} {e : Ending} (h : RetI W z e w') : ∃ v, e = .returned v ∧ INum w' v z ∧ Below W.heap.size W w' := by
  obtain ⟨g, s, p, l, c, rfl, h1, h2⟩ := h
  exact ⟨_, rfl, ⟨g, s, p, l, c, rfl, h1⟩, h2⟩

set_option maxHeartbeats 400000 in
theorem izero_any (n : Nat) (s : Int) (p : Option Addr) (l c : Nat) (w : World) (h : IsN w s p l c n) :
    Calls Tryz.prog 39 #[.agg #[.int .u64 s, .slice p l c]] w fun e w' => e = .returned (.bool (decide (n = 0))) ∧ Below w.heap.size w w' := by
  rcases h with ⟨h1, rfl, rfl, rfl, rfl⟩ | ⟨h1, rfl, b, off, rfl, h4, _, _⟩
  · rcases Nat.eq_zero_or_pos n with h0 | h0
    · subst h0
      clear h1
      go_enter Tryz.func39, Tryz.ntmps39
      go_wp2_with fail
      refine (nsmall_any _ _ _ _ _).mono ?_
      rintro e w1 ⟨rfl, hb⟩
      go_wp2
      go_ret
      exact ⟨rfl, below_step (below_alloc (Below.refl _ _) _) hb⟩
    · have hd : decide (n = 0) = false := decide_eq_false (by omega)
      have hi : ((n : Int) == 0) = false := beq_eq_false_iff_ne.2 (by omega)
      rw [hd]
      clear h1 h0
      go_enter Tryz.func39, Tryz.ntmps39
      go_wp2_with fail
      refine (nsmall_any _ _ _ _ _).mono ?_
      rintro e w1 ⟨rfl, hb⟩
      go_wp2
      go_ret
      exact ⟨rfl, below_step (below_alloc (Below.refl _ _) _) hb⟩
  · have hd : decide (n = 0) = false := decide_eq_false (by omega)
    have hl : ((l : Int) == 0) = false := beq_eq_false_iff_ne.2 (by have := ds_pos n; omega)
    rw [hd]
    clear h1 h4
    go_enter Tryz.func39, Tryz.ntmps39
    go_wp2_with fail
    refine (nsmall_any _ _ _ _ _).mono ?_
    rintro e w1 ⟨rfl, hb⟩
    rw [hl]
    go_wp2
    go_ret
    exact ⟨rfl, below_step (below_alloc (Below.refl _ _) _) hb⟩

/-- What a sign and a number say. -/
def sgn (g : Bool) (n : Nat) : Int := if g then -(n : Int) else n
theorem sgn_abs (g : Bool) (n : Nat) : (sgn g n).natAbs = n := by unfold sgn; split <;> omega
theorem sgn_neg (g : Bool) (n : Nat) : decide (sgn g n < 0) = (g && !decide (n = 0)) := by
  unfold sgn
  cases g with
  | false => simp
  | true => by_cases h : n = 0 <;> simp [h]; omega

/-- A box of an integer is written: the numbers stay. -/
theorem IsN.ibox {w : World} {s : Int} {p q : Option Addr} {l c k d n g : Nat} {x : Bool} {u v y : Value} (h : IsN w s p l c n) (h0 : w.cell? ⟨g, 0, none⟩ = some (.bool x)) (h2 : w.cell? ⟨g, 2, none⟩ = some (.slice q k d)) :
    IsN (((w.setCell ⟨g, 0, none⟩ u).setCell ⟨g, 1, none⟩ v).setCell ⟨g, 2, none⟩ y) s p l c n := by
  rcases h with h | ⟨a1, a2, b, off, a3, a4, a5, a6⟩
  · exact Or.inl h
  · refine Or.inr ⟨a1, a2, b, off, a3, a4, a5, fun i hi => ?_⟩
    have h4 := ds_two a1
    have h3 : ∀ o, o < 3 → (⟨g, o, none⟩ : Addr) ≠ ⟨b, off + i, none⟩ := by
      intro o ho e
      injection e with e1 e2
      subst e1
      rcases Nat.eq_zero_or_pos off with hz | hz
      · have h5 := a6 0 (by omega)
        rw [show off + 0 = 0 from by omega, h0] at h5
        cases h5
      · have h5 := a6 (2 - off) (by omega)
        rw [show off + (2 - off) = 2 from by omega, h2] at h5
        cases h5
    rw [World.cell?_setCell_other _ _ _ _ (h3 2 (by omega)), World.cell?_setCell_other _ _ _ _ (h3 1 (by omega)), World.cell?_setCell_other _ _ _ _ (h3 0 (by omega))]
    exact a6 i hi
theorem below_iset {B g : Nat} {w w' : World} {u v y : Value} (h : Below B w w') (hg : B ≤ g) : Below B w (((w'.setCell ⟨g, 0, none⟩ u).setCell ⟨g, 1, none⟩ v).setCell ⟨g, 2, none⟩ y) :=
  ((h.setCell (p := ⟨g, 0, none⟩) hg u).setCell (p := ⟨g, 1, none⟩) hg v).setCell (p := ⟨g, 2, none⟩) hg y

theorem sgn_is (z : Int) : sgn (decide (z < 0)) z.natAbs = z := by unfold sgn; by_cases h : z < 0 <;> simp [h] <;> omega
theorem isI_sgn {w : World} {g : Bool} {s : Int} {p : Option Addr} {l c n : Nat} (h : IsN w s p l c n) : IsI w (g && !decide (n = 0)) s p l c (sgn g n) := ⟨(sgn_neg g n).symm, by rw [sgn_abs]; exact h⟩

set_option maxHeartbeats 1000000 in
/-- The integer of a sign and a number. -/
theorem iFrom_any (g : Bool) (n : Nat) (s : Int) (p : Option Addr) (l c : Nat) (w : World) (h : IsN w s p l c n) :
    Calls Tryz.prog 33 #[.bool g, .agg #[.int .u64 s, .slice p l c]] w (RetI w (sgn g n)) := by
  have H := Lib.hid h
  have HZ := Lib.hid (fun W a => izero_any n s p l c W a)
  have HI := Lib.hid (fun W a => isI_sgn (w := W) (g := g) (s := s) (p := p) (l := l) (c := c) (n := n) a)
  obtain ⟨z, hz⟩ : ∃ z, z = decide (n = 0) := ⟨_, rfl⟩
  rw [← hz] at HZ HI
  clear h hz
  generalize sgn g n = v at *
  cases g with
  | false =>
    go_enter Tryz.func33, Tryz.ntmps33
    go_wp2
    go_region_with (fail)
    all_goals
      go_wp2
      exact bodyPost_ret (v := .agg #[.bool false, .int .u64 s, .slice p l c]) (by simp [results, Tryz.results33, go_sem]) rfl ⟨_, _, _, _, _, rfl, HI.out _ (H.out.mono (by repeat' first | exact Below.refl _ _ | refine below_alloc ?_ _ | refine Below.drew ?_)), (by repeat' first | exact Below.refl _ _ | refine below_alloc ?_ _ | refine Below.drew ?_)⟩
  | true =>
    go_enter Tryz.func33, Tryz.ntmps33
    go_wp2
    go_region_with (go_at_call 39; refine (HZ.out _ (H.out.mono (by repeat' first | exact Below.refl _ _ | refine below_alloc ?_ _ | refine Below.drew ?_ | refine below_step ?_ (by assumption)))).mono ?_; rintro e w1 ⟨rfl, hb⟩; obtain ⟨hc, hf⟩ := bcell hb)
    all_goals
      go_wp2
      have r0 : w1.cell? ⟨w.heap.size + 1, 0, none⟩ = some (.bool false) := by simp [hc, go_sem]
      have r1 : w1.cell? ⟨w.heap.size + 1, 1, none⟩ = some (.int .u64 0) := by simp [hc, go_sem]
      have r2 : w1.cell? ⟨w.heap.size + 1, 2, none⟩ = some (.slice none 0 0) := by simp [hc, go_sem]
      have HB : Below w.heap.size w w1 := (by repeat' first | exact Below.refl _ _ | refine below_alloc ?_ _ | refine Below.drew ?_ | refine below_step ?_ (by assumption))
      exact bodyPost_ret (v := .agg #[.bool (!z), .int .u64 s, .slice p l c]) (by simp [results, Tryz.results33, go_sem, r0, r1, r2]) rfl ⟨_, _, _, _, _, rfl, HI.out _ ((H.out.mono HB).ibox r0 r2), below_iset HB (by omega)⟩
theorem rset_other {W : World} {r a o : Nat} {u v y z : Value} (h : W.cell? ⟨a, o, none⟩ = some z) (hn : a ≠ r) : (((W.setCell ⟨r, 0, none⟩ u).setCell ⟨r, 1, none⟩ v).setCell ⟨r, 2, none⟩ y).cell? ⟨a, o, none⟩ = some z := by
  rw [World.cell?_setCell_other _ _ _ _ (by intro e; injection e with e; exact hn e.symm), World.cell?_setCell_other _ _ _ _ (by intro e; injection e with e; exact hn e.symm), World.cell?_setCell_other _ _ _ _ (by intro e; injection e with e; exact hn e.symm)]
  exact h

/-- A box of an integer. -/
def Box (w : World) (a : Nat) (g : Bool) (s : Int) (p : Option Addr) (l c : Nat) : Prop := w.cell? ⟨a, 0, none⟩ = some (.bool g) ∧ w.cell? ⟨a, 1, none⟩ = some (.int .u64 s) ∧ w.cell? ⟨a, 2, none⟩ = some (.slice p l c)
/-- The boxes of two arguments and of a result. -/
theorem boxes2 (w : World) (g1 g2 : Bool) (s1 s2 : Int) (p1 p2 : Option Addr) (l1 c1 l2 c2 : Nat) :
    ∃ W a b r, W = ((w.alloc (.cells #[.bool g1, .int .u64 s1, .slice p1 l1 c1] 28)).alloc (.cells #[.bool g2, .int .u64 s2, .slice p2 l2 c2] 28)).alloc (.cells #[.bool false, .int .u64 0, .slice none 0 0] 28) ∧ r = w.heap.size + 1 + 1 ∧ b = w.heap.size + 1 ∧ a = w.heap.size ∧
      Box W a g1 s1 p1 l1 c1 ∧ Box W b g2 s2 p2 l2 c2 ∧ Box W r false 0 none 0 0 ∧ W.frozen? ⟨r, 0, none⟩ = false ∧ W.frozen? ⟨r, 1, none⟩ = false ∧ W.frozen? ⟨r, 2, none⟩ = false ∧ a ≠ r ∧ b ≠ r ∧ a ≠ b ∧ a < W.heap.size ∧ b < W.heap.size ∧ r < W.heap.size ∧ w.heap.size ≤ r ∧ Below w.heap.size w W := by
  refine ⟨_, _, _, _, rfl, rfl, rfl, rfl, ⟨?_, ?_, ?_⟩, ⟨?_, ?_, ?_⟩, ⟨?_, ?_, ?_⟩, ?_, ?_, ?_, by omega, by omega, by omega, by simp only [World.size_alloc]; omega, by simp only [World.size_alloc]; omega, by simp only [World.size_alloc]; omega, by omega,
    below_alloc (below_alloc (below_alloc (Below.refl _ _) _) _) _⟩
  all_goals simp [go_sem]
theorem bstep {W w1 : World} (hb : Below W.heap.size W w1) {a : Nat} (h : a < W.heap.size) : a < w1.heap.size := Nat.lt_of_lt_of_le h hb.size
end Go.Proofs.YthjeidgmkkkmbaaGreatDoor

/- Words and bytes of a number (numbers alone). -/
namespace Go.Proofs.YthjeidgmkkkmbaaGreatDoor

theorem val_digit {b : Nat} {xs : List Nat} (hx : ∀ x ∈ xs, x < b) {j : Nat} (hj : j < xs.length) : val b xs / b ^ j % b = xs.getD j 0 := by
  have h0 : 0 < b := by have := hx xs[j] (List.getElem_mem hj); omega
  have h1 := val_split b xs j (by omega)
  rw [val_drop_cons _ _ _ hj] at h1
  have h2 := val_take_lt b xs j hx (by omega)
  have h3 := getD_lt hx h0 j
  rw [h1, Nat.add_mul_div_left _ _ (Nat.pow_pos h0), Nat.div_eq_of_lt h2, Nat.zero_add, Nat.add_mul_mod_self_left, Nat.mod_eq_of_lt h3]
theorem val_of_digits {b : Nat} (hb : 0 < b) : ∀ (L : List Nat) (n : Nat), n < b ^ L.length → (∀ j, j < L.length → L.getD j 0 = n / b ^ j % b) → val b L = n
  | [], n, h, _ => by
    rw [List.length_nil, Nat.pow_zero] at h
    show 0 = n
    omega
  | x :: L, n, h, hd => by
    have h0 : x = n % b := by simpa using hd 0 (by simp)
    have h1 : n / b < b ^ L.length := by
      rw [List.length_cons, Nat.pow_succ, Nat.mul_comm] at h
      exact Nat.div_lt_of_lt_mul h
    have h2 := val_of_digits hb L (n / b) h1 (fun j hj => by
      have := hd (j + 1) (by simpa using hj)
      rw [Nat.div_div_eq_div_mul, Nat.mul_comm b, ← Nat.pow_succ]
      simpa using this)
    show x + b * val b L = n
    rw [h2, h0]
    exact Nat.mod_add_div n b
/-- A byte of a word is a byte of the number. -/
theorem byte_of_word {ws : List Nat} (hw : ∀ x ∈ ws, x < 2 ^ 64) {i : Nat} (hi : i < 8 * ws.length) : ws.getD (i / 8) 0 / 2 ^ (8 * (i % 8)) % 256 = val (2 ^ 64) ws / 256 ^ i % 256 := by
  rw [← val_digit hw (show i / 8 < ws.length by omega)]
  exact byte_of_digit 8 (val (2 ^ 64) ws) i (by omega)
/-- Bytes filled from the back say the number. -/
theorem nb_of_bytes {L : List Nat} {n m : Nat} (hL : L.length = m) (hn : n < 256 ^ m) (h : ∀ j, j < m → L.getD (m - 1 - j) 0 = n / 256 ^ j % 256) : nb L = n := by
  unfold nb
  refine val_of_digits (by omega) _ _ (by rw [List.length_reverse, hL]; exact hn) (fun j hj => ?_)
  rw [List.length_reverse, hL] at hj
  rw [rev_getD _ _ (by omega), hL]
  exact h j hj
theorem pow_words (l : Nat) : (2 ^ 64) ^ l = 256 ^ (8 * l) := by
  rw [Nat.pow_mul]
end Go.Proofs.YthjeidgmkkkmbaaGreatDoor

/- A number as words, and words as a number: the program's. -/
namespace Go.Proofs.YthjeidgmkkkmbaaGreatDoor
open Go.RowKit

set_option maxRecDepth 100000 in
set_option maxHeartbeats 2000000 in
theorem natOf_any (bx ox cx n : Nat) (ws : List Nat) (w : World) (hl : ws.length = n) (hn : n ≤ 100000) (h0 : 0 < n) (h : At w .u64 bx ox ws) (hw : ∀ x ∈ ws, x < 2 ^ 64) :
    Calls Tryz.prog 110 #[.slice (some ⟨bx, ox, none⟩) n cx] w (RetN w (val (2 ^ 64) ws)) := by
  obtain ⟨m, hm⟩ : ∃ m, m = 8 * n := ⟨_, rfl⟩
  have hmk := make_u8 m (by omega)
  have hq : 8 * (n : Int) = (m : Int) := by omega
  have hwq : IntKind.i64.wrap (8 * (n : Int)) = (m : Int) := by rw [IntKind.wrap_i64]; omega
  have hbx := h.lt (by omega)
  have H := Lib.hid h; have HW := Lib.hid hw; have HL := Lib.hid hl; have HM := Lib.hid hm
  have hm2 : m ≤ 800000 := by omega
  clear h hw hl hm
  go_enter Tryz.func110, Tryz.ntmps110
  go_wp2_with fail
  obtain ⟨w1, hw1⟩ : ∃ w1, w1 = w.alloc (.cells #[.int .u64 0, .slice none 0 0] 26) := ⟨_, rfl⟩
  have hz1 : w1.heap.size = w.heap.size + 1 := by rw [hw1]; simp
  have B1 : Below w.heap.size w w1 := by rw [hw1]; exact below_alloc (Below.refl _ _) _
  have r0 : w1.cell? ⟨w.heap.size, 0, none⟩ = some (.int .u64 0) := by rw [hw1]; simp [go_sem]
  have r1 : w1.cell? ⟨w.heap.size, 1, none⟩ = some (.slice none 0 0) := by rw [hw1]; simp [go_sem]
  have f0 : w1.frozen? ⟨w.heap.size, 0, none⟩ = false := by rw [hw1]; simp [go_sem]
  have f1 : w1.frozen? ⟨w.heap.size, 1, none⟩ = false := by rw [hw1]; simp [go_sem]
  rw [← hw1]
  have A3 := At.made w1 .u8 m 5
  have F3 := Fr.made w1 .u8 m m 5
  have B3 : Below w1.heap.size w1 (w1.alloc (.cells (madeCells #[.int .u8 0] m) 5)) := below_alloc (Below.refl _ _) _
  have hz3 : (w1.alloc (.cells (madeCells #[.int .u8 0] m) 5)).heap.size = w1.heap.size + 1 := by simp
  obtain ⟨w3, hw3⟩ : ∃ w3, w3 = w1.alloc (.cells (madeCells #[.int .u8 0] m) 5) := ⟨_, rfl⟩
  obtain ⟨g, hg⟩ : ∃ g, g = w1.heap.size := ⟨_, rfl⟩
  rw [← hw3] at A3 F3 B3 hz3 ⊢
  rw [← hg] at A3 F3 hz3 hz1
  rw [← hz1]
  have HZ1 := Lib.hid hz1; have HZ3 := Lib.hid hz3
  have R0 := Lib.hid (wcell B3 r0); have R1 := Lib.hid (wcell B3 r1)
  have W0 := Lib.hid (wfree B3 r0 f0); have W1 := Lib.hid (wfree B3 r1 f1)
  have HA3 := Lib.hid A3; have HF3 := Lib.hid F3
  have HB3 := Lib.hid (below_step B1 B3)
  have HX3 := Lib.hid ((H.out.mono B1).mono B3)
  clear r0 r1 f0 f1 A3 F3 B3 B1 hw3 hw1 hg hmk hq hwq hz1 hz3
  go_loopw [11] (fun i wr => ∃ k : Nat, k ≤ m ∧ i = .int .i64 k ∧ ∃ L : List Nat, L.length = m ∧ At wr .u8 g 0 L ∧ Hid ((∀ j, j < k → L.getD (m - 1 - j) 0 = val (2 ^ 64) ws / 256 ^ j % 256) ∧ ∀ x ∈ L, x < 256) ∧ Only w3 wr g 0 m) (fun i _ => m - (intOf i).toNat)
  case atStart => exact ⟨0, Nat.zero_le _, rfl, List.replicate m 0, by simp, HA3.out, Lib.hid ⟨fun j hj => absurd hj (Nat.not_lt_zero j), fun x hx => by rw [List.eq_of_mem_replicate hx]; omega⟩, Only.refl _ _ _ _⟩
  case round =>
    obtain ⟨k, hk, rfl, L, hL, hA, HI, hO⟩ := hrel
    by_cases hlt : k < m
    · have hM := HM.out
      have hk8 : k / 8 < n := by omega
      have hbB : bx ≠ g := by have := HZ1.out; omega
      have c1 := hA.zero (m - 1 - k) (by omega)
      have c2 := (HF3.out.only hO).zero (m - 1 - k) (by omega)
      have c3 := (HX3.out.only hO hbB) (k / 8) (by rw [HL.out]; omega)
      have hx := getD_lt HW.out (by omega) (k / 8)
      have hby := byte_of_word HW.out (i := k) (by rw [HL.out]; omega)
      have HBY := Lib.hid (show ws.getD (k / 8) 0 / 2 ^ (k % 8 * 8) % 256 = val (2 ^ 64) ws / 256 ^ k % 256 from by rw [Nat.mul_comm (k % 8)]; exact hby)
      obtain ⟨x, hxe⟩ : ∃ x, x = ws.getD (k / 8) 0 := ⟨_, rfl⟩
      rw [← hxe] at c3 HBY
      have i1 : (0 : Int) ≤ (m : Int) - 1 - k := by omega
      have i2 : (0 : Int) ≤ (k : Int) / 8 := by omega
      have i3 : (k : Int) / 8 < n := by omega
      clear hby hxe hM hx
      go_wp2
      go_roundw
      case rel =>
        refine ⟨k + 1, by omega, by go_num, L.set (m - 1 - k) (x / 2 ^ (k % 8 * 8) % 256), by simpa using hL, ?_, Lib.hid ⟨fun j hj => ?_, fun z hz => ?_⟩, ?_⟩
        · have := hA.set (m - 1 - k) (x / 2 ^ (k % 8 * 8) % 256) (by omega)
          rw [Nat.zero_add, shr_cast] at this
          exact this
        · rw [getD_set _ _ _ _ (by omega)]
          by_cases e : j = k
          · subst e; rw [if_pos rfl, HBY.out]
          · rw [if_neg (by omega)]; exact HI.out.1 j (by omega)
        · rcases List.mem_or_eq_of_mem_set hz with h | h
          · exact HI.out.2 z h
          · rw [h]; exact Nat.mod_lt _ (by omega)
        · exact hO.setCell _ (by omega) (by omega) _
      case measure => simp [intOf]; omega
    · obtain rfl : k = m := by omega
      have hbx2 : w.heap.size < w3.heap.size := by have := HZ1.out; have := HZ3.out; omega
      have hne : w.heap.size ≠ g := by have := HZ1.out; omega
      have r0' : wr.cell? ⟨w.heap.size, 0, none⟩ = some (.int .u64 0) := by rw [World.cell?_of_block (w := w3) (hO.block _ hbx2 hne)]; exact R0.out
      have r1' : wr.cell? ⟨w.heap.size, 1, none⟩ = some (.slice none 0 0) := by rw [World.cell?_of_block (w := w3) (hO.block _ hbx2 hne)]; exact R1.out
      have f0' : wr.frozen? ⟨w.heap.size, 0, none⟩ = false := by rw [World.frozen?_of_block (w := w3) (hO.block _ hbx2 hne)]; exact W0.out
      have f1' : wr.frozen? ⟨w.heap.size, 1, none⟩ = false := by rw [World.frozen?_of_block (w := w3) (hO.block _ hbx2 hne)]; exact W1.out
      have HT := Lib.hid (fromBytes_any g 0 k k L wr hL (by omega) hA HI.out.2)
      have hRB := hO.below (show w.heap.size ≤ g by have := HZ1.out; omega) (show w.heap.size ≤ w3.heap.size by have := HZ1.out; have := HZ3.out; omega)
      have HBR := Lib.hid (HB3.out.trans hRB)
      have hnv : val (2 ^ 64) ws < 256 ^ k := by rw [HM.out, ← pow_words, ← HL.out]; exact val_lt _ _ HW.out
      have HV := Lib.hid (nb_of_bytes hL hnv HI.out.1)
      clear hRB hA hO HI hnv
      go_wp2_with fail
      refine HT.out.mono ?_
      rintro e w6 ⟨s6, p6, l6, c6, rfl, h6, hb6⟩
      have H6 := Lib.hid h6; clear h6
      have r0 := wcell hb6 r0'; have r1 := wcell hb6 r1'
      have f0 := wfree hb6 r0' f0'; have f1 := wfree hb6 r1' f1'
      have HB6 := Lib.hid (below_step HBR.out hb6)
      clear r0' r1' f0' f1' hb6
      go_wp2
      refine bodyPost_ret (v := .agg #[.int .u64 s6, .slice p6 l6 c6]) (by simp [results, Tryz.results110, go_sem, r0, r1]) rfl ⟨s6, p6, l6, c6, rfl, ?_, ?_⟩
      · have hv := HV.out
        rw [← hv]
        exact H6.out.box r1
      · exact (HB6.out.setCell (by simp) _).setCell (by simp) _
end Go.Proofs.YthjeidgmkkkmbaaGreatDoor

/- The words of a number: the program's. -/
namespace Go.Proofs.YthjeidgmkkkmbaaGreatDoor
open Go.RowKit

theorem be_le {n k : Nat} (h : n < (2 ^ 64) ^ k) : (be n).length ≤ 8 * k := by
  unfold be
  rw [List.length_reverse]
  exact digs_length_le (by omega) (by rw [← pow_words]; exact h)

set_option maxRecDepth 100000 in
set_option maxHeartbeats 2000000 in
theorem wordsOf_any (n m : Nat) (s : Int) (p : Option Addr) (l0 c0 : Nat) (w : World) (h : IsN w s p l0 c0 n) (hl : (ds n).length ≤ 100000) (hm0 : 0 < m) (hm : m ≤ 100000) (hn : n < (2 ^ 64) ^ m) :
    Calls Tryz.prog 106 #[.agg #[.int .u64 s, .slice p l0 c0], .int .i64 (m : Int)] w (RetP w m n) := by
  have hmk := make_u64 m (by omega)
  obtain ⟨bs, hbs⟩ : ∃ bs, bs = be n := ⟨_, rfl⟩
  obtain ⟨l, hlb⟩ : ∃ l, l = bs.length := ⟨_, rfl⟩
  have hl8 : l ≤ 8 * m := by rw [hlb, hbs]; exact be_le hn
  have HBY := Lib.hid (fun W (hI : IsN W s p l0 c0 n) => nbytes_any n s p l0 c0 W hI (by omega))
  rw [← hbs] at HBY
  have H := Lib.hid h
  have HB := Lib.hid (show ∀ x ∈ bs, x < 256 from by rw [hbs]; exact be_lt n)
  have HNB := Lib.hid (show nb bs = n from by rw [hbs]; exact nb_be n)
  have HL := Lib.hid hlb.symm
  have HL8 := Lib.hid hl8
  clear h hl hbs hlb hn
  go_enter Tryz.func106, Tryz.ntmps106
  go_wp2_with fail
  refine (HBY.out _ (H.out.mono (by repeat' first | exact Below.refl _ _ | refine below_alloc ?_ _))).mono ?_
  rintro e w1 ⟨bB, off, c, rfl, hc1, hnew, hX, hF, hb⟩
  rw [HL.out]
  have HX1 := Lib.hid hX
  have B1 : Below w.heap.size w w1 := (by repeat' first | exact Below.refl _ _ | refine below_alloc ?_ _ | refine below_step ?_ (by assumption))
  have HB1 := Lib.hid B1
  have hbB : bB < w1.heap.size ∨ l = 0 := by
    rcases Nat.eq_zero_or_pos l with h0 | h0
    · exact Or.inr h0
    · exact Or.inl (hX.lt (by rw [HL.out]; exact h0))
  clear hX hF hb B1 hc1 hnew
  go_wp2_with fail
  have A3 := At.made w1 .u64 m 23
  have F3 := Fr.made w1 .u64 m m 23
  have B3 : Below w1.heap.size w1 (w1.alloc (.cells (madeCells #[.int .u64 0] m) 23)) := below_alloc (Below.refl _ _) _
  have hz3 : (w1.alloc (.cells (madeCells #[.int .u64 0] m) 23)).heap.size = w1.heap.size + 1 := by simp
  obtain ⟨w3, hw3⟩ : ∃ w3, w3 = w1.alloc (.cells (madeCells #[.int .u64 0] m) 23) := ⟨_, rfl⟩
  obtain ⟨g, hg⟩ : ∃ g, g = w1.heap.size := ⟨_, rfl⟩
  rw [← hw3] at A3 F3 B3 hz3 ⊢
  rw [← hg] at A3 F3 hz3 hbB ⊢
  have HZ3 := Lib.hid hz3
  have HZ1 := Lib.hid (show w.heap.size ≤ g by rw [hg]; exact HB1.out.size)
  have HA3 := Lib.hid A3; have HF3 := Lib.hid F3
  have HB3 := Lib.hid (below_step HB1.out B3)
  have HX3 := Lib.hid (HX1.out.mono B3)
  clear A3 F3 B3 hw3 hg hmk hz3 HX1 HB1
  go_loopw [14] (fun i wr => ∃ k : Nat, k ≤ l ∧ i = .int .i64 k ∧ ∃ L : List Nat, L.length = m ∧ At wr .u64 g 0 L ∧ Hid (Fill 8 bs.reverse L k) ∧ Only w3 wr g 0 m) (fun i _ => l - (intOf i).toNat)
  case atStart => exact ⟨0, Nat.zero_le _, rfl, List.replicate m 0, by simp, HA3.out, Lib.hid (Fill.start _ _ _), Only.refl _ _ _ _⟩
  case round =>
    obtain ⟨k, hk, rfl, L, hL, hA, HI, hO⟩ := hrel
    by_cases hlt : k < l
    · have hM := HL8.out
      have hk8 : k / 8 < m := by omega
      have hbg : bB ≠ g := by omega
      have c1 := hA.zero (k / 8) (by omega)
      have c2 := (HF3.out.only hO).zero (k / 8) (by omega)
      have c3 := (HX3.out.only hO hbg) (l - 1 - k) (by rw [HL.out]; omega)
      have i1 : (0 : Int) ≤ (l : Int) - 1 - k := by omega
      have i2 : (0 : Int) ≤ (k : Int) / 8 := by omega
      have i3 : (k : Int) / 8 < m := by omega
      have hy : bs.getD (l - 1 - k) 0 < 256 := getD_lt HB.out (by omega) _
      have hst := HI.out.step (by omega) (fun x hx => HB.out x (List.mem_reverse.1 hx)) (by rw [List.length_reverse, HL.out]; exact hlt) (by rw [hL]; exact hk8)
      rw [rev_getD _ _ (by rw [HL.out]; exact hlt), HL.out] at hst
      have HS := Lib.hid hst
      clear hst
      have hx : L.getD (k / 8) 0 < 2 ^ 64 := by
        have := getD_lt (HI.out.lt (fun x hx => HB.out x (List.mem_reverse.1 hx))) (by omega) (k / 8)
        exact this
      have HXX := Lib.hid hx
      generalize L.getD (k / 8) 0 = x at *
      generalize bs.getD (l - 1 - k) 0 = y at *
      clear hx hM
      go_wp2_with fail
      go_big_region
      have hor := or64 HXX.out hy (show k % 8 * 8 ≤ 56 by omega)
      rw [hor]
      go_wp2
      go_roundw
      case rel =>
        refine ⟨k + 1, by omega, by go_num, _, ?_, ?_, Lib.hid HS.out, ?_⟩
        · rw [List.length_set]; exact hL
        · have := hA.set (k / 8) (x ||| y * 2 ^ (8 * (k % 8))) (by omega)
          rw [Nat.zero_add] at this
          rw [Nat.mul_comm (k % 8) 8]
          exact this.drew
        · exact (hO.setCell _ (by omega) (by omega) _).drew
      case measure => simp [intOf]; omega
    · obtain rfl : k = l := by omega
      have hF := HI.out
      have hrl : bs.reverse.length = k := by rw [List.length_reverse, HL.out]
      have hv := Fill.done (hrl ▸ hF) (by rw [hrl, hL]; have := HL8.out; omega)
      have hlt2 := hF.lt (fun x hx => HB.out x (List.mem_reverse.1 hx))
      have hRB := hO.below HZ1.out (show w.heap.size ≤ w3.heap.size by have := HZ1.out; have := HZ3.out; omega)
      have HBR := Lib.hid (HB3.out.trans hRB)
      have HV := Lib.hid (show val (2 ^ 64) L = n from by rw [← HNB.out]; exact hv)
      have HLT := Lib.hid hlt2
      have HA := Lib.hid hA
      have HFF := Lib.hid (HF3.out.only hO)
      clear hF hv hlt2 hRB hA hO HI
      go_wp2
      go_ret
      exact ⟨g, L, m, rfl, hL, Nat.le_refl _, HLT.out, HV.out, HZ1.out, HA.out, HFF.out, HBR.out⟩
end Go.Proofs.YthjeidgmkkkmbaaGreatDoor
