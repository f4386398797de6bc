/- The first bytes of an argument; the program's number of a document's. -/
import Derived.Test.YtfjjmhbffbhhdaaGreatDoorFill
import Derived.Test.YtfjjmhbffbhhdaaGreatDoorSum
import Derived.OwnWalk
import Derived.Laws.AppendOwnNone
import Derived.Test.YtfjjmhbffbhhdaaGreatDoorMove
import Derived.Test.YtfjjmhbffbhhdaaGreatDoorArith
import Derived.Deep.RegionWith
import Derived.Deep.RegionHeld3
import Derived.Test.YtfjjmhbffbhhdaaGreatDoorShiftS
namespace Go.Proofs.YtfjjmhbffbhhdaaGreatDoor
open Go.RowKit

theorem bitLen_dr (n : Nat) : bitLen n ≤ 32 * (dr n).length := by
  apply bitLen_lt_pow.1
  rw [Nat.pow_mul]
  exact lt_pow_digs (by omega) n
theorem nb_be (n : Nat) : nb (be n) = n := by unfold nb be; rw [List.reverse_reverse]; exact val_digs (by omega) n
theorem be_lt (n : Nat) : ∀ x ∈ be n, x < 256 := fun x hx => digs_lt (by omega) n x (List.mem_reverse.1 hx)

set_option maxHeartbeats 1000000 in
theorem hNat_any (n : Nat) (p : Option Addr) (l c : Nat) (w : World) (h : IsR w p l c n) (hl : (dr n).length ≤ 200000) :
    Calls Tryz.prog 36 #[.slice p l c] w (RetN w n) := by
  have H := Lib.hid h
  have hbl : (be n).length ≤ 1000000 := by have := bitLen_dr n; rw [be_length]; omega
  have hll : l ≤ 1000000 := by have := h.1; omega
  clear h
  go_enter Tryz.func36, Tryz.ntmps36
  go_wp2_with fail
  refine (rbytes_any n p l c _ (H.out.mono (below_alloc (Below.refl _ _) _)) hll).mono ?_
  rintro e w1 ⟨g, og, cg, rfl, x1, x2, x3, x4, hb⟩
  obtain ⟨hc, hf⟩ := bcell hb
  have X3 := Lib.hid x3
  clear x3 x4
  go_wp2_with fail
  refine (fromBytes_any g og cg _ (be n) w1 rfl hbl X3.out (be_lt n)).mono ?_
  rintro e w2 ⟨s, q, k, d, rfl, h2, hb2⟩
  rw [nb_be] at h2
  have H2 := Lib.hid h2; clear h2
  replace hb2 := below_step hb hb2
  obtain ⟨hc2, hf2⟩ := bcell hb2
  have HB : Below w.heap.size w w2 := (by repeat' first | exact Below.refl _ _ | refine below_alloc ?_ _ | refine below_step ?_ (by assumption))
  go_wp2
  have r1 : w2.cell? ⟨w.heap.size, 1, none⟩ = some (.slice none 0 0) := by simp [hc2, go_sem]
  refine bodyPost_ret (v := .agg #[.int .u64 s, .slice q k d]) (by simp [results, Tryz.results36, go_sem, hc2]) rfl ⟨s, q, k, d, rfl, H2.out.box r1, ?_⟩
  exact (HB.setCell (by simp) _).setCell (by simp) _
end Go.Proofs.YtfjjmhbffbhhdaaGreatDoor

/- The program's operations on numbers, in the words of an open statement; how long their results are; boxes. -/
namespace Go.Proofs.YtfjjmhbffbhhdaaGreatDoor
open Go.RowKit

theorem ds_add (m n : Nat) : (ds (m + n)).length ≤ (ds m).length + (ds n).length := by
  have h1 := lt_ds m
  have h2 := lt_ds n
  have p1 := ds_pos m; have p2 := ds_pos n
  refine ds_le (by omega) ?_
  rw [Nat.pow_add]
  generalize (ds m).length = i at *
  generalize (ds n).length = j at *
  have e1 : 2 ≤ (2 ^ 64) ^ i := Nat.le_trans (show 2 ≤ (2 ^ 64) ^ 1 by omega) (Nat.pow_le_pow_right (by omega) p1)
  have e2 : 2 ≤ (2 ^ 64) ^ j := Nat.le_trans (show 2 ≤ (2 ^ 64) ^ 1 by omega) (Nat.pow_le_pow_right (by omega) p2)
  generalize (2 ^ 64) ^ i = P at *
  generalize (2 ^ 64) ^ j = Q at *
  have : P + Q ≤ P * Q := by
    obtain ⟨a, rfl⟩ := Nat.exists_eq_add_of_le e1
    obtain ⟨b, rfl⟩ := Nat.exists_eq_add_of_le e2
    grind
  omega
theorem ds_mul (m n : Nat) : (ds (m * n)).length ≤ (ds m).length + (ds n).length := by
  have h1 := lt_ds m
  have h2 := lt_ds n
  have p1 := ds_pos m
  refine ds_le (by omega) ?_
  rw [Nat.pow_add]
  exact Nat.mul_lt_mul'' h1 h2

theorem IsR.box {w : World} {p q : Option Addr} {l c k d n g : Nat} {x : Int} {u v : Value} (h : IsR w p l c n) (h0 : w.cell? ⟨g, 0, none⟩ = some (.int .u64 x)) (h1 : w.cell? ⟨g, 1, none⟩ = some (.slice q k d)) :
    IsR ((w.setCell ⟨g, 0, none⟩ u).setCell ⟨g, 1, none⟩ v) p l c n := by
  obtain ⟨a1, a2, a3⟩ := h
  refine ⟨a1, a2, fun hn => ?_⟩
  obtain ⟨b, off, a4, a5⟩ := a3 hn
  refine ⟨b, off, a4, fun i hi => ?_⟩
  have h2 := a5 i hi
  have e0 : (⟨g, 0, none⟩ : Addr) ≠ ⟨b, off + i, none⟩ := by intro e; rw [← e, h0] at h2; cases h2
  have e1 : (⟨g, 1, none⟩ : Addr) ≠ ⟨b, off + i, none⟩ := by intro e; rw [← e, h1] at h2; cases h2
  rw [World.cell?_setCell_other _ _ _ _ e1, World.cell?_setCell_other _ _ _ _ e0]
  exact h2
theorem nb_lt (bs : List Nat) (k : Nat) (hb : ∀ x ∈ bs, x < 256) (hk : bs.length ≤ k) : nb bs < 256 ^ k := by
  have h1 := val_lt 256 bs.reverse (fun x hx => hb x (List.mem_reverse.1 hx))
  rw [List.length_reverse] at h1
  exact Nat.lt_of_lt_of_le h1 (Nat.pow_le_pow_right (by omega) hk)
theorem bx_other {W : World} {x b o : Nat} {u v y : Value} (h : W.cell? ⟨x, o, none⟩ = some y) (hx : x ≠ b) : ((W.setCell ⟨b, 0, none⟩ u).setCell ⟨b, 1, none⟩ v).cell? ⟨x, o, none⟩ = some y := by
  rw [World.cell?_setCell_other _ _ _ _ (by intro e; injection e with e; exact hx e.symm), World.cell?_setCell_other _ _ _ _ (by intro e; injection e with e; exact hx e.symm)]; exact h
theorem bx_zero {W : World} {b : Nat} {u v y : Value} (h : W.cell? ⟨b, 0, none⟩ = some y) : ((W.setCell ⟨b, 0, none⟩ u).setCell ⟨b, 1, none⟩ v).cell? ⟨b, 0, none⟩ = some u := by
  simp [go_sem, h]
theorem bx_one {W : World} {b : Nat} {u v z : Value} (h1 : W.cell? ⟨b, 1, none⟩ = some z) : ((W.setCell ⟨b, 0, none⟩ u).setCell ⟨b, 1, none⟩ v).cell? ⟨b, 1, none⟩ = some v := by
  simp [go_sem, h1]

theorem add_want (w : World) (u v : Value) (m n : Nat) (hm : (ds m).length ≤ 60) (hn : (ds n).length ≤ 60) (h1 : Num w u m) (h2 : Num w v n) :
    Calls Tryz.prog 40 #[u, v] w fun e w' => ∃ v', e = .returned v' ∧ Num w' v' (m + n) ∧ Below w.heap.size w w' := by
  obtain ⟨s, p, l, c, rfl, h1⟩ := h1
  obtain ⟨t, q, k, d, rfl, h2⟩ := h2
  exact (add_any s t p q l c k d m n w (by omega) (by omega) h1 h2).mono fun _ _ h => h.want
theorem mul_want (w : World) (u v : Value) (m n : Nat) (hm : (ds m).length ≤ 60) (hn : (ds n).length ≤ 60) (h1 : Num w u m) (h2 : Num w v n) :
    Calls Tryz.prog 39 #[u, v] w fun e w' => ∃ v', e = .returned v' ∧ Num w' v' (m * n) ∧ Below w.heap.size w w' := by
  obtain ⟨s, p, l, c, rfl, h1⟩ := h1
  obtain ⟨t, q, k, d, rfl, h2⟩ := h2
  exact (mul_any s t p q l c k d m n w (by omega) (by omega) (Or.inl (by omega)) h1 h2).mono fun _ _ h => h.want
end Go.Proofs.YtfjjmhbffbhhdaaGreatDoor

/- The program's integers: what a value says; the smallest calls. -/
namespace Go.Proofs.YtfjjmhbffbhhdaaGreatDoor
open Go.RowKit

def RetI (W : World) (z : Int) : Ending → World → Prop := fun e w' =>
  ∃ g s p l c, e = .returned (.agg #[.bool g, .int .u64 s, .slice p l c]) ∧ IsI w' g s p l c z ∧ Below W.heap.size W w'
theorem RetI.want {W w' : World} {z : Int} {e : Ending} (h : RetI W z e w') : ∃ v, e = .returned v ∧ INum w' v z ∧ Below W.heap.size W w' := by
  obtain ⟨g, s, p, l, c, rfl, h1, h2⟩ := h
  exact ⟨_, rfl, ⟨g, s, p, l, c, rfl, h1⟩, h2⟩

set_option maxHeartbeats 400000 in
theorem izero_any (n : Nat) (s : Int) (p : Option Addr) (l c : Nat) (w : World) (h : IsN w s p l c n) :
    Calls Tryz.prog 22 #[.agg #[.int .u64 s, .slice p l c]] w fun e w' => e = .returned (.bool (decide (n = 0))) ∧ Below w.heap.size w w' := by
  rcases h with ⟨h1, rfl, rfl, rfl, rfl⟩ | ⟨h1, rfl, b, off, rfl, h4, _, _⟩
  · rcases Nat.eq_zero_or_pos n with h0 | h0
    · subst h0
      clear h1
      go_enter Tryz.func22, Tryz.ntmps22
      go_wp2_with fail
      refine (nsmall_any _ _ _ _ _).mono ?_
      rintro e w1 ⟨rfl, hb⟩
      go_wp2
      go_ret
      exact ⟨rfl, below_step (below_alloc (Below.refl _ _) _) hb⟩
    · have hd : decide (n = 0) = false := decide_eq_false (by omega)
      have hi : ((n : Int) == 0) = false := beq_eq_false_iff_ne.2 (by omega)
      rw [hd]
      clear h1 h0
      go_enter Tryz.func22, Tryz.ntmps22
      go_wp2_with fail
      refine (nsmall_any _ _ _ _ _).mono ?_
      rintro e w1 ⟨rfl, hb⟩
      go_wp2
      go_ret
      exact ⟨rfl, below_step (below_alloc (Below.refl _ _) _) hb⟩
  · have hd : decide (n = 0) = false := decide_eq_false (by omega)
    have hl : ((l : Int) == 0) = false := beq_eq_false_iff_ne.2 (by have := ds_pos n; omega)
    rw [hd]
    clear h1 h4
    go_enter Tryz.func22, Tryz.ntmps22
    go_wp2_with fail
    refine (nsmall_any _ _ _ _ _).mono ?_
    rintro e w1 ⟨rfl, hb⟩
    rw [hl]
    go_wp2
    go_ret
    exact ⟨rfl, below_step (below_alloc (Below.refl _ _) _) hb⟩

def sgn (g : Bool) (n : Nat) : Int := if g then -(n : Int) else n
theorem sgn_abs (g : Bool) (n : Nat) : (sgn g n).natAbs = n := by unfold sgn; split <;> omega
theorem sgn_neg (g : Bool) (n : Nat) : decide (sgn g n < 0) = (g && !decide (n = 0)) := by
  unfold sgn
  cases g with
  | false => simp
  | true => by_cases h : n = 0 <;> simp [h]; omega

theorem IsN.ibox {w : World} {s : Int} {p q : Option Addr} {l c k d n g : Nat} {x : Bool} {u v y : Value} (h : IsN w s p l c n) (h0 : w.cell? ⟨g, 0, none⟩ = some (.bool x)) (h2 : w.cell? ⟨g, 2, none⟩ = some (.slice q k d)) :
    IsN (((w.setCell ⟨g, 0, none⟩ u).setCell ⟨g, 1, none⟩ v).setCell ⟨g, 2, none⟩ y) s p l c n := by
  rcases h with h | ⟨a1, a2, b, off, a3, a4, a5, a6⟩
  · exact Or.inl h
  · refine Or.inr ⟨a1, a2, b, off, a3, a4, a5, fun i hi => ?_⟩
    have h4 := ds_two a1
    have h3 : ∀ o, o < 3 → (⟨g, o, none⟩ : Addr) ≠ ⟨b, off + i, none⟩ := by
      intro o ho e
      injection e with e1 e2
      subst e1
      rcases Nat.eq_zero_or_pos off with hz | hz
      · have h5 := a6 0 (by omega)
        rw [show off + 0 = 0 from by omega, h0] at h5
        cases h5
      · have h5 := a6 (2 - off) (by omega)
        rw [show off + (2 - off) = 2 from by omega, h2] at h5
        cases h5
    rw [World.cell?_setCell_other _ _ _ _ (h3 2 (by omega)), World.cell?_setCell_other _ _ _ _ (h3 1 (by omega)), World.cell?_setCell_other _ _ _ _ (h3 0 (by omega))]
    exact a6 i hi
theorem below_iset {B g : Nat} {w w' : World} {u v y : Value} (h : Below B w w') (hg : B ≤ g) : Below B w (((w'.setCell ⟨g, 0, none⟩ u).setCell ⟨g, 1, none⟩ v).setCell ⟨g, 2, none⟩ y) :=
  ((h.setCell (p := ⟨g, 0, none⟩) hg u).setCell (p := ⟨g, 1, none⟩) hg v).setCell (p := ⟨g, 2, none⟩) hg y

theorem sgn_is (z : Int) : sgn (decide (z < 0)) z.natAbs = z := by unfold sgn; by_cases h : z < 0 <;> simp [h] <;> omega
theorem isI_sgn {w : World} {g : Bool} {s : Int} {p : Option Addr} {l c n : Nat} (h : IsN w s p l c n) : IsI w (g && !decide (n = 0)) s p l c (sgn g n) := ⟨(sgn_neg g n).symm, by rw [sgn_abs]; exact h⟩

set_option maxHeartbeats 1000000 in
theorem iFrom_any (g : Bool) (n : Nat) (s : Int) (p : Option Addr) (l c : Nat) (w : World) (h : IsN w s p l c n) :
    Calls Tryz.prog 35 #[.bool g, .agg #[.int .u64 s, .slice p l c]] w (RetI w (sgn g n)) := by
  have H := Lib.hid h
  have HZ := Lib.hid (fun W a => izero_any n s p l c W a)
  have HI := Lib.hid (fun W a => isI_sgn (w := W) (g := g) (s := s) (p := p) (l := l) (c := c) (n := n) a)
  obtain ⟨z, hz⟩ : ∃ z, z = decide (n = 0) := ⟨_, rfl⟩
  rw [← hz] at HZ HI
  clear h hz
  generalize sgn g n = v at *
  cases g with
  | false =>
    go_enter Tryz.func35, Tryz.ntmps35
    go_wp2
    go_region_with (fail)
    all_goals
      go_wp2
      exact bodyPost_ret (v := .agg #[.bool false, .int .u64 s, .slice p l c]) (by simp [results, Tryz.results35, go_sem]) rfl ⟨_, _, _, _, _, rfl, HI.out _ (H.out.mono (by repeat' first | exact Below.refl _ _ | refine below_alloc ?_ _ | refine Below.drew ?_)), (by repeat' first | exact Below.refl _ _ | refine below_alloc ?_ _ | refine Below.drew ?_)⟩
  | true =>
    go_enter Tryz.func35, Tryz.ntmps35
    go_wp2
    go_region_with (go_at_call 22; refine (HZ.out _ (H.out.mono (by repeat' first | exact Below.refl _ _ | refine below_alloc ?_ _ | refine Below.drew ?_ | refine below_step ?_ (by assumption)))).mono ?_; rintro e w1 ⟨rfl, hb⟩; obtain ⟨hc, hf⟩ := bcell hb)
    all_goals
      go_wp2
      have r0 : w1.cell? ⟨w.heap.size + 1, 0, none⟩ = some (.bool false) := by simp [hc, go_sem]
      have r1 : w1.cell? ⟨w.heap.size + 1, 1, none⟩ = some (.int .u64 0) := by simp [hc, go_sem]
      have r2 : w1.cell? ⟨w.heap.size + 1, 2, none⟩ = some (.slice none 0 0) := by simp [hc, go_sem]
      have HB : Below w.heap.size w w1 := (by repeat' first | exact Below.refl _ _ | refine below_alloc ?_ _ | refine Below.drew ?_ | refine below_step ?_ (by assumption))
      exact bodyPost_ret (v := .agg #[.bool (!z), .int .u64 s, .slice p l c]) (by simp [results, Tryz.results35, go_sem, r0, r1, r2]) rfl ⟨_, _, _, _, _, rfl, HI.out _ ((H.out.mono HB).ibox r0 r2), below_iset HB (by omega)⟩
theorem rset_other {W : World} {r a o : Nat} {u v y z : Value} (h : W.cell? ⟨a, o, none⟩ = some z) (hn : a ≠ r) : (((W.setCell ⟨r, 0, none⟩ u).setCell ⟨r, 1, none⟩ v).setCell ⟨r, 2, none⟩ y).cell? ⟨a, o, none⟩ = some z := by
  rw [World.cell?_setCell_other _ _ _ _ (by intro e; injection e with e; exact hn e.symm), World.cell?_setCell_other _ _ _ _ (by intro e; injection e with e; exact hn e.symm), World.cell?_setCell_other _ _ _ _ (by intro e; injection e with e; exact hn e.symm)]
  exact h

def Box (w : World) (a : Nat) (g : Bool) (s : Int) (p : Option Addr) (l c : Nat) : Prop := w.cell? ⟨a, 0, none⟩ = some (.bool g) ∧ w.cell? ⟨a, 1, none⟩ = some (.int .u64 s) ∧ w.cell? ⟨a, 2, none⟩ = some (.slice p l c)
theorem boxes2 (w : World) (g1 g2 : Bool) (s1 s2 : Int) (p1 p2 : Option Addr) (l1 c1 l2 c2 : Nat) :
    ∃ W a b r, W = ((w.alloc (.cells #[.bool g1, .int .u64 s1, .slice p1 l1 c1] 28)).alloc (.cells #[.bool g2, .int .u64 s2, .slice p2 l2 c2] 28)).alloc (.cells #[.bool false, .int .u64 0, .slice none 0 0] 28) ∧ r = w.heap.size + 1 + 1 ∧ b = w.heap.size + 1 ∧ a = w.heap.size ∧
      Box W a g1 s1 p1 l1 c1 ∧ Box W b g2 s2 p2 l2 c2 ∧ Box W r false 0 none 0 0 ∧ W.frozen? ⟨r, 0, none⟩ = false ∧ W.frozen? ⟨r, 1, none⟩ = false ∧ W.frozen? ⟨r, 2, none⟩ = false ∧ a ≠ r ∧ b ≠ r ∧ a ≠ b ∧ a < W.heap.size ∧ b < W.heap.size ∧ r < W.heap.size ∧ w.heap.size ≤ r ∧ Below w.heap.size w W := by
  refine ⟨_, _, _, _, rfl, rfl, rfl, rfl, ⟨?_, ?_, ?_⟩, ⟨?_, ?_, ?_⟩, ⟨?_, ?_, ?_⟩, ?_, ?_, ?_, by omega, by omega, by omega, by simp only [World.size_alloc]; omega, by simp only [World.size_alloc]; omega, by simp only [World.size_alloc]; omega, by omega,
    below_alloc (below_alloc (below_alloc (Below.refl _ _) _) _) _⟩
  all_goals simp [go_sem]
theorem bstep {W w1 : World} (hb : Below W.heap.size W w1) {a : Nat} (h : a < W.heap.size) : a < w1.heap.size := Nat.lt_of_lt_of_le h hb.size
end Go.Proofs.YtfjjmhbffbhhdaaGreatDoor

/- Fractions in lowest terms, by Lean's own: sizes, sums, products and the order by their parts. -/
namespace Go.Proofs.YtfjjmhbffbhhdaaGreatDoor
open Go.RowKit

theorem bl_mono {m n : Nat} (h : m ≤ n) : bitLen m ≤ bitLen n := bitLen_lt_pow.1 (Nat.lt_of_le_of_lt h (bitLen_lt_pow.2 (Nat.le_refl _)))
theorem bl_mul {m n j k : Nat} (hm : bitLen m ≤ j) (hn : bitLen n ≤ k) : bitLen (m * n) ≤ j + k := by
  rw [← bitLen_lt_pow] at hm hn ⊢
  rw [Nat.pow_add]; exact Nat.mul_lt_mul'' hm hn
theorem bl_add {m n j k : Nat} (hm : bitLen m ≤ j) (hn : bitLen n ≤ k) : bitLen (m + n) ≤ max j k + 1 := by
  have h1 : bitLen m ≤ max j k := by omega
  have h2 : bitLen n ≤ max j k := by omega
  rw [← bitLen_lt_pow] at h1 h2 ⊢
  rw [Nat.pow_succ]; omega
theorem bl_div {m n j : Nat} (hm : bitLen m ≤ j) : bitLen (m / n) ≤ j := Nat.le_trans (bl_mono (Nat.div_le_self m n)) hm
theorem ds_bl {n k : Nat} (hk : 0 < k) (h : bitLen n ≤ 64 * k) : (ds n).length ≤ k := by
  rw [← bitLen_lt_pow, Nat.pow_mul] at h
  exact ds_le hk h
def QB (x : Rat) (k : Nat) : Prop := bitLen x.num.natAbs ≤ k ∧ bitLen x.den ≤ k
theorem QB.mono {x : Rat} {j k : Nat} (h : QB x j) (hk : j ≤ k) : QB x k := ⟨Nat.le_trans h.1 hk, Nat.le_trans h.2 hk⟩
theorem QB.pos {x : Rat} {k : Nat} (h : QB x k) : 1 ≤ k := by
  have h1 : bitLen 1 ≤ bitLen x.den := bl_mono x.den_pos
  have h2 : bitLen 1 = 1 := by decide
  have := h.2
  omega
theorem QB.neg {x : Rat} {k : Nat} (h : QB x k) : QB (-x) k := by
  refine ⟨?_, h.2⟩
  rw [Rat.neg_num, Int.natAbs_neg]; exact h.1
theorem mkRat_bits {n : Int} {d k : Nat} (h1 : bitLen n.natAbs ≤ k) (h2 : bitLen d ≤ k) (hk : 1 ≤ k) : QB (mkRat n d) k := by
  refine ⟨?_, ?_⟩
  · rw [Rat.num_mkRat]
    split
    · simp [bitLen]
    · refine Nat.le_trans (bl_mono ?_) h1
      rw [Int.natAbs_ediv_of_dvd (Int.ofNat_dvd_left.2 (Nat.gcd_dvd_right _ _)), Int.natAbs_natCast]
      exact Nat.div_le_self _ _
  · rw [Rat.den_mkRat]
    split
    · have h2 : bitLen 1 = 1 := by decide
      omega
    · exact bl_div h2
theorem QB.add {x y : Rat} {j k : Nat} (h1 : QB x j) (h2 : QB y k) : QB (x + y) (j + k + 1) := by
  rw [Rat.add_def']
  refine mkRat_bits ?_ (Nat.le_trans (bl_mul h1.2 h2.2) (by omega)) (by omega)
  refine Nat.le_trans (bl_mono (Int.natAbs_add_le _ _)) ?_
  rw [Int.natAbs_mul, Int.natAbs_mul, Int.natAbs_natCast, Int.natAbs_natCast]
  refine Nat.le_trans (bl_add (bl_mul h1.1 h2.2) (bl_mul h2.1 h1.2)) (by omega)
theorem QB.sub {x y : Rat} {j k : Nat} (h1 : QB x j) (h2 : QB y k) : QB (x - y) (j + k + 1) := by
  rw [Rat.sub_eq_add_neg]; exact h1.add h2.neg
end Go.Proofs.YtfjjmhbffbhhdaaGreatDoor
