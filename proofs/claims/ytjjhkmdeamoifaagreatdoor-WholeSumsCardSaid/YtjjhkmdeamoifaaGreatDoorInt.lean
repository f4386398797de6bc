/- The program's integers: what a value says; the smallest calls. -/
import Derived.Test.YtjjhkmdeamoifaaGreatDoorNumKit
import Derived.Deep.RegionWith
import Derived.Deep.RegionHeld3
namespace Go.Proofs.YtjjhkmdeamoifaaGreatDoor
open Go.RowKit

/-- What a call that returns an integer leaves. -/
def RetI (W : World) (z : Int) : Ending → World → Prop := fun e w' =>
  ∃ g s p l c, e = .returned (.agg #[.bool g, .int .u64 s, .slice p l c]) ∧ IsI w' g s p l c z ∧ Below W.heap.size W w'
theorem RetI.want {W w' : World} {z : Int} {e : Ending} (h : RetI W z e w') : ∃ v, e = .returned v ∧ INum w' v z ∧ Below W.heap.size W w' := by
  obtain ⟨g, s, p, l, c, rfl, h1, h2⟩ := h
  exact ⟨_, rfl, ⟨g, s, p, l, c, rfl, h1⟩, h2⟩

set_option maxHeartbeats 400000 in
theorem izero_any (n : Nat) (s : Int) (p : Option Addr) (l c : Nat) (w : World) (h : IsN w s p l c n) :
    Calls Tryz.prog 37 #[.agg #[.int .u64 s, .slice p l c]] w fun e w' => e = .returned (.bool (decide (n = 0))) ∧ Below w.heap.size w w' := by
  rcases h with ⟨h1, rfl, rfl, rfl, rfl⟩ | ⟨h1, rfl, b, off, rfl, h4, _, _⟩
  · rcases Nat.eq_zero_or_pos n with h0 | h0
    · subst h0
      clear h1
      go_enter Tryz.func37, Tryz.ntmps37
      go_wp2_with fail
      refine (nsmall_any _ _ _ _ _).mono ?_
      rintro e w1 ⟨rfl, hb⟩
      go_wp2
      go_ret
      exact ⟨rfl, below_step (below_alloc (Below.refl _ _) _) hb⟩
    · have hd : decide (n = 0) = false := decide_eq_false (by omega)
      have hi : ((n : Int) == 0) = false := beq_eq_false_iff_ne.2 (by omega)
      rw [hd]
      clear h1 h0
      go_enter Tryz.func37, Tryz.ntmps37
      go_wp2_with fail
      refine (nsmall_any _ _ _ _ _).mono ?_
      rintro e w1 ⟨rfl, hb⟩
      go_wp2
      go_ret
      exact ⟨rfl, below_step (below_alloc (Below.refl _ _) _) hb⟩
  · have hd : decide (n = 0) = false := decide_eq_false (by omega)
    have hl : ((l : Int) == 0) = false := beq_eq_false_iff_ne.2 (by have := ds_pos n; omega)
    rw [hd]
    clear h1 h4
    go_enter Tryz.func37, Tryz.ntmps37
    go_wp2_with fail
    refine (nsmall_any _ _ _ _ _).mono ?_
    rintro e w1 ⟨rfl, hb⟩
    rw [hl]
    go_wp2
    go_ret
    exact ⟨rfl, below_step (below_alloc (Below.refl _ _) _) hb⟩

/-- What a sign and a number say. -/
def sgn (g : Bool) (n : Nat) : Int := if g then -(n : Int) else n
theorem sgn_abs (g : Bool) (n : Nat) : (sgn g n).natAbs = n := by unfold sgn; split <;> omega
theorem sgn_neg (g : Bool) (n : Nat) : decide (sgn g n < 0) = (g && !decide (n = 0)) := by
  unfold sgn
  cases g with
  | false => simp
  | true => by_cases h : n = 0 <;> simp [h]; omega

/-- A box of an integer is written: the numbers stay. -/
theorem IsN.ibox {w : World} {s : Int} {p q : Option Addr} {l c k d n g : Nat} {x : Bool} {u v y : Value} (h : IsN w s p l c n) (h0 : w.cell? ⟨g, 0, none⟩ = some (.bool x)) (h2 : w.cell? ⟨g, 2, none⟩ = some (.slice q k d)) :
    IsN (((w.setCell ⟨g, 0, none⟩ u).setCell ⟨g, 1, none⟩ v).setCell ⟨g, 2, none⟩ y) s p l c n := by
  rcases h with h | ⟨a1, a2, b, off, a3, a4, a5, a6⟩
  · exact Or.inl h
  · refine Or.inr ⟨a1, a2, b, off, a3, a4, a5, fun i hi => ?_⟩
    have h4 := ds_two a1
    have h3 : ∀ o, o < 3 → (⟨g, o, none⟩ : Addr) ≠ ⟨b, off + i, none⟩ := by
      intro o ho e
      injection e with e1 e2
      subst e1
      rcases Nat.eq_zero_or_pos off with hz | hz
      · have h5 := a6 0 (by omega)
        rw [show off + 0 = 0 from by omega, h0] at h5
        cases h5
      · have h5 := a6 (2 - off) (by omega)
        rw [show off + (2 - off) = 2 from by omega, h2] at h5
        cases h5
    rw [World.cell?_setCell_other _ _ _ _ (h3 2 (by omega)), World.cell?_setCell_other _ _ _ _ (h3 1 (by omega)), World.cell?_setCell_other _ _ _ _ (h3 0 (by omega))]
    exact a6 i hi
theorem below_iset {B g : Nat} {w w' : World} {u v y : Value} (h : Below B w w') (hg : B ≤ g) : Below B w (((w'.setCell ⟨g, 0, none⟩ u).setCell ⟨g, 1, none⟩ v).setCell ⟨g, 2, none⟩ y) :=
  ((h.setCell (p := ⟨g, 0, none⟩) hg u).setCell (p := ⟨g, 1, none⟩) hg v).setCell (p := ⟨g, 2, none⟩) hg y

theorem sgn_is (z : Int) : sgn (decide (z < 0)) z.natAbs = z := by unfold sgn; by_cases h : z < 0 <;> simp [h] <;> omega
theorem isI_sgn {w : World} {g : Bool} {s : Int} {p : Option Addr} {l c n : Nat} (h : IsN w s p l c n) : IsI w (g && !decide (n = 0)) s p l c (sgn g n) := ⟨(sgn_neg g n).symm, by rw [sgn_abs]; exact h⟩

set_option maxHeartbeats 1000000 in
/-- The integer of a sign and a number. -/
theorem iFrom_any (g : Bool) (n : Nat) (s : Int) (p : Option Addr) (l c : Nat) (w : World) (h : IsN w s p l c n) :
    Calls Tryz.prog 31 #[.bool g, .agg #[.int .u64 s, .slice p l c]] w (RetI w (sgn g n)) := by
  have H := Lib.hid h
  have HZ := Lib.hid (fun W a => izero_any n s p l c W a)
  have HI := Lib.hid (fun W a => isI_sgn (w := W) (g := g) (s := s) (p := p) (l := l) (c := c) (n := n) a)
  obtain ⟨z, hz⟩ : ∃ z, z = decide (n = 0) := ⟨_, rfl⟩
  rw [← hz] at HZ HI
  clear h hz
  generalize sgn g n = v at *
  cases g with
  | false =>
    go_enter Tryz.func31, Tryz.ntmps31
    go_wp2
    go_region_with (fail)
    all_goals
      go_wp2
      exact bodyPost_ret (v := .agg #[.bool false, .int .u64 s, .slice p l c]) (by simp [results, Tryz.results31, go_sem]) rfl ⟨_, _, _, _, _, rfl, HI.out _ (H.out.mono (by repeat' first | exact Below.refl _ _ | refine below_alloc ?_ _ | refine Below.drew ?_)), (by repeat' first | exact Below.refl _ _ | refine below_alloc ?_ _ | refine Below.drew ?_)⟩
  | true =>
    go_enter Tryz.func31, Tryz.ntmps31
    go_wp2
    go_region_with (go_at_call 37; refine (HZ.out _ (H.out.mono (by repeat' first | exact Below.refl _ _ | refine below_alloc ?_ _ | refine Below.drew ?_ | refine below_step ?_ (by assumption)))).mono ?_; rintro e w1 ⟨rfl, hb⟩; obtain ⟨hc, hf⟩ := bcell hb)
    all_goals
      go_wp2
      have r0 : w1.cell? ⟨w.heap.size + 1, 0, none⟩ = some (.bool false) := by simp [hc, go_sem]
      have r1 : w1.cell? ⟨w.heap.size + 1, 1, none⟩ = some (.int .u64 0) := by simp [hc, go_sem]
      have r2 : w1.cell? ⟨w.heap.size + 1, 2, none⟩ = some (.slice none 0 0) := by simp [hc, go_sem]
      have HB : Below w.heap.size w w1 := (by repeat' first | exact Below.refl _ _ | refine below_alloc ?_ _ | refine Below.drew ?_ | refine below_step ?_ (by assumption))
      exact bodyPost_ret (v := .agg #[.bool (!z), .int .u64 s, .slice p l c]) (by simp [results, Tryz.results31, go_sem, r0, r1, r2]) rfl ⟨_, _, _, _, _, rfl, HI.out _ ((H.out.mono HB).ibox r0 r2), below_iset HB (by omega)⟩
theorem rset_other {W : World} {r a o : Nat} {u v y z : Value} (h : W.cell? ⟨a, o, none⟩ = some z) (hn : a ≠ r) : (((W.setCell ⟨r, 0, none⟩ u).setCell ⟨r, 1, none⟩ v).setCell ⟨r, 2, none⟩ y).cell? ⟨a, o, none⟩ = some z := by
  rw [World.cell?_setCell_other _ _ _ _ (by intro e; injection e with e; exact hn e.symm), World.cell?_setCell_other _ _ _ _ (by intro e; injection e with e; exact hn e.symm), World.cell?_setCell_other _ _ _ _ (by intro e; injection e with e; exact hn e.symm)]
  exact h

/-- A box of an integer. -/
def Box (w : World) (a : Nat) (g : Bool) (s : Int) (p : Option Addr) (l c : Nat) : Prop := w.cell? ⟨a, 0, none⟩ = some (.bool g) ∧ w.cell? ⟨a, 1, none⟩ = some (.int .u64 s) ∧ w.cell? ⟨a, 2, none⟩ = some (.slice p l c)
/-- The boxes of two arguments and of a result. -/
theorem boxes2 (w : World) (g1 g2 : Bool) (s1 s2 : Int) (p1 p2 : Option Addr) (l1 c1 l2 c2 : Nat) :
    ∃ W a b r, W = ((w.alloc (.cells #[.bool g1, .int .u64 s1, .slice p1 l1 c1] 28)).alloc (.cells #[.bool g2, .int .u64 s2, .slice p2 l2 c2] 28)).alloc (.cells #[.bool false, .int .u64 0, .slice none 0 0] 28) ∧ r = w.heap.size + 1 + 1 ∧ b = w.heap.size + 1 ∧ a = w.heap.size ∧
      Box W a g1 s1 p1 l1 c1 ∧ Box W b g2 s2 p2 l2 c2 ∧ Box W r false 0 none 0 0 ∧ W.frozen? ⟨r, 0, none⟩ = false ∧ W.frozen? ⟨r, 1, none⟩ = false ∧ W.frozen? ⟨r, 2, none⟩ = false ∧ a ≠ r ∧ b ≠ r ∧ a ≠ b ∧ a < W.heap.size ∧ b < W.heap.size ∧ r < W.heap.size ∧ w.heap.size ≤ r ∧ Below w.heap.size w W := by
  refine ⟨_, _, _, _, rfl, rfl, rfl, rfl, ⟨?_, ?_, ?_⟩, ⟨?_, ?_, ?_⟩, ⟨?_, ?_, ?_⟩, ?_, ?_, ?_, by omega, by omega, by omega, by simp only [World.size_alloc]; omega, by simp only [World.size_alloc]; omega, by simp only [World.size_alloc]; omega, by omega,
    below_alloc (below_alloc (below_alloc (Below.refl _ _) _) _) _⟩
  all_goals simp [go_sem]
theorem bstep {W w1 : World} (hb : Below W.heap.size W w1) {a : Nat} (h : a < W.heap.size) : a < w1.heap.size := Nat.lt_of_lt_of_le h hb.size
end Go.Proofs.YtjjhkmdeamoifaaGreatDoor
