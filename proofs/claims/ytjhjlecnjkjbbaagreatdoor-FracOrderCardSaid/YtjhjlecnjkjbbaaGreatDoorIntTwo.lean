/- Integers of 64 bits; the program's integer of a document's; the two of the laws. -/
import Derived.Test.YtjhjlecnjkjbbaaGreatDoorIntWant
import Derived.Test.YtjhjlecnjkjbbaaGreatDoorRefCmp
namespace Go.Proofs.YtjhjlecnjkjbbaaGreatDoor
open Go.RowKit

set_option maxHeartbeats 400000 in
theorem iOf_any (n : Int) (w : World) (h1 : -9223372036854775808 ≤ n) (h2 : n ≤ 9223372036854775807) : Calls Tryz.prog 33 #[.int .i64 n] w (RetI w n) := by
  rcases Int.lt_or_le n 0 with hn | hn
  · obtain ⟨m, hm⟩ : ∃ m : Nat, m = n.natAbs := ⟨_, rfl⟩
    have wn : IntKind.u64.wrap (-IntKind.u64.wrap n) = (m : Int) := by rw [IntKind.wrap_u64, IntKind.wrap_u64]; omega
    have HI : Hid (∀ W, IsI W true (m : Int) none 0 0 n) := Lib.hid (fun W => ⟨(decide_eq_true hn).symm, by rw [← hm]; exact Or.inl ⟨by omega, rfl, rfl, rfl, rfl⟩⟩)
    clear h1 h2 hm
    go_enter Tryz.func33, Tryz.ntmps33
    go_wp2_with fail
    refine (of_any _ _).mono ?_
    rintro e w1 ⟨rfl, hb⟩
    obtain ⟨hc, hf⟩ := bcell hb
    have r0 : w1.cell? ⟨w.heap.size, 0, none⟩ = some (.bool false) := by simp [hc, go_sem]
    have r1 : w1.cell? ⟨w.heap.size, 1, none⟩ = some (.int .u64 0) := by simp [hc, go_sem]
    have r2 : w1.cell? ⟨w.heap.size, 2, none⟩ = some (.slice none 0 0) := by simp [hc, go_sem]
    go_wp2
    exact bodyPost_ret (v := .agg #[.bool true, .int .u64 m, .slice none 0 0]) (by simp [results, Tryz.results33, go_sem, r0, r1, r2]) rfl ⟨_, _, _, _, _, rfl, HI.out _, below_iset (below_step (below_alloc (Below.refl _ _) _) hb) (Nat.le_refl _)⟩
  · have wn : IntKind.u64.wrap n = n := by rw [IntKind.wrap_u64]; omega
    have HI : Hid (∀ W, IsI W false n none 0 0 n) := Lib.hid (fun W => ⟨(decide_eq_false (by omega)).symm, Or.inl ⟨by omega, by omega, rfl, rfl, rfl⟩⟩)
    have hn' : ¬ n < 0 := by omega
    clear h1 h2 hn
    go_enter Tryz.func33, Tryz.ntmps33
    go_wp2_with fail
    refine (of_any _ _).mono ?_
    rintro e w1 ⟨rfl, hb⟩
    obtain ⟨hc, hf⟩ := bcell hb
    have r0 : w1.cell? ⟨w.heap.size, 0, none⟩ = some (.bool false) := by simp [hc, go_sem]
    have r1 : w1.cell? ⟨w.heap.size, 1, none⟩ = some (.int .u64 0) := by simp [hc, go_sem]
    have r2 : w1.cell? ⟨w.heap.size, 2, none⟩ = some (.slice none 0 0) := by simp [hc, go_sem]
    go_wp2
    exact bodyPost_ret (v := .agg #[.bool false, .int .u64 n, .slice none 0 0]) (by simp [results, Tryz.results33, go_sem, r0, r1, r2]) rfl ⟨_, _, _, _, _, rfl, HI.out _, below_iset (below_step (below_alloc (Below.refl _ _) _) hb) (Nat.le_refl _)⟩

def RetRI (W : World) (z : Int) : Ending → World → Prop := fun e w' => ∃ g p l c, e = .returned (.agg #[.bool g, .slice p l c]) ∧ IsRI w' g p l c z ∧ Below W.heap.size W w'
theorem isRI_sgn {w : World} {g : Bool} {p : Option Addr} {l c n : Nat} (h : IsR w p l c n) : IsRI w (g && !decide (n = 0)) p l c (sgn g n) := ⟨(sgn_neg g n).symm, by rw [sgn_abs]; exact h⟩
theorem IsR.zero_iff {w : World} {p : Option Addr} {l c n : Nat} (h : IsR w p l c n) : l = 0 ↔ n = 0 := by
  constructor
  · intro hl
    rcases Nat.eq_zero_or_pos n with h0 | h0
    · exact h0
    · have := dr_pos (n := n) (by omega); have := h.1; omega
  · rintro rfl; have := h.1; rw [dr_zero] at this; exact this

set_option maxHeartbeats 400000 in
theorem rI_any (g : Bool) (n : Nat) (p : Option Addr) (l c : Nat) (w : World) (h : IsR w p l c n) : Calls Tryz.prog 42 #[.bool g, .slice p l c] w (RetRI w (sgn g n)) := by
  have HI := Lib.hid (isRI_sgn (g := g) h)
  have hz := h.zero_iff
  cases g with
  | false =>
    clear h hz
    rw [Bool.false_and] at HI
    go_enter Tryz.func42, Tryz.ntmps42
    go_wp2
    exact bodyPost_ret (v := .agg #[.bool false, .slice p l c]) (by simp [results, Tryz.results42, go_sem]) rfl ⟨_, _, _, _, rfl, HI.out.mono (by repeat' first | exact Below.refl _ _ | refine below_alloc ?_ _ | refine Below.drew ?_ | refine below_step ?_ (by assumption)), (by repeat' first | exact Below.refl _ _ | refine below_alloc ?_ _ | refine Below.drew ?_ | refine below_step ?_ (by assumption))⟩
  | true =>
    by_cases h0 : n = 0
    · have hl : l = 0 := hz.2 h0
      rw [decide_eq_true h0] at HI
      clear h hz h0
      subst hl
      go_enter Tryz.func42, Tryz.ntmps42
      go_wp2
      exact bodyPost_ret (v := .agg #[.bool false, .slice p 0 c]) (by simp [results, Tryz.results42, go_sem]) rfl ⟨_, _, _, _, rfl, HI.out.mono (by repeat' first | exact Below.refl _ _ | refine below_alloc ?_ _ | refine Below.drew ?_ | refine below_step ?_ (by assumption)), (by repeat' first | exact Below.refl _ _ | refine below_alloc ?_ _ | refine Below.drew ?_ | refine below_step ?_ (by assumption))⟩
    · have hl : 0 < l := by have := fun h => h0 (hz.1 h); omega
      rw [decide_eq_false h0] at HI
      clear h hz h0
      go_enter Tryz.func42, Tryz.ntmps42
      go_wp2
      exact bodyPost_ret (v := .agg #[.bool true, .slice p l c]) (by simp [results, Tryz.results42, go_sem]) rfl ⟨_, _, _, _, rfl, HI.out.mono (by repeat' first | exact Below.refl _ _ | refine below_alloc ?_ _ | refine Below.drew ?_ | refine below_step ?_ (by assumption)), (by repeat' first | exact Below.refl _ _ | refine below_alloc ?_ _ | refine Below.drew ?_ | refine below_step ?_ (by assumption))⟩

set_option maxRecDepth 100000 in
set_option maxHeartbeats 2000000 in
theorem hInt_any (z : Int) (g : Bool) (p : Option Addr) (l c : Nat) (w : World) (hz : (ds z.natAbs).length ≤ 60) (h : IsRI w g p l c z) : Calls Tryz.prog 43 #[.agg #[.bool g, .slice p l c]] w (RetI w z) := by
  obtain ⟨hg, h⟩ := h
  have HN := Lib.hid (fun W a => hNat_any z.natAbs p l c W a (by have := dr_ds z.natAbs; omega))
  have HF := Lib.hid (fun s q k d W a => iFrom_any g z.natAbs s q k d W a)
  rw [show sgn g z.natAbs = z by rw [hg]; exact sgn_is z] at HF
  have H := Lib.hid h
  clear hg h hz
  go_enter Tryz.func43, Tryz.ntmps43
  go_wp2
  obtain ⟨W, hW⟩ : ∃ W, W = (w.alloc (.cells #[.bool g, .slice p l c] 28)).alloc (.cells #[.bool false, .int .u64 0, .slice none 0 0] 37) := ⟨_, rfl⟩
  obtain ⟨r, hr⟩ : ∃ r, r = w.heap.size + 1 := ⟨_, rfl⟩
  obtain ⟨a, ha⟩ : ∃ a, a = w.heap.size := ⟨_, rfl⟩
  have HB : Below w.heap.size w W := by rw [hW]; exact below_alloc (below_alloc (Below.refl _ _) _) _
  have A0 : W.cell? ⟨a, 0, none⟩ = some (.bool g) := by simp [hW, ha, go_sem]
  have A1 : W.cell? ⟨a, 1, none⟩ = some (.slice p l c) := by simp [hW, ha, go_sem]
  have R0 : W.cell? ⟨r, 0, none⟩ = some (.bool false) := by simp [hW, hr, go_sem]
  have R1 : W.cell? ⟨r, 1, none⟩ = some (.int .u64 0) := by simp [hW, hr, go_sem]
  have R2 : W.cell? ⟨r, 2, none⟩ = some (.slice none 0 0) := by simp [hW, hr, go_sem]
  have OLD_r : BoxHas W r .int (.agg #[.bool false, .int .u64 0, .slice none 0 0]) ∧ BoxFree W r .int := ⟨.mkInt R0 R1 R2, free3 (by simp [hW, hr, go_sem]) (by simp [hW, hr, go_sem]) (by simp [hW, hr, go_sem])⟩
  have ir : a ∉ [r] := by simp; omega
  have zw : w.heap.size ≤ r := by omega
  rw [← hW, ← hr, ← ha]
  clear hW hr ha
  refine region_told (T := [0, 1, 2, 3, 4, 5]) (slots := [3, 4, 5, 6, 7, 8])
      (tab := [.is (.pointer (some ⟨a, 0, none⟩)), .is (.bool g), .is (.pointer (some ⟨a, 1, none⟩)), .is (.slice p l c), .num z.natAbs, .int z, .any])
      (D := [⟨r, .int, none, 6, (.int z), (.agg #[.bool false, .int .u64 0, .slice none 0 0])⟩])
      (F := [(.slice p l c, .rnum z.natAbs)])
      (by kernel_rfl) (by kernel_rfl) (by kernel_rfl) (by kernel_rfl) (by kernel_rfl) (by kernel_rfl) (by kernel_rfl) ?_ ?_ ?_ ?_ ?_
  · skip
    refine List.Pairwise.cons (fun y hy => ?_) ?_
    · cases hy
    exact List.Pairwise.nil
  · intro f hf; simp only [List.mem_cons, List.not_mem_nil, or_false] at hf; rcases hf with rfl
    · exact ⟨_, _, _, rfl, H.out.mono HB⟩
  · intro x hx hal; simp only [List.mem_cons, List.not_mem_nil, or_false] at hx; rcases hx with rfl
    · exact ⟨OLD_r.1, OLD_r.2, OLD_r.1.lt rfl⟩
  · skip
    refine AllTold.cons rfl (fun β E W hA hF hc hf hE hV hP hB hS => Or.inl ⟨rfl, (by kernel_rfl), ?_⟩) ?_
    · have e1 : E (.tmp 1) = .pointer (some ⟨a, 0, none⟩) := hE 1 (by kernel_rfl)
      clear hE hV hP hB hS
      exact Does.value (w' := W) (by go_simp) ⟨rfl, Below.refl _ _⟩
    refine AllTold.cons rfl (fun β E W hA hF hc hf hE hV hP hB hS => Or.inl ⟨rfl, (by kernel_rfl), ?_⟩) ?_
    · have e1 : E (.tmp 3) = (.pointer (some ⟨a, 0, none⟩)) := hV 0 3 (by kernel_rfl) rfl
      have q0 := hA.cell A0 ir
      clear hE hV hP hB hS
      exact Does.value (w' := W) (by go_simp) ⟨rfl, Below.refl _ _⟩
    refine AllTold.cons rfl (fun β E W hA hF hc hf hE hV hP hB hS => Or.inl ⟨rfl, (by kernel_rfl), ?_⟩) ?_
    · have e1 : E (.tmp 1) = .pointer (some ⟨a, 0, none⟩) := hE 1 (by kernel_rfl)
      clear hE hV hP hB hS
      exact Does.value (w' := W) (by go_simp) ⟨rfl, Below.refl _ _⟩
    refine AllTold.cons rfl (fun β E W hA hF hc hf hE hV hP hB hS => Or.inl ⟨rfl, (by kernel_rfl), ?_⟩) ?_
    · have e1 : E (.tmp 5) = (.pointer (some ⟨a, 1, none⟩)) := hV 2 5 (by kernel_rfl) rfl
      have q0 := hA.cell A1 ir
      clear hE hV hP hB hS
      exact Does.value (w' := W) (by go_simp) ⟨rfl, Below.refl _ _⟩
    refine AllTold.cons rfl (fun β E W hA hF hc hf hE hV hP hB hS => Or.inl ⟨rfl, (by kernel_rfl), ?_⟩) ?_
    · have e1 : E (.tmp 6) = (.slice p l c) := hV 3 6 (by kernel_rfl) rfl
      clear hE hV hP hB hS
      exact Does.call (w' := W) (by go_simp) ((HN.out W (hF (_, _) mb0).isR).mono fun e w' h => h.want)
    refine AllTold.cons rfl (fun β E W hA hF hc hf hE hV hP hB hS => Or.inl ⟨rfl, (by kernel_rfl), ?_⟩) ?_
    · have e1 : E (.tmp 4) = (.bool g) := hV 1 4 (by kernel_rfl) rfl
      have e2 : Means W (.num z.natAbs) (E (.tmp 7)) := hV 4 7 (by kernel_rfl) rfl
      clear hE hV hP hB hS
      obtain ⟨s, q, k, d, e2', hI⟩ := e2
      exact Does.call (w' := W) (by go_simp) ((HF.out s q k d W hI).mono fun e w' h => h.want)
    refine AllTold.cons rfl (fun β E W hA hF hc hf hE hV hP hB hS => Or.inr (Or.inl ⟨rfl, ⟨_, mb0, rfl, (by kernel_rfl), rfl, ?_⟩⟩)) ?_
    · have e1 : E (.tmp 2) = .pointer (some ⟨r, 0, none⟩) := hE 2 (by kernel_rfl)
      have e2 : Means W (.int z) (E (.tmp 8)) := hV 5 8 (by kernel_rfl) rfl
      obtain ⟨hbx, hfr⟩ := hB _ mb0 (by kernel_rfl) (by kernel_rfl)
      replace hbx : BoxHas W r .int _ := hbx
      replace hfr : BoxFree W r .int := hfr
      obtain ⟨_, _, _, _, _, _, q0, q1, q2⟩ := hbx.int
      have t0 := hfr 0 (by show 0 < 3; decide)
      have t1 := hfr 1 (by show 1 < 3; decide)
      have t2 := hfr 2 (by show 2 < 3; decide)
      obtain ⟨g, s, p, l, c, e2', hI⟩ := e2
      clear hE hV hP hB hS
      exact Does.skip (by go_simp) ⟨_, Stored.mkInt (b := r), ⟨g, s, p, l, c, rfl, hI⟩⟩
    exact AllTold.nil
  · intro β f W' hf hS hN hA _ _ _ _
    obtain ⟨g5, s5, p5, l5, c5, r0, r1, r2, hI1⟩ := (show Says W' r .int (.int z) from (hS _ mb0).1).int
    have HBW := Lib.hid (HB.trans (hA.below (B := w.heap.size) (by simp [oldBlocks]; exact zw) HB.size))
    have I1 := Lib.hid hI1
    clear hf hS hN hA hI1
    simp only [fillSlots]
    go_wp2
    exact bodyPost_ret (v := .agg #[.bool g5, .int .u64 s5, .slice p5 l5 c5]) (by simp [results, Tryz.results43, go_sem, r0, r1, r2]) rfl ⟨_, _, _, _, _, rfl, I1.out, HBW.out⟩

end Go.Proofs.YtjhjlecnjkjbbaaGreatDoor
