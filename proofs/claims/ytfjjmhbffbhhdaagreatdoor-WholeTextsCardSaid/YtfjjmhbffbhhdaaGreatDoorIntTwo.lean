/- Integers of 64 bits; the program's integer of a document's; the two of the laws. -/
import Derived.Test.YtfjjmhbffbhhdaaGreatDoorIntWant
import Derived.Test.YtfjjmhbffbhhdaaGreatDoorDivS
namespace Go.Proofs.YtfjjmhbffbhhdaaGreatDoor
open Go.RowKit

set_option maxHeartbeats 400000 in
theorem iOf_any (n : Int) (w : World) (h1 : -9223372036854775808 ≤ n) (h2 : n ≤ 9223372036854775807) : Calls Tryz.prog 7 #[.int .i64 n] w (RetI w n) := by
  rcases Int.lt_or_le n 0 with hn | hn
  · obtain ⟨m, hm⟩ : ∃ m : Nat, m = n.natAbs := ⟨_, rfl⟩
    have wn : IntKind.u64.wrap (-IntKind.u64.wrap n) = (m : Int) := by rw [IntKind.wrap_u64, IntKind.wrap_u64]; omega
    have HI : Hid (∀ W, IsI W true (m : Int) none 0 0 n) := Lib.hid (fun W => ⟨(decide_eq_true hn).symm, by rw [← hm]; exact Or.inl ⟨by omega, rfl, rfl, rfl, rfl⟩⟩)
    clear h1 h2 hm
    go_enter Tryz.func7, Tryz.ntmps7
    go_wp2_with fail
    refine (of_any _ _).mono ?_
    rintro e w1 ⟨rfl, hb⟩
    obtain ⟨hc, hf⟩ := bcell hb
    have r0 : w1.cell? ⟨w.heap.size, 0, none⟩ = some (.bool false) := by simp [hc, go_sem]
    have r1 : w1.cell? ⟨w.heap.size, 1, none⟩ = some (.int .u64 0) := by simp [hc, go_sem]
    have r2 : w1.cell? ⟨w.heap.size, 2, none⟩ = some (.slice none 0 0) := by simp [hc, go_sem]
    go_wp2
    exact bodyPost_ret (v := .agg #[.bool true, .int .u64 m, .slice none 0 0]) (by simp [results, Tryz.results7, go_sem, r0, r1, r2]) rfl ⟨_, _, _, _, _, rfl, HI.out _, below_iset (below_step (below_alloc (Below.refl _ _) _) hb) (Nat.le_refl _)⟩
  · have wn : IntKind.u64.wrap n = n := by rw [IntKind.wrap_u64]; omega
    have HI : Hid (∀ W, IsI W false n none 0 0 n) := Lib.hid (fun W => ⟨(decide_eq_false (by omega)).symm, Or.inl ⟨by omega, by omega, rfl, rfl, rfl⟩⟩)
    have hn' : ¬ n < 0 := by omega
    clear h1 h2 hn
    go_enter Tryz.func7, Tryz.ntmps7
    go_wp2_with fail
    refine (of_any _ _).mono ?_
    rintro e w1 ⟨rfl, hb⟩
    obtain ⟨hc, hf⟩ := bcell hb
    have r0 : w1.cell? ⟨w.heap.size, 0, none⟩ = some (.bool false) := by simp [hc, go_sem]
    have r1 : w1.cell? ⟨w.heap.size, 1, none⟩ = some (.int .u64 0) := by simp [hc, go_sem]
    have r2 : w1.cell? ⟨w.heap.size, 2, none⟩ = some (.slice none 0 0) := by simp [hc, go_sem]
    go_wp2
    exact bodyPost_ret (v := .agg #[.bool false, .int .u64 n, .slice none 0 0]) (by simp [results, Tryz.results7, go_sem, r0, r1, r2]) rfl ⟨_, _, _, _, _, rfl, HI.out _, below_iset (below_step (below_alloc (Below.refl _ _) _) hb) (Nat.le_refl _)⟩

def RetRI (W : World) (z : Int) : Ending → World → Prop := fun e w' => ∃ g p l c, e = .returned (.agg #[.bool g, .slice p l c]) ∧ IsRI w' g p l c z ∧ Below W.heap.size W w'
theorem isRI_sgn {w : World} {g : Bool} {p : Option Addr} {l c n : Nat} (h : IsR w p l c n) : IsRI w (g && !decide (n = 0)) p l c (sgn g n) := ⟨(sgn_neg g n).symm, by rw [sgn_abs]; exact h⟩
theorem IsR.zero_iff {w : World} {p : Option Addr} {l c n : Nat} (h : IsR w p l c n) : l = 0 ↔ n = 0 := by
  constructor
  · intro hl
    rcases Nat.eq_zero_or_pos n with h0 | h0
    · exact h0
    · have := dr_pos (n := n) (by omega); have := h.1; omega
  · rintro rfl; have := h.1; rw [dr_zero] at this; exact this

set_option maxHeartbeats 400000 in
theorem rI_any (g : Bool) (n : Nat) (p : Option Addr) (l c : Nat) (w : World) (h : IsR w p l c n) : Calls Tryz.prog 16 #[.bool g, .slice p l c] w (RetRI w (sgn g n)) := by
  have HI := Lib.hid (isRI_sgn (g := g) h)
  have hz := h.zero_iff
  cases g with
  | false =>
    clear h hz
    rw [Bool.false_and] at HI
    go_enter Tryz.func16, Tryz.ntmps16
    go_wp2
    exact bodyPost_ret (v := .agg #[.bool false, .slice p l c]) (by simp [results, Tryz.results16, go_sem]) rfl ⟨_, _, _, _, rfl, HI.out.mono (by repeat' first | exact Below.refl _ _ | refine below_alloc ?_ _ | refine Below.drew ?_ | refine below_step ?_ (by assumption)), (by repeat' first | exact Below.refl _ _ | refine below_alloc ?_ _ | refine Below.drew ?_ | refine below_step ?_ (by assumption))⟩
  | true =>
    by_cases h0 : n = 0
    · have hl : l = 0 := hz.2 h0
      rw [decide_eq_true h0] at HI
      clear h hz h0
      subst hl
      go_enter Tryz.func16, Tryz.ntmps16
      go_wp2
      exact bodyPost_ret (v := .agg #[.bool false, .slice p 0 c]) (by simp [results, Tryz.results16, go_sem]) rfl ⟨_, _, _, _, rfl, HI.out.mono (by repeat' first | exact Below.refl _ _ | refine below_alloc ?_ _ | refine Below.drew ?_ | refine below_step ?_ (by assumption)), (by repeat' first | exact Below.refl _ _ | refine below_alloc ?_ _ | refine Below.drew ?_ | refine below_step ?_ (by assumption))⟩
    · have hl : 0 < l := by have := fun h => h0 (hz.1 h); omega
      rw [decide_eq_false h0] at HI
      clear h hz h0
      go_enter Tryz.func16, Tryz.ntmps16
      go_wp2
      exact bodyPost_ret (v := .agg #[.bool true, .slice p l c]) (by simp [results, Tryz.results16, go_sem]) rfl ⟨_, _, _, _, rfl, HI.out.mono (by repeat' first | exact Below.refl _ _ | refine below_alloc ?_ _ | refine Below.drew ?_ | refine below_step ?_ (by assumption)), (by repeat' first | exact Below.refl _ _ | refine below_alloc ?_ _ | refine Below.drew ?_ | refine below_step ?_ (by assumption))⟩

set_option maxRecDepth 100000 in
set_option maxHeartbeats 2000000 in
theorem hInt_any (z : Int) (g : Bool) (p : Option Addr) (l c : Nat) (w : World) (hz : (ds z.natAbs).length ≤ 60) (h : IsRI w g p l c z) : Calls Tryz.prog 19 #[.agg #[.bool g, .slice p l c]] w (RetI w z) := by
  obtain ⟨hg, h⟩ := h
  have HN := Lib.hid (fun W a => hNat_any z.natAbs p l c W a (by have := dr_ds z.natAbs; omega))
  have HF := Lib.hid (fun s q k d W a => iFrom_any g z.natAbs s q k d W a)
  rw [show sgn g z.natAbs = z by rw [hg]; exact sgn_is z] at HF
  have H := Lib.hid h
  clear hg h hz
  go_enter Tryz.func19, Tryz.ntmps19
  go_wp2
  obtain ⟨W, hW⟩ : ∃ W, W = (w.alloc (.cells #[.bool g, .slice p l c] 32)).alloc (.cells #[.bool false, .int .u64 0, .slice none 0 0] 28) := ⟨_, rfl⟩
  obtain ⟨r, hr⟩ : ∃ r, r = w.heap.size + 1 := ⟨_, rfl⟩
  obtain ⟨a, ha⟩ : ∃ a, a = w.heap.size := ⟨_, rfl⟩
  have HB : Below w.heap.size w W := by rw [hW]; exact below_alloc (below_alloc (Below.refl _ _) _) _
  have A0 : W.cell? ⟨a, 0, none⟩ = some (.bool g) := by simp [hW, ha, go_sem]
  have A1 : W.cell? ⟨a, 1, none⟩ = some (.slice p l c) := by simp [hW, ha, go_sem]
  have R0 : W.cell? ⟨r, 0, none⟩ = some (.bool false) := by simp [hW, hr, go_sem]
  have R1 : W.cell? ⟨r, 1, none⟩ = some (.int .u64 0) := by simp [hW, hr, go_sem]
  have R2 : W.cell? ⟨r, 2, none⟩ = some (.slice none 0 0) := by simp [hW, hr, go_sem]
  have OLD_r : BoxHas W r .int (.agg #[.bool false, .int .u64 0, .slice none 0 0]) ∧ BoxFree W r .int := ⟨.mkInt R0 R1 R2, free3 (by simp [hW, hr, go_sem]) (by simp [hW, hr, go_sem]) (by simp [hW, hr, go_sem])⟩
  have ir : a ∉ [r] := by simp; omega
  have zw : w.heap.size ≤ r := by omega
  rw [← hW, ← hr, ← ha]
  clear hW hr ha
  refine region_told (T := [0, 1, 2, 3, 4, 5]) (slots := [3, 4, 5, 6, 7, 8])
      (tab := [.is (.pointer (some ⟨a, 0, none⟩)), .is (.bool g), .is (.pointer (some ⟨a, 1, none⟩)), .is (.slice p l c), .num z.natAbs, .int z, .any])
      (D := [⟨r, .int, none, 6, (.int z), (.agg #[.bool false, .int .u64 0, .slice none 0 0])⟩])
      (F := [(.slice p l c, .rnum z.natAbs)])
      (by kernel_rfl) (by kernel_rfl) (by kernel_rfl) (by kernel_rfl) (by kernel_rfl) (by kernel_rfl) (by kernel_rfl) ?_ ?_ ?_ ?_ ?_
  · skip
    refine List.Pairwise.cons (fun y hy => ?_) ?_
    · cases hy
    exact List.Pairwise.nil
  · intro f hf; simp only [List.mem_cons, List.not_mem_nil, or_false] at hf; rcases hf with rfl
    · exact ⟨_, _, _, rfl, H.out.mono HB⟩
  · intro x hx hal; simp only [List.mem_cons, List.not_mem_nil, or_false] at hx; rcases hx with rfl
    · exact ⟨OLD_r.1, OLD_r.2, OLD_r.1.lt rfl⟩
  · skip
    refine AllTold.cons rfl (fun β E W hA hF hc hf hE hV hP hB hS => Or.inl ⟨rfl, (by kernel_rfl), ?_⟩) ?_
    · have e1 : E (.tmp 1) = .pointer (some ⟨a, 0, none⟩) := hE 1 (by kernel_rfl)
      clear hE hV hP hB hS
      exact Does.value (w' := W) (by go_simp) ⟨rfl, Below.refl _ _⟩
    refine AllTold.cons rfl (fun β E W hA hF hc hf hE hV hP hB hS => Or.inl ⟨rfl, (by kernel_rfl), ?_⟩) ?_
    · have e1 : E (.tmp 3) = (.pointer (some ⟨a, 0, none⟩)) := hV 0 3 (by kernel_rfl) rfl
      have q0 := hA.cell A0 ir
      clear hE hV hP hB hS
      exact Does.value (w' := W) (by go_simp) ⟨rfl, Below.refl _ _⟩
    refine AllTold.cons rfl (fun β E W hA hF hc hf hE hV hP hB hS => Or.inl ⟨rfl, (by kernel_rfl), ?_⟩) ?_
    · have e1 : E (.tmp 1) = .pointer (some ⟨a, 0, none⟩) := hE 1 (by kernel_rfl)
      clear hE hV hP hB hS
      exact Does.value (w' := W) (by go_simp) ⟨rfl, Below.refl _ _⟩
    refine AllTold.cons rfl (fun β E W hA hF hc hf hE hV hP hB hS => Or.inl ⟨rfl, (by kernel_rfl), ?_⟩) ?_
    · have e1 : E (.tmp 5) = (.pointer (some ⟨a, 1, none⟩)) := hV 2 5 (by kernel_rfl) rfl
      have q0 := hA.cell A1 ir
      clear hE hV hP hB hS
      exact Does.value (w' := W) (by go_simp) ⟨rfl, Below.refl _ _⟩
    refine AllTold.cons rfl (fun β E W hA hF hc hf hE hV hP hB hS => Or.inl ⟨rfl, (by kernel_rfl), ?_⟩) ?_
    · have e1 : E (.tmp 6) = (.slice p l c) := hV 3 6 (by kernel_rfl) rfl
      clear hE hV hP hB hS
      exact Does.call (w' := W) (by go_simp) ((HN.out W (hF (_, _) mb0).isR).mono fun e w' h => h.want)
    refine AllTold.cons rfl (fun β E W hA hF hc hf hE hV hP hB hS => Or.inl ⟨rfl, (by kernel_rfl), ?_⟩) ?_
    · have e1 : E (.tmp 4) = (.bool g) := hV 1 4 (by kernel_rfl) rfl
      have e2 : Means W (.num z.natAbs) (E (.tmp 7)) := hV 4 7 (by kernel_rfl) rfl
      clear hE hV hP hB hS
      obtain ⟨s, q, k, d, e2', hI⟩ := e2
      exact Does.call (w' := W) (by go_simp) ((HF.out s q k d W hI).mono fun e w' h => h.want)
    refine AllTold.cons rfl (fun β E W hA hF hc hf hE hV hP hB hS => Or.inr (Or.inl ⟨rfl, ⟨_, mb0, rfl, (by kernel_rfl), rfl, ?_⟩⟩)) ?_
    · have e1 : E (.tmp 2) = .pointer (some ⟨r, 0, none⟩) := hE 2 (by kernel_rfl)
      have e2 : Means W (.int z) (E (.tmp 8)) := hV 5 8 (by kernel_rfl) rfl
      obtain ⟨hbx, hfr⟩ := hB _ mb0 (by kernel_rfl) (by kernel_rfl)
      replace hbx : BoxHas W r .int _ := hbx
      replace hfr : BoxFree W r .int := hfr
      obtain ⟨_, _, _, _, _, _, q0, q1, q2⟩ := hbx.int
      have t0 := hfr 0 (by show 0 < 3; decide)
      have t1 := hfr 1 (by show 1 < 3; decide)
      have t2 := hfr 2 (by show 2 < 3; decide)
      obtain ⟨g, s, p, l, c, e2', hI⟩ := e2
      clear hE hV hP hB hS
      exact Does.skip (by go_simp) ⟨_, Stored.mkInt (b := r), ⟨g, s, p, l, c, rfl, hI⟩⟩
    exact AllTold.nil
  · intro β f W' hf hS hN hA _ _ _ _
    obtain ⟨g5, s5, p5, l5, c5, r0, r1, r2, hI1⟩ := (show Says W' r .int (.int z) from (hS _ mb0).1).int
    have HBW := Lib.hid (HB.trans (hA.below (B := w.heap.size) (by simp [oldBlocks]; exact zw) HB.size))
    have I1 := Lib.hid hI1
    clear hf hS hN hA hI1
    simp only [fillSlots]
    go_wp2
    exact bodyPost_ret (v := .agg #[.bool g5, .int .u64 s5, .slice p5 l5 c5]) (by simp [results, Tryz.results19, go_sem, r0, r1, r2]) rfl ⟨_, _, _, _, _, rfl, I1.out, HBW.out⟩

def RetTwoI (W : World) (x y : Int) : Ending → World → Prop := fun e w' =>
  ∃ g1 s1 p1 l1 c1 g2 s2 p2 l2 c2 g3 p3 l3 c3 g4 p4 l4 c4, e = .returned (.tuple #[.agg #[.bool g1, .int .u64 s1, .slice p1 l1 c1], .agg #[.bool g2, .int .u64 s2, .slice p2 l2 c2], .agg #[.bool g3, .slice p3 l3 c3], .agg #[.bool g4, .slice p4 l4 c4]]) ∧
    IsI w' g1 s1 p1 l1 c1 x ∧ IsI w' g2 s2 p2 l2 c2 y ∧ IsRI w' g3 p3 l3 c3 x ∧ IsRI w' g4 p4 l4 c4 y ∧ Below W.heap.size W w'
theorem ds_nb40 (bs : List Nat) (hb : ∀ x ∈ bs, x < 256) : (ds (nb (bs.take 40))).length ≤ 5 := by
  refine ds_le (by omega) ?_
  have h1 := nb_lt (bs.take 40) 40 (fun x hx => hb x (List.mem_of_mem_take hx)) (by rw [List.length_take]; omega)
  rw [show (40 : Nat) = 8 * 5 from rfl, Nat.pow_mul] at h1
  exact h1

set_option maxRecDepth 100000 in
set_option maxHeartbeats 4000000 in
theorem two2_any (p q : Option Addr) (l c k d : Nat) (bs cs : List Nat) (f g : Bool) (w : World) (h1 : IsB w p l c bs) (h2 : IsB w q k d cs) :
    Calls Tryz.prog 4 #[.slice p l c, .slice q k d, .bool f, .bool g] w (RetTwoI w (sgn f (nb (bs.take 40))) (sgn g (nb (cs.take 40)))) := by
  have H1 := Lib.hid h1; have H2 := Lib.hid h2
  have sm := ds_nb40 bs h1.2.1; have sn := ds_nb40 cs h2.2.1
  have hb1 : ∀ x ∈ bs.take 40, x < 256 := fun x hx => h1.2.1 x (List.mem_of_mem_take hx)
  have hb2 : ∀ x ∈ cs.take 40, x < 256 := fun x hx => h2.2.1 x (List.mem_of_mem_take hx)
  have hl1 : (bs.take 40).length ≤ 40 := by rw [List.length_take]; omega
  have hl2 : (cs.take 40).length ≤ 40 := by rw [List.length_take]; omega
  have T1 := Lib.hid (fun w => few_any p l c 40 bs w (by omega))
  have T2 := Lib.hid (fun w => few_any q k d 40 cs w (by omega))
  generalize bs.take 40 = B1 at *
  generalize cs.take 40 = B2 at *
  have HB1 := Lib.hid hb1; have HB2 := Lib.hid hb2
  have RI1 := Lib.hid (fun p l c W a => rI_any f (nb B1) p l c W a)
  have RI2 := Lib.hid (fun p l c W a => rI_any g (nb B2) p l c W a)
  obtain ⟨x, hx⟩ : ∃ x, x = sgn f (nb B1) := ⟨_, rfl⟩
  obtain ⟨y, hy⟩ : ∃ y, y = sgn g (nb B2) := ⟨_, rfl⟩
  rw [← hx] at RI1; rw [← hy] at RI2
  rw [← hx, ← hy]
  have SX : Hid ((ds x.natAbs).length ≤ 60) := Lib.hid (by rw [hx, sgn_abs]; omega)
  have SY : Hid ((ds y.natAbs).length ≤ 60) := Lib.hid (by rw [hy, sgn_abs]; omega)
  have HX := Lib.hid (fun b p l c W a => hInt_any x b p l c W SX.out a)
  have HY := Lib.hid (fun b p l c W a => hInt_any y b p l c W SY.out a)
  clear h1 h2 hb1 hb2 sm sn hx hy
  go_enter Tryz.func4, Tryz.ntmps4
  go_wp2_with fail
  obtain ⟨W, hW⟩ : ∃ W, W = (((w.alloc (.cells #[.bool false, .int .u64 0, .slice none 0 0] 28)).alloc (.cells #[.bool false, .int .u64 0, .slice none 0 0] 28)).alloc (.cells #[.bool false, .slice none 0 0] 32)).alloc (.cells #[.bool false, .slice none 0 0] 32) := ⟨_, rfl⟩
  obtain ⟨r4, hr4⟩ : ∃ r, r = w.heap.size + 1 + 1 + 1 := ⟨_, rfl⟩
  obtain ⟨r3, hr3⟩ : ∃ r, r = w.heap.size + 1 + 1 := ⟨_, rfl⟩
  obtain ⟨r2, hr2⟩ : ∃ r, r = w.heap.size + 1 := ⟨_, rfl⟩
  obtain ⟨r1, hr1⟩ : ∃ r, r = w.heap.size := ⟨_, rfl⟩
  have HB : Below w.heap.size w W := by rw [hW]; exact below_alloc (below_alloc (below_alloc (below_alloc (Below.refl _ _) _) _) _) _
  have O1 := Lib.hid (show BoxHas W r1 .int (.agg #[.bool false, .int .u64 0, .slice none 0 0]) ∧ BoxFree W r1 .int from ⟨.mkInt (by simp [hW, hr1, go_sem]) (by simp [hW, hr1, go_sem]) (by simp [hW, hr1, go_sem]), free3 (by simp [hW, hr1, go_sem]) (by simp [hW, hr1, go_sem]) (by simp [hW, hr1, go_sem])⟩)
  have O2 := Lib.hid (show BoxHas W r2 .int (.agg #[.bool false, .int .u64 0, .slice none 0 0]) ∧ BoxFree W r2 .int from ⟨.mkInt (by simp [hW, hr2, go_sem]) (by simp [hW, hr2, go_sem]) (by simp [hW, hr2, go_sem]), free3 (by simp [hW, hr2, go_sem]) (by simp [hW, hr2, go_sem]) (by simp [hW, hr2, go_sem])⟩)
  have O3 := Lib.hid (show BoxHas W r3 .rint (.agg #[.bool false, .slice none 0 0]) ∧ BoxFree W r3 .rint from ⟨.mkRint (by simp [hW, hr3, go_sem]) (by simp [hW, hr3, go_sem]), free2 (by simp [hW, hr3, go_sem]) (by simp [hW, hr3, go_sem]) rfl⟩)
  have O4 := Lib.hid (show BoxHas W r4 .rint (.agg #[.bool false, .slice none 0 0]) ∧ BoxFree W r4 .rint from ⟨.mkRint (by simp [hW, hr4, go_sem]) (by simp [hW, hr4, go_sem]), free2 (by simp [hW, hr4, go_sem]) (by simp [hW, hr4, go_sem]) rfl⟩)
  have nn : w.heap.size ≤ r1 ∧ r1 < r2 ∧ r2 < r3 ∧ r3 < r4 ∧ r4 < W.heap.size := by refine ⟨by omega, by omega, by omega, by omega, ?_⟩; rw [hW]; simp only [World.size_alloc]; omega
  rw [← hW, ← hr4, ← hr3, ← hr2, ← hr1]
  clear hW hr1 hr2 hr3 hr4
  have NN := Lib.hid nn
  clear nn
  refine (T1.out _ (H1.out.mono HB)).mono ?_
  rintro e w1 ⟨g1, o1, c1, rfl, x1, x2, x3, x4, hb⟩
  have X3 := Lib.hid x3
  replace HB := below_step HB hb
  have O1 := Lib.hid (And.intro (O1.out.1.mono hb) (O1.out.2.mono O1.out.1 hb)); have O2 := Lib.hid (And.intro (O2.out.1.mono hb) (O2.out.2.mono O2.out.1 hb)); have O3 := Lib.hid (And.intro (O3.out.1.mono hb) (O3.out.2.mono O3.out.1 hb)); have O4 := Lib.hid (And.intro (O4.out.1.mono hb) (O4.out.2.mono O4.out.1 hb))
  have NN := Lib.hid (show w.heap.size ≤ r1 ∧ r1 < r2 ∧ r2 < r3 ∧ r3 < r4 ∧ r4 < w1.heap.size from ⟨NN.out.1, NN.out.2.1, NN.out.2.2.1, NN.out.2.2.2.1, Nat.lt_of_lt_of_le NN.out.2.2.2.2 hb.size⟩)
  clear x3 x4 hb T1
  go_wp2_with fail
  refine (rFrom_any g1 o1 c1 _ B1 w1 rfl (by omega) X3.out HB1.out).mono ?_
  rintro e w2 ⟨p1, l1, e1, rfl, r1', hb⟩
  have N1 := Lib.hid r1'
  replace HB := below_step HB hb
  have O1 := Lib.hid (And.intro (O1.out.1.mono hb) (O1.out.2.mono O1.out.1 hb))
  have O2 := Lib.hid (And.intro (O2.out.1.mono hb) (O2.out.2.mono O2.out.1 hb))
  have O3 := Lib.hid (And.intro (O3.out.1.mono hb) (O3.out.2.mono O3.out.1 hb))
  have O4 := Lib.hid (And.intro (O4.out.1.mono hb) (O4.out.2.mono O4.out.1 hb))
  have NN := Lib.hid (show w.heap.size ≤ r1 ∧ r1 < r2 ∧ r2 < r3 ∧ r3 < r4 ∧ r4 < w2.heap.size from ⟨NN.out.1, NN.out.2.1, NN.out.2.2.1, NN.out.2.2.2.1, Nat.lt_of_lt_of_le NN.out.2.2.2.2 hb.size⟩)
  clear r1' hb X3
  go_wp2_with fail
  refine (RI1.out _ _ _ _ N1.out).mono ?_
  rintro e w3 ⟨f3, p3, l3, c3, rfl, i3, hb⟩
  have I3 := Lib.hid i3
  replace HB := below_step HB hb
  have O1 := Lib.hid (And.intro (O1.out.1.mono hb) (O1.out.2.mono O1.out.1 hb))
  have O2 := Lib.hid (And.intro (O2.out.1.mono hb) (O2.out.2.mono O2.out.1 hb))
  have O3 := Lib.hid (And.intro (O3.out.1.mono hb) (O3.out.2.mono O3.out.1 hb))
  have O4 := Lib.hid (And.intro (O4.out.1.mono hb) (O4.out.2.mono O4.out.1 hb))
  have NN := Lib.hid (show w.heap.size ≤ r1 ∧ r1 < r2 ∧ r2 < r3 ∧ r3 < r4 ∧ r4 < w3.heap.size from ⟨NN.out.1, NN.out.2.1, NN.out.2.2.1, NN.out.2.2.2.1, Nat.lt_of_lt_of_le NN.out.2.2.2.2 hb.size⟩)
  clear i3 hb N1 RI1
  go_wp2_with fail
  obtain ⟨V, hV⟩ : ∃ V, V = w3.alloc (.cells #[.bool f3, .slice p3 l3 c3] 32) := ⟨_, rfl⟩
  obtain ⟨a, ha⟩ : ∃ a, a = w3.heap.size := ⟨_, rfl⟩
  have hb : Below w3.heap.size w3 V := by rw [hV]; exact below_alloc (Below.refl _ _) _
  have A0 : V.cell? ⟨a, 0, none⟩ = some (.bool f3) := by simp [hV, ha, go_sem]
  have A1 : V.cell? ⟨a, 1, none⟩ = some (.slice p3 l3 c3) := by simp [hV, ha, go_sem]
  have na : r4 < a := by rw [ha]; exact NN.out.2.2.2.2
  rw [← hV]; try rw [← ha]
  have I3 := Lib.hid (I3.out.mono hb)
  replace HB := below_step HB hb
  have O1 := Lib.hid (And.intro (O1.out.1.mono hb) (O1.out.2.mono O1.out.1 hb))
  have O2 := Lib.hid (And.intro (O2.out.1.mono hb) (O2.out.2.mono O2.out.1 hb))
  have O3 := Lib.hid (And.intro (O3.out.1.mono hb) (O3.out.2.mono O3.out.1 hb))
  have O4 := Lib.hid (And.intro (O4.out.1.mono hb) (O4.out.2.mono O4.out.1 hb))
  have NN := Lib.hid (show w.heap.size ≤ r1 ∧ r1 < r2 ∧ r2 < r3 ∧ r3 < r4 ∧ r4 < V.heap.size from ⟨NN.out.1, NN.out.2.1, NN.out.2.2.1, NN.out.2.2.2.1, Nat.lt_of_lt_of_le NN.out.2.2.2.2 hb.size⟩)
  clear hV ha hb
  refine (T2.out _ (H2.out.mono HB)).mono ?_
  rintro e w4 ⟨g2, o2, c2, rfl, y1, y2, y3, y4, hb⟩
  have Y3 := Lib.hid y3
  replace A0 := wcell hb A0; replace A1 := wcell hb A1; have I3 := Lib.hid (I3.out.mono hb)
  replace HB := below_step HB hb
  have O1 := Lib.hid (And.intro (O1.out.1.mono hb) (O1.out.2.mono O1.out.1 hb))
  have O2 := Lib.hid (And.intro (O2.out.1.mono hb) (O2.out.2.mono O2.out.1 hb))
  have O3 := Lib.hid (And.intro (O3.out.1.mono hb) (O3.out.2.mono O3.out.1 hb))
  have O4 := Lib.hid (And.intro (O4.out.1.mono hb) (O4.out.2.mono O4.out.1 hb))
  have NN := Lib.hid (show w.heap.size ≤ r1 ∧ r1 < r2 ∧ r2 < r3 ∧ r3 < r4 ∧ r4 < w4.heap.size from ⟨NN.out.1, NN.out.2.1, NN.out.2.2.1, NN.out.2.2.2.1, Nat.lt_of_lt_of_le NN.out.2.2.2.2 hb.size⟩)
  clear y3 y4 hb T2
  go_wp2_with fail
  refine (rFrom_any g2 o2 c2 _ B2 w4 rfl (by omega) Y3.out HB2.out).mono ?_
  rintro e w5 ⟨p2, l2, e2, rfl, r2', hb⟩
  have N2 := Lib.hid r2'
  replace A0 := wcell hb A0; replace A1 := wcell hb A1; have I3 := Lib.hid (I3.out.mono hb)
  replace HB := below_step HB hb
  have O1 := Lib.hid (And.intro (O1.out.1.mono hb) (O1.out.2.mono O1.out.1 hb))
  have O2 := Lib.hid (And.intro (O2.out.1.mono hb) (O2.out.2.mono O2.out.1 hb))
  have O3 := Lib.hid (And.intro (O3.out.1.mono hb) (O3.out.2.mono O3.out.1 hb))
  have O4 := Lib.hid (And.intro (O4.out.1.mono hb) (O4.out.2.mono O4.out.1 hb))
  have NN := Lib.hid (show w.heap.size ≤ r1 ∧ r1 < r2 ∧ r2 < r3 ∧ r3 < r4 ∧ r4 < w5.heap.size from ⟨NN.out.1, NN.out.2.1, NN.out.2.2.1, NN.out.2.2.2.1, Nat.lt_of_lt_of_le NN.out.2.2.2.2 hb.size⟩)
  clear r2' hb Y3
  go_wp2_with fail
  refine (RI2.out _ _ _ _ N2.out).mono ?_
  rintro e w6 ⟨f4, p4, l4, c4, rfl, i4, hb⟩
  have I4 := Lib.hid i4
  replace A0 := wcell hb A0; replace A1 := wcell hb A1; have I3 := Lib.hid (I3.out.mono hb)
  replace HB := below_step HB hb
  have O1 := Lib.hid (And.intro (O1.out.1.mono hb) (O1.out.2.mono O1.out.1 hb))
  have O2 := Lib.hid (And.intro (O2.out.1.mono hb) (O2.out.2.mono O2.out.1 hb))
  have O3 := Lib.hid (And.intro (O3.out.1.mono hb) (O3.out.2.mono O3.out.1 hb))
  have O4 := Lib.hid (And.intro (O4.out.1.mono hb) (O4.out.2.mono O4.out.1 hb))
  have NN := Lib.hid (show w.heap.size ≤ r1 ∧ r1 < r2 ∧ r2 < r3 ∧ r3 < r4 ∧ r4 < w6.heap.size from ⟨NN.out.1, NN.out.2.1, NN.out.2.2.1, NN.out.2.2.2.1, Nat.lt_of_lt_of_le NN.out.2.2.2.2 hb.size⟩)
  clear i4 hb N2 RI2
  go_wp2
  obtain ⟨U, hU⟩ : ∃ U, U = w6.alloc (.cells #[.bool f4, .slice p4 l4 c4] 32) := ⟨_, rfl⟩
  obtain ⟨b, hbb⟩ : ∃ b, b = w6.heap.size := ⟨_, rfl⟩
  have hb : Below w6.heap.size w6 U := by rw [hU]; exact below_alloc (Below.refl _ _) _
  have B0 : U.cell? ⟨b, 0, none⟩ = some (.bool f4) := by simp [hU, hbb, go_sem]
  have B1' : U.cell? ⟨b, 1, none⟩ = some (.slice p4 l4 c4) := by simp [hU, hbb, go_sem]
  have nb' : r4 < b := by rw [hbb]; exact NN.out.2.2.2.2
  rw [← hU]; try rw [← hbb]
  have I3 := Lib.hid (I3.out.mono hb); have I4 := Lib.hid (I4.out.mono hb)
  replace A0 := wcell hb A0; replace A1 := wcell hb A1
  replace HB := below_step HB hb
  have O1 := Lib.hid (And.intro (O1.out.1.mono hb) (O1.out.2.mono O1.out.1 hb))
  have O2 := Lib.hid (And.intro (O2.out.1.mono hb) (O2.out.2.mono O2.out.1 hb))
  have O3 := Lib.hid (And.intro (O3.out.1.mono hb) (O3.out.2.mono O3.out.1 hb))
  have O4 := Lib.hid (And.intro (O4.out.1.mono hb) (O4.out.2.mono O4.out.1 hb))
  have NN := Lib.hid (show w.heap.size ≤ r1 ∧ r1 < r2 ∧ r2 < r3 ∧ r3 < r4 ∧ r4 < U.heap.size from ⟨NN.out.1, NN.out.2.1, NN.out.2.2.1, NN.out.2.2.2.1, Nat.lt_of_lt_of_le NN.out.2.2.2.2 hb.size⟩)
  clear hU hbb hb
  have n1 := NN.out.1; have n2 := NN.out.2.1; have n3 := NN.out.2.2.1; have n4 := NN.out.2.2.2.1
  have ne1 : r1 ≠ r2 := by omega
  have ne2 : r1 ≠ r3 := by omega
  have ne3 : r1 ≠ r4 := by omega
  have ne4 : r2 ≠ r3 := by omega
  have ne5 : r2 ≠ r4 := by omega
  have ne6 : r3 ≠ r4 := by omega
  have ir : a ∉ [r1, r2, r3, r4] ∧ b ∉ [r1, r2, r3, r4] := by simp; omega
  have OLD_r1 := O1.out; have OLD_r2 := O2.out; have OLD_r3 := O3.out; have OLD_r4 := O4.out
  refine region_told (T := [0, 1, 2, 3, 4, 5]) (slots := [24, 25, 26, 27, 28, 29])
      (tab := [.rint x, .int x, .rint y, .int y, .rint x, .rint y, .any, .any, .any, .any])
      (D := [⟨r1, .int, none, 6, (.int x), (.agg #[.bool false, .int .u64 0, .slice none 0 0])⟩, ⟨r2, .int, none, 7, (.int y), (.agg #[.bool false, .int .u64 0, .slice none 0 0])⟩, ⟨r3, .rint, none, 8, (.rint x), (.agg #[.bool false, .slice none 0 0])⟩, ⟨r4, .rint, none, 9, (.rint y), (.agg #[.bool false, .slice none 0 0])⟩])
      (F := [(.agg #[.bool f3, .slice p3 l3 c3], .rint x), (.agg #[.bool f4, .slice p4 l4 c4], .rint y)])
      (by kernel_rfl) (by kernel_rfl) (by kernel_rfl) (by kernel_rfl) (by kernel_rfl) (by kernel_rfl) (by kernel_rfl) ?_ ?_ ?_ ?_ ?_
  · skip
    refine List.Pairwise.cons (fun y hy => ?_) ?_
    · simp only [List.mem_cons, List.not_mem_nil, or_false] at hy
      rcases hy with rfl | rfl | rfl
      · exact ⟨fun _ _ => (by assumption), by show 6 ≠ 7; decide, fun h => absurd rfl h⟩
      · exact ⟨fun _ _ => (by assumption), by show 6 ≠ 8; decide, fun h => absurd rfl h⟩
      · exact ⟨fun _ _ => (by assumption), by show 6 ≠ 9; decide, fun h => absurd rfl h⟩
    refine List.Pairwise.cons (fun y hy => ?_) ?_
    · simp only [List.mem_cons, List.not_mem_nil, or_false] at hy
      rcases hy with rfl | rfl
      · exact ⟨fun _ _ => (by assumption), by show 7 ≠ 8; decide, fun h => absurd rfl h⟩
      · exact ⟨fun _ _ => (by assumption), by show 7 ≠ 9; decide, fun h => absurd rfl h⟩
    refine List.Pairwise.cons (fun y hy => ?_) ?_
    · simp only [List.mem_cons, List.not_mem_nil, or_false] at hy
      rcases hy with rfl
      · exact ⟨fun _ _ => (by assumption), by show 8 ≠ 9; decide, fun h => absurd rfl h⟩
    refine List.Pairwise.cons (fun y hy => ?_) ?_
    · cases hy
    exact List.Pairwise.nil
  · intro f hf; simp only [List.mem_cons, List.not_mem_nil, or_false] at hf; rcases hf with rfl | rfl
    · exact ⟨_, _, _, _, rfl, I3.out⟩
    · exact ⟨_, _, _, _, rfl, I4.out⟩
  · intro x hx hal; simp only [List.mem_cons, List.not_mem_nil, or_false] at hx; rcases hx with rfl | rfl | rfl | rfl
    · exact ⟨OLD_r1.1, OLD_r1.2, OLD_r1.1.lt rfl⟩
    · exact ⟨OLD_r2.1, OLD_r2.2, OLD_r2.1.lt rfl⟩
    · exact ⟨OLD_r3.1, OLD_r3.2, OLD_r3.1.lt rfl⟩
    · exact ⟨OLD_r4.1, OLD_r4.2, OLD_r4.1.lt rfl⟩
  · skip
    refine AllTold.cons rfl (fun β E W hA hF hc hf hE hV hP hB hS => Or.inl ⟨rfl, (by kernel_rfl), ?_⟩) ?_
    · have e1 : E (.tmp 12) = .pointer (some ⟨a, 0, none⟩) := hE 12 (by kernel_rfl)
      have q0 := hA.cell A0 ir.1
      have q1 := hA.cell A1 ir.1
      clear hE hV hP hB hS
      exact Does.value (v := .agg #[.bool f3, .slice p3 l3 c3]) (w' := W) (by go_simp) ⟨hF (_, _) mb0, Below.refl _ _⟩
    refine AllTold.cons rfl (fun β E W hA hF hc hf hE hV hP hB hS => Or.inl ⟨rfl, (by kernel_rfl), ?_⟩) ?_
    · have e1 : Means W (.rint x) (E (.tmp 24)) := hV 0 24 (by kernel_rfl) rfl
      clear hE hV hP hB hS
      obtain ⟨b', p', l', c', e1', hI⟩ := e1
      exact Does.call (w' := W) (by go_simp) ((HX.out b' p' l' c' W hI).mono fun e w' h => h.want)
    refine AllTold.cons rfl (fun β E W hA hF hc hf hE hV hP hB hS => Or.inl ⟨rfl, (by kernel_rfl), ?_⟩) ?_
    · have e1 : E (.tmp 13) = .pointer (some ⟨b, 0, none⟩) := hE 13 (by kernel_rfl)
      have q0 := hA.cell B0 ir.2
      have q1 := hA.cell B1' ir.2
      clear hE hV hP hB hS
      exact Does.value (v := .agg #[.bool f4, .slice p4 l4 c4]) (w' := W) (by go_simp) ⟨hF (_, _) mb1, Below.refl _ _⟩
    refine AllTold.cons rfl (fun β E W hA hF hc hf hE hV hP hB hS => Or.inl ⟨rfl, (by kernel_rfl), ?_⟩) ?_
    · have e1 : Means W (.rint y) (E (.tmp 26)) := hV 2 26 (by kernel_rfl) rfl
      clear hE hV hP hB hS
      obtain ⟨b', p', l', c', e1', hI⟩ := e1
      exact Does.call (w' := W) (by go_simp) ((HY.out b' p' l' c' W hI).mono fun e w' h => h.want)
    refine AllTold.cons rfl (fun β E W hA hF hc hf hE hV hP hB hS => Or.inl ⟨rfl, (by kernel_rfl), ?_⟩) ?_
    · have e1 : E (.tmp 12) = .pointer (some ⟨a, 0, none⟩) := hE 12 (by kernel_rfl)
      have q0 := hA.cell A0 ir.1
      have q1 := hA.cell A1 ir.1
      clear hE hV hP hB hS
      exact Does.value (v := .agg #[.bool f3, .slice p3 l3 c3]) (w' := W) (by go_simp) ⟨hF (_, _) mb0, Below.refl _ _⟩
    refine AllTold.cons rfl (fun β E W hA hF hc hf hE hV hP hB hS => Or.inl ⟨rfl, (by kernel_rfl), ?_⟩) ?_
    · have e1 : E (.tmp 13) = .pointer (some ⟨b, 0, none⟩) := hE 13 (by kernel_rfl)
      have q0 := hA.cell B0 ir.2
      have q1 := hA.cell B1' ir.2
      clear hE hV hP hB hS
      exact Does.value (v := .agg #[.bool f4, .slice p4 l4 c4]) (w' := W) (by go_simp) ⟨hF (_, _) mb1, Below.refl _ _⟩
    refine AllTold.cons rfl (fun β E W hA hF hc hf hE hV hP hB hS => Or.inr (Or.inl ⟨rfl, ⟨_, mb0, rfl, (by kernel_rfl), rfl, ?_⟩⟩)) ?_
    · have e1 : E (.tmp 8) = .pointer (some ⟨r1, 0, none⟩) := hE 8 (by kernel_rfl)
      have e2 : Means W (.int x) (E (.tmp 25)) := hV 1 25 (by kernel_rfl) rfl
      obtain ⟨hbx, hfr⟩ := hB _ mb0 (by kernel_rfl) (by kernel_rfl)
      replace hbx : BoxHas W r1 .int _ := hbx
      replace hfr : BoxFree W r1 .int := hfr
      obtain ⟨_, _, _, _, _, _, q0, q1, q2⟩ := hbx.int
      have t0 := hfr 0 (by show 0 < 3; decide)
      have t1 := hfr 1 (by show 1 < 3; decide)
      have t2 := hfr 2 (by show 2 < 3; decide)
      obtain ⟨g, s, p, l, c, e2', hI⟩ := e2
      clear hE hV hP hB hS
      exact Does.skip (by go_simp) ⟨_, Stored.mkInt (b := r1), ⟨g, s, p, l, c, rfl, hI⟩⟩
    refine AllTold.cons rfl (fun β E W hA hF hc hf hE hV hP hB hS => Or.inr (Or.inl ⟨rfl, ⟨_, mb1, rfl, (by kernel_rfl), rfl, ?_⟩⟩)) ?_
    · have e1 : E (.tmp 9) = .pointer (some ⟨r2, 0, none⟩) := hE 9 (by kernel_rfl)
      have e2 : Means W (.int y) (E (.tmp 27)) := hV 3 27 (by kernel_rfl) rfl
      obtain ⟨hbx, hfr⟩ := hB _ mb1 (by kernel_rfl) (by kernel_rfl)
      replace hbx : BoxHas W r2 .int _ := hbx
      replace hfr : BoxFree W r2 .int := hfr
      obtain ⟨_, _, _, _, _, _, q0, q1, q2⟩ := hbx.int
      have t0 := hfr 0 (by show 0 < 3; decide)
      have t1 := hfr 1 (by show 1 < 3; decide)
      have t2 := hfr 2 (by show 2 < 3; decide)
      obtain ⟨g, s, p, l, c, e2', hI⟩ := e2
      clear hE hV hP hB hS
      exact Does.skip (by go_simp) ⟨_, Stored.mkInt (b := r2), ⟨g, s, p, l, c, rfl, hI⟩⟩
    refine AllTold.cons rfl (fun β E W hA hF hc hf hE hV hP hB hS => Or.inr (Or.inl ⟨rfl, ⟨_, mb2, rfl, (by kernel_rfl), rfl, ?_⟩⟩)) ?_
    · have e1 : E (.tmp 10) = .pointer (some ⟨r3, 0, none⟩) := hE 10 (by kernel_rfl)
      have e2 : Means W (.rint x) (E (.tmp 28)) := hV 4 28 (by kernel_rfl) rfl
      obtain ⟨hbx, hfr⟩ := hB _ mb2 (by kernel_rfl) (by kernel_rfl)
      replace hbx : BoxHas W r3 .rint _ := hbx
      replace hfr : BoxFree W r3 .rint := hfr
      obtain ⟨_, _, _, _, _, q0, q1⟩ := hbx.rint
      have t0 := hfr 0 (by show 0 < 2; decide)
      have t1 := hfr 1 (by show 1 < 2; decide)
      obtain ⟨g, p, l, c, e2', hI⟩ := e2
      clear hE hV hP hB hS
      exact Does.skip (by go_simp) ⟨_, Stored.mkRint (b := r3), ⟨g, p, l, c, rfl, hI⟩⟩
    refine AllTold.cons rfl (fun β E W hA hF hc hf hE hV hP hB hS => Or.inr (Or.inl ⟨rfl, ⟨_, mb3, rfl, (by kernel_rfl), rfl, ?_⟩⟩)) ?_
    · have e1 : E (.tmp 11) = .pointer (some ⟨r4, 0, none⟩) := hE 11 (by kernel_rfl)
      have e2 : Means W (.rint y) (E (.tmp 29)) := hV 5 29 (by kernel_rfl) rfl
      obtain ⟨hbx, hfr⟩ := hB _ mb3 (by kernel_rfl) (by kernel_rfl)
      replace hbx : BoxHas W r4 .rint _ := hbx
      replace hfr : BoxFree W r4 .rint := hfr
      obtain ⟨_, _, _, _, _, q0, q1⟩ := hbx.rint
      have t0 := hfr 0 (by show 0 < 2; decide)
      have t1 := hfr 1 (by show 1 < 2; decide)
      obtain ⟨g, p, l, c, e2', hI⟩ := e2
      clear hE hV hP hB hS
      exact Does.skip (by go_simp) ⟨_, Stored.mkRint (b := r4), ⟨g, p, l, c, rfl, hI⟩⟩
    exact AllTold.nil
  · intro β F' W' hf hS hN hA _ _ _ _
    obtain ⟨g5, s5, p5, l5, c5, q0, q1, q2, hI1⟩ := (show Says W' r1 .int (.int x) from (hS _ mb0).1).int
    obtain ⟨g6, s6, p6, l6, c6, q3, q4, q5, hI2⟩ := (show Says W' r2 .int (.int y) from (hS _ mb1).1).int
    obtain ⟨g7, p7, l7, c7, q6, q7, hI3⟩ := (show Says W' r3 .rint (.rint x) from (hS _ mb2).1).rint
    obtain ⟨g8, p8, l8, c8, q8, q9, hI4⟩ := (show Says W' r4 .rint (.rint y) from (hS _ mb3).1).rint
    have HBW := Lib.hid (HB.trans (hA.below (B := w.heap.size) (by simp [oldBlocks]; omega) HB.size))
    have I1 := Lib.hid hI1; have I2 := Lib.hid hI2; have I3 := Lib.hid hI3; have I4 := Lib.hid hI4
    clear hf hS hN hA hI1 hI2 hI3 hI4
    simp only [fillSlots]
    go_wp2
    exact bodyPost_ret (v := .tuple #[.agg #[.bool g5, .int .u64 s5, .slice p5 l5 c5], .agg #[.bool g6, .int .u64 s6, .slice p6 l6 c6], .agg #[.bool g7, .slice p7 l7 c7], .agg #[.bool g8, .slice p8 l8 c8]]) (by simp [results, Tryz.results4, go_sem, q0, q1, q2, q3, q4, q5, q6, q7, q8, q9]) rfl ⟨_, _, _, _, _, _, _, _, _, _, _, _, _, _, _, _, _, _, rfl, I1.out, I2.out, I3.out, I4.out, HBW.out⟩
end Go.Proofs.YtfjjmhbffbhhdaaGreatDoor
