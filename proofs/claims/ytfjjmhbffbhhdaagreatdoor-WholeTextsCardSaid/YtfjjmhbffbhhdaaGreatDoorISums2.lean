/- Differences, products and comparisons of the document's integers; the document's integer of a program's; whether they are alike. -/
import Derived.Test.YtfjjmhbffbhhdaaGreatDoorISums
namespace Go.Proofs.YtfjjmhbffbhhdaaGreatDoor
open Go.RowKit

set_option maxHeartbeats 1000000 in
theorem hOutNat_any (n : Nat) (s : Int) (p : Option Addr) (l c : Nat) (w : World) (hl : (ds n).length ≤ 400) (h : IsN w s p l c n) :
    Calls Tryz.prog 50 #[.agg #[.int .u64 s, .slice p l c]] w (RetR w n) := by
  have hmb : (be n).length ≤ 1000000 := by
    have h1 := bitLen_ds n
    have h2 := bitLen_lt_pow.1 (getD_lt (ds_lt n) (by omega) ((ds n).length - 1))
    have := ds_pos n
    rw [be_length]
    omega
  have H := Lib.hid h; have HL := Lib.hid hl
  clear h hl
  go_enter Tryz.func50, Tryz.ntmps50
  go_wp2_with fail
  refine (nbytes_any n s p l c _ (H.out.mono (below_alloc (Below.refl _ _) _)) (by have := HL.out; omega)).mono ?_
  rintro e w1 ⟨b, off, c1, rfl, _, _, x4, _, hb⟩
  have X4 := Lib.hid x4
  have HB := Lib.hid (below_step (below_alloc (Below.refl _ _) _) hb)
  clear x4 hb
  go_wp2_with fail
  refine (rFrom_any b off c1 _ (be n) w1 rfl hmb X4.out (be_lt n)).mono ?_
  rintro e w2 ⟨p1, l1, e1, rfl, h1, hb⟩
  rw [nb_be] at h1
  have H1 := Lib.hid h1
  have HB := Lib.hid (below_step HB.out hb)
  clear h1 hb
  go_wp2
  exact bodyPost_ret (v := .slice p1 l1 e1) (by simp [results, Tryz.results50, go_sem]) rfl ⟨_, _, _, rfl, H1.out, HB.out⟩
theorem hOutNat_want (w : World) (u : Value) (n : Nat) (hl : (ds n).length ≤ 400) (h : Num w u n) : Calls Tryz.prog 50 #[u] w fun e w' => ∃ v', e = .returned v' ∧ RNum w' v' n ∧ Below w.heap.size w w' := by
  obtain ⟨s, p, l, c, rfl, h⟩ := h
  exact (hOutNat_any n s p l c w hl h).mono fun _ _ h => h.want
theorem rI_want (w : World) (g : Bool) (u : Value) (n : Nat) (z : Int) (hz : sgn g n = z) (h : RNum w u n) : Calls Tryz.prog 16 #[.bool g, u] w fun e w' => ∃ v', e = .returned v' ∧ RINum w' v' z ∧ Below w.heap.size w w' := by
  obtain ⟨p, l, c, rfl, h⟩ := h
  rw [← hz]
  exact (rI_any g n p l c w h).mono fun _ _ h => h.want
theorem cmp3_neg (z : Int) : decide (cmp3 z 0 < 0) = decide (z < 0) := by unfold cmp3; split <;> (try split) <;> simp <;> omega

set_option maxRecDepth 100000 in
set_option maxHeartbeats 2000000 in
theorem hOutInt_any (z : Int) (g : Bool) (s : Int) (p : Option Addr) (l c : Nat) (w : World) (hz : (ds z.natAbs).length ≤ 400) (h : IsI w g s p l c z) :
    Calls Tryz.prog 29 #[.agg #[.bool g, .int .u64 s, .slice p l c]] w (RetRI w z) := by
  have HZ := Lib.hid hz; have H := Lib.hid h
  clear h hz
  go_enter Tryz.func29, Tryz.ntmps29
  go_wp2
  obtain ⟨W, hW⟩ : ∃ W, W = (w.alloc (.cells #[.bool g, .int .u64 s, .slice p l c] 28)).alloc (.cells #[.bool false, .slice none 0 0] 32) := ⟨_, rfl⟩
  obtain ⟨r, hr⟩ : ∃ r, r = w.heap.size + 1 := ⟨_, rfl⟩
  obtain ⟨a, ha⟩ : ∃ a, a = w.heap.size := ⟨_, rfl⟩
  have HB : Below w.heap.size w W := by rw [hW]; exact below_alloc (below_alloc (Below.refl _ _) _) _
  have A0 : W.cell? ⟨a, 0, none⟩ = some (.bool g) := by simp [hW, ha, go_sem]
  have A1 : W.cell? ⟨a, 1, none⟩ = some (.int .u64 s) := by simp [hW, ha, go_sem]
  have A2 : W.cell? ⟨a, 2, none⟩ = some (.slice p l c) := by simp [hW, ha, go_sem]
  have OLD_r : BoxHas W r .rint (.agg #[.bool false, .slice none 0 0]) ∧ BoxFree W r .rint := ⟨.mkRint (by simp [hW, hr, go_sem]) (by simp [hW, hr, go_sem]), free2 (by simp [hW, hr, go_sem]) (by simp [hW, hr, go_sem]) rfl⟩
  have ia : a ∉ [r] := by simp; omega
  have zw : w.heap.size ≤ r := by omega
  rw [← hW, ← hr, ← ha]
  clear hW hr ha
  refine region_told (T := [0, 1, 2, 3, 4, 5, 6]) (slots := [3, 4, 5, 6, 7, 8, 9])
      (tab := [.int z, .is (.int .i64 (cmp3 z 0)), .is (.bool (decide (z < 0))), .int z, .num z.natAbs, .rnum z.natAbs, .rint z, .any])
      (D := [⟨r, .rint, none, 7, (.rint z), (.agg #[.bool false, .slice none 0 0])⟩])
      (F := [(.agg #[.bool g, .int .u64 s, .slice p l c], .int z)])
      (by kernel_rfl) (by kernel_rfl) (by kernel_rfl) (by kernel_rfl) (by kernel_rfl) (by kernel_rfl) (by kernel_rfl) ?_ ?_ ?_ ?_ ?_
  · skip
    refine List.Pairwise.cons (fun y hy => ?_) ?_
    · cases hy
    exact List.Pairwise.nil
  · intro f hf; simp only [List.mem_cons, List.not_mem_nil, or_false] at hf; rcases hf with rfl
    · exact ⟨_, _, _, _, _, rfl, H.out.mono HB⟩
  · intro x hx hal; simp only [List.mem_cons, List.not_mem_nil, or_false] at hx; rcases hx with rfl
    · exact ⟨OLD_r.1, OLD_r.2, OLD_r.1.lt rfl⟩
  · skip
    refine AllTold.cons rfl (fun β E W hA hF hc hf hE hV hP hB hS => Or.inl ⟨rfl, (by kernel_rfl), ?_⟩) ?_
    · have e1 : E (.tmp 1) = .pointer (some ⟨a, 0, none⟩) := hE 1 (by kernel_rfl)
      have q0 := hA.cell A0 ia
      have q1 := hA.cell A1 ia
      have q2 := hA.cell A2 ia
      clear hE hV hP hB hS
      exact ev_loadI e1 q0 q1 q2 (hF (_, _) mb0)
    refine AllTold.cons rfl (fun β E W hA hF hc hf hE hV hP hB hS => Or.inl ⟨rfl, (by kernel_rfl), ?_⟩) ?_
    · have e1 : Means W (.int z) (E (.tmp 3)) := hV 0 3 (by kernel_rfl) rfl
      clear hE hV hP hB hS
      exact Does.call (w' := W) (by go_simp) ((iSign_want W _ z e1).mono fun e w' ⟨v, h1, h2, h3⟩ => ⟨v, h1, h2, h3⟩)
    refine AllTold.cons rfl (fun β E W hA hF hc hf hE hV hP hB hS => Or.inl ⟨rfl, (by kernel_rfl), ?_⟩) ?_
    · have e1 : E (.tmp 4) = (.int .i64 (cmp3 z 0)) := hV 1 4 (by kernel_rfl) rfl
      clear hE hV hP hB hS
      exact ev_lss e1 (hc _) (cmp3_neg z)
    refine AllTold.cons rfl (fun β E W hA hF hc hf hE hV hP hB hS => Or.inl ⟨rfl, (by kernel_rfl), ?_⟩) ?_
    · have e1 : E (.tmp 1) = .pointer (some ⟨a, 0, none⟩) := hE 1 (by kernel_rfl)
      have q0 := hA.cell A0 ia
      have q1 := hA.cell A1 ia
      have q2 := hA.cell A2 ia
      clear hE hV hP hB hS
      exact ev_loadI e1 q0 q1 q2 (hF (_, _) mb0)
    refine AllTold.cons rfl (fun β E W hA hF hc hf hE hV hP hB hS => Or.inl ⟨rfl, (by kernel_rfl), ?_⟩) ?_
    · have e1 : Means W (.int z) (E (.tmp 6)) := hV 3 6 (by kernel_rfl) rfl
      clear hE hV hP hB hS
      exact Does.call (w' := W) (by go_simp) ((iAbs_want W _ z e1).mono fun e w' ⟨v, h1, h2, h3⟩ => ⟨v, h1, h2, h3⟩)
    refine AllTold.cons rfl (fun β E W hA hF hc hf hE hV hP hB hS => Or.inl ⟨rfl, (by kernel_rfl), ?_⟩) ?_
    · have e1 : Means W (.num z.natAbs) (E (.tmp 7)) := hV 4 7 (by kernel_rfl) rfl
      clear hE hV hP hB hS
      exact Does.call (w' := W) (by go_simp) ((hOutNat_want W _ z.natAbs HZ.out e1).mono fun e w' ⟨v, h1, h2, h3⟩ => ⟨v, h1, h2, h3⟩)
    refine AllTold.cons rfl (fun β E W hA hF hc hf hE hV hP hB hS => Or.inl ⟨rfl, (by kernel_rfl), ?_⟩) ?_
    · have e1 : E (.tmp 5) = (.bool (decide (z < 0))) := hV 2 5 (by kernel_rfl) rfl
      have e2 : Means W (.rnum z.natAbs) (E (.tmp 8)) := hV 5 8 (by kernel_rfl) rfl
      clear hE hV hP hB hS
      exact Does.call (w' := W) (by go_simp) ((rI_want W _ _ z.natAbs z (sgn_is z) e2).mono fun e w' ⟨v, h1, h2, h3⟩ => ⟨v, h1, h2, h3⟩)
    refine AllTold.cons rfl (fun β E W hA hF hc hf hE hV hP hB hS => Or.inr (Or.inl ⟨rfl, ⟨_, mb0, rfl, (by kernel_rfl), rfl, ?_⟩⟩)) ?_
    · have e1 : E (.tmp 2) = .pointer (some ⟨r, 0, none⟩) := hE 2 (by kernel_rfl)
      have e2 : Means W (.rint z) (E (.tmp 9)) := hV 6 9 (by kernel_rfl) rfl
      obtain ⟨hbx, hfr⟩ := hB _ mb0 (by kernel_rfl) (by kernel_rfl)
      replace hbx : BoxHas W r .rint _ := hbx
      replace hfr : BoxFree W r .rint := hfr
      obtain ⟨_, _, _, _, _, q0, q1⟩ := hbx.rint
      have t0 := hfr 0 (by show 0 < 2; decide)
      have t1 := hfr 1 (by show 1 < 2; decide)
      obtain ⟨g, p, l, c, e2', hI⟩ := e2
      clear hE hV hP hB hS
      exact Does.skip (by go_simp) ⟨_, Stored.mkRint (b := r), ⟨g, p, l, c, rfl, hI⟩⟩
    exact AllTold.nil
  · intro β f W' hf hS hN hA _ _ _ _
    obtain ⟨g5, p5, l5, c5, r0, r1, hI1⟩ := (show Says W' r .rint (.rint (z)) from (hS _ mb0).1).rint
    have HBW := Lib.hid (HB.trans (hA.below (B := w.heap.size) (by simp [oldBlocks]; exact zw) HB.size))
    have I1 := Lib.hid hI1
    clear hf hS hN hA hI1
    simp only [fillSlots, List.setIfInBounds_toArray, List.set_cons_succ, List.set_cons_zero]
    go_wp2
    exact bodyPost_ret (v := .agg #[.bool g5, .slice p5 l5 c5]) (by simp [results, Tryz.results29, go_sem, r0, r1]) rfl ⟨_, _, _, _, rfl, I1.out, HBW.out⟩
end Go.Proofs.YtfjjmhbffbhhdaaGreatDoor
