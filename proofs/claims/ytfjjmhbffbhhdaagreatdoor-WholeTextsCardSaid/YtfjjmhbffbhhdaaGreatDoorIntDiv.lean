/- The quotient of the program's integers: the walks. -/
import Derived.Test.YtfjjmhbffbhhdaaGreatDoorIntWant
import Derived.Test.YtfjjmhbffbhhdaaGreatDoorDivN
namespace Go.Proofs.YtfjjmhbffbhhdaaGreatDoor
open Go.RowKit

def RetQI (W : World) (q r : Int) (ok : Bool) : Ending → World → Prop := fun e w' =>
  ∃ g1 s1 p1 l1 c1 g2 s2 p2 l2 c2, e = .returned (.tuple #[.agg #[.bool g1, .int .u64 s1, .slice p1 l1 c1], .agg #[.bool g2, .int .u64 s2, .slice p2 l2 c2], .bool ok]) ∧ IsI w' g1 s1 p1 l1 c1 q ∧ IsI w' g2 s2 p2 l2 c2 r ∧ Below W.heap.size W w'

theorem boxes4 (w : World) (g1 g2 : Bool) (s1 s2 : Int) (p1 p2 : Option Addr) (l1 c1 l2 c2 : Nat) :
    ∃ W a b r t, W = (((w.alloc (.cells #[.bool g1, .int .u64 s1, .slice p1 l1 c1] 28)).alloc (.cells #[.bool g2, .int .u64 s2, .slice p2 l2 c2] 28)).alloc (.cells #[.bool false, .int .u64 0, .slice none 0 0] 28)).alloc (.cells #[.bool false, .int .u64 0, .slice none 0 0] 28) ∧
      t = w.heap.size + 1 + 1 + 1 ∧ r = w.heap.size + 1 + 1 ∧ b = w.heap.size + 1 ∧ a = w.heap.size ∧
      Box W a g1 s1 p1 l1 c1 ∧ Box W b g2 s2 p2 l2 c2 ∧ Box W r false 0 none 0 0 ∧ Box W t false 0 none 0 0 ∧ W.frozen? ⟨r, 0, none⟩ = false ∧ W.frozen? ⟨r, 1, none⟩ = false ∧ W.frozen? ⟨r, 2, none⟩ = false ∧
      W.frozen? ⟨t, 0, none⟩ = false ∧ W.frozen? ⟨t, 1, none⟩ = false ∧ W.frozen? ⟨t, 2, none⟩ = false ∧ (a ≠ r ∧ b ≠ r ∧ a ≠ t ∧ b ≠ t ∧ r ≠ t) ∧ (a < W.heap.size ∧ b < W.heap.size ∧ r < W.heap.size ∧ t < W.heap.size) ∧ w.heap.size ≤ r ∧ w.heap.size ≤ t ∧ Below w.heap.size w W := by
  refine ⟨_, _, _, _, _, rfl, rfl, rfl, rfl, rfl, ⟨?_, ?_, ?_⟩, ⟨?_, ?_, ?_⟩, ⟨?_, ?_, ?_⟩, ⟨?_, ?_, ?_⟩, ?_, ?_, ?_, ?_, ?_, ?_, by omega, by simp only [World.size_alloc]; omega, by omega, by omega, below_alloc (below_alloc (below_alloc (below_alloc (Below.refl _ _) _) _) _) _⟩
  all_goals simp [go_sem]
theorem boxesN (w : World) (s1 s2 : Int) (p1 p2 : Option Addr) (l1 c1 l2 c2 : Nat) :
    ∃ W u v, W = (w.alloc (.cells #[.int .u64 s1, .slice p1 l1 c1] 26)).alloc (.cells #[.int .u64 s2, .slice p2 l2 c2] 26) ∧ v = w.heap.size + 1 ∧ u = w.heap.size ∧
      W.cell? ⟨u, 0, none⟩ = some (.int .u64 s1) ∧ W.cell? ⟨u, 1, none⟩ = some (.slice p1 l1 c1) ∧ W.cell? ⟨v, 0, none⟩ = some (.int .u64 s2) ∧ W.cell? ⟨v, 1, none⟩ = some (.slice p2 l2 c2) ∧
      W.frozen? ⟨u, 0, none⟩ = false ∧ W.frozen? ⟨u, 1, none⟩ = false ∧ W.frozen? ⟨v, 0, none⟩ = false ∧ W.frozen? ⟨v, 1, none⟩ = false ∧ Below w.heap.size w W := by
  refine ⟨_, _, _, rfl, rfl, rfl, ?_, ?_, ?_, ?_, ?_, ?_, ?_, ?_, below_alloc (below_alloc (Below.refl _ _) _) _⟩
  all_goals simp [go_sem]

set_option maxRecDepth 100000 in
set_option maxHeartbeats 2000000 in
theorem iDiv_same (x y : Int) (g1 g2 : Bool) (s1 s2 : Int) (p1 p2 : Option Addr) (l1 c1 l2 c2 : Nat) (w : World) (hy0 : y ≠ 0) (hx : (ds x.natAbs).length ≤ 1000000) (_hy : (ds y.natAbs).length ≤ 1000000) (hg : g1 = g2) (h1 : IsI w g1 s1 p1 l1 c1 x) (h2 : IsI w g2 s2 p2 l2 c2 y) :
    Calls Tryz.prog 27 #[.agg #[.bool g1, .int .u64 s1, .slice p1 l1 c1], .agg #[.bool g2, .int .u64 s2, .slice p2 l2 c2]] w (RetQI w (qdiv x y) (qmod x y) true) := by
  obtain ⟨e1, h1⟩ := h1
  obtain ⟨e2, h2⟩ := h2
  obtain ⟨q1, q2⟩ := parts_same hy0 (by rw [← e1, ← e2]; exact hg)
  rw [← e2] at q2
  have HM := Lib.hid (fun W a b => div_any s1 s2 p1 p2 l1 c1 l2 c2 x.natAbs y.natAbs W hx (by omega) a b)
  have HF := Lib.hid (fun s p l c W a => iFrom_any false (x.natAbs / y.natAbs) s p l c W a)
  have HF2 := Lib.hid (fun s p l c W a => iFrom_any g2 (x.natAbs % y.natAbs) s p l c W a)
  rw [q1] at HF
  rw [q2] at HF2
  have H1 := Lib.hid h1; have H2 := Lib.hid h2
  clear e1 e2 h1 h2 hx _hy hy0 q1 q2 
  generalize qdiv x y = Q at *
  generalize qmod x y = M at *
  subst hg
  go_enter Tryz.func27, Tryz.ntmps27
  obtain ⟨W, a, b, r, t, hW, ht, hr, hbb, ha, ⟨A0, A1, A2⟩, ⟨B0, B1, B2⟩, ⟨R0, R1, R2⟩, ⟨T0, T1, T2⟩, fR0, fR1, fR2, fT0, fT1, fT2, ⟨nar, nbr, nat, nbt, nrt⟩, ⟨za, zb, zr, zt⟩, zw, zw2, HB⟩ := boxes4 w g1 g1 s1 s2 p1 p2 l1 c1 l2 c2
  go_wp2_with fail
  rw [← hW, ← ht, ← hr, ← hbb, ← ha]
  clear hW ht hr hbb ha
  refine (HM.out _ (H1.out.mono HB) (H2.out.mono HB)).mono ?_
  rintro e w1 ⟨s3, p3, l3, c3, s4, p4, l4, c4, rfl, n3, n4, hb⟩
  replace fR0 := wfree hb R0 fR0
  replace fR1 := wfree hb R1 fR1
  replace fR2 := wfree hb R2 fR2
  replace fT0 := wfree hb T0 fT0
  replace fT1 := wfree hb T1 fT1
  replace fT2 := wfree hb T2 fT2
  replace A0 := wcell hb A0
  replace A1 := wcell hb A1
  replace A2 := wcell hb A2
  replace B0 := wcell hb B0
  replace B1 := wcell hb B1
  replace B2 := wcell hb B2
  replace R0 := wcell hb R0
  replace R1 := wcell hb R1
  replace R2 := wcell hb R2
  replace T0 := wcell hb T0
  replace T1 := wcell hb T1
  replace T2 := wcell hb T2
  replace za := bstep hb za
  replace zb := bstep hb zb
  replace zr := bstep hb zr
  replace zt := bstep hb zt
  replace HB := below_step HB hb
  have N3 := Lib.hid n3; have N4 := Lib.hid n4
  clear n3 n4
  go_wp2_with fail
  obtain ⟨V, u, v, hV, hv, hu, U0, U1, V0, V1, fU0, fU1, fV0, fV1, hb2⟩ := boxesN w1 s3 s4 p3 p4 l3 c3 l4 c4
  have nur : u ≠ r := by omega
  have nut : u ≠ t := by omega
  have nvr : v ≠ r := by omega
  have nvt : v ≠ t := by omega
  have nau : a ≠ u := by omega
  have nav : a ≠ v := by omega
  have nbu : b ≠ u := by omega
  have nbv : b ≠ v := by omega
  have nuv : u ≠ v := by omega
  have zu : w.heap.size ≤ u := by have := HB.size; omega
  have zv : w.heap.size ≤ v := by omega
  rw [← hV, ← hv, ← hu]
  clear hV hv hu hb za zb zr zt
  replace fR0 := wfree hb2 R0 fR0
  replace fR1 := wfree hb2 R1 fR1
  replace fR2 := wfree hb2 R2 fR2
  replace fT0 := wfree hb2 T0 fT0
  replace fT1 := wfree hb2 T1 fT1
  replace fT2 := wfree hb2 T2 fT2
  replace A0 := wcell hb2 A0
  replace A1 := wcell hb2 A1
  replace A2 := wcell hb2 A2
  replace B0 := wcell hb2 B0
  replace B1 := wcell hb2 B1
  replace B2 := wcell hb2 B2
  replace R0 := wcell hb2 R0
  replace R1 := wcell hb2 R1
  replace R2 := wcell hb2 R2
  replace T0 := wcell hb2 T0
  replace T1 := wcell hb2 T1
  replace T2 := wcell hb2 T2
  
  replace HB := below_step HB hb2
  replace N3 := Lib.hid (N3.out.mono hb2); replace N4 := Lib.hid (N4.out.mono hb2)
  clear hb2 A1 A2 B1 B2
  have OLD_r : BoxHas V r .int (.agg #[.bool false, .int .u64 0, .slice none 0 0]) ∧ BoxFree V r .int := ⟨.mkInt R0 R1 R2, free3 fR0 fR1 fR2⟩
  have OLD_t : BoxHas V t .int (.agg #[.bool false, .int .u64 0, .slice none 0 0]) ∧ BoxFree V t .int := ⟨.mkInt T0 T1 T2, free3 fT0 fT1 fT2⟩
  have ir : a ∉ [r, t] ∧ b ∉ [r, t] ∧ u ∉ [r, t] ∧ v ∉ [r, t] := by simp [nar, nat, nbr, nbt, nur, nut, nvr, nvt]
  refine region_told (T := [0, 1, 2, 3, 4, 5, 6, 7, 8, 9, 10, 11, 14]) (slots := [38, 39, 40, 41, 42, 43, 44, 45, 46, 47, 48, 49, 6])
      (tab := [.is (.pointer (some ⟨a, 0, none⟩)), .is (.bool g1), .is (.pointer (some ⟨b, 0, none⟩)), .is (.bool g1), .is (.bool false), .num (x.natAbs / y.natAbs), .int Q, .is (.pointer (some ⟨b, 0, none⟩)), .is (.bool g1), .num (x.natAbs % y.natAbs), .int M, .is (.bool true), .any, .any, .is (.bool true)])
      (D := [⟨r, .int, none, 12, (.int Q), (.agg #[.bool false, .int .u64 0, .slice none 0 0])⟩, ⟨t, .int, none, 13, (.int M), (.agg #[.bool false, .int .u64 0, .slice none 0 0])⟩])
      (F := [(.agg #[.int .u64 s3, .slice p3 l3 c3], .num (x.natAbs / y.natAbs)), (.agg #[.int .u64 s4, .slice p4 l4 c4], .num (x.natAbs % y.natAbs))])
      (by kernel_rfl) (by kernel_rfl) (by kernel_rfl) (by kernel_rfl) (by kernel_rfl) (by kernel_rfl) (by kernel_rfl) ?_ ?_ ?_ ?_ ?_
  · skip
    refine List.Pairwise.cons (fun y hy => ?_) ?_
    · simp only [List.mem_cons, List.not_mem_nil, or_false] at hy
      rcases hy with rfl
      · exact ⟨fun _ _ => (by assumption), by show 12 ≠ 13; decide, fun h => absurd rfl h⟩
    refine List.Pairwise.cons (fun y hy => ?_) ?_
    · cases hy
    exact List.Pairwise.nil
  · intro f hf; simp only [List.mem_cons, List.not_mem_nil, or_false] at hf; rcases hf with rfl | rfl
    · exact ⟨_, _, _, _, rfl, N3.out⟩
    · exact ⟨_, _, _, _, rfl, N4.out⟩
  · intro x hx hal; simp only [List.mem_cons, List.not_mem_nil, or_false] at hx; rcases hx with rfl | rfl
    · exact ⟨OLD_r.1, OLD_r.2, OLD_r.1.lt rfl⟩
    · exact ⟨OLD_t.1, OLD_t.2, OLD_t.1.lt rfl⟩
  · skip
    refine AllTold.cons rfl (fun β E W hA hF hc hf hE hV hP hB hS => Or.inl ⟨rfl, (by kernel_rfl), ?_⟩) ?_
    · have e1 : E (.tmp 2) = .pointer (some ⟨a, 0, none⟩) := hE 2 (by kernel_rfl)
      clear hE hV hP hB hS
      exact Does.value (w' := W) (by go_simp) ⟨rfl, Below.refl _ _⟩
    refine AllTold.cons rfl (fun β E W hA hF hc hf hE hV hP hB hS => Or.inl ⟨rfl, (by kernel_rfl), ?_⟩) ?_
    · have e1 : E (.tmp 38) = (.pointer (some ⟨a, 0, none⟩)) := hV 0 38 (by kernel_rfl) rfl
      have q0 := hA.cell A0 ir.1
      clear hE hV hP hB hS
      exact Does.value (w' := W) (by go_simp) ⟨rfl, Below.refl _ _⟩
    refine AllTold.cons rfl (fun β E W hA hF hc hf hE hV hP hB hS => Or.inl ⟨rfl, (by kernel_rfl), ?_⟩) ?_
    · have e1 : E (.tmp 3) = .pointer (some ⟨b, 0, none⟩) := hE 3 (by kernel_rfl)
      clear hE hV hP hB hS
      exact Does.value (w' := W) (by go_simp) ⟨rfl, Below.refl _ _⟩
    refine AllTold.cons rfl (fun β E W hA hF hc hf hE hV hP hB hS => Or.inl ⟨rfl, (by kernel_rfl), ?_⟩) ?_
    · have e1 : E (.tmp 40) = (.pointer (some ⟨b, 0, none⟩)) := hV 2 40 (by kernel_rfl) rfl
      have q0 := hA.cell B0 ir.2.1
      clear hE hV hP hB hS
      exact Does.value (w' := W) (by go_simp) ⟨rfl, Below.refl _ _⟩
    refine AllTold.cons rfl (fun β E W hA hF hc hf hE hV hP hB hS => Or.inl ⟨rfl, (by kernel_rfl), ?_⟩) ?_
    · have e1 : E (.tmp 39) = (.bool g1) := hV 1 39 (by kernel_rfl) rfl
      have e2 : E (.tmp 41) = (.bool g1) := hV 3 41 (by kernel_rfl) rfl
      clear hE hV hP hB hS
      exact Does.value (w' := W) (by go_simp) ⟨rfl, Below.refl _ _⟩
    refine AllTold.cons rfl (fun β E W hA hF hc hf hE hV hP hB hS => Or.inl ⟨rfl, (by kernel_rfl), ?_⟩) ?_
    · have e1 : E (.tmp 7) = .pointer (some ⟨u, 0, none⟩) := hE 7 (by kernel_rfl)
      have q0 := hA.cell U0 ir.2.2.1
      have q1 := hA.cell U1 ir.2.2.1
      clear hE hV hP hB hS
      exact Does.value (v := .agg #[.int .u64 s3, .slice p3 l3 c3]) (w' := W) (by go_simp) ⟨hF (_, _) mb0, Below.refl _ _⟩
    refine AllTold.cons rfl (fun β E W hA hF hc hf hE hV hP hB hS => Or.inl ⟨rfl, (by kernel_rfl), ?_⟩) ?_
    · have e1 : E (.tmp 42) = (.bool false) := hV 4 42 (by kernel_rfl) rfl
      have e2 : Means W (.num (x.natAbs / y.natAbs)) (E (.tmp 43)) := hV 5 43 (by kernel_rfl) rfl
      clear hE hV hP hB hS
      obtain ⟨s, p, l, c, e2', hI⟩ := e2
      exact Does.call (w' := W) (by go_simp) ((HF.out s p l c W hI).mono fun e w' h => h.want)
    refine AllTold.cons rfl (fun β E W hA hF hc hf hE hV hP hB hS => Or.inl ⟨rfl, (by kernel_rfl), ?_⟩) ?_
    · have e1 : E (.tmp 3) = .pointer (some ⟨b, 0, none⟩) := hE 3 (by kernel_rfl)
      clear hE hV hP hB hS
      exact Does.value (w' := W) (by go_simp) ⟨rfl, Below.refl _ _⟩
    refine AllTold.cons rfl (fun β E W hA hF hc hf hE hV hP hB hS => Or.inl ⟨rfl, (by kernel_rfl), ?_⟩) ?_
    · have e1 : E (.tmp 45) = (.pointer (some ⟨b, 0, none⟩)) := hV 7 45 (by kernel_rfl) rfl
      have q0 := hA.cell B0 ir.2.1
      clear hE hV hP hB hS
      exact Does.value (w' := W) (by go_simp) ⟨rfl, Below.refl _ _⟩
    refine AllTold.cons rfl (fun β E W hA hF hc hf hE hV hP hB hS => Or.inl ⟨rfl, (by kernel_rfl), ?_⟩) ?_
    · have e1 : E (.tmp 8) = .pointer (some ⟨v, 0, none⟩) := hE 8 (by kernel_rfl)
      have q0 := hA.cell V0 ir.2.2.2
      have q1 := hA.cell V1 ir.2.2.2
      clear hE hV hP hB hS
      exact Does.value (v := .agg #[.int .u64 s4, .slice p4 l4 c4]) (w' := W) (by go_simp) ⟨hF (_, _) mb1, Below.refl _ _⟩
    refine AllTold.cons rfl (fun β E W hA hF hc hf hE hV hP hB hS => Or.inl ⟨rfl, (by kernel_rfl), ?_⟩) ?_
    · have e1 : E (.tmp 46) = (.bool g1) := hV 8 46 (by kernel_rfl) rfl
      have e2 : Means W (.num (x.natAbs % y.natAbs)) (E (.tmp 47)) := hV 9 47 (by kernel_rfl) rfl
      clear hE hV hP hB hS
      obtain ⟨s, p, l, c, e2', hI⟩ := e2
      exact Does.call (w' := W) (by go_simp) ((HF2.out s p l c W hI).mono fun e w' h => h.want)
    refine AllTold.cons rfl (fun β E W hA hF hc hf hE hV hP hB hS => Or.inl ⟨rfl, (by kernel_rfl), ?_⟩) ?_
    · have e1 : E (.tmp 6) = .bool true := hE 6 (by kernel_rfl)
      clear hE hV hP hB hS
      exact Does.value (w' := W) (by go_simp) ⟨rfl, Below.refl _ _⟩
    refine AllTold.cons rfl (fun β E W hA hF hc hf hE hV hP hB hS => Or.inr (Or.inl ⟨rfl, ⟨_, mb0, rfl, (by kernel_rfl), rfl, ?_⟩⟩)) ?_
    · have e1 : E (.tmp 4) = .pointer (some ⟨r, 0, none⟩) := hE 4 (by kernel_rfl)
      have e2 : Means W (.int Q) (E (.tmp 44)) := hV 6 44 (by kernel_rfl) rfl
      obtain ⟨hbx, hfr⟩ := hB _ mb0 (by kernel_rfl) (by kernel_rfl)
      replace hbx : BoxHas W r .int _ := hbx
      replace hfr : BoxFree W r .int := hfr
      obtain ⟨_, _, _, _, _, _, q0, q1, q2⟩ := hbx.int
      have t0 := hfr 0 (by show 0 < 3; decide)
      have t1 := hfr 1 (by show 1 < 3; decide)
      have t2 := hfr 2 (by show 2 < 3; decide)
      obtain ⟨g, s, p, l, c, e2', hI⟩ := e2
      clear hE hV hP hB hS
      exact Does.skip (by go_simp) ⟨_, Stored.mkInt (b := r), ⟨g, s, p, l, c, rfl, hI⟩⟩
    refine AllTold.cons rfl (fun β E W hA hF hc hf hE hV hP hB hS => Or.inr (Or.inl ⟨rfl, ⟨_, mb1, rfl, (by kernel_rfl), rfl, ?_⟩⟩)) ?_
    · have e1 : E (.tmp 5) = .pointer (some ⟨t, 0, none⟩) := hE 5 (by kernel_rfl)
      have e2 : Means W (.int M) (E (.tmp 48)) := hV 10 48 (by kernel_rfl) rfl
      obtain ⟨hbx, hfr⟩ := hB _ mb1 (by kernel_rfl) (by kernel_rfl)
      replace hbx : BoxHas W t .int _ := hbx
      replace hfr : BoxFree W t .int := hfr
      obtain ⟨_, _, _, _, _, _, q0, q1, q2⟩ := hbx.int
      have t0 := hfr 0 (by show 0 < 3; decide)
      have t1 := hfr 1 (by show 1 < 3; decide)
      have t2 := hfr 2 (by show 2 < 3; decide)
      obtain ⟨g, s, p, l, c, e2', hI⟩ := e2
      clear hE hV hP hB hS
      exact Does.skip (by go_simp) ⟨_, Stored.mkInt (b := t), ⟨g, s, p, l, c, rfl, hI⟩⟩
    refine AllTold.cons rfl (fun β E W hA hF hc hf hE hV hP hB hS => Or.inl ⟨rfl, (by kernel_rfl), ?_⟩) ?_
    · have e1 : E (.tmp 49) = (.bool true) := hV 11 49 (by kernel_rfl) rfl
      clear hE hV hP hB hS
      exact Does.value (w' := W) (by go_simp) ⟨rfl, Below.refl _ _⟩
    exact AllTold.nil
  · intro β f W' hf hS hN hA _ _ _ _
    have e6 : f 6 = .bool true := hf (14, 6) (by simp)
    obtain ⟨g5, s5, p5, l5, c5, r0, r1, r2, hI1⟩ := (show Says W' r .int (.int Q) from (hS _ mb0).1).int
    obtain ⟨g6, s6, p6, l6, c6, r3, r4, r5, hI2⟩ := (show Says W' t .int (.int M) from (hS _ mb1).1).int
    have HBW := Lib.hid (HB.trans (hA.below (B := w.heap.size) (by simp [oldBlocks]; exact ⟨zw, zw2⟩) HB.size))
    have I1 := Lib.hid hI1; have I2 := Lib.hid hI2
    clear hf hS hN hA hI1 hI2
    simp only [fillSlots, e6]
    go_wp2
    exact bodyPost_ret (v := .tuple #[.agg #[.bool g5, .int .u64 s5, .slice p5 l5 c5], .agg #[.bool g6, .int .u64 s6, .slice p6 l6 c6], .bool true]) (by simp [results, Tryz.results27, go_sem, r0, r1, r2, r3, r4, r5]) rfl ⟨_, _, _, _, _, _, _, _, _, _, rfl, I1.out, I2.out, HBW.out⟩

set_option maxRecDepth 100000 in
set_option maxHeartbeats 2000000 in
theorem iDiv_zero (x y : Int) (g1 g2 : Bool) (s1 s2 : Int) (p1 p2 : Option Addr) (l1 c1 l2 c2 : Nat) (w : World) (hy0 : y ≠ 0) (hx : (ds x.natAbs).length ≤ 1000000) (_hy : (ds y.natAbs).length ≤ 1000000) (hg : g1 ≠ g2) (h0 : x.natAbs % y.natAbs = 0) (h1 : IsI w g1 s1 p1 l1 c1 x) (h2 : IsI w g2 s2 p2 l2 c2 y) :
    Calls Tryz.prog 27 #[.agg #[.bool g1, .int .u64 s1, .slice p1 l1 c1], .agg #[.bool g2, .int .u64 s2, .slice p2 l2 c2]] w (RetQI w (qdiv x y) (qmod x y) true) := by
  obtain ⟨e1, h1⟩ := h1
  obtain ⟨e2, h2⟩ := h2
  obtain ⟨q1, q2⟩ := parts_zero hy0 (by rw [← e1, ← e2]; exact hg) h0
  rw [← e2] at q2
  have HM := Lib.hid (fun W a b => div_any s1 s2 p1 p2 l1 c1 l2 c2 x.natAbs y.natAbs W hx (by omega) a b)
  have HF := Lib.hid (fun s p l c W a => iFrom_any true (x.natAbs / y.natAbs) s p l c W a)
  have HF2 := Lib.hid (fun s p l c W a => iFrom_any g2 (x.natAbs % y.natAbs) s p l c W a)
  rw [q1] at HF
  rw [q2] at HF2
  have HZ := Lib.hid (fun s p l c W a => izero_any (x.natAbs % y.natAbs) s p l c W a)
  rw [decide_eq_true h0] at HZ
  have H1 := Lib.hid h1; have H2 := Lib.hid h2
  clear e1 e2 h1 h2 hx _hy hy0 q1 q2 h0
  generalize qdiv x y = Q at *
  generalize qmod x y = M at *
  have hn : (g1 == g2) = false := beq_eq_false_iff_ne.2 hg
  go_enter Tryz.func27, Tryz.ntmps27
  obtain ⟨W, a, b, r, t, hW, ht, hr, hbb, ha, ⟨A0, A1, A2⟩, ⟨B0, B1, B2⟩, ⟨R0, R1, R2⟩, ⟨T0, T1, T2⟩, fR0, fR1, fR2, fT0, fT1, fT2, ⟨nar, nbr, nat, nbt, nrt⟩, ⟨za, zb, zr, zt⟩, zw, zw2, HB⟩ := boxes4 w g1 g2 s1 s2 p1 p2 l1 c1 l2 c2
  go_wp2_with fail
  rw [← hW, ← ht, ← hr, ← hbb, ← ha]
  clear hW ht hr hbb ha
  refine (HM.out _ (H1.out.mono HB) (H2.out.mono HB)).mono ?_
  rintro e w1 ⟨s3, p3, l3, c3, s4, p4, l4, c4, rfl, n3, n4, hb⟩
  replace fR0 := wfree hb R0 fR0
  replace fR1 := wfree hb R1 fR1
  replace fR2 := wfree hb R2 fR2
  replace fT0 := wfree hb T0 fT0
  replace fT1 := wfree hb T1 fT1
  replace fT2 := wfree hb T2 fT2
  replace A0 := wcell hb A0
  replace A1 := wcell hb A1
  replace A2 := wcell hb A2
  replace B0 := wcell hb B0
  replace B1 := wcell hb B1
  replace B2 := wcell hb B2
  replace R0 := wcell hb R0
  replace R1 := wcell hb R1
  replace R2 := wcell hb R2
  replace T0 := wcell hb T0
  replace T1 := wcell hb T1
  replace T2 := wcell hb T2
  replace za := bstep hb za
  replace zb := bstep hb zb
  replace zr := bstep hb zr
  replace zt := bstep hb zt
  replace HB := below_step HB hb
  have N3 := Lib.hid n3; have N4 := Lib.hid n4
  clear n3 n4
  go_wp2_with fail
  obtain ⟨V, u, v, hV, hv, hu, U0, U1, V0, V1, fU0, fU1, fV0, fV1, hb2⟩ := boxesN w1 s3 s4 p3 p4 l3 c3 l4 c4
  have nur : u ≠ r := by omega
  have nut : u ≠ t := by omega
  have nvr : v ≠ r := by omega
  have nvt : v ≠ t := by omega
  have nau : a ≠ u := by omega
  have nav : a ≠ v := by omega
  have nbu : b ≠ u := by omega
  have nbv : b ≠ v := by omega
  have nuv : u ≠ v := by omega
  have zu : w.heap.size ≤ u := by have := HB.size; omega
  have zv : w.heap.size ≤ v := by omega
  rw [← hV, ← hv, ← hu]
  clear hV hv hu hb za zb zr zt
  replace fR0 := wfree hb2 R0 fR0
  replace fR1 := wfree hb2 R1 fR1
  replace fR2 := wfree hb2 R2 fR2
  replace fT0 := wfree hb2 T0 fT0
  replace fT1 := wfree hb2 T1 fT1
  replace fT2 := wfree hb2 T2 fT2
  replace A0 := wcell hb2 A0
  replace A1 := wcell hb2 A1
  replace A2 := wcell hb2 A2
  replace B0 := wcell hb2 B0
  replace B1 := wcell hb2 B1
  replace B2 := wcell hb2 B2
  replace R0 := wcell hb2 R0
  replace R1 := wcell hb2 R1
  replace R2 := wcell hb2 R2
  replace T0 := wcell hb2 T0
  replace T1 := wcell hb2 T1
  replace T2 := wcell hb2 T2
  
  replace HB := below_step HB hb2
  replace N3 := Lib.hid (N3.out.mono hb2); replace N4 := Lib.hid (N4.out.mono hb2)
  clear hb2 A1 A2 B1 B2
  refine (HZ.out s4 p4 l4 c4 _ N4.out).mono ?_
  rintro e w2 ⟨rfl, hb3⟩
  replace A0 := wcell hb3 A0
  replace B0 := wcell hb3 B0
  replace fR0 := wfree hb3 R0 fR0
  replace fR1 := wfree hb3 R1 fR1
  replace fR2 := wfree hb3 R2 fR2
  replace fT0 := wfree hb3 T0 fT0
  replace fT1 := wfree hb3 T1 fT1
  replace fT2 := wfree hb3 T2 fT2
  replace R0 := wcell hb3 R0
  replace R1 := wcell hb3 R1
  replace R2 := wcell hb3 R2
  replace T0 := wcell hb3 T0
  replace T1 := wcell hb3 T1
  replace T2 := wcell hb3 T2
  replace U0 := wcell hb3 U0
  replace U1 := wcell hb3 U1
  replace V0 := wcell hb3 V0
  replace V1 := wcell hb3 V1
  
  replace HB := below_step HB hb3
  replace N3 := Lib.hid (N3.out.mono hb3); replace N4 := Lib.hid (N4.out.mono hb3)
  clear hb3 fU0 fU1 fV0 fV1
  go_wp2
  have OLD_r : BoxHas w2 r .int (.agg #[.bool false, .int .u64 0, .slice none 0 0]) ∧ BoxFree w2 r .int := ⟨.mkInt R0 R1 R2, free3 fR0 fR1 fR2⟩
  have OLD_t : BoxHas w2 t .int (.agg #[.bool false, .int .u64 0, .slice none 0 0]) ∧ BoxFree w2 t .int := ⟨.mkInt T0 T1 T2, free3 fT0 fT1 fT2⟩
  have ir : a ∉ [r, t] ∧ b ∉ [r, t] ∧ u ∉ [r, t] ∧ v ∉ [r, t] := by simp [nar, nat, nbr, nbt, nur, nut, nvr, nvt]
  refine region_told (T := [0, 1, 2, 3, 4, 5, 6, 7, 8, 9, 10, 11, 14]) (slots := [38, 39, 40, 41, 42, 43, 44, 45, 46, 47, 48, 49, 6])
      (tab := [.is (.pointer (some ⟨a, 0, none⟩)), .is (.bool g1), .is (.pointer (some ⟨b, 0, none⟩)), .is (.bool g2), .is (.bool true), .num (x.natAbs / y.natAbs), .int Q, .is (.pointer (some ⟨b, 0, none⟩)), .is (.bool g2), .num (x.natAbs % y.natAbs), .int M, .is (.bool true), .any, .any, .is (.bool true)])
      (D := [⟨r, .int, none, 12, (.int Q), (.agg #[.bool false, .int .u64 0, .slice none 0 0])⟩, ⟨t, .int, none, 13, (.int M), (.agg #[.bool false, .int .u64 0, .slice none 0 0])⟩])
      (F := [(.agg #[.int .u64 s3, .slice p3 l3 c3], .num (x.natAbs / y.natAbs)), (.agg #[.int .u64 s4, .slice p4 l4 c4], .num (x.natAbs % y.natAbs))])
      (by kernel_rfl) (by kernel_rfl) (by kernel_rfl) (by kernel_rfl) (by kernel_rfl) (by kernel_rfl) (by kernel_rfl) ?_ ?_ ?_ ?_ ?_
  · skip
    refine List.Pairwise.cons (fun y hy => ?_) ?_
    · simp only [List.mem_cons, List.not_mem_nil, or_false] at hy
      rcases hy with rfl
      · exact ⟨fun _ _ => (by assumption), by show 12 ≠ 13; decide, fun h => absurd rfl h⟩
    refine List.Pairwise.cons (fun y hy => ?_) ?_
    · cases hy
    exact List.Pairwise.nil
  · intro f hf; simp only [List.mem_cons, List.not_mem_nil, or_false] at hf; rcases hf with rfl | rfl
    · exact ⟨_, _, _, _, rfl, N3.out⟩
    · exact ⟨_, _, _, _, rfl, N4.out⟩
  · intro x hx hal; simp only [List.mem_cons, List.not_mem_nil, or_false] at hx; rcases hx with rfl | rfl
    · exact ⟨OLD_r.1, OLD_r.2, OLD_r.1.lt rfl⟩
    · exact ⟨OLD_t.1, OLD_t.2, OLD_t.1.lt rfl⟩
  · skip
    refine AllTold.cons rfl (fun β E W hA hF hc hf hE hV hP hB hS => Or.inl ⟨rfl, (by kernel_rfl), ?_⟩) ?_
    · have e1 : E (.tmp 2) = .pointer (some ⟨a, 0, none⟩) := hE 2 (by kernel_rfl)
      clear hE hV hP hB hS
      exact Does.value (w' := W) (by go_simp) ⟨rfl, Below.refl _ _⟩
    refine AllTold.cons rfl (fun β E W hA hF hc hf hE hV hP hB hS => Or.inl ⟨rfl, (by kernel_rfl), ?_⟩) ?_
    · have e1 : E (.tmp 38) = (.pointer (some ⟨a, 0, none⟩)) := hV 0 38 (by kernel_rfl) rfl
      have q0 := hA.cell A0 ir.1
      clear hE hV hP hB hS
      exact Does.value (w' := W) (by go_simp) ⟨rfl, Below.refl _ _⟩
    refine AllTold.cons rfl (fun β E W hA hF hc hf hE hV hP hB hS => Or.inl ⟨rfl, (by kernel_rfl), ?_⟩) ?_
    · have e1 : E (.tmp 3) = .pointer (some ⟨b, 0, none⟩) := hE 3 (by kernel_rfl)
      clear hE hV hP hB hS
      exact Does.value (w' := W) (by go_simp) ⟨rfl, Below.refl _ _⟩
    refine AllTold.cons rfl (fun β E W hA hF hc hf hE hV hP hB hS => Or.inl ⟨rfl, (by kernel_rfl), ?_⟩) ?_
    · have e1 : E (.tmp 40) = (.pointer (some ⟨b, 0, none⟩)) := hV 2 40 (by kernel_rfl) rfl
      have q0 := hA.cell B0 ir.2.1
      clear hE hV hP hB hS
      exact Does.value (w' := W) (by go_simp) ⟨rfl, Below.refl _ _⟩
    refine AllTold.cons rfl (fun β E W hA hF hc hf hE hV hP hB hS => Or.inl ⟨rfl, (by kernel_rfl), ?_⟩) ?_
    · have e1 : E (.tmp 39) = (.bool g1) := hV 1 39 (by kernel_rfl) rfl
      have e2 : E (.tmp 41) = (.bool g2) := hV 3 41 (by kernel_rfl) rfl
      clear hE hV hP hB hS
      exact Does.value (w' := W) (by go_simp) ⟨rfl, Below.refl _ _⟩
    refine AllTold.cons rfl (fun β E W hA hF hc hf hE hV hP hB hS => Or.inl ⟨rfl, (by kernel_rfl), ?_⟩) ?_
    · have e1 : E (.tmp 7) = .pointer (some ⟨u, 0, none⟩) := hE 7 (by kernel_rfl)
      have q0 := hA.cell U0 ir.2.2.1
      have q1 := hA.cell U1 ir.2.2.1
      clear hE hV hP hB hS
      exact Does.value (v := .agg #[.int .u64 s3, .slice p3 l3 c3]) (w' := W) (by go_simp) ⟨hF (_, _) mb0, Below.refl _ _⟩
    refine AllTold.cons rfl (fun β E W hA hF hc hf hE hV hP hB hS => Or.inl ⟨rfl, (by kernel_rfl), ?_⟩) ?_
    · have e1 : E (.tmp 42) = (.bool true) := hV 4 42 (by kernel_rfl) rfl
      have e2 : Means W (.num (x.natAbs / y.natAbs)) (E (.tmp 43)) := hV 5 43 (by kernel_rfl) rfl
      clear hE hV hP hB hS
      obtain ⟨s, p, l, c, e2', hI⟩ := e2
      exact Does.call (w' := W) (by go_simp) ((HF.out s p l c W hI).mono fun e w' h => h.want)
    refine AllTold.cons rfl (fun β E W hA hF hc hf hE hV hP hB hS => Or.inl ⟨rfl, (by kernel_rfl), ?_⟩) ?_
    · have e1 : E (.tmp 3) = .pointer (some ⟨b, 0, none⟩) := hE 3 (by kernel_rfl)
      clear hE hV hP hB hS
      exact Does.value (w' := W) (by go_simp) ⟨rfl, Below.refl _ _⟩
    refine AllTold.cons rfl (fun β E W hA hF hc hf hE hV hP hB hS => Or.inl ⟨rfl, (by kernel_rfl), ?_⟩) ?_
    · have e1 : E (.tmp 45) = (.pointer (some ⟨b, 0, none⟩)) := hV 7 45 (by kernel_rfl) rfl
      have q0 := hA.cell B0 ir.2.1
      clear hE hV hP hB hS
      exact Does.value (w' := W) (by go_simp) ⟨rfl, Below.refl _ _⟩
    refine AllTold.cons rfl (fun β E W hA hF hc hf hE hV hP hB hS => Or.inl ⟨rfl, (by kernel_rfl), ?_⟩) ?_
    · have e1 : E (.tmp 8) = .pointer (some ⟨v, 0, none⟩) := hE 8 (by kernel_rfl)
      have q0 := hA.cell V0 ir.2.2.2
      have q1 := hA.cell V1 ir.2.2.2
      clear hE hV hP hB hS
      exact Does.value (v := .agg #[.int .u64 s4, .slice p4 l4 c4]) (w' := W) (by go_simp) ⟨hF (_, _) mb1, Below.refl _ _⟩
    refine AllTold.cons rfl (fun β E W hA hF hc hf hE hV hP hB hS => Or.inl ⟨rfl, (by kernel_rfl), ?_⟩) ?_
    · have e1 : E (.tmp 46) = (.bool g2) := hV 8 46 (by kernel_rfl) rfl
      have e2 : Means W (.num (x.natAbs % y.natAbs)) (E (.tmp 47)) := hV 9 47 (by kernel_rfl) rfl
      clear hE hV hP hB hS
      obtain ⟨s, p, l, c, e2', hI⟩ := e2
      exact Does.call (w' := W) (by go_simp) ((HF2.out s p l c W hI).mono fun e w' h => h.want)
    refine AllTold.cons rfl (fun β E W hA hF hc hf hE hV hP hB hS => Or.inl ⟨rfl, (by kernel_rfl), ?_⟩) ?_
    · have e1 : E (.tmp 6) = .bool true := hE 6 (by kernel_rfl)
      clear hE hV hP hB hS
      exact Does.value (w' := W) (by go_simp) ⟨rfl, Below.refl _ _⟩
    refine AllTold.cons rfl (fun β E W hA hF hc hf hE hV hP hB hS => Or.inr (Or.inl ⟨rfl, ⟨_, mb0, rfl, (by kernel_rfl), rfl, ?_⟩⟩)) ?_
    · have e1 : E (.tmp 4) = .pointer (some ⟨r, 0, none⟩) := hE 4 (by kernel_rfl)
      have e2 : Means W (.int Q) (E (.tmp 44)) := hV 6 44 (by kernel_rfl) rfl
      obtain ⟨hbx, hfr⟩ := hB _ mb0 (by kernel_rfl) (by kernel_rfl)
      replace hbx : BoxHas W r .int _ := hbx
      replace hfr : BoxFree W r .int := hfr
      obtain ⟨_, _, _, _, _, _, q0, q1, q2⟩ := hbx.int
      have t0 := hfr 0 (by show 0 < 3; decide)
      have t1 := hfr 1 (by show 1 < 3; decide)
      have t2 := hfr 2 (by show 2 < 3; decide)
      obtain ⟨g, s, p, l, c, e2', hI⟩ := e2
      clear hE hV hP hB hS
      exact Does.skip (by go_simp) ⟨_, Stored.mkInt (b := r), ⟨g, s, p, l, c, rfl, hI⟩⟩
    refine AllTold.cons rfl (fun β E W hA hF hc hf hE hV hP hB hS => Or.inr (Or.inl ⟨rfl, ⟨_, mb1, rfl, (by kernel_rfl), rfl, ?_⟩⟩)) ?_
    · have e1 : E (.tmp 5) = .pointer (some ⟨t, 0, none⟩) := hE 5 (by kernel_rfl)
      have e2 : Means W (.int M) (E (.tmp 48)) := hV 10 48 (by kernel_rfl) rfl
      obtain ⟨hbx, hfr⟩ := hB _ mb1 (by kernel_rfl) (by kernel_rfl)
      replace hbx : BoxHas W t .int _ := hbx
      replace hfr : BoxFree W t .int := hfr
      obtain ⟨_, _, _, _, _, _, q0, q1, q2⟩ := hbx.int
      have t0 := hfr 0 (by show 0 < 3; decide)
      have t1 := hfr 1 (by show 1 < 3; decide)
      have t2 := hfr 2 (by show 2 < 3; decide)
      obtain ⟨g, s, p, l, c, e2', hI⟩ := e2
      clear hE hV hP hB hS
      exact Does.skip (by go_simp) ⟨_, Stored.mkInt (b := t), ⟨g, s, p, l, c, rfl, hI⟩⟩
    refine AllTold.cons rfl (fun β E W hA hF hc hf hE hV hP hB hS => Or.inl ⟨rfl, (by kernel_rfl), ?_⟩) ?_
    · have e1 : E (.tmp 49) = (.bool true) := hV 11 49 (by kernel_rfl) rfl
      clear hE hV hP hB hS
      exact Does.value (w' := W) (by go_simp) ⟨rfl, Below.refl _ _⟩
    exact AllTold.nil
  · intro β f W' hf hS hN hA _ _ _ _
    have e6 : f 6 = .bool true := hf (14, 6) (by simp)
    obtain ⟨g5, s5, p5, l5, c5, r0, r1, r2, hI1⟩ := (show Says W' r .int (.int Q) from (hS _ mb0).1).int
    obtain ⟨g6, s6, p6, l6, c6, r3, r4, r5, hI2⟩ := (show Says W' t .int (.int M) from (hS _ mb1).1).int
    have HBW := Lib.hid (HB.trans (hA.below (B := w.heap.size) (by simp [oldBlocks]; exact ⟨zw, zw2⟩) HB.size))
    have I1 := Lib.hid hI1; have I2 := Lib.hid hI2
    clear hf hS hN hA hI1 hI2
    simp only [fillSlots, e6]
    go_wp2
    exact bodyPost_ret (v := .tuple #[.agg #[.bool g5, .int .u64 s5, .slice p5 l5 c5], .agg #[.bool g6, .int .u64 s6, .slice p6 l6 c6], .bool true]) (by simp [results, Tryz.results27, go_sem, r0, r1, r2, r3, r4, r5]) rfl ⟨_, _, _, _, _, _, _, _, _, _, rfl, I1.out, I2.out, HBW.out⟩

set_option maxRecDepth 100000 in
set_option maxHeartbeats 2000000 in
theorem iDiv_more (x y : Int) (g1 g2 : Bool) (s1 s2 : Int) (p1 p2 : Option Addr) (l1 c1 l2 c2 : Nat) (w : World) (hy0 : y ≠ 0) (hx : (ds x.natAbs).length ≤ 1000000) (hy : (ds y.natAbs).length ≤ 1000000) (hg : g1 ≠ g2) (h0 : x.natAbs % y.natAbs ≠ 0) (h1 : IsI w g1 s1 p1 l1 c1 x) (h2 : IsI w g2 s2 p2 l2 c2 y) :
    Calls Tryz.prog 27 #[.agg #[.bool g1, .int .u64 s1, .slice p1 l1 c1], .agg #[.bool g2, .int .u64 s2, .slice p2 l2 c2]] w (RetQI w (qdiv x y) (qmod x y) true) := by
  obtain ⟨e1, h1⟩ := h1
  obtain ⟨e2, h2⟩ := h2
  obtain ⟨q1, q2⟩ := parts_more hy0 (by rw [← e1, ← e2]; exact hg) h0
  rw [← e2] at q2
  have HM := Lib.hid (fun W a b => div_any s1 s2 p1 p2 l1 c1 l2 c2 x.natAbs y.natAbs W hx (by omega) a b)
  have HF := Lib.hid (fun s p l c W a => iFrom_any true (x.natAbs / y.natAbs + 1) s p l c W a)
  have HF2 := Lib.hid (fun s p l c W a => iFrom_any g2 (y.natAbs - x.natAbs % y.natAbs) s p l c W a)
  rw [q1] at HF
  rw [q2] at HF2
  have HZ := Lib.hid (fun s p l c W a => izero_any (x.natAbs % y.natAbs) s p l c W a)
  rw [decide_eq_false h0] at HZ
  have HQ := Lib.hid (fun s p l c t q k d W a b => add_any s t p q l c k d (x.natAbs / y.natAbs) 1 W (Nat.le_trans (ds_mono (Nat.div_le_self _ _)) hx) (by rw [ds_one (by omega)]; omega) a b)
  have HS := Lib.hid (fun s p l c W a b => sub_any s2 s p2 p l2 c2 l c y.natAbs (x.natAbs % y.natAbs) W hy a b)
  have HLE := Lib.hid (Nat.le_of_lt (Nat.mod_lt x.natAbs (show 0 < y.natAbs by omega)))
  have H1 := Lib.hid h1; have H2 := Lib.hid h2
  clear e1 e2 h1 h2 hx hy hy0 q1 q2 h0
  generalize qdiv x y = Q at *
  generalize qmod x y = M at *
  have hn : (g1 == g2) = false := beq_eq_false_iff_ne.2 hg
  go_enter Tryz.func27, Tryz.ntmps27
  obtain ⟨W, a, b, r, t, hW, ht, hr, hbb, ha, ⟨A0, A1, A2⟩, ⟨B0, B1, B2⟩, ⟨R0, R1, R2⟩, ⟨T0, T1, T2⟩, fR0, fR1, fR2, fT0, fT1, fT2, ⟨nar, nbr, nat, nbt, nrt⟩, ⟨za, zb, zr, zt⟩, zw, zw2, HB⟩ := boxes4 w g1 g2 s1 s2 p1 p2 l1 c1 l2 c2
  go_wp2_with fail
  rw [← hW, ← ht, ← hr, ← hbb, ← ha]
  clear hW ht hr hbb ha
  refine (HM.out _ (H1.out.mono HB) (H2.out.mono HB)).mono ?_
  rintro e w1 ⟨s3, p3, l3, c3, s4, p4, l4, c4, rfl, n3, n4, hb⟩
  replace fR0 := wfree hb R0 fR0
  replace fR1 := wfree hb R1 fR1
  replace fR2 := wfree hb R2 fR2
  replace fT0 := wfree hb T0 fT0
  replace fT1 := wfree hb T1 fT1
  replace fT2 := wfree hb T2 fT2
  replace A0 := wcell hb A0
  replace A1 := wcell hb A1
  replace A2 := wcell hb A2
  replace B0 := wcell hb B0
  replace B1 := wcell hb B1
  replace B2 := wcell hb B2
  replace R0 := wcell hb R0
  replace R1 := wcell hb R1
  replace R2 := wcell hb R2
  replace T0 := wcell hb T0
  replace T1 := wcell hb T1
  replace T2 := wcell hb T2
  replace za := bstep hb za
  replace zb := bstep hb zb
  replace zr := bstep hb zr
  replace zt := bstep hb zt
  replace HB := below_step HB hb
  have N3 := Lib.hid n3; have N4 := Lib.hid n4
  clear n3 n4
  go_wp2_with fail
  obtain ⟨V, u, v, hV, hv, hu, U0, U1, V0, V1, fU0, fU1, fV0, fV1, hb2⟩ := boxesN w1 s3 s4 p3 p4 l3 c3 l4 c4
  have nur : u ≠ r := by omega
  have nut : u ≠ t := by omega
  have nvr : v ≠ r := by omega
  have nvt : v ≠ t := by omega
  have nau : a ≠ u := by omega
  have nav : a ≠ v := by omega
  have nbu : b ≠ u := by omega
  have nbv : b ≠ v := by omega
  have nuv : u ≠ v := by omega
  have zu : w.heap.size ≤ u := by have := HB.size; omega
  have zv : w.heap.size ≤ v := by omega
  rw [← hV, ← hv, ← hu]
  clear hV hv hu hb za zb zr zt
  replace fR0 := wfree hb2 R0 fR0
  replace fR1 := wfree hb2 R1 fR1
  replace fR2 := wfree hb2 R2 fR2
  replace fT0 := wfree hb2 T0 fT0
  replace fT1 := wfree hb2 T1 fT1
  replace fT2 := wfree hb2 T2 fT2
  replace A0 := wcell hb2 A0
  replace A1 := wcell hb2 A1
  replace A2 := wcell hb2 A2
  replace B0 := wcell hb2 B0
  replace B1 := wcell hb2 B1
  replace B2 := wcell hb2 B2
  replace R0 := wcell hb2 R0
  replace R1 := wcell hb2 R1
  replace R2 := wcell hb2 R2
  replace T0 := wcell hb2 T0
  replace T1 := wcell hb2 T1
  replace T2 := wcell hb2 T2
  
  replace HB := below_step HB hb2
  replace N3 := Lib.hid (N3.out.mono hb2); replace N4 := Lib.hid (N4.out.mono hb2); replace H2 := Lib.hid (H2.out.mono HB)
  clear hb2 A1 A2
  refine (HZ.out s4 p4 l4 c4 _ N4.out).mono ?_
  rintro e w2 ⟨rfl, hb3⟩
  replace A0 := wcell hb3 A0
  replace fR0 := wfree hb3 R0 fR0
  replace fR1 := wfree hb3 R1 fR1
  replace fR2 := wfree hb3 R2 fR2
  replace fT0 := wfree hb3 T0 fT0
  replace fT1 := wfree hb3 T1 fT1
  replace fT2 := wfree hb3 T2 fT2
  replace fU0 := wfree hb3 U0 fU0
  replace fU1 := wfree hb3 U1 fU1
  replace fV0 := wfree hb3 V0 fV0
  replace fV1 := wfree hb3 V1 fV1
  replace B0 := wcell hb3 B0
  replace B1 := wcell hb3 B1
  replace B2 := wcell hb3 B2
  replace R0 := wcell hb3 R0
  replace R1 := wcell hb3 R1
  replace R2 := wcell hb3 R2
  replace T0 := wcell hb3 T0
  replace T1 := wcell hb3 T1
  replace T2 := wcell hb3 T2
  replace U0 := wcell hb3 U0
  replace U1 := wcell hb3 U1
  replace V0 := wcell hb3 V0
  replace V1 := wcell hb3 V1
  
  replace HB := below_step HB hb3
  replace N3 := Lib.hid (N3.out.mono hb3); replace N4 := Lib.hid (N4.out.mono hb3); replace H2 := Lib.hid (H2.out.mono hb3)
  clear hb3
  go_wp2
  have OLD_u : BoxHas w2 u .nat (.agg #[.int .u64 s3, .slice p3 l3 c3]) ∧ BoxFree w2 u .nat := ⟨.mkNat U0 U1, free2 fU0 fU1 rfl⟩
  refine region_told (T := [0, 1, 2]) (slots := [28, 29, 30])
      (tab := [.num (x.natAbs / y.natAbs), .num 1, .num (x.natAbs / y.natAbs + 1), .any])
      (D := [⟨u, .nat, none, 3, (.num (x.natAbs / y.natAbs + 1)), (.agg #[.int .u64 s3, .slice p3 l3 c3])⟩])
      (F := [(.agg #[.int .u64 s3, .slice p3 l3 c3], .num (x.natAbs / y.natAbs)), (.agg #[.int .u64 s4, .slice p4 l4 c4], .num (x.natAbs % y.natAbs)), (.agg #[.int .u64 s2, .slice p2 l2 c2], .num y.natAbs)])
      (by kernel_rfl) (by kernel_rfl) (by kernel_rfl) (by kernel_rfl) (by kernel_rfl) (by kernel_rfl) (by kernel_rfl) ?_ ?_ ?_ ?_ ?_
  · skip
    refine List.Pairwise.cons (fun y hy => ?_) ?_
    · cases hy
    exact List.Pairwise.nil
  · intro f hf; simp only [List.mem_cons, List.not_mem_nil, or_false] at hf; rcases hf with rfl | rfl | rfl
    · exact ⟨_, _, _, _, rfl, N3.out⟩
    · exact ⟨_, _, _, _, rfl, N4.out⟩
    · exact ⟨_, _, _, _, rfl, H2.out⟩
  · intro x hx hal; simp only [List.mem_cons, List.not_mem_nil, or_false] at hx; rcases hx with rfl
    · exact ⟨OLD_u.1, OLD_u.2, OLD_u.1.lt rfl⟩
  · skip
    refine AllTold.cons rfl (fun β E W hA hF hc hf hE hV hP hB hS => Or.inl ⟨rfl, (by kernel_rfl), ?_⟩) ?_
    · have e1 : E (.tmp 7) = .pointer (some ⟨u, 0, none⟩) := hE 7 (by kernel_rfl)
      obtain ⟨_, _, _, _, eo, q0, q1⟩ := (show BoxHas W u .nat _ from (hB _ mb0 (by kernel_rfl) (by kernel_rfl)).1).nat
      injection eo with eo
      simp only [Array.mk.injEq, List.cons.injEq, Value.int.injEq, Value.slice.injEq, and_true, true_and] at eo
      obtain ⟨rfl, rfl, rfl, rfl⟩ := eo
      clear hE hV hP hB hS
      exact Does.value (v := .agg #[.int .u64 s3, .slice p3 l3 c3]) (w' := W) (by go_simp) ⟨hF (_, _) mb0, Below.refl _ _⟩
    refine AllTold.cons rfl (fun β E W hA hF hc hf hE hV hP hB hS => Or.inl ⟨rfl, (by kernel_rfl), ?_⟩) ?_
    · clear hE hV hP hB hS
      exact Does.call (w' := W) (by go_simp) ((of_any _ _).mono fun e w' ⟨h1, h2⟩ => ⟨_, h1, ⟨_, _, _, _, rfl, Or.inl ⟨by omega, rfl, rfl, rfl, rfl⟩⟩, h2⟩)
    refine AllTold.cons rfl (fun β E W hA hF hc hf hE hV hP hB hS => Or.inl ⟨rfl, (by kernel_rfl), ?_⟩) ?_
    · have e1 : Means W (.num (x.natAbs / y.natAbs)) (E (.tmp 28)) := hV 0 28 (by kernel_rfl) rfl
      have e2 : Means W (.num 1) (E (.tmp 29)) := hV 1 29 (by kernel_rfl) rfl
      clear hE hV hP hB hS
      obtain ⟨s, p, l, c, e1', hI⟩ := e1
      obtain ⟨s', p', l', c', e2', hJ⟩ := e2
      exact Does.call (w' := W) (by go_simp) ((HQ.out s p l c s' p' l' c' W hI hJ).mono fun e w' h => h.want)
    refine AllTold.cons rfl (fun β E W hA hF hc hf hE hV hP hB hS => Or.inr (Or.inl ⟨rfl, ⟨_, mb0, rfl, (by kernel_rfl), rfl, ?_⟩⟩)) ?_
    · have e1 : E (.tmp 7) = .pointer (some ⟨u, 0, none⟩) := hE 7 (by kernel_rfl)
      have e2 : Means W (.num (x.natAbs / y.natAbs + 1)) (E (.tmp 30)) := hV 2 30 (by kernel_rfl) rfl
      obtain ⟨hbx, hfr⟩ := hB _ mb0 (by kernel_rfl) (by kernel_rfl)
      replace hbx : BoxHas W u .nat _ := hbx
      replace hfr : BoxFree W u .nat := hfr
      obtain ⟨_, _, _, _, _, q0, q1⟩ := hbx.nat
      have t0 := hfr 0 (by show 0 < 2; decide)
      have t1 := hfr 1 (by show 1 < 2; decide)
      obtain ⟨s, p, l, c, e2', hI⟩ := e2
      clear hE hV hP hB hS
      exact Does.skip (by go_simp) ⟨_, Stored.mkNat (b := u), ⟨s, p, l, c, rfl, hI⟩⟩
    exact AllTold.nil
  intro β f W' hf hS hN hA _ _ _ _
  obtain ⟨s7, p7, l7, c7, U0', U1', hI1⟩ := (show Says W' u .nat (.num (x.natAbs / y.natAbs + 1)) from (hS _ mb0).1).nat
  have in1 : a ∉ [u] ∧ b ∉ [u] ∧ r ∉ [u] ∧ t ∉ [u] ∧ v ∉ [u] := by simp [nau, nbu, nur.symm, nut.symm, nuv.symm]
  have hlr : r < w2.heap.size := World.block_lt_of_cell? _ _ R0
  have hlt : t < w2.heap.size := World.block_lt_of_cell? _ _ T0
  have hlv : v < w2.heap.size := World.block_lt_of_cell? _ _ V0
  replace fR0 := (hA.frozen hlr in1.2.2.1).trans fR0
  replace fR1 := (hA.frozen hlr in1.2.2.1).trans fR1
  replace fR2 := (hA.frozen hlr in1.2.2.1).trans fR2
  replace fT0 := (hA.frozen hlt in1.2.2.2.1).trans fT0
  replace fT1 := (hA.frozen hlt in1.2.2.2.1).trans fT1
  replace fT2 := (hA.frozen hlt in1.2.2.2.1).trans fT2
  replace fV0 := (hA.frozen hlv in1.2.2.2.2).trans fV0
  replace fV1 := (hA.frozen hlv in1.2.2.2.2).trans fV1
  replace A0 := hA.cell A0 in1.1
  replace B0 := hA.cell B0 in1.2.1
  replace B1 := hA.cell B1 in1.2.1
  replace B2 := hA.cell B2 in1.2.1
  replace R0 := hA.cell R0 in1.2.2.1
  replace R1 := hA.cell R1 in1.2.2.1
  replace R2 := hA.cell R2 in1.2.2.1
  replace T0 := hA.cell T0 in1.2.2.2.1
  replace T1 := hA.cell T1 in1.2.2.2.1
  replace T2 := hA.cell T2 in1.2.2.2.1
  replace V0 := hA.cell V0 in1.2.2.2.2
  replace V1 := hA.cell V1 in1.2.2.2.2
  replace HB : Below w.heap.size w W' := HB.trans (hA.below (B := w.heap.size) (by simp [oldBlocks]; exact zu) HB.size)
  replace N4 := Lib.hid (hN (_, _) mb1).isN
  replace H2 := Lib.hid (hN (_, _) mb2).isN
  replace N3 := Lib.hid hI1
  clear hf hS hN hA hI1 U0 U1 fU0 fU1 OLD_u hlr hlt hlv in1
  simp only [fillSlots]
  go_wp2_with fail
  refine (HS.out s4 p4 l4 c4 _ H2.out N4.out).mono ?_
  rintro e w3 h
  obtain ⟨s8, p8, l8, c8, rfl, n8, hb⟩ := RetSubN.ge h HLE.out
  replace U0 := wcell hb U0'; replace U1 := wcell hb U1'
  replace A0 := wcell hb A0; replace B0 := wcell hb B0
  replace fR0 := wfree hb R0 fR0
  replace fR1 := wfree hb R1 fR1
  replace fR2 := wfree hb R2 fR2
  replace fT0 := wfree hb T0 fT0
  replace fT1 := wfree hb T1 fT1
  replace fT2 := wfree hb T2 fT2
  replace fV0 := wfree hb V0 fV0
  replace fV1 := wfree hb V1 fV1
  replace R0 := wcell hb R0
  replace R1 := wcell hb R1
  replace R2 := wcell hb R2
  replace T0 := wcell hb T0
  replace T1 := wcell hb T1
  replace T2 := wcell hb T2
  replace V0 := wcell hb V0
  replace V1 := wcell hb V1
  
  replace HB := below_step HB hb
  replace N3 := Lib.hid (N3.out.mono hb)
  have N8 := Lib.hid n8
  clear h hb n8 B1 B2 N4 H1 H2
  go_wp2
  replace A0 := bx_other (b := v) (u := .int .u64 s8) (v := .slice p8 l8 c8) A0 nav
  replace B0 := bx_other (b := v) (u := .int .u64 s8) (v := .slice p8 l8 c8) B0 nbv
  replace R0 := bx_other (b := v) (u := .int .u64 s8) (v := .slice p8 l8 c8) R0 nvr.symm
  replace R1 := bx_other (b := v) (u := .int .u64 s8) (v := .slice p8 l8 c8) R1 nvr.symm
  replace R2 := bx_other (b := v) (u := .int .u64 s8) (v := .slice p8 l8 c8) R2 nvr.symm
  replace T0 := bx_other (b := v) (u := .int .u64 s8) (v := .slice p8 l8 c8) T0 nvt.symm
  replace T1 := bx_other (b := v) (u := .int .u64 s8) (v := .slice p8 l8 c8) T1 nvt.symm
  replace T2 := bx_other (b := v) (u := .int .u64 s8) (v := .slice p8 l8 c8) T2 nvt.symm
  replace U0 := bx_other (b := v) (u := .int .u64 s8) (v := .slice p8 l8 c8) U0 nuv
  replace U1 := bx_other (b := v) (u := .int .u64 s8) (v := .slice p8 l8 c8) U1 nuv
  replace N3 := Lib.hid (N3.out.box (g := v) (u := .int .u64 s8) (v := .slice p8 l8 c8) V1)
  replace N8 := Lib.hid (N8.out.box (g := v) (u := .int .u64 s8) (v := .slice p8 l8 c8) V1)
  replace HB := (HB.setCell (p := ⟨v, 0, none⟩) zv (.int .u64 s8)).setCell (p := ⟨v, 1, none⟩) zv (.slice p8 l8 c8)
  have V0' := bx_zero (u := .int .u64 s8) (v := .slice p8 l8 c8) V0
  have V1' := bx_one (u := .int .u64 s8) (v := .slice p8 l8 c8) V1
  replace fR0 : ((w3.setCell ⟨v, 0, none⟩ (.int .u64 s8)).setCell ⟨v, 1, none⟩ (.slice p8 l8 c8)).frozen? ⟨r, 0, none⟩ = false := by rw [World.frozen?_setCell, World.frozen?_setCell]; exact fR0
  replace fR1 : ((w3.setCell ⟨v, 0, none⟩ (.int .u64 s8)).setCell ⟨v, 1, none⟩ (.slice p8 l8 c8)).frozen? ⟨r, 1, none⟩ = false := by rw [World.frozen?_setCell, World.frozen?_setCell]; exact fR1
  replace fR2 : ((w3.setCell ⟨v, 0, none⟩ (.int .u64 s8)).setCell ⟨v, 1, none⟩ (.slice p8 l8 c8)).frozen? ⟨r, 2, none⟩ = false := by rw [World.frozen?_setCell, World.frozen?_setCell]; exact fR2
  replace fT0 : ((w3.setCell ⟨v, 0, none⟩ (.int .u64 s8)).setCell ⟨v, 1, none⟩ (.slice p8 l8 c8)).frozen? ⟨t, 0, none⟩ = false := by rw [World.frozen?_setCell, World.frozen?_setCell]; exact fT0
  replace fT1 : ((w3.setCell ⟨v, 0, none⟩ (.int .u64 s8)).setCell ⟨v, 1, none⟩ (.slice p8 l8 c8)).frozen? ⟨t, 1, none⟩ = false := by rw [World.frozen?_setCell, World.frozen?_setCell]; exact fT1
  replace fT2 : ((w3.setCell ⟨v, 0, none⟩ (.int .u64 s8)).setCell ⟨v, 1, none⟩ (.slice p8 l8 c8)).frozen? ⟨t, 2, none⟩ = false := by rw [World.frozen?_setCell, World.frozen?_setCell]; exact fT2
  clear V0 V1 fV0 fV1
  generalize (w3.setCell ⟨v, 0, none⟩ (.int .u64 s8)).setCell ⟨v, 1, none⟩ (.slice p8 l8 c8) = w4 at *
  have OLD_r : BoxHas w4 r .int (.agg #[.bool false, .int .u64 0, .slice none 0 0]) ∧ BoxFree w4 r .int := ⟨.mkInt R0 R1 R2, free3 fR0 fR1 fR2⟩
  have OLD_t : BoxHas w4 t .int (.agg #[.bool false, .int .u64 0, .slice none 0 0]) ∧ BoxFree w4 t .int := ⟨.mkInt T0 T1 T2, free3 fT0 fT1 fT2⟩
  have ir : a ∉ [r, t] ∧ b ∉ [r, t] ∧ u ∉ [r, t] ∧ v ∉ [r, t] := by simp [nar, nat, nbr, nbt, nur, nut, nvr, nvt]
  refine region_told (T := [0, 1, 2, 3, 4, 5, 6, 7, 8, 9, 10, 11, 14]) (slots := [38, 39, 40, 41, 42, 43, 44, 45, 46, 47, 48, 49, 6])
      (tab := [.is (.pointer (some ⟨a, 0, none⟩)), .is (.bool g1), .is (.pointer (some ⟨b, 0, none⟩)), .is (.bool g2), .is (.bool true), .num (x.natAbs / y.natAbs + 1), .int Q, .is (.pointer (some ⟨b, 0, none⟩)), .is (.bool g2), .num (y.natAbs - x.natAbs % y.natAbs), .int M, .is (.bool true), .any, .any, .is (.bool true)])
      (D := [⟨r, .int, none, 12, (.int Q), (.agg #[.bool false, .int .u64 0, .slice none 0 0])⟩, ⟨t, .int, none, 13, (.int M), (.agg #[.bool false, .int .u64 0, .slice none 0 0])⟩])
      (F := [(.agg #[.int .u64 s7, .slice p7 l7 c7], .num (x.natAbs / y.natAbs + 1)), (.agg #[.int .u64 s8, .slice p8 l8 c8], .num (y.natAbs - x.natAbs % y.natAbs))])
      (by kernel_rfl) (by kernel_rfl) (by kernel_rfl) (by kernel_rfl) (by kernel_rfl) (by kernel_rfl) (by kernel_rfl) ?_ ?_ ?_ ?_ ?_
  · skip
    refine List.Pairwise.cons (fun y hy => ?_) ?_
    · simp only [List.mem_cons, List.not_mem_nil, or_false] at hy
      rcases hy with rfl
      · exact ⟨fun _ _ => (by assumption), by show 12 ≠ 13; decide, fun h => absurd rfl h⟩
    refine List.Pairwise.cons (fun y hy => ?_) ?_
    · cases hy
    exact List.Pairwise.nil
  · intro f hf; simp only [List.mem_cons, List.not_mem_nil, or_false] at hf; rcases hf with rfl | rfl
    · exact ⟨_, _, _, _, rfl, N3.out⟩
    · exact ⟨_, _, _, _, rfl, N8.out⟩
  · intro x hx hal; simp only [List.mem_cons, List.not_mem_nil, or_false] at hx; rcases hx with rfl | rfl
    · exact ⟨OLD_r.1, OLD_r.2, OLD_r.1.lt rfl⟩
    · exact ⟨OLD_t.1, OLD_t.2, OLD_t.1.lt rfl⟩
  · skip
    refine AllTold.cons rfl (fun β E W hA hF hc hf hE hV hP hB hS => Or.inl ⟨rfl, (by kernel_rfl), ?_⟩) ?_
    · have e1 : E (.tmp 2) = .pointer (some ⟨a, 0, none⟩) := hE 2 (by kernel_rfl)
      clear hE hV hP hB hS
      exact Does.value (w' := W) (by go_simp) ⟨rfl, Below.refl _ _⟩
    refine AllTold.cons rfl (fun β E W hA hF hc hf hE hV hP hB hS => Or.inl ⟨rfl, (by kernel_rfl), ?_⟩) ?_
    · have e1 : E (.tmp 38) = (.pointer (some ⟨a, 0, none⟩)) := hV 0 38 (by kernel_rfl) rfl
      have q0 := hA.cell A0 ir.1
      clear hE hV hP hB hS
      exact Does.value (w' := W) (by go_simp) ⟨rfl, Below.refl _ _⟩
    refine AllTold.cons rfl (fun β E W hA hF hc hf hE hV hP hB hS => Or.inl ⟨rfl, (by kernel_rfl), ?_⟩) ?_
    · have e1 : E (.tmp 3) = .pointer (some ⟨b, 0, none⟩) := hE 3 (by kernel_rfl)
      clear hE hV hP hB hS
      exact Does.value (w' := W) (by go_simp) ⟨rfl, Below.refl _ _⟩
    refine AllTold.cons rfl (fun β E W hA hF hc hf hE hV hP hB hS => Or.inl ⟨rfl, (by kernel_rfl), ?_⟩) ?_
    · have e1 : E (.tmp 40) = (.pointer (some ⟨b, 0, none⟩)) := hV 2 40 (by kernel_rfl) rfl
      have q0 := hA.cell B0 ir.2.1
      clear hE hV hP hB hS
      exact Does.value (w' := W) (by go_simp) ⟨rfl, Below.refl _ _⟩
    refine AllTold.cons rfl (fun β E W hA hF hc hf hE hV hP hB hS => Or.inl ⟨rfl, (by kernel_rfl), ?_⟩) ?_
    · have e1 : E (.tmp 39) = (.bool g1) := hV 1 39 (by kernel_rfl) rfl
      have e2 : E (.tmp 41) = (.bool g2) := hV 3 41 (by kernel_rfl) rfl
      clear hE hV hP hB hS
      exact Does.value (w' := W) (by go_simp) ⟨rfl, Below.refl _ _⟩
    refine AllTold.cons rfl (fun β E W hA hF hc hf hE hV hP hB hS => Or.inl ⟨rfl, (by kernel_rfl), ?_⟩) ?_
    · have e1 : E (.tmp 7) = .pointer (some ⟨u, 0, none⟩) := hE 7 (by kernel_rfl)
      have q0 := hA.cell U0 ir.2.2.1
      have q1 := hA.cell U1 ir.2.2.1
      clear hE hV hP hB hS
      exact Does.value (v := .agg #[.int .u64 s7, .slice p7 l7 c7]) (w' := W) (by go_simp) ⟨hF (_, _) mb0, Below.refl _ _⟩
    refine AllTold.cons rfl (fun β E W hA hF hc hf hE hV hP hB hS => Or.inl ⟨rfl, (by kernel_rfl), ?_⟩) ?_
    · have e1 : E (.tmp 42) = (.bool true) := hV 4 42 (by kernel_rfl) rfl
      have e2 : Means W (.num (x.natAbs / y.natAbs + 1)) (E (.tmp 43)) := hV 5 43 (by kernel_rfl) rfl
      clear hE hV hP hB hS
      obtain ⟨s, p, l, c, e2', hI⟩ := e2
      exact Does.call (w' := W) (by go_simp) ((HF.out s p l c W hI).mono fun e w' h => h.want)
    refine AllTold.cons rfl (fun β E W hA hF hc hf hE hV hP hB hS => Or.inl ⟨rfl, (by kernel_rfl), ?_⟩) ?_
    · have e1 : E (.tmp 3) = .pointer (some ⟨b, 0, none⟩) := hE 3 (by kernel_rfl)
      clear hE hV hP hB hS
      exact Does.value (w' := W) (by go_simp) ⟨rfl, Below.refl _ _⟩
    refine AllTold.cons rfl (fun β E W hA hF hc hf hE hV hP hB hS => Or.inl ⟨rfl, (by kernel_rfl), ?_⟩) ?_
    · have e1 : E (.tmp 45) = (.pointer (some ⟨b, 0, none⟩)) := hV 7 45 (by kernel_rfl) rfl
      have q0 := hA.cell B0 ir.2.1
      clear hE hV hP hB hS
      exact Does.value (w' := W) (by go_simp) ⟨rfl, Below.refl _ _⟩
    refine AllTold.cons rfl (fun β E W hA hF hc hf hE hV hP hB hS => Or.inl ⟨rfl, (by kernel_rfl), ?_⟩) ?_
    · have e1 : E (.tmp 8) = .pointer (some ⟨v, 0, none⟩) := hE 8 (by kernel_rfl)
      have q0 := hA.cell V0' ir.2.2.2
      have q1 := hA.cell V1' ir.2.2.2
      clear hE hV hP hB hS
      exact Does.value (v := .agg #[.int .u64 s8, .slice p8 l8 c8]) (w' := W) (by go_simp) ⟨hF (_, _) mb1, Below.refl _ _⟩
    refine AllTold.cons rfl (fun β E W hA hF hc hf hE hV hP hB hS => Or.inl ⟨rfl, (by kernel_rfl), ?_⟩) ?_
    · have e1 : E (.tmp 46) = (.bool g2) := hV 8 46 (by kernel_rfl) rfl
      have e2 : Means W (.num (y.natAbs - x.natAbs % y.natAbs)) (E (.tmp 47)) := hV 9 47 (by kernel_rfl) rfl
      clear hE hV hP hB hS
      obtain ⟨s, p, l, c, e2', hI⟩ := e2
      exact Does.call (w' := W) (by go_simp) ((HF2.out s p l c W hI).mono fun e w' h => h.want)
    refine AllTold.cons rfl (fun β E W hA hF hc hf hE hV hP hB hS => Or.inl ⟨rfl, (by kernel_rfl), ?_⟩) ?_
    · have e1 : E (.tmp 6) = .bool true := hE 6 (by kernel_rfl)
      clear hE hV hP hB hS
      exact Does.value (w' := W) (by go_simp) ⟨rfl, Below.refl _ _⟩
    refine AllTold.cons rfl (fun β E W hA hF hc hf hE hV hP hB hS => Or.inr (Or.inl ⟨rfl, ⟨_, mb0, rfl, (by kernel_rfl), rfl, ?_⟩⟩)) ?_
    · have e1 : E (.tmp 4) = .pointer (some ⟨r, 0, none⟩) := hE 4 (by kernel_rfl)
      have e2 : Means W (.int Q) (E (.tmp 44)) := hV 6 44 (by kernel_rfl) rfl
      obtain ⟨hbx, hfr⟩ := hB _ mb0 (by kernel_rfl) (by kernel_rfl)
      replace hbx : BoxHas W r .int _ := hbx
      replace hfr : BoxFree W r .int := hfr
      obtain ⟨_, _, _, _, _, _, q0, q1, q2⟩ := hbx.int
      have t0 := hfr 0 (by show 0 < 3; decide)
      have t1 := hfr 1 (by show 1 < 3; decide)
      have t2 := hfr 2 (by show 2 < 3; decide)
      obtain ⟨g, s, p, l, c, e2', hI⟩ := e2
      clear hE hV hP hB hS
      exact Does.skip (by go_simp) ⟨_, Stored.mkInt (b := r), ⟨g, s, p, l, c, rfl, hI⟩⟩
    refine AllTold.cons rfl (fun β E W hA hF hc hf hE hV hP hB hS => Or.inr (Or.inl ⟨rfl, ⟨_, mb1, rfl, (by kernel_rfl), rfl, ?_⟩⟩)) ?_
    · have e1 : E (.tmp 5) = .pointer (some ⟨t, 0, none⟩) := hE 5 (by kernel_rfl)
      have e2 : Means W (.int M) (E (.tmp 48)) := hV 10 48 (by kernel_rfl) rfl
      obtain ⟨hbx, hfr⟩ := hB _ mb1 (by kernel_rfl) (by kernel_rfl)
      replace hbx : BoxHas W t .int _ := hbx
      replace hfr : BoxFree W t .int := hfr
      obtain ⟨_, _, _, _, _, _, q0, q1, q2⟩ := hbx.int
      have t0 := hfr 0 (by show 0 < 3; decide)
      have t1 := hfr 1 (by show 1 < 3; decide)
      have t2 := hfr 2 (by show 2 < 3; decide)
      obtain ⟨g, s, p, l, c, e2', hI⟩ := e2
      clear hE hV hP hB hS
      exact Does.skip (by go_simp) ⟨_, Stored.mkInt (b := t), ⟨g, s, p, l, c, rfl, hI⟩⟩
    refine AllTold.cons rfl (fun β E W hA hF hc hf hE hV hP hB hS => Or.inl ⟨rfl, (by kernel_rfl), ?_⟩) ?_
    · have e1 : E (.tmp 49) = (.bool true) := hV 11 49 (by kernel_rfl) rfl
      clear hE hV hP hB hS
      exact Does.value (w' := W) (by go_simp) ⟨rfl, Below.refl _ _⟩
    exact AllTold.nil
  · intro β f W' hf hS hN hA _ _ _ _
    have e6 : f 6 = .bool true := hf (14, 6) (by simp)
    obtain ⟨g5, s5, p5, l5, c5, r0, r1, r2, hI1⟩ := (show Says W' r .int (.int Q) from (hS _ mb0).1).int
    obtain ⟨g6, s6, p6, l6, c6, r3, r4, r5, hI2⟩ := (show Says W' t .int (.int M) from (hS _ mb1).1).int
    have HBW := Lib.hid (HB.trans (hA.below (B := w.heap.size) (by simp [oldBlocks]; exact ⟨zw, zw2⟩) HB.size))
    have I1 := Lib.hid hI1; have I2 := Lib.hid hI2
    clear hf hS hN hA hI1 hI2
    simp only [fillSlots, e6]
    go_wp2
    exact bodyPost_ret (v := .tuple #[.agg #[.bool g5, .int .u64 s5, .slice p5 l5 c5], .agg #[.bool g6, .int .u64 s6, .slice p6 l6 c6], .bool true]) (by simp [results, Tryz.results27, go_sem, r0, r1, r2, r3, r4, r5]) rfl ⟨_, _, _, _, _, _, _, _, _, _, rfl, I1.out, I2.out, HBW.out⟩

theorem iDiv_any (x y : Int) (g1 g2 : Bool) (s1 s2 : Int) (p1 p2 : Option Addr) (l1 c1 l2 c2 : Nat) (w : World) (hy0 : y ≠ 0) (hx : (ds x.natAbs).length ≤ 1000000) (hy : (ds y.natAbs).length ≤ 1000000) (h1 : IsI w g1 s1 p1 l1 c1 x) (h2 : IsI w g2 s2 p2 l2 c2 y) :
    Calls Tryz.prog 27 #[.agg #[.bool g1, .int .u64 s1, .slice p1 l1 c1], .agg #[.bool g2, .int .u64 s2, .slice p2 l2 c2]] w (RetQI w (qdiv x y) (qmod x y) true) := by
  by_cases hg : g1 = g2
  · exact iDiv_same x y g1 g2 s1 s2 p1 p2 l1 c1 l2 c2 w hy0 hx hy hg h1 h2
  · by_cases h0 : x.natAbs % y.natAbs = 0
    · exact iDiv_zero x y g1 g2 s1 s2 p1 p2 l1 c1 l2 c2 w hy0 hx hy hg h0 h1 h2
    · exact iDiv_more x y g1 g2 s1 s2 p1 p2 l1 c1 l2 c2 w hy0 hx hy hg h0 h1 h2
end Go.Proofs.YtfjjmhbffbhhdaaGreatDoor
