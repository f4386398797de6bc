/- WholeBezout: what divides both, as told, is made of them, and divides them; what is left of both has nothing in common. -/
import Derived.Test.YtioghcpmgojokaaGreatDoorBezVal
namespace Go.Proofs.YtioghcpmgojokaaGreatDoor
open Go.RowKit

set_option maxRecDepth 100000 in
set_option maxHeartbeats 8000000 in
theorem bezlaw_any (p q : Option Addr) (l c k d0 : Nat) (f g : Bool) (xs ys : List Nat) (w : World) (h1 : IsB w p l c xs) (h2 : IsB w q k d0 ys) (hT : Tab64 w) :
    Calls Tryz.prog 3 #[.slice p l c, .slice q k d0, .bool f, .bool g] w fun e w' => e = .returned (.bool true) ∧ Below w.heap.size w w' := by
  have sx : (ds (sgn f (nb (xs.take 40))).natAbs).length ≤ 5 := by rw [sgn_abs]; exact ds_nb40 xs h1.2.1
  have sy : (ds (sgn g (nb (ys.take 40))).natAbs).length ≤ 5 := by rw [sgn_abs]; exact ds_nb40 ys h2.2.1
  have T1 := Lib.hid (fun W a b => two2_any p q l c k d0 xs ys f g W a b)
  have H1 := Lib.hid h1; have H2 := Lib.hid h2; have TB := Lib.hid hT
  generalize sgn f (nb (xs.take 40)) = x at *
  generalize sgn g (nb (ys.take 40)) = y at *
  clear h1 h2 hT
  go_enter Tryz.func3, Tryz.ntmps3
  go_wp2_with fail
  refine (T1.out _ H1.out H2.out).mono ?_
  rintro e w1 ⟨g1, s1, p1, l1, c1, g2, s2, p2, l2, c2, g3, p3, l3, c3, g4, p4, l4, c4, rfl, i1, i2, -, -, hb⟩
  have I1 := Lib.hid i1; have I2 := Lib.hid i2; have HB := Lib.hid hb; have TB := Lib.hid (TB.out.mono hb)
  clear i1 i2 hb T1
  obtain ⟨V, a, b, hV, hbb, ha, BA, BB, hb⟩ := boxesF w1 g1 g2 g3 g4 s1 s2 p1 p2 p3 p4 l1 c1 l2 c2 l3 c3 l4 c4
  have BA := Lib.hid BA; have BB := Lib.hid BB
  go_wp2_with fail
  rw [← hV, ← hbb, ← ha]
  have I1 := Lib.hid (I1.out.mono hb); have I2 := Lib.hid (I2.out.mono hb); have HB := Lib.hid (below_step HB.out hb); have TB := Lib.hid (TB.out.mono hb)
  clear hV hbb ha hb
  have HBZ := Lib.hid (bezout_any x y g1 g2 s1 s2 p1 p2 l1 c1 l2 c2 V (by omega) (by omega) I1.out I2.out)
  refine HBZ.out.mono ?_
  rintro e w2 ⟨U, Z, g5, s5, p5, l5, c5, g6, s6, p6, l6, c6, g7, s7, p7, l7, c7, rfl, hsp, i5, i6, i7, hb⟩
  have I1 := Lib.hid (I1.out.mono hb); have I2 := Lib.hid (I2.out.mono hb); have HB := Lib.hid (below_step HB.out hb); have TB := Lib.hid (TB.out.mono hb)
  have BA := Lib.hid (BA.out.mono hb); have BB := Lib.hid (BB.out.mono hb)
  obtain ⟨d, hd⟩ : ∃ d, d = Nat.gcd x.natAbs y.natAbs := ⟨_, rfl⟩
  rw [← hd] at i5
  have I5 := Lib.hid i5; have I6 := Lib.hid i6; have I7 := Lib.hid i7
  have HE := Lib.hid (bez_eq hsp hd.symm)
  have HSP := Lib.hid hsp
  have hsz := bez_sizes hsp (by omega) (by omega)
  have HG1 := Lib.hid hd.symm
  have HG2 := Lib.hid (show Nat.gcd y.natAbs x.natAbs = d by rw [Nat.gcd_comm]; exact hd.symm)
  have su5 := hsz.1
  have sv15 := hsz.2
  have sdn : (ds d).length ≤ 5 := by
    rcases Nat.eq_zero_or_pos x.natAbs with h0 | h0
    · have h3 : d = y.natAbs := by rw [hd, h0, Nat.gcd_zero_left]
      rw [h3]; exact sy
    · have h3 := ds_mono (show d ≤ x.natAbs by rw [hd]; exact Nat.gcd_le_left _ h0)
      omega
  have sdi : (ds ((d : Int)).natAbs).length ≤ 5 := by rw [Int.natAbs_natCast]; exact sdn
  clear i5 i6 i7 hb HBZ hsp hsz hd
  obtain ⟨V2, cg, cu, cv, hV, h3, h2, h1, BG, BU, BV, hb⟩ := boxes3I w2 g5 g6 g7 s5 s6 s7 p5 p6 p7 l5 c5 l6 c6 l7 c7
  have BG := Lib.hid BG; have BU := Lib.hid BU; have BV := Lib.hid BV
  go_wp2
  rw [← hV, ← h3, ← h2, ← h1]
  have I1 := Lib.hid (I1.out.mono hb); have I2 := Lib.hid (I2.out.mono hb); have I5 := Lib.hid (I5.out.mono hb); have I6 := Lib.hid (I6.out.mono hb); have I7 := Lib.hid (I7.out.mono hb)
  have HB := Lib.hid (below_step HB.out hb); have TB := Lib.hid (TB.out.mono hb); have BA := Lib.hid (BA.out.mono hb); have BB := Lib.hid (BB.out.mono hb)
  clear hV h3 h2 h1 hb
  obtain ⟨sd, hsde⟩ : ∃ s, s = cmp3 (d : Int) 0 := ⟨_, rfl⟩
  have hsd : (decide (sd < 0)) = false := by rw [hsde]; unfold cmp3; rw [if_neg (by omega)]; split <;> rfl
  have HSD := Lib.hid hsde
  clear hsde
  have := ds_natAbs_mul x U
  have := ds_natAbs_mul y Z
  have := ds_natAbs_add (x * U) (y * Z)
  refine region_told (T := [0, 1, 2, 3, 4, 5, 6, 7, 8, 9, 10, 11, 12, 13, 14, 15, 16, 17, 18, 19, 20, 21, 22, 23, 24, 25, 26, 27, 28, 29, 30, 31, 32, 33, 34, 35, 36]) (slots := [39, 40, 41, 42, 43, 44, 45, 46, 47, 48, 49, 50, 51, 52, 53, 54, 55, 56, 57, 58, 59, 60, 61, 62, 63, 64, 65, 66, 67, 68, 69, 70, 71, 72, 73, 74, 75])
      (tab := [.is (.bool true), .is (.bool false), .is (.bool false), .int x, .int U, .int (x * U), .int y, .int Z, .int (y * Z), .int ((x * U) + (y * Z)), .int (d : Int), .is (.int .i64 0), .is (.bool false), .is (.bool false), .is (.bool false), .int (d : Int), .is (.int .i64 sd), .is (.bool false), .is (.bool false), .is (.bool false), .int x, .int y, .num d, .int (d : Int), .int (d : Int), .is (.int .i64 0), .is (.bool false), .is (.bool false), .is (.bool false), .int y, .int x, .num d, .int (d : Int), .num d, .is (.int .i64 0), .is (.bool false), .is (.bool false)])
      (D := [])
      (F := [(.agg #[.bool g1, .int .u64 s1, .slice p1 l1 c1], .int x), (.agg #[.bool g2, .int .u64 s2, .slice p2 l2 c2], .int y), (.agg #[.bool g5, .int .u64 s5, .slice p5 l5 c5], .int (d : Int)), (.agg #[.bool g6, .int .u64 s6, .slice p6 l6 c6], .int U), (.agg #[.bool g7, .int .u64 s7, .slice p7 l7 c7], .int Z)])
      (by kernel_rfl) (by kernel_rfl) (by kernel_rfl) (by kernel_rfl) (by kernel_rfl) (by kernel_rfl) (by kernel_rfl) ?_ ?_ ?_ ?_ ?_
  · exact List.Pairwise.nil
  · intro f hf; simp only [List.mem_cons, List.not_mem_nil, or_false] at hf; rcases hf with rfl | rfl | rfl | rfl | rfl
    · exact ⟨_, _, _, _, _, rfl, I1.out⟩
    · exact ⟨_, _, _, _, _, rfl, I2.out⟩
    · exact ⟨_, _, _, _, _, rfl, I5.out⟩
    · exact ⟨_, _, _, _, _, rfl, I6.out⟩
    · exact ⟨_, _, _, _, _, rfl, I7.out⟩
  · intro x hx; cases hx
  · skip
    refine AllTold.cons rfl (fun β E W hA hF hc hf hE hV hP hB hS => Or.inl ⟨rfl, (by kernel_rfl), ?_⟩) ?_
    · clear hE hV hP hB hS
      exact ev_call0 (hf _) run_known2 ((known2_any W).mono fun e w' ⟨h1, h2⟩ => ⟨_, h1, rfl, h2⟩)
    refine AllTold.cons rfl (fun β E W hA hF hc hf hE hV hP hB hS => Or.inl ⟨rfl, (by kernel_rfl), ?_⟩) ?_
    · have e1 : E (.tmp 39) = (.bool true) := hV 0 39 (by kernel_rfl) rfl
      clear hE hV hP hB hS
      exact ev_not e1 rfl
    refine AllTold.cons rfl (fun β E W hA hF hc hf hE hV hP hB hS => Or.inl ⟨rfl, (by kernel_rfl), ?_⟩) ?_
    · have e1 : E (.tmp 40) = (.bool false) := hV 1 40 (by kernel_rfl) rfl
      clear hE hV hP hB hS
      exact ev_move _ e1
    refine AllTold.cons rfl (fun β E W hA hF hc hf hE hV hP hB hS => Or.inl ⟨wanted_of (d := 41) (b := false) rfl (by kernel_rfl) (hV 2 41 (by kernel_rfl) rfl), (by kernel_rfl), ?_⟩) ?_
    · have e1 : E (.tmp 9) = .pointer (some ⟨a, 0, none⟩) := hE 9 (by kernel_rfl)
      have q0 := hA.cell BA.out.1 (by intro h; cases h)
      have q1 := hA.cell BA.out.2.1 (by intro h; cases h)
      have q2 := hA.cell BA.out.2.2 (by intro h; cases h)
      clear hE hV hP hB hS
      exact ev_loadI e1 q0 q1 q2 (hF (_, _) (List.mem_cons_self ..))
    refine AllTold.cons rfl (fun β E W hA hF hc hf hE hV hP hB hS => Or.inl ⟨wanted_of (d := 41) (b := false) rfl (by kernel_rfl) (hV 2 41 (by kernel_rfl) rfl), (by kernel_rfl), ?_⟩) ?_
    · have e1 : E (.tmp 14) = .pointer (some ⟨cu, 0, none⟩) := hE 14 (by kernel_rfl)
      have q0 := hA.cell BU.out.1 (by intro h; cases h)
      have q1 := hA.cell BU.out.2.1 (by intro h; cases h)
      have q2 := hA.cell BU.out.2.2 (by intro h; cases h)
      clear hE hV hP hB hS
      exact ev_loadI e1 q0 q1 q2 (hF (_, _) (List.mem_cons_of_mem _ (List.mem_cons_of_mem _ (List.mem_cons_of_mem _ (List.mem_cons_self ..)))))
    refine AllTold.cons rfl (fun β E W hA hF hc hf hE hV hP hB hS => Or.inl ⟨wanted_of (d := 41) (b := false) rfl (by kernel_rfl) (hV 2 41 (by kernel_rfl) rfl), (by kernel_rfl), ?_⟩) ?_
    · have e1 : Means W (.int x) (E (.tmp 42)) := hV 3 42 (by kernel_rfl) rfl
      have e2 : Means W (.int U) (E (.tmp 43)) := hV 4 43 (by kernel_rfl) rfl
      clear hE hV hP hB hS
      exact ev_call2 (hf _) run_iMul ((iMul_want W _ _ x U (by omega) (by omega) e1 e2).mono fun e w' ⟨v, h1, h2, h3⟩ => ⟨v, h1, h2, h3⟩)
    refine AllTold.cons rfl (fun β E W hA hF hc hf hE hV hP hB hS => Or.inl ⟨wanted_of (d := 41) (b := false) rfl (by kernel_rfl) (hV 2 41 (by kernel_rfl) rfl), (by kernel_rfl), ?_⟩) ?_
    · have e1 : E (.tmp 10) = .pointer (some ⟨b, 0, none⟩) := hE 10 (by kernel_rfl)
      have q0 := hA.cell BB.out.1 (by intro h; cases h)
      have q1 := hA.cell BB.out.2.1 (by intro h; cases h)
      have q2 := hA.cell BB.out.2.2 (by intro h; cases h)
      clear hE hV hP hB hS
      exact ev_loadI e1 q0 q1 q2 (hF (_, _) (List.mem_cons_of_mem _ (List.mem_cons_self ..)))
    refine AllTold.cons rfl (fun β E W hA hF hc hf hE hV hP hB hS => Or.inl ⟨wanted_of (d := 41) (b := false) rfl (by kernel_rfl) (hV 2 41 (by kernel_rfl) rfl), (by kernel_rfl), ?_⟩) ?_
    · have e1 : E (.tmp 15) = .pointer (some ⟨cv, 0, none⟩) := hE 15 (by kernel_rfl)
      have q0 := hA.cell BV.out.1 (by intro h; cases h)
      have q1 := hA.cell BV.out.2.1 (by intro h; cases h)
      have q2 := hA.cell BV.out.2.2 (by intro h; cases h)
      clear hE hV hP hB hS
      exact ev_loadI e1 q0 q1 q2 (hF (_, _) (List.mem_cons_of_mem _ (List.mem_cons_of_mem _ (List.mem_cons_of_mem _ (List.mem_cons_of_mem _ (List.mem_cons_self ..))))))
    refine AllTold.cons rfl (fun β E W hA hF hc hf hE hV hP hB hS => Or.inl ⟨wanted_of (d := 41) (b := false) rfl (by kernel_rfl) (hV 2 41 (by kernel_rfl) rfl), (by kernel_rfl), ?_⟩) ?_
    · have e1 : Means W (.int y) (E (.tmp 45)) := hV 6 45 (by kernel_rfl) rfl
      have e2 : Means W (.int Z) (E (.tmp 46)) := hV 7 46 (by kernel_rfl) rfl
      clear hE hV hP hB hS
      exact ev_call2 (hf _) run_iMul ((iMul_want W _ _ y Z (by omega) (by omega) e1 e2).mono fun e w' ⟨v, h1, h2, h3⟩ => ⟨v, h1, h2, h3⟩)
    refine AllTold.cons rfl (fun β E W hA hF hc hf hE hV hP hB hS => Or.inl ⟨wanted_of (d := 41) (b := false) rfl (by kernel_rfl) (hV 2 41 (by kernel_rfl) rfl), (by kernel_rfl), ?_⟩) ?_
    · have e1 : Means W (.int (x * U)) (E (.tmp 44)) := hV 5 44 (by kernel_rfl) rfl
      have e2 : Means W (.int (y * Z)) (E (.tmp 47)) := hV 8 47 (by kernel_rfl) rfl
      clear hE hV hP hB hS
      exact ev_call2 (hf _) run_iAdd ((iAdd_want W _ _ (x * U) (y * Z) (by omega) (by omega) e1 e2).mono fun e w' ⟨v, h1, h2, h3⟩ => ⟨v, h1, h2, h3⟩)
    refine AllTold.cons rfl (fun β E W hA hF hc hf hE hV hP hB hS => Or.inl ⟨wanted_of (d := 41) (b := false) rfl (by kernel_rfl) (hV 2 41 (by kernel_rfl) rfl), (by kernel_rfl), ?_⟩) ?_
    · have e1 : E (.tmp 13) = .pointer (some ⟨cg, 0, none⟩) := hE 13 (by kernel_rfl)
      have q0 := hA.cell BG.out.1 (by intro h; cases h)
      have q1 := hA.cell BG.out.2.1 (by intro h; cases h)
      have q2 := hA.cell BG.out.2.2 (by intro h; cases h)
      clear hE hV hP hB hS
      exact ev_loadI e1 q0 q1 q2 (hF (_, _) (List.mem_cons_of_mem _ (List.mem_cons_of_mem _ (List.mem_cons_self ..))))
    refine AllTold.cons rfl (fun β E W hA hF hc hf hE hV hP hB hS => Or.inl ⟨wanted_of (d := 41) (b := false) rfl (by kernel_rfl) (hV 2 41 (by kernel_rfl) rfl), (by kernel_rfl), ?_⟩) ?_
    · have e1 : Means W (.int ((x * U) + (y * Z))) (E (.tmp 48)) := hV 9 48 (by kernel_rfl) rfl
      have e2 : Means W (.int (d : Int)) (E (.tmp 49)) := hV 10 49 (by kernel_rfl) rfl
      clear hE hV hP hB hS
      exact ev_call2 (hf _) run_iCmp ((iCmp_val W _ _ ((x * U) + (y * Z)) (d : Int) 0 (cmp_same HE.out) (by omega) (by omega) e1 e2).mono fun e w' ⟨v, h1, h2, h3⟩ => ⟨v, h1, h2, h3⟩)
    refine AllTold.cons rfl (fun β E W hA hF hc hf hE hV hP hB hS => Or.inl ⟨wanted_of (d := 41) (b := false) rfl (by kernel_rfl) (hV 2 41 (by kernel_rfl) rfl), (by kernel_rfl), ?_⟩) ?_
    · have e1 : E (.tmp 50) = (.int .i64 0) := hV 11 50 (by kernel_rfl) rfl
      clear hE hV hP hB hS
      exact ev_neq e1 (hc _) rfl
    refine AllTold.cons rfl (fun β E W hA hF hc hf hE hV hP hB hS => Or.inl ⟨rfl, (by kernel_rfl), ?_⟩) ?_
    · have e1 : E (.tmp 41) = (.bool false) := hV 2 41 (by kernel_rfl) rfl
      have e2 : E (.tmp 51) = (.bool false) := hV 12 51 (by kernel_rfl) rfl
      clear hE hV hP hB hS
      exact ev_pick e1 e2
    refine AllTold.cons rfl (fun β E W hA hF hc hf hE hV hP hB hS => Or.inl ⟨rfl, (by kernel_rfl), ?_⟩) ?_
    · have e1 : E (.tmp 52) = (.bool false) := hV 13 52 (by kernel_rfl) rfl
      clear hE hV hP hB hS
      exact ev_move _ e1
    refine AllTold.cons rfl (fun β E W hA hF hc hf hE hV hP hB hS => Or.inl ⟨wanted_of (d := 53) (b := false) rfl (by kernel_rfl) (hV 14 53 (by kernel_rfl) rfl), (by kernel_rfl), ?_⟩) ?_
    · have e1 : E (.tmp 13) = .pointer (some ⟨cg, 0, none⟩) := hE 13 (by kernel_rfl)
      have q0 := hA.cell BG.out.1 (by intro h; cases h)
      have q1 := hA.cell BG.out.2.1 (by intro h; cases h)
      have q2 := hA.cell BG.out.2.2 (by intro h; cases h)
      clear hE hV hP hB hS
      exact ev_loadI e1 q0 q1 q2 (hF (_, _) (List.mem_cons_of_mem _ (List.mem_cons_of_mem _ (List.mem_cons_self ..))))
    refine AllTold.cons rfl (fun β E W hA hF hc hf hE hV hP hB hS => Or.inl ⟨wanted_of (d := 53) (b := false) rfl (by kernel_rfl) (hV 14 53 (by kernel_rfl) rfl), (by kernel_rfl), ?_⟩) ?_
    · have e1 : Means W (.int (d : Int)) (E (.tmp 54)) := hV 15 54 (by kernel_rfl) rfl
      clear hE hV hP hB hS
      exact ev_call1 (hf _) run_iSign ((iSign_val W _ (d : Int) sd HSD.out.symm e1).mono fun e w' ⟨v, h1, h2, h3⟩ => ⟨v, h1, h2, h3⟩)
    refine AllTold.cons rfl (fun β E W hA hF hc hf hE hV hP hB hS => Or.inl ⟨wanted_of (d := 53) (b := false) rfl (by kernel_rfl) (hV 14 53 (by kernel_rfl) rfl), (by kernel_rfl), ?_⟩) ?_
    · have e1 : E (.tmp 55) = (.int .i64 sd) := hV 16 55 (by kernel_rfl) rfl
      clear hE hV hP hB hS
      exact ev_lss e1 (hc _) hsd
    refine AllTold.cons rfl (fun β E W hA hF hc hf hE hV hP hB hS => Or.inl ⟨rfl, (by kernel_rfl), ?_⟩) ?_
    · have e1 : E (.tmp 53) = (.bool false) := hV 14 53 (by kernel_rfl) rfl
      have e2 : E (.tmp 56) = (.bool false) := hV 17 56 (by kernel_rfl) rfl
      clear hE hV hP hB hS
      exact ev_pick e1 e2
    refine AllTold.cons rfl (fun β E W hA hF hc hf hE hV hP hB hS => Or.inl ⟨rfl, (by kernel_rfl), ?_⟩) ?_
    · have e1 : E (.tmp 57) = (.bool false) := hV 18 57 (by kernel_rfl) rfl
      clear hE hV hP hB hS
      exact ev_move _ e1
    refine AllTold.cons rfl (fun β E W hA hF hc hf hE hV hP hB hS => Or.inl ⟨wanted_of (d := 58) (b := false) rfl (by kernel_rfl) (hV 19 58 (by kernel_rfl) rfl), (by kernel_rfl), ?_⟩) ?_
    · have e1 : E (.tmp 9) = .pointer (some ⟨a, 0, none⟩) := hE 9 (by kernel_rfl)
      have q0 := hA.cell BA.out.1 (by intro h; cases h)
      have q1 := hA.cell BA.out.2.1 (by intro h; cases h)
      have q2 := hA.cell BA.out.2.2 (by intro h; cases h)
      clear hE hV hP hB hS
      exact ev_loadI e1 q0 q1 q2 (hF (_, _) (List.mem_cons_self ..))
    refine AllTold.cons rfl (fun β E W hA hF hc hf hE hV hP hB hS => Or.inl ⟨wanted_of (d := 58) (b := false) rfl (by kernel_rfl) (hV 19 58 (by kernel_rfl) rfl), (by kernel_rfl), ?_⟩) ?_
    · have e1 : E (.tmp 10) = .pointer (some ⟨b, 0, none⟩) := hE 10 (by kernel_rfl)
      have q0 := hA.cell BB.out.1 (by intro h; cases h)
      have q1 := hA.cell BB.out.2.1 (by intro h; cases h)
      have q2 := hA.cell BB.out.2.2 (by intro h; cases h)
      clear hE hV hP hB hS
      exact ev_loadI e1 q0 q1 q2 (hF (_, _) (List.mem_cons_of_mem _ (List.mem_cons_self ..)))
    refine AllTold.cons rfl (fun β E W hA hF hc hf hE hV hP hB hS => Or.inl ⟨wanted_of (d := 58) (b := false) rfl (by kernel_rfl) (hV 19 58 (by kernel_rfl) rfl), (by kernel_rfl), ?_⟩) ?_
    · have e1 : Means W (.int x) (E (.tmp 59)) := hV 20 59 (by kernel_rfl) rfl
      have e2 : Means W (.int y) (E (.tmp 60)) := hV 21 60 (by kernel_rfl) rfl
      clear hE hV hP hB hS
      exact ev_call2 (hf _) run_iGcd ((iGcd_val W _ _ x y d HG1.out (by omega) (by omega) (TB.out.mono hA.below0) e1 e2).mono fun e w' ⟨v, h1, h2, h3⟩ => ⟨v, h1, h2, h3⟩)
    refine AllTold.cons rfl (fun β E W hA hF hc hf hE hV hP hB hS => Or.inl ⟨wanted_of (d := 58) (b := false) rfl (by kernel_rfl) (hV 19 58 (by kernel_rfl) rfl), (by kernel_rfl), ?_⟩) ?_
    · have e1 : Means W (.num d) (E (.tmp 61)) := hV 22 61 (by kernel_rfl) rfl
      clear hE hV hP hB hS
      exact ev_call2 (hf _) run_iFrom (by rw [hc]; exact (iFrom_val W _ d e1).mono fun e w' ⟨v, h1, h2, h3⟩ => ⟨v, h1, h2, h3⟩)
    refine AllTold.cons rfl (fun β E W hA hF hc hf hE hV hP hB hS => Or.inl ⟨wanted_of (d := 58) (b := false) rfl (by kernel_rfl) (hV 19 58 (by kernel_rfl) rfl), (by kernel_rfl), ?_⟩) ?_
    · have e1 : E (.tmp 13) = .pointer (some ⟨cg, 0, none⟩) := hE 13 (by kernel_rfl)
      have q0 := hA.cell BG.out.1 (by intro h; cases h)
      have q1 := hA.cell BG.out.2.1 (by intro h; cases h)
      have q2 := hA.cell BG.out.2.2 (by intro h; cases h)
      clear hE hV hP hB hS
      exact ev_loadI e1 q0 q1 q2 (hF (_, _) (List.mem_cons_of_mem _ (List.mem_cons_of_mem _ (List.mem_cons_self ..))))
    refine AllTold.cons rfl (fun β E W hA hF hc hf hE hV hP hB hS => Or.inl ⟨wanted_of (d := 58) (b := false) rfl (by kernel_rfl) (hV 19 58 (by kernel_rfl) rfl), (by kernel_rfl), ?_⟩) ?_
    · have e1 : Means W (.int (d : Int)) (E (.tmp 62)) := hV 23 62 (by kernel_rfl) rfl
      have e2 : Means W (.int (d : Int)) (E (.tmp 63)) := hV 24 63 (by kernel_rfl) rfl
      clear hE hV hP hB hS
      exact ev_call2 (hf _) run_iCmp ((iCmp_val W _ _ (d : Int) (d : Int) 0 (cmp_same rfl) (by omega) (by omega) e1 e2).mono fun e w' ⟨v, h1, h2, h3⟩ => ⟨v, h1, h2, h3⟩)
    refine AllTold.cons rfl (fun β E W hA hF hc hf hE hV hP hB hS => Or.inl ⟨wanted_of (d := 58) (b := false) rfl (by kernel_rfl) (hV 19 58 (by kernel_rfl) rfl), (by kernel_rfl), ?_⟩) ?_
    · have e1 : E (.tmp 64) = (.int .i64 0) := hV 25 64 (by kernel_rfl) rfl
      clear hE hV hP hB hS
      exact ev_neq e1 (hc _) rfl
    refine AllTold.cons rfl (fun β E W hA hF hc hf hE hV hP hB hS => Or.inl ⟨rfl, (by kernel_rfl), ?_⟩) ?_
    · have e1 : E (.tmp 58) = (.bool false) := hV 19 58 (by kernel_rfl) rfl
      have e2 : E (.tmp 65) = (.bool false) := hV 26 65 (by kernel_rfl) rfl
      clear hE hV hP hB hS
      exact ev_pick e1 e2
    refine AllTold.cons rfl (fun β E W hA hF hc hf hE hV hP hB hS => Or.inl ⟨rfl, (by kernel_rfl), ?_⟩) ?_
    · have e1 : E (.tmp 66) = (.bool false) := hV 27 66 (by kernel_rfl) rfl
      clear hE hV hP hB hS
      exact ev_move _ e1
    refine AllTold.cons rfl (fun β E W hA hF hc hf hE hV hP hB hS => Or.inl ⟨wanted_of (d := 67) (b := false) rfl (by kernel_rfl) (hV 28 67 (by kernel_rfl) rfl), (by kernel_rfl), ?_⟩) ?_
    · have e1 : E (.tmp 10) = .pointer (some ⟨b, 0, none⟩) := hE 10 (by kernel_rfl)
      have q0 := hA.cell BB.out.1 (by intro h; cases h)
      have q1 := hA.cell BB.out.2.1 (by intro h; cases h)
      have q2 := hA.cell BB.out.2.2 (by intro h; cases h)
      clear hE hV hP hB hS
      exact ev_loadI e1 q0 q1 q2 (hF (_, _) (List.mem_cons_of_mem _ (List.mem_cons_self ..)))
    refine AllTold.cons rfl (fun β E W hA hF hc hf hE hV hP hB hS => Or.inl ⟨wanted_of (d := 67) (b := false) rfl (by kernel_rfl) (hV 28 67 (by kernel_rfl) rfl), (by kernel_rfl), ?_⟩) ?_
    · have e1 : E (.tmp 9) = .pointer (some ⟨a, 0, none⟩) := hE 9 (by kernel_rfl)
      have q0 := hA.cell BA.out.1 (by intro h; cases h)
      have q1 := hA.cell BA.out.2.1 (by intro h; cases h)
      have q2 := hA.cell BA.out.2.2 (by intro h; cases h)
      clear hE hV hP hB hS
      exact ev_loadI e1 q0 q1 q2 (hF (_, _) (List.mem_cons_self ..))
    refine AllTold.cons rfl (fun β E W hA hF hc hf hE hV hP hB hS => Or.inl ⟨wanted_of (d := 67) (b := false) rfl (by kernel_rfl) (hV 28 67 (by kernel_rfl) rfl), (by kernel_rfl), ?_⟩) ?_
    · have e1 : Means W (.int y) (E (.tmp 68)) := hV 29 68 (by kernel_rfl) rfl
      have e2 : Means W (.int x) (E (.tmp 69)) := hV 30 69 (by kernel_rfl) rfl
      clear hE hV hP hB hS
      exact ev_call2 (hf _) run_iGcd ((iGcd_val W _ _ y x d HG2.out (by omega) (by omega) (TB.out.mono hA.below0) e1 e2).mono fun e w' ⟨v, h1, h2, h3⟩ => ⟨v, h1, h2, h3⟩)
    refine AllTold.cons rfl (fun β E W hA hF hc hf hE hV hP hB hS => Or.inl ⟨wanted_of (d := 67) (b := false) rfl (by kernel_rfl) (hV 28 67 (by kernel_rfl) rfl), (by kernel_rfl), ?_⟩) ?_
    · have e1 : E (.tmp 13) = .pointer (some ⟨cg, 0, none⟩) := hE 13 (by kernel_rfl)
      have q0 := hA.cell BG.out.1 (by intro h; cases h)
      have q1 := hA.cell BG.out.2.1 (by intro h; cases h)
      have q2 := hA.cell BG.out.2.2 (by intro h; cases h)
      clear hE hV hP hB hS
      exact ev_loadI e1 q0 q1 q2 (hF (_, _) (List.mem_cons_of_mem _ (List.mem_cons_of_mem _ (List.mem_cons_self ..))))
    refine AllTold.cons rfl (fun β E W hA hF hc hf hE hV hP hB hS => Or.inl ⟨wanted_of (d := 67) (b := false) rfl (by kernel_rfl) (hV 28 67 (by kernel_rfl) rfl), (by kernel_rfl), ?_⟩) ?_
    · have e1 : Means W (.int (d : Int)) (E (.tmp 71)) := hV 32 71 (by kernel_rfl) rfl
      clear hE hV hP hB hS
      exact ev_call1 (hf _) run_iAbs ((iAbs_val W _ (d : Int) d (Int.natAbs_natCast d) e1).mono fun e w' ⟨v, h1, h2, h3⟩ => ⟨v, h1, h2, h3⟩)
    refine AllTold.cons rfl (fun β E W hA hF hc hf hE hV hP hB hS => Or.inl ⟨wanted_of (d := 67) (b := false) rfl (by kernel_rfl) (hV 28 67 (by kernel_rfl) rfl), (by kernel_rfl), ?_⟩) ?_
    · have e1 : Means W (.num d) (E (.tmp 70)) := hV 31 70 (by kernel_rfl) rfl
      have e2 : Means W (.num d) (E (.tmp 72)) := hV 33 72 (by kernel_rfl) rfl
      clear hE hV hP hB hS
      exact ev_call2 (hf _) run_nCmp ((nCmp_val W _ _ d d 0 (cmp3_eq _) (by omega) e1 e2).mono fun e w' ⟨v, h1, h2, h3⟩ => ⟨v, h1, h2, h3⟩)
    refine AllTold.cons rfl (fun β E W hA hF hc hf hE hV hP hB hS => Or.inl ⟨wanted_of (d := 67) (b := false) rfl (by kernel_rfl) (hV 28 67 (by kernel_rfl) rfl), (by kernel_rfl), ?_⟩) ?_
    · have e1 : E (.tmp 73) = (.int .i64 0) := hV 34 73 (by kernel_rfl) rfl
      clear hE hV hP hB hS
      exact ev_neq e1 (hc _) rfl
    refine AllTold.cons rfl (fun β E W hA hF hc hf hE hV hP hB hS => Or.inl ⟨rfl, (by kernel_rfl), ?_⟩) ?_
    · have e1 : E (.tmp 67) = (.bool false) := hV 28 67 (by kernel_rfl) rfl
      have e2 : E (.tmp 74) = (.bool false) := hV 35 74 (by kernel_rfl) rfl
      clear hE hV hP hB hS
      exact ev_pick e1 e2
    exact AllTold.nil
  · intro β f' W' hf hS hN hA _ _ _ _
    have e75 : f' 75 = .bool false := hf (36, 75) (by simp)
    have I1 := Lib.hid (hN (_, _) (List.mem_cons_self ..)).isI; have I2 := Lib.hid (hN (_, _) (List.mem_cons_of_mem _ (List.mem_cons_self ..))).isI; have I5 := Lib.hid (hN (_, _) (List.mem_cons_of_mem _ (List.mem_cons_of_mem _ (List.mem_cons_self ..)))).isI; have I6 := Lib.hid (hN (_, _) (List.mem_cons_of_mem _ (List.mem_cons_of_mem _ (List.mem_cons_of_mem _ (List.mem_cons_self ..))))).isI
    have BA := Lib.hid (BA.out.away hA (by intro h; cases h)); have BB := Lib.hid (BB.out.away hA (by intro h; cases h)); have BG := Lib.hid (BG.out.away hA (by intro h; cases h)); have BU := Lib.hid (BU.out.away hA (by intro h; cases h))
    have TB := Lib.hid (TB.out.mono hA.below0)
    have HB := Lib.hid (below_step HB.out hA.below0)
    clear hf hS hN hA BV
    simp only [fillSlots, e75, List.setIfInBounds_toArray, List.set_cons_succ, List.set_cons_zero]
    clear e75 HE HG2
    by_cases hd0 : d = 0
    · have hx0 : x = 0 := by have := HG1.out; rw [hd0] at this; have := (Nat.gcd_eq_zero_iff.1 this).1; omega
      have hy0 : y = 0 := by have := HG1.out; rw [hd0] at this; have := (Nat.gcd_eq_zero_iff.1 this).2; omega
      have TS := Lib.hid (fun W (h : IsI W g5 s5 p5 l5 c5 (d : Int)) => iSign_any (d : Int) g5 s5 p5 l5 c5 W h)
      have TX := Lib.hid (fun W (h : IsI W g1 s1 p1 l1 c1 x) => iSign_any x g1 s1 p1 l1 c1 W h)
      have TY := Lib.hid (fun W (h : IsI W g2 s2 p2 l2 c2 y) => iSign_any y g2 s2 p2 l2 c2 W h)
      rw [show cmp3 (d : Int) 0 = 0 by rw [hd0]; rfl] at TS
      rw [show cmp3 x 0 = 0 by rw [hx0]; rfl] at TX
      rw [show cmp3 y 0 = 0 by rw [hy0]; rfl] at TY
      clear hx0 hy0 hd0 sx sy su5 sv15 sdn sdi
      obtain ⟨A0, A1, A2⟩ := BA.out; obtain ⟨B0, B1, B2⟩ := BB.out; obtain ⟨D0, D1, D2⟩ := BG.out
      go_wp2_with fail
      refine (TS.out W' I5.out).mono ?_
      rintro e w3 ⟨rfl, hb⟩
      have I1 := Lib.hid (I1.out.mono hb); have I2 := Lib.hid (I2.out.mono hb); have HB := Lib.hid (below_step HB.out hb)
      have A0 := wcell hb A0; have A1 := wcell hb A1; have A2 := wcell hb A2; have B0 := wcell hb B0; have B1 := wcell hb B1; have B2 := wcell hb B2
      clear hb D0 D1 D2
      go_wp2_with fail
      refine (TX.out w3 I1.out).mono ?_
      rintro e w4 ⟨rfl, hb⟩
      have I2 := Lib.hid (I2.out.mono hb); have HB := Lib.hid (below_step HB.out hb)
      have B0 := wcell hb B0; have B1 := wcell hb B1; have B2 := wcell hb B2
      clear hb A0 A1 A2
      go_wp2_with fail
      refine (TY.out w4 I2.out).mono ?_
      rintro e w5 ⟨rfl, hb⟩
      have HB := Lib.hid (below_step HB.out hb)
      clear hb B0 B1 B2
      go_wp2
      go_ret
      exact ⟨rfl, HB.out⟩
    · have hdp : 0 < d := by omega
      have hbp := bez_parts (x := x) (y := y) HG1.out hdp
      have hdi : (d : Int) ≠ 0 := by omega
      have TS := Lib.hid (fun W (h : IsI W g5 s5 p5 l5 c5 (d : Int)) => iSign_any (d : Int) g5 s5 p5 l5 c5 W h)
      rw [show cmp3 (d : Int) 0 = 1 from cmp3_gt (by omega)] at TS
      have hTP := fun W h1 h2 => iDiv_any x (d : Int) g1 g5 s1 s5 p1 p5 l1 c1 l5 c5 W hdi (by omega) (by omega) h1 h2
      have hTQ := fun W h1 h2 => iDiv_any y (d : Int) g2 g5 s2 s5 p2 p5 l2 c2 l5 c5 W hdi (by omega) (by omega) h1 h2
      rw [hbp.1] at hTP
      rw [hbp.2.1] at hTQ
      have HY := Lib.hid (show y ≠ 0 → 0 ≤ U ∧ U < ((y.natAbs / d : Nat) : Int) from fun h => by have := (HSP.out.2 h).2; rw [HG1.out] at this; exact this)
      obtain ⟨P, hP⟩ : ∃ P, P = qdiv x (d : Int) := ⟨_, rfl⟩
      obtain ⟨Q, hQ⟩ : ∃ Q, Q = qdiv y (d : Int) := ⟨_, rfl⟩
      rw [← hP] at hTP; rw [← hQ] at hTQ
      rw [← hP, ← hQ] at hbp
      have hbp2 := hbp.2.2
      obtain ⟨n, hn⟩ : ∃ n, n = y.natAbs / d := ⟨_, rfl⟩
      rw [← hn] at hbp2 HY
      have HPQ := Lib.hid hbp2.1
      have HQA := Lib.hid hbp2.2.1
      have sP : (ds P.natAbs).length ≤ 5 := Nat.le_trans (ds_mono hbp2.2.2.1) sx
      have sQ : (ds Q.natAbs).length ≤ 5 := Nat.le_trans (ds_mono hbp2.2.2.2) sy
      have sn : (ds n).length ≤ 5 := by rw [← hbp2.2.1]; exact sQ
      have sni : (ds ((n : Int)).natAbs).length ≤ 5 := by rw [Int.natAbs_natCast]; exact sn
      have TP := Lib.hid hTP; have TQ := Lib.hid hTQ
      clear hbp hbp2 hTP hTQ hP hQ hn hdi hdp hd0 HSP HG1
      obtain ⟨A0, A1, A2⟩ := BA.out; obtain ⟨B0, B1, B2⟩ := BB.out; obtain ⟨D0, D1, D2⟩ := BG.out
      go_wp2_with fail
      refine (TS.out W' I5.out).mono ?_
      rintro e w3 ⟨rfl, hb⟩
      have I1 := Lib.hid (I1.out.mono hb); have I2 := Lib.hid (I2.out.mono hb); have I5 := Lib.hid (I5.out.mono hb); have I6 := Lib.hid (I6.out.mono hb); have HB := Lib.hid (below_step HB.out hb); have TB := Lib.hid (TB.out.mono hb)
      have BA := Lib.hid (BA.out.mono hb); have BB := Lib.hid (BB.out.mono hb); have BG := Lib.hid (BG.out.mono hb); have BU := Lib.hid (BU.out.mono hb)
      clear hb A0 A1 A2 B0 B1 B2 D0 D1 D2
      obtain ⟨A0, A1, A2⟩ := BA.out; obtain ⟨D0, D1, D2⟩ := BG.out
      go_wp2_with fail
      refine (TP.out w3 I1.out I5.out).mono ?_
      rintro e w4 ⟨gq, sq', pq, lq, cq, gm, sm', pm, lm, cm, rfl, iq, im, hb⟩
      have I2 := Lib.hid (I2.out.mono hb); have I5 := Lib.hid (I5.out.mono hb); have I6 := Lib.hid (I6.out.mono hb); have HB := Lib.hid (below_step HB.out hb); have TB := Lib.hid (TB.out.mono hb)
      have BB := Lib.hid (BB.out.mono hb); have BG := Lib.hid (BG.out.mono hb); have BU := Lib.hid (BU.out.mono hb)
      have IP := Lib.hid iq; have IR := Lib.hid im
      clear iq im hb A0 A1 A2 D0 D1 D2 BA I1
      obtain ⟨V3, t1, t2, hV, hu, ht, BP, BR, hb⟩ := boxesI w4 gq gm sq' sm' pq pm lq cq lm cm
      obtain ⟨B0, B1, B2⟩ := BB.out; obtain ⟨D0, D1, D2⟩ := BG.out
      have zb := BB.out.lt; have zg := BG.out.lt
      have zb1 : b < w4.heap.size + 1 := by omega
      have zg1 : cg < w4.heap.size + 1 := by omega
      go_wp2_with fail
      rw [← hV, ← hu, ← ht]
      have BP := Lib.hid BP; have BR := Lib.hid BR
      have I2 := Lib.hid (I2.out.mono hb); have I5 := Lib.hid (I5.out.mono hb); have I6 := Lib.hid (I6.out.mono hb); have HB := Lib.hid (below_step HB.out hb); have TB := Lib.hid (TB.out.mono hb)
      have BB := Lib.hid (BB.out.mono hb); have BU := Lib.hid (BU.out.mono hb)
      have IP := Lib.hid (IP.out.mono hb); have IR := Lib.hid (IR.out.mono hb)
      clear hV hu ht hb B0 B1 B2 D0 D1 D2 zb zg zb1 zg1 BG
      refine (TQ.out V3 I2.out I5.out).mono ?_
      rintro e w5 ⟨gw, sw, pw, lw, cw, gz, sz, pz, lz, cz, rfl, iq, im, hb⟩
      have I2 := Lib.hid (I2.out.mono hb); have I6 := Lib.hid (I6.out.mono hb); have HB := Lib.hid (below_step HB.out hb); have TB := Lib.hid (TB.out.mono hb)
      have BB := Lib.hid (BB.out.mono hb); have BU := Lib.hid (BU.out.mono hb); have BP := Lib.hid (BP.out.mono hb); have BR := Lib.hid (BR.out.mono hb)
      have IP := Lib.hid (IP.out.mono hb); have IR := Lib.hid (IR.out.mono hb)
      have IQ := Lib.hid iq; have IS := Lib.hid im
      clear iq im hb I5
      obtain ⟨V4, t3, t4, hV, hu, ht, BQ, BS, hb⟩ := boxesI w5 gw gz sw sz pw pz lw cw lz cz
      have BQ := Lib.hid BQ; have BS := Lib.hid BS
      go_wp2
      rw [← hV, ← hu, ← ht]
      have I2 := Lib.hid (I2.out.mono hb); have I6 := Lib.hid (I6.out.mono hb); have HB := Lib.hid (below_step HB.out hb); have TB := Lib.hid (TB.out.mono hb)
      have BB := Lib.hid (BB.out.mono hb); have BU := Lib.hid (BU.out.mono hb); have BP := Lib.hid (BP.out.mono hb); have BR := Lib.hid (BR.out.mono hb)
      have IP := Lib.hid (IP.out.mono hb); have IR := Lib.hid (IR.out.mono hb); have IQ := Lib.hid (IQ.out.mono hb); have IS := Lib.hid (IS.out.mono hb)
      clear hV hu ht hb TS TP TQ
      by_cases hy0 : y = 0
      · have HSY := Lib.hid (show cmp3 y 0 = 0 by rw [hy0]; rfl)
        clear hy0 HY HQA
        refine region_told (T := [0, 1, 2, 3, 4, 5, 6, 7, 8, 9, 10, 11, 12, 13, 14, 15, 16, 17, 18, 19, 20, 21, 22, 23, 24, 25, 26, 27, 28, 29, 30, 31, 32, 33]) (slots := [101, 102, 103, 104, 105, 106, 107, 108, 109, 110, 111, 112, 113, 114, 115, 116, 117, 118, 119, 120, 121, 122, 123, 124, 125, 126, 127, 128, 129, 130, 131, 132, 133, 8])
            (tab := [.int 0, .is (.int .i64 0), .is (.bool true), .is (.bool true), .int 0, .is (.int .i64 0), .is (.bool true), .is (.bool true), .is (.bool true), .int P, .int Q, .num 1, .is (.string ⟨#[49]⟩), .is (.bool true), .is (.bool true), .is (.bool true), .int y, .is (.int .i64 0), .is (.bool true), .is (.bool true), .is undef, .is undef, .is undef, .is undef, .is undef, .is undef, .is undef, .is undef, .is undef, .is undef, .is undef, .is (.bool true), .is (.bool true), .is (.bool true)])
            (D := [])
            (F := [(.agg #[.bool g2, .int .u64 s2, .slice p2 l2 c2], .int y), (.agg #[.bool g6, .int .u64 s6, .slice p6 l6 c6], .int U), (.agg #[.bool gq, .int .u64 sq', .slice pq lq cq], .int P), (.agg #[.bool gm, .int .u64 sm', .slice pm lm cm], .int 0), (.agg #[.bool gw, .int .u64 sw, .slice pw lw cw], .int Q), (.agg #[.bool gz, .int .u64 sz, .slice pz lz cz], .int 0)])
            (by kernel_rfl) (by kernel_rfl) (by kernel_rfl) (by kernel_rfl) (by kernel_rfl) (by kernel_rfl) (by kernel_rfl) ?_ ?_ ?_ ?_ ?_
        · exact List.Pairwise.nil
        · intro f hf; simp only [List.mem_cons, List.not_mem_nil, or_false] at hf; rcases hf with rfl | rfl | rfl | rfl | rfl | rfl
          · exact ⟨_, _, _, _, _, rfl, I2.out⟩
          · exact ⟨_, _, _, _, _, rfl, I6.out⟩
          · exact ⟨_, _, _, _, _, rfl, IP.out⟩
          · exact ⟨_, _, _, _, _, rfl, IR.out⟩
          · exact ⟨_, _, _, _, _, rfl, IQ.out⟩
          · exact ⟨_, _, _, _, _, rfl, IS.out⟩
        · intro x hx; cases hx
        · skip
          refine AllTold.cons rfl (fun β E W hA hF hc hf hE hV hP hB hS => Or.inl ⟨rfl, (by kernel_rfl), ?_⟩) ?_
          · have e1 : E (.tmp 17) = .pointer (some ⟨t2, 0, none⟩) := hE 17 (by kernel_rfl)
            have q0 := hA.cell BR.out.1 (by intro h; cases h)
            have q1 := hA.cell BR.out.2.1 (by intro h; cases h)
            have q2 := hA.cell BR.out.2.2 (by intro h; cases h)
            clear hE hV hP hB hS
            exact ev_loadI e1 q0 q1 q2 (hF (_, _) (List.mem_cons_of_mem _ (List.mem_cons_of_mem _ (List.mem_cons_of_mem _ (List.mem_cons_self ..)))))
          refine AllTold.cons rfl (fun β E W hA hF hc hf hE hV hP hB hS => Or.inl ⟨rfl, (by kernel_rfl), ?_⟩) ?_
          · have e1 : Means W (.int 0) (E (.tmp 101)) := hV 0 101 (by kernel_rfl) rfl
            clear hE hV hP hB hS
            exact ev_call1 (hf _) run_iSign ((iSign_val W _ 0 0 rfl e1).mono fun e w' ⟨v, h1, h2, h3⟩ => ⟨v, h1, h2, h3⟩)
          refine AllTold.cons rfl (fun β E W hA hF hc hf hE hV hP hB hS => Or.inl ⟨rfl, (by kernel_rfl), ?_⟩) ?_
          · have e1 : E (.tmp 102) = (.int .i64 0) := hV 1 102 (by kernel_rfl) rfl
            clear hE hV hP hB hS
            exact ev_eql e1 (hc _) rfl
          refine AllTold.cons rfl (fun β E W hA hF hc hf hE hV hP hB hS => Or.inl ⟨rfl, (by kernel_rfl), ?_⟩) ?_
          · have e1 : E (.tmp 103) = (.bool true) := hV 2 103 (by kernel_rfl) rfl
            clear hE hV hP hB hS
            exact ev_move _ e1
          refine AllTold.cons rfl (fun β E W hA hF hc hf hE hV hP hB hS => Or.inl ⟨wanted_of (d := 104) (b := true) rfl (by kernel_rfl) (hV 3 104 (by kernel_rfl) rfl), (by kernel_rfl), ?_⟩) ?_
          · have e1 : E (.tmp 20) = .pointer (some ⟨t4, 0, none⟩) := hE 20 (by kernel_rfl)
            have q0 := hA.cell BS.out.1 (by intro h; cases h)
            have q1 := hA.cell BS.out.2.1 (by intro h; cases h)
            have q2 := hA.cell BS.out.2.2 (by intro h; cases h)
            clear hE hV hP hB hS
            exact ev_loadI e1 q0 q1 q2 (hF (_, _) (List.mem_cons_of_mem _ (List.mem_cons_of_mem _ (List.mem_cons_of_mem _ (List.mem_cons_of_mem _ (List.mem_cons_of_mem _ (List.mem_cons_self ..)))))))
          refine AllTold.cons rfl (fun β E W hA hF hc hf hE hV hP hB hS => Or.inl ⟨wanted_of (d := 104) (b := true) rfl (by kernel_rfl) (hV 3 104 (by kernel_rfl) rfl), (by kernel_rfl), ?_⟩) ?_
          · have e1 : Means W (.int 0) (E (.tmp 105)) := hV 4 105 (by kernel_rfl) rfl
            clear hE hV hP hB hS
            exact ev_call1 (hf _) run_iSign ((iSign_val W _ 0 0 rfl e1).mono fun e w' ⟨v, h1, h2, h3⟩ => ⟨v, h1, h2, h3⟩)
          refine AllTold.cons rfl (fun β E W hA hF hc hf hE hV hP hB hS => Or.inl ⟨wanted_of (d := 104) (b := true) rfl (by kernel_rfl) (hV 3 104 (by kernel_rfl) rfl), (by kernel_rfl), ?_⟩) ?_
          · have e1 : E (.tmp 106) = (.int .i64 0) := hV 5 106 (by kernel_rfl) rfl
            clear hE hV hP hB hS
            exact ev_eql e1 (hc _) rfl
          refine AllTold.cons rfl (fun β E W hA hF hc hf hE hV hP hB hS => Or.inl ⟨rfl, (by kernel_rfl), ?_⟩) ?_
          · have e1 : E (.tmp 104) = (.bool true) := hV 3 104 (by kernel_rfl) rfl
            have e2 : E (.tmp 107) = (.bool true) := hV 6 107 (by kernel_rfl) rfl
            clear hE hV hP hB hS
            exact ev_pick e1 e2
          refine AllTold.cons rfl (fun β E W hA hF hc hf hE hV hP hB hS => Or.inl ⟨rfl, (by kernel_rfl), ?_⟩) ?_
          · have e1 : E (.tmp 108) = (.bool true) := hV 7 108 (by kernel_rfl) rfl
            clear hE hV hP hB hS
            exact ev_move _ e1
          refine AllTold.cons rfl (fun β E W hA hF hc hf hE hV hP hB hS => Or.inl ⟨wanted_of (d := 109) (b := true) rfl (by kernel_rfl) (hV 8 109 (by kernel_rfl) rfl), (by kernel_rfl), ?_⟩) ?_
          · have e1 : E (.tmp 16) = .pointer (some ⟨t1, 0, none⟩) := hE 16 (by kernel_rfl)
            have q0 := hA.cell BP.out.1 (by intro h; cases h)
            have q1 := hA.cell BP.out.2.1 (by intro h; cases h)
            have q2 := hA.cell BP.out.2.2 (by intro h; cases h)
            clear hE hV hP hB hS
            exact ev_loadI e1 q0 q1 q2 (hF (_, _) (List.mem_cons_of_mem _ (List.mem_cons_of_mem _ (List.mem_cons_self ..))))
          refine AllTold.cons rfl (fun β E W hA hF hc hf hE hV hP hB hS => Or.inl ⟨wanted_of (d := 109) (b := true) rfl (by kernel_rfl) (hV 8 109 (by kernel_rfl) rfl), (by kernel_rfl), ?_⟩) ?_
          · have e1 : E (.tmp 19) = .pointer (some ⟨t3, 0, none⟩) := hE 19 (by kernel_rfl)
            have q0 := hA.cell BQ.out.1 (by intro h; cases h)
            have q1 := hA.cell BQ.out.2.1 (by intro h; cases h)
            have q2 := hA.cell BQ.out.2.2 (by intro h; cases h)
            clear hE hV hP hB hS
            exact ev_loadI e1 q0 q1 q2 (hF (_, _) (List.mem_cons_of_mem _ (List.mem_cons_of_mem _ (List.mem_cons_of_mem _ (List.mem_cons_of_mem _ (List.mem_cons_self ..))))))
          refine AllTold.cons rfl (fun β E W hA hF hc hf hE hV hP hB hS => Or.inl ⟨wanted_of (d := 109) (b := true) rfl (by kernel_rfl) (hV 8 109 (by kernel_rfl) rfl), (by kernel_rfl), ?_⟩) ?_
          · have e1 : Means W (.int P) (E (.tmp 110)) := hV 9 110 (by kernel_rfl) rfl
            have e2 : Means W (.int Q) (E (.tmp 111)) := hV 10 111 (by kernel_rfl) rfl
            clear hE hV hP hB hS
            exact ev_call2 (hf _) run_iGcd ((iGcd_val W _ _ P Q 1 HPQ.out (by omega) (by omega) (TB.out.mono hA.below0) e1 e2).mono fun e w' ⟨v, h1, h2, h3⟩ => ⟨v, h1, h2, h3⟩)
          refine AllTold.cons rfl (fun β E W hA hF hc hf hE hV hP hB hS => Or.inl ⟨wanted_of (d := 109) (b := true) rfl (by kernel_rfl) (hV 8 109 (by kernel_rfl) rfl), (by kernel_rfl), ?_⟩) ?_
          · have e1 : Means W (.num 1) (E (.tmp 112)) := hV 11 112 (by kernel_rfl) rfl
            clear hE hV hP hB hS
            exact ev_call1 (hf _) run_nText ((nText_one W _ e1).mono fun e w' ⟨v, h1, h2, h3⟩ => ⟨v, h1, h2, h3⟩)
          refine AllTold.cons rfl (fun β E W hA hF hc hf hE hV hP hB hS => Or.inl ⟨wanted_of (d := 109) (b := true) rfl (by kernel_rfl) (hV 8 109 (by kernel_rfl) rfl), (by kernel_rfl), ?_⟩) ?_
          · have e1 : E (.tmp 113) = (.string ⟨#[49]⟩) := hV 12 113 (by kernel_rfl) rfl
            clear hE hV hP hB hS
            exact Does.value (w' := W) (by go_simp) ⟨rfl, Below.refl _ _⟩
          refine AllTold.cons rfl (fun β E W hA hF hc hf hE hV hP hB hS => Or.inl ⟨rfl, (by kernel_rfl), ?_⟩) ?_
          · have e1 : E (.tmp 109) = (.bool true) := hV 8 109 (by kernel_rfl) rfl
            have e2 : E (.tmp 114) = (.bool true) := hV 13 114 (by kernel_rfl) rfl
            clear hE hV hP hB hS
            exact ev_pick e1 e2
          refine AllTold.cons rfl (fun β E W hA hF hc hf hE hV hP hB hS => Or.inl ⟨rfl, (by kernel_rfl), ?_⟩) ?_
          · have e1 : E (.tmp 115) = (.bool true) := hV 14 115 (by kernel_rfl) rfl
            clear hE hV hP hB hS
            exact ev_move _ e1
          refine AllTold.cons rfl (fun β E W hA hF hc hf hE hV hP hB hS => Or.inl ⟨wanted_of (d := 116) (b := true) rfl (by kernel_rfl) (hV 15 116 (by kernel_rfl) rfl), (by kernel_rfl), ?_⟩) ?_
          · have e1 : E (.tmp 10) = .pointer (some ⟨b, 0, none⟩) := hE 10 (by kernel_rfl)
            have q0 := hA.cell BB.out.1 (by intro h; cases h)
            have q1 := hA.cell BB.out.2.1 (by intro h; cases h)
            have q2 := hA.cell BB.out.2.2 (by intro h; cases h)
            clear hE hV hP hB hS
            exact ev_loadI e1 q0 q1 q2 (hF (_, _) (List.mem_cons_self ..))
          refine AllTold.cons rfl (fun β E W hA hF hc hf hE hV hP hB hS => Or.inl ⟨wanted_of (d := 116) (b := true) rfl (by kernel_rfl) (hV 15 116 (by kernel_rfl) rfl), (by kernel_rfl), ?_⟩) ?_
          · have e1 : Means W (.int y) (E (.tmp 117)) := hV 16 117 (by kernel_rfl) rfl
            clear hE hV hP hB hS
            exact ev_call1 (hf _) run_iSign ((iSign_val W _ y 0 HSY.out e1).mono fun e w' ⟨v, h1, h2, h3⟩ => ⟨v, h1, h2, h3⟩)
          refine AllTold.cons rfl (fun β E W hA hF hc hf hE hV hP hB hS => Or.inl ⟨wanted_of (d := 116) (b := true) rfl (by kernel_rfl) (hV 15 116 (by kernel_rfl) rfl), (by kernel_rfl), ?_⟩) ?_
          · have e1 : E (.tmp 118) = (.int .i64 0) := hV 17 118 (by kernel_rfl) rfl
            clear hE hV hP hB hS
            exact ev_eql e1 (hc _) rfl
          refine AllTold.cons rfl (fun β E W hA hF hc hf hE hV hP hB hS => Or.inl ⟨wanted_of (d := 116) (b := true) rfl (by kernel_rfl) (hV 15 116 (by kernel_rfl) rfl), (by kernel_rfl), ?_⟩) ?_
          · have e1 : E (.tmp 119) = (.bool true) := hV 18 119 (by kernel_rfl) rfl
            clear hE hV hP hB hS
            exact ev_move _ e1
          refine AllTold.cons rfl (fun β E W hA hF hc hf hE hV hP hB hS => Or.inr (Or.inr (Or.inr ⟨wanted_not (d := 120) (b := false) rfl (by kernel_rfl) (hV 19 120 (by kernel_rfl) rfl), (by kernel_rfl), fun _ => rfl⟩))) ?_
          refine AllTold.cons rfl (fun β E W hA hF hc hf hE hV hP hB hS => Or.inr (Or.inr (Or.inr ⟨wanted_not (d := 120) (b := false) rfl (by kernel_rfl) (hV 19 120 (by kernel_rfl) rfl), (by kernel_rfl), fun _ => rfl⟩))) ?_
          refine AllTold.cons rfl (fun β E W hA hF hc hf hE hV hP hB hS => Or.inr (Or.inr (Or.inr ⟨wanted_not (d := 120) (b := false) rfl (by kernel_rfl) (hV 19 120 (by kernel_rfl) rfl), (by kernel_rfl), fun _ => rfl⟩))) ?_
          refine AllTold.cons rfl (fun β E W hA hF hc hf hE hV hP hB hS => Or.inr (Or.inr (Or.inr ⟨wanted_not (d := 120) (b := false) rfl (by kernel_rfl) (hV 19 120 (by kernel_rfl) rfl), (by kernel_rfl), fun _ => rfl⟩))) ?_
          refine AllTold.cons rfl (fun β E W hA hF hc hf hE hV hP hB hS => Or.inr (Or.inr (Or.inr ⟨wanted_undef (d := 124) (b := true) rfl (by kernel_rfl) (hV 23 124 (by kernel_rfl) rfl), (by kernel_rfl), fun _ => rfl⟩))) ?_
          refine AllTold.cons rfl (fun β E W hA hF hc hf hE hV hP hB hS => Or.inr (Or.inr (Or.inr ⟨wanted_undef (d := 124) (b := true) rfl (by kernel_rfl) (hV 23 124 (by kernel_rfl) rfl), (by kernel_rfl), fun _ => rfl⟩))) ?_
          refine AllTold.cons rfl (fun β E W hA hF hc hf hE hV hP hB hS => Or.inr (Or.inr (Or.inr ⟨wanted_undef (d := 124) (b := true) rfl (by kernel_rfl) (hV 23 124 (by kernel_rfl) rfl), (by kernel_rfl), fun _ => rfl⟩))) ?_
          refine AllTold.cons rfl (fun β E W hA hF hc hf hE hV hP hB hS => Or.inr (Or.inr (Or.inr ⟨wanted_undef (d := 124) (b := true) rfl (by kernel_rfl) (hV 23 124 (by kernel_rfl) rfl), (by kernel_rfl), fun _ => rfl⟩))) ?_
          refine AllTold.cons rfl (fun β E W hA hF hc hf hE hV hP hB hS => Or.inr (Or.inr (Or.inr ⟨wanted_undef (d := 124) (b := true) rfl (by kernel_rfl) (hV 23 124 (by kernel_rfl) rfl), (by kernel_rfl), fun _ => rfl⟩))) ?_
          refine AllTold.cons rfl (fun β E W hA hF hc hf hE hV hP hB hS => Or.inr (Or.inr (Or.inr ⟨wanted_undef (d := 124) (b := true) rfl (by kernel_rfl) (hV 23 124 (by kernel_rfl) rfl), (by kernel_rfl), fun _ => rfl⟩))) ?_
          refine AllTold.cons rfl (fun β E W hA hF hc hf hE hV hP hB hS => Or.inr (Or.inr (Or.inr ⟨wanted_not (d := 120) (b := false) rfl (by kernel_rfl) (hV 19 120 (by kernel_rfl) rfl), (by kernel_rfl), fun _ => rfl⟩))) ?_
          refine AllTold.cons rfl (fun β E W hA hF hc hf hE hV hP hB hS => Or.inl ⟨wanted_of (d := 116) (b := true) rfl (by kernel_rfl) (hV 15 116 (by kernel_rfl) rfl), (by kernel_rfl), ?_⟩) ?_
          · have e1 : E (.tmp 120) = (.bool true) := hV 19 120 (by kernel_rfl) rfl
            have e2 : E (.tmp 131) = undef := hV 30 131 (by kernel_rfl) rfl
            clear hE hV hP hB hS
            exact ev_pick e1 (hc _)
          refine AllTold.cons rfl (fun β E W hA hF hc hf hE hV hP hB hS => Or.inl ⟨rfl, (by kernel_rfl), ?_⟩) ?_
          · have e1 : E (.tmp 116) = (.bool true) := hV 15 116 (by kernel_rfl) rfl
            have e2 : E (.tmp 132) = (.bool true) := hV 31 132 (by kernel_rfl) rfl
            clear hE hV hP hB hS
            exact ev_pick e1 e2
          refine AllTold.cons rfl (fun β E W hA hF hc hf hE hV hP hB hS => Or.inl ⟨rfl, (by kernel_rfl), ?_⟩) ?_
          · have e1 : E (.tmp 133) = (.bool true) := hV 32 133 (by kernel_rfl) rfl
            clear hE hV hP hB hS
            exact ev_assign _ e1
          exact AllTold.nil
        · intro β f' W' hf hS hN hA _ _ _ _
          have e8 : f' 8 = .bool true := hf (33, 8) (by simp)
          have HB := Lib.hid (below_step HB.out hA.below0)
          clear hf hS hN hA
          simp only [fillSlots, e8, List.setIfInBounds_toArray, List.set_cons_succ, List.set_cons_zero]
          go_wp2
          go_ret
          exact ⟨rfl, HB.out⟩
      · have HUU := Lib.hid (HY.out hy0)
        have HLU := Lib.hid (HY.out hy0).2
        obtain ⟨sgy, hsg⟩ : ∃ s, s = cmp3 y 0 := ⟨_, rfl⟩
        have hsy : ((sgy : Int) == 0) = false := by rw [hsg]; exact beq_eq_false_iff_ne.2 (by unfold cmp3; split <;> (try split) <;> omega)
        have HSY := Lib.hid hsg.symm
        obtain ⟨su, hsue⟩ : ∃ s, s = cmp3 U 0 := ⟨_, rfl⟩
        have hsu : (decide ((0 : Int) ≤ su)) = true := by
          rw [hsue]; unfold cmp3; rw [if_neg (by have := HUU.out; omega)]; split <;> rfl
        have HSU := Lib.hid hsue.symm
        clear hy0 HY HUU hsg hsue
        refine region_told (T := [0, 1, 2, 3, 4, 5, 6, 7, 8, 9, 10, 11, 12, 13, 14, 15, 16, 17, 18, 19, 20, 21, 22, 23, 24, 25, 26, 27, 28, 29, 30, 31, 32, 33]) (slots := [101, 102, 103, 104, 105, 106, 107, 108, 109, 110, 111, 112, 113, 114, 115, 116, 117, 118, 119, 120, 121, 122, 123, 124, 125, 126, 127, 128, 129, 130, 131, 132, 133, 8])
            (tab := [.int 0, .is (.int .i64 0), .is (.bool true), .is (.bool true), .int 0, .is (.int .i64 0), .is (.bool true), .is (.bool true), .is (.bool true), .int P, .int Q, .num 1, .is (.string ⟨#[49]⟩), .is (.bool true), .is (.bool true), .is (.bool true), .int y, .is (.int .i64 sgy), .is (.bool false), .is (.bool false), .int U, .is (.int .i64 su), .is (.bool true), .is (.bool true), .int U, .int Q, .num n, .int (n : Int), .is (.int .i64 (-1)), .is (.bool true), .is (.bool true), .is (.bool true), .is (.bool true), .is (.bool true)])
            (D := [])
            (F := [(.agg #[.bool g2, .int .u64 s2, .slice p2 l2 c2], .int y), (.agg #[.bool g6, .int .u64 s6, .slice p6 l6 c6], .int U), (.agg #[.bool gq, .int .u64 sq', .slice pq lq cq], .int P), (.agg #[.bool gm, .int .u64 sm', .slice pm lm cm], .int 0), (.agg #[.bool gw, .int .u64 sw, .slice pw lw cw], .int Q), (.agg #[.bool gz, .int .u64 sz, .slice pz lz cz], .int 0)])
            (by kernel_rfl) (by kernel_rfl) (by kernel_rfl) (by kernel_rfl) (by kernel_rfl) (by kernel_rfl) (by kernel_rfl) ?_ ?_ ?_ ?_ ?_
        · exact List.Pairwise.nil
        · intro f hf; simp only [List.mem_cons, List.not_mem_nil, or_false] at hf; rcases hf with rfl | rfl | rfl | rfl | rfl | rfl
          · exact ⟨_, _, _, _, _, rfl, I2.out⟩
          · exact ⟨_, _, _, _, _, rfl, I6.out⟩
          · exact ⟨_, _, _, _, _, rfl, IP.out⟩
          · exact ⟨_, _, _, _, _, rfl, IR.out⟩
          · exact ⟨_, _, _, _, _, rfl, IQ.out⟩
          · exact ⟨_, _, _, _, _, rfl, IS.out⟩
        · intro x hx; cases hx
        · skip
          refine AllTold.cons rfl (fun β E W hA hF hc hf hE hV hP hB hS => Or.inl ⟨rfl, (by kernel_rfl), ?_⟩) ?_
          · have e1 : E (.tmp 17) = .pointer (some ⟨t2, 0, none⟩) := hE 17 (by kernel_rfl)
            have q0 := hA.cell BR.out.1 (by intro h; cases h)
            have q1 := hA.cell BR.out.2.1 (by intro h; cases h)
            have q2 := hA.cell BR.out.2.2 (by intro h; cases h)
            clear hE hV hP hB hS
            exact ev_loadI e1 q0 q1 q2 (hF (_, _) (List.mem_cons_of_mem _ (List.mem_cons_of_mem _ (List.mem_cons_of_mem _ (List.mem_cons_self ..)))))
          refine AllTold.cons rfl (fun β E W hA hF hc hf hE hV hP hB hS => Or.inl ⟨rfl, (by kernel_rfl), ?_⟩) ?_
          · have e1 : Means W (.int 0) (E (.tmp 101)) := hV 0 101 (by kernel_rfl) rfl
            clear hE hV hP hB hS
            exact ev_call1 (hf _) run_iSign ((iSign_val W _ 0 0 rfl e1).mono fun e w' ⟨v, h1, h2, h3⟩ => ⟨v, h1, h2, h3⟩)
          refine AllTold.cons rfl (fun β E W hA hF hc hf hE hV hP hB hS => Or.inl ⟨rfl, (by kernel_rfl), ?_⟩) ?_
          · have e1 : E (.tmp 102) = (.int .i64 0) := hV 1 102 (by kernel_rfl) rfl
            clear hE hV hP hB hS
            exact ev_eql e1 (hc _) rfl
          refine AllTold.cons rfl (fun β E W hA hF hc hf hE hV hP hB hS => Or.inl ⟨rfl, (by kernel_rfl), ?_⟩) ?_
          · have e1 : E (.tmp 103) = (.bool true) := hV 2 103 (by kernel_rfl) rfl
            clear hE hV hP hB hS
            exact ev_move _ e1
          refine AllTold.cons rfl (fun β E W hA hF hc hf hE hV hP hB hS => Or.inl ⟨wanted_of (d := 104) (b := true) rfl (by kernel_rfl) (hV 3 104 (by kernel_rfl) rfl), (by kernel_rfl), ?_⟩) ?_
          · have e1 : E (.tmp 20) = .pointer (some ⟨t4, 0, none⟩) := hE 20 (by kernel_rfl)
            have q0 := hA.cell BS.out.1 (by intro h; cases h)
            have q1 := hA.cell BS.out.2.1 (by intro h; cases h)
            have q2 := hA.cell BS.out.2.2 (by intro h; cases h)
            clear hE hV hP hB hS
            exact ev_loadI e1 q0 q1 q2 (hF (_, _) (List.mem_cons_of_mem _ (List.mem_cons_of_mem _ (List.mem_cons_of_mem _ (List.mem_cons_of_mem _ (List.mem_cons_of_mem _ (List.mem_cons_self ..)))))))
          refine AllTold.cons rfl (fun β E W hA hF hc hf hE hV hP hB hS => Or.inl ⟨wanted_of (d := 104) (b := true) rfl (by kernel_rfl) (hV 3 104 (by kernel_rfl) rfl), (by kernel_rfl), ?_⟩) ?_
          · have e1 : Means W (.int 0) (E (.tmp 105)) := hV 4 105 (by kernel_rfl) rfl
            clear hE hV hP hB hS
            exact ev_call1 (hf _) run_iSign ((iSign_val W _ 0 0 rfl e1).mono fun e w' ⟨v, h1, h2, h3⟩ => ⟨v, h1, h2, h3⟩)
          refine AllTold.cons rfl (fun β E W hA hF hc hf hE hV hP hB hS => Or.inl ⟨wanted_of (d := 104) (b := true) rfl (by kernel_rfl) (hV 3 104 (by kernel_rfl) rfl), (by kernel_rfl), ?_⟩) ?_
          · have e1 : E (.tmp 106) = (.int .i64 0) := hV 5 106 (by kernel_rfl) rfl
            clear hE hV hP hB hS
            exact ev_eql e1 (hc _) rfl
          refine AllTold.cons rfl (fun β E W hA hF hc hf hE hV hP hB hS => Or.inl ⟨rfl, (by kernel_rfl), ?_⟩) ?_
          · have e1 : E (.tmp 104) = (.bool true) := hV 3 104 (by kernel_rfl) rfl
            have e2 : E (.tmp 107) = (.bool true) := hV 6 107 (by kernel_rfl) rfl
            clear hE hV hP hB hS
            exact ev_pick e1 e2
          refine AllTold.cons rfl (fun β E W hA hF hc hf hE hV hP hB hS => Or.inl ⟨rfl, (by kernel_rfl), ?_⟩) ?_
          · have e1 : E (.tmp 108) = (.bool true) := hV 7 108 (by kernel_rfl) rfl
            clear hE hV hP hB hS
            exact ev_move _ e1
          refine AllTold.cons rfl (fun β E W hA hF hc hf hE hV hP hB hS => Or.inl ⟨wanted_of (d := 109) (b := true) rfl (by kernel_rfl) (hV 8 109 (by kernel_rfl) rfl), (by kernel_rfl), ?_⟩) ?_
          · have e1 : E (.tmp 16) = .pointer (some ⟨t1, 0, none⟩) := hE 16 (by kernel_rfl)
            have q0 := hA.cell BP.out.1 (by intro h; cases h)
            have q1 := hA.cell BP.out.2.1 (by intro h; cases h)
            have q2 := hA.cell BP.out.2.2 (by intro h; cases h)
            clear hE hV hP hB hS
            exact ev_loadI e1 q0 q1 q2 (hF (_, _) (List.mem_cons_of_mem _ (List.mem_cons_of_mem _ (List.mem_cons_self ..))))
          refine AllTold.cons rfl (fun β E W hA hF hc hf hE hV hP hB hS => Or.inl ⟨wanted_of (d := 109) (b := true) rfl (by kernel_rfl) (hV 8 109 (by kernel_rfl) rfl), (by kernel_rfl), ?_⟩) ?_
          · have e1 : E (.tmp 19) = .pointer (some ⟨t3, 0, none⟩) := hE 19 (by kernel_rfl)
            have q0 := hA.cell BQ.out.1 (by intro h; cases h)
            have q1 := hA.cell BQ.out.2.1 (by intro h; cases h)
            have q2 := hA.cell BQ.out.2.2 (by intro h; cases h)
            clear hE hV hP hB hS
            exact ev_loadI e1 q0 q1 q2 (hF (_, _) (List.mem_cons_of_mem _ (List.mem_cons_of_mem _ (List.mem_cons_of_mem _ (List.mem_cons_of_mem _ (List.mem_cons_self ..))))))
          refine AllTold.cons rfl (fun β E W hA hF hc hf hE hV hP hB hS => Or.inl ⟨wanted_of (d := 109) (b := true) rfl (by kernel_rfl) (hV 8 109 (by kernel_rfl) rfl), (by kernel_rfl), ?_⟩) ?_
          · have e1 : Means W (.int P) (E (.tmp 110)) := hV 9 110 (by kernel_rfl) rfl
            have e2 : Means W (.int Q) (E (.tmp 111)) := hV 10 111 (by kernel_rfl) rfl
            clear hE hV hP hB hS
            exact ev_call2 (hf _) run_iGcd ((iGcd_val W _ _ P Q 1 HPQ.out (by omega) (by omega) (TB.out.mono hA.below0) e1 e2).mono fun e w' ⟨v, h1, h2, h3⟩ => ⟨v, h1, h2, h3⟩)
          refine AllTold.cons rfl (fun β E W hA hF hc hf hE hV hP hB hS => Or.inl ⟨wanted_of (d := 109) (b := true) rfl (by kernel_rfl) (hV 8 109 (by kernel_rfl) rfl), (by kernel_rfl), ?_⟩) ?_
          · have e1 : Means W (.num 1) (E (.tmp 112)) := hV 11 112 (by kernel_rfl) rfl
            clear hE hV hP hB hS
            exact ev_call1 (hf _) run_nText ((nText_one W _ e1).mono fun e w' ⟨v, h1, h2, h3⟩ => ⟨v, h1, h2, h3⟩)
          refine AllTold.cons rfl (fun β E W hA hF hc hf hE hV hP hB hS => Or.inl ⟨wanted_of (d := 109) (b := true) rfl (by kernel_rfl) (hV 8 109 (by kernel_rfl) rfl), (by kernel_rfl), ?_⟩) ?_
          · have e1 : E (.tmp 113) = (.string ⟨#[49]⟩) := hV 12 113 (by kernel_rfl) rfl
            clear hE hV hP hB hS
            exact Does.value (w' := W) (by go_simp) ⟨rfl, Below.refl _ _⟩
          refine AllTold.cons rfl (fun β E W hA hF hc hf hE hV hP hB hS => Or.inl ⟨rfl, (by kernel_rfl), ?_⟩) ?_
          · have e1 : E (.tmp 109) = (.bool true) := hV 8 109 (by kernel_rfl) rfl
            have e2 : E (.tmp 114) = (.bool true) := hV 13 114 (by kernel_rfl) rfl
            clear hE hV hP hB hS
            exact ev_pick e1 e2
          refine AllTold.cons rfl (fun β E W hA hF hc hf hE hV hP hB hS => Or.inl ⟨rfl, (by kernel_rfl), ?_⟩) ?_
          · have e1 : E (.tmp 115) = (.bool true) := hV 14 115 (by kernel_rfl) rfl
            clear hE hV hP hB hS
            exact ev_move _ e1
          refine AllTold.cons rfl (fun β E W hA hF hc hf hE hV hP hB hS => Or.inl ⟨wanted_of (d := 116) (b := true) rfl (by kernel_rfl) (hV 15 116 (by kernel_rfl) rfl), (by kernel_rfl), ?_⟩) ?_
          · have e1 : E (.tmp 10) = .pointer (some ⟨b, 0, none⟩) := hE 10 (by kernel_rfl)
            have q0 := hA.cell BB.out.1 (by intro h; cases h)
            have q1 := hA.cell BB.out.2.1 (by intro h; cases h)
            have q2 := hA.cell BB.out.2.2 (by intro h; cases h)
            clear hE hV hP hB hS
            exact ev_loadI e1 q0 q1 q2 (hF (_, _) (List.mem_cons_self ..))
          refine AllTold.cons rfl (fun β E W hA hF hc hf hE hV hP hB hS => Or.inl ⟨wanted_of (d := 116) (b := true) rfl (by kernel_rfl) (hV 15 116 (by kernel_rfl) rfl), (by kernel_rfl), ?_⟩) ?_
          · have e1 : Means W (.int y) (E (.tmp 117)) := hV 16 117 (by kernel_rfl) rfl
            clear hE hV hP hB hS
            exact ev_call1 (hf _) run_iSign ((iSign_val W _ y sgy HSY.out e1).mono fun e w' ⟨v, h1, h2, h3⟩ => ⟨v, h1, h2, h3⟩)
          refine AllTold.cons rfl (fun β E W hA hF hc hf hE hV hP hB hS => Or.inl ⟨wanted_of (d := 116) (b := true) rfl (by kernel_rfl) (hV 15 116 (by kernel_rfl) rfl), (by kernel_rfl), ?_⟩) ?_
          · have e1 : E (.tmp 118) = (.int .i64 sgy) := hV 17 118 (by kernel_rfl) rfl
            clear hE hV hP hB hS
            exact ev_eql e1 (hc _) hsy
          refine AllTold.cons rfl (fun β E W hA hF hc hf hE hV hP hB hS => Or.inl ⟨wanted_of (d := 116) (b := true) rfl (by kernel_rfl) (hV 15 116 (by kernel_rfl) rfl), (by kernel_rfl), ?_⟩) ?_
          · have e1 : E (.tmp 119) = (.bool false) := hV 18 119 (by kernel_rfl) rfl
            clear hE hV hP hB hS
            exact ev_move _ e1
          refine AllTold.cons rfl (fun β E W hA hF hc hf hE hV hP hB hS => Or.inl ⟨wanted_of (d := 120) (b := false) rfl (by kernel_rfl) (hV 19 120 (by kernel_rfl) rfl), (by kernel_rfl), ?_⟩) ?_
          · have e1 : E (.tmp 14) = .pointer (some ⟨cu, 0, none⟩) := hE 14 (by kernel_rfl)
            have q0 := hA.cell BU.out.1 (by intro h; cases h)
            have q1 := hA.cell BU.out.2.1 (by intro h; cases h)
            have q2 := hA.cell BU.out.2.2 (by intro h; cases h)
            clear hE hV hP hB hS
            exact ev_loadI e1 q0 q1 q2 (hF (_, _) (List.mem_cons_of_mem _ (List.mem_cons_self ..)))
          refine AllTold.cons rfl (fun β E W hA hF hc hf hE hV hP hB hS => Or.inl ⟨wanted_of (d := 120) (b := false) rfl (by kernel_rfl) (hV 19 120 (by kernel_rfl) rfl), (by kernel_rfl), ?_⟩) ?_
          · have e1 : Means W (.int U) (E (.tmp 121)) := hV 20 121 (by kernel_rfl) rfl
            clear hE hV hP hB hS
            exact ev_call1 (hf _) run_iSign ((iSign_val W _ U su HSU.out e1).mono fun e w' ⟨v, h1, h2, h3⟩ => ⟨v, h1, h2, h3⟩)
          refine AllTold.cons rfl (fun β E W hA hF hc hf hE hV hP hB hS => Or.inl ⟨wanted_of (d := 120) (b := false) rfl (by kernel_rfl) (hV 19 120 (by kernel_rfl) rfl), (by kernel_rfl), ?_⟩) ?_
          · have e1 : E (.tmp 122) = (.int .i64 su) := hV 21 122 (by kernel_rfl) rfl
            clear hE hV hP hB hS
            exact ev_geq e1 (hc _) hsu
          refine AllTold.cons rfl (fun β E W hA hF hc hf hE hV hP hB hS => Or.inl ⟨wanted_of (d := 120) (b := false) rfl (by kernel_rfl) (hV 19 120 (by kernel_rfl) rfl), (by kernel_rfl), ?_⟩) ?_
          · have e1 : E (.tmp 123) = (.bool true) := hV 22 123 (by kernel_rfl) rfl
            clear hE hV hP hB hS
            exact ev_move _ e1
          refine AllTold.cons rfl (fun β E W hA hF hc hf hE hV hP hB hS => Or.inl ⟨wanted_of (d := 124) (b := true) rfl (by kernel_rfl) (hV 23 124 (by kernel_rfl) rfl), (by kernel_rfl), ?_⟩) ?_
          · have e1 : E (.tmp 14) = .pointer (some ⟨cu, 0, none⟩) := hE 14 (by kernel_rfl)
            have q0 := hA.cell BU.out.1 (by intro h; cases h)
            have q1 := hA.cell BU.out.2.1 (by intro h; cases h)
            have q2 := hA.cell BU.out.2.2 (by intro h; cases h)
            clear hE hV hP hB hS
            exact ev_loadI e1 q0 q1 q2 (hF (_, _) (List.mem_cons_of_mem _ (List.mem_cons_self ..)))
          refine AllTold.cons rfl (fun β E W hA hF hc hf hE hV hP hB hS => Or.inl ⟨wanted_of (d := 124) (b := true) rfl (by kernel_rfl) (hV 23 124 (by kernel_rfl) rfl), (by kernel_rfl), ?_⟩) ?_
          · have e1 : E (.tmp 19) = .pointer (some ⟨t3, 0, none⟩) := hE 19 (by kernel_rfl)
            have q0 := hA.cell BQ.out.1 (by intro h; cases h)
            have q1 := hA.cell BQ.out.2.1 (by intro h; cases h)
            have q2 := hA.cell BQ.out.2.2 (by intro h; cases h)
            clear hE hV hP hB hS
            exact ev_loadI e1 q0 q1 q2 (hF (_, _) (List.mem_cons_of_mem _ (List.mem_cons_of_mem _ (List.mem_cons_of_mem _ (List.mem_cons_of_mem _ (List.mem_cons_self ..))))))
          refine AllTold.cons rfl (fun β E W hA hF hc hf hE hV hP hB hS => Or.inl ⟨wanted_of (d := 124) (b := true) rfl (by kernel_rfl) (hV 23 124 (by kernel_rfl) rfl), (by kernel_rfl), ?_⟩) ?_
          · have e1 : Means W (.int Q) (E (.tmp 126)) := hV 25 126 (by kernel_rfl) rfl
            clear hE hV hP hB hS
            exact ev_call1 (hf _) run_iAbs ((iAbs_val W _ Q n HQA.out e1).mono fun e w' ⟨v, h1, h2, h3⟩ => ⟨v, h1, h2, h3⟩)
          refine AllTold.cons rfl (fun β E W hA hF hc hf hE hV hP hB hS => Or.inl ⟨wanted_of (d := 124) (b := true) rfl (by kernel_rfl) (hV 23 124 (by kernel_rfl) rfl), (by kernel_rfl), ?_⟩) ?_
          · have e1 : Means W (.num n) (E (.tmp 127)) := hV 26 127 (by kernel_rfl) rfl
            clear hE hV hP hB hS
            exact ev_call2 (hf _) run_iFrom (by rw [hc]; exact (iFrom_val W _ n e1).mono fun e w' ⟨v, h1, h2, h3⟩ => ⟨v, h1, h2, h3⟩)
          refine AllTold.cons rfl (fun β E W hA hF hc hf hE hV hP hB hS => Or.inl ⟨wanted_of (d := 124) (b := true) rfl (by kernel_rfl) (hV 23 124 (by kernel_rfl) rfl), (by kernel_rfl), ?_⟩) ?_
          · have e1 : Means W (.int U) (E (.tmp 125)) := hV 24 125 (by kernel_rfl) rfl
            have e2 : Means W (.int (n : Int)) (E (.tmp 128)) := hV 27 128 (by kernel_rfl) rfl
            clear hE hV hP hB hS
            exact ev_call2 (hf _) run_iCmp ((iCmp_val W _ _ U (n : Int) (-1) (cmp3_lt HLU.out) (by omega) (by omega) e1 e2).mono fun e w' ⟨v, h1, h2, h3⟩ => ⟨v, h1, h2, h3⟩)
          refine AllTold.cons rfl (fun β E W hA hF hc hf hE hV hP hB hS => Or.inl ⟨wanted_of (d := 124) (b := true) rfl (by kernel_rfl) (hV 23 124 (by kernel_rfl) rfl), (by kernel_rfl), ?_⟩) ?_
          · have e1 : E (.tmp 129) = (.int .i64 (-1)) := hV 28 129 (by kernel_rfl) rfl
            clear hE hV hP hB hS
            exact ev_lss e1 (hc _) rfl
          refine AllTold.cons rfl (fun β E W hA hF hc hf hE hV hP hB hS => Or.inl ⟨wanted_of (d := 120) (b := false) rfl (by kernel_rfl) (hV 19 120 (by kernel_rfl) rfl), (by kernel_rfl), ?_⟩) ?_
          · have e1 : E (.tmp 124) = (.bool true) := hV 23 124 (by kernel_rfl) rfl
            have e2 : E (.tmp 130) = (.bool true) := hV 29 130 (by kernel_rfl) rfl
            clear hE hV hP hB hS
            exact ev_pick e1 e2
          refine AllTold.cons rfl (fun β E W hA hF hc hf hE hV hP hB hS => Or.inl ⟨wanted_of (d := 116) (b := true) rfl (by kernel_rfl) (hV 15 116 (by kernel_rfl) rfl), (by kernel_rfl), ?_⟩) ?_
          · have e1 : E (.tmp 120) = (.bool false) := hV 19 120 (by kernel_rfl) rfl
            have e2 : E (.tmp 131) = (.bool true) := hV 30 131 (by kernel_rfl) rfl
            clear hE hV hP hB hS
            exact ev_pick e1 e2
          refine AllTold.cons rfl (fun β E W hA hF hc hf hE hV hP hB hS => Or.inl ⟨rfl, (by kernel_rfl), ?_⟩) ?_
          · have e1 : E (.tmp 116) = (.bool true) := hV 15 116 (by kernel_rfl) rfl
            have e2 : E (.tmp 132) = (.bool true) := hV 31 132 (by kernel_rfl) rfl
            clear hE hV hP hB hS
            exact ev_pick e1 e2
          refine AllTold.cons rfl (fun β E W hA hF hc hf hE hV hP hB hS => Or.inl ⟨rfl, (by kernel_rfl), ?_⟩) ?_
          · have e1 : E (.tmp 133) = (.bool true) := hV 32 133 (by kernel_rfl) rfl
            clear hE hV hP hB hS
            exact ev_assign _ e1
          exact AllTold.nil
        · intro β f' W' hf hS hN hA _ _ _ _
          have e8 : f' 8 = .bool true := hf (33, 8) (by simp)
          have HB := Lib.hid (below_step HB.out hA.below0)
          clear hf hS hN hA
          simp only [fillSlots, e8, List.setIfInBounds_toArray, List.set_cons_succ, List.set_cons_zero]
          go_wp2
          go_ret
          exact ⟨rfl, HB.out⟩
end Go.Proofs.YtioghcpmgojokaaGreatDoor
