/- WholeRing: sums and products go in any order, and through one another; quotients; without the document's answer. -/
import Derived.Test.YtadhmpkndnhebaaDoorLaw2
namespace Go.Proofs.YtadhmpkndnhebaaDoor
open Go.RowKit

set_option maxRecDepth 100000 in
set_option maxHeartbeats 8000000 in
theorem wring_any (p q r : Option Addr) (l c k d m h : Nat) (f g : Bool) (xs ys zs : List Nat) (w : World) (h1 : IsB w p l c xs) (h2 : IsB w q k d ys) (h3 : IsB w r m h zs) :
    Calls Tryd.prog 6 #[.slice p l c, .slice q k d, .slice r m h, .bool f, .bool g] w fun e w' => e = .returned (.bool true) ∧ Below w.heap.size w w' := by
  have sx : (ds (sgn f (nb (xs.take 40))).natAbs).length ≤ 5 := by rw [sgn_abs]; exact ds_nb40 xs h1.2.1
  have sy : (ds (sgn g (nb (ys.take 40))).natAbs).length ≤ 5 := by rw [sgn_abs]; exact ds_nb40 ys h2.2.1
  have sz : ∀ b, (ds (sgn b (nb (zs.take 40))).natAbs).length ≤ 5 := fun b => by rw [sgn_abs]; exact ds_nb40 zs h3.2.1
  have T1 := Lib.hid (fun W a b => two2_any p q l c k d xs ys f g W a b)
  have T2 := Lib.hid (fun b W a => two2_any r none m h 0 0 zs [] b false W a ⟨rfl, by simp, Or.inl ⟨rfl, rfl, rfl⟩⟩)
  have H1 := Lib.hid h1; have H2 := Lib.hid h2; have H3 := Lib.hid h3
  have SZ := Lib.hid sz
  generalize sgn f (nb (xs.take 40)) = x at *
  generalize sgn g (nb (ys.take 40)) = y at *
  clear h1 h2 h3 sz
  go_enter Tryd.func6, Tryd.ntmps6
  go_wp2_with fail
  refine (T1.out _ H1.out H2.out).mono ?_
  rintro e w1 ⟨g1, s1, p1, l1, c1, g2, s2, p2, l2, c2, g3, p3, l3, c3, g4, p4, l4, c4, rfl, i1, i2, -, -, hb⟩
  have I1 := Lib.hid i1; have I2 := Lib.hid i2; have HB := Lib.hid hb
  clear i1 i2 hb T1
  obtain ⟨V, a, b, hV, hbb, ha, BA, BB, hb⟩ := boxesF w1 g1 g2 g3 g4 s1 s2 p1 p2 p3 p4 l1 c1 l2 c2 l3 c3 l4 c4
  have BA := Lib.hid BA; have BB := Lib.hid BB
  go_wp2_with fail
  rw [← hV, ← hbb, ← ha]
  obtain ⟨fg, hfg⟩ : ∃ z, z = (f != g) := ⟨_, rfl⟩
  rw [show (!(f == g)) = fg from hfg.symm]
  have I1 := Lib.hid (I1.out.mono hb); have I2 := Lib.hid (I2.out.mono hb); have HB := Lib.hid (below_step HB.out hb)
  have T3 := Lib.hid (T2.out fg V (H3.out.mono HB.out))
  have sz : (ds (sgn fg (nb (zs.take 40))).natAbs).length ≤ 5 := SZ.out fg
  generalize sgn fg (nb (zs.take 40)) = z at *
  clear hV hbb ha hb hfg T2 SZ
  refine T3.out.mono ?_
  rintro e w2 ⟨g5, s5, p5, l5, c5, g6, s6, p6, l6, c6, g7, p7, l7, c7, g8, p8, l8, c8, rfl, i5, i6, -, -, hb⟩
  have I1 := Lib.hid (I1.out.mono hb); have I2 := Lib.hid (I2.out.mono hb); have I3 := Lib.hid i5; have HB := Lib.hid (below_step HB.out hb)
  have BA := Lib.hid (BA.out.mono hb); have BB := Lib.hid (BB.out.mono hb)
  clear i5 i6 hb T3
  obtain ⟨V2, d', -, hV, -, hd', BC, -, hb⟩ := boxesF w2 g5 g6 g7 g8 s5 s6 p5 p6 p7 p8 l5 c5 l6 c6 l7 c7 l8 c8
  have BC := Lib.hid BC
  obtain ⟨A0, A1, A2⟩ := BA.out; obtain ⟨B0, B1, B2⟩ := BB.out
  have za := BA.out.lt; have zb := BB.out.lt
  have za1 : a < w2.heap.size + 1 := by omega
  have za2 : a < w2.heap.size + 1 + 1 := by omega
  have za3 : a < w2.heap.size + 1 + 1 + 1 := by omega
  have zb1 : b < w2.heap.size + 1 := by omega
  have zb2 : b < w2.heap.size + 1 + 1 := by omega
  have zb3 : b < w2.heap.size + 1 + 1 + 1 := by omega
  go_wp2_with fail
  rw [← hV, ← hd']
  have I1 := Lib.hid (I1.out.mono hb); have I2 := Lib.hid (I2.out.mono hb); have I3 := Lib.hid (I3.out.mono hb); have HB := Lib.hid (below_step HB.out hb)
  have BA := Lib.hid (BA.out.mono hb); have BB := Lib.hid (BB.out.mono hb)
  clear hV hd' hb A0 A1 A2 B0 B1 B2 za zb za1 za2 za3 zb1 zb2 zb3
  by_cases hy0 : y = 0
  · subst hy0
    have TD := Lib.hid (iDiv_none x g1 g2 s1 s2 p1 p2 l1 c1 l2 c2 V2 I1.out I2.out)
    have sq : (ds (0 : Int).natAbs).length ≤ 5 := sy
    refine TD.out.mono ?_
    rintro e w3 ⟨gq, sq', pq, lq, cq, gm, sm', pm, lm, cm, rfl, iq, im, hb⟩
    have I1 := Lib.hid (I1.out.mono hb); have I2 := Lib.hid (I2.out.mono hb); have I3 := Lib.hid (I3.out.mono hb); have HB := Lib.hid (below_step HB.out hb)
    have BA := Lib.hid (BA.out.mono hb); have BB := Lib.hid (BB.out.mono hb); have BC := Lib.hid (BC.out.mono hb)
    have IQ := Lib.hid iq; have IM := Lib.hid im
    clear iq im hb TD
    go_wp2
    obtain ⟨V3, t, u, hV, hu, ht, BQ, BM, hb⟩ := boxesI w3 gq gm sq' sm' pq pm lq cq lm cm
    rw [← hV, ← hu, ← ht]
    have BQ := Lib.hid BQ; have BM := Lib.hid BM
    have I1 := Lib.hid (I1.out.mono hb); have I2 := Lib.hid (I2.out.mono hb); have I3 := Lib.hid (I3.out.mono hb); have HB := Lib.hid (below_step HB.out hb)
    have BA := Lib.hid (BA.out.mono hb); have BB := Lib.hid (BB.out.mono hb); have BC := Lib.hid (BC.out.mono hb)
    have IQ := Lib.hid (IQ.out.mono hb); have IM := Lib.hid (IM.out.mono hb)
    clear hV hu ht hb
    have := ds_natAbs_add x 0
    have := ds_natAbs_add 0 x
    have := ds_natAbs_add 0 z
    have := ds_natAbs_mul x (0 + z)
    have := ds_natAbs_mul x 0
    have := ds_natAbs_mul x z
    have := ds_natAbs_add (x * 0) (x * z)
    have := ds_natAbs_sub x 0
    have := ds_natAbs_add (x - 0) 0
    have := ds_natAbs_mul (x * 0) z
    have := ds_natAbs_mul z 0
    have := ds_natAbs_mul (z * 0) x
    have := ds_neg x
    have := ds_neg (-x)
    refine region_told (T := [0, 1, 2, 3, 4, 5, 6, 7, 8, 9, 10, 11, 12, 13, 14, 15, 16, 17, 18, 19, 20, 21, 22, 23, 24, 25, 26, 27, 28, 29, 30, 31, 32, 33, 34, 35, 36, 37, 38, 39, 40, 41, 42, 43, 44, 45, 46, 47, 48, 49, 50, 51, 52, 53, 54, 55, 56, 57, 58, 59, 60, 61, 62, 63, 64, 65, 66]) (slots := [49, 50, 51, 52, 53, 54, 55, 56, 57, 58, 59, 60, 61, 62, 63, 64, 65, 66, 67, 68, 69, 70, 71, 72, 73, 74, 75, 76, 77, 78, 79, 80, 81, 82, 83, 84, 85, 86, 87, 88, 89, 90, 91, 92, 93, 94, 95, 96, 97, 98, 99, 100, 101, 102, 103, 104, 105, 106, 107, 108, 109, 110, 111, 112, 113, 114, 115])
        (tab := [.is (.bool true), .is (.bool false), .is (.bool false), .int x, .int 0, .int (x + 0), .int 0, .int x, .int (0 + x), .is (.int .i64 0), .is (.bool false), .is (.bool false), .is (.bool false), .int x, .int 0, .int z, .int (0 + z), .int (x * (0 + z)), .int x, .int 0, .int (x * 0), .int x, .int z, .int (x * z), .int ((x * 0) + (x * z)), .is (.int .i64 0), .is (.bool false), .is (.bool false), .is (.bool false), .int x, .int 0, .int (x - 0), .int 0, .int ((x - 0) + 0), .int x, .is (.int .i64 0), .is (.bool false), .is (.bool false), .is (.bool false), .int x, .int 0, .int (x * 0), .int z, .int ((x * 0) * z), .int z, .int 0, .int (z * 0), .int x, .int ((z * 0) * x), .is (.int .i64 0), .is (.bool false), .is (.bool false), .is (.bool false), .int x, .int (-x), .int (-(-x)), .int x, .is (.int .i64 0), .is (.bool false), .is (.bool false), .is (.bool false), .is (.bool false), .int 0, .is (.int .i64 0), .is (.bool false), .is (.bool false), .is (.bool false)])
        (D := [])
        (F := [(.agg #[.bool g1, .int .u64 s1, .slice p1 l1 c1], .int x), (.agg #[.bool g2, .int .u64 s2, .slice p2 l2 c2], .int 0), (.agg #[.bool g5, .int .u64 s5, .slice p5 l5 c5], .int z), (.agg #[.bool gq, .int .u64 sq', .slice pq lq cq], .int 0), (.agg #[.bool gm, .int .u64 sm', .slice pm lm cm], .int 0)])
        (by kernel_rfl) (by kernel_rfl) (by kernel_rfl) (by kernel_rfl) (by kernel_rfl) (by kernel_rfl) (by kernel_rfl) ?_ ?_ ?_ ?_ ?_
    · exact List.Pairwise.nil
    · intro f hf; simp only [List.mem_cons, List.not_mem_nil, or_false] at hf; rcases hf with rfl | rfl | rfl | rfl | rfl
      · exact ⟨_, _, _, _, _, rfl, I1.out⟩
      · exact ⟨_, _, _, _, _, rfl, I2.out⟩
      · exact ⟨_, _, _, _, _, rfl, I3.out⟩
      · exact ⟨_, _, _, _, _, rfl, IQ.out⟩
      · exact ⟨_, _, _, _, _, rfl, IM.out⟩
    · intro x hx; cases hx
    · skip
      refine AllTold.cons rfl (fun β E W hA hF hc hf hE hV hP hB hS => Or.inl ⟨rfl, (by kernel_rfl), ?_⟩) ?_
      · clear hE hV hP hB hS
        exact ev_call0 (hf _) run_known2 ((known2_any W).mono fun e w' ⟨h1, h2⟩ => ⟨_, h1, rfl, h2⟩)
      refine AllTold.cons rfl (fun β E W hA hF hc hf hE hV hP hB hS => Or.inl ⟨rfl, (by kernel_rfl), ?_⟩) ?_
      · have e1 : E (.tmp 49) = (.bool true) := hV 0 49 (by kernel_rfl) rfl
        clear hE hV hP hB hS
        exact ev_not e1 rfl
      refine AllTold.cons rfl (fun β E W hA hF hc hf hE hV hP hB hS => Or.inl ⟨rfl, (by kernel_rfl), ?_⟩) ?_
      · have e1 : E (.tmp 50) = (.bool false) := hV 1 50 (by kernel_rfl) rfl
        clear hE hV hP hB hS
        exact ev_move _ e1
      refine AllTold.cons rfl (fun β E W hA hF hc hf hE hV hP hB hS => Or.inl ⟨wanted_of (d := 51) (b := false) rfl (by kernel_rfl) (hV 2 51 (by kernel_rfl) rfl), (by kernel_rfl), ?_⟩) ?_
      · have e1 : E (.tmp 11) = .pointer (some ⟨a, 0, none⟩) := hE 11 (by kernel_rfl)
        have q0 := hA.cell BA.out.1 (by intro h; cases h)
        have q1 := hA.cell BA.out.2.1 (by intro h; cases h)
        have q2 := hA.cell BA.out.2.2 (by intro h; cases h)
        clear hE hV hP hB hS
        exact ev_loadI e1 q0 q1 q2 (hF (_, _) (List.mem_cons_self ..))
      refine AllTold.cons rfl (fun β E W hA hF hc hf hE hV hP hB hS => Or.inl ⟨wanted_of (d := 51) (b := false) rfl (by kernel_rfl) (hV 2 51 (by kernel_rfl) rfl), (by kernel_rfl), ?_⟩) ?_
      · have e1 : E (.tmp 12) = .pointer (some ⟨b, 0, none⟩) := hE 12 (by kernel_rfl)
        have q0 := hA.cell BB.out.1 (by intro h; cases h)
        have q1 := hA.cell BB.out.2.1 (by intro h; cases h)
        have q2 := hA.cell BB.out.2.2 (by intro h; cases h)
        clear hE hV hP hB hS
        exact ev_loadI e1 q0 q1 q2 (hF (_, _) (List.mem_cons_of_mem _ (List.mem_cons_self ..)))
      refine AllTold.cons rfl (fun β E W hA hF hc hf hE hV hP hB hS => Or.inl ⟨wanted_of (d := 51) (b := false) rfl (by kernel_rfl) (hV 2 51 (by kernel_rfl) rfl), (by kernel_rfl), ?_⟩) ?_
      · have e1 : Means W (.int x) (E (.tmp 52)) := hV 3 52 (by kernel_rfl) rfl
        have e2 : Means W (.int 0) (E (.tmp 53)) := hV 4 53 (by kernel_rfl) rfl
        clear hE hV hP hB hS
        exact ev_call2 (hf _) run_iAdd ((iAdd_want W _ _ x 0 (by omega) (by omega) e1 e2).mono fun e w' ⟨v, h1, h2, h3⟩ => ⟨v, h1, h2, h3⟩)
      refine AllTold.cons rfl (fun β E W hA hF hc hf hE hV hP hB hS => Or.inl ⟨wanted_of (d := 51) (b := false) rfl (by kernel_rfl) (hV 2 51 (by kernel_rfl) rfl), (by kernel_rfl), ?_⟩) ?_
      · have e1 : E (.tmp 12) = .pointer (some ⟨b, 0, none⟩) := hE 12 (by kernel_rfl)
        have q0 := hA.cell BB.out.1 (by intro h; cases h)
        have q1 := hA.cell BB.out.2.1 (by intro h; cases h)
        have q2 := hA.cell BB.out.2.2 (by intro h; cases h)
        clear hE hV hP hB hS
        exact ev_loadI e1 q0 q1 q2 (hF (_, _) (List.mem_cons_of_mem _ (List.mem_cons_self ..)))
      refine AllTold.cons rfl (fun β E W hA hF hc hf hE hV hP hB hS => Or.inl ⟨wanted_of (d := 51) (b := false) rfl (by kernel_rfl) (hV 2 51 (by kernel_rfl) rfl), (by kernel_rfl), ?_⟩) ?_
      · have e1 : E (.tmp 11) = .pointer (some ⟨a, 0, none⟩) := hE 11 (by kernel_rfl)
        have q0 := hA.cell BA.out.1 (by intro h; cases h)
        have q1 := hA.cell BA.out.2.1 (by intro h; cases h)
        have q2 := hA.cell BA.out.2.2 (by intro h; cases h)
        clear hE hV hP hB hS
        exact ev_loadI e1 q0 q1 q2 (hF (_, _) (List.mem_cons_self ..))
      refine AllTold.cons rfl (fun β E W hA hF hc hf hE hV hP hB hS => Or.inl ⟨wanted_of (d := 51) (b := false) rfl (by kernel_rfl) (hV 2 51 (by kernel_rfl) rfl), (by kernel_rfl), ?_⟩) ?_
      · have e1 : Means W (.int 0) (E (.tmp 55)) := hV 6 55 (by kernel_rfl) rfl
        have e2 : Means W (.int x) (E (.tmp 56)) := hV 7 56 (by kernel_rfl) rfl
        clear hE hV hP hB hS
        exact ev_call2 (hf _) run_iAdd ((iAdd_want W _ _ 0 x (by omega) (by omega) e1 e2).mono fun e w' ⟨v, h1, h2, h3⟩ => ⟨v, h1, h2, h3⟩)
      refine AllTold.cons rfl (fun β E W hA hF hc hf hE hV hP hB hS => Or.inl ⟨wanted_of (d := 51) (b := false) rfl (by kernel_rfl) (hV 2 51 (by kernel_rfl) rfl), (by kernel_rfl), ?_⟩) ?_
      · have e1 : Means W (.int (x + 0)) (E (.tmp 54)) := hV 5 54 (by kernel_rfl) rfl
        have e2 : Means W (.int (0 + x)) (E (.tmp 57)) := hV 8 57 (by kernel_rfl) rfl
        clear hE hV hP hB hS
        exact ev_call2 (hf _) run_iCmp ((iCmp_val W _ _ (x + 0) (0 + x) 0 (cmp_same (by grind)) (by omega) (by omega) e1 e2).mono fun e w' ⟨v, h1, h2, h3⟩ => ⟨v, h1, h2, h3⟩)
      refine AllTold.cons rfl (fun β E W hA hF hc hf hE hV hP hB hS => Or.inl ⟨wanted_of (d := 51) (b := false) rfl (by kernel_rfl) (hV 2 51 (by kernel_rfl) rfl), (by kernel_rfl), ?_⟩) ?_
      · have e1 : E (.tmp 58) = (.int .i64 0) := hV 9 58 (by kernel_rfl) rfl
        clear hE hV hP hB hS
        exact ev_neq e1 (hc _) rfl
      refine AllTold.cons rfl (fun β E W hA hF hc hf hE hV hP hB hS => Or.inl ⟨rfl, (by kernel_rfl), ?_⟩) ?_
      · have e1 : E (.tmp 51) = (.bool false) := hV 2 51 (by kernel_rfl) rfl
        have e2 : E (.tmp 59) = (.bool false) := hV 10 59 (by kernel_rfl) rfl
        clear hE hV hP hB hS
        exact ev_pick e1 e2
      refine AllTold.cons rfl (fun β E W hA hF hc hf hE hV hP hB hS => Or.inl ⟨rfl, (by kernel_rfl), ?_⟩) ?_
      · have e1 : E (.tmp 60) = (.bool false) := hV 11 60 (by kernel_rfl) rfl
        clear hE hV hP hB hS
        exact ev_move _ e1
      refine AllTold.cons rfl (fun β E W hA hF hc hf hE hV hP hB hS => Or.inl ⟨wanted_of (d := 61) (b := false) rfl (by kernel_rfl) (hV 12 61 (by kernel_rfl) rfl), (by kernel_rfl), ?_⟩) ?_
      · have e1 : E (.tmp 11) = .pointer (some ⟨a, 0, none⟩) := hE 11 (by kernel_rfl)
        have q0 := hA.cell BA.out.1 (by intro h; cases h)
        have q1 := hA.cell BA.out.2.1 (by intro h; cases h)
        have q2 := hA.cell BA.out.2.2 (by intro h; cases h)
        clear hE hV hP hB hS
        exact ev_loadI e1 q0 q1 q2 (hF (_, _) (List.mem_cons_self ..))
      refine AllTold.cons rfl (fun β E W hA hF hc hf hE hV hP hB hS => Or.inl ⟨wanted_of (d := 61) (b := false) rfl (by kernel_rfl) (hV 12 61 (by kernel_rfl) rfl), (by kernel_rfl), ?_⟩) ?_
      · have e1 : E (.tmp 12) = .pointer (some ⟨b, 0, none⟩) := hE 12 (by kernel_rfl)
        have q0 := hA.cell BB.out.1 (by intro h; cases h)
        have q1 := hA.cell BB.out.2.1 (by intro h; cases h)
        have q2 := hA.cell BB.out.2.2 (by intro h; cases h)
        clear hE hV hP hB hS
        exact ev_loadI e1 q0 q1 q2 (hF (_, _) (List.mem_cons_of_mem _ (List.mem_cons_self ..)))
      refine AllTold.cons rfl (fun β E W hA hF hc hf hE hV hP hB hS => Or.inl ⟨wanted_of (d := 61) (b := false) rfl (by kernel_rfl) (hV 12 61 (by kernel_rfl) rfl), (by kernel_rfl), ?_⟩) ?_
      · have e1 : E (.tmp 15) = .pointer (some ⟨d', 0, none⟩) := hE 15 (by kernel_rfl)
        have q0 := hA.cell BC.out.1 (by intro h; cases h)
        have q1 := hA.cell BC.out.2.1 (by intro h; cases h)
        have q2 := hA.cell BC.out.2.2 (by intro h; cases h)
        clear hE hV hP hB hS
        exact ev_loadI e1 q0 q1 q2 (hF (_, _) (List.mem_cons_of_mem _ (List.mem_cons_of_mem _ (List.mem_cons_self ..))))
      refine AllTold.cons rfl (fun β E W hA hF hc hf hE hV hP hB hS => Or.inl ⟨wanted_of (d := 61) (b := false) rfl (by kernel_rfl) (hV 12 61 (by kernel_rfl) rfl), (by kernel_rfl), ?_⟩) ?_
      · have e1 : Means W (.int 0) (E (.tmp 63)) := hV 14 63 (by kernel_rfl) rfl
        have e2 : Means W (.int z) (E (.tmp 64)) := hV 15 64 (by kernel_rfl) rfl
        clear hE hV hP hB hS
        exact ev_call2 (hf _) run_iAdd ((iAdd_want W _ _ 0 z (by omega) (by omega) e1 e2).mono fun e w' ⟨v, h1, h2, h3⟩ => ⟨v, h1, h2, h3⟩)
      refine AllTold.cons rfl (fun β E W hA hF hc hf hE hV hP hB hS => Or.inl ⟨wanted_of (d := 61) (b := false) rfl (by kernel_rfl) (hV 12 61 (by kernel_rfl) rfl), (by kernel_rfl), ?_⟩) ?_
      · have e1 : Means W (.int x) (E (.tmp 62)) := hV 13 62 (by kernel_rfl) rfl
        have e2 : Means W (.int (0 + z)) (E (.tmp 65)) := hV 16 65 (by kernel_rfl) rfl
        clear hE hV hP hB hS
        exact ev_call2 (hf _) run_iMul ((iMul_want W _ _ x (0 + z) (by omega) (by omega) e1 e2).mono fun e w' ⟨v, h1, h2, h3⟩ => ⟨v, h1, h2, h3⟩)
      refine AllTold.cons rfl (fun β E W hA hF hc hf hE hV hP hB hS => Or.inl ⟨wanted_of (d := 61) (b := false) rfl (by kernel_rfl) (hV 12 61 (by kernel_rfl) rfl), (by kernel_rfl), ?_⟩) ?_
      · have e1 : E (.tmp 11) = .pointer (some ⟨a, 0, none⟩) := hE 11 (by kernel_rfl)
        have q0 := hA.cell BA.out.1 (by intro h; cases h)
        have q1 := hA.cell BA.out.2.1 (by intro h; cases h)
        have q2 := hA.cell BA.out.2.2 (by intro h; cases h)
        clear hE hV hP hB hS
        exact ev_loadI e1 q0 q1 q2 (hF (_, _) (List.mem_cons_self ..))
      refine AllTold.cons rfl (fun β E W hA hF hc hf hE hV hP hB hS => Or.inl ⟨wanted_of (d := 61) (b := false) rfl (by kernel_rfl) (hV 12 61 (by kernel_rfl) rfl), (by kernel_rfl), ?_⟩) ?_
      · have e1 : E (.tmp 12) = .pointer (some ⟨b, 0, none⟩) := hE 12 (by kernel_rfl)
        have q0 := hA.cell BB.out.1 (by intro h; cases h)
        have q1 := hA.cell BB.out.2.1 (by intro h; cases h)
        have q2 := hA.cell BB.out.2.2 (by intro h; cases h)
        clear hE hV hP hB hS
        exact ev_loadI e1 q0 q1 q2 (hF (_, _) (List.mem_cons_of_mem _ (List.mem_cons_self ..)))
      refine AllTold.cons rfl (fun β E W hA hF hc hf hE hV hP hB hS => Or.inl ⟨wanted_of (d := 61) (b := false) rfl (by kernel_rfl) (hV 12 61 (by kernel_rfl) rfl), (by kernel_rfl), ?_⟩) ?_
      · have e1 : Means W (.int x) (E (.tmp 67)) := hV 18 67 (by kernel_rfl) rfl
        have e2 : Means W (.int 0) (E (.tmp 68)) := hV 19 68 (by kernel_rfl) rfl
        clear hE hV hP hB hS
        exact ev_call2 (hf _) run_iMul ((iMul_want W _ _ x 0 (by omega) (by omega) e1 e2).mono fun e w' ⟨v, h1, h2, h3⟩ => ⟨v, h1, h2, h3⟩)
      refine AllTold.cons rfl (fun β E W hA hF hc hf hE hV hP hB hS => Or.inl ⟨wanted_of (d := 61) (b := false) rfl (by kernel_rfl) (hV 12 61 (by kernel_rfl) rfl), (by kernel_rfl), ?_⟩) ?_
      · have e1 : E (.tmp 11) = .pointer (some ⟨a, 0, none⟩) := hE 11 (by kernel_rfl)
        have q0 := hA.cell BA.out.1 (by intro h; cases h)
        have q1 := hA.cell BA.out.2.1 (by intro h; cases h)
        have q2 := hA.cell BA.out.2.2 (by intro h; cases h)
        clear hE hV hP hB hS
        exact ev_loadI e1 q0 q1 q2 (hF (_, _) (List.mem_cons_self ..))
      refine AllTold.cons rfl (fun β E W hA hF hc hf hE hV hP hB hS => Or.inl ⟨wanted_of (d := 61) (b := false) rfl (by kernel_rfl) (hV 12 61 (by kernel_rfl) rfl), (by kernel_rfl), ?_⟩) ?_
      · have e1 : E (.tmp 15) = .pointer (some ⟨d', 0, none⟩) := hE 15 (by kernel_rfl)
        have q0 := hA.cell BC.out.1 (by intro h; cases h)
        have q1 := hA.cell BC.out.2.1 (by intro h; cases h)
        have q2 := hA.cell BC.out.2.2 (by intro h; cases h)
        clear hE hV hP hB hS
        exact ev_loadI e1 q0 q1 q2 (hF (_, _) (List.mem_cons_of_mem _ (List.mem_cons_of_mem _ (List.mem_cons_self ..))))
      refine AllTold.cons rfl (fun β E W hA hF hc hf hE hV hP hB hS => Or.inl ⟨wanted_of (d := 61) (b := false) rfl (by kernel_rfl) (hV 12 61 (by kernel_rfl) rfl), (by kernel_rfl), ?_⟩) ?_
      · have e1 : Means W (.int x) (E (.tmp 70)) := hV 21 70 (by kernel_rfl) rfl
        have e2 : Means W (.int z) (E (.tmp 71)) := hV 22 71 (by kernel_rfl) rfl
        clear hE hV hP hB hS
        exact ev_call2 (hf _) run_iMul ((iMul_want W _ _ x z (by omega) (by omega) e1 e2).mono fun e w' ⟨v, h1, h2, h3⟩ => ⟨v, h1, h2, h3⟩)
      refine AllTold.cons rfl (fun β E W hA hF hc hf hE hV hP hB hS => Or.inl ⟨wanted_of (d := 61) (b := false) rfl (by kernel_rfl) (hV 12 61 (by kernel_rfl) rfl), (by kernel_rfl), ?_⟩) ?_
      · have e1 : Means W (.int (x * 0)) (E (.tmp 69)) := hV 20 69 (by kernel_rfl) rfl
        have e2 : Means W (.int (x * z)) (E (.tmp 72)) := hV 23 72 (by kernel_rfl) rfl
        clear hE hV hP hB hS
        exact ev_call2 (hf _) run_iAdd ((iAdd_want W _ _ (x * 0) (x * z) (by omega) (by omega) e1 e2).mono fun e w' ⟨v, h1, h2, h3⟩ => ⟨v, h1, h2, h3⟩)
      refine AllTold.cons rfl (fun β E W hA hF hc hf hE hV hP hB hS => Or.inl ⟨wanted_of (d := 61) (b := false) rfl (by kernel_rfl) (hV 12 61 (by kernel_rfl) rfl), (by kernel_rfl), ?_⟩) ?_
      · have e1 : Means W (.int (x * (0 + z))) (E (.tmp 66)) := hV 17 66 (by kernel_rfl) rfl
        have e2 : Means W (.int ((x * 0) + (x * z))) (E (.tmp 73)) := hV 24 73 (by kernel_rfl) rfl
        clear hE hV hP hB hS
        exact ev_call2 (hf _) run_iCmp ((iCmp_val W _ _ (x * (0 + z)) ((x * 0) + (x * z)) 0 (cmp_same (by grind)) (by omega) (by omega) e1 e2).mono fun e w' ⟨v, h1, h2, h3⟩ => ⟨v, h1, h2, h3⟩)
      refine AllTold.cons rfl (fun β E W hA hF hc hf hE hV hP hB hS => Or.inl ⟨wanted_of (d := 61) (b := false) rfl (by kernel_rfl) (hV 12 61 (by kernel_rfl) rfl), (by kernel_rfl), ?_⟩) ?_
      · have e1 : E (.tmp 74) = (.int .i64 0) := hV 25 74 (by kernel_rfl) rfl
        clear hE hV hP hB hS
        exact ev_neq e1 (hc _) rfl
      refine AllTold.cons rfl (fun β E W hA hF hc hf hE hV hP hB hS => Or.inl ⟨rfl, (by kernel_rfl), ?_⟩) ?_
      · have e1 : E (.tmp 61) = (.bool false) := hV 12 61 (by kernel_rfl) rfl
        have e2 : E (.tmp 75) = (.bool false) := hV 26 75 (by kernel_rfl) rfl
        clear hE hV hP hB hS
        exact ev_pick e1 e2
      refine AllTold.cons rfl (fun β E W hA hF hc hf hE hV hP hB hS => Or.inl ⟨rfl, (by kernel_rfl), ?_⟩) ?_
      · have e1 : E (.tmp 76) = (.bool false) := hV 27 76 (by kernel_rfl) rfl
        clear hE hV hP hB hS
        exact ev_move _ e1
      refine AllTold.cons rfl (fun β E W hA hF hc hf hE hV hP hB hS => Or.inl ⟨wanted_of (d := 77) (b := false) rfl (by kernel_rfl) (hV 28 77 (by kernel_rfl) rfl), (by kernel_rfl), ?_⟩) ?_
      · have e1 : E (.tmp 11) = .pointer (some ⟨a, 0, none⟩) := hE 11 (by kernel_rfl)
        have q0 := hA.cell BA.out.1 (by intro h; cases h)
        have q1 := hA.cell BA.out.2.1 (by intro h; cases h)
        have q2 := hA.cell BA.out.2.2 (by intro h; cases h)
        clear hE hV hP hB hS
        exact ev_loadI e1 q0 q1 q2 (hF (_, _) (List.mem_cons_self ..))
      refine AllTold.cons rfl (fun β E W hA hF hc hf hE hV hP hB hS => Or.inl ⟨wanted_of (d := 77) (b := false) rfl (by kernel_rfl) (hV 28 77 (by kernel_rfl) rfl), (by kernel_rfl), ?_⟩) ?_
      · have e1 : E (.tmp 12) = .pointer (some ⟨b, 0, none⟩) := hE 12 (by kernel_rfl)
        have q0 := hA.cell BB.out.1 (by intro h; cases h)
        have q1 := hA.cell BB.out.2.1 (by intro h; cases h)
        have q2 := hA.cell BB.out.2.2 (by intro h; cases h)
        clear hE hV hP hB hS
        exact ev_loadI e1 q0 q1 q2 (hF (_, _) (List.mem_cons_of_mem _ (List.mem_cons_self ..)))
      refine AllTold.cons rfl (fun β E W hA hF hc hf hE hV hP hB hS => Or.inl ⟨wanted_of (d := 77) (b := false) rfl (by kernel_rfl) (hV 28 77 (by kernel_rfl) rfl), (by kernel_rfl), ?_⟩) ?_
      · have e1 : Means W (.int x) (E (.tmp 78)) := hV 29 78 (by kernel_rfl) rfl
        have e2 : Means W (.int 0) (E (.tmp 79)) := hV 30 79 (by kernel_rfl) rfl
        clear hE hV hP hB hS
        exact ev_call2 (hf _) run_iSub ((iSub_want W _ _ x 0 (by omega) (by omega) e1 e2).mono fun e w' ⟨v, h1, h2, h3⟩ => ⟨v, h1, h2, h3⟩)
      refine AllTold.cons rfl (fun β E W hA hF hc hf hE hV hP hB hS => Or.inl ⟨wanted_of (d := 77) (b := false) rfl (by kernel_rfl) (hV 28 77 (by kernel_rfl) rfl), (by kernel_rfl), ?_⟩) ?_
      · have e1 : E (.tmp 12) = .pointer (some ⟨b, 0, none⟩) := hE 12 (by kernel_rfl)
        have q0 := hA.cell BB.out.1 (by intro h; cases h)
        have q1 := hA.cell BB.out.2.1 (by intro h; cases h)
        have q2 := hA.cell BB.out.2.2 (by intro h; cases h)
        clear hE hV hP hB hS
        exact ev_loadI e1 q0 q1 q2 (hF (_, _) (List.mem_cons_of_mem _ (List.mem_cons_self ..)))
      refine AllTold.cons rfl (fun β E W hA hF hc hf hE hV hP hB hS => Or.inl ⟨wanted_of (d := 77) (b := false) rfl (by kernel_rfl) (hV 28 77 (by kernel_rfl) rfl), (by kernel_rfl), ?_⟩) ?_
      · have e1 : Means W (.int (x - 0)) (E (.tmp 80)) := hV 31 80 (by kernel_rfl) rfl
        have e2 : Means W (.int 0) (E (.tmp 81)) := hV 32 81 (by kernel_rfl) rfl
        clear hE hV hP hB hS
        exact ev_call2 (hf _) run_iAdd ((iAdd_want W _ _ (x - 0) 0 (by omega) (by omega) e1 e2).mono fun e w' ⟨v, h1, h2, h3⟩ => ⟨v, h1, h2, h3⟩)
      refine AllTold.cons rfl (fun β E W hA hF hc hf hE hV hP hB hS => Or.inl ⟨wanted_of (d := 77) (b := false) rfl (by kernel_rfl) (hV 28 77 (by kernel_rfl) rfl), (by kernel_rfl), ?_⟩) ?_
      · have e1 : E (.tmp 11) = .pointer (some ⟨a, 0, none⟩) := hE 11 (by kernel_rfl)
        have q0 := hA.cell BA.out.1 (by intro h; cases h)
        have q1 := hA.cell BA.out.2.1 (by intro h; cases h)
        have q2 := hA.cell BA.out.2.2 (by intro h; cases h)
        clear hE hV hP hB hS
        exact ev_loadI e1 q0 q1 q2 (hF (_, _) (List.mem_cons_self ..))
      refine AllTold.cons rfl (fun β E W hA hF hc hf hE hV hP hB hS => Or.inl ⟨wanted_of (d := 77) (b := false) rfl (by kernel_rfl) (hV 28 77 (by kernel_rfl) rfl), (by kernel_rfl), ?_⟩) ?_
      · have e1 : Means W (.int ((x - 0) + 0)) (E (.tmp 82)) := hV 33 82 (by kernel_rfl) rfl
        have e2 : Means W (.int x) (E (.tmp 83)) := hV 34 83 (by kernel_rfl) rfl
        clear hE hV hP hB hS
        exact ev_call2 (hf _) run_iCmp ((iCmp_val W _ _ ((x - 0) + 0) x 0 (cmp_same (by grind)) (by omega) (by omega) e1 e2).mono fun e w' ⟨v, h1, h2, h3⟩ => ⟨v, h1, h2, h3⟩)
      refine AllTold.cons rfl (fun β E W hA hF hc hf hE hV hP hB hS => Or.inl ⟨wanted_of (d := 77) (b := false) rfl (by kernel_rfl) (hV 28 77 (by kernel_rfl) rfl), (by kernel_rfl), ?_⟩) ?_
      · have e1 : E (.tmp 84) = (.int .i64 0) := hV 35 84 (by kernel_rfl) rfl
        clear hE hV hP hB hS
        exact ev_neq e1 (hc _) rfl
      refine AllTold.cons rfl (fun β E W hA hF hc hf hE hV hP hB hS => Or.inl ⟨rfl, (by kernel_rfl), ?_⟩) ?_
      · have e1 : E (.tmp 77) = (.bool false) := hV 28 77 (by kernel_rfl) rfl
        have e2 : E (.tmp 85) = (.bool false) := hV 36 85 (by kernel_rfl) rfl
        clear hE hV hP hB hS
        exact ev_pick e1 e2
      refine AllTold.cons rfl (fun β E W hA hF hc hf hE hV hP hB hS => Or.inl ⟨rfl, (by kernel_rfl), ?_⟩) ?_
      · have e1 : E (.tmp 86) = (.bool false) := hV 37 86 (by kernel_rfl) rfl
        clear hE hV hP hB hS
        exact ev_move _ e1
      refine AllTold.cons rfl (fun β E W hA hF hc hf hE hV hP hB hS => Or.inl ⟨wanted_of (d := 87) (b := false) rfl (by kernel_rfl) (hV 38 87 (by kernel_rfl) rfl), (by kernel_rfl), ?_⟩) ?_
      · have e1 : E (.tmp 11) = .pointer (some ⟨a, 0, none⟩) := hE 11 (by kernel_rfl)
        have q0 := hA.cell BA.out.1 (by intro h; cases h)
        have q1 := hA.cell BA.out.2.1 (by intro h; cases h)
        have q2 := hA.cell BA.out.2.2 (by intro h; cases h)
        clear hE hV hP hB hS
        exact ev_loadI e1 q0 q1 q2 (hF (_, _) (List.mem_cons_self ..))
      refine AllTold.cons rfl (fun β E W hA hF hc hf hE hV hP hB hS => Or.inl ⟨wanted_of (d := 87) (b := false) rfl (by kernel_rfl) (hV 38 87 (by kernel_rfl) rfl), (by kernel_rfl), ?_⟩) ?_
      · have e1 : E (.tmp 12) = .pointer (some ⟨b, 0, none⟩) := hE 12 (by kernel_rfl)
        have q0 := hA.cell BB.out.1 (by intro h; cases h)
        have q1 := hA.cell BB.out.2.1 (by intro h; cases h)
        have q2 := hA.cell BB.out.2.2 (by intro h; cases h)
        clear hE hV hP hB hS
        exact ev_loadI e1 q0 q1 q2 (hF (_, _) (List.mem_cons_of_mem _ (List.mem_cons_self ..)))
      refine AllTold.cons rfl (fun β E W hA hF hc hf hE hV hP hB hS => Or.inl ⟨wanted_of (d := 87) (b := false) rfl (by kernel_rfl) (hV 38 87 (by kernel_rfl) rfl), (by kernel_rfl), ?_⟩) ?_
      · have e1 : Means W (.int x) (E (.tmp 88)) := hV 39 88 (by kernel_rfl) rfl
        have e2 : Means W (.int 0) (E (.tmp 89)) := hV 40 89 (by kernel_rfl) rfl
        clear hE hV hP hB hS
        exact ev_call2 (hf _) run_iMul ((iMul_want W _ _ x 0 (by omega) (by omega) e1 e2).mono fun e w' ⟨v, h1, h2, h3⟩ => ⟨v, h1, h2, h3⟩)
      refine AllTold.cons rfl (fun β E W hA hF hc hf hE hV hP hB hS => Or.inl ⟨wanted_of (d := 87) (b := false) rfl (by kernel_rfl) (hV 38 87 (by kernel_rfl) rfl), (by kernel_rfl), ?_⟩) ?_
      · have e1 : E (.tmp 15) = .pointer (some ⟨d', 0, none⟩) := hE 15 (by kernel_rfl)
        have q0 := hA.cell BC.out.1 (by intro h; cases h)
        have q1 := hA.cell BC.out.2.1 (by intro h; cases h)
        have q2 := hA.cell BC.out.2.2 (by intro h; cases h)
        clear hE hV hP hB hS
        exact ev_loadI e1 q0 q1 q2 (hF (_, _) (List.mem_cons_of_mem _ (List.mem_cons_of_mem _ (List.mem_cons_self ..))))
      refine AllTold.cons rfl (fun β E W hA hF hc hf hE hV hP hB hS => Or.inl ⟨wanted_of (d := 87) (b := false) rfl (by kernel_rfl) (hV 38 87 (by kernel_rfl) rfl), (by kernel_rfl), ?_⟩) ?_
      · have e1 : Means W (.int (x * 0)) (E (.tmp 90)) := hV 41 90 (by kernel_rfl) rfl
        have e2 : Means W (.int z) (E (.tmp 91)) := hV 42 91 (by kernel_rfl) rfl
        clear hE hV hP hB hS
        exact ev_call2 (hf _) run_iMul ((iMul_want W _ _ (x * 0) z (by omega) (by omega) e1 e2).mono fun e w' ⟨v, h1, h2, h3⟩ => ⟨v, h1, h2, h3⟩)
      refine AllTold.cons rfl (fun β E W hA hF hc hf hE hV hP hB hS => Or.inl ⟨wanted_of (d := 87) (b := false) rfl (by kernel_rfl) (hV 38 87 (by kernel_rfl) rfl), (by kernel_rfl), ?_⟩) ?_
      · have e1 : E (.tmp 15) = .pointer (some ⟨d', 0, none⟩) := hE 15 (by kernel_rfl)
        have q0 := hA.cell BC.out.1 (by intro h; cases h)
        have q1 := hA.cell BC.out.2.1 (by intro h; cases h)
        have q2 := hA.cell BC.out.2.2 (by intro h; cases h)
        clear hE hV hP hB hS
        exact ev_loadI e1 q0 q1 q2 (hF (_, _) (List.mem_cons_of_mem _ (List.mem_cons_of_mem _ (List.mem_cons_self ..))))
      refine AllTold.cons rfl (fun β E W hA hF hc hf hE hV hP hB hS => Or.inl ⟨wanted_of (d := 87) (b := false) rfl (by kernel_rfl) (hV 38 87 (by kernel_rfl) rfl), (by kernel_rfl), ?_⟩) ?_
      · have e1 : E (.tmp 12) = .pointer (some ⟨b, 0, none⟩) := hE 12 (by kernel_rfl)
        have q0 := hA.cell BB.out.1 (by intro h; cases h)
        have q1 := hA.cell BB.out.2.1 (by intro h; cases h)
        have q2 := hA.cell BB.out.2.2 (by intro h; cases h)
        clear hE hV hP hB hS
        exact ev_loadI e1 q0 q1 q2 (hF (_, _) (List.mem_cons_of_mem _ (List.mem_cons_self ..)))
      refine AllTold.cons rfl (fun β E W hA hF hc hf hE hV hP hB hS => Or.inl ⟨wanted_of (d := 87) (b := false) rfl (by kernel_rfl) (hV 38 87 (by kernel_rfl) rfl), (by kernel_rfl), ?_⟩) ?_
      · have e1 : Means W (.int z) (E (.tmp 93)) := hV 44 93 (by kernel_rfl) rfl
        have e2 : Means W (.int 0) (E (.tmp 94)) := hV 45 94 (by kernel_rfl) rfl
        clear hE hV hP hB hS
        exact ev_call2 (hf _) run_iMul ((iMul_want W _ _ z 0 (by omega) (by omega) e1 e2).mono fun e w' ⟨v, h1, h2, h3⟩ => ⟨v, h1, h2, h3⟩)
      refine AllTold.cons rfl (fun β E W hA hF hc hf hE hV hP hB hS => Or.inl ⟨wanted_of (d := 87) (b := false) rfl (by kernel_rfl) (hV 38 87 (by kernel_rfl) rfl), (by kernel_rfl), ?_⟩) ?_
      · have e1 : E (.tmp 11) = .pointer (some ⟨a, 0, none⟩) := hE 11 (by kernel_rfl)
        have q0 := hA.cell BA.out.1 (by intro h; cases h)
        have q1 := hA.cell BA.out.2.1 (by intro h; cases h)
        have q2 := hA.cell BA.out.2.2 (by intro h; cases h)
        clear hE hV hP hB hS
        exact ev_loadI e1 q0 q1 q2 (hF (_, _) (List.mem_cons_self ..))
      refine AllTold.cons rfl (fun β E W hA hF hc hf hE hV hP hB hS => Or.inl ⟨wanted_of (d := 87) (b := false) rfl (by kernel_rfl) (hV 38 87 (by kernel_rfl) rfl), (by kernel_rfl), ?_⟩) ?_
      · have e1 : Means W (.int (z * 0)) (E (.tmp 95)) := hV 46 95 (by kernel_rfl) rfl
        have e2 : Means W (.int x) (E (.tmp 96)) := hV 47 96 (by kernel_rfl) rfl
        clear hE hV hP hB hS
        exact ev_call2 (hf _) run_iMul ((iMul_want W _ _ (z * 0) x (by omega) (by omega) e1 e2).mono fun e w' ⟨v, h1, h2, h3⟩ => ⟨v, h1, h2, h3⟩)
      refine AllTold.cons rfl (fun β E W hA hF hc hf hE hV hP hB hS => Or.inl ⟨wanted_of (d := 87) (b := false) rfl (by kernel_rfl) (hV 38 87 (by kernel_rfl) rfl), (by kernel_rfl), ?_⟩) ?_
      · have e1 : Means W (.int ((x * 0) * z)) (E (.tmp 92)) := hV 43 92 (by kernel_rfl) rfl
        have e2 : Means W (.int ((z * 0) * x)) (E (.tmp 97)) := hV 48 97 (by kernel_rfl) rfl
        clear hE hV hP hB hS
        exact ev_call2 (hf _) run_iCmp ((iCmp_val W _ _ ((x * 0) * z) ((z * 0) * x) 0 (cmp_same (by grind)) (by omega) (by omega) e1 e2).mono fun e w' ⟨v, h1, h2, h3⟩ => ⟨v, h1, h2, h3⟩)
      refine AllTold.cons rfl (fun β E W hA hF hc hf hE hV hP hB hS => Or.inl ⟨wanted_of (d := 87) (b := false) rfl (by kernel_rfl) (hV 38 87 (by kernel_rfl) rfl), (by kernel_rfl), ?_⟩) ?_
      · have e1 : E (.tmp 98) = (.int .i64 0) := hV 49 98 (by kernel_rfl) rfl
        clear hE hV hP hB hS
        exact ev_neq e1 (hc _) rfl
      refine AllTold.cons rfl (fun β E W hA hF hc hf hE hV hP hB hS => Or.inl ⟨rfl, (by kernel_rfl), ?_⟩) ?_
      · have e1 : E (.tmp 87) = (.bool false) := hV 38 87 (by kernel_rfl) rfl
        have e2 : E (.tmp 99) = (.bool false) := hV 50 99 (by kernel_rfl) rfl
        clear hE hV hP hB hS
        exact ev_pick e1 e2
      refine AllTold.cons rfl (fun β E W hA hF hc hf hE hV hP hB hS => Or.inl ⟨rfl, (by kernel_rfl), ?_⟩) ?_
      · have e1 : E (.tmp 100) = (.bool false) := hV 51 100 (by kernel_rfl) rfl
        clear hE hV hP hB hS
        exact ev_move _ e1
      refine AllTold.cons rfl (fun β E W hA hF hc hf hE hV hP hB hS => Or.inl ⟨wanted_of (d := 101) (b := false) rfl (by kernel_rfl) (hV 52 101 (by kernel_rfl) rfl), (by kernel_rfl), ?_⟩) ?_
      · have e1 : E (.tmp 11) = .pointer (some ⟨a, 0, none⟩) := hE 11 (by kernel_rfl)
        have q0 := hA.cell BA.out.1 (by intro h; cases h)
        have q1 := hA.cell BA.out.2.1 (by intro h; cases h)
        have q2 := hA.cell BA.out.2.2 (by intro h; cases h)
        clear hE hV hP hB hS
        exact ev_loadI e1 q0 q1 q2 (hF (_, _) (List.mem_cons_self ..))
      refine AllTold.cons rfl (fun β E W hA hF hc hf hE hV hP hB hS => Or.inl ⟨wanted_of (d := 101) (b := false) rfl (by kernel_rfl) (hV 52 101 (by kernel_rfl) rfl), (by kernel_rfl), ?_⟩) ?_
      · have e1 : Means W (.int x) (E (.tmp 102)) := hV 53 102 (by kernel_rfl) rfl
        clear hE hV hP hB hS
        exact ev_call1 (hf _) run_iNeg ((iNeg_want W _ x e1).mono fun e w' ⟨v, h1, h2, h3⟩ => ⟨v, h1, h2, h3⟩)
      refine AllTold.cons rfl (fun β E W hA hF hc hf hE hV hP hB hS => Or.inl ⟨wanted_of (d := 101) (b := false) rfl (by kernel_rfl) (hV 52 101 (by kernel_rfl) rfl), (by kernel_rfl), ?_⟩) ?_
      · have e1 : Means W (.int (-x)) (E (.tmp 103)) := hV 54 103 (by kernel_rfl) rfl
        clear hE hV hP hB hS
        exact ev_call1 (hf _) run_iNeg ((iNeg_want W _ (-x) e1).mono fun e w' ⟨v, h1, h2, h3⟩ => ⟨v, h1, h2, h3⟩)
      refine AllTold.cons rfl (fun β E W hA hF hc hf hE hV hP hB hS => Or.inl ⟨wanted_of (d := 101) (b := false) rfl (by kernel_rfl) (hV 52 101 (by kernel_rfl) rfl), (by kernel_rfl), ?_⟩) ?_
      · have e1 : E (.tmp 11) = .pointer (some ⟨a, 0, none⟩) := hE 11 (by kernel_rfl)
        have q0 := hA.cell BA.out.1 (by intro h; cases h)
        have q1 := hA.cell BA.out.2.1 (by intro h; cases h)
        have q2 := hA.cell BA.out.2.2 (by intro h; cases h)
        clear hE hV hP hB hS
        exact ev_loadI e1 q0 q1 q2 (hF (_, _) (List.mem_cons_self ..))
      refine AllTold.cons rfl (fun β E W hA hF hc hf hE hV hP hB hS => Or.inl ⟨wanted_of (d := 101) (b := false) rfl (by kernel_rfl) (hV 52 101 (by kernel_rfl) rfl), (by kernel_rfl), ?_⟩) ?_
      · have e1 : Means W (.int (-(-x))) (E (.tmp 104)) := hV 55 104 (by kernel_rfl) rfl
        have e2 : Means W (.int x) (E (.tmp 105)) := hV 56 105 (by kernel_rfl) rfl
        clear hE hV hP hB hS
        exact ev_call2 (hf _) run_iCmp ((iCmp_val W _ _ (-(-x)) x 0 (cmp_same (by grind)) (by omega) (by omega) e1 e2).mono fun e w' ⟨v, h1, h2, h3⟩ => ⟨v, h1, h2, h3⟩)
      refine AllTold.cons rfl (fun β E W hA hF hc hf hE hV hP hB hS => Or.inl ⟨wanted_of (d := 101) (b := false) rfl (by kernel_rfl) (hV 52 101 (by kernel_rfl) rfl), (by kernel_rfl), ?_⟩) ?_
      · have e1 : E (.tmp 106) = (.int .i64 0) := hV 57 106 (by kernel_rfl) rfl
        clear hE hV hP hB hS
        exact ev_neq e1 (hc _) rfl
      refine AllTold.cons rfl (fun β E W hA hF hc hf hE hV hP hB hS => Or.inl ⟨rfl, (by kernel_rfl), ?_⟩) ?_
      · have e1 : E (.tmp 101) = (.bool false) := hV 52 101 (by kernel_rfl) rfl
        have e2 : E (.tmp 107) = (.bool false) := hV 58 107 (by kernel_rfl) rfl
        clear hE hV hP hB hS
        exact ev_pick e1 e2
      refine AllTold.cons rfl (fun β E W hA hF hc hf hE hV hP hB hS => Or.inl ⟨rfl, (by kernel_rfl), ?_⟩) ?_
      · have e1 : E (.tmp 108) = (.bool false) := hV 59 108 (by kernel_rfl) rfl
        clear hE hV hP hB hS
        exact ev_move _ e1
      refine AllTold.cons rfl (fun β E W hA hF hc hf hE hV hP hB hS => Or.inl ⟨wanted_of (d := 109) (b := false) rfl (by kernel_rfl) (hV 60 109 (by kernel_rfl) rfl), (by kernel_rfl), ?_⟩) ?_
      · have e1 : E (.tmp 21) = .bool false := hE 21 (by kernel_rfl)
        clear hE hV hP hB hS
        exact ev_move _ e1
      refine AllTold.cons rfl (fun β E W hA hF hc hf hE hV hP hB hS => Or.inl ⟨wanted_of (d := 109) (b := false) rfl (by kernel_rfl) (hV 60 109 (by kernel_rfl) rfl), (by kernel_rfl), ?_⟩) ?_
      · have e1 : E (.tmp 12) = .pointer (some ⟨b, 0, none⟩) := hE 12 (by kernel_rfl)
        have q0 := hA.cell BB.out.1 (by intro h; cases h)
        have q1 := hA.cell BB.out.2.1 (by intro h; cases h)
        have q2 := hA.cell BB.out.2.2 (by intro h; cases h)
        clear hE hV hP hB hS
        exact ev_loadI e1 q0 q1 q2 (hF (_, _) (List.mem_cons_of_mem _ (List.mem_cons_self ..)))
      refine AllTold.cons rfl (fun β E W hA hF hc hf hE hV hP hB hS => Or.inl ⟨wanted_of (d := 109) (b := false) rfl (by kernel_rfl) (hV 60 109 (by kernel_rfl) rfl), (by kernel_rfl), ?_⟩) ?_
      · have e1 : Means W (.int 0) (E (.tmp 111)) := hV 62 111 (by kernel_rfl) rfl
        clear hE hV hP hB hS
        exact ev_call1 (hf _) run_iSign ((iSign_val W _ 0 0 rfl e1).mono fun e w' ⟨v, h1, h2, h3⟩ => ⟨v, h1, h2, h3⟩)
      refine AllTold.cons rfl (fun β E W hA hF hc hf hE hV hP hB hS => Or.inl ⟨wanted_of (d := 109) (b := false) rfl (by kernel_rfl) (hV 60 109 (by kernel_rfl) rfl), (by kernel_rfl), ?_⟩) ?_
      · have e1 : E (.tmp 112) = (.int .i64 0) := hV 63 112 (by kernel_rfl) rfl
        clear hE hV hP hB hS
        exact ev_neq e1 (hc _) rfl
      refine AllTold.cons rfl (fun β E W hA hF hc hf hE hV hP hB hS => Or.inl ⟨wanted_of (d := 109) (b := false) rfl (by kernel_rfl) (hV 60 109 (by kernel_rfl) rfl), (by kernel_rfl), ?_⟩) ?_
      · have e1 : E (.tmp 110) = (.bool false) := hV 61 110 (by kernel_rfl) rfl
        have e2 : E (.tmp 113) = (.bool false) := hV 64 113 (by kernel_rfl) rfl
        clear hE hV hP hB hS
        exact ev_neqB e1 e2 rfl
      refine AllTold.cons rfl (fun β E W hA hF hc hf hE hV hP hB hS => Or.inl ⟨rfl, (by kernel_rfl), ?_⟩) ?_
      · have e1 : E (.tmp 109) = (.bool false) := hV 60 109 (by kernel_rfl) rfl
        have e2 : E (.tmp 114) = (.bool false) := hV 65 114 (by kernel_rfl) rfl
        clear hE hV hP hB hS
        exact ev_pick e1 e2
      exact AllTold.nil
    · intro β f' W' hf hS hN hA _ _ _ _
      have e115 : f' 115 = .bool false := hf (66, 115) (by simp)
      have I1 := Lib.hid (hN (_, _) (List.mem_cons_self ..)).isI; have I2 := Lib.hid (hN (_, _) (List.mem_cons_of_mem _ (List.mem_cons_self ..))).isI; have I3 := Lib.hid (hN (_, _) (List.mem_cons_of_mem _ (List.mem_cons_of_mem _ (List.mem_cons_self ..)))).isI; have IQ := Lib.hid (hN (_, _) (List.mem_cons_of_mem _ (List.mem_cons_of_mem _ (List.mem_cons_of_mem _ (List.mem_cons_self ..))))).isI; have IM := Lib.hid (hN (_, _) (List.mem_cons_of_mem _ (List.mem_cons_of_mem _ (List.mem_cons_of_mem _ (List.mem_cons_of_mem _ (List.mem_cons_self ..)))))).isI
      have BA := Lib.hid (BA.out.away hA (by intro h; cases h)); have BB := Lib.hid (BB.out.away hA (by intro h; cases h)); have BQ := Lib.hid (BQ.out.away hA (by intro h; cases h)); have BM := Lib.hid (BM.out.away hA (by intro h; cases h))
      have HB := Lib.hid (below_step HB.out hA.below0)
      clear hf hS hN hA BC
      simp only [fillSlots, e115, List.setIfInBounds_toArray, List.set_cons_succ, List.set_cons_zero]
      go_wp2
      refine region_told (T := [0, 1, 2, 3, 4, 5, 6, 7, 8, 9, 10, 11, 12, 13, 14, 15, 16, 17, 18, 19, 20, 21, 22, 23, 24, 25, 26, 27, 28, 29, 30, 31, 32]) (slots := [116, 117, 118, 119, 120, 121, 122, 123, 124, 125, 126, 127, 128, 129, 130, 131, 132, 133, 134, 135, 136, 137, 138, 139, 140, 141, 142, 143, 144, 145, 146, 147, 10])
          (tab := [.is (.bool false), .is (.bool true), .is (.bool true), .is undef, .is undef, .is undef, .is undef, .is undef, .is undef, .is undef, .is undef, .is undef, .is undef, .is undef, .is undef, .is undef, .is undef, .is undef, .is undef, .is undef, .is undef, .is undef, .is undef, .is undef, .is undef, .is undef, .is undef, .is undef, .is undef, .is undef, .is undef, .is (.bool true), .is (.bool true)])
          (D := [])
          (F := [(.agg #[.bool g1, .int .u64 s1, .slice p1 l1 c1], .int x), (.agg #[.bool g2, .int .u64 s2, .slice p2 l2 c2], .int 0), (.agg #[.bool g5, .int .u64 s5, .slice p5 l5 c5], .int z), (.agg #[.bool gq, .int .u64 sq', .slice pq lq cq], .int 0), (.agg #[.bool gm, .int .u64 sm', .slice pm lm cm], .int 0)])
          (by kernel_rfl) (by kernel_rfl) (by kernel_rfl) (by kernel_rfl) (by kernel_rfl) (by kernel_rfl) (by kernel_rfl) ?_ ?_ ?_ ?_ ?_
      · exact List.Pairwise.nil
      · intro f hf; simp only [List.mem_cons, List.not_mem_nil, or_false] at hf; rcases hf with rfl | rfl | rfl | rfl | rfl
        · exact ⟨_, _, _, _, _, rfl, I1.out⟩
        · exact ⟨_, _, _, _, _, rfl, I2.out⟩
        · exact ⟨_, _, _, _, _, rfl, I3.out⟩
        · exact ⟨_, _, _, _, _, rfl, IQ.out⟩
        · exact ⟨_, _, _, _, _, rfl, IM.out⟩
      · intro x hx; cases hx
      · skip
        refine AllTold.cons rfl (fun β E W hA hF hc hf hE hV hP hB hS => Or.inl ⟨rfl, (by kernel_rfl), ?_⟩) ?_
        · have e1 : E (.tmp 21) = .bool false := hE 21 (by kernel_rfl)
          clear hE hV hP hB hS
          exact ev_move _ e1
        refine AllTold.cons rfl (fun β E W hA hF hc hf hE hV hP hB hS => Or.inl ⟨rfl, (by kernel_rfl), ?_⟩) ?_
        · have e1 : E (.tmp 116) = (.bool false) := hV 0 116 (by kernel_rfl) rfl
          clear hE hV hP hB hS
          exact ev_not e1 rfl
        refine AllTold.cons rfl (fun β E W hA hF hc hf hE hV hP hB hS => Or.inl ⟨rfl, (by kernel_rfl), ?_⟩) ?_
        · have e1 : E (.tmp 117) = (.bool true) := hV 1 117 (by kernel_rfl) rfl
          clear hE hV hP hB hS
          exact ev_move _ e1
        refine AllTold.cons rfl (fun β E W hA hF hc hf hE hV hP hB hS => Or.inr (Or.inr (Or.inr ⟨wanted_not (d := 118) (b := false) rfl (by kernel_rfl) (hV 2 118 (by kernel_rfl) rfl), (by kernel_rfl), fun _ => rfl⟩))) ?_
        refine AllTold.cons rfl (fun β E W hA hF hc hf hE hV hP hB hS => Or.inr (Or.inr (Or.inr ⟨wanted_not (d := 118) (b := false) rfl (by kernel_rfl) (hV 2 118 (by kernel_rfl) rfl), (by kernel_rfl), fun _ => rfl⟩))) ?_
        refine AllTold.cons rfl (fun β E W hA hF hc hf hE hV hP hB hS => Or.inr (Or.inr (Or.inr ⟨wanted_not (d := 118) (b := false) rfl (by kernel_rfl) (hV 2 118 (by kernel_rfl) rfl), (by kernel_rfl), fun _ => rfl⟩))) ?_
        refine AllTold.cons rfl (fun β E W hA hF hc hf hE hV hP hB hS => Or.inr (Or.inr (Or.inr ⟨wanted_not (d := 118) (b := false) rfl (by kernel_rfl) (hV 2 118 (by kernel_rfl) rfl), (by kernel_rfl), fun _ => rfl⟩))) ?_
        refine AllTold.cons rfl (fun β E W hA hF hc hf hE hV hP hB hS => Or.inr (Or.inr (Or.inr ⟨wanted_not (d := 118) (b := false) rfl (by kernel_rfl) (hV 2 118 (by kernel_rfl) rfl), (by kernel_rfl), fun _ => rfl⟩))) ?_
        refine AllTold.cons rfl (fun β E W hA hF hc hf hE hV hP hB hS => Or.inr (Or.inr (Or.inr ⟨wanted_not (d := 118) (b := false) rfl (by kernel_rfl) (hV 2 118 (by kernel_rfl) rfl), (by kernel_rfl), fun _ => rfl⟩))) ?_
        refine AllTold.cons rfl (fun β E W hA hF hc hf hE hV hP hB hS => Or.inr (Or.inr (Or.inr ⟨wanted_not (d := 118) (b := false) rfl (by kernel_rfl) (hV 2 118 (by kernel_rfl) rfl), (by kernel_rfl), fun _ => rfl⟩))) ?_
        refine AllTold.cons rfl (fun β E W hA hF hc hf hE hV hP hB hS => Or.inr (Or.inr (Or.inr ⟨wanted_not (d := 118) (b := false) rfl (by kernel_rfl) (hV 2 118 (by kernel_rfl) rfl), (by kernel_rfl), fun _ => rfl⟩))) ?_
        refine AllTold.cons rfl (fun β E W hA hF hc hf hE hV hP hB hS => Or.inr (Or.inr (Or.inr ⟨wanted_not (d := 118) (b := false) rfl (by kernel_rfl) (hV 2 118 (by kernel_rfl) rfl), (by kernel_rfl), fun _ => rfl⟩))) ?_
        refine AllTold.cons rfl (fun β E W hA hF hc hf hE hV hP hB hS => Or.inr (Or.inr (Or.inr ⟨wanted_undef (d := 127) (b := true) rfl (by kernel_rfl) (hV 11 127 (by kernel_rfl) rfl), (by kernel_rfl), fun _ => rfl⟩))) ?_
        refine AllTold.cons rfl (fun β E W hA hF hc hf hE hV hP hB hS => Or.inr (Or.inr (Or.inr ⟨wanted_undef (d := 127) (b := true) rfl (by kernel_rfl) (hV 11 127 (by kernel_rfl) rfl), (by kernel_rfl), fun _ => rfl⟩))) ?_
        refine AllTold.cons rfl (fun β E W hA hF hc hf hE hV hP hB hS => Or.inr (Or.inr (Or.inr ⟨wanted_undef (d := 127) (b := true) rfl (by kernel_rfl) (hV 11 127 (by kernel_rfl) rfl), (by kernel_rfl), fun _ => rfl⟩))) ?_
        refine AllTold.cons rfl (fun β E W hA hF hc hf hE hV hP hB hS => Or.inr (Or.inr (Or.inr ⟨wanted_undef (d := 127) (b := true) rfl (by kernel_rfl) (hV 11 127 (by kernel_rfl) rfl), (by kernel_rfl), fun _ => rfl⟩))) ?_
        refine AllTold.cons rfl (fun β E W hA hF hc hf hE hV hP hB hS => Or.inr (Or.inr (Or.inr ⟨wanted_undef (d := 131) (b := false) rfl (by kernel_rfl) (hV 15 131 (by kernel_rfl) rfl), (by kernel_rfl), fun _ => rfl⟩))) ?_
        refine AllTold.cons rfl (fun β E W hA hF hc hf hE hV hP hB hS => Or.inr (Or.inr (Or.inr ⟨wanted_undef (d := 131) (b := false) rfl (by kernel_rfl) (hV 15 131 (by kernel_rfl) rfl), (by kernel_rfl), fun _ => rfl⟩))) ?_
        refine AllTold.cons rfl (fun β E W hA hF hc hf hE hV hP hB hS => Or.inr (Or.inr (Or.inr ⟨wanted_undef (d := 131) (b := false) rfl (by kernel_rfl) (hV 15 131 (by kernel_rfl) rfl), (by kernel_rfl), fun _ => rfl⟩))) ?_
        refine AllTold.cons rfl (fun β E W hA hF hc hf hE hV hP hB hS => Or.inr (Or.inr (Or.inr ⟨wanted_undef (d := 131) (b := false) rfl (by kernel_rfl) (hV 15 131 (by kernel_rfl) rfl), (by kernel_rfl), fun _ => rfl⟩))) ?_
        refine AllTold.cons rfl (fun β E W hA hF hc hf hE hV hP hB hS => Or.inr (Or.inr (Or.inr ⟨wanted_undef (d := 131) (b := false) rfl (by kernel_rfl) (hV 15 131 (by kernel_rfl) rfl), (by kernel_rfl), fun _ => rfl⟩))) ?_
        refine AllTold.cons rfl (fun β E W hA hF hc hf hE hV hP hB hS => Or.inr (Or.inr (Or.inr ⟨wanted_undef (d := 127) (b := true) rfl (by kernel_rfl) (hV 11 127 (by kernel_rfl) rfl), (by kernel_rfl), fun _ => rfl⟩))) ?_
        refine AllTold.cons rfl (fun β E W hA hF hc hf hE hV hP hB hS => Or.inr (Or.inr (Or.inr ⟨wanted_not (d := 118) (b := false) rfl (by kernel_rfl) (hV 2 118 (by kernel_rfl) rfl), (by kernel_rfl), fun _ => rfl⟩))) ?_
        refine AllTold.cons rfl (fun β E W hA hF hc hf hE hV hP hB hS => Or.inr (Or.inr (Or.inr ⟨wanted_not (d := 118) (b := false) rfl (by kernel_rfl) (hV 2 118 (by kernel_rfl) rfl), (by kernel_rfl), fun _ => rfl⟩))) ?_
        refine AllTold.cons rfl (fun β E W hA hF hc hf hE hV hP hB hS => Or.inr (Or.inr (Or.inr ⟨wanted_undef (d := 139) (b := true) rfl (by kernel_rfl) (hV 23 139 (by kernel_rfl) rfl), (by kernel_rfl), fun _ => rfl⟩))) ?_
        refine AllTold.cons rfl (fun β E W hA hF hc hf hE hV hP hB hS => Or.inr (Or.inr (Or.inr ⟨wanted_undef (d := 139) (b := true) rfl (by kernel_rfl) (hV 23 139 (by kernel_rfl) rfl), (by kernel_rfl), fun _ => rfl⟩))) ?_
        refine AllTold.cons rfl (fun β E W hA hF hc hf hE hV hP hB hS => Or.inr (Or.inr (Or.inr ⟨wanted_undef (d := 139) (b := true) rfl (by kernel_rfl) (hV 23 139 (by kernel_rfl) rfl), (by kernel_rfl), fun _ => rfl⟩))) ?_
        refine AllTold.cons rfl (fun β E W hA hF hc hf hE hV hP hB hS => Or.inr (Or.inr (Or.inr ⟨wanted_undef (d := 139) (b := true) rfl (by kernel_rfl) (hV 23 139 (by kernel_rfl) rfl), (by kernel_rfl), fun _ => rfl⟩))) ?_
        refine AllTold.cons rfl (fun β E W hA hF hc hf hE hV hP hB hS => Or.inr (Or.inr (Or.inr ⟨wanted_undef (d := 139) (b := true) rfl (by kernel_rfl) (hV 23 139 (by kernel_rfl) rfl), (by kernel_rfl), fun _ => rfl⟩))) ?_
        refine AllTold.cons rfl (fun β E W hA hF hc hf hE hV hP hB hS => Or.inr (Or.inr (Or.inr ⟨wanted_undef (d := 139) (b := true) rfl (by kernel_rfl) (hV 23 139 (by kernel_rfl) rfl), (by kernel_rfl), fun _ => rfl⟩))) ?_
        refine AllTold.cons rfl (fun β E W hA hF hc hf hE hV hP hB hS => Or.inr (Or.inr (Or.inr ⟨wanted_not (d := 118) (b := false) rfl (by kernel_rfl) (hV 2 118 (by kernel_rfl) rfl), (by kernel_rfl), fun _ => rfl⟩))) ?_
        refine AllTold.cons rfl (fun β E W hA hF hc hf hE hV hP hB hS => Or.inl ⟨rfl, (by kernel_rfl), ?_⟩) ?_
        · have e1 : E (.tmp 118) = (.bool true) := hV 2 118 (by kernel_rfl) rfl
          have e2 : E (.tmp 146) = undef := hV 30 146 (by kernel_rfl) rfl
          clear hE hV hP hB hS
          exact ev_pick e1 (hc _)
        refine AllTold.cons rfl (fun β E W hA hF hc hf hE hV hP hB hS => Or.inl ⟨rfl, (by kernel_rfl), ?_⟩) ?_
        · have e1 : E (.tmp 147) = (.bool true) := hV 31 147 (by kernel_rfl) rfl
          clear hE hV hP hB hS
          exact ev_assign _ e1
        exact AllTold.nil
      · intro β f' W' hf hS hN hA _ _ _ _
        have e10 : f' 10 = .bool true := hf (32, 10) (by simp)
        have HB := Lib.hid (below_step HB.out hA.below0)
        clear hf hS hN hA
        simp only [fillSlots, e10, List.setIfInBounds_toArray, List.set_cons_succ, List.set_cons_zero]
        go_wp2
        go_ret
        exact ⟨rfl, HB.out⟩
  · have HY0 := Lib.hid hy0
    have hsy : ((cmp3 y 0 : Int) == 0) = false := beq_eq_false_iff_ne.2 (by unfold cmp3; split <;> (try split) <;> omega)
    have QP := Lib.hid (qdiv_parts (x := x) hy0)
    have TD := Lib.hid (iDiv_any x y g1 g2 s1 s2 p1 p2 l1 c1 l2 c2 V2 hy0 (by omega) (by omega) I1.out I2.out)
    have sq : (ds (qdiv x y).natAbs).length ≤ 6 := by
      have h1 := QP.out
      have h2 : (qdiv x y).natAbs ≤ x.natAbs + 1 := by
        have h3 : (qdiv x y * y).natAbs ≤ x.natAbs + y.natAbs := by omega
        rw [Int.natAbs_mul] at h3
        rcases Nat.lt_or_ge (x.natAbs + 1) (qdiv x y).natAbs with h | h
        · have h4 : (x.natAbs + 2) * y.natAbs ≤ (qdiv x y).natAbs * y.natAbs := Nat.mul_le_mul_right _ h
          have h5 : x.natAbs * 1 ≤ x.natAbs * y.natAbs := Nat.mul_le_mul_left _ (by omega)
          rw [Nat.add_mul] at h4
          omega
        · exact h
      have h3 := ds_mono h2
      have h4 := ds_add x.natAbs 1
      have h5 : (ds 1).length = 1 := ds_one (by omega)
      omega
    have sr : (ds (qmod x y).natAbs).length ≤ 5 := by
      have h1 := QP.out
      have := ds_mono (by omega : (qmod x y).natAbs ≤ y.natAbs)
      omega
    have HSR := Lib.hid (show qmod x y ≠ 0 → cmp3 (qmod x y) 0 = cmp3 y 0 from fun h => by have := QP.out; unfold cmp3; split <;> split <;> (try split) <;> (try split) <;> omega)
    have HLT := Lib.hid (show ((qmod x y).natAbs : Int) < (y.natAbs : Int) by have := QP.out; omega)
    have HQ := Lib.hid (show qdiv x y * y + qmod x y = x from QP.out.1.symm)
    obtain ⟨Q, hQ⟩ : ∃ Q, Q = qdiv x y := ⟨_, rfl⟩
    obtain ⟨M, hM⟩ : ∃ M, M = qmod x y := ⟨_, rfl⟩
    rw [← hQ, ← hM] at TD
    rw [← hQ] at sq HQ
    rw [← hM] at sr HSR HLT HQ
    obtain ⟨sgy, hsg⟩ : ∃ s, s = cmp3 y 0 := ⟨_, rfl⟩
    rw [← hsg] at hsy HSR
    have HSG := Lib.hid hsg
    clear hQ hM hsg QP hy0
    refine TD.out.mono ?_
    rintro e w3 ⟨gq, sq', pq, lq, cq, gm, sm', pm, lm, cm, rfl, iq, im, hb⟩
    have I1 := Lib.hid (I1.out.mono hb); have I2 := Lib.hid (I2.out.mono hb); have I3 := Lib.hid (I3.out.mono hb); have HB := Lib.hid (below_step HB.out hb)
    have BA := Lib.hid (BA.out.mono hb); have BB := Lib.hid (BB.out.mono hb); have BC := Lib.hid (BC.out.mono hb)
    have IQ := Lib.hid iq; have IM := Lib.hid im
    clear iq im hb TD
    go_wp2
    obtain ⟨V3, t, u, hV, hu, ht, BQ, BM, hb⟩ := boxesI w3 gq gm sq' sm' pq pm lq cq lm cm
    rw [← hV, ← hu, ← ht]
    have BQ := Lib.hid BQ; have BM := Lib.hid BM
    have I1 := Lib.hid (I1.out.mono hb); have I2 := Lib.hid (I2.out.mono hb); have I3 := Lib.hid (I3.out.mono hb); have HB := Lib.hid (below_step HB.out hb)
    have BA := Lib.hid (BA.out.mono hb); have BB := Lib.hid (BB.out.mono hb); have BC := Lib.hid (BC.out.mono hb)
    have IQ := Lib.hid (IQ.out.mono hb); have IM := Lib.hid (IM.out.mono hb)
    clear hV hu ht hb
    have := ds_natAbs_add x y
    have := ds_natAbs_add y x
    have := ds_natAbs_add y z
    have := ds_natAbs_mul x (y + z)
    have := ds_natAbs_mul x y
    have := ds_natAbs_mul x z
    have := ds_natAbs_add (x * y) (x * z)
    have := ds_natAbs_sub x y
    have := ds_natAbs_add (x - y) y
    have := ds_natAbs_mul (x * y) z
    have := ds_natAbs_mul z y
    have := ds_natAbs_mul (z * y) x
    have := ds_neg x
    have := ds_neg (-x)
    refine region_told (T := [0, 1, 2, 3, 4, 5, 6, 7, 8, 9, 10, 11, 12, 13, 14, 15, 16, 17, 18, 19, 20, 21, 22, 23, 24, 25, 26, 27, 28, 29, 30, 31, 32, 33, 34, 35, 36, 37, 38, 39, 40, 41, 42, 43, 44, 45, 46, 47, 48, 49, 50, 51, 52, 53, 54, 55, 56, 57, 58, 59, 60, 61, 62, 63, 64, 65, 66]) (slots := [49, 50, 51, 52, 53, 54, 55, 56, 57, 58, 59, 60, 61, 62, 63, 64, 65, 66, 67, 68, 69, 70, 71, 72, 73, 74, 75, 76, 77, 78, 79, 80, 81, 82, 83, 84, 85, 86, 87, 88, 89, 90, 91, 92, 93, 94, 95, 96, 97, 98, 99, 100, 101, 102, 103, 104, 105, 106, 107, 108, 109, 110, 111, 112, 113, 114, 115])
        (tab := [.is (.bool true), .is (.bool false), .is (.bool false), .int x, .int y, .int (x + y), .int y, .int x, .int (y + x), .is (.int .i64 0), .is (.bool false), .is (.bool false), .is (.bool false), .int x, .int y, .int z, .int (y + z), .int (x * (y + z)), .int x, .int y, .int (x * y), .int x, .int z, .int (x * z), .int ((x * y) + (x * z)), .is (.int .i64 0), .is (.bool false), .is (.bool false), .is (.bool false), .int x, .int y, .int (x - y), .int y, .int ((x - y) + y), .int x, .is (.int .i64 0), .is (.bool false), .is (.bool false), .is (.bool false), .int x, .int y, .int (x * y), .int z, .int ((x * y) * z), .int z, .int y, .int (z * y), .int x, .int ((z * y) * x), .is (.int .i64 0), .is (.bool false), .is (.bool false), .is (.bool false), .int x, .int (-x), .int (-(-x)), .int x, .is (.int .i64 0), .is (.bool false), .is (.bool false), .is (.bool false), .is (.bool true), .int y, .is (.int .i64 sgy), .is (.bool true), .is (.bool false), .is (.bool false)])
        (D := [])
        (F := [(.agg #[.bool g1, .int .u64 s1, .slice p1 l1 c1], .int x), (.agg #[.bool g2, .int .u64 s2, .slice p2 l2 c2], .int y), (.agg #[.bool g5, .int .u64 s5, .slice p5 l5 c5], .int z), (.agg #[.bool gq, .int .u64 sq', .slice pq lq cq], .int Q), (.agg #[.bool gm, .int .u64 sm', .slice pm lm cm], .int M)])
        (by kernel_rfl) (by kernel_rfl) (by kernel_rfl) (by kernel_rfl) (by kernel_rfl) (by kernel_rfl) (by kernel_rfl) ?_ ?_ ?_ ?_ ?_
    · exact List.Pairwise.nil
    · intro f hf; simp only [List.mem_cons, List.not_mem_nil, or_false] at hf; rcases hf with rfl | rfl | rfl | rfl | rfl
      · exact ⟨_, _, _, _, _, rfl, I1.out⟩
      · exact ⟨_, _, _, _, _, rfl, I2.out⟩
      · exact ⟨_, _, _, _, _, rfl, I3.out⟩
      · exact ⟨_, _, _, _, _, rfl, IQ.out⟩
      · exact ⟨_, _, _, _, _, rfl, IM.out⟩
    · intro x hx; cases hx
    · skip
      refine AllTold.cons rfl (fun β E W hA hF hc hf hE hV hP hB hS => Or.inl ⟨rfl, (by kernel_rfl), ?_⟩) ?_
      · clear hE hV hP hB hS
        exact ev_call0 (hf _) run_known2 ((known2_any W).mono fun e w' ⟨h1, h2⟩ => ⟨_, h1, rfl, h2⟩)
      refine AllTold.cons rfl (fun β E W hA hF hc hf hE hV hP hB hS => Or.inl ⟨rfl, (by kernel_rfl), ?_⟩) ?_
      · have e1 : E (.tmp 49) = (.bool true) := hV 0 49 (by kernel_rfl) rfl
        clear hE hV hP hB hS
        exact ev_not e1 rfl
      refine AllTold.cons rfl (fun β E W hA hF hc hf hE hV hP hB hS => Or.inl ⟨rfl, (by kernel_rfl), ?_⟩) ?_
      · have e1 : E (.tmp 50) = (.bool false) := hV 1 50 (by kernel_rfl) rfl
        clear hE hV hP hB hS
        exact ev_move _ e1
      refine AllTold.cons rfl (fun β E W hA hF hc hf hE hV hP hB hS => Or.inl ⟨wanted_of (d := 51) (b := false) rfl (by kernel_rfl) (hV 2 51 (by kernel_rfl) rfl), (by kernel_rfl), ?_⟩) ?_
      · have e1 : E (.tmp 11) = .pointer (some ⟨a, 0, none⟩) := hE 11 (by kernel_rfl)
        have q0 := hA.cell BA.out.1 (by intro h; cases h)
        have q1 := hA.cell BA.out.2.1 (by intro h; cases h)
        have q2 := hA.cell BA.out.2.2 (by intro h; cases h)
        clear hE hV hP hB hS
        exact ev_loadI e1 q0 q1 q2 (hF (_, _) (List.mem_cons_self ..))
      refine AllTold.cons rfl (fun β E W hA hF hc hf hE hV hP hB hS => Or.inl ⟨wanted_of (d := 51) (b := false) rfl (by kernel_rfl) (hV 2 51 (by kernel_rfl) rfl), (by kernel_rfl), ?_⟩) ?_
      · have e1 : E (.tmp 12) = .pointer (some ⟨b, 0, none⟩) := hE 12 (by kernel_rfl)
        have q0 := hA.cell BB.out.1 (by intro h; cases h)
        have q1 := hA.cell BB.out.2.1 (by intro h; cases h)
        have q2 := hA.cell BB.out.2.2 (by intro h; cases h)
        clear hE hV hP hB hS
        exact ev_loadI e1 q0 q1 q2 (hF (_, _) (List.mem_cons_of_mem _ (List.mem_cons_self ..)))
      refine AllTold.cons rfl (fun β E W hA hF hc hf hE hV hP hB hS => Or.inl ⟨wanted_of (d := 51) (b := false) rfl (by kernel_rfl) (hV 2 51 (by kernel_rfl) rfl), (by kernel_rfl), ?_⟩) ?_
      · have e1 : Means W (.int x) (E (.tmp 52)) := hV 3 52 (by kernel_rfl) rfl
        have e2 : Means W (.int y) (E (.tmp 53)) := hV 4 53 (by kernel_rfl) rfl
        clear hE hV hP hB hS
        exact ev_call2 (hf _) run_iAdd ((iAdd_want W _ _ x y (by omega) (by omega) e1 e2).mono fun e w' ⟨v, h1, h2, h3⟩ => ⟨v, h1, h2, h3⟩)
      refine AllTold.cons rfl (fun β E W hA hF hc hf hE hV hP hB hS => Or.inl ⟨wanted_of (d := 51) (b := false) rfl (by kernel_rfl) (hV 2 51 (by kernel_rfl) rfl), (by kernel_rfl), ?_⟩) ?_
      · have e1 : E (.tmp 12) = .pointer (some ⟨b, 0, none⟩) := hE 12 (by kernel_rfl)
        have q0 := hA.cell BB.out.1 (by intro h; cases h)
        have q1 := hA.cell BB.out.2.1 (by intro h; cases h)
        have q2 := hA.cell BB.out.2.2 (by intro h; cases h)
        clear hE hV hP hB hS
        exact ev_loadI e1 q0 q1 q2 (hF (_, _) (List.mem_cons_of_mem _ (List.mem_cons_self ..)))
      refine AllTold.cons rfl (fun β E W hA hF hc hf hE hV hP hB hS => Or.inl ⟨wanted_of (d := 51) (b := false) rfl (by kernel_rfl) (hV 2 51 (by kernel_rfl) rfl), (by kernel_rfl), ?_⟩) ?_
      · have e1 : E (.tmp 11) = .pointer (some ⟨a, 0, none⟩) := hE 11 (by kernel_rfl)
        have q0 := hA.cell BA.out.1 (by intro h; cases h)
        have q1 := hA.cell BA.out.2.1 (by intro h; cases h)
        have q2 := hA.cell BA.out.2.2 (by intro h; cases h)
        clear hE hV hP hB hS
        exact ev_loadI e1 q0 q1 q2 (hF (_, _) (List.mem_cons_self ..))
      refine AllTold.cons rfl (fun β E W hA hF hc hf hE hV hP hB hS => Or.inl ⟨wanted_of (d := 51) (b := false) rfl (by kernel_rfl) (hV 2 51 (by kernel_rfl) rfl), (by kernel_rfl), ?_⟩) ?_
      · have e1 : Means W (.int y) (E (.tmp 55)) := hV 6 55 (by kernel_rfl) rfl
        have e2 : Means W (.int x) (E (.tmp 56)) := hV 7 56 (by kernel_rfl) rfl
        clear hE hV hP hB hS
        exact ev_call2 (hf _) run_iAdd ((iAdd_want W _ _ y x (by omega) (by omega) e1 e2).mono fun e w' ⟨v, h1, h2, h3⟩ => ⟨v, h1, h2, h3⟩)
      refine AllTold.cons rfl (fun β E W hA hF hc hf hE hV hP hB hS => Or.inl ⟨wanted_of (d := 51) (b := false) rfl (by kernel_rfl) (hV 2 51 (by kernel_rfl) rfl), (by kernel_rfl), ?_⟩) ?_
      · have e1 : Means W (.int (x + y)) (E (.tmp 54)) := hV 5 54 (by kernel_rfl) rfl
        have e2 : Means W (.int (y + x)) (E (.tmp 57)) := hV 8 57 (by kernel_rfl) rfl
        clear hE hV hP hB hS
        exact ev_call2 (hf _) run_iCmp ((iCmp_val W _ _ (x + y) (y + x) 0 (cmp_same (by grind)) (by omega) (by omega) e1 e2).mono fun e w' ⟨v, h1, h2, h3⟩ => ⟨v, h1, h2, h3⟩)
      refine AllTold.cons rfl (fun β E W hA hF hc hf hE hV hP hB hS => Or.inl ⟨wanted_of (d := 51) (b := false) rfl (by kernel_rfl) (hV 2 51 (by kernel_rfl) rfl), (by kernel_rfl), ?_⟩) ?_
      · have e1 : E (.tmp 58) = (.int .i64 0) := hV 9 58 (by kernel_rfl) rfl
        clear hE hV hP hB hS
        exact ev_neq e1 (hc _) rfl
      refine AllTold.cons rfl (fun β E W hA hF hc hf hE hV hP hB hS => Or.inl ⟨rfl, (by kernel_rfl), ?_⟩) ?_
      · have e1 : E (.tmp 51) = (.bool false) := hV 2 51 (by kernel_rfl) rfl
        have e2 : E (.tmp 59) = (.bool false) := hV 10 59 (by kernel_rfl) rfl
        clear hE hV hP hB hS
        exact ev_pick e1 e2
      refine AllTold.cons rfl (fun β E W hA hF hc hf hE hV hP hB hS => Or.inl ⟨rfl, (by kernel_rfl), ?_⟩) ?_
      · have e1 : E (.tmp 60) = (.bool false) := hV 11 60 (by kernel_rfl) rfl
        clear hE hV hP hB hS
        exact ev_move _ e1
      refine AllTold.cons rfl (fun β E W hA hF hc hf hE hV hP hB hS => Or.inl ⟨wanted_of (d := 61) (b := false) rfl (by kernel_rfl) (hV 12 61 (by kernel_rfl) rfl), (by kernel_rfl), ?_⟩) ?_
      · have e1 : E (.tmp 11) = .pointer (some ⟨a, 0, none⟩) := hE 11 (by kernel_rfl)
        have q0 := hA.cell BA.out.1 (by intro h; cases h)
        have q1 := hA.cell BA.out.2.1 (by intro h; cases h)
        have q2 := hA.cell BA.out.2.2 (by intro h; cases h)
        clear hE hV hP hB hS
        exact ev_loadI e1 q0 q1 q2 (hF (_, _) (List.mem_cons_self ..))
      refine AllTold.cons rfl (fun β E W hA hF hc hf hE hV hP hB hS => Or.inl ⟨wanted_of (d := 61) (b := false) rfl (by kernel_rfl) (hV 12 61 (by kernel_rfl) rfl), (by kernel_rfl), ?_⟩) ?_
      · have e1 : E (.tmp 12) = .pointer (some ⟨b, 0, none⟩) := hE 12 (by kernel_rfl)
        have q0 := hA.cell BB.out.1 (by intro h; cases h)
        have q1 := hA.cell BB.out.2.1 (by intro h; cases h)
        have q2 := hA.cell BB.out.2.2 (by intro h; cases h)
        clear hE hV hP hB hS
        exact ev_loadI e1 q0 q1 q2 (hF (_, _) (List.mem_cons_of_mem _ (List.mem_cons_self ..)))
      refine AllTold.cons rfl (fun β E W hA hF hc hf hE hV hP hB hS => Or.inl ⟨wanted_of (d := 61) (b := false) rfl (by kernel_rfl) (hV 12 61 (by kernel_rfl) rfl), (by kernel_rfl), ?_⟩) ?_
      · have e1 : E (.tmp 15) = .pointer (some ⟨d', 0, none⟩) := hE 15 (by kernel_rfl)
        have q0 := hA.cell BC.out.1 (by intro h; cases h)
        have q1 := hA.cell BC.out.2.1 (by intro h; cases h)
        have q2 := hA.cell BC.out.2.2 (by intro h; cases h)
        clear hE hV hP hB hS
        exact ev_loadI e1 q0 q1 q2 (hF (_, _) (List.mem_cons_of_mem _ (List.mem_cons_of_mem _ (List.mem_cons_self ..))))
      refine AllTold.cons rfl (fun β E W hA hF hc hf hE hV hP hB hS => Or.inl ⟨wanted_of (d := 61) (b := false) rfl (by kernel_rfl) (hV 12 61 (by kernel_rfl) rfl), (by kernel_rfl), ?_⟩) ?_
      · have e1 : Means W (.int y) (E (.tmp 63)) := hV 14 63 (by kernel_rfl) rfl
        have e2 : Means W (.int z) (E (.tmp 64)) := hV 15 64 (by kernel_rfl) rfl
        clear hE hV hP hB hS
        exact ev_call2 (hf _) run_iAdd ((iAdd_want W _ _ y z (by omega) (by omega) e1 e2).mono fun e w' ⟨v, h1, h2, h3⟩ => ⟨v, h1, h2, h3⟩)
      refine AllTold.cons rfl (fun β E W hA hF hc hf hE hV hP hB hS => Or.inl ⟨wanted_of (d := 61) (b := false) rfl (by kernel_rfl) (hV 12 61 (by kernel_rfl) rfl), (by kernel_rfl), ?_⟩) ?_
      · have e1 : Means W (.int x) (E (.tmp 62)) := hV 13 62 (by kernel_rfl) rfl
        have e2 : Means W (.int (y + z)) (E (.tmp 65)) := hV 16 65 (by kernel_rfl) rfl
        clear hE hV hP hB hS
        exact ev_call2 (hf _) run_iMul ((iMul_want W _ _ x (y + z) (by omega) (by omega) e1 e2).mono fun e w' ⟨v, h1, h2, h3⟩ => ⟨v, h1, h2, h3⟩)
      refine AllTold.cons rfl (fun β E W hA hF hc hf hE hV hP hB hS => Or.inl ⟨wanted_of (d := 61) (b := false) rfl (by kernel_rfl) (hV 12 61 (by kernel_rfl) rfl), (by kernel_rfl), ?_⟩) ?_
      · have e1 : E (.tmp 11) = .pointer (some ⟨a, 0, none⟩) := hE 11 (by kernel_rfl)
        have q0 := hA.cell BA.out.1 (by intro h; cases h)
        have q1 := hA.cell BA.out.2.1 (by intro h; cases h)
        have q2 := hA.cell BA.out.2.2 (by intro h; cases h)
        clear hE hV hP hB hS
        exact ev_loadI e1 q0 q1 q2 (hF (_, _) (List.mem_cons_self ..))
      refine AllTold.cons rfl (fun β E W hA hF hc hf hE hV hP hB hS => Or.inl ⟨wanted_of (d := 61) (b := false) rfl (by kernel_rfl) (hV 12 61 (by kernel_rfl) rfl), (by kernel_rfl), ?_⟩) ?_
      · have e1 : E (.tmp 12) = .pointer (some ⟨b, 0, none⟩) := hE 12 (by kernel_rfl)
        have q0 := hA.cell BB.out.1 (by intro h; cases h)
        have q1 := hA.cell BB.out.2.1 (by intro h; cases h)
        have q2 := hA.cell BB.out.2.2 (by intro h; cases h)
        clear hE hV hP hB hS
        exact ev_loadI e1 q0 q1 q2 (hF (_, _) (List.mem_cons_of_mem _ (List.mem_cons_self ..)))
      refine AllTold.cons rfl (fun β E W hA hF hc hf hE hV hP hB hS => Or.inl ⟨wanted_of (d := 61) (b := false) rfl (by kernel_rfl) (hV 12 61 (by kernel_rfl) rfl), (by kernel_rfl), ?_⟩) ?_
      · have e1 : Means W (.int x) (E (.tmp 67)) := hV 18 67 (by kernel_rfl) rfl
        have e2 : Means W (.int y) (E (.tmp 68)) := hV 19 68 (by kernel_rfl) rfl
        clear hE hV hP hB hS
        exact ev_call2 (hf _) run_iMul ((iMul_want W _ _ x y (by omega) (by omega) e1 e2).mono fun e w' ⟨v, h1, h2, h3⟩ => ⟨v, h1, h2, h3⟩)
      refine AllTold.cons rfl (fun β E W hA hF hc hf hE hV hP hB hS => Or.inl ⟨wanted_of (d := 61) (b := false) rfl (by kernel_rfl) (hV 12 61 (by kernel_rfl) rfl), (by kernel_rfl), ?_⟩) ?_
      · have e1 : E (.tmp 11) = .pointer (some ⟨a, 0, none⟩) := hE 11 (by kernel_rfl)
        have q0 := hA.cell BA.out.1 (by intro h; cases h)
        have q1 := hA.cell BA.out.2.1 (by intro h; cases h)
        have q2 := hA.cell BA.out.2.2 (by intro h; cases h)
        clear hE hV hP hB hS
        exact ev_loadI e1 q0 q1 q2 (hF (_, _) (List.mem_cons_self ..))
      refine AllTold.cons rfl (fun β E W hA hF hc hf hE hV hP hB hS => Or.inl ⟨wanted_of (d := 61) (b := false) rfl (by kernel_rfl) (hV 12 61 (by kernel_rfl) rfl), (by kernel_rfl), ?_⟩) ?_
      · have e1 : E (.tmp 15) = .pointer (some ⟨d', 0, none⟩) := hE 15 (by kernel_rfl)
        have q0 := hA.cell BC.out.1 (by intro h; cases h)
        have q1 := hA.cell BC.out.2.1 (by intro h; cases h)
        have q2 := hA.cell BC.out.2.2 (by intro h; cases h)
        clear hE hV hP hB hS
        exact ev_loadI e1 q0 q1 q2 (hF (_, _) (List.mem_cons_of_mem _ (List.mem_cons_of_mem _ (List.mem_cons_self ..))))
      refine AllTold.cons rfl (fun β E W hA hF hc hf hE hV hP hB hS => Or.inl ⟨wanted_of (d := 61) (b := false) rfl (by kernel_rfl) (hV 12 61 (by kernel_rfl) rfl), (by kernel_rfl), ?_⟩) ?_
      · have e1 : Means W (.int x) (E (.tmp 70)) := hV 21 70 (by kernel_rfl) rfl
        have e2 : Means W (.int z) (E (.tmp 71)) := hV 22 71 (by kernel_rfl) rfl
        clear hE hV hP hB hS
        exact ev_call2 (hf _) run_iMul ((iMul_want W _ _ x z (by omega) (by omega) e1 e2).mono fun e w' ⟨v, h1, h2, h3⟩ => ⟨v, h1, h2, h3⟩)
      refine AllTold.cons rfl (fun β E W hA hF hc hf hE hV hP hB hS => Or.inl ⟨wanted_of (d := 61) (b := false) rfl (by kernel_rfl) (hV 12 61 (by kernel_rfl) rfl), (by kernel_rfl), ?_⟩) ?_
      · have e1 : Means W (.int (x * y)) (E (.tmp 69)) := hV 20 69 (by kernel_rfl) rfl
        have e2 : Means W (.int (x * z)) (E (.tmp 72)) := hV 23 72 (by kernel_rfl) rfl
        clear hE hV hP hB hS
        exact ev_call2 (hf _) run_iAdd ((iAdd_want W _ _ (x * y) (x * z) (by omega) (by omega) e1 e2).mono fun e w' ⟨v, h1, h2, h3⟩ => ⟨v, h1, h2, h3⟩)
      refine AllTold.cons rfl (fun β E W hA hF hc hf hE hV hP hB hS => Or.inl ⟨wanted_of (d := 61) (b := false) rfl (by kernel_rfl) (hV 12 61 (by kernel_rfl) rfl), (by kernel_rfl), ?_⟩) ?_
      · have e1 : Means W (.int (x * (y + z))) (E (.tmp 66)) := hV 17 66 (by kernel_rfl) rfl
        have e2 : Means W (.int ((x * y) + (x * z))) (E (.tmp 73)) := hV 24 73 (by kernel_rfl) rfl
        clear hE hV hP hB hS
        exact ev_call2 (hf _) run_iCmp ((iCmp_val W _ _ (x * (y + z)) ((x * y) + (x * z)) 0 (cmp_same (by grind)) (by omega) (by omega) e1 e2).mono fun e w' ⟨v, h1, h2, h3⟩ => ⟨v, h1, h2, h3⟩)
      refine AllTold.cons rfl (fun β E W hA hF hc hf hE hV hP hB hS => Or.inl ⟨wanted_of (d := 61) (b := false) rfl (by kernel_rfl) (hV 12 61 (by kernel_rfl) rfl), (by kernel_rfl), ?_⟩) ?_
      · have e1 : E (.tmp 74) = (.int .i64 0) := hV 25 74 (by kernel_rfl) rfl
        clear hE hV hP hB hS
        exact ev_neq e1 (hc _) rfl
      refine AllTold.cons rfl (fun β E W hA hF hc hf hE hV hP hB hS => Or.inl ⟨rfl, (by kernel_rfl), ?_⟩) ?_
      · have e1 : E (.tmp 61) = (.bool false) := hV 12 61 (by kernel_rfl) rfl
        have e2 : E (.tmp 75) = (.bool false) := hV 26 75 (by kernel_rfl) rfl
        clear hE hV hP hB hS
        exact ev_pick e1 e2
      refine AllTold.cons rfl (fun β E W hA hF hc hf hE hV hP hB hS => Or.inl ⟨rfl, (by kernel_rfl), ?_⟩) ?_
      · have e1 : E (.tmp 76) = (.bool false) := hV 27 76 (by kernel_rfl) rfl
        clear hE hV hP hB hS
        exact ev_move _ e1
      refine AllTold.cons rfl (fun β E W hA hF hc hf hE hV hP hB hS => Or.inl ⟨wanted_of (d := 77) (b := false) rfl (by kernel_rfl) (hV 28 77 (by kernel_rfl) rfl), (by kernel_rfl), ?_⟩) ?_
      · have e1 : E (.tmp 11) = .pointer (some ⟨a, 0, none⟩) := hE 11 (by kernel_rfl)
        have q0 := hA.cell BA.out.1 (by intro h; cases h)
        have q1 := hA.cell BA.out.2.1 (by intro h; cases h)
        have q2 := hA.cell BA.out.2.2 (by intro h; cases h)
        clear hE hV hP hB hS
        exact ev_loadI e1 q0 q1 q2 (hF (_, _) (List.mem_cons_self ..))
      refine AllTold.cons rfl (fun β E W hA hF hc hf hE hV hP hB hS => Or.inl ⟨wanted_of (d := 77) (b := false) rfl (by kernel_rfl) (hV 28 77 (by kernel_rfl) rfl), (by kernel_rfl), ?_⟩) ?_
      · have e1 : E (.tmp 12) = .pointer (some ⟨b, 0, none⟩) := hE 12 (by kernel_rfl)
        have q0 := hA.cell BB.out.1 (by intro h; cases h)
        have q1 := hA.cell BB.out.2.1 (by intro h; cases h)
        have q2 := hA.cell BB.out.2.2 (by intro h; cases h)
        clear hE hV hP hB hS
        exact ev_loadI e1 q0 q1 q2 (hF (_, _) (List.mem_cons_of_mem _ (List.mem_cons_self ..)))
      refine AllTold.cons rfl (fun β E W hA hF hc hf hE hV hP hB hS => Or.inl ⟨wanted_of (d := 77) (b := false) rfl (by kernel_rfl) (hV 28 77 (by kernel_rfl) rfl), (by kernel_rfl), ?_⟩) ?_
      · have e1 : Means W (.int x) (E (.tmp 78)) := hV 29 78 (by kernel_rfl) rfl
        have e2 : Means W (.int y) (E (.tmp 79)) := hV 30 79 (by kernel_rfl) rfl
        clear hE hV hP hB hS
        exact ev_call2 (hf _) run_iSub ((iSub_want W _ _ x y (by omega) (by omega) e1 e2).mono fun e w' ⟨v, h1, h2, h3⟩ => ⟨v, h1, h2, h3⟩)
      refine AllTold.cons rfl (fun β E W hA hF hc hf hE hV hP hB hS => Or.inl ⟨wanted_of (d := 77) (b := false) rfl (by kernel_rfl) (hV 28 77 (by kernel_rfl) rfl), (by kernel_rfl), ?_⟩) ?_
      · have e1 : E (.tmp 12) = .pointer (some ⟨b, 0, none⟩) := hE 12 (by kernel_rfl)
        have q0 := hA.cell BB.out.1 (by intro h; cases h)
        have q1 := hA.cell BB.out.2.1 (by intro h; cases h)
        have q2 := hA.cell BB.out.2.2 (by intro h; cases h)
        clear hE hV hP hB hS
        exact ev_loadI e1 q0 q1 q2 (hF (_, _) (List.mem_cons_of_mem _ (List.mem_cons_self ..)))
      refine AllTold.cons rfl (fun β E W hA hF hc hf hE hV hP hB hS => Or.inl ⟨wanted_of (d := 77) (b := false) rfl (by kernel_rfl) (hV 28 77 (by kernel_rfl) rfl), (by kernel_rfl), ?_⟩) ?_
      · have e1 : Means W (.int (x - y)) (E (.tmp 80)) := hV 31 80 (by kernel_rfl) rfl
        have e2 : Means W (.int y) (E (.tmp 81)) := hV 32 81 (by kernel_rfl) rfl
        clear hE hV hP hB hS
        exact ev_call2 (hf _) run_iAdd ((iAdd_want W _ _ (x - y) y (by omega) (by omega) e1 e2).mono fun e w' ⟨v, h1, h2, h3⟩ => ⟨v, h1, h2, h3⟩)
      refine AllTold.cons rfl (fun β E W hA hF hc hf hE hV hP hB hS => Or.inl ⟨wanted_of (d := 77) (b := false) rfl (by kernel_rfl) (hV 28 77 (by kernel_rfl) rfl), (by kernel_rfl), ?_⟩) ?_
      · have e1 : E (.tmp 11) = .pointer (some ⟨a, 0, none⟩) := hE 11 (by kernel_rfl)
        have q0 := hA.cell BA.out.1 (by intro h; cases h)
        have q1 := hA.cell BA.out.2.1 (by intro h; cases h)
        have q2 := hA.cell BA.out.2.2 (by intro h; cases h)
        clear hE hV hP hB hS
        exact ev_loadI e1 q0 q1 q2 (hF (_, _) (List.mem_cons_self ..))
      refine AllTold.cons rfl (fun β E W hA hF hc hf hE hV hP hB hS => Or.inl ⟨wanted_of (d := 77) (b := false) rfl (by kernel_rfl) (hV 28 77 (by kernel_rfl) rfl), (by kernel_rfl), ?_⟩) ?_
      · have e1 : Means W (.int ((x - y) + y)) (E (.tmp 82)) := hV 33 82 (by kernel_rfl) rfl
        have e2 : Means W (.int x) (E (.tmp 83)) := hV 34 83 (by kernel_rfl) rfl
        clear hE hV hP hB hS
        exact ev_call2 (hf _) run_iCmp ((iCmp_val W _ _ ((x - y) + y) x 0 (cmp_same (by grind)) (by omega) (by omega) e1 e2).mono fun e w' ⟨v, h1, h2, h3⟩ => ⟨v, h1, h2, h3⟩)
      refine AllTold.cons rfl (fun β E W hA hF hc hf hE hV hP hB hS => Or.inl ⟨wanted_of (d := 77) (b := false) rfl (by kernel_rfl) (hV 28 77 (by kernel_rfl) rfl), (by kernel_rfl), ?_⟩) ?_
      · have e1 : E (.tmp 84) = (.int .i64 0) := hV 35 84 (by kernel_rfl) rfl
        clear hE hV hP hB hS
        exact ev_neq e1 (hc _) rfl
      refine AllTold.cons rfl (fun β E W hA hF hc hf hE hV hP hB hS => Or.inl ⟨rfl, (by kernel_rfl), ?_⟩) ?_
      · have e1 : E (.tmp 77) = (.bool false) := hV 28 77 (by kernel_rfl) rfl
        have e2 : E (.tmp 85) = (.bool false) := hV 36 85 (by kernel_rfl) rfl
        clear hE hV hP hB hS
        exact ev_pick e1 e2
      refine AllTold.cons rfl (fun β E W hA hF hc hf hE hV hP hB hS => Or.inl ⟨rfl, (by kernel_rfl), ?_⟩) ?_
      · have e1 : E (.tmp 86) = (.bool false) := hV 37 86 (by kernel_rfl) rfl
        clear hE hV hP hB hS
        exact ev_move _ e1
      refine AllTold.cons rfl (fun β E W hA hF hc hf hE hV hP hB hS => Or.inl ⟨wanted_of (d := 87) (b := false) rfl (by kernel_rfl) (hV 38 87 (by kernel_rfl) rfl), (by kernel_rfl), ?_⟩) ?_
      · have e1 : E (.tmp 11) = .pointer (some ⟨a, 0, none⟩) := hE 11 (by kernel_rfl)
        have q0 := hA.cell BA.out.1 (by intro h; cases h)
        have q1 := hA.cell BA.out.2.1 (by intro h; cases h)
        have q2 := hA.cell BA.out.2.2 (by intro h; cases h)
        clear hE hV hP hB hS
        exact ev_loadI e1 q0 q1 q2 (hF (_, _) (List.mem_cons_self ..))
      refine AllTold.cons rfl (fun β E W hA hF hc hf hE hV hP hB hS => Or.inl ⟨wanted_of (d := 87) (b := false) rfl (by kernel_rfl) (hV 38 87 (by kernel_rfl) rfl), (by kernel_rfl), ?_⟩) ?_
      · have e1 : E (.tmp 12) = .pointer (some ⟨b, 0, none⟩) := hE 12 (by kernel_rfl)
        have q0 := hA.cell BB.out.1 (by intro h; cases h)
        have q1 := hA.cell BB.out.2.1 (by intro h; cases h)
        have q2 := hA.cell BB.out.2.2 (by intro h; cases h)
        clear hE hV hP hB hS
        exact ev_loadI e1 q0 q1 q2 (hF (_, _) (List.mem_cons_of_mem _ (List.mem_cons_self ..)))
      refine AllTold.cons rfl (fun β E W hA hF hc hf hE hV hP hB hS => Or.inl ⟨wanted_of (d := 87) (b := false) rfl (by kernel_rfl) (hV 38 87 (by kernel_rfl) rfl), (by kernel_rfl), ?_⟩) ?_
      · have e1 : Means W (.int x) (E (.tmp 88)) := hV 39 88 (by kernel_rfl) rfl
        have e2 : Means W (.int y) (E (.tmp 89)) := hV 40 89 (by kernel_rfl) rfl
        clear hE hV hP hB hS
        exact ev_call2 (hf _) run_iMul ((iMul_want W _ _ x y (by omega) (by omega) e1 e2).mono fun e w' ⟨v, h1, h2, h3⟩ => ⟨v, h1, h2, h3⟩)
      refine AllTold.cons rfl (fun β E W hA hF hc hf hE hV hP hB hS => Or.inl ⟨wanted_of (d := 87) (b := false) rfl (by kernel_rfl) (hV 38 87 (by kernel_rfl) rfl), (by kernel_rfl), ?_⟩) ?_
      · have e1 : E (.tmp 15) = .pointer (some ⟨d', 0, none⟩) := hE 15 (by kernel_rfl)
        have q0 := hA.cell BC.out.1 (by intro h; cases h)
        have q1 := hA.cell BC.out.2.1 (by intro h; cases h)
        have q2 := hA.cell BC.out.2.2 (by intro h; cases h)
        clear hE hV hP hB hS
        exact ev_loadI e1 q0 q1 q2 (hF (_, _) (List.mem_cons_of_mem _ (List.mem_cons_of_mem _ (List.mem_cons_self ..))))
      refine AllTold.cons rfl (fun β E W hA hF hc hf hE hV hP hB hS => Or.inl ⟨wanted_of (d := 87) (b := false) rfl (by kernel_rfl) (hV 38 87 (by kernel_rfl) rfl), (by kernel_rfl), ?_⟩) ?_
      · have e1 : Means W (.int (x * y)) (E (.tmp 90)) := hV 41 90 (by kernel_rfl) rfl
        have e2 : Means W (.int z) (E (.tmp 91)) := hV 42 91 (by kernel_rfl) rfl
        clear hE hV hP hB hS
        exact ev_call2 (hf _) run_iMul ((iMul_want W _ _ (x * y) z (by omega) (by omega) e1 e2).mono fun e w' ⟨v, h1, h2, h3⟩ => ⟨v, h1, h2, h3⟩)
      refine AllTold.cons rfl (fun β E W hA hF hc hf hE hV hP hB hS => Or.inl ⟨wanted_of (d := 87) (b := false) rfl (by kernel_rfl) (hV 38 87 (by kernel_rfl) rfl), (by kernel_rfl), ?_⟩) ?_
      · have e1 : E (.tmp 15) = .pointer (some ⟨d', 0, none⟩) := hE 15 (by kernel_rfl)
        have q0 := hA.cell BC.out.1 (by intro h; cases h)
        have q1 := hA.cell BC.out.2.1 (by intro h; cases h)
        have q2 := hA.cell BC.out.2.2 (by intro h; cases h)
        clear hE hV hP hB hS
        exact ev_loadI e1 q0 q1 q2 (hF (_, _) (List.mem_cons_of_mem _ (List.mem_cons_of_mem _ (List.mem_cons_self ..))))
      refine AllTold.cons rfl (fun β E W hA hF hc hf hE hV hP hB hS => Or.inl ⟨wanted_of (d := 87) (b := false) rfl (by kernel_rfl) (hV 38 87 (by kernel_rfl) rfl), (by kernel_rfl), ?_⟩) ?_
      · have e1 : E (.tmp 12) = .pointer (some ⟨b, 0, none⟩) := hE 12 (by kernel_rfl)
        have q0 := hA.cell BB.out.1 (by intro h; cases h)
        have q1 := hA.cell BB.out.2.1 (by intro h; cases h)
        have q2 := hA.cell BB.out.2.2 (by intro h; cases h)
        clear hE hV hP hB hS
        exact ev_loadI e1 q0 q1 q2 (hF (_, _) (List.mem_cons_of_mem _ (List.mem_cons_self ..)))
      refine AllTold.cons rfl (fun β E W hA hF hc hf hE hV hP hB hS => Or.inl ⟨wanted_of (d := 87) (b := false) rfl (by kernel_rfl) (hV 38 87 (by kernel_rfl) rfl), (by kernel_rfl), ?_⟩) ?_
      · have e1 : Means W (.int z) (E (.tmp 93)) := hV 44 93 (by kernel_rfl) rfl
        have e2 : Means W (.int y) (E (.tmp 94)) := hV 45 94 (by kernel_rfl) rfl
        clear hE hV hP hB hS
        exact ev_call2 (hf _) run_iMul ((iMul_want W _ _ z y (by omega) (by omega) e1 e2).mono fun e w' ⟨v, h1, h2, h3⟩ => ⟨v, h1, h2, h3⟩)
      refine AllTold.cons rfl (fun β E W hA hF hc hf hE hV hP hB hS => Or.inl ⟨wanted_of (d := 87) (b := false) rfl (by kernel_rfl) (hV 38 87 (by kernel_rfl) rfl), (by kernel_rfl), ?_⟩) ?_
      · have e1 : E (.tmp 11) = .pointer (some ⟨a, 0, none⟩) := hE 11 (by kernel_rfl)
        have q0 := hA.cell BA.out.1 (by intro h; cases h)
        have q1 := hA.cell BA.out.2.1 (by intro h; cases h)
        have q2 := hA.cell BA.out.2.2 (by intro h; cases h)
        clear hE hV hP hB hS
        exact ev_loadI e1 q0 q1 q2 (hF (_, _) (List.mem_cons_self ..))
      refine AllTold.cons rfl (fun β E W hA hF hc hf hE hV hP hB hS => Or.inl ⟨wanted_of (d := 87) (b := false) rfl (by kernel_rfl) (hV 38 87 (by kernel_rfl) rfl), (by kernel_rfl), ?_⟩) ?_
      · have e1 : Means W (.int (z * y)) (E (.tmp 95)) := hV 46 95 (by kernel_rfl) rfl
        have e2 : Means W (.int x) (E (.tmp 96)) := hV 47 96 (by kernel_rfl) rfl
        clear hE hV hP hB hS
        exact ev_call2 (hf _) run_iMul ((iMul_want W _ _ (z * y) x (by omega) (by omega) e1 e2).mono fun e w' ⟨v, h1, h2, h3⟩ => ⟨v, h1, h2, h3⟩)
      refine AllTold.cons rfl (fun β E W hA hF hc hf hE hV hP hB hS => Or.inl ⟨wanted_of (d := 87) (b := false) rfl (by kernel_rfl) (hV 38 87 (by kernel_rfl) rfl), (by kernel_rfl), ?_⟩) ?_
      · have e1 : Means W (.int ((x * y) * z)) (E (.tmp 92)) := hV 43 92 (by kernel_rfl) rfl
        have e2 : Means W (.int ((z * y) * x)) (E (.tmp 97)) := hV 48 97 (by kernel_rfl) rfl
        clear hE hV hP hB hS
        exact ev_call2 (hf _) run_iCmp ((iCmp_val W _ _ ((x * y) * z) ((z * y) * x) 0 (cmp_same (by grind)) (by omega) (by omega) e1 e2).mono fun e w' ⟨v, h1, h2, h3⟩ => ⟨v, h1, h2, h3⟩)
      refine AllTold.cons rfl (fun β E W hA hF hc hf hE hV hP hB hS => Or.inl ⟨wanted_of (d := 87) (b := false) rfl (by kernel_rfl) (hV 38 87 (by kernel_rfl) rfl), (by kernel_rfl), ?_⟩) ?_
      · have e1 : E (.tmp 98) = (.int .i64 0) := hV 49 98 (by kernel_rfl) rfl
        clear hE hV hP hB hS
        exact ev_neq e1 (hc _) rfl
      refine AllTold.cons rfl (fun β E W hA hF hc hf hE hV hP hB hS => Or.inl ⟨rfl, (by kernel_rfl), ?_⟩) ?_
      · have e1 : E (.tmp 87) = (.bool false) := hV 38 87 (by kernel_rfl) rfl
        have e2 : E (.tmp 99) = (.bool false) := hV 50 99 (by kernel_rfl) rfl
        clear hE hV hP hB hS
        exact ev_pick e1 e2
      refine AllTold.cons rfl (fun β E W hA hF hc hf hE hV hP hB hS => Or.inl ⟨rfl, (by kernel_rfl), ?_⟩) ?_
      · have e1 : E (.tmp 100) = (.bool false) := hV 51 100 (by kernel_rfl) rfl
        clear hE hV hP hB hS
        exact ev_move _ e1
      refine AllTold.cons rfl (fun β E W hA hF hc hf hE hV hP hB hS => Or.inl ⟨wanted_of (d := 101) (b := false) rfl (by kernel_rfl) (hV 52 101 (by kernel_rfl) rfl), (by kernel_rfl), ?_⟩) ?_
      · have e1 : E (.tmp 11) = .pointer (some ⟨a, 0, none⟩) := hE 11 (by kernel_rfl)
        have q0 := hA.cell BA.out.1 (by intro h; cases h)
        have q1 := hA.cell BA.out.2.1 (by intro h; cases h)
        have q2 := hA.cell BA.out.2.2 (by intro h; cases h)
        clear hE hV hP hB hS
        exact ev_loadI e1 q0 q1 q2 (hF (_, _) (List.mem_cons_self ..))
      refine AllTold.cons rfl (fun β E W hA hF hc hf hE hV hP hB hS => Or.inl ⟨wanted_of (d := 101) (b := false) rfl (by kernel_rfl) (hV 52 101 (by kernel_rfl) rfl), (by kernel_rfl), ?_⟩) ?_
      · have e1 : Means W (.int x) (E (.tmp 102)) := hV 53 102 (by kernel_rfl) rfl
        clear hE hV hP hB hS
        exact ev_call1 (hf _) run_iNeg ((iNeg_want W _ x e1).mono fun e w' ⟨v, h1, h2, h3⟩ => ⟨v, h1, h2, h3⟩)
      refine AllTold.cons rfl (fun β E W hA hF hc hf hE hV hP hB hS => Or.inl ⟨wanted_of (d := 101) (b := false) rfl (by kernel_rfl) (hV 52 101 (by kernel_rfl) rfl), (by kernel_rfl), ?_⟩) ?_
      · have e1 : Means W (.int (-x)) (E (.tmp 103)) := hV 54 103 (by kernel_rfl) rfl
        clear hE hV hP hB hS
        exact ev_call1 (hf _) run_iNeg ((iNeg_want W _ (-x) e1).mono fun e w' ⟨v, h1, h2, h3⟩ => ⟨v, h1, h2, h3⟩)
      refine AllTold.cons rfl (fun β E W hA hF hc hf hE hV hP hB hS => Or.inl ⟨wanted_of (d := 101) (b := false) rfl (by kernel_rfl) (hV 52 101 (by kernel_rfl) rfl), (by kernel_rfl), ?_⟩) ?_
      · have e1 : E (.tmp 11) = .pointer (some ⟨a, 0, none⟩) := hE 11 (by kernel_rfl)
        have q0 := hA.cell BA.out.1 (by intro h; cases h)
        have q1 := hA.cell BA.out.2.1 (by intro h; cases h)
        have q2 := hA.cell BA.out.2.2 (by intro h; cases h)
        clear hE hV hP hB hS
        exact ev_loadI e1 q0 q1 q2 (hF (_, _) (List.mem_cons_self ..))
      refine AllTold.cons rfl (fun β E W hA hF hc hf hE hV hP hB hS => Or.inl ⟨wanted_of (d := 101) (b := false) rfl (by kernel_rfl) (hV 52 101 (by kernel_rfl) rfl), (by kernel_rfl), ?_⟩) ?_
      · have e1 : Means W (.int (-(-x))) (E (.tmp 104)) := hV 55 104 (by kernel_rfl) rfl
        have e2 : Means W (.int x) (E (.tmp 105)) := hV 56 105 (by kernel_rfl) rfl
        clear hE hV hP hB hS
        exact ev_call2 (hf _) run_iCmp ((iCmp_val W _ _ (-(-x)) x 0 (cmp_same (by grind)) (by omega) (by omega) e1 e2).mono fun e w' ⟨v, h1, h2, h3⟩ => ⟨v, h1, h2, h3⟩)
      refine AllTold.cons rfl (fun β E W hA hF hc hf hE hV hP hB hS => Or.inl ⟨wanted_of (d := 101) (b := false) rfl (by kernel_rfl) (hV 52 101 (by kernel_rfl) rfl), (by kernel_rfl), ?_⟩) ?_
      · have e1 : E (.tmp 106) = (.int .i64 0) := hV 57 106 (by kernel_rfl) rfl
        clear hE hV hP hB hS
        exact ev_neq e1 (hc _) rfl
      refine AllTold.cons rfl (fun β E W hA hF hc hf hE hV hP hB hS => Or.inl ⟨rfl, (by kernel_rfl), ?_⟩) ?_
      · have e1 : E (.tmp 101) = (.bool false) := hV 52 101 (by kernel_rfl) rfl
        have e2 : E (.tmp 107) = (.bool false) := hV 58 107 (by kernel_rfl) rfl
        clear hE hV hP hB hS
        exact ev_pick e1 e2
      refine AllTold.cons rfl (fun β E W hA hF hc hf hE hV hP hB hS => Or.inl ⟨rfl, (by kernel_rfl), ?_⟩) ?_
      · have e1 : E (.tmp 108) = (.bool false) := hV 59 108 (by kernel_rfl) rfl
        clear hE hV hP hB hS
        exact ev_move _ e1
      refine AllTold.cons rfl (fun β E W hA hF hc hf hE hV hP hB hS => Or.inl ⟨wanted_of (d := 109) (b := false) rfl (by kernel_rfl) (hV 60 109 (by kernel_rfl) rfl), (by kernel_rfl), ?_⟩) ?_
      · have e1 : E (.tmp 21) = .bool true := hE 21 (by kernel_rfl)
        clear hE hV hP hB hS
        exact ev_move _ e1
      refine AllTold.cons rfl (fun β E W hA hF hc hf hE hV hP hB hS => Or.inl ⟨wanted_of (d := 109) (b := false) rfl (by kernel_rfl) (hV 60 109 (by kernel_rfl) rfl), (by kernel_rfl), ?_⟩) ?_
      · have e1 : E (.tmp 12) = .pointer (some ⟨b, 0, none⟩) := hE 12 (by kernel_rfl)
        have q0 := hA.cell BB.out.1 (by intro h; cases h)
        have q1 := hA.cell BB.out.2.1 (by intro h; cases h)
        have q2 := hA.cell BB.out.2.2 (by intro h; cases h)
        clear hE hV hP hB hS
        exact ev_loadI e1 q0 q1 q2 (hF (_, _) (List.mem_cons_of_mem _ (List.mem_cons_self ..)))
      refine AllTold.cons rfl (fun β E W hA hF hc hf hE hV hP hB hS => Or.inl ⟨wanted_of (d := 109) (b := false) rfl (by kernel_rfl) (hV 60 109 (by kernel_rfl) rfl), (by kernel_rfl), ?_⟩) ?_
      · have e1 : Means W (.int y) (E (.tmp 111)) := hV 62 111 (by kernel_rfl) rfl
        clear hE hV hP hB hS
        exact ev_call1 (hf _) run_iSign ((iSign_val W _ y sgy HSG.out.symm e1).mono fun e w' ⟨v, h1, h2, h3⟩ => ⟨v, h1, h2, h3⟩)
      refine AllTold.cons rfl (fun β E W hA hF hc hf hE hV hP hB hS => Or.inl ⟨wanted_of (d := 109) (b := false) rfl (by kernel_rfl) (hV 60 109 (by kernel_rfl) rfl), (by kernel_rfl), ?_⟩) ?_
      · have e1 : E (.tmp 112) = (.int .i64 sgy) := hV 63 112 (by kernel_rfl) rfl
        clear hE hV hP hB hS
        exact ev_neq e1 (hc _) (by rw [bne, hsy]; rfl)
      refine AllTold.cons rfl (fun β E W hA hF hc hf hE hV hP hB hS => Or.inl ⟨wanted_of (d := 109) (b := false) rfl (by kernel_rfl) (hV 60 109 (by kernel_rfl) rfl), (by kernel_rfl), ?_⟩) ?_
      · have e1 : E (.tmp 110) = (.bool true) := hV 61 110 (by kernel_rfl) rfl
        have e2 : E (.tmp 113) = (.bool true) := hV 64 113 (by kernel_rfl) rfl
        clear hE hV hP hB hS
        exact ev_neqB e1 e2 rfl
      refine AllTold.cons rfl (fun β E W hA hF hc hf hE hV hP hB hS => Or.inl ⟨rfl, (by kernel_rfl), ?_⟩) ?_
      · have e1 : E (.tmp 109) = (.bool false) := hV 60 109 (by kernel_rfl) rfl
        have e2 : E (.tmp 114) = (.bool false) := hV 65 114 (by kernel_rfl) rfl
        clear hE hV hP hB hS
        exact ev_pick e1 e2
      exact AllTold.nil
    · intro β f' W' hf hS hN hA _ _ _ _
      have e115 : f' 115 = .bool false := hf (66, 115) (by simp)
      have I1 := Lib.hid (hN (_, _) (List.mem_cons_self ..)).isI; have I2 := Lib.hid (hN (_, _) (List.mem_cons_of_mem _ (List.mem_cons_self ..))).isI; have I3 := Lib.hid (hN (_, _) (List.mem_cons_of_mem _ (List.mem_cons_of_mem _ (List.mem_cons_self ..)))).isI; have IQ := Lib.hid (hN (_, _) (List.mem_cons_of_mem _ (List.mem_cons_of_mem _ (List.mem_cons_of_mem _ (List.mem_cons_self ..))))).isI; have IM := Lib.hid (hN (_, _) (List.mem_cons_of_mem _ (List.mem_cons_of_mem _ (List.mem_cons_of_mem _ (List.mem_cons_of_mem _ (List.mem_cons_self ..)))))).isI
      have BA := Lib.hid (BA.out.away hA (by intro h; cases h)); have BB := Lib.hid (BB.out.away hA (by intro h; cases h)); have BQ := Lib.hid (BQ.out.away hA (by intro h; cases h)); have BM := Lib.hid (BM.out.away hA (by intro h; cases h))
      have HB := Lib.hid (below_step HB.out hA.below0)
      clear hf hS hN hA BC
      simp only [fillSlots, e115, List.setIfInBounds_toArray, List.set_cons_succ, List.set_cons_zero]
      go_wp2
      by_cases hm0 : M = 0
      · have HM0 := Lib.hid (show cmp3 M 0 = 0 by rw [hm0]; exact cmp3_eq _)
        clear hm0
        have := ds_natAbs_mul Q y
        have := ds_natAbs_add (Q * y) M
        refine region_told (T := [0, 1, 2, 3, 4, 5, 6, 7, 8, 9, 10, 11, 12, 13, 14, 15, 16, 17, 18, 19, 20, 21, 22, 23, 24, 25, 26, 27, 28, 29, 30, 31, 32]) (slots := [116, 117, 118, 119, 120, 121, 122, 123, 124, 125, 126, 127, 128, 129, 130, 131, 132, 133, 134, 135, 136, 137, 138, 139, 140, 141, 142, 143, 144, 145, 146, 147, 10])
            (tab := [.is (.bool true), .is (.bool false), .is (.bool false), .int Q, .int y, .int (Q * y), .int M, .int ((Q * y) + M), .int x, .is (.int .i64 0), .is (.bool true), .is (.bool true), .int M, .is (.int .i64 0), .is (.bool true), .is (.bool true), .is undef, .is undef, .is undef, .is undef, .is undef, .is (.bool true), .is (.bool true), .is (.bool true), .int M, .num M.natAbs, .int y, .num y.natAbs, .is (.int .i64 (-1)), .is (.bool true), .is (.bool true), .is (.bool true), .is (.bool true)])
            (D := [])
            (F := [(.agg #[.bool g1, .int .u64 s1, .slice p1 l1 c1], .int x), (.agg #[.bool g2, .int .u64 s2, .slice p2 l2 c2], .int y), (.agg #[.bool g5, .int .u64 s5, .slice p5 l5 c5], .int z), (.agg #[.bool gq, .int .u64 sq', .slice pq lq cq], .int Q), (.agg #[.bool gm, .int .u64 sm', .slice pm lm cm], .int M)])
            (by kernel_rfl) (by kernel_rfl) (by kernel_rfl) (by kernel_rfl) (by kernel_rfl) (by kernel_rfl) (by kernel_rfl) ?_ ?_ ?_ ?_ ?_
        · exact List.Pairwise.nil
        · intro f hf; simp only [List.mem_cons, List.not_mem_nil, or_false] at hf; rcases hf with rfl | rfl | rfl | rfl | rfl
          · exact ⟨_, _, _, _, _, rfl, I1.out⟩
          · exact ⟨_, _, _, _, _, rfl, I2.out⟩
          · exact ⟨_, _, _, _, _, rfl, I3.out⟩
          · exact ⟨_, _, _, _, _, rfl, IQ.out⟩
          · exact ⟨_, _, _, _, _, rfl, IM.out⟩
        · intro x hx; cases hx
        · skip
          refine AllTold.cons rfl (fun β E W hA hF hc hf hE hV hP hB hS => Or.inl ⟨rfl, (by kernel_rfl), ?_⟩) ?_
          · have e1 : E (.tmp 21) = .bool true := hE 21 (by kernel_rfl)
            clear hE hV hP hB hS
            exact ev_move _ e1
          refine AllTold.cons rfl (fun β E W hA hF hc hf hE hV hP hB hS => Or.inl ⟨rfl, (by kernel_rfl), ?_⟩) ?_
          · have e1 : E (.tmp 116) = (.bool true) := hV 0 116 (by kernel_rfl) rfl
            clear hE hV hP hB hS
            exact ev_not e1 rfl
          refine AllTold.cons rfl (fun β E W hA hF hc hf hE hV hP hB hS => Or.inl ⟨rfl, (by kernel_rfl), ?_⟩) ?_
          · have e1 : E (.tmp 117) = (.bool false) := hV 1 117 (by kernel_rfl) rfl
            clear hE hV hP hB hS
            exact ev_move _ e1
          refine AllTold.cons rfl (fun β E W hA hF hc hf hE hV hP hB hS => Or.inl ⟨wanted_of (d := 118) (b := false) rfl (by kernel_rfl) (hV 2 118 (by kernel_rfl) rfl), (by kernel_rfl), ?_⟩) ?_
          · have e1 : E (.tmp 19) = .pointer (some ⟨t, 0, none⟩) := hE 19 (by kernel_rfl)
            have q0 := hA.cell BQ.out.1 (by intro h; cases h)
            have q1 := hA.cell BQ.out.2.1 (by intro h; cases h)
            have q2 := hA.cell BQ.out.2.2 (by intro h; cases h)
            clear hE hV hP hB hS
            exact ev_loadI e1 q0 q1 q2 (hF (_, _) (List.mem_cons_of_mem _ (List.mem_cons_of_mem _ (List.mem_cons_of_mem _ (List.mem_cons_self ..)))))
          refine AllTold.cons rfl (fun β E W hA hF hc hf hE hV hP hB hS => Or.inl ⟨wanted_of (d := 118) (b := false) rfl (by kernel_rfl) (hV 2 118 (by kernel_rfl) rfl), (by kernel_rfl), ?_⟩) ?_
          · have e1 : E (.tmp 12) = .pointer (some ⟨b, 0, none⟩) := hE 12 (by kernel_rfl)
            have q0 := hA.cell BB.out.1 (by intro h; cases h)
            have q1 := hA.cell BB.out.2.1 (by intro h; cases h)
            have q2 := hA.cell BB.out.2.2 (by intro h; cases h)
            clear hE hV hP hB hS
            exact ev_loadI e1 q0 q1 q2 (hF (_, _) (List.mem_cons_of_mem _ (List.mem_cons_self ..)))
          refine AllTold.cons rfl (fun β E W hA hF hc hf hE hV hP hB hS => Or.inl ⟨wanted_of (d := 118) (b := false) rfl (by kernel_rfl) (hV 2 118 (by kernel_rfl) rfl), (by kernel_rfl), ?_⟩) ?_
          · have e1 : Means W (.int Q) (E (.tmp 119)) := hV 3 119 (by kernel_rfl) rfl
            have e2 : Means W (.int y) (E (.tmp 120)) := hV 4 120 (by kernel_rfl) rfl
            clear hE hV hP hB hS
            exact ev_call2 (hf _) run_iMul ((iMul_want W _ _ Q y (by omega) (by omega) e1 e2).mono fun e w' ⟨v, h1, h2, h3⟩ => ⟨v, h1, h2, h3⟩)
          refine AllTold.cons rfl (fun β E W hA hF hc hf hE hV hP hB hS => Or.inl ⟨wanted_of (d := 118) (b := false) rfl (by kernel_rfl) (hV 2 118 (by kernel_rfl) rfl), (by kernel_rfl), ?_⟩) ?_
          · have e1 : E (.tmp 20) = .pointer (some ⟨u, 0, none⟩) := hE 20 (by kernel_rfl)
            have q0 := hA.cell BM.out.1 (by intro h; cases h)
            have q1 := hA.cell BM.out.2.1 (by intro h; cases h)
            have q2 := hA.cell BM.out.2.2 (by intro h; cases h)
            clear hE hV hP hB hS
            exact ev_loadI e1 q0 q1 q2 (hF (_, _) (List.mem_cons_of_mem _ (List.mem_cons_of_mem _ (List.mem_cons_of_mem _ (List.mem_cons_of_mem _ (List.mem_cons_self ..))))))
          refine AllTold.cons rfl (fun β E W hA hF hc hf hE hV hP hB hS => Or.inl ⟨wanted_of (d := 118) (b := false) rfl (by kernel_rfl) (hV 2 118 (by kernel_rfl) rfl), (by kernel_rfl), ?_⟩) ?_
          · have e1 : Means W (.int (Q * y)) (E (.tmp 121)) := hV 5 121 (by kernel_rfl) rfl
            have e2 : Means W (.int M) (E (.tmp 122)) := hV 6 122 (by kernel_rfl) rfl
            clear hE hV hP hB hS
            exact ev_call2 (hf _) run_iAdd ((iAdd_want W _ _ (Q * y) M (by omega) (by omega) e1 e2).mono fun e w' ⟨v, h1, h2, h3⟩ => ⟨v, h1, h2, h3⟩)
          refine AllTold.cons rfl (fun β E W hA hF hc hf hE hV hP hB hS => Or.inl ⟨wanted_of (d := 118) (b := false) rfl (by kernel_rfl) (hV 2 118 (by kernel_rfl) rfl), (by kernel_rfl), ?_⟩) ?_
          · have e1 : E (.tmp 11) = .pointer (some ⟨a, 0, none⟩) := hE 11 (by kernel_rfl)
            have q0 := hA.cell BA.out.1 (by intro h; cases h)
            have q1 := hA.cell BA.out.2.1 (by intro h; cases h)
            have q2 := hA.cell BA.out.2.2 (by intro h; cases h)
            clear hE hV hP hB hS
            exact ev_loadI e1 q0 q1 q2 (hF (_, _) (List.mem_cons_self ..))
          refine AllTold.cons rfl (fun β E W hA hF hc hf hE hV hP hB hS => Or.inl ⟨wanted_of (d := 118) (b := false) rfl (by kernel_rfl) (hV 2 118 (by kernel_rfl) rfl), (by kernel_rfl), ?_⟩) ?_
          · have e1 : Means W (.int ((Q * y) + M)) (E (.tmp 123)) := hV 7 123 (by kernel_rfl) rfl
            have e2 : Means W (.int x) (E (.tmp 124)) := hV 8 124 (by kernel_rfl) rfl
            clear hE hV hP hB hS
            exact ev_call2 (hf _) run_iCmp ((iCmp_val W _ _ ((Q * y) + M) x 0 (cmp_same HQ.out) (by omega) (by omega) e1 e2).mono fun e w' ⟨v, h1, h2, h3⟩ => ⟨v, h1, h2, h3⟩)
          refine AllTold.cons rfl (fun β E W hA hF hc hf hE hV hP hB hS => Or.inl ⟨wanted_of (d := 118) (b := false) rfl (by kernel_rfl) (hV 2 118 (by kernel_rfl) rfl), (by kernel_rfl), ?_⟩) ?_
          · have e1 : E (.tmp 125) = (.int .i64 0) := hV 9 125 (by kernel_rfl) rfl
            clear hE hV hP hB hS
            exact ev_eql e1 (hc _) rfl
          refine AllTold.cons rfl (fun β E W hA hF hc hf hE hV hP hB hS => Or.inl ⟨wanted_of (d := 118) (b := false) rfl (by kernel_rfl) (hV 2 118 (by kernel_rfl) rfl), (by kernel_rfl), ?_⟩) ?_
          · have e1 : E (.tmp 126) = (.bool true) := hV 10 126 (by kernel_rfl) rfl
            clear hE hV hP hB hS
            exact ev_move _ e1
          refine AllTold.cons rfl (fun β E W hA hF hc hf hE hV hP hB hS => Or.inl ⟨wanted_of (d := 127) (b := true) rfl (by kernel_rfl) (hV 11 127 (by kernel_rfl) rfl), (by kernel_rfl), ?_⟩) ?_
          · have e1 : E (.tmp 20) = .pointer (some ⟨u, 0, none⟩) := hE 20 (by kernel_rfl)
            have q0 := hA.cell BM.out.1 (by intro h; cases h)
            have q1 := hA.cell BM.out.2.1 (by intro h; cases h)
            have q2 := hA.cell BM.out.2.2 (by intro h; cases h)
            clear hE hV hP hB hS
            exact ev_loadI e1 q0 q1 q2 (hF (_, _) (List.mem_cons_of_mem _ (List.mem_cons_of_mem _ (List.mem_cons_of_mem _ (List.mem_cons_of_mem _ (List.mem_cons_self ..))))))
          refine AllTold.cons rfl (fun β E W hA hF hc hf hE hV hP hB hS => Or.inl ⟨wanted_of (d := 127) (b := true) rfl (by kernel_rfl) (hV 11 127 (by kernel_rfl) rfl), (by kernel_rfl), ?_⟩) ?_
          · have e1 : Means W (.int M) (E (.tmp 128)) := hV 12 128 (by kernel_rfl) rfl
            clear hE hV hP hB hS
            exact ev_call1 (hf _) run_iSign ((iSign_val W _ M 0 HM0.out e1).mono fun e w' ⟨v, h1, h2, h3⟩ => ⟨v, h1, h2, h3⟩)
          refine AllTold.cons rfl (fun β E W hA hF hc hf hE hV hP hB hS => Or.inl ⟨wanted_of (d := 127) (b := true) rfl (by kernel_rfl) (hV 11 127 (by kernel_rfl) rfl), (by kernel_rfl), ?_⟩) ?_
          · have e1 : E (.tmp 129) = (.int .i64 0) := hV 13 129 (by kernel_rfl) rfl
            clear hE hV hP hB hS
            exact ev_eql e1 (hc _) rfl
          refine AllTold.cons rfl (fun β E W hA hF hc hf hE hV hP hB hS => Or.inl ⟨wanted_of (d := 127) (b := true) rfl (by kernel_rfl) (hV 11 127 (by kernel_rfl) rfl), (by kernel_rfl), ?_⟩) ?_
          · have e1 : E (.tmp 130) = (.bool true) := hV 14 130 (by kernel_rfl) rfl
            clear hE hV hP hB hS
            exact ev_move _ e1
          refine AllTold.cons rfl (fun β E W hA hF hc hf hE hV hP hB hS => Or.inr (Or.inr (Or.inr ⟨wanted_not (d := 131) (b := false) rfl (by kernel_rfl) (hV 15 131 (by kernel_rfl) rfl), (by kernel_rfl), fun _ => rfl⟩))) ?_
          refine AllTold.cons rfl (fun β E W hA hF hc hf hE hV hP hB hS => Or.inr (Or.inr (Or.inr ⟨wanted_not (d := 131) (b := false) rfl (by kernel_rfl) (hV 15 131 (by kernel_rfl) rfl), (by kernel_rfl), fun _ => rfl⟩))) ?_
          refine AllTold.cons rfl (fun β E W hA hF hc hf hE hV hP hB hS => Or.inr (Or.inr (Or.inr ⟨wanted_not (d := 131) (b := false) rfl (by kernel_rfl) (hV 15 131 (by kernel_rfl) rfl), (by kernel_rfl), fun _ => rfl⟩))) ?_
          refine AllTold.cons rfl (fun β E W hA hF hc hf hE hV hP hB hS => Or.inr (Or.inr (Or.inr ⟨wanted_not (d := 131) (b := false) rfl (by kernel_rfl) (hV 15 131 (by kernel_rfl) rfl), (by kernel_rfl), fun _ => rfl⟩))) ?_
          refine AllTold.cons rfl (fun β E W hA hF hc hf hE hV hP hB hS => Or.inr (Or.inr (Or.inr ⟨wanted_not (d := 131) (b := false) rfl (by kernel_rfl) (hV 15 131 (by kernel_rfl) rfl), (by kernel_rfl), fun _ => rfl⟩))) ?_
          refine AllTold.cons rfl (fun β E W hA hF hc hf hE hV hP hB hS => Or.inl ⟨wanted_of (d := 127) (b := true) rfl (by kernel_rfl) (hV 11 127 (by kernel_rfl) rfl), (by kernel_rfl), ?_⟩) ?_
          · have e1 : E (.tmp 131) = (.bool true) := hV 15 131 (by kernel_rfl) rfl
            have e2 : E (.tmp 136) = undef := hV 20 136 (by kernel_rfl) rfl
            clear hE hV hP hB hS
            exact ev_pick e1 (hc _)
          refine AllTold.cons rfl (fun β E W hA hF hc hf hE hV hP hB hS => Or.inl ⟨wanted_of (d := 118) (b := false) rfl (by kernel_rfl) (hV 2 118 (by kernel_rfl) rfl), (by kernel_rfl), ?_⟩) ?_
          · have e1 : E (.tmp 127) = (.bool true) := hV 11 127 (by kernel_rfl) rfl
            have e2 : E (.tmp 137) = (.bool true) := hV 21 137 (by kernel_rfl) rfl
            clear hE hV hP hB hS
            exact ev_pick e1 e2
          refine AllTold.cons rfl (fun β E W hA hF hc hf hE hV hP hB hS => Or.inl ⟨wanted_of (d := 118) (b := false) rfl (by kernel_rfl) (hV 2 118 (by kernel_rfl) rfl), (by kernel_rfl), ?_⟩) ?_
          · have e1 : E (.tmp 138) = (.bool true) := hV 22 138 (by kernel_rfl) rfl
            clear hE hV hP hB hS
            exact ev_move _ e1
          refine AllTold.cons rfl (fun β E W hA hF hc hf hE hV hP hB hS => Or.inl ⟨wanted_of (d := 139) (b := true) rfl (by kernel_rfl) (hV 23 139 (by kernel_rfl) rfl), (by kernel_rfl), ?_⟩) ?_
          · have e1 : E (.tmp 20) = .pointer (some ⟨u, 0, none⟩) := hE 20 (by kernel_rfl)
            have q0 := hA.cell BM.out.1 (by intro h; cases h)
            have q1 := hA.cell BM.out.2.1 (by intro h; cases h)
            have q2 := hA.cell BM.out.2.2 (by intro h; cases h)
            clear hE hV hP hB hS
            exact ev_loadI e1 q0 q1 q2 (hF (_, _) (List.mem_cons_of_mem _ (List.mem_cons_of_mem _ (List.mem_cons_of_mem _ (List.mem_cons_of_mem _ (List.mem_cons_self ..))))))
          refine AllTold.cons rfl (fun β E W hA hF hc hf hE hV hP hB hS => Or.inl ⟨wanted_of (d := 139) (b := true) rfl (by kernel_rfl) (hV 23 139 (by kernel_rfl) rfl), (by kernel_rfl), ?_⟩) ?_
          · have e1 : Means W (.int M) (E (.tmp 140)) := hV 24 140 (by kernel_rfl) rfl
            clear hE hV hP hB hS
            exact ev_call1 (hf _) run_iAbs ((iAbs_want W _ M e1).mono fun e w' ⟨v, h1, h2, h3⟩ => ⟨v, h1, h2, h3⟩)
          refine AllTold.cons rfl (fun β E W hA hF hc hf hE hV hP hB hS => Or.inl ⟨wanted_of (d := 139) (b := true) rfl (by kernel_rfl) (hV 23 139 (by kernel_rfl) rfl), (by kernel_rfl), ?_⟩) ?_
          · have e1 : E (.tmp 12) = .pointer (some ⟨b, 0, none⟩) := hE 12 (by kernel_rfl)
            have q0 := hA.cell BB.out.1 (by intro h; cases h)
            have q1 := hA.cell BB.out.2.1 (by intro h; cases h)
            have q2 := hA.cell BB.out.2.2 (by intro h; cases h)
            clear hE hV hP hB hS
            exact ev_loadI e1 q0 q1 q2 (hF (_, _) (List.mem_cons_of_mem _ (List.mem_cons_self ..)))
          refine AllTold.cons rfl (fun β E W hA hF hc hf hE hV hP hB hS => Or.inl ⟨wanted_of (d := 139) (b := true) rfl (by kernel_rfl) (hV 23 139 (by kernel_rfl) rfl), (by kernel_rfl), ?_⟩) ?_
          · have e1 : Means W (.int y) (E (.tmp 142)) := hV 26 142 (by kernel_rfl) rfl
            clear hE hV hP hB hS
            exact ev_call1 (hf _) run_iAbs ((iAbs_want W _ y e1).mono fun e w' ⟨v, h1, h2, h3⟩ => ⟨v, h1, h2, h3⟩)
          refine AllTold.cons rfl (fun β E W hA hF hc hf hE hV hP hB hS => Or.inl ⟨wanted_of (d := 139) (b := true) rfl (by kernel_rfl) (hV 23 139 (by kernel_rfl) rfl), (by kernel_rfl), ?_⟩) ?_
          · have e1 : Means W (.num M.natAbs) (E (.tmp 141)) := hV 25 141 (by kernel_rfl) rfl
            have e2 : Means W (.num y.natAbs) (E (.tmp 143)) := hV 27 143 (by kernel_rfl) rfl
            clear hE hV hP hB hS
            exact ev_call2 (hf _) run_nCmp ((nCmp_val W _ _ M.natAbs y.natAbs (-1) (cmp3_lt HLT.out) (by omega) e1 e2).mono fun e w' ⟨v, h1, h2, h3⟩ => ⟨v, h1, h2, h3⟩)
          refine AllTold.cons rfl (fun β E W hA hF hc hf hE hV hP hB hS => Or.inl ⟨wanted_of (d := 139) (b := true) rfl (by kernel_rfl) (hV 23 139 (by kernel_rfl) rfl), (by kernel_rfl), ?_⟩) ?_
          · have e1 : E (.tmp 144) = (.int .i64 (-1)) := hV 28 144 (by kernel_rfl) rfl
            clear hE hV hP hB hS
            exact ev_lss e1 (hc _) rfl
          refine AllTold.cons rfl (fun β E W hA hF hc hf hE hV hP hB hS => Or.inl ⟨wanted_of (d := 118) (b := false) rfl (by kernel_rfl) (hV 2 118 (by kernel_rfl) rfl), (by kernel_rfl), ?_⟩) ?_
          · have e1 : E (.tmp 139) = (.bool true) := hV 23 139 (by kernel_rfl) rfl
            have e2 : E (.tmp 145) = (.bool true) := hV 29 145 (by kernel_rfl) rfl
            clear hE hV hP hB hS
            exact ev_pick e1 e2
          refine AllTold.cons rfl (fun β E W hA hF hc hf hE hV hP hB hS => Or.inl ⟨rfl, (by kernel_rfl), ?_⟩) ?_
          · have e1 : E (.tmp 118) = (.bool false) := hV 2 118 (by kernel_rfl) rfl
            have e2 : E (.tmp 146) = (.bool true) := hV 30 146 (by kernel_rfl) rfl
            clear hE hV hP hB hS
            exact ev_pick e1 e2
          refine AllTold.cons rfl (fun β E W hA hF hc hf hE hV hP hB hS => Or.inl ⟨rfl, (by kernel_rfl), ?_⟩) ?_
          · have e1 : E (.tmp 147) = (.bool true) := hV 31 147 (by kernel_rfl) rfl
            clear hE hV hP hB hS
            exact ev_assign _ e1
          exact AllTold.nil
        · intro β f' W' hf hS hN hA _ _ _ _
          have e10 : f' 10 = .bool true := hf (32, 10) (by simp)
          have HB := Lib.hid (below_step HB.out hA.below0)
          clear hf hS hN hA
          simp only [fillSlots, e10, List.setIfInBounds_toArray, List.set_cons_succ, List.set_cons_zero]
          go_wp2
          go_ret
          exact ⟨rfl, HB.out⟩
      · have HM0 := Lib.hid (HSR.out hm0)
        clear hm0
        have := ds_natAbs_mul Q y
        have := ds_natAbs_add (Q * y) M
        refine region_told (T := [0, 1, 2, 3, 4, 5, 6, 7, 8, 9, 10, 11, 12, 13, 14, 15, 16, 17, 18, 19, 20, 21, 22, 23, 24, 25, 26, 27, 28, 29, 30, 31, 32]) (slots := [116, 117, 118, 119, 120, 121, 122, 123, 124, 125, 126, 127, 128, 129, 130, 131, 132, 133, 134, 135, 136, 137, 138, 139, 140, 141, 142, 143, 144, 145, 146, 147, 10])
            (tab := [.is (.bool true), .is (.bool false), .is (.bool false), .int Q, .int y, .int (Q * y), .int M, .int ((Q * y) + M), .int x, .is (.int .i64 0), .is (.bool true), .is (.bool true), .int M, .is (.int .i64 sgy), .is (.bool false), .is (.bool false), .int M, .is (.int .i64 sgy), .int y, .is (.int .i64 sgy), .is (.bool true), .is (.bool true), .is (.bool true), .is (.bool true), .int M, .num M.natAbs, .int y, .num y.natAbs, .is (.int .i64 (-1)), .is (.bool true), .is (.bool true), .is (.bool true), .is (.bool true)])
            (D := [])
            (F := [(.agg #[.bool g1, .int .u64 s1, .slice p1 l1 c1], .int x), (.agg #[.bool g2, .int .u64 s2, .slice p2 l2 c2], .int y), (.agg #[.bool g5, .int .u64 s5, .slice p5 l5 c5], .int z), (.agg #[.bool gq, .int .u64 sq', .slice pq lq cq], .int Q), (.agg #[.bool gm, .int .u64 sm', .slice pm lm cm], .int M)])
            (by kernel_rfl) (by kernel_rfl) (by kernel_rfl) (by kernel_rfl) (by kernel_rfl) (by kernel_rfl) (by kernel_rfl) ?_ ?_ ?_ ?_ ?_
        · exact List.Pairwise.nil
        · intro f hf; simp only [List.mem_cons, List.not_mem_nil, or_false] at hf; rcases hf with rfl | rfl | rfl | rfl | rfl
          · exact ⟨_, _, _, _, _, rfl, I1.out⟩
          · exact ⟨_, _, _, _, _, rfl, I2.out⟩
          · exact ⟨_, _, _, _, _, rfl, I3.out⟩
          · exact ⟨_, _, _, _, _, rfl, IQ.out⟩
          · exact ⟨_, _, _, _, _, rfl, IM.out⟩
        · intro x hx; cases hx
        · skip
          refine AllTold.cons rfl (fun β E W hA hF hc hf hE hV hP hB hS => Or.inl ⟨rfl, (by kernel_rfl), ?_⟩) ?_
          · have e1 : E (.tmp 21) = .bool true := hE 21 (by kernel_rfl)
            clear hE hV hP hB hS
            exact ev_move _ e1
          refine AllTold.cons rfl (fun β E W hA hF hc hf hE hV hP hB hS => Or.inl ⟨rfl, (by kernel_rfl), ?_⟩) ?_
          · have e1 : E (.tmp 116) = (.bool true) := hV 0 116 (by kernel_rfl) rfl
            clear hE hV hP hB hS
            exact ev_not e1 rfl
          refine AllTold.cons rfl (fun β E W hA hF hc hf hE hV hP hB hS => Or.inl ⟨rfl, (by kernel_rfl), ?_⟩) ?_
          · have e1 : E (.tmp 117) = (.bool false) := hV 1 117 (by kernel_rfl) rfl
            clear hE hV hP hB hS
            exact ev_move _ e1
          refine AllTold.cons rfl (fun β E W hA hF hc hf hE hV hP hB hS => Or.inl ⟨wanted_of (d := 118) (b := false) rfl (by kernel_rfl) (hV 2 118 (by kernel_rfl) rfl), (by kernel_rfl), ?_⟩) ?_
          · have e1 : E (.tmp 19) = .pointer (some ⟨t, 0, none⟩) := hE 19 (by kernel_rfl)
            have q0 := hA.cell BQ.out.1 (by intro h; cases h)
            have q1 := hA.cell BQ.out.2.1 (by intro h; cases h)
            have q2 := hA.cell BQ.out.2.2 (by intro h; cases h)
            clear hE hV hP hB hS
            exact ev_loadI e1 q0 q1 q2 (hF (_, _) (List.mem_cons_of_mem _ (List.mem_cons_of_mem _ (List.mem_cons_of_mem _ (List.mem_cons_self ..)))))
          refine AllTold.cons rfl (fun β E W hA hF hc hf hE hV hP hB hS => Or.inl ⟨wanted_of (d := 118) (b := false) rfl (by kernel_rfl) (hV 2 118 (by kernel_rfl) rfl), (by kernel_rfl), ?_⟩) ?_
          · have e1 : E (.tmp 12) = .pointer (some ⟨b, 0, none⟩) := hE 12 (by kernel_rfl)
            have q0 := hA.cell BB.out.1 (by intro h; cases h)
            have q1 := hA.cell BB.out.2.1 (by intro h; cases h)
            have q2 := hA.cell BB.out.2.2 (by intro h; cases h)
            clear hE hV hP hB hS
            exact ev_loadI e1 q0 q1 q2 (hF (_, _) (List.mem_cons_of_mem _ (List.mem_cons_self ..)))
          refine AllTold.cons rfl (fun β E W hA hF hc hf hE hV hP hB hS => Or.inl ⟨wanted_of (d := 118) (b := false) rfl (by kernel_rfl) (hV 2 118 (by kernel_rfl) rfl), (by kernel_rfl), ?_⟩) ?_
          · have e1 : Means W (.int Q) (E (.tmp 119)) := hV 3 119 (by kernel_rfl) rfl
            have e2 : Means W (.int y) (E (.tmp 120)) := hV 4 120 (by kernel_rfl) rfl
            clear hE hV hP hB hS
            exact ev_call2 (hf _) run_iMul ((iMul_want W _ _ Q y (by omega) (by omega) e1 e2).mono fun e w' ⟨v, h1, h2, h3⟩ => ⟨v, h1, h2, h3⟩)
          refine AllTold.cons rfl (fun β E W hA hF hc hf hE hV hP hB hS => Or.inl ⟨wanted_of (d := 118) (b := false) rfl (by kernel_rfl) (hV 2 118 (by kernel_rfl) rfl), (by kernel_rfl), ?_⟩) ?_
          · have e1 : E (.tmp 20) = .pointer (some ⟨u, 0, none⟩) := hE 20 (by kernel_rfl)
            have q0 := hA.cell BM.out.1 (by intro h; cases h)
            have q1 := hA.cell BM.out.2.1 (by intro h; cases h)
            have q2 := hA.cell BM.out.2.2 (by intro h; cases h)
            clear hE hV hP hB hS
            exact ev_loadI e1 q0 q1 q2 (hF (_, _) (List.mem_cons_of_mem _ (List.mem_cons_of_mem _ (List.mem_cons_of_mem _ (List.mem_cons_of_mem _ (List.mem_cons_self ..))))))
          refine AllTold.cons rfl (fun β E W hA hF hc hf hE hV hP hB hS => Or.inl ⟨wanted_of (d := 118) (b := false) rfl (by kernel_rfl) (hV 2 118 (by kernel_rfl) rfl), (by kernel_rfl), ?_⟩) ?_
          · have e1 : Means W (.int (Q * y)) (E (.tmp 121)) := hV 5 121 (by kernel_rfl) rfl
            have e2 : Means W (.int M) (E (.tmp 122)) := hV 6 122 (by kernel_rfl) rfl
            clear hE hV hP hB hS
            exact ev_call2 (hf _) run_iAdd ((iAdd_want W _ _ (Q * y) M (by omega) (by omega) e1 e2).mono fun e w' ⟨v, h1, h2, h3⟩ => ⟨v, h1, h2, h3⟩)
          refine AllTold.cons rfl (fun β E W hA hF hc hf hE hV hP hB hS => Or.inl ⟨wanted_of (d := 118) (b := false) rfl (by kernel_rfl) (hV 2 118 (by kernel_rfl) rfl), (by kernel_rfl), ?_⟩) ?_
          · have e1 : E (.tmp 11) = .pointer (some ⟨a, 0, none⟩) := hE 11 (by kernel_rfl)
            have q0 := hA.cell BA.out.1 (by intro h; cases h)
            have q1 := hA.cell BA.out.2.1 (by intro h; cases h)
            have q2 := hA.cell BA.out.2.2 (by intro h; cases h)
            clear hE hV hP hB hS
            exact ev_loadI e1 q0 q1 q2 (hF (_, _) (List.mem_cons_self ..))
          refine AllTold.cons rfl (fun β E W hA hF hc hf hE hV hP hB hS => Or.inl ⟨wanted_of (d := 118) (b := false) rfl (by kernel_rfl) (hV 2 118 (by kernel_rfl) rfl), (by kernel_rfl), ?_⟩) ?_
          · have e1 : Means W (.int ((Q * y) + M)) (E (.tmp 123)) := hV 7 123 (by kernel_rfl) rfl
            have e2 : Means W (.int x) (E (.tmp 124)) := hV 8 124 (by kernel_rfl) rfl
            clear hE hV hP hB hS
            exact ev_call2 (hf _) run_iCmp ((iCmp_val W _ _ ((Q * y) + M) x 0 (cmp_same HQ.out) (by omega) (by omega) e1 e2).mono fun e w' ⟨v, h1, h2, h3⟩ => ⟨v, h1, h2, h3⟩)
          refine AllTold.cons rfl (fun β E W hA hF hc hf hE hV hP hB hS => Or.inl ⟨wanted_of (d := 118) (b := false) rfl (by kernel_rfl) (hV 2 118 (by kernel_rfl) rfl), (by kernel_rfl), ?_⟩) ?_
          · have e1 : E (.tmp 125) = (.int .i64 0) := hV 9 125 (by kernel_rfl) rfl
            clear hE hV hP hB hS
            exact ev_eql e1 (hc _) rfl
          refine AllTold.cons rfl (fun β E W hA hF hc hf hE hV hP hB hS => Or.inl ⟨wanted_of (d := 118) (b := false) rfl (by kernel_rfl) (hV 2 118 (by kernel_rfl) rfl), (by kernel_rfl), ?_⟩) ?_
          · have e1 : E (.tmp 126) = (.bool true) := hV 10 126 (by kernel_rfl) rfl
            clear hE hV hP hB hS
            exact ev_move _ e1
          refine AllTold.cons rfl (fun β E W hA hF hc hf hE hV hP hB hS => Or.inl ⟨wanted_of (d := 127) (b := true) rfl (by kernel_rfl) (hV 11 127 (by kernel_rfl) rfl), (by kernel_rfl), ?_⟩) ?_
          · have e1 : E (.tmp 20) = .pointer (some ⟨u, 0, none⟩) := hE 20 (by kernel_rfl)
            have q0 := hA.cell BM.out.1 (by intro h; cases h)
            have q1 := hA.cell BM.out.2.1 (by intro h; cases h)
            have q2 := hA.cell BM.out.2.2 (by intro h; cases h)
            clear hE hV hP hB hS
            exact ev_loadI e1 q0 q1 q2 (hF (_, _) (List.mem_cons_of_mem _ (List.mem_cons_of_mem _ (List.mem_cons_of_mem _ (List.mem_cons_of_mem _ (List.mem_cons_self ..))))))
          refine AllTold.cons rfl (fun β E W hA hF hc hf hE hV hP hB hS => Or.inl ⟨wanted_of (d := 127) (b := true) rfl (by kernel_rfl) (hV 11 127 (by kernel_rfl) rfl), (by kernel_rfl), ?_⟩) ?_
          · have e1 : Means W (.int M) (E (.tmp 128)) := hV 12 128 (by kernel_rfl) rfl
            clear hE hV hP hB hS
            exact ev_call1 (hf _) run_iSign ((iSign_val W _ M sgy HM0.out e1).mono fun e w' ⟨v, h1, h2, h3⟩ => ⟨v, h1, h2, h3⟩)
          refine AllTold.cons rfl (fun β E W hA hF hc hf hE hV hP hB hS => Or.inl ⟨wanted_of (d := 127) (b := true) rfl (by kernel_rfl) (hV 11 127 (by kernel_rfl) rfl), (by kernel_rfl), ?_⟩) ?_
          · have e1 : E (.tmp 129) = (.int .i64 sgy) := hV 13 129 (by kernel_rfl) rfl
            clear hE hV hP hB hS
            exact ev_eql e1 (hc _) hsy
          refine AllTold.cons rfl (fun β E W hA hF hc hf hE hV hP hB hS => Or.inl ⟨wanted_of (d := 127) (b := true) rfl (by kernel_rfl) (hV 11 127 (by kernel_rfl) rfl), (by kernel_rfl), ?_⟩) ?_
          · have e1 : E (.tmp 130) = (.bool false) := hV 14 130 (by kernel_rfl) rfl
            clear hE hV hP hB hS
            exact ev_move _ e1
          refine AllTold.cons rfl (fun β E W hA hF hc hf hE hV hP hB hS => Or.inl ⟨wanted_of (d := 131) (b := false) rfl (by kernel_rfl) (hV 15 131 (by kernel_rfl) rfl), (by kernel_rfl), ?_⟩) ?_
          · have e1 : E (.tmp 20) = .pointer (some ⟨u, 0, none⟩) := hE 20 (by kernel_rfl)
            have q0 := hA.cell BM.out.1 (by intro h; cases h)
            have q1 := hA.cell BM.out.2.1 (by intro h; cases h)
            have q2 := hA.cell BM.out.2.2 (by intro h; cases h)
            clear hE hV hP hB hS
            exact ev_loadI e1 q0 q1 q2 (hF (_, _) (List.mem_cons_of_mem _ (List.mem_cons_of_mem _ (List.mem_cons_of_mem _ (List.mem_cons_of_mem _ (List.mem_cons_self ..))))))
          refine AllTold.cons rfl (fun β E W hA hF hc hf hE hV hP hB hS => Or.inl ⟨wanted_of (d := 131) (b := false) rfl (by kernel_rfl) (hV 15 131 (by kernel_rfl) rfl), (by kernel_rfl), ?_⟩) ?_
          · have e1 : Means W (.int M) (E (.tmp 132)) := hV 16 132 (by kernel_rfl) rfl
            clear hE hV hP hB hS
            exact ev_call1 (hf _) run_iSign ((iSign_val W _ M sgy HM0.out e1).mono fun e w' ⟨v, h1, h2, h3⟩ => ⟨v, h1, h2, h3⟩)
          refine AllTold.cons rfl (fun β E W hA hF hc hf hE hV hP hB hS => Or.inl ⟨wanted_of (d := 131) (b := false) rfl (by kernel_rfl) (hV 15 131 (by kernel_rfl) rfl), (by kernel_rfl), ?_⟩) ?_
          · have e1 : E (.tmp 12) = .pointer (some ⟨b, 0, none⟩) := hE 12 (by kernel_rfl)
            have q0 := hA.cell BB.out.1 (by intro h; cases h)
            have q1 := hA.cell BB.out.2.1 (by intro h; cases h)
            have q2 := hA.cell BB.out.2.2 (by intro h; cases h)
            clear hE hV hP hB hS
            exact ev_loadI e1 q0 q1 q2 (hF (_, _) (List.mem_cons_of_mem _ (List.mem_cons_self ..)))
          refine AllTold.cons rfl (fun β E W hA hF hc hf hE hV hP hB hS => Or.inl ⟨wanted_of (d := 131) (b := false) rfl (by kernel_rfl) (hV 15 131 (by kernel_rfl) rfl), (by kernel_rfl), ?_⟩) ?_
          · have e1 : Means W (.int y) (E (.tmp 134)) := hV 18 134 (by kernel_rfl) rfl
            clear hE hV hP hB hS
            exact ev_call1 (hf _) run_iSign ((iSign_val W _ y sgy HSG.out.symm e1).mono fun e w' ⟨v, h1, h2, h3⟩ => ⟨v, h1, h2, h3⟩)
          refine AllTold.cons rfl (fun β E W hA hF hc hf hE hV hP hB hS => Or.inl ⟨wanted_of (d := 131) (b := false) rfl (by kernel_rfl) (hV 15 131 (by kernel_rfl) rfl), (by kernel_rfl), ?_⟩) ?_
          · have e1 : E (.tmp 133) = (.int .i64 sgy) := hV 17 133 (by kernel_rfl) rfl
            have e2 : E (.tmp 135) = (.int .i64 sgy) := hV 19 135 (by kernel_rfl) rfl
            clear hE hV hP hB hS
            exact ev_eql e1 e2 (beq_self_eq_true _)
          refine AllTold.cons rfl (fun β E W hA hF hc hf hE hV hP hB hS => Or.inl ⟨wanted_of (d := 127) (b := true) rfl (by kernel_rfl) (hV 11 127 (by kernel_rfl) rfl), (by kernel_rfl), ?_⟩) ?_
          · have e1 : E (.tmp 131) = (.bool false) := hV 15 131 (by kernel_rfl) rfl
            have e2 : E (.tmp 136) = (.bool true) := hV 20 136 (by kernel_rfl) rfl
            clear hE hV hP hB hS
            exact ev_pick e1 e2
          refine AllTold.cons rfl (fun β E W hA hF hc hf hE hV hP hB hS => Or.inl ⟨wanted_of (d := 118) (b := false) rfl (by kernel_rfl) (hV 2 118 (by kernel_rfl) rfl), (by kernel_rfl), ?_⟩) ?_
          · have e1 : E (.tmp 127) = (.bool true) := hV 11 127 (by kernel_rfl) rfl
            have e2 : E (.tmp 137) = (.bool true) := hV 21 137 (by kernel_rfl) rfl
            clear hE hV hP hB hS
            exact ev_pick e1 e2
          refine AllTold.cons rfl (fun β E W hA hF hc hf hE hV hP hB hS => Or.inl ⟨wanted_of (d := 118) (b := false) rfl (by kernel_rfl) (hV 2 118 (by kernel_rfl) rfl), (by kernel_rfl), ?_⟩) ?_
          · have e1 : E (.tmp 138) = (.bool true) := hV 22 138 (by kernel_rfl) rfl
            clear hE hV hP hB hS
            exact ev_move _ e1
          refine AllTold.cons rfl (fun β E W hA hF hc hf hE hV hP hB hS => Or.inl ⟨wanted_of (d := 139) (b := true) rfl (by kernel_rfl) (hV 23 139 (by kernel_rfl) rfl), (by kernel_rfl), ?_⟩) ?_
          · have e1 : E (.tmp 20) = .pointer (some ⟨u, 0, none⟩) := hE 20 (by kernel_rfl)
            have q0 := hA.cell BM.out.1 (by intro h; cases h)
            have q1 := hA.cell BM.out.2.1 (by intro h; cases h)
            have q2 := hA.cell BM.out.2.2 (by intro h; cases h)
            clear hE hV hP hB hS
            exact ev_loadI e1 q0 q1 q2 (hF (_, _) (List.mem_cons_of_mem _ (List.mem_cons_of_mem _ (List.mem_cons_of_mem _ (List.mem_cons_of_mem _ (List.mem_cons_self ..))))))
          refine AllTold.cons rfl (fun β E W hA hF hc hf hE hV hP hB hS => Or.inl ⟨wanted_of (d := 139) (b := true) rfl (by kernel_rfl) (hV 23 139 (by kernel_rfl) rfl), (by kernel_rfl), ?_⟩) ?_
          · have e1 : Means W (.int M) (E (.tmp 140)) := hV 24 140 (by kernel_rfl) rfl
            clear hE hV hP hB hS
            exact ev_call1 (hf _) run_iAbs ((iAbs_want W _ M e1).mono fun e w' ⟨v, h1, h2, h3⟩ => ⟨v, h1, h2, h3⟩)
          refine AllTold.cons rfl (fun β E W hA hF hc hf hE hV hP hB hS => Or.inl ⟨wanted_of (d := 139) (b := true) rfl (by kernel_rfl) (hV 23 139 (by kernel_rfl) rfl), (by kernel_rfl), ?_⟩) ?_
          · have e1 : E (.tmp 12) = .pointer (some ⟨b, 0, none⟩) := hE 12 (by kernel_rfl)
            have q0 := hA.cell BB.out.1 (by intro h; cases h)
            have q1 := hA.cell BB.out.2.1 (by intro h; cases h)
            have q2 := hA.cell BB.out.2.2 (by intro h; cases h)
            clear hE hV hP hB hS
            exact ev_loadI e1 q0 q1 q2 (hF (_, _) (List.mem_cons_of_mem _ (List.mem_cons_self ..)))
          refine AllTold.cons rfl (fun β E W hA hF hc hf hE hV hP hB hS => Or.inl ⟨wanted_of (d := 139) (b := true) rfl (by kernel_rfl) (hV 23 139 (by kernel_rfl) rfl), (by kernel_rfl), ?_⟩) ?_
          · have e1 : Means W (.int y) (E (.tmp 142)) := hV 26 142 (by kernel_rfl) rfl
            clear hE hV hP hB hS
            exact ev_call1 (hf _) run_iAbs ((iAbs_want W _ y e1).mono fun e w' ⟨v, h1, h2, h3⟩ => ⟨v, h1, h2, h3⟩)
          refine AllTold.cons rfl (fun β E W hA hF hc hf hE hV hP hB hS => Or.inl ⟨wanted_of (d := 139) (b := true) rfl (by kernel_rfl) (hV 23 139 (by kernel_rfl) rfl), (by kernel_rfl), ?_⟩) ?_
          · have e1 : Means W (.num M.natAbs) (E (.tmp 141)) := hV 25 141 (by kernel_rfl) rfl
            have e2 : Means W (.num y.natAbs) (E (.tmp 143)) := hV 27 143 (by kernel_rfl) rfl
            clear hE hV hP hB hS
            exact ev_call2 (hf _) run_nCmp ((nCmp_val W _ _ M.natAbs y.natAbs (-1) (cmp3_lt HLT.out) (by omega) e1 e2).mono fun e w' ⟨v, h1, h2, h3⟩ => ⟨v, h1, h2, h3⟩)
          refine AllTold.cons rfl (fun β E W hA hF hc hf hE hV hP hB hS => Or.inl ⟨wanted_of (d := 139) (b := true) rfl (by kernel_rfl) (hV 23 139 (by kernel_rfl) rfl), (by kernel_rfl), ?_⟩) ?_
          · have e1 : E (.tmp 144) = (.int .i64 (-1)) := hV 28 144 (by kernel_rfl) rfl
            clear hE hV hP hB hS
            exact ev_lss e1 (hc _) rfl
          refine AllTold.cons rfl (fun β E W hA hF hc hf hE hV hP hB hS => Or.inl ⟨wanted_of (d := 118) (b := false) rfl (by kernel_rfl) (hV 2 118 (by kernel_rfl) rfl), (by kernel_rfl), ?_⟩) ?_
          · have e1 : E (.tmp 139) = (.bool true) := hV 23 139 (by kernel_rfl) rfl
            have e2 : E (.tmp 145) = (.bool true) := hV 29 145 (by kernel_rfl) rfl
            clear hE hV hP hB hS
            exact ev_pick e1 e2
          refine AllTold.cons rfl (fun β E W hA hF hc hf hE hV hP hB hS => Or.inl ⟨rfl, (by kernel_rfl), ?_⟩) ?_
          · have e1 : E (.tmp 118) = (.bool false) := hV 2 118 (by kernel_rfl) rfl
            have e2 : E (.tmp 146) = (.bool true) := hV 30 146 (by kernel_rfl) rfl
            clear hE hV hP hB hS
            exact ev_pick e1 e2
          refine AllTold.cons rfl (fun β E W hA hF hc hf hE hV hP hB hS => Or.inl ⟨rfl, (by kernel_rfl), ?_⟩) ?_
          · have e1 : E (.tmp 147) = (.bool true) := hV 31 147 (by kernel_rfl) rfl
            clear hE hV hP hB hS
            exact ev_assign _ e1
          exact AllTold.nil
        · intro β f' W' hf hS hN hA _ _ _ _
          have e10 : f' 10 = .bool true := hf (32, 10) (by simp)
          have HB := Lib.hid (below_step HB.out hA.below0)
          clear hf hS hN hA
          simp only [fillSlots, e10, List.setIfInBounds_toArray, List.set_cons_succ, List.set_cons_zero]
          go_wp2
          go_ret
          exact ⟨rfl, HB.out⟩
end Go.Proofs.YtadhmpkndnhebaaDoor
