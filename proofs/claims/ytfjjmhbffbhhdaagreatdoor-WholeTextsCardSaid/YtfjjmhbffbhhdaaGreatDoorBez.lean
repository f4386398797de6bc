/- The greatest common divisor with factors. -/
import Derived.Test.YtfjjmhbffbhhdaaGreatDoorBez0
import Derived.Test.YtfjjmhbffbhhdaaGreatDoorIntTwo
import Derived.Deep.LoopGhost
namespace Go.Proofs.YtfjjmhbffbhhdaaGreatDoor
open Go.RowKit

theorem iDiv_want (w : World) (u v : Value) (x y : Int) (h0 : y ≠ 0) (hx : (ds x.natAbs).length ≤ 60) (hy : (ds y.natAbs).length ≤ 60) (h1 : INum w u x) (h2 : INum w v y) :
    Calls Tryz.prog 27 #[u, v] w fun e w' => ∃ v', e = .returned v' ∧ (∃ q r k, v' = .tuple #[q, r, k] ∧ INum w' q (qdiv x y) ∧ INum w' r (qmod x y) ∧ k = .bool true) ∧ Below w.heap.size w w' := by
  obtain ⟨g, s, p, l, c, rfl, h1⟩ := h1
  obtain ⟨f, t, q, k, d, rfl, h2⟩ := h2
  exact (iDiv_any x y g f s t p q l c k d w h0 (by omega) (by omega) h1 h2).mono fun _ _ ⟨_, _, _, _, _, _, _, _, _, _, h, a, b, hb⟩ => ⟨_, h, ⟨_, _, _, rfl, ⟨_, _, _, _, _, rfl, a⟩, ⟨_, _, _, _, _, rfl, b⟩, rfl⟩, hb⟩

theorem RetRow.want {W w' : World} {x y : Int} {e : Ending} (h : RetRow W x y e w') : ∃ v, e = .returned v ∧ (ints [x, y]).says w' v ∧ Below W.heap.size W w' := by
  obtain ⟨g1, s1, p1, l1, c1, g2, s2, p2, l2, c2, rfl, h1, h2, hb⟩ := h
  exact ⟨_, rfl, ⟨_, rfl, ⟨_, _, _, _, _, _, rfl, h1, ⟨_, _, _, _, _, _, rfl, h2, rfl⟩⟩⟩, hb⟩
set_option maxRecDepth 100000 in
set_option maxHeartbeats 8000000 in
theorem bezout_some (x y : Int) (g1 g2 : Bool) (s1 s2 : Int) (p1 p2 : Option Addr) (l1 c1 l2 c2 : Nat) (w : World) (hy0 : y ≠ 0) (hx : (ds x.natAbs).length ≤ 10) (hy : (ds y.natAbs).length ≤ 10) (h1 : IsI w g1 s1 p1 l1 c1 x) (h2 : IsI w g2 s2 p2 l2 c2 y) :
    Calls Tryz.prog 28 #[.agg #[.bool g1, .int .u64 s1, .slice p1 l1 c1], .agg #[.bool g2, .int .u64 s2, .slice p2 l2 c2]] w (RetBez w x y) := by
  have hsx : -1 ≤ cmp3 x 0 ∧ cmp3 x 0 ≤ 1 := by unfold cmp3; split <;> (try split) <;> omega
  have hd : ((cmp3 y 0 : Int) == 0) = false := beq_eq_false_iff_ne.2 (by unfold cmp3; split <;> (try split) <;> omega)
  have T1 := Lib.hid (fun W a => iSign_any x g1 s1 p1 l1 c1 W a)
  have T2 := Lib.hid (fun W a => iSign_any y g2 s2 p2 l2 c2 W a)
  have T3 := Lib.hid (fun W => iOf_any (cmp3 x 0) W (by omega) (by omega))
  have ST := Lib.hid (BInv.start (x := x) hy0)
  have SA := Lib.hid (sign_abs x)
  have DS : Hid ((ds (cmp3 x 0).natAbs).length ≤ 10) := Lib.hid (by rw [ds_one (by omega)]; omega)
  obtain ⟨sx, hsx2⟩ : ∃ s, s = cmp3 x 0 := ⟨_, rfl⟩
  rw [← hsx2] at T1 T3 ST SA DS
  obtain ⟨sy, hsy⟩ : ∃ s, s = cmp3 y 0 := ⟨_, rfl⟩
  rw [← hsy] at T2 hd
  have HX := Lib.hid hx; have HY := Lib.hid hy; have HY0 := Lib.hid hy0
  obtain ⟨W, a, b, r1, r2, r3, hW, e3, e2, e1, e0, ea, BZ⟩ := Bz.start w x y g1 g2 s1 s2 p1 p2 l1 c1 l2 c2 h1 h2
  have BZ := Lib.hid BZ
  clear hsx hsx2 hsy hx hy hy0 h1 h2
  go_enter Tryz.func28, Tryz.ntmps28
  go_wp2_with fail
  rw [← hW, ← e3, ← e2, ← e1, ← e0, ← ea]
  clear hW e3 e2 e1 e0 ea
  refine (T1.out _ BZ.out.i1).mono ?_
  rintro e w1 ⟨rfl, hb⟩
  have BZ := Lib.hid (BZ.out.mono hb)
  clear hb T1
  go_wp2_with fail
  refine (T3.out _).mono ?_
  rintro e w2 ⟨g3, s3, p3, l3, c3, rfl, i3, hb⟩
  have BZ := Lib.hid (BZ.out.mono hb); have I3 := Lib.hid i3
  obtain ⟨B0, B1, B2⟩ := BZ.out.bB
  have zb : b < w2.heap.size := World.block_lt_of_cell? _ _ B0
  clear hb i3 T3
  go_wp2_with fail
  obtain ⟨V, hV⟩ : ∃ V, V = w2.alloc (.cells #[.bool g3, .int .u64 s3, .slice p3 l3 c3] 28) := ⟨_, rfl⟩
  obtain ⟨s, hs⟩ : ∃ s, s = w2.heap.size := ⟨_, rfl⟩
  have hb : Below w2.heap.size w2 V := by rw [hV]; exact below_alloc (Below.refl _ _) _
  have S0 : V.cell? ⟨s, 0, none⟩ = some (.bool g3) := by simp [hV, hs, go_sem]
  have S1 : V.cell? ⟨s, 1, none⟩ = some (.int .u64 s3) := by simp [hV, hs, go_sem]
  have S2 : V.cell? ⟨s, 2, none⟩ = some (.slice p3 l3 c3) := by simp [hV, hs, go_sem]
  have ns : r3 < s := by rw [hs]; exact BZ.out.ord.2.2.2.2.2
  rw [← hV]; try rw [← hs]
  have BZ := Lib.hid (BZ.out.mono hb); have I3 := Lib.hid (I3.out.mono hb)
  clear hV hs hb zb B0 B1 B2
  refine (T2.out _ BZ.out.i2).mono ?_
  rintro e w3 ⟨rfl, hb⟩
  have BZ := Lib.hid (BZ.out.mono hb); have I3 := Lib.hid (I3.out.mono hb)
  replace S0 := wcell hb S0; replace S1 := wcell hb S1; replace S2 := wcell hb S2
  clear hb T2
  go_wp2
  refine region_told (T := [0, 1, 2, 3, 4, 5, 6, 7, 8, 9, 10, 11]) (slots := [26, 27, 28, 29, 30, 31, 32, 33, 34, 35, 36, 8])
      (tab := [.int x, .int sx, .int (x * sx), .int sx, .that (ints [x * sx, sx]), .is (.pointer (some ⟨b, 1, none⟩)), .num y.natAbs, .int (sgn false y.natAbs), .is (.agg #[.bool false, .int .u64 0, .slice none 0 0]), .that (ints [sgn false y.natAbs, 0]), .that (ints [x * sx, sx, sgn false y.natAbs, 0]), .any, .any])
      (D := [⟨0, (.ints 4), some 11, 12, (.that (ints [x * sx, sx, sgn false y.natAbs, 0])), (.agg #[.bool false, .int .u64 0, .slice none 0 0, .bool false, .int .u64 0, .slice none 0 0, .bool false, .int .u64 0, .slice none 0 0, .bool false, .int .u64 0, .slice none 0 0])⟩])
      (F := [(.agg #[.bool g1, .int .u64 s1, .slice p1 l1 c1], .int x), (.agg #[.bool g3, .int .u64 s3, .slice p3 l3 c3], .int sx), (.agg #[.int .u64 s2, .slice p2 l2 c2], .num y.natAbs), (.agg #[.bool g2, .int .u64 s2, .slice p2 l2 c2], .int y)])
      (by kernel_rfl) (by kernel_rfl) (by kernel_rfl) (by kernel_rfl) (by kernel_rfl) (by kernel_rfl) (by kernel_rfl) ?_ ?_ ?_ ?_ ?_
  · skip
    refine List.Pairwise.cons (fun y hy => ?_) ?_
    · cases hy
    exact List.Pairwise.nil
  · intro f hf; simp only [List.mem_cons, List.not_mem_nil, or_false] at hf; rcases hf with rfl | rfl | rfl | rfl
    · exact ⟨_, _, _, _, _, rfl, BZ.out.i1⟩
    · exact ⟨_, _, _, _, _, rfl, I3.out⟩
    · exact ⟨_, _, _, _, rfl, BZ.out.i2.2⟩
    · exact ⟨_, _, _, _, _, rfl, BZ.out.i2⟩
  · intro x hx hal; simp only [List.mem_cons, List.not_mem_nil, or_false] at hx; rcases hx with rfl
    · cases hal
  · skip
    refine AllTold.cons rfl (fun β E W hA hF hc hf hE hV hP hB hS => Or.inl ⟨rfl, (by kernel_rfl), ?_⟩) ?_
    · have e1 : E (.tmp 2) = .pointer (some ⟨a, 0, none⟩) := hE 2 (by kernel_rfl)
      have q0 := hA.cell BZ.out.bA.1 (by intro h; cases h)
      have q1 := hA.cell BZ.out.bA.2.1 (by intro h; cases h)
      have q2 := hA.cell BZ.out.bA.2.2 (by intro h; cases h)
      clear hE hV hP hB hS
      exact Does.value (v := .agg #[.bool g1, .int .u64 s1, .slice p1 l1 c1]) (w' := W) (by go_simp) ⟨hF (_, _) mb0, Below.refl _ _⟩
    refine AllTold.cons rfl (fun β E W hA hF hc hf hE hV hP hB hS => Or.inl ⟨rfl, (by kernel_rfl), ?_⟩) ?_
    · have e1 : E (.tmp 7) = .pointer (some ⟨s, 0, none⟩) := hE 7 (by kernel_rfl)
      have q0 := hA.cell S0 (by intro h; cases h)
      have q1 := hA.cell S1 (by intro h; cases h)
      have q2 := hA.cell S2 (by intro h; cases h)
      clear hE hV hP hB hS
      exact Does.value (v := .agg #[.bool g3, .int .u64 s3, .slice p3 l3 c3]) (w' := W) (by go_simp) ⟨hF (_, _) mb1, Below.refl _ _⟩
    refine AllTold.cons rfl (fun β E W hA hF hc hf hE hV hP hB hS => Or.inl ⟨rfl, (by kernel_rfl), ?_⟩) ?_
    · have e1 : Means W (.int x) (E (.tmp 26)) := hV 0 26 (by kernel_rfl) rfl
      have e2 : Means W (.int sx) (E (.tmp 27)) := hV 1 27 (by kernel_rfl) rfl
      clear hE hV hP hB hS
      exact Does.call (w' := W) (by go_simp) ((iMul_want W _ _ x sx (by have := HX.out; omega) (by have := DS.out; omega) e1 e2).mono fun e w' ⟨v, h1, h2, h3⟩ => ⟨v, h1, h2, h3⟩)
    refine AllTold.cons rfl (fun β E W hA hF hc hf hE hV hP hB hS => Or.inl ⟨rfl, (by kernel_rfl), ?_⟩) ?_
    · have e1 : E (.tmp 7) = .pointer (some ⟨s, 0, none⟩) := hE 7 (by kernel_rfl)
      have q0 := hA.cell S0 (by intro h; cases h)
      have q1 := hA.cell S1 (by intro h; cases h)
      have q2 := hA.cell S2 (by intro h; cases h)
      clear hE hV hP hB hS
      exact Does.value (v := .agg #[.bool g3, .int .u64 s3, .slice p3 l3 c3]) (w' := W) (by go_simp) ⟨hF (_, _) mb1, Below.refl _ _⟩
    refine AllTold.cons rfl (fun β E W hA hF hc hf hE hV hP hB hS => Or.inl ⟨rfl, (by kernel_rfl), ?_⟩) ?_
    · have e1 : Means W (.int (x * sx)) (E (.tmp 28)) := hV 2 28 (by kernel_rfl) rfl
      have e2 : Means W (.int sx) (E (.tmp 29)) := hV 3 29 (by kernel_rfl) rfl
      clear hE hV hP hB hS
      obtain ⟨g, s', p, l, c, e1', hI⟩ := e1
      obtain ⟨g', s'', p', l', c', e2', hJ⟩ := e2
      exact Does.value (v := .agg #[.bool g, .int .u64 s', .slice p l c, .bool g', .int .u64 s'', .slice p' l' c']) (w' := W) (by go_simp) ⟨⟨_, rfl, ⟨_, _, _, _, _, _, rfl, hI, ⟨_, _, _, _, _, _, rfl, hJ, rfl⟩⟩⟩, Below.refl _ _⟩
    refine AllTold.cons rfl (fun β E W hA hF hc hf hE hV hP hB hS => Or.inl ⟨rfl, (by kernel_rfl), ?_⟩) ?_
    · have e1 : E (.tmp 3) = .pointer (some ⟨b, 0, none⟩) := hE 3 (by kernel_rfl)
      clear hE hV hP hB hS
      exact Does.value (w' := W) (by go_simp) ⟨rfl, Below.refl _ _⟩
    refine AllTold.cons rfl (fun β E W hA hF hc hf hE hV hP hB hS => Or.inl ⟨rfl, (by kernel_rfl), ?_⟩) ?_
    · have e1 : E (.tmp 31) = (.pointer (some ⟨b, 1, none⟩)) := hV 5 31 (by kernel_rfl) rfl
      have q0 := hA.cell BZ.out.bB.2.1 (by intro h; cases h)
      have q1 := hA.cell BZ.out.bB.2.2 (by intro h; cases h)
      clear hE hV hP hB hS
      exact Does.value (v := .agg #[.int .u64 s2, .slice p2 l2 c2]) (w' := W) (by go_simp) ⟨hF (_, _) mb2, Below.refl _ _⟩
    refine AllTold.cons rfl (fun β E W hA hF hc hf hE hV hP hB hS => Or.inl ⟨rfl, (by kernel_rfl), ?_⟩) ?_
    · have e1 : Means W (.num y.natAbs) (E (.tmp 32)) := hV 6 32 (by kernel_rfl) rfl
      clear hE hV hP hB hS
      exact Does.call (w' := W) (by go_simp) ((iFrom_want W _ false y.natAbs e1).mono fun e w' ⟨v, h1, h2, h3⟩ => ⟨v, h1, h2, h3⟩)
    refine AllTold.cons rfl (fun β E W hA hF hc hf hE hV hP hB hS => Or.inl ⟨rfl, (by kernel_rfl), ?_⟩) ?_
    · clear hE hV hP hB hS
      exact Does.value (w' := W) (by go_simp) ⟨rfl, Below.refl _ _⟩
    refine AllTold.cons rfl (fun β E W hA hF hc hf hE hV hP hB hS => Or.inl ⟨rfl, (by kernel_rfl), ?_⟩) ?_
    · have e1 : Means W (.int (sgn false y.natAbs)) (E (.tmp 33)) := hV 7 33 (by kernel_rfl) rfl
      have e2 : E (.tmp 34) = (.agg #[.bool false, .int .u64 0, .slice none 0 0]) := hV 8 34 (by kernel_rfl) rfl
      clear hE hV hP hB hS
      obtain ⟨g, s', p, l, c, e1', hI⟩ := e1
      exact Does.value (v := .agg #[.bool g, .int .u64 s', .slice p l c, .bool false, .int .u64 0, .slice none 0 0]) (w' := W) (by go_simp) ⟨⟨_, rfl, ⟨_, _, _, _, _, _, rfl, hI, ⟨_, _, _, _, _, _, rfl, ⟨rfl, Or.inl ⟨by omega, rfl, rfl, rfl, rfl⟩⟩, rfl⟩⟩⟩, Below.refl _ _⟩
    refine AllTold.cons rfl (fun β E W hA hF hc hf hE hV hP hB hS => Or.inl ⟨rfl, (by kernel_rfl), ?_⟩) ?_
    · have e1 : Means W (.that (ints [x * sx, sx])) (E (.tmp 30)) := hV 4 30 (by kernel_rfl) rfl
      have e2 : Means W (.that (ints [sgn false y.natAbs, 0])) (E (.tmp 35)) := hV 9 35 (by kernel_rfl) rfl
      clear hE hV hP hB hS
      obtain ⟨cs1, e1', ga, sa, pa, la, ca, cs1', hc1, i1, gb, sb, pb, lb, cb, cs2', hc2, i2, hc3⟩ := e1
      subst hc3; subst hc2; subst hc1
      obtain ⟨cs2, e2', gc, sc, pc, lc, cc, cs3', hc1, i3, gd, sd, pd, ld, cd, cs4', hc2, i4, hc3⟩ := e2
      subst hc3; subst hc2; subst hc1
      exact Does.value (v := .agg #[.bool ga, .int .u64 sa, .slice pa la ca, .bool gb, .int .u64 sb, .slice pb lb cb, .bool gc, .int .u64 sc, .slice pc lc cc, .bool gd, .int .u64 sd, .slice pd ld cd]) (w' := W) (by go_simp) ⟨⟨_, rfl, ⟨_, _, _, _, _, _, rfl, i1, ⟨_, _, _, _, _, _, rfl, i2, ⟨_, _, _, _, _, _, rfl, i3, ⟨_, _, _, _, _, _, rfl, i4, rfl⟩⟩⟩⟩⟩, Below.refl _ _⟩
    refine AllTold.cons rfl (fun β E W hA hF hc hf hE hV hP hB hS => Or.inr (Or.inr (Or.inl ⟨rfl, (by kernel_rfl), rfl, ⟨_, mb0, rfl, ?_⟩⟩))) ?_
    · clear hE hV hP hB hS
      exact Does.value (w' := W.alloc (.cells #[.bool false, .int .u64 0, .slice none 0 0, .bool false, .int .u64 0, .slice none 0 0, .bool false, .int .u64 0, .slice none 0 0, .bool false, .int .u64 0, .slice none 0 0] 88)) (by go_simp) ⟨rfl, below_alloc (Below.refl _ _) _, by simp, BoxHas.made W (.ints 4) [.bool false, .int .u64 0, .slice none 0 0, .bool false, .int .u64 0, .slice none 0 0, .bool false, .int .u64 0, .slice none 0 0, .bool false, .int .u64 0, .slice none 0 0] 88 ⟨⟨_, rfl⟩, ⟨_, rfl⟩, ⟨_, _, _, rfl⟩, ⟨_, rfl⟩, ⟨_, rfl⟩, ⟨_, _, _, rfl⟩, ⟨_, rfl⟩, ⟨_, rfl⟩, ⟨_, _, _, rfl⟩, ⟨_, rfl⟩, ⟨_, rfl⟩, ⟨_, _, _, rfl⟩, trivial⟩, BoxFree.made W (.ints 4) _ _⟩
    refine AllTold.cons rfl (fun β E W hA hF hc hf hE hV hP hB hS => Or.inr (Or.inl ⟨rfl, ⟨_, mb0, rfl, (by kernel_rfl), rfl, ?_⟩⟩)) ?_
    · have e1 : E (.tmp 8) = .pointer (some ⟨β 12, 0, none⟩) := hP _ mb0 11 8 rfl (by kernel_rfl) rfl
      have e2 : Means W (.that (ints [x * sx, sx, sgn false y.natAbs, 0])) (E (.tmp 36)) := hV 10 36 (by kernel_rfl) rfl
      obtain ⟨hbx, hfr⟩ := hB _ mb0 (by kernel_rfl) (by kernel_rfl)
      replace hbx : BoxHas W (β 12) (.ints 4) (.agg #[.bool false, .int .u64 0, .slice none 0 0, .bool false, .int .u64 0, .slice none 0 0, .bool false, .int .u64 0, .slice none 0 0, .bool false, .int .u64 0, .slice none 0 0]) := hbx
      replace hfr : BoxFree W (β 12) (.ints 4) := hfr
      have q0 := hbx.cell 0 _ rfl
      have q1 := hbx.cell 1 _ rfl
      have q2 := hbx.cell 2 _ rfl
      have q3 := hbx.cell 3 _ rfl
      have q4 := hbx.cell 4 _ rfl
      have q5 := hbx.cell 5 _ rfl
      have q6 := hbx.cell 6 _ rfl
      have q7 := hbx.cell 7 _ rfl
      have q8 := hbx.cell 8 _ rfl
      have q9 := hbx.cell 9 _ rfl
      have q10 := hbx.cell 10 _ rfl
      have q11 := hbx.cell 11 _ rfl
      have t0 := hfr 0 (by show 0 < 12; decide)
      have t1 := hfr 1 (by show 1 < 12; decide)
      have t2 := hfr 2 (by show 2 < 12; decide)
      have t3 := hfr 3 (by show 3 < 12; decide)
      have t4 := hfr 4 (by show 4 < 12; decide)
      have t5 := hfr 5 (by show 5 < 12; decide)
      have t6 := hfr 6 (by show 6 < 12; decide)
      have t7 := hfr 7 (by show 7 < 12; decide)
      have t8 := hfr 8 (by show 8 < 12; decide)
      have t9 := hfr 9 (by show 9 < 12; decide)
      have t10 := hfr 10 (by show 10 < 12; decide)
      have t11 := hfr 11 (by show 11 < 12; decide)
      obtain ⟨cs, e2', ga, sa, pa, la, ca, cs1', hc1, i1, gb, sb, pb, lb, cb, cs2', hc2, i2, gc, sc, pc, lc, cc, cs3', hc3, i3, gd, sd, pd, ld, cd, cs4', hc4, i4, hc5⟩ := e2
      subst hc5; subst hc4; subst hc3; subst hc2; subst hc1
      clear hE hV hP hB hS
      exact Does.skip (w' := ((((((((((((W.setCell ⟨β 12, 0, none⟩ (.bool ga)).setCell ⟨β 12, 1, none⟩ (.int .u64 sa)).setCell ⟨β 12, 2, none⟩ (.slice pa la ca)).setCell ⟨β 12, 3, none⟩ (.bool gb)).setCell ⟨β 12, 4, none⟩ (.int .u64 sb)).setCell ⟨β 12, 5, none⟩ (.slice pb lb cb)).setCell ⟨β 12, 6, none⟩ (.bool gc)).setCell ⟨β 12, 7, none⟩ (.int .u64 sc)).setCell ⟨β 12, 8, none⟩ (.slice pc lc cc)).setCell ⟨β 12, 9, none⟩ (.bool gd)).setCell ⟨β 12, 10, none⟩ (.int .u64 sd)).setCell ⟨β 12, 11, none⟩ (.slice pd ld cd))) (by go_simp)  ⟨_, (show Stored W _ (β 12) (.ints 4) (.agg #[.bool ga, .int .u64 sa, .slice pa la ca, .bool gb, .int .u64 sb, .slice pb lb cb, .bool gc, .int .u64 sc, .slice pc lc cc, .bool gd, .int .u64 sd, .slice pd ld cd]) from ⟨[.bool ga, .int .u64 sa, .slice pa la ca, .bool gb, .int .u64 sb, .slice pb lb cb, .bool gc, .int .u64 sc, .slice pc lc cc, .bool gd, .int .u64 sd, .slice pd ld cd], rfl, ⟨⟨_, rfl⟩, ⟨_, rfl⟩, ⟨_, _, _, rfl⟩, ⟨_, rfl⟩, ⟨_, rfl⟩, ⟨_, _, _, rfl⟩, ⟨_, rfl⟩, ⟨_, rfl⟩, ⟨_, _, _, rfl⟩, ⟨_, rfl⟩, ⟨_, rfl⟩, ⟨_, _, _, rfl⟩, trivial⟩, rfl⟩), ⟨_, rfl, ⟨_, _, _, _, _, _, rfl, i1, ⟨_, _, _, _, _, _, rfl, i2, ⟨_, _, _, _, _, _, rfl, i3, ⟨_, _, _, _, _, _, rfl, i4, rfl⟩⟩⟩⟩⟩⟩
    exact AllTold.nil
  · intro β f W' hf hS hN hA hP hlo hlt hap
    obtain ⟨⟨v, hbx, cs, hv, hcs⟩, hfr⟩ := hS _ mb0
    have e8 : f 8 = .pointer (some ⟨β 12, 0, none⟩) := hP _ mb0 (11, 8) (by simp) rfl
    have hd3 : w3.heap.size ≤ β 12 := hlo _ mb0 (by intro h; cases h)
    have hdl : β 12 < W'.heap.size := hlt _ mb0
    replace hbx : BoxHas W' (β 12) (.ints 4) v := hbx
    replace hfr : BoxFree W' (β 12) (.ints 4) := hfr
    generalize β 12 = d at *
    obtain ⟨ga, sa, pa, la, ca, cs1', hc1, ia, gb, sb, pb, lb, cb, cs2', hc2, ib, gc, sc, pc, lc, cc, cs3', hc3, ic, gd, sd, pd, ld, cd, cs4', hc4, id', hc5⟩ := hcs
    subst hc5; subst hc4; subst hc3; subst hc2; subst hc1
    subst hv
    rw [SA.out] at ia
    have nd : r3 < d := Nat.lt_of_lt_of_le BZ.out.ord.2.2.2.2.2 hd3
    have BZ := Lib.hid (BZ.out.away hA (by intro k hk; cases hk) (hN (_, _) mb0).isI (hN (_, _) mb3).isI)
    have HD := Lib.hid (And.intro hbx hfr)
    have IA := Lib.hid ia; have IB := Lib.hid ib; have IC := Lib.hid ic; have ID := Lib.hid id'
    clear hf hS hN hA hP hlo hlt hap hbx hfr ia ib ic id' S0 S1 S2 I3 hd3 hdl ns hd DS SA
    simp only [fillSlots, e8, List.setIfInBounds_toArray, List.set_cons_succ, List.set_cons_zero]
    clear e8
    go_wp2
    go_loopg [9, 10, 11] y.natAbs (fun n _ _ _ wr => ∃ m u v ga sa pa la ca gb sb pb lb cb gc sc pc lc cc gd sd pd ld cd, Hid (BInv x y m n u v) ∧ Hid (Bz w wr x y a b r1 r2 r3 g1 s1 p1 l1 c1 g2 s2 p2 l2 c2) ∧ Hid (BoxHas wr d (.ints 4) (.agg #[.bool ga, .int .u64 sa, .slice pa la ca, .bool gb, .int .u64 sb, .slice pb lb cb, .bool gc, .int .u64 sc, .slice pc lc cc, .bool gd, .int .u64 sd, .slice pd ld cd]) ∧ BoxFree wr d (.ints 4)) ∧
      Hid (IsI wr ga sa pa la ca (m : Int)) ∧ Hid (IsI wr gb sb pb lb cb u) ∧ Hid (IsI wr gc sc pc lc cc (n : Int)) ∧ Hid (IsI wr gd sd pd ld cd v))
    case atStart => exact ⟨x.natAbs, sx, 0, ga, sa, pa, la, ca, gb, sb, pb, lb, cb, gc, sc, pc, lc, cc, gd, sd, pd, ld, cd, ST, BZ, HD, IA, IB, IC, ID⟩
    case round =>
      clear BZ HD IA IB IC ID ST
      obtain ⟨m, u, v, ga, sa, pa, la, ca, gb, sb, pb, lb, cb, gc, sc, pc, lc, cc, gd, sd, pd, ld, cd, HI, BZ, HD, IA, IB, IC, ID⟩ := hrel
      have D0 := HD.out.1.cell 0 _ rfl; have D1 := HD.out.1.cell 1 _ rfl; have D2 := HD.out.1.cell 2 _ rfl
      have D3 := HD.out.1.cell 3 _ rfl; have D4 := HD.out.1.cell 4 _ rfl; have D5 := HD.out.1.cell 5 _ rfl
      have D6 := HD.out.1.cell 6 _ rfl; have D7 := HD.out.1.cell 7 _ rfl; have D8 := HD.out.1.cell 8 _ rfl
      obtain ⟨n, hn⟩ : ∃ n, n = gk := ⟨_, rfl⟩
      rw [← hn] at HI IC
      have HGK := Lib.hid hn
      clear hn
      have SZ := Lib.hid (HI.out.sizes HX.out HY.out)
      have TS := Lib.hid (iSign_any (n : Int) gc sc pc lc cc wr IC.out)
      go_wp2_with fail
      refine TS.out.mono ?_
      rintro e w4 ⟨rfl, hb⟩
      have BZ := Lib.hid (BZ.out.mono hb); have HDN := Lib.hid (And.intro (HD.out.1.mono hb) (HD.out.2.mono HD.out.1 hb))
      have IA := Lib.hid (IA.out.mono hb); have IB := Lib.hid (IB.out.mono hb); have IC := Lib.hid (IC.out.mono hb); have ID := Lib.hid (ID.out.mono hb)
      clear D0 D1 D2 D3 D4 D5 D6 D7 D8 hb TS HD
      have D0 := HDN.out.1.cell 0 _ rfl
      have D1 := HDN.out.1.cell 1 _ rfl
      have D2 := HDN.out.1.cell 2 _ rfl
      have D3 := HDN.out.1.cell 3 _ rfl
      have D4 := HDN.out.1.cell 4 _ rfl
      have D5 := HDN.out.1.cell 5 _ rfl
      have D6 := HDN.out.1.cell 6 _ rfl
      have D7 := HDN.out.1.cell 7 _ rfl
      have D8 := HDN.out.1.cell 8 _ rfl
      have D9 := HDN.out.1.cell 9 _ rfl
      have D10 := HDN.out.1.cell 10 _ rfl
      have D11 := HDN.out.1.cell 11 _ rfl
      rcases Nat.eq_zero_or_pos n with hn0 | hn0
      · subst hn0
        rw [show cmp3 ((0 : Nat) : Int) 0 = 0 from rfl]
        obtain ⟨dm, dm0, dp0, dq, dspec⟩ := HI.out.done HY0.out
        obtain ⟨P, hP⟩ : ∃ P, P = y.natAbs / m := ⟨_, rfl⟩
        rw [← hP] at dp0 dq dspec
        have DM := Lib.hid dm; have DQ := Lib.hid dq; have DSP := Lib.hid dspec; have DM0 := Lib.hid dm0; have DP0 := Lib.hid dp0
        have SP : Hid ((ds P).length ≤ 20) := Lib.hid (by have := ds_mono (Nat.div_le_self y.natAbs m); have := HY.out; rw [hP]; omega)
        obtain ⟨v1, o1⟩ := BZ.out.o1
        obtain ⟨g9, s9, p9, l9, c9, -, q0, q1, q2⟩ := o1.int
        have t0 := BZ.out.f1 0 (by decide); have t1 := BZ.out.f1 1 (by decide); have t2 := BZ.out.f1 2 (by decide)
        clear dm dq dspec dm0 dp0 hP
        go_wp2
        have hs : Stored w4 (((w4.setCell ⟨r1, 0, none⟩ (.bool ga)).setCell ⟨r1, 1, none⟩ (.int .u64 sa)).setCell ⟨r1, 2, none⟩ (.slice pa la ca)) r1 .int (.agg #[.bool ga, .int .u64 sa, .slice pa la ca]) := Stored.mkInt
        have BZ := Lib.hid (BZ.out.put (Or.inl rfl) hs)
        have ndr : d ≠ r1 := by have := BZ.out.ord; omega
        have R1 := Lib.hid (hs.has o1)
        have IA := Lib.hid (IA.out.stored o1 hs); have IB := Lib.hid (IB.out.stored o1 hs)
        have HDN := Lib.hid (HDN.out.1.stored hs ndr)
        generalize (((w4.setCell ⟨r1, 0, none⟩ (.bool ga)).setCell ⟨r1, 1, none⟩ (.int .u64 sa)).setCell ⟨r1, 2, none⟩ (.slice pa la ca)) = w5 at *
        clear D0 D1 D2 D3 D4 D5 D6 D7 D8 D9 D10 D11 q0 q1 q2 t0 t1 t2 hs o1 IC ID
        refine region_told (T := [0, 1, 2, 3, 4, 5, 6, 7, 8, 9, 10, 13]) (slots := [66, 67, 68, 69, 70, 65, 71, 72, 73, 12, 13, 14])
            (tab := [.is (.pointer (some ⟨b, 1, none⟩)), .num y.natAbs, .int ((y.natAbs : Nat) : Int), .int (m : Int), .three (.int (qdiv ((y.natAbs : Nat) : Int) (m : Int))) (.int (qmod ((y.natAbs : Nat) : Int) (m : Int))) (.is (.bool true)), .three (.int (qdiv ((y.natAbs : Nat) : Int) (m : Int))) (.int (qmod ((y.natAbs : Nat) : Int) (m : Int))) (.is (.bool true)), .int (qdiv ((y.natAbs : Nat) : Int) (m : Int)), .int (qmod ((y.natAbs : Nat) : Int) (m : Int)), .is (.bool true), .any, .any, .any, .any, .is (.bool true)])
            (D := [⟨0, .int, some 9, 11, (.int (P : Int)), (.agg #[.bool false, .int .u64 0, .slice none 0 0])⟩, ⟨0, .int, some 10, 12, (.int (qmod ((y.natAbs : Nat) : Int) (m : Int))), (.agg #[.bool false, .int .u64 0, .slice none 0 0])⟩])
            (F := [(.agg #[.int .u64 s2, .slice p2 l2 c2], .num y.natAbs), (.agg #[.bool ga, .int .u64 sa, .slice pa la ca], .int (m : Int)), (.agg #[.bool g1, .int .u64 s1, .slice p1 l1 c1], .int x), (.agg #[.bool g2, .int .u64 s2, .slice p2 l2 c2], .int y), (.agg #[.bool gb, .int .u64 sb, .slice pb lb cb], .int u)])
            (by kernel_rfl) (by kernel_rfl) (by kernel_rfl) (by kernel_rfl) (by kernel_rfl) (by kernel_rfl) (by kernel_rfl) ?_ ?_ ?_ ?_ ?_
        · skip
          refine List.Pairwise.cons (fun y hy => ?_) ?_
          · simp only [List.mem_cons, List.not_mem_nil, or_false] at hy
            rcases hy with rfl
            · exact ⟨fun h1 h2 => (by first | cases h1 | cases h2), by show 11 ≠ 12; decide, fun _ => (by show some 9 ≠ some 10; decide)⟩
          refine List.Pairwise.cons (fun y hy => ?_) ?_
          · cases hy
          exact List.Pairwise.nil
        · intro f hf; simp only [List.mem_cons, List.not_mem_nil, or_false] at hf; rcases hf with rfl | rfl | rfl | rfl | rfl
          · exact ⟨_, _, _, _, rfl, BZ.out.i2.2⟩
          · exact ⟨_, _, _, _, _, rfl, IA.out⟩
          · exact ⟨_, _, _, _, _, rfl, BZ.out.i1⟩
          · exact ⟨_, _, _, _, _, rfl, BZ.out.i2⟩
          · exact ⟨_, _, _, _, _, rfl, IB.out⟩
        · intro x hx hal; simp only [List.mem_cons, List.not_mem_nil, or_false] at hx; rcases hx with rfl | rfl
          · cases hal
          · cases hal
        · skip
          refine AllTold.cons rfl (fun β E W hA hF hc hf hE hV hP hB hS => Or.inl ⟨rfl, (by kernel_rfl), ?_⟩) ?_
          · have e1 : E (.tmp 3) = .pointer (some ⟨b, 0, none⟩) := hE 3 (by kernel_rfl)
            clear hE hV hP hB hS
            exact Does.value (w' := W) (by go_simp) ⟨rfl, Below.refl _ _⟩
          refine AllTold.cons rfl (fun β E W hA hF hc hf hE hV hP hB hS => Or.inl ⟨rfl, (by kernel_rfl), ?_⟩) ?_
          · have e1 : E (.tmp 66) = (.pointer (some ⟨b, 1, none⟩)) := hV 0 66 (by kernel_rfl) rfl
            have q0 := hA.cell BZ.out.bB.2.1 (by intro h; cases h)
            have q1 := hA.cell BZ.out.bB.2.2 (by intro h; cases h)
            clear hE hV hP hB hS
            exact Does.value (v := .agg #[.int .u64 s2, .slice p2 l2 c2]) (w' := W) (by go_simp) ⟨hF (_, _) mb0, Below.refl _ _⟩
          refine AllTold.cons rfl (fun β E W hA hF hc hf hE hV hP hB hS => Or.inl ⟨rfl, (by kernel_rfl), ?_⟩) ?_
          · have e1 : Means W (.num y.natAbs) (E (.tmp 67)) := hV 1 67 (by kernel_rfl) rfl
            clear hE hV hP hB hS
            exact Does.call (w' := W) (by go_simp) ((iFrom_want W _ false y.natAbs e1).mono fun e w' ⟨v, h1, h2, h3⟩ => ⟨v, h1, h2, h3⟩)
          refine AllTold.cons rfl (fun β E W hA hF hc hf hE hV hP hB hS => Or.inl ⟨rfl, (by kernel_rfl), ?_⟩) ?_
          · have e1 : E (.tmp 4) = .pointer (some ⟨r1, 0, none⟩) := hE 4 (by kernel_rfl)
            have q0 := hA.cell (R1.out.cell 0 _ rfl) (by intro h; cases h)
            have q1 := hA.cell (R1.out.cell 1 _ rfl) (by intro h; cases h)
            have q2 := hA.cell (R1.out.cell 2 _ rfl) (by intro h; cases h)
            clear hE hV hP hB hS
            exact Does.value (v := .agg #[.bool ga, .int .u64 sa, .slice pa la ca]) (w' := W) (by go_simp) ⟨hF (_, _) mb1, Below.refl _ _⟩
          refine AllTold.cons rfl (fun β E W hA hF hc hf hE hV hP hB hS => Or.inl ⟨rfl, (by kernel_rfl), ?_⟩) ?_
          · have e1 : Means W (.int ((y.natAbs : Nat) : Int)) (E (.tmp 68)) := hV 2 68 (by kernel_rfl) rfl
            have e2 : Means W (.int (m : Int)) (E (.tmp 69)) := hV 3 69 (by kernel_rfl) rfl
            clear hE hV hP hB hS
            exact Does.call (w' := W) (by go_simp) ((iDiv_want W _ _ ((y.natAbs : Nat) : Int) (m : Int) (by have := DM0.out; omega) (by rw [Int.natAbs_natCast]; have := HY.out; omega) (by rw [Int.natAbs_natCast]; have := SZ.out.1; omega) e1 e2).mono fun e w' ⟨v, h1, h2, h3⟩ => ⟨v, h1, h2, h3⟩)
          refine AllTold.cons rfl (fun β E W hA hF hc hf hE hV hP hB hS => Or.inl ⟨rfl, (by kernel_rfl), ?_⟩) ?_
          · have e1 : Means W (.three (.int (qdiv ((y.natAbs : Nat) : Int) (m : Int))) (.int (qmod ((y.natAbs : Nat) : Int) (m : Int))) (.is (.bool true))) (E (.tmp 70)) := hV 4 70 (by kernel_rfl) rfl
            clear hE hV hP hB hS
            exact Does.value (v := E (.tmp 70)) (w' := W) (by go_simp) ⟨e1, Below.refl _ _⟩
          refine AllTold.cons rfl (fun β E W hA hF hc hf hE hV hP hB hS => Or.inl ⟨rfl, (by kernel_rfl), ?_⟩) ?_
          · have e1 : Means W (.three (.int (qdiv ((y.natAbs : Nat) : Int) (m : Int))) (.int (qmod ((y.natAbs : Nat) : Int) (m : Int))) (.is (.bool true))) (E (.tmp 65)) := hV 5 65 (by kernel_rfl) rfl
            clear hE hV hP hB hS
            obtain ⟨x0, x1, x2, e1', ha, hb', hc'⟩ := e1
            exact Does.value (v := x0) (w' := W) (by go_simp) ⟨ha, Below.refl _ _⟩
          refine AllTold.cons rfl (fun β E W hA hF hc hf hE hV hP hB hS => Or.inl ⟨rfl, (by kernel_rfl), ?_⟩) ?_
          · have e1 : Means W (.three (.int (qdiv ((y.natAbs : Nat) : Int) (m : Int))) (.int (qmod ((y.natAbs : Nat) : Int) (m : Int))) (.is (.bool true))) (E (.tmp 65)) := hV 5 65 (by kernel_rfl) rfl
            clear hE hV hP hB hS
            obtain ⟨x0, x1, x2, e1', ha, hb', hc'⟩ := e1
            exact Does.value (v := x1) (w' := W) (by go_simp) ⟨hb', Below.refl _ _⟩
          refine AllTold.cons rfl (fun β E W hA hF hc hf hE hV hP hB hS => Or.inl ⟨rfl, (by kernel_rfl), ?_⟩) ?_
          · have e1 : Means W (.three (.int (qdiv ((y.natAbs : Nat) : Int) (m : Int))) (.int (qmod ((y.natAbs : Nat) : Int) (m : Int))) (.is (.bool true))) (E (.tmp 65)) := hV 5 65 (by kernel_rfl) rfl
            clear hE hV hP hB hS
            obtain ⟨x0, x1, x2, e1', ha, hb', hc'⟩ := e1
            exact Does.value (v := x2) (w' := W) (by go_simp) ⟨hc', Below.refl _ _⟩
          refine AllTold.cons rfl (fun β E W hA hF hc hf hE hV hP hB hS => Or.inr (Or.inr (Or.inl ⟨rfl, (by kernel_rfl), rfl, ⟨_, mb0, rfl, ?_⟩⟩))) ?_
          · clear hE hV hP hB hS
            exact Does.value (w' := W.alloc (.cells #[.bool false, .int .u64 0, .slice none 0 0] 28)) (by go_simp) ⟨rfl, below_alloc (Below.refl _ _) _, by simp, BoxHas.made W .int [.bool false, .int .u64 0, .slice none 0 0] 28 ⟨⟨_, rfl⟩, ⟨_, rfl⟩, ⟨_, _, _, rfl⟩, trivial⟩, BoxFree.made W .int _ _⟩
          refine AllTold.cons rfl (fun β E W hA hF hc hf hE hV hP hB hS => Or.inr (Or.inr (Or.inl ⟨rfl, (by kernel_rfl), rfl, ⟨_, mb1, rfl, ?_⟩⟩))) ?_
          · clear hE hV hP hB hS
            exact Does.value (w' := W.alloc (.cells #[.bool false, .int .u64 0, .slice none 0 0] 28)) (by go_simp) ⟨rfl, below_alloc (Below.refl _ _) _, by simp, BoxHas.made W .int [.bool false, .int .u64 0, .slice none 0 0] 28 ⟨⟨_, rfl⟩, ⟨_, rfl⟩, ⟨_, _, _, rfl⟩, trivial⟩, BoxFree.made W .int _ _⟩
          refine AllTold.cons rfl (fun β E W hA hF hc hf hE hV hP hB hS => Or.inr (Or.inl ⟨rfl, ⟨_, mb0, rfl, (by kernel_rfl), rfl, ?_⟩⟩)) ?_
          · have e1 : E (.tmp 12) = .pointer (some ⟨β 11, 0, none⟩) := hP _ mb0 9 12 rfl (by kernel_rfl) rfl
            have e2 : Means W (.int (qdiv ((y.natAbs : Nat) : Int) (m : Int))) (E (.tmp 71)) := hV 6 71 (by kernel_rfl) rfl
            rw [DQ.out] at e2
            obtain ⟨hbx, hfr⟩ := hB _ mb0 (by kernel_rfl) (by kernel_rfl)
            replace hbx : BoxHas W (β 11) .int _ := hbx
            replace hfr : BoxFree W (β 11) .int := hfr
            obtain ⟨_, _, _, _, _, _, q0, q1, q2⟩ := hbx.int
            have t0 := hfr 0 (by show 0 < 3; decide)
            have t1 := hfr 1 (by show 1 < 3; decide)
            have t2 := hfr 2 (by show 2 < 3; decide)
            obtain ⟨g, s, p, l, c, e2', hI⟩ := e2
            clear hE hV hP hB hS
            exact Does.skip (by go_simp) ⟨_, Stored.mkInt (b := (β 11)), ⟨g, s, p, l, c, rfl, hI⟩⟩
          refine AllTold.cons rfl (fun β E W hA hF hc hf hE hV hP hB hS => Or.inr (Or.inl ⟨rfl, ⟨_, mb1, rfl, (by kernel_rfl), rfl, ?_⟩⟩)) ?_
          · have e1 : E (.tmp 13) = .pointer (some ⟨β 12, 0, none⟩) := hP _ mb1 10 13 rfl (by kernel_rfl) rfl
            have e2 : Means W (.int (qmod ((y.natAbs : Nat) : Int) (m : Int))) (E (.tmp 72)) := hV 7 72 (by kernel_rfl) rfl
            obtain ⟨hbx, hfr⟩ := hB _ mb1 (by kernel_rfl) (by kernel_rfl)
            replace hbx : BoxHas W (β 12) .int _ := hbx
            replace hfr : BoxFree W (β 12) .int := hfr
            obtain ⟨_, _, _, _, _, _, q0, q1, q2⟩ := hbx.int
            have t0 := hfr 0 (by show 0 < 3; decide)
            have t1 := hfr 1 (by show 1 < 3; decide)
            have t2 := hfr 2 (by show 2 < 3; decide)
            obtain ⟨g, s, p, l, c, e2', hI⟩ := e2
            clear hE hV hP hB hS
            exact Does.skip (by go_simp) ⟨_, Stored.mkInt (b := (β 12)), ⟨g, s, p, l, c, rfl, hI⟩⟩
          refine AllTold.cons rfl (fun β E W hA hF hc hf hE hV hP hB hS => Or.inl ⟨rfl, (by kernel_rfl), ?_⟩) ?_
          · have e1 : E (.tmp 73) = (.bool true) := hV 8 73 (by kernel_rfl) rfl
            clear hE hV hP hB hS
            exact Does.value (w' := W) (by go_simp) ⟨rfl, Below.refl _ _⟩
          exact AllTold.nil
        · intro β f W' hf hS hN hA hPP hlo hlt hap
          have e12 : f 12 = .pointer (some ⟨β 11, 0, none⟩) := hPP _ mb0 (9, 12) (by simp) rfl
          obtain ⟨g4, s4, p4, l4, c4, q0, q1, q2, iq⟩ := (show Says W' (β 11) .int (.int (P : Int)) from (hS _ mb0).1).int
          have hq3 : w5.heap.size ≤ β 11 := hlo _ mb0 (by intro h; cases h)
          generalize β 11 = e at *
          have IQ := Lib.hid iq
          have IB := Lib.hid (hN (_, _) mb4).isI
          have IA := Lib.hid (hN (_, _) mb1).isI
          have R1 := Lib.hid (R1.out.away hA (by intro h; cases h))
          have HDN := Lib.hid (HDN.out.away hA (by intro h; cases h))
          have BZ := Lib.hid (BZ.out.away hA (by intro k hk; cases hk) (hN (_, _) mb2).isI (hN (_, _) mb3).isI)
          have D3 := HDN.out.cell 3 _ rfl; have D4 := HDN.out.cell 4 _ rfl; have D5 := HDN.out.cell 5 _ rfl
          have TD := Lib.hid (iDiv_any u (P : Int) gb g4 sb s4 pb p4 lb cb l4 c4 W' (by have := DP0.out; omega) (by have := SZ.out.2.2.1; omega) (by rw [Int.natAbs_natCast]; have := SP.out; omega) IB.out IQ.out)
          clear hf hS hN hA hPP hlo hlt hap iq
          simp only [fillSlots, e12, List.setIfInBounds_toArray, List.set_cons_succ, List.set_cons_zero]
          clear e12
          go_wp2_with fail
          refine TD.out.mono ?_
          rintro e' w6 ⟨g5, s5, p5, l5, c5, g6, s6, p6, l6, c6, rfl, i5, i6, hb⟩
          have BZ := Lib.hid (BZ.out.mono hb); have R1 := Lib.hid (R1.out.mono hb); have IA := Lib.hid (IA.out.mono hb); have I6 := Lib.hid i6
          obtain ⟨v2, o2⟩ := BZ.out.o2
          obtain ⟨g9, s9, p9, l9, c9, -, x0, x1, x2⟩ := o2.int
          have t0 := BZ.out.f2 0 (by decide); have t1 := BZ.out.f2 1 (by decide); have t2 := BZ.out.f2 2 (by decide)
          clear D3 D4 D5 q0 q1 q2 TD i5 i6 hb HDN IB IQ
          go_wp2
          have hs : Stored w6 (((w6.setCell ⟨r2, 0, none⟩ (.bool g6)).setCell ⟨r2, 1, none⟩ (.int .u64 s6)).setCell ⟨r2, 2, none⟩ (.slice p6 l6 c6)) r2 .int (.agg #[.bool g6, .int .u64 s6, .slice p6 l6 c6]) := Stored.mkInt
          have BZ := Lib.hid (BZ.out.put (Or.inr rfl) hs)
          have n12 : r1 ≠ r2 := by have := BZ.out.ord; omega
          have R1 := Lib.hid (R1.out.stored hs n12)
          have R2 := Lib.hid (hs.has o2)
          have IA := Lib.hid (IA.out.stored o2 hs); have I6 := Lib.hid (I6.out.stored o2 hs)
          generalize (((w6.setCell ⟨r2, 0, none⟩ (.bool g6)).setCell ⟨r2, 1, none⟩ (.int .u64 s6)).setCell ⟨r2, 2, none⟩ (.slice p6 l6 c6)) = w7 at *
          clear x0 x1 x2 t0 t1 t2 hs o2
          obtain ⟨X, hX⟩ : ∃ X, X = qmod u (P : Int) := ⟨_, rfl⟩
          obtain ⟨Y, hY⟩ : ∃ Y, Y = qdiv ((m : Int) - x * X) y := ⟨_, rfl⟩
          rw [← hX] at I6 DSP
          rw [← hY] at DSP
          have HYY := Lib.hid hY
          have SX : Hid ((ds X.natAbs).length ≤ 20) := Lib.hid (by
            have h1 := (DSP.out.2 HY0.out).2
            rw [← DM.out] at h1
            have h2 : X.natAbs ≤ y.natAbs := by have := Nat.div_le_self y.natAbs m; omega
            have := ds_mono h2; have := HY.out; omega)
          have SXM : Hid ((ds ((m : Int) - x * X).natAbs).length ≤ 60) := Lib.hid (by
            have h1 := ds_natAbs_mul x X
            have h2 : ((m : Int) - x * X).natAbs ≤ m + (x * X).natAbs := by omega
            have h3 := ds_mono h2
            have h4 := ds_add m (x * X).natAbs
            have := HX.out; have := SX.out; have := SZ.out.1
            omega)
          obtain ⟨v3, o3⟩ := BZ.out.o3
          have OLD_r3 : BoxHas w7 r3 .int v3 ∧ BoxFree w7 r3 .int := ⟨o3, BZ.out.f3⟩
          have od := BZ.out.ord
          have ir : a ∉ [r3] ∧ b ∉ [r3] ∧ r1 ∉ [r3] ∧ r2 ∉ [r3] := by simp; omega
          clear hX hY
          refine region_told (T := [0, 1, 2, 3, 4, 5, 6, 7, 8, 9, 10]) (slots := [84, 85, 86, 87, 88, 89, 90, 83, 91, 92, 93])
              (tab := [.int (m : Int), .int x, .int X, .int (x * X), .int ((m : Int) - x * X), .int y, .three (.int (qdiv ((m : Int) - x * X) y)) (.int (qmod ((m : Int) - x * X) y)) (.is (.bool true)), .three (.int (qdiv ((m : Int) - x * X) y)) (.int (qmod ((m : Int) - x * X) y)) (.is (.bool true)), .int (qdiv ((m : Int) - x * X) y), .int (qmod ((m : Int) - x * X) y), .is (.bool true), .any])
              (D := [⟨r3, .int, none, 11, (.int Y), v3⟩])
              (F := [(.agg #[.bool ga, .int .u64 sa, .slice pa la ca], .int (m : Int)), (.agg #[.bool g1, .int .u64 s1, .slice p1 l1 c1], .int x), (.agg #[.bool g6, .int .u64 s6, .slice p6 l6 c6], .int X), (.agg #[.bool g2, .int .u64 s2, .slice p2 l2 c2], .int y)])
              (by kernel_rfl) (by kernel_rfl) (by kernel_rfl) (by kernel_rfl) (by kernel_rfl) (by kernel_rfl) (by kernel_rfl) ?_ ?_ ?_ ?_ ?_
          · skip
            refine List.Pairwise.cons (fun y hy => ?_) ?_
            · cases hy
            exact List.Pairwise.nil
          · intro f hf; simp only [List.mem_cons, List.not_mem_nil, or_false] at hf; rcases hf with rfl | rfl | rfl | rfl
            · exact ⟨_, _, _, _, _, rfl, IA.out⟩
            · exact ⟨_, _, _, _, _, rfl, BZ.out.i1⟩
            · exact ⟨_, _, _, _, _, rfl, I6.out⟩
            · exact ⟨_, _, _, _, _, rfl, BZ.out.i2⟩
          · intro x hx hal; simp only [List.mem_cons, List.not_mem_nil, or_false] at hx; rcases hx with rfl
            · exact ⟨OLD_r3.1, OLD_r3.2, OLD_r3.1.lt rfl⟩
          · skip
            refine AllTold.cons rfl (fun β E W hA hF hc hf hE hV hP hB hS => Or.inl ⟨rfl, (by kernel_rfl), ?_⟩) ?_
            · have e1 : E (.tmp 4) = .pointer (some ⟨r1, 0, none⟩) := hE 4 (by kernel_rfl)
              have q0 := hA.cell (R1.out.cell 0 _ rfl) ir.2.2.1
              have q1 := hA.cell (R1.out.cell 1 _ rfl) ir.2.2.1
              have q2 := hA.cell (R1.out.cell 2 _ rfl) ir.2.2.1
              clear hE hV hP hB hS
              exact Does.value (v := .agg #[.bool ga, .int .u64 sa, .slice pa la ca]) (w' := W) (by go_simp) ⟨hF (_, _) mb0, Below.refl _ _⟩
            refine AllTold.cons rfl (fun β E W hA hF hc hf hE hV hP hB hS => Or.inl ⟨rfl, (by kernel_rfl), ?_⟩) ?_
            · have e1 : E (.tmp 2) = .pointer (some ⟨a, 0, none⟩) := hE 2 (by kernel_rfl)
              have q0 := hA.cell BZ.out.bA.1 ir.1
              have q1 := hA.cell BZ.out.bA.2.1 ir.1
              have q2 := hA.cell BZ.out.bA.2.2 ir.1
              clear hE hV hP hB hS
              exact Does.value (v := .agg #[.bool g1, .int .u64 s1, .slice p1 l1 c1]) (w' := W) (by go_simp) ⟨hF (_, _) mb1, Below.refl _ _⟩
            refine AllTold.cons rfl (fun β E W hA hF hc hf hE hV hP hB hS => Or.inl ⟨rfl, (by kernel_rfl), ?_⟩) ?_
            · have e1 : E (.tmp 5) = .pointer (some ⟨r2, 0, none⟩) := hE 5 (by kernel_rfl)
              have q0 := hA.cell (R2.out.cell 0 _ rfl) ir.2.2.2
              have q1 := hA.cell (R2.out.cell 1 _ rfl) ir.2.2.2
              have q2 := hA.cell (R2.out.cell 2 _ rfl) ir.2.2.2
              clear hE hV hP hB hS
              exact Does.value (v := .agg #[.bool g6, .int .u64 s6, .slice p6 l6 c6]) (w' := W) (by go_simp) ⟨hF (_, _) mb2, Below.refl _ _⟩
            refine AllTold.cons rfl (fun β E W hA hF hc hf hE hV hP hB hS => Or.inl ⟨rfl, (by kernel_rfl), ?_⟩) ?_
            · have e1 : Means W (.int x) (E (.tmp 85)) := hV 1 85 (by kernel_rfl) rfl
              have e2 : Means W (.int X) (E (.tmp 86)) := hV 2 86 (by kernel_rfl) rfl
              clear hE hV hP hB hS
              exact Does.call (w' := W) (by go_simp) ((iMul_want W _ _ x X (by have := HX.out; omega) (by have := SX.out; omega) e1 e2).mono fun e w' ⟨v, h1, h2, h3⟩ => ⟨v, h1, h2, h3⟩)
            refine AllTold.cons rfl (fun β E W hA hF hc hf hE hV hP hB hS => Or.inl ⟨rfl, (by kernel_rfl), ?_⟩) ?_
            · have e1 : Means W (.int (m : Int)) (E (.tmp 84)) := hV 0 84 (by kernel_rfl) rfl
              have e2 : Means W (.int (x * X)) (E (.tmp 87)) := hV 3 87 (by kernel_rfl) rfl
              clear hE hV hP hB hS
              exact Does.call (w' := W) (by go_simp) ((iSub_want W _ _ (m : Int) (x * X) (by rw [Int.natAbs_natCast]; have := SZ.out.1; omega) (by have := ds_natAbs_mul x X; have := HX.out; have := SX.out; omega) e1 e2).mono fun e w' ⟨v, h1, h2, h3⟩ => ⟨v, h1, h2, h3⟩)
            refine AllTold.cons rfl (fun β E W hA hF hc hf hE hV hP hB hS => Or.inl ⟨rfl, (by kernel_rfl), ?_⟩) ?_
            · have e1 : E (.tmp 3) = .pointer (some ⟨b, 0, none⟩) := hE 3 (by kernel_rfl)
              have q0 := hA.cell BZ.out.bB.1 ir.2.1
              have q1 := hA.cell BZ.out.bB.2.1 ir.2.1
              have q2 := hA.cell BZ.out.bB.2.2 ir.2.1
              clear hE hV hP hB hS
              exact Does.value (v := .agg #[.bool g2, .int .u64 s2, .slice p2 l2 c2]) (w' := W) (by go_simp) ⟨hF (_, _) mb3, Below.refl _ _⟩
            refine AllTold.cons rfl (fun β E W hA hF hc hf hE hV hP hB hS => Or.inl ⟨rfl, (by kernel_rfl), ?_⟩) ?_
            · have e1 : Means W (.int ((m : Int) - x * X)) (E (.tmp 88)) := hV 4 88 (by kernel_rfl) rfl
              have e2 : Means W (.int y) (E (.tmp 89)) := hV 5 89 (by kernel_rfl) rfl
              clear hE hV hP hB hS
              exact Does.call (w' := W) (by go_simp) ((iDiv_want W _ _ ((m : Int) - x * X) y HY0.out SXM.out (by have := HY.out; omega) e1 e2).mono fun e w' ⟨v, h1, h2, h3⟩ => ⟨v, h1, h2, h3⟩)
            refine AllTold.cons rfl (fun β E W hA hF hc hf hE hV hP hB hS => Or.inl ⟨rfl, (by kernel_rfl), ?_⟩) ?_
            · have e1 : Means W (.three (.int (qdiv ((m : Int) - x * X) y)) (.int (qmod ((m : Int) - x * X) y)) (.is (.bool true))) (E (.tmp 90)) := hV 6 90 (by kernel_rfl) rfl
              clear hE hV hP hB hS
              exact Does.value (v := E (.tmp 90)) (w' := W) (by go_simp) ⟨e1, Below.refl _ _⟩
            refine AllTold.cons rfl (fun β E W hA hF hc hf hE hV hP hB hS => Or.inl ⟨rfl, (by kernel_rfl), ?_⟩) ?_
            · have e1 : Means W (.three (.int (qdiv ((m : Int) - x * X) y)) (.int (qmod ((m : Int) - x * X) y)) (.is (.bool true))) (E (.tmp 83)) := hV 7 83 (by kernel_rfl) rfl
              clear hE hV hP hB hS
              obtain ⟨x0, x1, x2, e1', ha, hb', hc'⟩ := e1
              exact Does.value (v := x0) (w' := W) (by go_simp) ⟨ha, Below.refl _ _⟩
            refine AllTold.cons rfl (fun β E W hA hF hc hf hE hV hP hB hS => Or.inl ⟨rfl, (by kernel_rfl), ?_⟩) ?_
            · have e1 : Means W (.three (.int (qdiv ((m : Int) - x * X) y)) (.int (qmod ((m : Int) - x * X) y)) (.is (.bool true))) (E (.tmp 83)) := hV 7 83 (by kernel_rfl) rfl
              clear hE hV hP hB hS
              obtain ⟨x0, x1, x2, e1', ha, hb', hc'⟩ := e1
              exact Does.value (v := x1) (w' := W) (by go_simp) ⟨hb', Below.refl _ _⟩
            refine AllTold.cons rfl (fun β E W hA hF hc hf hE hV hP hB hS => Or.inl ⟨rfl, (by kernel_rfl), ?_⟩) ?_
            · have e1 : Means W (.three (.int (qdiv ((m : Int) - x * X) y)) (.int (qmod ((m : Int) - x * X) y)) (.is (.bool true))) (E (.tmp 83)) := hV 7 83 (by kernel_rfl) rfl
              clear hE hV hP hB hS
              obtain ⟨x0, x1, x2, e1', ha, hb', hc'⟩ := e1
              exact Does.value (v := x2) (w' := W) (by go_simp) ⟨hc', Below.refl _ _⟩
            refine AllTold.cons rfl (fun β E W hA hF hc hf hE hV hP hB hS => Or.inr (Or.inl ⟨rfl, ⟨_, mb0, rfl, (by kernel_rfl), rfl, ?_⟩⟩)) ?_
            · have e1 : E (.tmp 6) = .pointer (some ⟨r3, 0, none⟩) := hE 6 (by kernel_rfl)
              have e2 : Means W (.int (qdiv ((m : Int) - x * X) y)) (E (.tmp 91)) := hV 8 91 (by kernel_rfl) rfl
              rw [← HYY.out] at e2
              obtain ⟨hbx, hfr⟩ := hB _ mb0 (by kernel_rfl) (by kernel_rfl)
              replace hbx : BoxHas W r3 .int _ := hbx
              replace hfr : BoxFree W r3 .int := hfr
              obtain ⟨_, _, _, _, _, _, q0, q1, q2⟩ := hbx.int
              have t0 := hfr 0 (by show 0 < 3; decide)
              have t1 := hfr 1 (by show 1 < 3; decide)
              have t2 := hfr 2 (by show 2 < 3; decide)
              obtain ⟨g, s, p, l, c, e2', hI⟩ := e2
              clear hE hV hP hB hS
              exact Does.skip (by go_simp) ⟨_, Stored.mkInt (b := r3), ⟨g, s, p, l, c, rfl, hI⟩⟩
            exact AllTold.nil
          · intro β f W2 hf hS hN hA _ _ _ _
            obtain ⟨⟨vy, hby, gy, sy, py, ly, cy, hvy, iy⟩, hfy⟩ := hS _ mb0
            subst hvy
            replace hby : BoxHas W2 r3 .int (.agg #[.bool gy, .int .u64 sy, .slice py ly cy]) := hby
            replace hfy : BoxFree W2 r3 .int := hfy
            have ho1 := R1.out.away hA ir.2.2.1
            have ho2 := R2.out.away hA ir.2.2.2
            have hf1 := BZ.out.f1.away (by omega) hA ir.2.2.1
            have hf2 := BZ.out.f2.away (by omega) hA ir.2.2.2
            have I1 := Lib.hid (hN (_, _) mb0).isI; have I2 := Lib.hid (hN (_, _) mb2).isI; have I3 := Lib.hid iy
            have HBW := Lib.hid (BZ.out.hb.trans (hA.below (B := w.heap.size) (by simp [oldBlocks]; omega) BZ.out.hb.size))
            have OLD_r1 := And.intro ho1 hf1; have OLD_r2 := And.intro ho2 hf2; have OLD_r3 := And.intro hby hfy
            have n12 : r1 ≠ r2 := by omega
            have n13 : r1 ≠ r3 := by omega
            have n23 : r2 ≠ r3 := by omega
            have zw : w.heap.size ≤ r1 := by omega
            have zw2 : w.heap.size ≤ r2 := by omega
            have zw3 : w.heap.size ≤ r3 := by omega
            clear hf hS hN hA ho1 ho2 hf1 hf2 hby hfy iy ir od o3 R1 R2 IA I6
            simp only [fillSlots, List.setIfInBounds_toArray, List.set_cons_succ, List.set_cons_zero]
            go_wp2
            refine region_told (T := [0, 1, 2]) (slots := [94, 95, 96])
                (tab := [.int (m : Int), .int X, .int Y, .any, .any, .any])
                (D := [⟨r1, .int, none, 3, (.int (m : Int)), (.agg #[.bool ga, .int .u64 sa, .slice pa la ca])⟩, ⟨r2, .int, none, 4, (.int X), (.agg #[.bool g6, .int .u64 s6, .slice p6 l6 c6])⟩, ⟨r3, .int, none, 5, (.int Y), (.agg #[.bool gy, .int .u64 sy, .slice py ly cy])⟩])
                (F := [(.agg #[.bool ga, .int .u64 sa, .slice pa la ca], .int (m : Int)), (.agg #[.bool g6, .int .u64 s6, .slice p6 l6 c6], .int X), (.agg #[.bool gy, .int .u64 sy, .slice py ly cy], .int Y)])
                (by kernel_rfl) (by kernel_rfl) (by kernel_rfl) (by kernel_rfl) (by kernel_rfl) (by kernel_rfl) (by kernel_rfl) ?_ ?_ ?_ ?_ ?_
            · skip
              refine List.Pairwise.cons (fun y hy => ?_) ?_
              · simp only [List.mem_cons, List.not_mem_nil, or_false] at hy
                rcases hy with rfl | rfl
                · exact ⟨fun _ _ => (by assumption), by show 3 ≠ 4; decide, fun h => absurd rfl h⟩
                · exact ⟨fun _ _ => (by assumption), by show 3 ≠ 5; decide, fun h => absurd rfl h⟩
              refine List.Pairwise.cons (fun y hy => ?_) ?_
              · simp only [List.mem_cons, List.not_mem_nil, or_false] at hy
                rcases hy with rfl
                · exact ⟨fun _ _ => (by assumption), by show 4 ≠ 5; decide, fun h => absurd rfl h⟩
              refine List.Pairwise.cons (fun y hy => ?_) ?_
              · cases hy
              exact List.Pairwise.nil
            · intro f hf; simp only [List.mem_cons, List.not_mem_nil, or_false] at hf; rcases hf with rfl | rfl | rfl
              · exact ⟨_, _, _, _, _, rfl, I1.out⟩
              · exact ⟨_, _, _, _, _, rfl, I2.out⟩
              · exact ⟨_, _, _, _, _, rfl, I3.out⟩
            · intro x hx hal; simp only [List.mem_cons, List.not_mem_nil, or_false] at hx; rcases hx with rfl | rfl | rfl
              · exact ⟨OLD_r1.1, OLD_r1.2, OLD_r1.1.lt rfl⟩
              · exact ⟨OLD_r2.1, OLD_r2.2, OLD_r2.1.lt rfl⟩
              · exact ⟨OLD_r3.1, OLD_r3.2, OLD_r3.1.lt rfl⟩
            · skip
              refine AllTold.cons rfl (fun β E W hA hF hc hf hE hV hP hB hS => Or.inl ⟨rfl, (by kernel_rfl), ?_⟩) ?_
              · have e1 : E (.tmp 4) = .pointer (some ⟨r1, 0, none⟩) := hE 4 (by kernel_rfl)
                have hbx : BoxHas W r1 .int (.agg #[.bool ga, .int .u64 sa, .slice pa la ca]) := (hB _ mb0 (by kernel_rfl) (by kernel_rfl)).1
                have q0 := hbx.cell 0 _ rfl
                have q1 := hbx.cell 1 _ rfl
                have q2 := hbx.cell 2 _ rfl
                clear hE hV hP hB hS
                exact Does.value (v := .agg #[.bool ga, .int .u64 sa, .slice pa la ca]) (w' := W) (by go_simp) ⟨hF (_, _) mb0, Below.refl _ _⟩
              refine AllTold.cons rfl (fun β E W hA hF hc hf hE hV hP hB hS => Or.inl ⟨rfl, (by kernel_rfl), ?_⟩) ?_
              · have e1 : E (.tmp 5) = .pointer (some ⟨r2, 0, none⟩) := hE 5 (by kernel_rfl)
                have hbx : BoxHas W r2 .int (.agg #[.bool g6, .int .u64 s6, .slice p6 l6 c6]) := (hB _ mb1 (by kernel_rfl) (by kernel_rfl)).1
                have q0 := hbx.cell 0 _ rfl
                have q1 := hbx.cell 1 _ rfl
                have q2 := hbx.cell 2 _ rfl
                clear hE hV hP hB hS
                exact Does.value (v := .agg #[.bool g6, .int .u64 s6, .slice p6 l6 c6]) (w' := W) (by go_simp) ⟨hF (_, _) mb1, Below.refl _ _⟩
              refine AllTold.cons rfl (fun β E W hA hF hc hf hE hV hP hB hS => Or.inl ⟨rfl, (by kernel_rfl), ?_⟩) ?_
              · have e1 : E (.tmp 6) = .pointer (some ⟨r3, 0, none⟩) := hE 6 (by kernel_rfl)
                have hbx : BoxHas W r3 .int (.agg #[.bool gy, .int .u64 sy, .slice py ly cy]) := (hB _ mb2 (by kernel_rfl) (by kernel_rfl)).1
                have q0 := hbx.cell 0 _ rfl
                have q1 := hbx.cell 1 _ rfl
                have q2 := hbx.cell 2 _ rfl
                clear hE hV hP hB hS
                exact Does.value (v := .agg #[.bool gy, .int .u64 sy, .slice py ly cy]) (w' := W) (by go_simp) ⟨hF (_, _) mb2, Below.refl _ _⟩
              refine AllTold.cons rfl (fun β E W hA hF hc hf hE hV hP hB hS => Or.inr (Or.inl ⟨rfl, ⟨_, mb0, rfl, (by kernel_rfl), rfl, ?_⟩⟩)) ?_
              · have e1 : E (.tmp 4) = .pointer (some ⟨r1, 0, none⟩) := hE 4 (by kernel_rfl)
                have e2 : Means W (.int (m : Int)) (E (.tmp 94)) := hV 0 94 (by kernel_rfl) rfl
                obtain ⟨hbx, hfr⟩ := hB _ mb0 (by kernel_rfl) (by kernel_rfl)
                replace hbx : BoxHas W r1 .int _ := hbx
                replace hfr : BoxFree W r1 .int := hfr
                obtain ⟨_, _, _, _, _, _, q0, q1, q2⟩ := hbx.int
                have t0 := hfr 0 (by show 0 < 3; decide)
                have t1 := hfr 1 (by show 1 < 3; decide)
                have t2 := hfr 2 (by show 2 < 3; decide)
                obtain ⟨g, s, p, l, c, e2', hI⟩ := e2
                clear hE hV hP hB hS
                exact Does.skip (by go_simp) ⟨_, Stored.mkInt (b := r1), ⟨g, s, p, l, c, rfl, hI⟩⟩
              refine AllTold.cons rfl (fun β E W hA hF hc hf hE hV hP hB hS => Or.inr (Or.inl ⟨rfl, ⟨_, mb1, rfl, (by kernel_rfl), rfl, ?_⟩⟩)) ?_
              · have e1 : E (.tmp 5) = .pointer (some ⟨r2, 0, none⟩) := hE 5 (by kernel_rfl)
                have e2 : Means W (.int X) (E (.tmp 95)) := hV 1 95 (by kernel_rfl) rfl
                obtain ⟨hbx, hfr⟩ := hB _ mb1 (by kernel_rfl) (by kernel_rfl)
                replace hbx : BoxHas W r2 .int _ := hbx
                replace hfr : BoxFree W r2 .int := hfr
                obtain ⟨_, _, _, _, _, _, q0, q1, q2⟩ := hbx.int
                have t0 := hfr 0 (by show 0 < 3; decide)
                have t1 := hfr 1 (by show 1 < 3; decide)
                have t2 := hfr 2 (by show 2 < 3; decide)
                obtain ⟨g, s, p, l, c, e2', hI⟩ := e2
                clear hE hV hP hB hS
                exact Does.skip (by go_simp) ⟨_, Stored.mkInt (b := r2), ⟨g, s, p, l, c, rfl, hI⟩⟩
              refine AllTold.cons rfl (fun β E W hA hF hc hf hE hV hP hB hS => Or.inr (Or.inl ⟨rfl, ⟨_, mb2, rfl, (by kernel_rfl), rfl, ?_⟩⟩)) ?_
              · have e1 : E (.tmp 6) = .pointer (some ⟨r3, 0, none⟩) := hE 6 (by kernel_rfl)
                have e2 : Means W (.int Y) (E (.tmp 96)) := hV 2 96 (by kernel_rfl) rfl
                obtain ⟨hbx, hfr⟩ := hB _ mb2 (by kernel_rfl) (by kernel_rfl)
                replace hbx : BoxHas W r3 .int _ := hbx
                replace hfr : BoxFree W r3 .int := hfr
                obtain ⟨_, _, _, _, _, _, q0, q1, q2⟩ := hbx.int
                have t0 := hfr 0 (by show 0 < 3; decide)
                have t1 := hfr 1 (by show 1 < 3; decide)
                have t2 := hfr 2 (by show 2 < 3; decide)
                obtain ⟨g, s, p, l, c, e2', hI⟩ := e2
                clear hE hV hP hB hS
                exact Does.skip (by go_simp) ⟨_, Stored.mkInt (b := r3), ⟨g, s, p, l, c, rfl, hI⟩⟩
              exact AllTold.nil
            · intro β f W3 hf hS hN hA _ _ _ _
              obtain ⟨ga', sa', pa', la', ca', z0, z1, z2, j1⟩ := (show Says W3 r1 .int (.int (m : Int)) from (hS _ mb0).1).int
              obtain ⟨gb', sb', pb', lb', cb', z3, z4, z5, j2⟩ := (show Says W3 r2 .int (.int X) from (hS _ mb1).1).int
              obtain ⟨gc', sc', pc', lc', cc', z6, z7, z8, j3⟩ := (show Says W3 r3 .int (.int Y) from (hS _ mb2).1).int
              have HB3 := Lib.hid (HBW.out.trans (hA.below (B := w.heap.size) (by simp [oldBlocks]; exact ⟨zw, zw2, zw3⟩) HBW.out.size))
              rw [DM.out] at j1
              have J1 := Lib.hid j1; have J2 := Lib.hid j2; have J3 := Lib.hid j3
              clear hf hS hN hA j1 j2 j3
              simp only [fillSlots, List.setIfInBounds_toArray, List.set_cons_succ, List.set_cons_zero]
              go_wp2
              exact bodyPost_ret (v := .tuple #[.agg #[.bool ga', .int .u64 sa', .slice pa' la' ca'], .agg #[.bool gb', .int .u64 sb', .slice pb' lb' cb'], .agg #[.bool gc', .int .u64 sc', .slice pc' lc' cc']]) (by simp [results, Tryz.results28, go_sem, z0, z1, z2, z3, z4, z5, z6, z7, z8]) rfl
                ⟨X, Y, _, _, _, _, _, _, _, _, _, _, _, _, _, _, _, rfl, DSP.out, J1.out, J2.out, J3.out, HB3.out⟩
      · rw [cmp3_gt (show (0 : Int) < (n : Int) by omega)]
        have TD := Lib.hid (iDiv_any (m : Int) (n : Int) ga gc sa sc pa pc la ca lc cc w4 (by omega) (by rw [Int.natAbs_natCast]; have := SZ.out.1; omega) (by rw [Int.natAbs_natCast]; have := SZ.out.2.1; omega) IA.out IC.out)
        have hqd : qdiv (m : Int) (n : Int) = ((m / n : Nat) : Int) := by unfold qdiv; rw [if_pos (by omega)]; rfl
        rw [hqd] at TD
        have ST := Lib.hid (HI.out.step (by omega))
        have SQ : Hid ((ds (m / n)).length ≤ 20) := Lib.hid (by have := ds_mono (Nat.div_le_self m n); have := SZ.out.1; omega)
        have HR : Hid ((m : Int) - ((m / n : Nat) : Int) * n = ((m % n : Nat) : Int)) := Lib.hid (by have := Nat.div_add_mod m n; rw [Int.mul_comm, ← Int.natCast_mul]; omega)
        have HML := Lib.hid (Nat.mod_lt m hn0)
        obtain ⟨q, hq⟩ : ∃ q, q = m / n := ⟨_, rfl⟩
        obtain ⟨rr, hrr⟩ : ∃ r, r = m % n := ⟨_, rfl⟩
        rw [← hq] at TD SQ ST HR
        rw [← hrr] at ST HR HML
        clear hqd hq hrr
        go_wp2_with fail
        refine TD.out.mono ?_
        rintro e' w5 ⟨g4, s4, p4, l4, c4, g5, s5, p5, l5, c5, rfl, i4, i5, hb⟩
        have BZ := Lib.hid (BZ.out.mono hb); have HDN := Lib.hid (And.intro (HDN.out.1.mono hb) (HDN.out.2.mono HDN.out.1 hb))
        have IA := Lib.hid (IA.out.mono hb); have IB := Lib.hid (IB.out.mono hb); have IC := Lib.hid (IC.out.mono hb); have ID := Lib.hid (ID.out.mono hb); have I4 := Lib.hid i4
        clear D0 D1 D2 D3 D4 D5 D6 D7 D8 D9 D10 D11 hb TD i4 i5
        go_wp2
        obtain ⟨V2, hV⟩ : ∃ V, V = (w5.alloc (.cells #[.bool g4, .int .u64 s4, .slice p4 l4 c4] 28)).alloc (.cells #[.bool g5, .int .u64 s5, .slice p5 l5 c5] 28) := ⟨_, rfl⟩
        obtain ⟨k, hk⟩ : ∃ k, k = w5.heap.size := ⟨_, rfl⟩
        have hb : Below w5.heap.size w5 V2 := by rw [hV]; exact below_alloc (below_alloc (Below.refl _ _) _) _
        have Q0 : V2.cell? ⟨k, 0, none⟩ = some (.bool g4) := by simp [hV, hk, go_sem]
        have Q1 : V2.cell? ⟨k, 1, none⟩ = some (.int .u64 s4) := by simp [hV, hk, go_sem]
        have Q2 : V2.cell? ⟨k, 2, none⟩ = some (.slice p4 l4 c4) := by simp [hV, hk, go_sem]
        have nk : d < k := by rw [hk]; exact HDN.out.1.lt rfl
        rw [← hV]; try rw [← hk]
        have BZ := Lib.hid (BZ.out.mono hb); have HDN := Lib.hid (And.intro (HDN.out.1.mono hb) (HDN.out.2.mono HDN.out.1 hb))
        have IA := Lib.hid (IA.out.mono hb); have IB := Lib.hid (IB.out.mono hb); have IC := Lib.hid (IC.out.mono hb); have ID := Lib.hid (ID.out.mono hb); have I4 := Lib.hid (I4.out.mono hb)
        clear hV hk hb
        have OLD_d : BoxHas V2 d (.ints 4) (.agg #[.bool ga, .int .u64 sa, .slice pa la ca, .bool gb, .int .u64 sb, .slice pb lb cb, .bool gc, .int .u64 sc, .slice pc lc cc, .bool gd, .int .u64 sd, .slice pd ld cd]) ∧ BoxFree V2 d (.ints 4) := HDN.out
        have ir : k ∉ [d] := by simp; omega
        refine region_told (T := [0, 1, 2, 3, 4, 5, 6, 7, 8]) (slots := [53, 54, 55, 56, 57, 58, 59, 60, 61])
            (tab := [.is (.pointer (some ⟨d, 6, none⟩)), .that (ints [(n : Int), v]), .is (.pointer (some ⟨d, 0, none⟩)), .that (ints [(m : Int), u]), .int (q : Int), .is (.pointer (some ⟨d, 6, none⟩)), .that (ints [(n : Int), v]), .that (ints [(m : Int) - (q : Int) * n, u - (q : Int) * v]), .that (ints [(n : Int), v, (m : Int) - (q : Int) * n, u - (q : Int) * v]), .any])
            (D := [⟨d, (.ints 4), none, 9, (.that (ints [(n : Int), v, (m : Int) - (q : Int) * n, u - (q : Int) * v])), (.agg #[.bool ga, .int .u64 sa, .slice pa la ca, .bool gb, .int .u64 sb, .slice pb lb cb, .bool gc, .int .u64 sc, .slice pc lc cc, .bool gd, .int .u64 sd, .slice pd ld cd])⟩])
            (F := [(.agg #[.bool ga, .int .u64 sa, .slice pa la ca], .int (m : Int)), (.agg #[.bool gb, .int .u64 sb, .slice pb lb cb], .int u), (.agg #[.bool gc, .int .u64 sc, .slice pc lc cc], .int (n : Int)), (.agg #[.bool gd, .int .u64 sd, .slice pd ld cd], .int v), (.agg #[.bool g4, .int .u64 s4, .slice p4 l4 c4], .int (q : Int)), (.agg #[.bool g1, .int .u64 s1, .slice p1 l1 c1], .int x), (.agg #[.bool g2, .int .u64 s2, .slice p2 l2 c2], .int y)])
            (by kernel_rfl) (by kernel_rfl) (by kernel_rfl) (by kernel_rfl) (by kernel_rfl) (by kernel_rfl) (by kernel_rfl) ?_ ?_ ?_ ?_ ?_
        · skip
          refine List.Pairwise.cons (fun y hy => ?_) ?_
          · cases hy
          exact List.Pairwise.nil
        · intro f hf; simp only [List.mem_cons, List.not_mem_nil, or_false] at hf; rcases hf with rfl | rfl | rfl | rfl | rfl | rfl | rfl
          · exact ⟨_, _, _, _, _, rfl, IA.out⟩
          · exact ⟨_, _, _, _, _, rfl, IB.out⟩
          · exact ⟨_, _, _, _, _, rfl, IC.out⟩
          · exact ⟨_, _, _, _, _, rfl, ID.out⟩
          · exact ⟨_, _, _, _, _, rfl, I4.out⟩
          · exact ⟨_, _, _, _, _, rfl, BZ.out.i1⟩
          · exact ⟨_, _, _, _, _, rfl, BZ.out.i2⟩
        · intro x hx hal; simp only [List.mem_cons, List.not_mem_nil, or_false] at hx; rcases hx with rfl
          · exact ⟨OLD_d.1, OLD_d.2, OLD_d.1.lt rfl⟩
        · skip
          refine AllTold.cons rfl (fun β E W hA hF hc hf hE hV hP hB hS => Or.inl ⟨rfl, (by kernel_rfl), ?_⟩) ?_
          · have e1 : E (.tmp 8) = .pointer (some ⟨d, 0, none⟩) := hE 8 (by kernel_rfl)
            clear hE hV hP hB hS
            exact Does.value (w' := W) (by go_simp) ⟨rfl, Below.refl _ _⟩
          refine AllTold.cons rfl (fun β E W hA hF hc hf hE hV hP hB hS => Or.inl ⟨rfl, (by kernel_rfl), ?_⟩) ?_
          · have e1 : E (.tmp 53) = (.pointer (some ⟨d, 6, none⟩)) := hV 0 53 (by kernel_rfl) rfl
            have hbx : BoxHas W d (.ints 4) (.agg #[.bool ga, .int .u64 sa, .slice pa la ca, .bool gb, .int .u64 sb, .slice pb lb cb, .bool gc, .int .u64 sc, .slice pc lc cc, .bool gd, .int .u64 sd, .slice pd ld cd]) := (hB _ mb0 (by kernel_rfl) (by kernel_rfl)).1
            have q6 := hbx.cell 6 _ rfl
            have q7 := hbx.cell 7 _ rfl
            have q8 := hbx.cell 8 _ rfl
            have q9 := hbx.cell 9 _ rfl
            have q10 := hbx.cell 10 _ rfl
            have q11 := hbx.cell 11 _ rfl
            clear hE hV hP hB hS
            exact Does.value (v := .agg #[.bool gc, .int .u64 sc, .slice pc lc cc, .bool gd, .int .u64 sd, .slice pd ld cd]) (w' := W) (by go_simp) ⟨⟨_, rfl, ⟨_, _, _, _, _, _, rfl, (hF (_, _) mb2).isI, ⟨_, _, _, _, _, _, rfl, (hF (_, _) mb3).isI, rfl⟩⟩⟩, Below.refl _ _⟩
          refine AllTold.cons rfl (fun β E W hA hF hc hf hE hV hP hB hS => Or.inl ⟨rfl, (by kernel_rfl), ?_⟩) ?_
          · have e1 : E (.tmp 8) = .pointer (some ⟨d, 0, none⟩) := hE 8 (by kernel_rfl)
            clear hE hV hP hB hS
            exact Does.value (w' := W) (by go_simp) ⟨rfl, Below.refl _ _⟩
          refine AllTold.cons rfl (fun β E W hA hF hc hf hE hV hP hB hS => Or.inl ⟨rfl, (by kernel_rfl), ?_⟩) ?_
          · have e1 : E (.tmp 55) = (.pointer (some ⟨d, 0, none⟩)) := hV 2 55 (by kernel_rfl) rfl
            have hbx : BoxHas W d (.ints 4) (.agg #[.bool ga, .int .u64 sa, .slice pa la ca, .bool gb, .int .u64 sb, .slice pb lb cb, .bool gc, .int .u64 sc, .slice pc lc cc, .bool gd, .int .u64 sd, .slice pd ld cd]) := (hB _ mb0 (by kernel_rfl) (by kernel_rfl)).1
            have q0 := hbx.cell 0 _ rfl
            have q1 := hbx.cell 1 _ rfl
            have q2 := hbx.cell 2 _ rfl
            have q3 := hbx.cell 3 _ rfl
            have q4 := hbx.cell 4 _ rfl
            have q5 := hbx.cell 5 _ rfl
            clear hE hV hP hB hS
            exact Does.value (v := .agg #[.bool ga, .int .u64 sa, .slice pa la ca, .bool gb, .int .u64 sb, .slice pb lb cb]) (w' := W) (by go_simp) ⟨⟨_, rfl, ⟨_, _, _, _, _, _, rfl, (hF (_, _) mb0).isI, ⟨_, _, _, _, _, _, rfl, (hF (_, _) mb1).isI, rfl⟩⟩⟩, Below.refl _ _⟩
          refine AllTold.cons rfl (fun β E W hA hF hc hf hE hV hP hB hS => Or.inl ⟨rfl, (by kernel_rfl), ?_⟩) ?_
          · have e1 : E (.tmp 9) = .pointer (some ⟨k, 0, none⟩) := hE 9 (by kernel_rfl)
            have q0 := hA.cell Q0 ir
            have q1 := hA.cell Q1 ir
            have q2 := hA.cell Q2 ir
            clear hE hV hP hB hS
            exact Does.value (v := .agg #[.bool g4, .int .u64 s4, .slice p4 l4 c4]) (w' := W) (by go_simp) ⟨hF (_, _) mb4, Below.refl _ _⟩
          refine AllTold.cons rfl (fun β E W hA hF hc hf hE hV hP hB hS => Or.inl ⟨rfl, (by kernel_rfl), ?_⟩) ?_
          · have e1 : E (.tmp 8) = .pointer (some ⟨d, 0, none⟩) := hE 8 (by kernel_rfl)
            clear hE hV hP hB hS
            exact Does.value (w' := W) (by go_simp) ⟨rfl, Below.refl _ _⟩
          refine AllTold.cons rfl (fun β E W hA hF hc hf hE hV hP hB hS => Or.inl ⟨rfl, (by kernel_rfl), ?_⟩) ?_
          · have e1 : E (.tmp 58) = (.pointer (some ⟨d, 6, none⟩)) := hV 5 58 (by kernel_rfl) rfl
            have hbx : BoxHas W d (.ints 4) (.agg #[.bool ga, .int .u64 sa, .slice pa la ca, .bool gb, .int .u64 sb, .slice pb lb cb, .bool gc, .int .u64 sc, .slice pc lc cc, .bool gd, .int .u64 sd, .slice pd ld cd]) := (hB _ mb0 (by kernel_rfl) (by kernel_rfl)).1
            have q6 := hbx.cell 6 _ rfl
            have q7 := hbx.cell 7 _ rfl
            have q8 := hbx.cell 8 _ rfl
            have q9 := hbx.cell 9 _ rfl
            have q10 := hbx.cell 10 _ rfl
            have q11 := hbx.cell 11 _ rfl
            clear hE hV hP hB hS
            exact Does.value (v := .agg #[.bool gc, .int .u64 sc, .slice pc lc cc, .bool gd, .int .u64 sd, .slice pd ld cd]) (w' := W) (by go_simp) ⟨⟨_, rfl, ⟨_, _, _, _, _, _, rfl, (hF (_, _) mb2).isI, ⟨_, _, _, _, _, _, rfl, (hF (_, _) mb3).isI, rfl⟩⟩⟩, Below.refl _ _⟩
          refine AllTold.cons rfl (fun β E W hA hF hc hf hE hV hP hB hS => Or.inl ⟨rfl, (by kernel_rfl), ?_⟩) ?_
          · have e1 : Means W (.that (ints [(m : Int), u])) (E (.tmp 56)) := hV 3 56 (by kernel_rfl) rfl
            have e2 : Means W (.int (q : Int)) (E (.tmp 57)) := hV 4 57 (by kernel_rfl) rfl
            have e3 : Means W (.that (ints [(n : Int), v])) (E (.tmp 59)) := hV 6 59 (by kernel_rfl) rfl
            clear hE hV hP hB hS
            obtain ⟨cs1, e1', g6, s6, p6, l6, c6, k1, hc1, i1, g7, s7, p7, l7, c7, k2, hc2, i2, hc3⟩ := e1
            subst hc3; subst hc2; subst hc1
            obtain ⟨g8, s8, p8, l8, c8, e2', i3⟩ := e2
            obtain ⟨cs2, e3', g9, s9, p9, l9, c9, k3, hc1, i4, g0, s0, p0, l0, c0, k4, hc2, i5, hc3⟩ := e3
            subst hc3; subst hc2; subst hc1
            exact Does.call (w' := W) (by go_simp) ((less_any (m : Int) u (q : Int) (n : Int) v g6 g7 g8 g9 g0 s6 s7 s8 s9 s0 p6 p7 p8 p9 p0 l6 c6 l7 c7 l8 c8 l9 c9 l0 c0 W (by rw [Int.natAbs_natCast]; exact SZ.out.1) SZ.out.2.2.1 (by rw [Int.natAbs_natCast]; exact SQ.out) (by rw [Int.natAbs_natCast]; exact SZ.out.2.1) SZ.out.2.2.2 i1 i2 i3 i4 i5).mono fun e w' h => h.want)
          refine AllTold.cons rfl (fun β E W hA hF hc hf hE hV hP hB hS => Or.inl ⟨rfl, (by kernel_rfl), ?_⟩) ?_
          · have e1 : Means W (.that (ints [(n : Int), v])) (E (.tmp 54)) := hV 1 54 (by kernel_rfl) rfl
            have e2 : Means W (.that (ints [(m : Int) - (q : Int) * n, u - (q : Int) * v])) (E (.tmp 60)) := hV 7 60 (by kernel_rfl) rfl
            clear hE hV hP hB hS
            obtain ⟨cs1, e1', ga, sa, pa, la, ca, cs1', hc1, i1, gb, sb, pb, lb, cb, cs2', hc2, i2, hc3⟩ := e1
            subst hc3; subst hc2; subst hc1
            obtain ⟨cs2, e2', gc, sc, pc, lc, cc, cs3', hc1, i3, gd, sd, pd, ld, cd, cs4', hc2, i4, hc3⟩ := e2
            subst hc3; subst hc2; subst hc1
            exact Does.value (v := .agg #[.bool ga, .int .u64 sa, .slice pa la ca, .bool gb, .int .u64 sb, .slice pb lb cb, .bool gc, .int .u64 sc, .slice pc lc cc, .bool gd, .int .u64 sd, .slice pd ld cd]) (w' := W) (by go_simp) ⟨⟨_, rfl, ⟨_, _, _, _, _, _, rfl, i1, ⟨_, _, _, _, _, _, rfl, i2, ⟨_, _, _, _, _, _, rfl, i3, ⟨_, _, _, _, _, _, rfl, i4, rfl⟩⟩⟩⟩⟩, Below.refl _ _⟩
          refine AllTold.cons rfl (fun β E W hA hF hc hf hE hV hP hB hS => Or.inr (Or.inl ⟨rfl, ⟨_, mb0, rfl, (by kernel_rfl), rfl, ?_⟩⟩)) ?_
          · have e1 : E (.tmp 8) = .pointer (some ⟨d, 0, none⟩) := hE 8 (by kernel_rfl)
            have e2 : Means W (.that (ints [(n : Int), v, (m : Int) - (q : Int) * n, u - (q : Int) * v])) (E (.tmp 61)) := hV 8 61 (by kernel_rfl) rfl
            obtain ⟨hbx, hfr⟩ := hB _ mb0 (by kernel_rfl) (by kernel_rfl)
            replace hbx : BoxHas W d (.ints 4) (.agg #[.bool ga, .int .u64 sa, .slice pa la ca, .bool gb, .int .u64 sb, .slice pb lb cb, .bool gc, .int .u64 sc, .slice pc lc cc, .bool gd, .int .u64 sd, .slice pd ld cd]) := hbx
            replace hfr : BoxFree W d (.ints 4) := hfr
            have q0 := hbx.cell 0 _ rfl
            have q1 := hbx.cell 1 _ rfl
            have q2 := hbx.cell 2 _ rfl
            have q3 := hbx.cell 3 _ rfl
            have q4 := hbx.cell 4 _ rfl
            have q5 := hbx.cell 5 _ rfl
            have q6 := hbx.cell 6 _ rfl
            have q7 := hbx.cell 7 _ rfl
            have q8 := hbx.cell 8 _ rfl
            have q9 := hbx.cell 9 _ rfl
            have q10 := hbx.cell 10 _ rfl
            have q11 := hbx.cell 11 _ rfl
            have t0 := hfr 0 (by show 0 < 12; decide)
            have t1 := hfr 1 (by show 1 < 12; decide)
            have t2 := hfr 2 (by show 2 < 12; decide)
            have t3 := hfr 3 (by show 3 < 12; decide)
            have t4 := hfr 4 (by show 4 < 12; decide)
            have t5 := hfr 5 (by show 5 < 12; decide)
            have t6 := hfr 6 (by show 6 < 12; decide)
            have t7 := hfr 7 (by show 7 < 12; decide)
            have t8 := hfr 8 (by show 8 < 12; decide)
            have t9 := hfr 9 (by show 9 < 12; decide)
            have t10 := hfr 10 (by show 10 < 12; decide)
            have t11 := hfr 11 (by show 11 < 12; decide)
            obtain ⟨cs, e2', ga, sa, pa, la, ca, cs1', hc1, i1, gb, sb, pb, lb, cb, cs2', hc2, i2, gc, sc, pc, lc, cc, cs3', hc3, i3, gd, sd, pd, ld, cd, cs4', hc4, i4, hc5⟩ := e2
            subst hc5; subst hc4; subst hc3; subst hc2; subst hc1
            clear hE hV hP hB hS
            exact Does.skip (w' := ((((((((((((W.setCell ⟨d, 0, none⟩ (.bool ga)).setCell ⟨d, 1, none⟩ (.int .u64 sa)).setCell ⟨d, 2, none⟩ (.slice pa la ca)).setCell ⟨d, 3, none⟩ (.bool gb)).setCell ⟨d, 4, none⟩ (.int .u64 sb)).setCell ⟨d, 5, none⟩ (.slice pb lb cb)).setCell ⟨d, 6, none⟩ (.bool gc)).setCell ⟨d, 7, none⟩ (.int .u64 sc)).setCell ⟨d, 8, none⟩ (.slice pc lc cc)).setCell ⟨d, 9, none⟩ (.bool gd)).setCell ⟨d, 10, none⟩ (.int .u64 sd)).setCell ⟨d, 11, none⟩ (.slice pd ld cd))) (by go_simp)  ⟨_, (show Stored W _ (d) (.ints 4) (.agg #[.bool ga, .int .u64 sa, .slice pa la ca, .bool gb, .int .u64 sb, .slice pb lb cb, .bool gc, .int .u64 sc, .slice pc lc cc, .bool gd, .int .u64 sd, .slice pd ld cd]) from ⟨[.bool ga, .int .u64 sa, .slice pa la ca, .bool gb, .int .u64 sb, .slice pb lb cb, .bool gc, .int .u64 sc, .slice pc lc cc, .bool gd, .int .u64 sd, .slice pd ld cd], rfl, ⟨⟨_, rfl⟩, ⟨_, rfl⟩, ⟨_, _, _, rfl⟩, ⟨_, rfl⟩, ⟨_, rfl⟩, ⟨_, _, _, rfl⟩, ⟨_, rfl⟩, ⟨_, rfl⟩, ⟨_, _, _, rfl⟩, ⟨_, rfl⟩, ⟨_, rfl⟩, ⟨_, _, _, rfl⟩, trivial⟩, rfl⟩), ⟨_, rfl, ⟨_, _, _, _, _, _, rfl, i1, ⟨_, _, _, _, _, _, rfl, i2, ⟨_, _, _, _, _, _, rfl, i3, ⟨_, _, _, _, _, _, rfl, i4, rfl⟩⟩⟩⟩⟩⟩
          exact AllTold.nil
        · intro β f W' hf hS hN hA _ _ _ _
          obtain ⟨⟨v', hbx, cs, hv, hcs⟩, hfr⟩ := hS _ mb0
          replace hbx : BoxHas W' d (.ints 4) v' := hbx
          replace hfr : BoxFree W' d (.ints 4) := hfr
          obtain ⟨ga, sa, pa, la, ca, cs1', hc1, ia, gb, sb, pb, lb, cb, cs2', hc2, ib, gc, sc, pc, lc, cc, cs3', hc3, ic, gd, sd, pd, ld, cd, cs4', hc4, id', hc5⟩ := hcs
          subst hc5; subst hc4; subst hc3; subst hc2; subst hc1
          subst hv
          rw [HR.out] at ic
          have BZ := Lib.hid (BZ.out.away hA (by simp [oldBlocks]; exact nd) (hN (_, _) mb5).isI (hN (_, _) mb6).isI)
          have HDN := Lib.hid (And.intro hbx hfr)
          have IA := Lib.hid ia; have IB := Lib.hid ib; have IC := Lib.hid ic; have ID := Lib.hid id'
          clear hf hS hN hA hbx hfr ia ib ic id' OLD_d Q0 Q1 Q2
          simp only [fillSlots, List.setIfInBounds_toArray, List.set_cons_succ, List.set_cons_zero]
          go_wp2
          go_roundg rr
          case measure => have := HML.out; have := HGK.out; omega
          case rel => exact ⟨n, v, u - (q : Int) * v, _, _, _, _, _, _, _, _, _, _, _, _, _, _, _, _, _, _, _, _, ST, BZ, HDN, IA, IB, IC, ID⟩
end Go.Proofs.YtfjjmhbffbhhdaaGreatDoor
