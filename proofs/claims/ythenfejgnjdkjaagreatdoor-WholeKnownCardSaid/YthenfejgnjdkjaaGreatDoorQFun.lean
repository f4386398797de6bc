/- The greatest divisor of an integer and 0, and how it is made of them; of any two integers. -/
import Derived.Test.YthenfejgnjdkjaaGreatDoorBez
import Derived.Test.YthenfejgnjdkjaaGreatDoorGcd
import Derived.Test.YthenfejgnjdkjaaGreatDoorLaw2
import Derived.Test.YthenfejgnjdkjaaGreatDoorQNum
import Derived.Test.YthenfejgnjdkjaaGreatDoorFrm
import Derived.Test.YthenfejgnjdkjaaGreatDoorDivN
namespace Go.Proofs.YthenfejgnjdkjaaGreatDoor
open Go.RowKit

set_option maxRecDepth 100000 in
set_option maxHeartbeats 4000000 in
theorem bezout_none (x : Int) (g1 g2 : Bool) (s1 s2 : Int) (p1 p2 : Option Addr) (l1 c1 l2 c2 : Nat) (w : World) (hx : (ds x.natAbs).length ≤ 10) (h1 : IsI w g1 s1 p1 l1 c1 x) (h2 : IsI w g2 s2 p2 l2 c2 0) :
    Calls Tryz.prog 10 #[.agg #[.bool g1, .int .u64 s1, .slice p1 l1 c1], .agg #[.bool g2, .int .u64 s2, .slice p2 l2 c2]] w (RetBez w x 0) := by
  have hsx : -1 ≤ cmp3 x 0 ∧ cmp3 x 0 ≤ 1 := by unfold cmp3; split <;> (try split) <;> omega
  have T1 := Lib.hid (fun W a => iSign_any x g1 s1 p1 l1 c1 W a)
  have T2 := Lib.hid (fun W a => iSign_any 0 g2 s2 p2 l2 c2 W a)
  rw [cmp3_eq] at T2
  have T3 := Lib.hid (fun W => iOf_any (cmp3 x 0) W (by omega) (by omega))
  have SA := Lib.hid (sign_abs x)
  have DS : Hid ((ds (cmp3 x 0).natAbs).length ≤ 10) := Lib.hid (by rw [ds_one (by omega)]; omega)
  have HSX := Lib.hid (show cmp3 x 0 = cmp3 x 0 from rfl)
  obtain ⟨sx, hsx2⟩ : ∃ s, s = cmp3 x 0 := ⟨_, rfl⟩
  replace HSX := Lib.hid hsx2
  rw [← hsx2] at T1 T3 SA DS
  have HX := Lib.hid hx
  obtain ⟨W, a, b, r1, r2, r3, hW, e3, e2, e1, e0, ea, BZ⟩ := Bz.start w x 0 g1 g2 s1 s2 p1 p2 l1 c1 l2 c2 h1 h2
  have BZ := Lib.hid BZ
  clear hsx hsx2 hx h1 h2
  go_enter Tryz.func10, Tryz.ntmps10
  go_wp2_with fail
  rw [← hW, ← e3, ← e2, ← e1, ← e0, ← ea]
  clear hW e3 e2 e1 e0 ea
  refine (T1.out _ BZ.out.i1).mono ?_
  rintro e w1 ⟨rfl, hb⟩
  have BZ := Lib.hid (BZ.out.mono hb)
  clear hb T1
  go_wp2_with fail
  refine (T3.out _).mono ?_
  rintro e w2 ⟨g3, s3, p3, l3, c3, rfl, i3, hb⟩
  have BZ := Lib.hid (BZ.out.mono hb); have I3 := Lib.hid i3
  obtain ⟨B0, B1, B2⟩ := BZ.out.bB
  have zb : b < w2.heap.size := World.block_lt_of_cell? _ _ B0
  clear hb i3 T3
  go_wp2_with fail
  obtain ⟨V, hV⟩ : ∃ V, V = w2.alloc (.cells #[.bool g3, .int .u64 s3, .slice p3 l3 c3] 27) := ⟨_, rfl⟩
  obtain ⟨s, hs⟩ : ∃ s, s = w2.heap.size := ⟨_, rfl⟩
  have hb : Below w2.heap.size w2 V := by rw [hV]; exact below_alloc (Below.refl _ _) _
  have S0 : V.cell? ⟨s, 0, none⟩ = some (.bool g3) := by simp [hV, hs, go_sem]
  have S1 : V.cell? ⟨s, 1, none⟩ = some (.int .u64 s3) := by simp [hV, hs, go_sem]
  have S2 : V.cell? ⟨s, 2, none⟩ = some (.slice p3 l3 c3) := by simp [hV, hs, go_sem]
  have ns : r3 < s := by rw [hs]; exact BZ.out.ord.2.2.2.2.2
  rw [← hV]; try rw [← hs]
  have BZ := Lib.hid (BZ.out.mono hb); have I3 := Lib.hid (I3.out.mono hb)
  clear hV hs hb zb B0 B1 B2
  refine (T2.out _ BZ.out.i2).mono ?_
  rintro e w3 ⟨rfl, hb⟩
  have BZ := Lib.hid (BZ.out.mono hb); have I3 := Lib.hid (I3.out.mono hb)
  replace S0 := wcell hb S0; replace S1 := wcell hb S1; replace S2 := wcell hb S2
  clear hb T2
  go_wp2
  have od := BZ.out.ord
  obtain ⟨v1, o1⟩ := BZ.out.o1; obtain ⟨v2, o2⟩ := BZ.out.o2; obtain ⟨v3, o3⟩ := BZ.out.o3
  have OLD_r1 := And.intro o1 BZ.out.f1; have OLD_r2 := And.intro o2 BZ.out.f2; have OLD_r3 := And.intro o3 BZ.out.f3
  have n12 : r1 ≠ r2 := by omega
  have n13 : r1 ≠ r3 := by omega
  have n23 : r2 ≠ r3 := by omega
  have ia : a ∉ [r1, r2, r3] := by simp; omega
  have is : s ∉ [r1, r2, r3] := by simp; omega
  have zw : w.heap.size ≤ r1 := by omega
  have zw2 : w.heap.size ≤ r2 := by omega
  have zw3 : w.heap.size ≤ r3 := by omega
  clear od o1 o2 o3 ns
  refine region_told (T := [0, 1, 2, 3, 4]) (slots := [21, 22, 23, 24, 25])
      (tab := [.int x, .int sx, .int (x * sx), .int sx, .int 0, .any, .any, .any])
      (D := [⟨r1, .int, none, 5, (.int (x * sx)), v1⟩, ⟨r2, .int, none, 6, (.int sx), v2⟩, ⟨r3, .int, none, 7, (.int 0), v3⟩])
      (F := [(.agg #[.bool g1, .int .u64 s1, .slice p1 l1 c1], .int x), (.agg #[.bool g3, .int .u64 s3, .slice p3 l3 c3], .int sx)])
      (by kernel_rfl) (by kernel_rfl) (by kernel_rfl) (by kernel_rfl) (by kernel_rfl) (by kernel_rfl) (by kernel_rfl) ?_ ?_ ?_ ?_ ?_
  · skip
    refine List.Pairwise.cons (fun y hy => ?_) ?_
    · simp only [List.mem_cons, List.not_mem_nil, or_false] at hy
      rcases hy with rfl | rfl
      · exact ⟨fun _ _ => (by assumption), by show 5 ≠ 6; decide, fun h => absurd rfl h⟩
      · exact ⟨fun _ _ => (by assumption), by show 5 ≠ 7; decide, fun h => absurd rfl h⟩
    refine List.Pairwise.cons (fun y hy => ?_) ?_
    · simp only [List.mem_cons, List.not_mem_nil, or_false] at hy
      rcases hy with rfl
      · exact ⟨fun _ _ => (by assumption), by show 6 ≠ 7; decide, fun h => absurd rfl h⟩
    refine List.Pairwise.cons (fun y hy => ?_) ?_
    · cases hy
    exact List.Pairwise.nil
  · intro f hf; simp only [List.mem_cons, List.not_mem_nil, or_false] at hf; rcases hf with rfl | rfl
    · exact ⟨_, _, _, _, _, rfl, BZ.out.i1⟩
    · exact ⟨_, _, _, _, _, rfl, I3.out⟩
  · intro x hx hal; simp only [List.mem_cons, List.not_mem_nil, or_false] at hx; rcases hx with rfl | rfl | rfl
    · exact ⟨OLD_r1.1, OLD_r1.2, OLD_r1.1.lt rfl⟩
    · exact ⟨OLD_r2.1, OLD_r2.2, OLD_r2.1.lt rfl⟩
    · exact ⟨OLD_r3.1, OLD_r3.2, OLD_r3.1.lt rfl⟩
  · skip
    refine AllTold.cons rfl (fun β E W hA hF hc hf hE hV hP hB hS => Or.inl ⟨rfl, (by kernel_rfl), ?_⟩) ?_
    · have e1 : E (.tmp 2) = .pointer (some ⟨a, 0, none⟩) := hE 2 (by kernel_rfl)
      have q0 := hA.cell BZ.out.bA.1 ia
      have q1 := hA.cell BZ.out.bA.2.1 ia
      have q2 := hA.cell BZ.out.bA.2.2 ia
      clear hE hV hP hB hS
      exact Does.value (v := .agg #[.bool g1, .int .u64 s1, .slice p1 l1 c1]) (w' := W) (by go_simp) ⟨hF (_, _) mb0, Below.refl _ _⟩
    refine AllTold.cons rfl (fun β E W hA hF hc hf hE hV hP hB hS => Or.inl ⟨rfl, (by kernel_rfl), ?_⟩) ?_
    · have e1 : E (.tmp 7) = .pointer (some ⟨s, 0, none⟩) := hE 7 (by kernel_rfl)
      have q0 := hA.cell S0 is
      have q1 := hA.cell S1 is
      have q2 := hA.cell S2 is
      clear hE hV hP hB hS
      exact Does.value (v := .agg #[.bool g3, .int .u64 s3, .slice p3 l3 c3]) (w' := W) (by go_simp) ⟨hF (_, _) mb1, Below.refl _ _⟩
    refine AllTold.cons rfl (fun β E W hA hF hc hf hE hV hP hB hS => Or.inl ⟨rfl, (by kernel_rfl), ?_⟩) ?_
    · have e1 : Means W (.int x) (E (.tmp 21)) := hV 0 21 (by kernel_rfl) rfl
      have e2 : Means W (.int sx) (E (.tmp 22)) := hV 1 22 (by kernel_rfl) rfl
      clear hE hV hP hB hS
      exact Does.call (w' := W) (by go_simp) ((iMul_want W _ _ x sx (by have := HX.out; omega) (by have := DS.out; omega) e1 e2).mono fun e w' ⟨v, h1, h2, h3⟩ => ⟨v, h1, h2, h3⟩)
    refine AllTold.cons rfl (fun β E W hA hF hc hf hE hV hP hB hS => Or.inl ⟨rfl, (by kernel_rfl), ?_⟩) ?_
    · have e1 : E (.tmp 7) = .pointer (some ⟨s, 0, none⟩) := hE 7 (by kernel_rfl)
      have q0 := hA.cell S0 is
      have q1 := hA.cell S1 is
      have q2 := hA.cell S2 is
      clear hE hV hP hB hS
      exact Does.value (v := .agg #[.bool g3, .int .u64 s3, .slice p3 l3 c3]) (w' := W) (by go_simp) ⟨hF (_, _) mb1, Below.refl _ _⟩
    refine AllTold.cons rfl (fun β E W hA hF hc hf hE hV hP hB hS => Or.inl ⟨rfl, (by kernel_rfl), ?_⟩) ?_
    · clear hE hV hP hB hS
      exact Does.value (v := .agg #[.bool false, .int .u64 0, .slice none 0 0]) (w' := W) (by go_simp) ⟨⟨_, _, _, _, _, rfl, ⟨rfl, Or.inl ⟨by decide, rfl, rfl, rfl, rfl⟩⟩⟩, Below.refl _ _⟩
    refine AllTold.cons rfl (fun β E W hA hF hc hf hE hV hP hB hS => Or.inr (Or.inl ⟨rfl, ⟨_, mb0, rfl, (by kernel_rfl), rfl, ?_⟩⟩)) ?_
    · have e1 : E (.tmp 4) = .pointer (some ⟨r1, 0, none⟩) := hE 4 (by kernel_rfl)
      have e2 : Means W (.int (x * sx)) (E (.tmp 23)) := hV 2 23 (by kernel_rfl) rfl
      obtain ⟨hbx, hfr⟩ := hB _ mb0 (by kernel_rfl) (by kernel_rfl)
      replace hbx : BoxHas W r1 .int _ := hbx
      replace hfr : BoxFree W r1 .int := hfr
      obtain ⟨_, _, _, _, _, _, q0, q1, q2⟩ := hbx.int
      have t0 := hfr 0 (by show 0 < 3; decide)
      have t1 := hfr 1 (by show 1 < 3; decide)
      have t2 := hfr 2 (by show 2 < 3; decide)
      obtain ⟨g, s, p, l, c, e2', hI⟩ := e2
      clear hE hV hP hB hS
      exact Does.skip (by go_simp) ⟨_, Stored.mkInt (b := r1), ⟨g, s, p, l, c, rfl, hI⟩⟩
    refine AllTold.cons rfl (fun β E W hA hF hc hf hE hV hP hB hS => Or.inr (Or.inl ⟨rfl, ⟨_, mb1, rfl, (by kernel_rfl), rfl, ?_⟩⟩)) ?_
    · have e1 : E (.tmp 5) = .pointer (some ⟨r2, 0, none⟩) := hE 5 (by kernel_rfl)
      have e2 : Means W (.int sx) (E (.tmp 24)) := hV 3 24 (by kernel_rfl) rfl
      obtain ⟨hbx, hfr⟩ := hB _ mb1 (by kernel_rfl) (by kernel_rfl)
      replace hbx : BoxHas W r2 .int _ := hbx
      replace hfr : BoxFree W r2 .int := hfr
      obtain ⟨_, _, _, _, _, _, q0, q1, q2⟩ := hbx.int
      have t0 := hfr 0 (by show 0 < 3; decide)
      have t1 := hfr 1 (by show 1 < 3; decide)
      have t2 := hfr 2 (by show 2 < 3; decide)
      obtain ⟨g, s, p, l, c, e2', hI⟩ := e2
      clear hE hV hP hB hS
      exact Does.skip (by go_simp) ⟨_, Stored.mkInt (b := r2), ⟨g, s, p, l, c, rfl, hI⟩⟩
    refine AllTold.cons rfl (fun β E W hA hF hc hf hE hV hP hB hS => Or.inr (Or.inl ⟨rfl, ⟨_, mb2, rfl, (by kernel_rfl), rfl, ?_⟩⟩)) ?_
    · have e1 : E (.tmp 6) = .pointer (some ⟨r3, 0, none⟩) := hE 6 (by kernel_rfl)
      have e2 : Means W (.int 0) (E (.tmp 25)) := hV 4 25 (by kernel_rfl) rfl
      obtain ⟨hbx, hfr⟩ := hB _ mb2 (by kernel_rfl) (by kernel_rfl)
      replace hbx : BoxHas W r3 .int _ := hbx
      replace hfr : BoxFree W r3 .int := hfr
      obtain ⟨_, _, _, _, _, _, q0, q1, q2⟩ := hbx.int
      have t0 := hfr 0 (by show 0 < 3; decide)
      have t1 := hfr 1 (by show 1 < 3; decide)
      have t2 := hfr 2 (by show 2 < 3; decide)
      obtain ⟨g, s, p, l, c, e2', hI⟩ := e2
      clear hE hV hP hB hS
      exact Does.skip (by go_simp) ⟨_, Stored.mkInt (b := r3), ⟨g, s, p, l, c, rfl, hI⟩⟩
    exact AllTold.nil
  · intro β f W3 hf hS hN hA _ _ _ _
    obtain ⟨ga', sa', pa', la', ca', z0, z1, z2, j1⟩ := (show Says W3 r1 .int (.int (x * sx)) from (hS _ mb0).1).int
    obtain ⟨gb', sb', pb', lb', cb', z3, z4, z5, j2⟩ := (show Says W3 r2 .int (.int sx) from (hS _ mb1).1).int
    obtain ⟨gc', sc', pc', lc', cc', z6, z7, z8, j3⟩ := (show Says W3 r3 .int (.int 0) from (hS _ mb2).1).int
    have HB3 := Lib.hid (BZ.out.hb.trans (hA.below (B := w.heap.size) (by simp [oldBlocks]; exact ⟨zw, zw2, zw3⟩) BZ.out.hb.size))
    rw [SA.out] at j1
    have J1 := Lib.hid j1; have J2 := Lib.hid j2; have J3 := Lib.hid j3
    clear hf hS hN hA j1 j2 j3
    simp only [fillSlots, List.setIfInBounds_toArray, List.set_cons_succ, List.set_cons_zero]
    go_wp2
    refine bodyPost_ret (v := .tuple #[.agg #[.bool ga', .int .u64 sa', .slice pa' la' ca'], .agg #[.bool gb', .int .u64 sb', .slice pb' lb' cb'], .agg #[.bool gc', .int .u64 sc', .slice pc' lc' cc']]) (by simp [results, Tryz.results10, go_sem, z0, z1, z2, z3, z4, z5, z6, z7, z8]) rfl ?_
    exact ⟨sx, 0, _, _, _, _, _, _, _, _, _, _, _, _, _, _, _, rfl, ⟨fun _ => ⟨HSX.out, rfl⟩, fun h => absurd rfl h⟩, by rw [show (0 : Int).natAbs = 0 from rfl, Nat.gcd_zero_right]; exact J1.out, J2.out, J3.out, HB3.out⟩
end Go.Proofs.YthenfejgnjdkjaaGreatDoor

/- What the law of Bezout's factors rests on. -/
namespace Go.Proofs.YthenfejgnjdkjaaGreatDoor
open Go.RowKit

theorem sized_of {m : Nat} (h : (ds m).length ≤ 100) : Sized m := by
  intro k hk
  have h1 := ds_mono hk
  have h2 := bitLen_ds k
  have h3 := bitLen_lt_pow.1 (getD_lt (ds_lt k) (by omega) ((ds k).length - 1))
  exact ⟨by omega, by omega⟩
theorem iGcd_val (w : World) (u v : Value) (x y : Int) (n : Nat) (hn : Nat.gcd x.natAbs y.natAbs = n) (hx : (ds x.natAbs).length ≤ 40) (hy : (ds y.natAbs).length ≤ 40) (hT : Tab64 w) (h1 : INum w u x) (h2 : INum w v y) :
    Calls Tryz.prog 14 #[u, v] w fun e w' => ∃ v', e = .returned v' ∧ Num w' v' n ∧ Below w.heap.size w w' := by
  obtain ⟨g, s, p, l, c, rfl, h1⟩ := h1
  obtain ⟨f, t, q, k, d, rfl, h2⟩ := h2
  subst hn
  exact (gcd_any (x.natAbs + y.natAbs) x.natAbs y.natAbs g f s t p q l c k d w (sized_of (by have := ds_add x.natAbs y.natAbs; omega)) (by omega) (by omega) h1.2 h2.2 hT).mono fun e w' ⟨s, p, l, c, h, hi, hb⟩ => ⟨_, h, ⟨s, p, l, c, rfl, hi⟩, hb⟩
theorem iAbs_val (w : World) (u : Value) (z : Int) (n : Nat) (hn : z.natAbs = n) (h : INum w u z) : Calls Tryz.prog 17 #[u] w fun e w' => ∃ v', e = .returned v' ∧ Num w' v' n ∧ Below w.heap.size w w' := by
  subst hn; exact iAbs_want w u z h
theorem run_iGcd : RowKit.Hid (∀ (a : Array Value) (w : World), Sem.run Tryz.prog (callFunc 14 a) w = .ok (.enter 14 a) w) := fun a w => by go_simp
theorem run_iFrom : RowKit.Hid (∀ (a : Array Value) (w : World), Sem.run Tryz.prog (callFunc 16 a) w = .ok (.enter 16 a) w) := fun a w => by go_simp
theorem run_nText : RowKit.Hid (∀ (a : Array Value) (w : World), Sem.run Tryz.prog (callFunc 30 a) w = .ok (.enter 30 a) w) := fun a w => by go_simp
end Go.Proofs.YthenfejgnjdkjaaGreatDoor

/- The program's fractions: their records, boxes of them, single operations on them. -/
namespace Go.Proofs.YthenfejgnjdkjaaGreatDoor
open Go.RowKit

theorem BoxHas.frac {w : World} {b : Nat} {v : Value} (h : BoxHas w b .frac v) : ∃ g s p l c t q k d, v = .agg #[.bool g, .int .u64 s, .slice p l c, .int .u64 t, .slice q k d] ∧ w.cell? ⟨b, 0, none⟩ = some (.bool g) ∧ w.cell? ⟨b, 1, none⟩ = some (.int .u64 s) ∧ w.cell? ⟨b, 2, none⟩ = some (.slice p l c) ∧ w.cell? ⟨b, 3, none⟩ = some (.int .u64 t) ∧ w.cell? ⟨b, 4, none⟩ = some (.slice q k d) := by
  obtain ⟨cs, rfl, hf, hc⟩ := h
  match cs, hf with
  | [a, b', c', d', e'], hf =>
    obtain ⟨⟨g, rfl⟩, ⟨s, rfl⟩, ⟨p, l, c, rfl⟩, ⟨t, rfl⟩, ⟨q, k, d, rfl⟩, -⟩ := hf
    exact ⟨_, _, _, _, _, _, _, _, _, rfl, hc 0 _ rfl, hc 1 _ rfl, hc 2 _ rfl, hc 3 _ rfl, hc 4 _ rfl⟩
section
variable {P : Program} {E : Operand → Value} {w : World} {d : Option Tmp} {ty : TypeId} {pos : String} {af : Array Edge} {gd : Option (Nat × Bool)}
end
end Go.Proofs.YthenfejgnjdkjaaGreatDoor

/- The small functions of package frac. -/
namespace Go.Proofs.YthenfejgnjdkjaaGreatDoor
open Go.RowKit

theorem run_Of : RowKit.Hid (∀ (a : Array Value) (w : World), Sem.run Tryz.prog (callFunc 18 a) w = .ok (.enter 18 a) w) := fun a w => by go_simp
theorem run_iDiv : RowKit.Hid (∀ (a : Array Value) (w : World), Sem.run Tryz.prog (callFunc 5 a) w = .ok (.enter 5 a) w) := fun a w => by go_simp
theorem run_nSmall : RowKit.Hid (∀ (a : Array Value) (w : World), Sem.run Tryz.prog (callFunc 25 a) w = .ok (.enter 25 a) w) := fun a w => by go_simp
theorem small_lt (w : World) (u : Value) (n : Nat) (hn : n < 2 ^ 64) (h : Num w u n) : Calls Tryz.prog 25 #[u] w (Gives w (.two (.is (.int .u64 (n : Int))) (.is (.bool true)))) := by
  obtain ⟨s, p, l, c, rfl, h | h⟩ := h
  · obtain ⟨-, rfl, -, rfl, -⟩ := h
    exact (nsmall_any _ p 0 c w).mono fun _ _ ⟨h, hb⟩ => ⟨_, h, ⟨_, _, rfl, rfl, rfl⟩, hb⟩
  · omega
theorem of_gives (n : Nat) (hn : n < 2 ^ 64) (w : World) : Calls Tryz.prog 18 #[.int .u64 (n : Int)] w (Gives w (.num n)) :=
  (of_any _ w).mono fun _ _ ⟨h, hb⟩ => ⟨_, h, ⟨_, _, _, _, rfl, Or.inl ⟨hn, rfl, rfl, rfl, rfl⟩⟩, hb⟩
end Go.Proofs.YthenfejgnjdkjaaGreatDoor
