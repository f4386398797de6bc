/- The greatest divisor of an integer and 0, and how it is made of them; of any two integers. -/
import Derived.Test.YthjeidgmkkkmbaaGreatDoorBez
import Derived.Test.YthjeidgmkkkmbaaGreatDoorQuot
import Derived.Test.YthjeidgmkkkmbaaGreatDoorGcd
namespace Go.Proofs.YthjeidgmkkkmbaaGreatDoor
open Go.RowKit

set_option maxRecDepth 100000 in
set_option maxHeartbeats 4000000 in
theorem bezout_none (x : Int) (g1 g2 : Bool) (s1 s2 : Int) (p1 p2 : Option Addr) (l1 c1 l2 c2 : Nat) (w : World) (hx : (ds x.natAbs).length ≤ 10) (h1 : IsI w g1 s1 p1 l1 c1 x) (h2 : IsI w g2 s2 p2 l2 c2 0) :
    Calls Tryz.prog 18 #[.agg #[.bool g1, .int .u64 s1, .slice p1 l1 c1], .agg #[.bool g2, .int .u64 s2, .slice p2 l2 c2]] w (RetBez w x 0) := by
  have hsx : -1 ≤ cmp3 x 0 ∧ cmp3 x 0 ≤ 1 := by unfold cmp3; split <;> (try split) <;> omega
  have T1 := Lib.hid (fun W a => iSign_any x g1 s1 p1 l1 c1 W a)
  have T2 := Lib.hid (fun W a => iSign_any 0 g2 s2 p2 l2 c2 W a)
  rw [cmp3_eq] at T2
  have T3 := Lib.hid (fun W => iOf_any (cmp3 x 0) W (by omega) (by omega))
  have SA := Lib.hid (sign_abs x)
  have DS : Hid ((ds (cmp3 x 0).natAbs).length ≤ 10) := Lib.hid (by rw [ds_one (by omega)]; omega)
  have HSX := Lib.hid (show cmp3 x 0 = cmp3 x 0 from rfl)
  obtain ⟨sx, hsx2⟩ : ∃ s, s = cmp3 x 0 := ⟨_, rfl⟩
  replace HSX := Lib.hid hsx2
  rw [← hsx2] at T1 T3 SA DS
  have HX := Lib.hid hx
  obtain ⟨W, a, b, r1, r2, r3, hW, e3, e2, e1, e0, ea, BZ⟩ := Bz.start w x 0 g1 g2 s1 s2 p1 p2 l1 c1 l2 c2 h1 h2
  have BZ := Lib.hid BZ
  clear hsx hsx2 hx h1 h2
  go_enter Tryz.func18, Tryz.ntmps18
  go_wp2_with fail
  rw [← hW, ← e3, ← e2, ← e1, ← e0, ← ea]
  clear hW e3 e2 e1 e0 ea
  refine (T1.out _ BZ.out.i1).mono ?_
  rintro e w1 ⟨rfl, hb⟩
  have BZ := Lib.hid (BZ.out.mono hb)
  clear hb T1
  go_wp2_with fail
  refine (T3.out _).mono ?_
  rintro e w2 ⟨g3, s3, p3, l3, c3, rfl, i3, hb⟩
  have BZ := Lib.hid (BZ.out.mono hb); have I3 := Lib.hid i3
  obtain ⟨B0, B1, B2⟩ := BZ.out.bB
  have zb : b < w2.heap.size := World.block_lt_of_cell? _ _ B0
  clear hb i3 T3
  go_wp2_with fail
  obtain ⟨V, hV⟩ : ∃ V, V = w2.alloc (.cells #[.bool g3, .int .u64 s3, .slice p3 l3 c3] 28) := ⟨_, rfl⟩
  obtain ⟨s, hs⟩ : ∃ s, s = w2.heap.size := ⟨_, rfl⟩
  have hb : Below w2.heap.size w2 V := by rw [hV]; exact below_alloc (Below.refl _ _) _
  have S0 : V.cell? ⟨s, 0, none⟩ = some (.bool g3) := by simp [hV, hs, go_sem]
  have S1 : V.cell? ⟨s, 1, none⟩ = some (.int .u64 s3) := by simp [hV, hs, go_sem]
  have S2 : V.cell? ⟨s, 2, none⟩ = some (.slice p3 l3 c3) := by simp [hV, hs, go_sem]
  have ns : r3 < s := by rw [hs]; exact BZ.out.ord.2.2.2.2.2
  rw [← hV]; try rw [← hs]
  have BZ := Lib.hid (BZ.out.mono hb); have I3 := Lib.hid (I3.out.mono hb)
  clear hV hs hb zb B0 B1 B2
  refine (T2.out _ BZ.out.i2).mono ?_
  rintro e w3 ⟨rfl, hb⟩
  have BZ := Lib.hid (BZ.out.mono hb); have I3 := Lib.hid (I3.out.mono hb)
  replace S0 := wcell hb S0; replace S1 := wcell hb S1; replace S2 := wcell hb S2
  clear hb T2
  go_wp2
  have od := BZ.out.ord
  obtain ⟨v1, o1⟩ := BZ.out.o1; obtain ⟨v2, o2⟩ := BZ.out.o2; obtain ⟨v3, o3⟩ := BZ.out.o3
  have OLD_r1 := And.intro o1 BZ.out.f1; have OLD_r2 := And.intro o2 BZ.out.f2; have OLD_r3 := And.intro o3 BZ.out.f3
  have n12 : r1 ≠ r2 := by omega
  have n13 : r1 ≠ r3 := by omega
  have n23 : r2 ≠ r3 := by omega
  have ia : a ∉ [r1, r2, r3] := by simp; omega
  have is : s ∉ [r1, r2, r3] := by simp; omega
  have zw : w.heap.size ≤ r1 := by omega
  have zw2 : w.heap.size ≤ r2 := by omega
  have zw3 : w.heap.size ≤ r3 := by omega
  clear od o1 o2 o3 ns
  refine region_told (T := [0, 1, 2, 3, 4]) (slots := [21, 22, 23, 24, 25])
      (tab := [.int x, .int sx, .int (x * sx), .int sx, .int 0, .any, .any, .any])
      (D := [⟨r1, .int, none, 5, (.int (x * sx)), v1⟩, ⟨r2, .int, none, 6, (.int sx), v2⟩, ⟨r3, .int, none, 7, (.int 0), v3⟩])
      (F := [(.agg #[.bool g1, .int .u64 s1, .slice p1 l1 c1], .int x), (.agg #[.bool g3, .int .u64 s3, .slice p3 l3 c3], .int sx)])
      (by kernel_rfl) (by kernel_rfl) (by kernel_rfl) (by kernel_rfl) (by kernel_rfl) (by kernel_rfl) (by kernel_rfl) ?_ ?_ ?_ ?_ ?_
  · skip
    refine List.Pairwise.cons (fun y hy => ?_) ?_
    · simp only [List.mem_cons, List.not_mem_nil, or_false] at hy
      rcases hy with rfl | rfl
      · exact ⟨fun _ _ => (by assumption), by show 5 ≠ 6; decide, fun h => absurd rfl h⟩
      · exact ⟨fun _ _ => (by assumption), by show 5 ≠ 7; decide, fun h => absurd rfl h⟩
    refine List.Pairwise.cons (fun y hy => ?_) ?_
    · simp only [List.mem_cons, List.not_mem_nil, or_false] at hy
      rcases hy with rfl
      · exact ⟨fun _ _ => (by assumption), by show 6 ≠ 7; decide, fun h => absurd rfl h⟩
    refine List.Pairwise.cons (fun y hy => ?_) ?_
    · cases hy
    exact List.Pairwise.nil
  · intro f hf; simp only [List.mem_cons, List.not_mem_nil, or_false] at hf; rcases hf with rfl | rfl
    · exact ⟨_, _, _, _, _, rfl, BZ.out.i1⟩
    · exact ⟨_, _, _, _, _, rfl, I3.out⟩
  · intro x hx hal; simp only [List.mem_cons, List.not_mem_nil, or_false] at hx; rcases hx with rfl | rfl | rfl
    · exact ⟨OLD_r1.1, OLD_r1.2, OLD_r1.1.lt rfl⟩
    · exact ⟨OLD_r2.1, OLD_r2.2, OLD_r2.1.lt rfl⟩
    · exact ⟨OLD_r3.1, OLD_r3.2, OLD_r3.1.lt rfl⟩
  · skip
    refine AllTold.cons rfl (fun β E W hA hF hc hf hE hV hP hB hS => Or.inl ⟨rfl, (by kernel_rfl), ?_⟩) ?_
    · have e1 : E (.tmp 2) = .pointer (some ⟨a, 0, none⟩) := hE 2 (by kernel_rfl)
      have q0 := hA.cell BZ.out.bA.1 ia
      have q1 := hA.cell BZ.out.bA.2.1 ia
      have q2 := hA.cell BZ.out.bA.2.2 ia
      clear hE hV hP hB hS
      exact Does.value (v := .agg #[.bool g1, .int .u64 s1, .slice p1 l1 c1]) (w' := W) (by go_simp) ⟨hF (_, _) mb0, Below.refl _ _⟩
    refine AllTold.cons rfl (fun β E W hA hF hc hf hE hV hP hB hS => Or.inl ⟨rfl, (by kernel_rfl), ?_⟩) ?_
    · have e1 : E (.tmp 7) = .pointer (some ⟨s, 0, none⟩) := hE 7 (by kernel_rfl)
      have q0 := hA.cell S0 is
      have q1 := hA.cell S1 is
      have q2 := hA.cell S2 is
      clear hE hV hP hB hS
      exact Does.value (v := .agg #[.bool g3, .int .u64 s3, .slice p3 l3 c3]) (w' := W) (by go_simp) ⟨hF (_, _) mb1, Below.refl _ _⟩
    refine AllTold.cons rfl (fun β E W hA hF hc hf hE hV hP hB hS => Or.inl ⟨rfl, (by kernel_rfl), ?_⟩) ?_
    · have e1 : Means W (.int x) (E (.tmp 21)) := hV 0 21 (by kernel_rfl) rfl
      have e2 : Means W (.int sx) (E (.tmp 22)) := hV 1 22 (by kernel_rfl) rfl
      clear hE hV hP hB hS
      exact Does.call (w' := W) (by go_simp) ((iMul_want W _ _ x sx (by have := HX.out; omega) (by have := DS.out; omega) e1 e2).mono fun e w' ⟨v, h1, h2, h3⟩ => ⟨v, h1, h2, h3⟩)
    refine AllTold.cons rfl (fun β E W hA hF hc hf hE hV hP hB hS => Or.inl ⟨rfl, (by kernel_rfl), ?_⟩) ?_
    · have e1 : E (.tmp 7) = .pointer (some ⟨s, 0, none⟩) := hE 7 (by kernel_rfl)
      have q0 := hA.cell S0 is
      have q1 := hA.cell S1 is
      have q2 := hA.cell S2 is
      clear hE hV hP hB hS
      exact Does.value (v := .agg #[.bool g3, .int .u64 s3, .slice p3 l3 c3]) (w' := W) (by go_simp) ⟨hF (_, _) mb1, Below.refl _ _⟩
    refine AllTold.cons rfl (fun β E W hA hF hc hf hE hV hP hB hS => Or.inl ⟨rfl, (by kernel_rfl), ?_⟩) ?_
    · clear hE hV hP hB hS
      exact Does.value (v := .agg #[.bool false, .int .u64 0, .slice none 0 0]) (w' := W) (by go_simp) ⟨⟨_, _, _, _, _, rfl, ⟨rfl, Or.inl ⟨by decide, rfl, rfl, rfl, rfl⟩⟩⟩, Below.refl _ _⟩
    refine AllTold.cons rfl (fun β E W hA hF hc hf hE hV hP hB hS => Or.inr (Or.inl ⟨rfl, ⟨_, mb0, rfl, (by kernel_rfl), rfl, ?_⟩⟩)) ?_
    · have e1 : E (.tmp 4) = .pointer (some ⟨r1, 0, none⟩) := hE 4 (by kernel_rfl)
      have e2 : Means W (.int (x * sx)) (E (.tmp 23)) := hV 2 23 (by kernel_rfl) rfl
      obtain ⟨hbx, hfr⟩ := hB _ mb0 (by kernel_rfl) (by kernel_rfl)
      replace hbx : BoxHas W r1 .int _ := hbx
      replace hfr : BoxFree W r1 .int := hfr
      obtain ⟨_, _, _, _, _, _, q0, q1, q2⟩ := hbx.int
      have t0 := hfr 0 (by show 0 < 3; decide)
      have t1 := hfr 1 (by show 1 < 3; decide)
      have t2 := hfr 2 (by show 2 < 3; decide)
      obtain ⟨g, s, p, l, c, e2', hI⟩ := e2
      clear hE hV hP hB hS
      exact Does.skip (by go_simp) ⟨_, Stored.mkInt (b := r1), ⟨g, s, p, l, c, rfl, hI⟩⟩
    refine AllTold.cons rfl (fun β E W hA hF hc hf hE hV hP hB hS => Or.inr (Or.inl ⟨rfl, ⟨_, mb1, rfl, (by kernel_rfl), rfl, ?_⟩⟩)) ?_
    · have e1 : E (.tmp 5) = .pointer (some ⟨r2, 0, none⟩) := hE 5 (by kernel_rfl)
      have e2 : Means W (.int sx) (E (.tmp 24)) := hV 3 24 (by kernel_rfl) rfl
      obtain ⟨hbx, hfr⟩ := hB _ mb1 (by kernel_rfl) (by kernel_rfl)
      replace hbx : BoxHas W r2 .int _ := hbx
      replace hfr : BoxFree W r2 .int := hfr
      obtain ⟨_, _, _, _, _, _, q0, q1, q2⟩ := hbx.int
      have t0 := hfr 0 (by show 0 < 3; decide)
      have t1 := hfr 1 (by show 1 < 3; decide)
      have t2 := hfr 2 (by show 2 < 3; decide)
      obtain ⟨g, s, p, l, c, e2', hI⟩ := e2
      clear hE hV hP hB hS
      exact Does.skip (by go_simp) ⟨_, Stored.mkInt (b := r2), ⟨g, s, p, l, c, rfl, hI⟩⟩
    refine AllTold.cons rfl (fun β E W hA hF hc hf hE hV hP hB hS => Or.inr (Or.inl ⟨rfl, ⟨_, mb2, rfl, (by kernel_rfl), rfl, ?_⟩⟩)) ?_
    · have e1 : E (.tmp 6) = .pointer (some ⟨r3, 0, none⟩) := hE 6 (by kernel_rfl)
      have e2 : Means W (.int 0) (E (.tmp 25)) := hV 4 25 (by kernel_rfl) rfl
      obtain ⟨hbx, hfr⟩ := hB _ mb2 (by kernel_rfl) (by kernel_rfl)
      replace hbx : BoxHas W r3 .int _ := hbx
      replace hfr : BoxFree W r3 .int := hfr
      obtain ⟨_, _, _, _, _, _, q0, q1, q2⟩ := hbx.int
      have t0 := hfr 0 (by show 0 < 3; decide)
      have t1 := hfr 1 (by show 1 < 3; decide)
      have t2 := hfr 2 (by show 2 < 3; decide)
      obtain ⟨g, s, p, l, c, e2', hI⟩ := e2
      clear hE hV hP hB hS
      exact Does.skip (by go_simp) ⟨_, Stored.mkInt (b := r3), ⟨g, s, p, l, c, rfl, hI⟩⟩
    exact AllTold.nil
  · intro β f W3 hf hS hN hA _ _ _ _
    obtain ⟨ga', sa', pa', la', ca', z0, z1, z2, j1⟩ := (show Says W3 r1 .int (.int (x * sx)) from (hS _ mb0).1).int
    obtain ⟨gb', sb', pb', lb', cb', z3, z4, z5, j2⟩ := (show Says W3 r2 .int (.int sx) from (hS _ mb1).1).int
    obtain ⟨gc', sc', pc', lc', cc', z6, z7, z8, j3⟩ := (show Says W3 r3 .int (.int 0) from (hS _ mb2).1).int
    have HB3 := Lib.hid (BZ.out.hb.trans (hA.below (B := w.heap.size) (by simp [oldBlocks]; exact ⟨zw, zw2, zw3⟩) BZ.out.hb.size))
    rw [SA.out] at j1
    have J1 := Lib.hid j1; have J2 := Lib.hid j2; have J3 := Lib.hid j3
    clear hf hS hN hA j1 j2 j3
    simp only [fillSlots, List.setIfInBounds_toArray, List.set_cons_succ, List.set_cons_zero]
    go_wp2
    refine bodyPost_ret (v := .tuple #[.agg #[.bool ga', .int .u64 sa', .slice pa' la' ca'], .agg #[.bool gb', .int .u64 sb', .slice pb' lb' cb'], .agg #[.bool gc', .int .u64 sc', .slice pc' lc' cc']]) (by simp [results, Tryz.results18, go_sem, z0, z1, z2, z3, z4, z5, z6, z7, z8]) rfl ?_
    exact ⟨sx, 0, _, _, _, _, _, _, _, _, _, _, _, _, _, _, _, rfl, ⟨fun _ => ⟨HSX.out, rfl⟩, fun h => absurd rfl h⟩, by rw [show (0 : Int).natAbs = 0 from rfl, Nat.gcd_zero_right]; exact J1.out, J2.out, J3.out, HB3.out⟩
theorem bezout_any (x y : Int) (g1 g2 : Bool) (s1 s2 : Int) (p1 p2 : Option Addr) (l1 c1 l2 c2 : Nat) (w : World) (hx : (ds x.natAbs).length ≤ 10) (hy : (ds y.natAbs).length ≤ 10) (h1 : IsI w g1 s1 p1 l1 c1 x) (h2 : IsI w g2 s2 p2 l2 c2 y) :
    Calls Tryz.prog 18 #[.agg #[.bool g1, .int .u64 s1, .slice p1 l1 c1], .agg #[.bool g2, .int .u64 s2, .slice p2 l2 c2]] w (RetBez w x y) := by
  by_cases h0 : y = 0
  · subst h0; exact bezout_none x g1 g2 s1 s2 p1 p2 l1 c1 l2 c2 w hx h1 h2
  · exact bezout_some x y g1 g2 s1 s2 p1 p2 l1 c1 l2 c2 w h0 hx hy h1 h2
end Go.Proofs.YthjeidgmkkkmbaaGreatDoor

/- What the laws of stage 2 share. -/
namespace Go.Proofs.YthjeidgmkkkmbaaGreatDoor
open Go.RowKit

theorem ds_natAbs_add (x y : Int) : (ds (x + y).natAbs).length ≤ (ds x.natAbs).length + (ds y.natAbs).length :=
  Nat.le_trans (ds_mono (Int.natAbs_add_le x y)) (ds_add _ _)
theorem iSign_val (w : World) (u : Value) (x k : Int) (hk : cmp3 x 0 = k) (h : INum w u x) : Calls Tryz.prog 10 #[u] w fun e w' => ∃ v', e = .returned v' ∧ v' = .int .i64 k ∧ Below w.heap.size w w' := by
  rw [← hk]; exact iSign_want w u x h
set_option maxHeartbeats 400000 in
theorem iAbs_any (z : Int) (g : Bool) (s : Int) (p : Option Addr) (l c : Nat) (w : World) (h : IsI w g s p l c z) :
    Calls Tryz.prog 90 #[.agg #[.bool g, .int .u64 s, .slice p l c]] w (RetN w z.natAbs) := by
  have H := Lib.hid h.2
  clear h
  go_enter Tryz.func90, Tryz.ntmps90
  go_wp2
  exact bodyPost_ret (v := .agg #[.int .u64 s, .slice p l c]) (by simp [results, Tryz.results90, go_sem]) rfl ⟨_, _, _, _, rfl, H.out.mono (below_alloc (below_alloc (Below.refl _ _) _) _), below_alloc (below_alloc (Below.refl _ _) _) _⟩
theorem iAbs_want (w : World) (u : Value) (z : Int) (h : INum w u z) : Calls Tryz.prog 90 #[u] w fun e w' => ∃ v', e = .returned v' ∧ Num w' v' z.natAbs ∧ Below w.heap.size w w' := by
  obtain ⟨g, s, p, l, c, rfl, h⟩ := h
  exact (iAbs_any z g s p l c w h).mono fun _ _ h => h.want

theorem Box.lt {w : World} {a : Nat} {g : Bool} {s : Int} {p : Option Addr} {l c : Nat} (h : Box w a g s p l c) : a < w.heap.size := World.block_lt_of_cell? _ _ h.1
theorem Box.away {w w' : World} {bs : List Nat} {a : Nat} {g : Bool} {s : Int} {p : Option Addr} {l c : Nat} (h : Box w a g s p l c) (hA : Away bs w w') (hn : a ∉ bs) : Box w' a g s p l c := ⟨hA.cell h.1 hn, hA.cell h.2.1 hn, hA.cell h.2.2 hn⟩
theorem Away.below0 {w w' : World} (hA : Away [] w w') : Below w.heap.size w w' := hA.below (by intro b hb; cases hb) (Nat.le_refl _)
end Go.Proofs.YthjeidgmkkkmbaaGreatDoor

/- What single operations yield, said once: so an open statement's operations need no reckoning in a great context. -/
namespace Go.Proofs.YthjeidgmkkkmbaaGreatDoor
open Go.RowKit

section
variable {P : Program} {E : Operand → Value} {w : World} {d : Option Tmp} {ty : TypeId} {pos : String} {af : Array Edge} {gd : Option (Nat × Bool)}
theorem ev_move (x : Operand) {v : Value} (h : E x = v) : Does P ⟨d, .move x, ty, pos, af, gd⟩ E w fun v' w' => v' = v ∧ Below w.heap.size w w' :=
  Does.value (v := E x) (w' := w) (by go_simp) ⟨h, Below.refl _ _⟩
theorem ev_assign (x : Operand) {v : Value} (h : E x = v) : Does P ⟨d, .assign x, ty, pos, af, gd⟩ E w fun v' w' => v' = v ∧ Below w.heap.size w w' :=
  Does.value (v := E x) (w' := w) (by go_simp) ⟨h, Below.refl _ _⟩
theorem ev_not {x : Operand} {T : TypeId} {b : Bool} (h : E x = .bool b) {v : Bool} (hv : (!b) = v) : Does P ⟨d, .unOp .not T x, ty, pos, af, gd⟩ E w fun v' w' => v' = .bool v ∧ Below w.heap.size w w' :=
  Does.value (w' := w) (by go_simp) ⟨congrArg Value.bool hv, Below.refl _ _⟩
theorem ev_pick {x a b : Operand} {c : Bool} {v : Value} (h : E x = .bool c) (h2 : (if c then E a else E b) = v) : Does P ⟨d, .pick x a b, ty, pos, af, gd⟩ E w fun v' w' => v' = v ∧ Below w.heap.size w w' := by
  cases c with
  | true => exact Does.value (v := E a) (w' := w) (by go_simp) ⟨h2, Below.refl _ _⟩
  | false => exact Does.value (v := E b) (w' := w) (by go_simp) ⟨h2, Below.refl _ _⟩
end
section
variable {E : Operand → Value} {w : World} {d : Option Tmp} {ty : TypeId} {pos : String} {af : Array Edge} {gd : Option (Nat × Bool)}
theorem ev_neqB {x y : Operand} {a b : Bool} (h1 : E x = .bool a) (h2 : E y = .bool b) {v : Bool} (hv : (!(a == b)) = v) : Does Tryz.prog ⟨d, .binOp .neq 4 x y 4, ty, pos, af, gd⟩ E w fun v' w' => v' = .bool v ∧ Below w.heap.size w w' :=
  Does.value (w' := w) (by go_simp) ⟨congrArg Value.bool hv, Below.refl _ _⟩
theorem ev_lss {x y : Operand} {a b : Int} (h1 : E x = .int .i64 a) (h2 : E y = .int .i64 b) {v : Bool} (hv : (decide (a < b)) = v) : Does Tryz.prog ⟨d, .binOp .lss 3 x y 3, ty, pos, af, gd⟩ E w fun v' w' => v' = .bool v ∧ Below w.heap.size w w' :=
  Does.value (w' := w) (by go_simp) ⟨congrArg Value.bool hv, Below.refl _ _⟩
theorem ev_loadI {x : Operand} {b : Nat} {g : Bool} {s : Int} {p : Option Addr} {l c : Nat} {z : Int} (h : E x = .pointer (some ⟨b, 0, none⟩)) (h0 : w.cell? ⟨b, 0, none⟩ = some (.bool g)) (h1 : w.cell? ⟨b, 1, none⟩ = some (.int .u64 s)) (h2 : w.cell? ⟨b, 2, none⟩ = some (.slice p l c)) (hm : Means w (.int z) (.agg #[.bool g, .int .u64 s, .slice p l c])) :
    Does Tryz.prog ⟨d, .load 28 x, ty, pos, af, gd⟩ E w fun v' w' => Means w' (.int z) v' ∧ Below w.heap.size w w' :=
  Does.value (v := .agg #[.bool g, .int .u64 s, .slice p l c]) (w' := w) (by go_simp) ⟨hm, Below.refl _ _⟩
theorem ev_call0 {f : FuncId} {ts : Array TypeId} {R : Value → World → Prop} (hf : E (.func f) = .func (.func f) #[] #[]) (hr : RowKit.Hid (∀ (a : Array Value) (w : World), Sem.run Tryz.prog (callFunc f a) w = .ok (.enter f a) w)) (h : Calls Tryz.prog f #[] w fun e w' => ∃ v, e = .returned v ∧ R v w') : Does Tryz.prog ⟨d, .call ⟨.value (.func f), #[], ts⟩, ty, pos, af, gd⟩ E w R :=
  Does.call (w' := w) (by go_simp; exact hr.out _ _) h
theorem ev_call1 {f : FuncId} {x : Operand} {ts : Array TypeId} {R : Value → World → Prop} (hf : E (.func f) = .func (.func f) #[] #[]) (hr : RowKit.Hid (∀ (a : Array Value) (w : World), Sem.run Tryz.prog (callFunc f a) w = .ok (.enter f a) w)) (h : Calls Tryz.prog f #[E x] w fun e w' => ∃ v, e = .returned v ∧ R v w') : Does Tryz.prog ⟨d, .call ⟨.value (.func f), #[x], ts⟩, ty, pos, af, gd⟩ E w R :=
  Does.call (w' := w) (by go_simp; exact hr.out _ _) h
theorem ev_call2 {f : FuncId} {x y : Operand} {ts : Array TypeId} {R : Value → World → Prop} (hf : E (.func f) = .func (.func f) #[] #[]) (hr : RowKit.Hid (∀ (a : Array Value) (w : World), Sem.run Tryz.prog (callFunc f a) w = .ok (.enter f a) w)) (h : Calls Tryz.prog f #[E x, E y] w fun e w' => ∃ v, e = .returned v ∧ R v w') : Does Tryz.prog ⟨d, .call ⟨.value (.func f), #[x, y], ts⟩, ty, pos, af, gd⟩ E w R :=
  Does.call (w' := w) (by go_simp; exact hr.out _ _) h
theorem run_iSign : RowKit.Hid (∀ (a : Array Value) (w : World), Sem.run Tryz.prog (callFunc 10 a) w = .ok (.enter 10 a) w) := fun a w => by go_simp
theorem run_known2 : RowKit.Hid (∀ (a : Array Value) (w : World), Sem.run Tryz.prog (callFunc 9 a) w = .ok (.enter 9 a) w) := fun a w => by go_simp
end
end Go.Proofs.YthjeidgmkkkmbaaGreatDoor

/- What the law of Bezout's factors rests on. -/
namespace Go.Proofs.YthjeidgmkkkmbaaGreatDoor
open Go.RowKit

theorem sized_of {m : Nat} (h : (ds m).length ≤ 100) : Sized m := by
  intro k hk
  have h1 := ds_mono hk
  have h2 := bitLen_ds k
  have h3 := bitLen_lt_pow.1 (getD_lt (ds_lt k) (by omega) ((ds k).length - 1))
  exact ⟨by omega, by omega⟩
theorem iGcd_val (w : World) (u v : Value) (x y : Int) (n : Nat) (hn : Nat.gcd x.natAbs y.natAbs = n) (hx : (ds x.natAbs).length ≤ 40) (hy : (ds y.natAbs).length ≤ 40) (hT : Tab64 w) (h1 : INum w u x) (h2 : INum w v y) :
    Calls Tryz.prog 22 #[u, v] w fun e w' => ∃ v', e = .returned v' ∧ Num w' v' n ∧ Below w.heap.size w w' := by
  obtain ⟨g, s, p, l, c, rfl, h1⟩ := h1
  obtain ⟨f, t, q, k, d, rfl, h2⟩ := h2
  subst hn
  exact (gcd_any (x.natAbs + y.natAbs) x.natAbs y.natAbs g f s t p q l c k d w (sized_of (by have := ds_add x.natAbs y.natAbs; omega)) (by omega) (by omega) h1.2 h2.2 hT).mono fun e w' ⟨s, p, l, c, h, hi, hb⟩ => ⟨_, h, ⟨s, p, l, c, rfl, hi⟩, hb⟩
theorem run_iGcd : RowKit.Hid (∀ (a : Array Value) (w : World), Sem.run Tryz.prog (callFunc 22 a) w = .ok (.enter 22 a) w) := fun a w => by go_simp
end Go.Proofs.YthjeidgmkkkmbaaGreatDoor

/- The factors of the greatest common divisor are the only ones of their kind. -/
namespace Go.Proofs.YthjeidgmkkkmbaaGreatDoor
open Go.RowKit

theorem BInv.goal {x y : Int} : ∀ (n m : Nat) (u v : Int), BInv x y m n u v → ∃ m' u' v', BInv x y m' 0 u' v' := by
  intro n
  induction n using Nat.strongRecOn with
  | ind n ih =>
    intro m u v h
    by_cases h0 : n = 0
    · subst h0; exact ⟨_, _, _, h⟩
    · exact ih (m % n) (Nat.mod_lt _ (by omega)) n v _ (h.step h0)
theorem bez_exists (x y : Int) : ∃ X Y, BezSpec x y X Y := by
  by_cases h0 : y = 0
  · exact ⟨cmp3 x 0, 0, fun _ => ⟨rfl, rfl⟩, fun h => absurd h0 h⟩
  · obtain ⟨m, u, v, h⟩ := BInv.goal _ _ _ _ (BInv.start (x := x) h0)
    exact ⟨_, _, (h.done h0).2.2.2.2⟩
theorem bez_unique {x y X Y X' Y' : Int} (h : BezSpec x y X Y) (h' : BezSpec x y X' Y') : X = X' ∧ Y = Y' := by
  by_cases h0 : y = 0
  · exact ⟨(h.1 h0).1.trans (h'.1 h0).1.symm, (h.1 h0).2.trans (h'.1 h0).2.symm⟩
  · obtain ⟨e1, a1, b1⟩ := h.2 h0
    obtain ⟨e2, a2, b2⟩ := h'.2 h0
    obtain ⟨g, hg⟩ : ∃ g, g = Nat.gcd x.natAbs y.natAbs := ⟨_, rfl⟩
    have g0 : 0 < g := by rw [hg]; exact Nat.gcd_pos_of_pos_right _ (by omega)
    rw [← hg] at e1 e2 b1 b2
    have k1 : x.natAbs / g * g = x.natAbs := Nat.div_mul_cancel (by rw [hg]; exact Nat.gcd_dvd_left _ _)
    have k2 : y.natAbs / g * g = y.natAbs := Nat.div_mul_cancel (by rw [hg]; exact Nat.gcd_dvd_right _ _)
    have hco : Nat.Coprime (y.natAbs / g) (x.natAbs / g) := by
      have h1 : Nat.gcd x.natAbs y.natAbs = g := hg.symm
      rw [Nat.coprime_comm]
      subst h1
      exact Nat.coprime_div_gcd_div_gcd g0
    have hd : x * (X - X') = y * (Y' - Y) := by
      rw [Int.mul_sub, Int.mul_sub]; omega
    have hn : x.natAbs * (X - X').natAbs = y.natAbs * (Y' - Y).natAbs := by
      rw [← Int.natAbs_mul, ← Int.natAbs_mul, hd]
    obtain ⟨p, hp⟩ : ∃ p, p = x.natAbs / g := ⟨_, rfl⟩
    obtain ⟨q, hq⟩ : ∃ q, q = y.natAbs / g := ⟨_, rfl⟩
    rw [← hp] at k1 hco
    rw [← hq] at k2 hco b1 b2
    rw [← k1, ← k2, Nat.mul_right_comm, Nat.mul_right_comm q] at hn
    have hn' := Nat.eq_of_mul_eq_mul_right g0 hn
    have hdv : q ∣ (X - X').natAbs := hco.dvd_of_dvd_mul_left ⟨_, hn'⟩
    have hz : (X - X').natAbs = 0 := Nat.eq_zero_of_dvd_of_lt hdv (by omega)
    have hX : X = X' := by omega
    subst hX
    refine ⟨rfl, ?_⟩
    have : y * Y = y * Y' := by omega
    exact Int.eq_of_mul_eq_mul_left h0 this
end Go.Proofs.YthjeidgmkkkmbaaGreatDoor
