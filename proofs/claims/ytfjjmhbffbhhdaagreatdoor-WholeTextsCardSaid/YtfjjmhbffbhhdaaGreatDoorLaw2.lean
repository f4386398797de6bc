/- The examples of chapter 2. -/
import Derived.Test.YtfjjmhbffbhhdaaGreatDoorBez
import Derived.Test.YtfjjmhbffbhhdaaGreatDoorQuot
namespace Go.Proofs.YtfjjmhbffbhhdaaGreatDoor
open Go.RowKit

set_option maxRecDepth 100000 in
set_option maxHeartbeats 400000 in
theorem small_2 (w : World) : Calls Tryz.prog 52 #[.int .u64 2, .int .i64 10] w fun e w' => e = .returned (.string ⟨#[50]⟩) ∧ w = w' := by
  go_enter Tryz.func52, Tryz.ntmps52
  go_wp2
  go_ret
  exact ⟨rfl, rfl⟩

theorem isI_small {w : World} {g : Bool} {s : Int} {p : Option Addr} {l c : Nat} {z : Int} (h : IsI w g s p l c z) (hz : z.natAbs < 2 ^ 64) : g = decide (z < 0) ∧ s = (z.natAbs : Int) ∧ p = none ∧ l = 0 ∧ c = 0 := by
  refine ⟨h.1, ?_⟩
  rcases h.2 with ⟨_, h2⟩ | ⟨h2, _⟩
  · exact h2
  · omega

set_option maxHeartbeats 400000 in
theorem iText_pos (n : Int) (t : ByteArray) (w : World) (H : ∀ w, Calls Tryz.prog 52 #[.int .u64 n, .int .i64 10] w fun e w' => e = .returned (.string t) ∧ w = w') :
    Calls Tryz.prog 13 #[.agg #[.bool false, .int .u64 n, .slice none 0 0]] w fun e w' => e = .returned (.string t) ∧ Below w.heap.size w w' := by
  have HH := Lib.hid (fun w => text_short n t w H); clear H
  go_enter Tryz.func13, Tryz.ntmps13
  go_wp2_with fail
  refine (HH.out _).mono ?_
  rintro e w1 ⟨rfl, hb⟩
  go_wp2
  go_ret
  exact ⟨rfl, below_step (below_alloc (Below.refl _ _) _) hb⟩
set_option maxHeartbeats 400000 in
theorem iText_m4 (w : World) : Calls Tryz.prog 13 #[.agg #[.bool true, .int .u64 4, .slice none 0 0]] w fun e w' => e = .returned (.string ⟨#[45, 52]⟩) ∧ Below w.heap.size w w' := by
  have HH := Lib.hid (fun w => text_short 4 _ w small_4)
  go_enter Tryz.func13, Tryz.ntmps13
  go_wp2_with fail
  refine (HH.out _).mono ?_
  rintro e w1 ⟨rfl, hb⟩
  go_wp2
  go_ret
  exact ⟨rfl, below_step (below_alloc (Below.refl _ _) _) hb⟩
set_option maxHeartbeats 400000 in
theorem iText_m1 (w : World) : Calls Tryz.prog 13 #[.agg #[.bool true, .int .u64 1, .slice none 0 0]] w fun e w' => e = .returned (.string ⟨#[45, 49]⟩) ∧ Below w.heap.size w w' := by
  have HH := Lib.hid (fun w => text_short 1 _ w small_1)
  go_enter Tryz.func13, Tryz.ntmps13
  go_wp2_with fail
  refine (HH.out _).mono ?_
  rintro e w1 ⟨rfl, hb⟩
  go_wp2
  go_ret
  exact ⟨rfl, below_step (below_alloc (Below.refl _ _) _) hb⟩

theorem bez64 {X Y : Int} (h : BezSpec 6 4 X Y) : X = 1 ∧ Y = -1 := by
  have h1 := h.2 (by omega)
  have e : Nat.gcd (Int.natAbs 6) (Int.natAbs 4) = 2 := by decide
  have e2 : Int.natAbs 4 / 2 = 2 := rfl
  rw [e, e2] at h1
  omega

set_option maxRecDepth 100000 in
set_option maxHeartbeats 4000000 in
theorem known2_any (w : World) : Calls Tryz.prog 10 #[] w fun e w' => e = .returned (.bool true) ∧ Below w.heap.size w w' := by
  have T1 := Lib.hid (fun g1 g2 s1 s2 p1 p2 l1 c1 l2 c2 W a b => iDiv_any (-7) 2 g1 g2 s1 s2 p1 p2 l1 c1 l2 c2 W (by omega) (by rw [ds_one (by simp)]; omega) (by rw [ds_one (by simp)]; omega) a b)
  have T2 := Lib.hid (fun g1 g2 s1 s2 p1 p2 l1 c1 l2 c2 W a b => bezout_some 6 4 g1 g2 s1 s2 p1 p2 l1 c1 l2 c2 W (by omega) (by rw [ds_one (by simp)]; omega) (by rw [ds_one (by simp)]; omega) a b)
  go_enter Tryz.func10, Tryz.ntmps10
  go_wp2_with fail
  refine (iOf_any (-7) _ (by omega) (by omega)).mono ?_
  rintro e w1 ⟨g1, s1, p1, l1, c1, rfl, i1, hb1⟩
  have I1 := Lib.hid i1; have HB := Lib.hid hb1; clear i1 hb1
  go_wp2_with fail
  refine (iOf_any 2 _ (by omega) (by omega)).mono ?_
  rintro e w2 ⟨g2, s2, p2, l2, c2, rfl, i2, hb2⟩
  have I1 := Lib.hid (I1.out.mono hb2); have I2 := Lib.hid i2; have HB := Lib.hid (below_step HB.out hb2); clear i2 hb2
  go_wp2_with fail
  refine (T1.out _ _ _ _ _ _ _ _ _ _ _ I1.out I2.out).mono ?_
  rintro e w3 ⟨g3, s3, p3, l3, c3, g4, s4, p4, l4, c4, rfl, i3, i4, hb3⟩
  rw [show qdiv (-7) 2 = -4 from rfl] at i3
  rw [show qmod (-7) 2 = 1 from rfl] at i4
  obtain ⟨rfl, rfl, rfl, rfl, rfl⟩ := isI_small i3 (by decide)
  obtain ⟨rfl, rfl, rfl, rfl, rfl⟩ := isI_small i4 (by decide)
  rw [show decide ((-4 : Int) < 0) = true from rfl, show decide ((1 : Int) < 0) = false from rfl, show ((Int.natAbs (-4) : Nat) : Int) = 4 from rfl, show ((Int.natAbs 1 : Nat) : Int) = 1 from rfl]
  have HB := Lib.hid (below_step HB.out hb3)
  clear i3 i4 hb3 I1 I2 T1
  go_wp2_with fail
  obtain ⟨V, hV⟩ : ∃ V, V = (w3.alloc (.cells #[.bool true, .int .u64 4, .slice none 0 0] 28)).alloc (.cells #[.bool false, .int .u64 1, .slice none 0 0] 28) := ⟨_, rfl⟩
  obtain ⟨b, hbb⟩ : ∃ b, b = w3.heap.size + 1 := ⟨_, rfl⟩
  obtain ⟨a, ha⟩ : ∃ a, a = w3.heap.size := ⟨_, rfl⟩
  have hb : Below w3.heap.size w3 V := by rw [hV]; exact below_alloc (below_alloc (Below.refl _ _) _) _
  have A0 : V.cell? ⟨a, 0, none⟩ = some (.bool true) := by simp [hV, ha, go_sem]
  have A1 : V.cell? ⟨a, 1, none⟩ = some (.int .u64 4) := by simp [hV, ha, go_sem]
  have A2 : V.cell? ⟨a, 2, none⟩ = some (.slice none 0 0) := by simp [hV, ha, go_sem]
  have B0 : V.cell? ⟨b, 0, none⟩ = some (.bool false) := by simp [hV, hbb, go_sem]
  have B1 : V.cell? ⟨b, 1, none⟩ = some (.int .u64 1) := by simp [hV, hbb, go_sem]
  have B2 : V.cell? ⟨b, 2, none⟩ = some (.slice none 0 0) := by simp [hV, hbb, go_sem]
  rw [← hV]; try rw [← hbb]
  try rw [← ha]
  have HB := Lib.hid (below_step HB.out hb)
  clear hV hbb ha hb
  refine (iOf_any 6 _ (by omega) (by omega)).mono ?_
  rintro e w4 ⟨g1, s1, p1, l1, c1, rfl, i1, hb⟩
  replace A0 := wcell hb A0; replace A1 := wcell hb A1; replace A2 := wcell hb A2; replace B0 := wcell hb B0; replace B1 := wcell hb B1; replace B2 := wcell hb B2
  have I1 := Lib.hid i1; have HB := Lib.hid (below_step HB.out hb); clear i1 hb
  go_wp2_with fail
  refine (iOf_any 4 _ (by omega) (by omega)).mono ?_
  rintro e w5 ⟨g2, s2, p2, l2, c2, rfl, i2, hb⟩
  replace A0 := wcell hb A0; replace A1 := wcell hb A1; replace A2 := wcell hb A2; replace B0 := wcell hb B0; replace B1 := wcell hb B1; replace B2 := wcell hb B2
  have I1 := Lib.hid (I1.out.mono hb); have I2 := Lib.hid i2; have HB := Lib.hid (below_step HB.out hb); clear i2 hb
  go_wp2_with fail
  refine (T2.out _ _ _ _ _ _ _ _ _ _ _ I1.out I2.out).mono ?_
  rintro e w6 ⟨X, Y, g3, s3, p3, l3, c3, g4, s4, p4, l4, c4, g5, s5, p5, l5, c5, rfl, hX, i3, i4, i5, hb⟩
  obtain ⟨rfl, rfl⟩ := bez64 hX
  rw [show Nat.gcd (Int.natAbs 6) (Int.natAbs 4) = 2 from by decide] at i3
  obtain ⟨rfl, rfl, rfl, rfl, rfl⟩ := isI_small i3 (by decide)
  obtain ⟨rfl, rfl, rfl, rfl, rfl⟩ := isI_small i4 (by decide)
  obtain ⟨rfl, rfl, rfl, rfl, rfl⟩ := isI_small i5 (by decide)
  rw [show decide (((2 : Nat) : Int) < 0) = false from rfl, show decide ((1 : Int) < 0) = false from rfl, show decide ((-1 : Int) < 0) = true from rfl, show ((Int.natAbs ((2 : Nat) : Int) : Nat) : Int) = 2 from rfl, show ((Int.natAbs 1 : Nat) : Int) = 1 from rfl, show ((Int.natAbs (-1) : Nat) : Int) = 1 from rfl]
  replace A0 := wcell hb A0; replace A1 := wcell hb A1; replace A2 := wcell hb A2; replace B0 := wcell hb B0; replace B1 := wcell hb B1; replace B2 := wcell hb B2
  have HB := Lib.hid (below_step HB.out hb)
  have za : a < w6.heap.size := World.block_lt_of_cell? _ _ A0
  have zb : b < w6.heap.size := World.block_lt_of_cell? _ _ B0
  have za1 : a < w6.heap.size + 1 := by omega
  have za2 : a < w6.heap.size + 1 + 1 := by omega
  have zb1 : b < w6.heap.size + 1 := by omega
  have zb2 : b < w6.heap.size + 1 + 1 := by omega
  clear i3 i4 i5 hb I1 I2 T2 hX
  go_wp2_with fail
  obtain ⟨U, hU⟩ : ∃ U, U = ((w6.alloc (.cells #[.bool false, .int .u64 2, .slice none 0 0] 28)).alloc (.cells #[.bool false, .int .u64 1, .slice none 0 0] 28)).alloc (.cells #[.bool true, .int .u64 1, .slice none 0 0] 28) := ⟨_, rfl⟩
  obtain ⟨c3, h3⟩ : ∃ c, c = w6.heap.size + 1 + 1 := ⟨_, rfl⟩
  obtain ⟨c2, h2⟩ : ∃ c, c = w6.heap.size + 1 := ⟨_, rfl⟩
  obtain ⟨c1, h1⟩ : ∃ c, c = w6.heap.size := ⟨_, rfl⟩
  have hb : Below w6.heap.size w6 U := by rw [hU]; exact below_alloc (below_alloc (below_alloc (Below.refl _ _) _) _) _
  have C0 : U.cell? ⟨c1, 0, none⟩ = some (.bool false) := by simp [hU, h1, go_sem]
  have C1 : U.cell? ⟨c1, 1, none⟩ = some (.int .u64 2) := by simp [hU, h1, go_sem]
  have C2 : U.cell? ⟨c1, 2, none⟩ = some (.slice none 0 0) := by simp [hU, h1, go_sem]
  have D0 : U.cell? ⟨c2, 0, none⟩ = some (.bool false) := by simp [hU, h2, go_sem]
  have D1 : U.cell? ⟨c2, 1, none⟩ = some (.int .u64 1) := by simp [hU, h2, go_sem]
  have D2 : U.cell? ⟨c2, 2, none⟩ = some (.slice none 0 0) := by simp [hU, h2, go_sem]
  have E0 : U.cell? ⟨c3, 0, none⟩ = some (.bool true) := by simp [hU, h3, go_sem]
  have E1 : U.cell? ⟨c3, 1, none⟩ = some (.int .u64 1) := by simp [hU, h3, go_sem]
  have E2 : U.cell? ⟨c3, 2, none⟩ = some (.slice none 0 0) := by simp [hU, h3, go_sem]
  replace A0 := wcell hb A0
  replace A1 := wcell hb A1
  replace A2 := wcell hb A2
  replace B0 := wcell hb B0
  replace B1 := wcell hb B1
  replace B2 := wcell hb B2
  rw [← hU, ← h3, ← h2, ← h1]
  have HB := Lib.hid (below_step HB.out hb)
  clear hU h1 h2 h3 hb za zb za1 za2 zb1 zb2
  refine (iText_m4 _).mono ?_
  rintro e u0 ⟨rfl, hb⟩
  replace B0 := wcell hb B0
  replace B1 := wcell hb B1
  replace B2 := wcell hb B2
  replace C0 := wcell hb C0
  replace C1 := wcell hb C1
  replace C2 := wcell hb C2
  replace D0 := wcell hb D0
  replace D1 := wcell hb D1
  replace D2 := wcell hb D2
  replace E0 := wcell hb E0
  replace E1 := wcell hb E1
  replace E2 := wcell hb E2
  have HB := Lib.hid (below_step HB.out hb)
  clear hb
  go_wp2_with fail
  refine (iText_pos 1 _ _ small_1).mono ?_
  rintro e u1 ⟨rfl, hb⟩
  replace C0 := wcell hb C0
  replace C1 := wcell hb C1
  replace C2 := wcell hb C2
  replace D0 := wcell hb D0
  replace D1 := wcell hb D1
  replace D2 := wcell hb D2
  replace E0 := wcell hb E0
  replace E1 := wcell hb E1
  replace E2 := wcell hb E2
  have HB := Lib.hid (below_step HB.out hb)
  clear hb
  go_wp2_with fail
  refine (iText_pos 2 _ _ small_2).mono ?_
  rintro e u2 ⟨rfl, hb⟩
  replace D0 := wcell hb D0
  replace D1 := wcell hb D1
  replace D2 := wcell hb D2
  replace E0 := wcell hb E0
  replace E1 := wcell hb E1
  replace E2 := wcell hb E2
  have HB := Lib.hid (below_step HB.out hb)
  clear hb
  go_wp2_with fail
  refine (iText_pos 1 _ _ small_1).mono ?_
  rintro e u3 ⟨rfl, hb⟩
  replace E0 := wcell hb E0
  replace E1 := wcell hb E1
  replace E2 := wcell hb E2
  have HB := Lib.hid (below_step HB.out hb)
  clear hb
  go_wp2_with fail
  refine (iText_m1 _).mono ?_
  rintro e u4 ⟨rfl, hb⟩
  have HB := Lib.hid (below_step HB.out hb)
  clear hb
  go_wp2
  go_ret
  exact ⟨rfl, HB.out⟩
end Go.Proofs.YtfjjmhbffbhhdaaGreatDoor

/- What the laws of stage 2 share. -/
namespace Go.Proofs.YtfjjmhbffbhhdaaGreatDoor
open Go.RowKit

theorem iCmp_val (w : World) (u v : Value) (x y k : Int) (hk : cmp3 x y = k) (hx : (ds x.natAbs).length ≤ 60) (hy : (ds y.natAbs).length ≤ 60) (h1 : INum w u x) (h2 : INum w v y) :
    Calls Tryz.prog 15 #[u, v] w fun e w' => ∃ v', e = .returned v' ∧ v' = .int .i64 k ∧ Below w.heap.size w w' := by
  rw [← hk]; exact iCmp_want w u v x y hx hy h1 h2
theorem iSign_val (w : World) (u : Value) (x k : Int) (hk : cmp3 x 0 = k) (h : INum w u x) : Calls Tryz.prog 12 #[u] w fun e w' => ∃ v', e = .returned v' ∧ v' = .int .i64 k ∧ Below w.heap.size w w' := by
  rw [← hk]; exact iSign_want w u x h
theorem cmp_same {x y : Int} (h : x = y) : cmp3 x y = 0 := by rw [h]; exact cmp3_eq _

set_option maxHeartbeats 400000 in
theorem iAbs_any (z : Int) (g : Bool) (s : Int) (p : Option Addr) (l c : Nat) (w : World) (h : IsI w g s p l c z) :
    Calls Tryz.prog 51 #[.agg #[.bool g, .int .u64 s, .slice p l c]] w (RetN w z.natAbs) := by
  have H := Lib.hid h.2
  clear h
  go_enter Tryz.func51, Tryz.ntmps51
  go_wp2
  exact bodyPost_ret (v := .agg #[.int .u64 s, .slice p l c]) (by simp [results, Tryz.results51, go_sem]) rfl ⟨_, _, _, _, rfl, H.out.mono (below_alloc (below_alloc (Below.refl _ _) _) _), below_alloc (below_alloc (Below.refl _ _) _) _⟩
theorem iAbs_want (w : World) (u : Value) (z : Int) (h : INum w u z) : Calls Tryz.prog 51 #[u] w fun e w' => ∃ v', e = .returned v' ∧ Num w' v' z.natAbs ∧ Below w.heap.size w w' := by
  obtain ⟨g, s, p, l, c, rfl, h⟩ := h
  exact (iAbs_any z g s p l c w h).mono fun _ _ h => h.want

theorem Box.lt {w : World} {a : Nat} {g : Bool} {s : Int} {p : Option Addr} {l c : Nat} (h : Box w a g s p l c) : a < w.heap.size := World.block_lt_of_cell? _ _ h.1
theorem Box.away {w w' : World} {bs : List Nat} {a : Nat} {g : Bool} {s : Int} {p : Option Addr} {l c : Nat} (h : Box w a g s p l c) (hA : Away bs w w') (hn : a ∉ bs) : Box w' a g s p l c := ⟨hA.cell h.1 hn, hA.cell h.2.1 hn, hA.cell h.2.2 hn⟩
end Go.Proofs.YtfjjmhbffbhhdaaGreatDoor

/- What single operations yield, said once: so an open statement's operations need no reckoning in a great context. -/
namespace Go.Proofs.YtfjjmhbffbhhdaaGreatDoor
open Go.RowKit

section
variable {P : Program} {E : Operand → Value} {w : World} {d : Option Tmp} {ty : TypeId} {pos : String} {af : Array Edge} {gd : Option (Nat × Bool)}
theorem ev_move (x : Operand) {v : Value} (h : E x = v) : Does P ⟨d, .move x, ty, pos, af, gd⟩ E w fun v' w' => v' = v ∧ Below w.heap.size w w' :=
  Does.value (v := E x) (w' := w) (by go_simp) ⟨h, Below.refl _ _⟩
theorem ev_assign (x : Operand) {v : Value} (h : E x = v) : Does P ⟨d, .assign x, ty, pos, af, gd⟩ E w fun v' w' => v' = v ∧ Below w.heap.size w w' :=
  Does.value (v := E x) (w' := w) (by go_simp) ⟨h, Below.refl _ _⟩
theorem ev_not {x : Operand} {T : TypeId} {b : Bool} (h : E x = .bool b) {v : Bool} (hv : (!b) = v) : Does P ⟨d, .unOp .not T x, ty, pos, af, gd⟩ E w fun v' w' => v' = .bool v ∧ Below w.heap.size w w' :=
  Does.value (w' := w) (by go_simp) ⟨congrArg Value.bool hv, Below.refl _ _⟩
theorem ev_pick {x a b : Operand} {c : Bool} {v : Value} (h : E x = .bool c) (h2 : (if c then E a else E b) = v) : Does P ⟨d, .pick x a b, ty, pos, af, gd⟩ E w fun v' w' => v' = v ∧ Below w.heap.size w w' := by
  cases c with
  | true => exact Does.value (v := E a) (w' := w) (by go_simp) ⟨h2, Below.refl _ _⟩
  | false => exact Does.value (v := E b) (w' := w) (by go_simp) ⟨h2, Below.refl _ _⟩
end
section
variable {E : Operand → Value} {w : World} {d : Option Tmp} {ty : TypeId} {pos : String} {af : Array Edge} {gd : Option (Nat × Bool)}
theorem ev_neqB {x y : Operand} {a b : Bool} (h1 : E x = .bool a) (h2 : E y = .bool b) {v : Bool} (hv : (!(a == b)) = v) : Does Tryz.prog ⟨d, .binOp .neq 4 x y 4, ty, pos, af, gd⟩ E w fun v' w' => v' = .bool v ∧ Below w.heap.size w w' :=
  Does.value (w' := w) (by go_simp) ⟨congrArg Value.bool hv, Below.refl _ _⟩
theorem ev_lss {x y : Operand} {a b : Int} (h1 : E x = .int .i64 a) (h2 : E y = .int .i64 b) {v : Bool} (hv : (decide (a < b)) = v) : Does Tryz.prog ⟨d, .binOp .lss 3 x y 3, ty, pos, af, gd⟩ E w fun v' w' => v' = .bool v ∧ Below w.heap.size w w' :=
  Does.value (w' := w) (by go_simp) ⟨congrArg Value.bool hv, Below.refl _ _⟩
theorem ev_loadI {x : Operand} {b : Nat} {g : Bool} {s : Int} {p : Option Addr} {l c : Nat} {z : Int} (h : E x = .pointer (some ⟨b, 0, none⟩)) (h0 : w.cell? ⟨b, 0, none⟩ = some (.bool g)) (h1 : w.cell? ⟨b, 1, none⟩ = some (.int .u64 s)) (h2 : w.cell? ⟨b, 2, none⟩ = some (.slice p l c)) (hm : Means w (.int z) (.agg #[.bool g, .int .u64 s, .slice p l c])) :
    Does Tryz.prog ⟨d, .load 28 x, ty, pos, af, gd⟩ E w fun v' w' => Means w' (.int z) v' ∧ Below w.heap.size w w' :=
  Does.value (v := .agg #[.bool g, .int .u64 s, .slice p l c]) (w' := w) (by go_simp) ⟨hm, Below.refl _ _⟩
theorem ev_call0 {f : FuncId} {ts : Array TypeId} {R : Value → World → Prop} (hf : E (.func f) = .func (.func f) #[] #[]) (hr : RowKit.Hid (∀ (a : Array Value) (w : World), Sem.run Tryz.prog (callFunc f a) w = .ok (.enter f a) w)) (h : Calls Tryz.prog f #[] w fun e w' => ∃ v, e = .returned v ∧ R v w') : Does Tryz.prog ⟨d, .call ⟨.value (.func f), #[], ts⟩, ty, pos, af, gd⟩ E w R :=
  Does.call (w' := w) (by go_simp; exact hr.out _ _) h
theorem ev_call1 {f : FuncId} {x : Operand} {ts : Array TypeId} {R : Value → World → Prop} (hf : E (.func f) = .func (.func f) #[] #[]) (hr : RowKit.Hid (∀ (a : Array Value) (w : World), Sem.run Tryz.prog (callFunc f a) w = .ok (.enter f a) w)) (h : Calls Tryz.prog f #[E x] w fun e w' => ∃ v, e = .returned v ∧ R v w') : Does Tryz.prog ⟨d, .call ⟨.value (.func f), #[x], ts⟩, ty, pos, af, gd⟩ E w R :=
  Does.call (w' := w) (by go_simp; exact hr.out _ _) h
theorem ev_call2 {f : FuncId} {x y : Operand} {ts : Array TypeId} {R : Value → World → Prop} (hf : E (.func f) = .func (.func f) #[] #[]) (hr : RowKit.Hid (∀ (a : Array Value) (w : World), Sem.run Tryz.prog (callFunc f a) w = .ok (.enter f a) w)) (h : Calls Tryz.prog f #[E x, E y] w fun e w' => ∃ v, e = .returned v ∧ R v w') : Does Tryz.prog ⟨d, .call ⟨.value (.func f), #[x, y], ts⟩, ty, pos, af, gd⟩ E w R :=
  Does.call (w' := w) (by go_simp; exact hr.out _ _) h
theorem run_iCmp : RowKit.Hid (∀ (a : Array Value) (w : World), Sem.run Tryz.prog (callFunc 15 a) w = .ok (.enter 15 a) w) := fun a w => by go_simp
theorem run_iSign : RowKit.Hid (∀ (a : Array Value) (w : World), Sem.run Tryz.prog (callFunc 12 a) w = .ok (.enter 12 a) w) := fun a w => by go_simp
theorem run_known2 : RowKit.Hid (∀ (a : Array Value) (w : World), Sem.run Tryz.prog (callFunc 10 a) w = .ok (.enter 10 a) w) := fun a w => by go_simp
end
end Go.Proofs.YtfjjmhbffbhhdaaGreatDoor
