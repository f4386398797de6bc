/- The examples of chapter 1. -/
import Derived.Test.YthenfejgnjdkjaaGreatDoorDivS
import Derived.Test.YthenfejgnjdkjaaGreatDoorShiftS
import Derived.Test.YthenfejgnjdkjaaGreatDoorCmp
import Derived.Deep.LoopGhost
import Derived.Test.YthenfejgnjdkjaaGreatDoorBez
namespace Go.Proofs.YthenfejgnjdkjaaGreatDoor
open Go.RowKit

set_option maxRecDepth 100000 in
set_option maxHeartbeats 400000 in
theorem small_1 (w : World) : Calls Tryz.prog 51 #[.int .u64 1, .int .i64 10] w fun e w' => e = .returned (.string ⟨#[49]⟩) ∧ w = w' := by
  go_enter Tryz.func51, Tryz.ntmps51
  go_wp2
  go_ret
  exact ⟨rfl, rfl⟩
set_option maxRecDepth 100000 in
set_option maxHeartbeats 400000 in
theorem small_4 (w : World) : Calls Tryz.prog 51 #[.int .u64 4, .int .i64 10] w fun e w' => e = .returned (.string ⟨#[52]⟩) ∧ w = w' := by
  go_enter Tryz.func51, Tryz.ntmps51
  go_wp2
  go_ret
  exact ⟨rfl, rfl⟩

set_option maxHeartbeats 400000 in
theorem text_short (n : Int) (t : ByteArray) (w : World) (H : ∀ w, Calls Tryz.prog 51 #[.int .u64 n, .int .i64 10] w fun e w' => e = .returned (.string t) ∧ w = w') :
    Calls Tryz.prog 30 #[.agg #[.int .u64 n, .slice none 0 0]] w fun e w' => e = .returned (.string t) ∧ Below w.heap.size w w' := by
  have HH := Lib.hid H; clear H
  go_enter Tryz.func30, Tryz.ntmps30
  go_wp2_with fail
  refine (short_yes _ _ _ _).mono ?_
  rintro e w1 ⟨rfl, hb⟩
  obtain ⟨hc, hf⟩ := bcell hb
  go_wp2_with fail
  refine (HH.out w1).mono ?_
  rintro e w2 ⟨rfl, rfl⟩
  go_wp2
  go_ret
  exact ⟨rfl, (by repeat' first | exact Below.refl _ _ | refine below_alloc ?_ _ | refine below_step ?_ (by assumption))⟩

end Go.Proofs.YthenfejgnjdkjaaGreatDoor

/- The examples of chapter 2. -/
namespace Go.Proofs.YthenfejgnjdkjaaGreatDoor
open Go.RowKit

set_option maxRecDepth 100000 in
set_option maxHeartbeats 400000 in
theorem small_2 (w : World) : Calls Tryz.prog 51 #[.int .u64 2, .int .i64 10] w fun e w' => e = .returned (.string ⟨#[50]⟩) ∧ w = w' := by
  go_enter Tryz.func51, Tryz.ntmps51
  go_wp2
  go_ret
  exact ⟨rfl, rfl⟩

theorem isI_small {w : World} {g : Bool} {s : Int} {p : Option Addr} {l c : Nat} {z : Int} (h : IsI w g s p l c z) (hz : z.natAbs < 2 ^ 64) : g = decide (z < 0) ∧ s = (z.natAbs : Int) ∧ p = none ∧ l = 0 ∧ c = 0 := by
  refine ⟨h.1, ?_⟩
  rcases h.2 with ⟨_, h2⟩ | ⟨h2, _⟩
  · exact h2
  · omega

set_option maxHeartbeats 400000 in
theorem iText_pos (n : Int) (t : ByteArray) (w : World) (H : ∀ w, Calls Tryz.prog 51 #[.int .u64 n, .int .i64 10] w fun e w' => e = .returned (.string t) ∧ w = w') :
    Calls Tryz.prog 12 #[.agg #[.bool false, .int .u64 n, .slice none 0 0]] w fun e w' => e = .returned (.string t) ∧ Below w.heap.size w w' := by
  have HH := Lib.hid (fun w => text_short n t w H); clear H
  go_enter Tryz.func12, Tryz.ntmps12
  go_wp2_with fail
  refine (HH.out _).mono ?_
  rintro e w1 ⟨rfl, hb⟩
  go_wp2
  go_ret
  exact ⟨rfl, below_step (below_alloc (Below.refl _ _) _) hb⟩
set_option maxHeartbeats 400000 in
theorem iText_m4 (w : World) : Calls Tryz.prog 12 #[.agg #[.bool true, .int .u64 4, .slice none 0 0]] w fun e w' => e = .returned (.string ⟨#[45, 52]⟩) ∧ Below w.heap.size w w' := by
  have HH := Lib.hid (fun w => text_short 4 _ w small_4)
  go_enter Tryz.func12, Tryz.ntmps12
  go_wp2_with fail
  refine (HH.out _).mono ?_
  rintro e w1 ⟨rfl, hb⟩
  go_wp2
  go_ret
  exact ⟨rfl, below_step (below_alloc (Below.refl _ _) _) hb⟩
set_option maxHeartbeats 400000 in
theorem iText_m1 (w : World) : Calls Tryz.prog 12 #[.agg #[.bool true, .int .u64 1, .slice none 0 0]] w fun e w' => e = .returned (.string ⟨#[45, 49]⟩) ∧ Below w.heap.size w w' := by
  have HH := Lib.hid (fun w => text_short 1 _ w small_1)
  go_enter Tryz.func12, Tryz.ntmps12
  go_wp2_with fail
  refine (HH.out _).mono ?_
  rintro e w1 ⟨rfl, hb⟩
  go_wp2
  go_ret
  exact ⟨rfl, below_step (below_alloc (Below.refl _ _) _) hb⟩

theorem bez64 {X Y : Int} (h : BezSpec 6 4 X Y) : X = 1 ∧ Y = -1 := by
  have h1 := h.2 (by omega)
  have e : Nat.gcd (Int.natAbs 6) (Int.natAbs 4) = 2 := by decide
  have e2 : Int.natAbs 4 / 2 = 2 := rfl
  rw [e, e2] at h1
  omega

set_option maxRecDepth 100000 in
set_option maxHeartbeats 4000000 in
theorem known2_any (w : World) : Calls Tryz.prog 11 #[] w fun e w' => e = .returned (.bool true) ∧ Below w.heap.size w w' := by
  have T1 := Lib.hid (fun g1 g2 s1 s2 p1 p2 l1 c1 l2 c2 W a b => iDiv_any (-7) 2 g1 g2 s1 s2 p1 p2 l1 c1 l2 c2 W (by omega) (by rw [ds_one (by simp)]; omega) (by rw [ds_one (by simp)]; omega) a b)
  have T2 := Lib.hid (fun g1 g2 s1 s2 p1 p2 l1 c1 l2 c2 W a b => bezout_some 6 4 g1 g2 s1 s2 p1 p2 l1 c1 l2 c2 W (by omega) (by rw [ds_one (by simp)]; omega) (by rw [ds_one (by simp)]; omega) a b)
  go_enter Tryz.func11, Tryz.ntmps11
  go_wp2_with fail
  refine (iOf_any (-7) _ (by omega) (by omega)).mono ?_
  rintro e w1 ⟨g1, s1, p1, l1, c1, rfl, i1, hb1⟩
  have I1 := Lib.hid i1; have HB := Lib.hid hb1; clear i1 hb1
  go_wp2_with fail
  refine (iOf_any 2 _ (by omega) (by omega)).mono ?_
  rintro e w2 ⟨g2, s2, p2, l2, c2, rfl, i2, hb2⟩
  have I1 := Lib.hid (I1.out.mono hb2); have I2 := Lib.hid i2; have HB := Lib.hid (below_step HB.out hb2); clear i2 hb2
  go_wp2_with fail
  refine (T1.out _ _ _ _ _ _ _ _ _ _ _ I1.out I2.out).mono ?_
  rintro e w3 ⟨g3, s3, p3, l3, c3, g4, s4, p4, l4, c4, rfl, i3, i4, hb3⟩
  rw [show qdiv (-7) 2 = -4 from rfl] at i3
  rw [show qmod (-7) 2 = 1 from rfl] at i4
  obtain ⟨rfl, rfl, rfl, rfl, rfl⟩ := isI_small i3 (by decide)
  obtain ⟨rfl, rfl, rfl, rfl, rfl⟩ := isI_small i4 (by decide)
  rw [show decide ((-4 : Int) < 0) = true from rfl, show decide ((1 : Int) < 0) = false from rfl, show ((Int.natAbs (-4) : Nat) : Int) = 4 from rfl, show ((Int.natAbs 1 : Nat) : Int) = 1 from rfl]
  have HB := Lib.hid (below_step HB.out hb3)
  clear i3 i4 hb3 I1 I2 T1
  go_wp2_with fail
  obtain ⟨V, hV⟩ : ∃ V, V = (w3.alloc (.cells #[.bool true, .int .u64 4, .slice none 0 0] 27)).alloc (.cells #[.bool false, .int .u64 1, .slice none 0 0] 27) := ⟨_, rfl⟩
  obtain ⟨b, hbb⟩ : ∃ b, b = w3.heap.size + 1 := ⟨_, rfl⟩
  obtain ⟨a, ha⟩ : ∃ a, a = w3.heap.size := ⟨_, rfl⟩
  have hb : Below w3.heap.size w3 V := by rw [hV]; exact below_alloc (below_alloc (Below.refl _ _) _) _
  have A0 : V.cell? ⟨a, 0, none⟩ = some (.bool true) := by simp [hV, ha, go_sem]
  have A1 : V.cell? ⟨a, 1, none⟩ = some (.int .u64 4) := by simp [hV, ha, go_sem]
  have A2 : V.cell? ⟨a, 2, none⟩ = some (.slice none 0 0) := by simp [hV, ha, go_sem]
  have B0 : V.cell? ⟨b, 0, none⟩ = some (.bool false) := by simp [hV, hbb, go_sem]
  have B1 : V.cell? ⟨b, 1, none⟩ = some (.int .u64 1) := by simp [hV, hbb, go_sem]
  have B2 : V.cell? ⟨b, 2, none⟩ = some (.slice none 0 0) := by simp [hV, hbb, go_sem]
  rw [← hV]; try rw [← hbb]
  try rw [← ha]
  have HB := Lib.hid (below_step HB.out hb)
  clear hV hbb ha hb
  refine (iOf_any 6 _ (by omega) (by omega)).mono ?_
  rintro e w4 ⟨g1, s1, p1, l1, c1, rfl, i1, hb⟩
  replace A0 := wcell hb A0; replace A1 := wcell hb A1; replace A2 := wcell hb A2; replace B0 := wcell hb B0; replace B1 := wcell hb B1; replace B2 := wcell hb B2
  have I1 := Lib.hid i1; have HB := Lib.hid (below_step HB.out hb); clear i1 hb
  go_wp2_with fail
  refine (iOf_any 4 _ (by omega) (by omega)).mono ?_
  rintro e w5 ⟨g2, s2, p2, l2, c2, rfl, i2, hb⟩
  replace A0 := wcell hb A0; replace A1 := wcell hb A1; replace A2 := wcell hb A2; replace B0 := wcell hb B0; replace B1 := wcell hb B1; replace B2 := wcell hb B2
  have I1 := Lib.hid (I1.out.mono hb); have I2 := Lib.hid i2; have HB := Lib.hid (below_step HB.out hb); clear i2 hb
  go_wp2_with fail
  refine (T2.out _ _ _ _ _ _ _ _ _ _ _ I1.out I2.out).mono ?_
  rintro e w6 ⟨X, Y, g3, s3, p3, l3, c3, g4, s4, p4, l4, c4, g5, s5, p5, l5, c5, rfl, hX, i3, i4, i5, hb⟩
  obtain ⟨rfl, rfl⟩ := bez64 hX
  rw [show Nat.gcd (Int.natAbs 6) (Int.natAbs 4) = 2 from by decide] at i3
  obtain ⟨rfl, rfl, rfl, rfl, rfl⟩ := isI_small i3 (by decide)
  obtain ⟨rfl, rfl, rfl, rfl, rfl⟩ := isI_small i4 (by decide)
  obtain ⟨rfl, rfl, rfl, rfl, rfl⟩ := isI_small i5 (by decide)
  rw [show decide (((2 : Nat) : Int) < 0) = false from rfl, show decide ((1 : Int) < 0) = false from rfl, show decide ((-1 : Int) < 0) = true from rfl, show ((Int.natAbs ((2 : Nat) : Int) : Nat) : Int) = 2 from rfl, show ((Int.natAbs 1 : Nat) : Int) = 1 from rfl, show ((Int.natAbs (-1) : Nat) : Int) = 1 from rfl]
  replace A0 := wcell hb A0; replace A1 := wcell hb A1; replace A2 := wcell hb A2; replace B0 := wcell hb B0; replace B1 := wcell hb B1; replace B2 := wcell hb B2
  have HB := Lib.hid (below_step HB.out hb)
  have za : a < w6.heap.size := World.block_lt_of_cell? _ _ A0
  have zb : b < w6.heap.size := World.block_lt_of_cell? _ _ B0
  have za1 : a < w6.heap.size + 1 := by omega
  have za2 : a < w6.heap.size + 1 + 1 := by omega
  have zb1 : b < w6.heap.size + 1 := by omega
  have zb2 : b < w6.heap.size + 1 + 1 := by omega
  clear i3 i4 i5 hb I1 I2 T2 hX
  go_wp2_with fail
  obtain ⟨U, hU⟩ : ∃ U, U = ((w6.alloc (.cells #[.bool false, .int .u64 2, .slice none 0 0] 27)).alloc (.cells #[.bool false, .int .u64 1, .slice none 0 0] 27)).alloc (.cells #[.bool true, .int .u64 1, .slice none 0 0] 27) := ⟨_, rfl⟩
  obtain ⟨c3, h3⟩ : ∃ c, c = w6.heap.size + 1 + 1 := ⟨_, rfl⟩
  obtain ⟨c2, h2⟩ : ∃ c, c = w6.heap.size + 1 := ⟨_, rfl⟩
  obtain ⟨c1, h1⟩ : ∃ c, c = w6.heap.size := ⟨_, rfl⟩
  have hb : Below w6.heap.size w6 U := by rw [hU]; exact below_alloc (below_alloc (below_alloc (Below.refl _ _) _) _) _
  have C0 : U.cell? ⟨c1, 0, none⟩ = some (.bool false) := by simp [hU, h1, go_sem]
  have C1 : U.cell? ⟨c1, 1, none⟩ = some (.int .u64 2) := by simp [hU, h1, go_sem]
  have C2 : U.cell? ⟨c1, 2, none⟩ = some (.slice none 0 0) := by simp [hU, h1, go_sem]
  have D0 : U.cell? ⟨c2, 0, none⟩ = some (.bool false) := by simp [hU, h2, go_sem]
  have D1 : U.cell? ⟨c2, 1, none⟩ = some (.int .u64 1) := by simp [hU, h2, go_sem]
  have D2 : U.cell? ⟨c2, 2, none⟩ = some (.slice none 0 0) := by simp [hU, h2, go_sem]
  have E0 : U.cell? ⟨c3, 0, none⟩ = some (.bool true) := by simp [hU, h3, go_sem]
  have E1 : U.cell? ⟨c3, 1, none⟩ = some (.int .u64 1) := by simp [hU, h3, go_sem]
  have E2 : U.cell? ⟨c3, 2, none⟩ = some (.slice none 0 0) := by simp [hU, h3, go_sem]
  replace A0 := wcell hb A0
  replace A1 := wcell hb A1
  replace A2 := wcell hb A2
  replace B0 := wcell hb B0
  replace B1 := wcell hb B1
  replace B2 := wcell hb B2
  rw [← hU, ← h3, ← h2, ← h1]
  have HB := Lib.hid (below_step HB.out hb)
  clear hU h1 h2 h3 hb za zb za1 za2 zb1 zb2
  refine (iText_m4 _).mono ?_
  rintro e u0 ⟨rfl, hb⟩
  replace B0 := wcell hb B0
  replace B1 := wcell hb B1
  replace B2 := wcell hb B2
  replace C0 := wcell hb C0
  replace C1 := wcell hb C1
  replace C2 := wcell hb C2
  replace D0 := wcell hb D0
  replace D1 := wcell hb D1
  replace D2 := wcell hb D2
  replace E0 := wcell hb E0
  replace E1 := wcell hb E1
  replace E2 := wcell hb E2
  have HB := Lib.hid (below_step HB.out hb)
  clear hb
  go_wp2_with fail
  refine (iText_pos 1 _ _ small_1).mono ?_
  rintro e u1 ⟨rfl, hb⟩
  replace C0 := wcell hb C0
  replace C1 := wcell hb C1
  replace C2 := wcell hb C2
  replace D0 := wcell hb D0
  replace D1 := wcell hb D1
  replace D2 := wcell hb D2
  replace E0 := wcell hb E0
  replace E1 := wcell hb E1
  replace E2 := wcell hb E2
  have HB := Lib.hid (below_step HB.out hb)
  clear hb
  go_wp2_with fail
  refine (iText_pos 2 _ _ small_2).mono ?_
  rintro e u2 ⟨rfl, hb⟩
  replace D0 := wcell hb D0
  replace D1 := wcell hb D1
  replace D2 := wcell hb D2
  replace E0 := wcell hb E0
  replace E1 := wcell hb E1
  replace E2 := wcell hb E2
  have HB := Lib.hid (below_step HB.out hb)
  clear hb
  go_wp2_with fail
  refine (iText_pos 1 _ _ small_1).mono ?_
  rintro e u3 ⟨rfl, hb⟩
  replace E0 := wcell hb E0
  replace E1 := wcell hb E1
  replace E2 := wcell hb E2
  have HB := Lib.hid (below_step HB.out hb)
  clear hb
  go_wp2_with fail
  refine (iText_m1 _).mono ?_
  rintro e u4 ⟨rfl, hb⟩
  have HB := Lib.hid (below_step HB.out hb)
  clear hb
  go_wp2
  go_ret
  exact ⟨rfl, HB.out⟩
end Go.Proofs.YthenfejgnjdkjaaGreatDoor
