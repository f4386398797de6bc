/- What a leap makes of two numbers: the program's. -/
import Derived.Test.YthenfejgnjdkjaaGreatDoorLeapDiff
import Derived.Deep.RegionWith
namespace Go.Proofs.YthenfejgnjdkjaaGreatDoor
open Go.RowKit

def RetTake (w : World) (b1 o1 b2 o2 n P Q : Nat) : Ending → World → Prop := fun e w' =>
  ∃ (zs1 zs2 : List Nat) (w1 w2 : World), e = .returned (.tuple #[]) ∧ zs1.length = n ∧ zs2.length = n ∧ (∀ x ∈ zs1, x < 2 ^ 64) ∧ (∀ x ∈ zs2, x < 2 ^ 64) ∧ val (2 ^ 64) zs1 = P ∧ val (2 ^ 64) zs2 = Q ∧
    At w' .u64 b1 o1 zs1 ∧ At w' .u64 b2 o2 zs2 ∧ Below w.heap.size w w1 ∧ Only w1 w2 b1 o1 n ∧ Only w2 w' b2 o2 n

set_option maxRecDepth 100000 in
set_option maxHeartbeats 2000000 in
theorem take_odd (b1 o1 k1 b2 o2 k2 bx ox kx b3 oy ky n u0 v0 u1 v1 P Q : Nat) (zs1 zs2 xs ys : List Nat) (w : World) (hz1 : zs1.length = n) (hz2 : zs2.length = n) (hx : xs.length = n) (hy : ys.length = n) (hn : n ≤ 4000000) (s1 : b1 < w.heap.size) (s2 : b2 < w.heap.size)
    (ne1 : bx ≠ b1) (ne2 : b3 ≠ b1) (ne3 : bx ≠ b2) (ne4 : b3 ≠ b2) (ne5 : b2 ≠ b1) (h1 : At w .u64 b1 o1 zs1) (f1 : Fr w b1 o1 n) (h2 : At w .u64 b2 o2 zs2) (f2 : Fr w b2 o2 n) (hX : At w .u64 bx ox xs) (hY : At w .u64 b3 oy ys)
    (l1 : ∀ x ∈ zs1, x < 2 ^ 64) (l2 : ∀ x ∈ zs2, x < 2 ^ 64) (lx : ∀ x ∈ xs, x < 2 ^ 64) (ly : ∀ x ∈ ys, x < 2 ^ 64) (hu0 : u0 < 2 ^ 64) (hv0 : v0 < 2 ^ 64) (hu1 : u1 < 2 ^ 64) (hv1 : v1 < 2 ^ 64)
    (hP : P + u0 * val (2 ^ 64) xs = v0 * val (2 ^ 64) ys) (hQ : Q + v1 * val (2 ^ 64) ys = u1 * val (2 ^ 64) xs) (hPn : P < (2 ^ 64) ^ n) (hQn : Q < (2 ^ 64) ^ n) :
    Calls Tryz.prog 59 #[.agg #[.int .u64 (u0 : Int), .int .u64 (v0 : Int), .int .u64 (u1 : Int), .int .u64 (v1 : Int), .bool true], .slice (some ⟨b1, o1, none⟩) n k1, .slice (some ⟨b2, o2, none⟩) n k2, .slice (some ⟨bx, ox, none⟩) n kx, .slice (some ⟨b3, oy, none⟩) n ky] w (RetTake w b1 o1 b2 o2 n P Q) := by
  have D1 := Lib.hid (fun W a b c d => diff_any b1 o1 k1 b3 oy ky bx ox kx n v0 u0 P zs1 ys xs W hz1 hy hx hn ne2 ne1 a b c d l1 ly lx hv0 hu0 hP hPn)
  have D2 := Lib.hid (fun W a b c d => diff_any b2 o2 k2 bx ox kx b3 oy ky n u1 v1 Q zs2 xs ys W hz2 hx hy hn ne3 ne4 a b c d l2 lx ly hu1 hv1 hQ hQn)
  have H1 := Lib.hid (And.intro h1 f1); have H2 := Lib.hid (And.intro h2 f2); have HX := Lib.hid hX; have HY := Lib.hid hY
  clear hP hQ hPn hQn h1 f1 h2 f2 hX hY l1 l2 lx ly hu0 hv0 hu1 hv1
  go_enter Tryz.func59, Tryz.ntmps59
  go_wp2
  go_region_with fail
  all_goals
    go_wp2_with fail
    refine (D1.out _ (H1.out.1.mono (by repeat' first | exact Below.refl _ _ | refine below_alloc ?_ _ | refine Below.drew ?_)) (H1.out.2.mono (by repeat' first | exact Below.refl _ _ | refine below_alloc ?_ _ | refine Below.drew ?_) s1) (HY.out.mono (by repeat' first | exact Below.refl _ _ | refine below_alloc ?_ _ | refine Below.drew ?_)) (HX.out.mono (by repeat' first | exact Below.refl _ _ | refine below_alloc ?_ _ | refine Below.drew ?_))).mono ?_
    rintro e w2 ⟨qs1, rfl, m1, m2, m3, m4, hO⟩
    have c10 := World.cell?_of_block (w := _) (w' := w2) (a := ⟨w.heap.size + 1, 0, none⟩) (hO.block (w.heap.size + 1) (by simp [World.drew]) (by omega))
    have c11 := World.cell?_of_block (w := _) (w' := w2) (a := ⟨w.heap.size + 1, 1, none⟩) (hO.block (w.heap.size + 1) (by simp [World.drew]) (by omega))
    have c20 := World.cell?_of_block (w := _) (w' := w2) (a := ⟨w.heap.size + 1 + 1, 0, none⟩) (hO.block (w.heap.size + 1 + 1) (by simp [World.drew]) (by omega))
    have c21 := World.cell?_of_block (w := _) (w' := w2) (a := ⟨w.heap.size + 1 + 1, 1, none⟩) (hO.block (w.heap.size + 1 + 1) (by simp [World.drew]) (by omega))
    simp [go_sem] at c10 c11 c20 c21
    have HO := Lib.hid hO
    have HM := Lib.hid (And.intro m1 (And.intro m2 (And.intro m3 m4)))
    have K1 := Lib.hid ((H2.out.1.mono (by repeat' first | exact Below.refl _ _ | refine below_alloc ?_ _ | refine Below.drew ?_)).only hO ne5)
    have K2 := Lib.hid ((H2.out.2.mono (by repeat' first | exact Below.refl _ _ | refine below_alloc ?_ _ | refine Below.drew ?_) s2).onlyOther hO (by simp [World.drew]; omega) ne5)
    have K3 := Lib.hid ((HX.out.mono (by repeat' first | exact Below.refl _ _ | refine below_alloc ?_ _ | refine Below.drew ?_)).only hO ne1)
    have K4 := Lib.hid ((HY.out.mono (by repeat' first | exact Below.refl _ _ | refine below_alloc ?_ _ | refine Below.drew ?_)).only hO ne2)
    clear hO m1 m2 m3 m4
    go_wp2_with fail
    refine (D2.out w2 K1.out K2.out K3.out K4.out).mono ?_
    rintro e w3 ⟨qs2, rfl, r1, r2, r3, r4, hO2⟩
    have HO2 := Lib.hid hO2
    have HR := Lib.hid (And.intro r1 (And.intro r2 (And.intro r3 r4)))
    clear hO2 r1 r2 r3 r4 c10 c11 c20 c21
    go_wp2
    go_end0
    exact ⟨qs1, qs2, _, w2, rfl, HM.out.1, HR.out.1, HM.out.2.1, HR.out.2.1, HM.out.2.2.1, HR.out.2.2.1, HM.out.2.2.2.only HO2.out (fun h => ne5 h.symm), HR.out.2.2.2, (by repeat' first | exact Below.refl _ _ | refine below_alloc ?_ _ | refine Below.drew ?_), HO.out, HO2.out⟩

set_option maxRecDepth 100000 in
set_option maxHeartbeats 2000000 in
theorem take_even (b1 o1 k1 b2 o2 k2 bx ox kx b3 oy ky n u0 v0 u1 v1 P Q : Nat) (zs1 zs2 xs ys : List Nat) (w : World) (hz1 : zs1.length = n) (hz2 : zs2.length = n) (hx : xs.length = n) (hy : ys.length = n) (hn : n ≤ 4000000) (s1 : b1 < w.heap.size) (s2 : b2 < w.heap.size)
    (ne1 : bx ≠ b1) (ne2 : b3 ≠ b1) (ne3 : bx ≠ b2) (ne4 : b3 ≠ b2) (ne5 : b2 ≠ b1) (h1 : At w .u64 b1 o1 zs1) (f1 : Fr w b1 o1 n) (h2 : At w .u64 b2 o2 zs2) (f2 : Fr w b2 o2 n) (hX : At w .u64 bx ox xs) (hY : At w .u64 b3 oy ys)
    (l1 : ∀ x ∈ zs1, x < 2 ^ 64) (l2 : ∀ x ∈ zs2, x < 2 ^ 64) (lx : ∀ x ∈ xs, x < 2 ^ 64) (ly : ∀ x ∈ ys, x < 2 ^ 64) (hu0 : u0 < 2 ^ 64) (hv0 : v0 < 2 ^ 64) (hu1 : u1 < 2 ^ 64) (hv1 : v1 < 2 ^ 64)
    (hP : P + v0 * val (2 ^ 64) ys = u0 * val (2 ^ 64) xs) (hQ : Q + u1 * val (2 ^ 64) xs = v1 * val (2 ^ 64) ys) (hPn : P < (2 ^ 64) ^ n) (hQn : Q < (2 ^ 64) ^ n) :
    Calls Tryz.prog 59 #[.agg #[.int .u64 (u0 : Int), .int .u64 (v0 : Int), .int .u64 (u1 : Int), .int .u64 (v1 : Int), .bool false], .slice (some ⟨b1, o1, none⟩) n k1, .slice (some ⟨b2, o2, none⟩) n k2, .slice (some ⟨bx, ox, none⟩) n kx, .slice (some ⟨b3, oy, none⟩) n ky] w (RetTake w b1 o1 b2 o2 n P Q) := by
  have D1 := Lib.hid (fun W a b c d => diff_any b1 o1 k1 bx ox kx b3 oy ky n u0 v0 P zs1 xs ys W hz1 hx hy hn ne1 ne2 a b c d l1 lx ly hu0 hv0 hP hPn)
  have D2 := Lib.hid (fun W a b c d => diff_any b2 o2 k2 b3 oy ky bx ox kx n v1 u1 Q zs2 ys xs W hz2 hy hx hn ne4 ne3 a b c d l2 ly lx hv1 hu1 hQ hQn)
  have H1 := Lib.hid (And.intro h1 f1); have H2 := Lib.hid (And.intro h2 f2); have HX := Lib.hid hX; have HY := Lib.hid hY
  clear hP hQ hPn hQn h1 f1 h2 f2 hX hY l1 l2 lx ly hu0 hv0 hu1 hv1
  go_enter Tryz.func59, Tryz.ntmps59
  go_wp2
  go_region_with fail
  all_goals
    go_wp2_with fail
    refine (D1.out _ (H1.out.1.mono (by repeat' first | exact Below.refl _ _ | refine below_alloc ?_ _ | refine Below.drew ?_)) (H1.out.2.mono (by repeat' first | exact Below.refl _ _ | refine below_alloc ?_ _ | refine Below.drew ?_) s1) (HX.out.mono (by repeat' first | exact Below.refl _ _ | refine below_alloc ?_ _ | refine Below.drew ?_)) (HY.out.mono (by repeat' first | exact Below.refl _ _ | refine below_alloc ?_ _ | refine Below.drew ?_))).mono ?_
    rintro e w2 ⟨qs1, rfl, m1, m2, m3, m4, hO⟩
    have c10 := World.cell?_of_block (w := _) (w' := w2) (a := ⟨w.heap.size + 1, 0, none⟩) (hO.block (w.heap.size + 1) (by simp [World.drew]) (by omega))
    have c11 := World.cell?_of_block (w := _) (w' := w2) (a := ⟨w.heap.size + 1, 1, none⟩) (hO.block (w.heap.size + 1) (by simp [World.drew]) (by omega))
    have c20 := World.cell?_of_block (w := _) (w' := w2) (a := ⟨w.heap.size + 1 + 1, 0, none⟩) (hO.block (w.heap.size + 1 + 1) (by simp [World.drew]) (by omega))
    have c21 := World.cell?_of_block (w := _) (w' := w2) (a := ⟨w.heap.size + 1 + 1, 1, none⟩) (hO.block (w.heap.size + 1 + 1) (by simp [World.drew]) (by omega))
    simp [go_sem] at c10 c11 c20 c21
    have HO := Lib.hid hO
    have HM := Lib.hid (And.intro m1 (And.intro m2 (And.intro m3 m4)))
    have K1 := Lib.hid ((H2.out.1.mono (by repeat' first | exact Below.refl _ _ | refine below_alloc ?_ _ | refine Below.drew ?_)).only hO ne5)
    have K2 := Lib.hid ((H2.out.2.mono (by repeat' first | exact Below.refl _ _ | refine below_alloc ?_ _ | refine Below.drew ?_) s2).onlyOther hO (by simp [World.drew]; omega) ne5)
    have K3 := Lib.hid ((HX.out.mono (by repeat' first | exact Below.refl _ _ | refine below_alloc ?_ _ | refine Below.drew ?_)).only hO ne1)
    have K4 := Lib.hid ((HY.out.mono (by repeat' first | exact Below.refl _ _ | refine below_alloc ?_ _ | refine Below.drew ?_)).only hO ne2)
    clear hO m1 m2 m3 m4
    go_wp2_with fail
    refine (D2.out w2 K1.out K2.out K4.out K3.out).mono ?_
    rintro e w3 ⟨qs2, rfl, r1, r2, r3, r4, hO2⟩
    have HO2 := Lib.hid hO2
    have HR := Lib.hid (And.intro r1 (And.intro r2 (And.intro r3 r4)))
    clear hO2 r1 r2 r3 r4 c10 c11 c20 c21
    go_wp2
    go_end0
    exact ⟨qs1, qs2, _, w2, rfl, HM.out.1, HR.out.1, HM.out.2.1, HR.out.2.1, HM.out.2.2.1, HR.out.2.2.1, HM.out.2.2.2.only HO2.out (fun h => ne5 h.symm), HR.out.2.2.2, (by repeat' first | exact Below.refl _ _ | refine below_alloc ?_ _ | refine Below.drew ?_), HO.out, HO2.out⟩
end Go.Proofs.YthenfejgnjdkjaaGreatDoor
