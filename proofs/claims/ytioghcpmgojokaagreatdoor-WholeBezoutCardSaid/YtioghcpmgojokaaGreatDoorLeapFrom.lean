/- The leap that two leading words determine: the program's. -/
import Derived.Test.YtioghcpmgojokaaGreatDoorLehmer
import Derived.Test.YtioghcpmgojokaaGreatDoorLeaf
import Derived.Test.YtioghcpmgojokaaGreatDoorInv
namespace Go.Proofs.YtioghcpmgojokaaGreatDoor
open Go.RowKit

/-- Where a leap is: at its start, or under way. -/
def LeapSt (X Y K a b A B u0 u1 u2 v0 v1 v2 : Nat) (odd : Bool) : Prop :=
  (A = a ∧ B = b ∧ u0 = 0 ∧ u1 = 1 ∧ u2 = 0 ∧ v0 = 0 ∧ v1 = 0 ∧ v2 = 1 ∧ odd = true) ∨ ∃ P Q q, Run X Y K a b A B u0 u1 u2 v0 v1 v2 P Q q odd

section
variable {X Y K a b A B u0 u1 u2 v0 v1 v2 : Nat} {odd : Bool}
theorem LeapSt.le (h : LeapSt X Y K a b A B u0 u1 u2 v0 v1 v2 odd) (hba : b ≤ a) : B ≤ A ∧ A ≤ a ∧ 1 ≤ v2 := by
  rcases h with ⟨rfl, rfl, _, _, _, _, _, rfl, _⟩ | ⟨P, Q, q, h⟩
  · omega
  · have h1 := h.ba; have h2 := h.e1; have h3 := h.vpos; have h4 := h.r1; have h5 := h.uv2
    have hv2 : 1 ≤ v2 := by
      rcases Nat.eq_zero_or_pos v2 with h0 | h0
      · exfalso
        have hu2 : u2 = 0 := by omega
        have hv0 : v0 = 0 := by omega
        have hq1 : q * v1 = 0 := by omega
        have hq0 : q = 0 := by rcases Nat.mul_eq_zero.1 hq1 with h | h <;> omega
        have h6 := h.r2
        subst hq0
        have hu0 : u0 = 0 := by omega
        subst hu0; subst hv0
        have h7 := h.d1; have h8 := h.d0
        cases odd
        · have := h8 rfl; omega
        · have := h7 rfl; omega
      · exact h0
    have : 1 * A ≤ v2 * A := Nat.mul_le_mul_right _ hv2
    omega
/-- What is reckoned on the way goes into a word. -/
theorem LeapSt.short (h : LeapSt X Y K a b A B u0 u1 u2 v0 v1 v2 odd) (ha : 1 ≤ a) : u2 ≤ b ∧ v2 ≤ a := by
  rcases h with ⟨rfl, rfl, _, _, rfl, _, _, rfl, _⟩ | ⟨P, Q, q, h⟩
  · omega
  · have := h.short; omega
theorem LeapSt.sum (h : LeapSt X Y K a b A B u0 u1 u2 v0 v1 v2 odd) (ha : 1 ≤ a) (hB : 1 ≤ B) : v1 + v2 ≤ a := by
  rcases h with ⟨rfl, rfl, _, _, _, _, rfl, rfl, _⟩ | ⟨P, Q, q, h⟩
  · omega
  · have h1 := h.e1; have h2 := h.ba
    have h3 : v2 * 1 ≤ v2 * A := Nat.mul_le_mul_left _ (by omega)
    have h4 : v1 * 1 ≤ v1 * B := Nat.mul_le_mul_left _ hB
    omega
theorem LeapSt.step (h : LeapSt X Y K a b A B u0 u1 u2 v0 v1 v2 odd) (hK : 0 < K) (ha : a = X / K) (hb : b = Y / K) (c1 : v2 ≤ B) (c2 : v1 + v2 ≤ A - B) :
    LeapSt X Y K a b B (A % B) u1 u2 (u1 + A / B * u2) v1 v2 (v1 + A / B * v2) (!odd) := by
  rcases h with ⟨rfl, rfl, rfl, rfl, rfl, rfl, rfl, rfl, rfl⟩ | ⟨P, Q, q, h⟩
  · exact Or.inr ⟨_, _, _, Run.start ha hb (by omega) (by omega)⟩
  · exact Or.inr ⟨_, _, _, (h.step hK ha hb c1 c2).1⟩
end

inductive VWant where
  | is (v : Value)
  | any
def VMeans (_ : World) : VWant → Value → Prop
  | .is x, v => v = x
  | .any, _ => True
def VTab (t : List VWant) (off : Nat) (i : Nat) (v : Value) (w : World) : Prop := VMeans w (t.getD (i - off) .any) v
theorem VTab.stable {t : List VWant} {off : Nat} : ∀ i v w w', Below w.heap.size w w' → VTab t off i v w → VTab t off i v w' := fun _ _ _ _ _ h => h
/-- The box of the leap that is returned, as it was made. -/
structure LBox (b : Nat) (w : World) : Prop where
  c0 : w.cell? ⟨b, 0, none⟩ = some (.int .u64 0)
  c1 : w.cell? ⟨b, 1, none⟩ = some (.int .u64 0)
  c2 : w.cell? ⟨b, 2, none⟩ = some (.int .u64 0)
  c3 : w.cell? ⟨b, 3, none⟩ = some (.int .u64 0)
  c4 : w.cell? ⟨b, 4, none⟩ = some (.bool false)
  f0 : w.frozen? ⟨b, 0, none⟩ = false
  f1 : w.frozen? ⟨b, 1, none⟩ = false
  f2 : w.frozen? ⟨b, 2, none⟩ = false
  f3 : w.frozen? ⟨b, 3, none⟩ = false
  f4 : w.frozen? ⟨b, 4, none⟩ = false
theorem LBox.below {b : Nat} {w w' : World} (h : LBox b w) (hb : Below w.heap.size w w') : LBox b w' :=
  have hl : b < w.heap.size := World.block_lt_of_cell? _ _ h.c0
  ⟨by rw [hb.cell hl]; exact h.c0, by rw [hb.cell hl]; exact h.c1, by rw [hb.cell hl]; exact h.c2, by rw [hb.cell hl]; exact h.c3, by rw [hb.cell hl]; exact h.c4,
    by rw [hb.frozen hl]; exact h.f0, by rw [hb.frozen hl]; exact h.f1, by rw [hb.frozen hl]; exact h.f2, by rw [hb.frozen hl]; exact h.f3, by rw [hb.frozen hl]; exact h.f4⟩

def RetLeap (w : World) (X Y K a b : Nat) : Ending → World → Prop := fun e w' =>
  ∃ A B u0 u1 u2 v0 v1 v2 odd, e = .returned (.tuple #[.agg #[.int .u64 ((u0 : Nat) : Int), .int .u64 ((v0 : Nat) : Int), .int .u64 ((u1 : Nat) : Int), .int .u64 ((v1 : Nat) : Int), .bool odd], .bool (((v0 : Nat) : Int) != 0)]) ∧ LeapSt X Y K a b A B u0 u1 u2 v0 v1 v2 odd ∧ Below w.heap.size w w'

set_option maxRecDepth 100000 in
set_option maxHeartbeats 2000000 in
theorem leapFrom_any (X Y K a b : Nat) (w : World) (hK : 0 < K) (ha : a = X / K) (hb : b = Y / K) (hba : b ≤ a) (ha1 : 1 ≤ a) (ha2 : a < 2 ^ 64) :
    Calls Tryz.prog 59 #[.int .u64 (a : Int), .int .u64 (b : Int)] w (RetLeap w X Y K a b) := by
  have HA := Lib.hid ha; have HB := Lib.hid hb; have HA2 := Lib.hid ha2
  clear ha hb ha2
  go_enter Tryz.func59, Tryz.ntmps59
  go_wp2
  go_loopw [6, 7, 8, 9, 10, 11, 12, 0, 1] (fun x6 x7 x8 x9 x10 x11 x12 x0 x1 wr => ∃ A B u0 u1 u2 v0 v1 v2 odd, x0 = .int .u64 ((A : Nat) : Int) ∧ x1 = .int .u64 ((B : Nat) : Int) ∧ x6 = .int .u64 ((u0 : Nat) : Int) ∧ x7 = .int .u64 ((u1 : Nat) : Int) ∧ x8 = .int .u64 ((u2 : Nat) : Int) ∧ x9 = .int .u64 ((v0 : Nat) : Int) ∧ x10 = .int .u64 ((v1 : Nat) : Int) ∧ x11 = .int .u64 ((v2 : Nat) : Int) ∧ x12 = .bool odd ∧ Hid (LeapSt X Y K a b A B u0 u1 u2 v0 v1 v2 odd) ∧ Hid (LBox w.heap.size wr) ∧ Hid (Below w.heap.size w wr)) (fun _ _ _ _ _ _ _ _ x1 _ => (intOf x1).toNat)
  case atStart => exact ⟨a, b, 0, 1, 0, 0, 0, 1, true, rfl, rfl, rfl, rfl, rfl, rfl, rfl, rfl, rfl, Lib.hid (Or.inl ⟨rfl, rfl, rfl, rfl, rfl, rfl, rfl, rfl, rfl⟩), Lib.hid ⟨by simp [go_sem], by simp [go_sem], by simp [go_sem], by simp [go_sem], by simp [go_sem], by simp [go_sem], by simp [go_sem], by simp [go_sem], by simp [go_sem], by simp [go_sem]⟩, Lib.hid (below_alloc (Below.refl _ _) _)⟩
  case round =>
    obtain ⟨A, B, u0, u1, u2, v0, v1, v2, odd, rfl, rfl, rfl, rfl, rfl, rfl, rfl, rfl, rfl, HI, HL, HW⟩ := hrel
    have hle := HI.out.le hba
    have hsh := HI.out.short ha1
    have ha2 := HA2.out
    by_cases c1 : v2 ≤ B
    · have hsum := HI.out.sum ha1 (by omega)
      have hw1 : IntKind.u64.wrap ((v1 : Int) + (v2 : Int)) = ((v1 + v2 : Nat) : Int) := by rw [IntKind.wrap_u64]; omega
      have hw2 : IntKind.u64.wrap ((A : Int) - (B : Int)) = ((A - B : Nat) : Int) := by rw [IntKind.wrap_u64]; omega
      by_cases c2 : v1 + v2 ≤ A - B
      · have hn := HI.out.step hK HA.out HB.out c1 c2
        have hn2 := hn.short ha1
        have HN := Lib.hid hn
        have hr : A % B < B := Nat.mod_lt _ (by omega)
        have hw3 : IntKind.u64.wrap ((A : Int) / (B : Int)) = ((A / B : Nat) : Int) := by
          rw [← Int.natCast_ediv, IntKind.wrap_u64]
          have := Nat.div_le_self A B
          generalize A / B = t at *
          omega
        have hw4 : IntKind.u64.wrap ((A : Int) % (B : Int)) = ((A % B : Nat) : Int) := by
          rw [← Int.natCast_emod, IntKind.wrap_u64]
          omega
        have hw5 : IntKind.u64.wrap (((A / B : Nat) : Int) * (u2 : Int)) = ((A / B * u2 : Nat) : Int) := by
          rw [← Int.natCast_mul, IntKind.wrap_u64]
          omega
        have hw6 : IntKind.u64.wrap ((u1 : Int) + ((A / B * u2 : Nat) : Int)) = ((u1 + A / B * u2 : Nat) : Int) := by rw [IntKind.wrap_u64]; omega
        have hw7 : IntKind.u64.wrap (((A / B : Nat) : Int) * (v2 : Int)) = ((A / B * v2 : Nat) : Int) := by
          rw [← Int.natCast_mul, IntKind.wrap_u64]
          omega
        have hw8 : IntKind.u64.wrap ((v1 : Int) + ((A / B * v2 : Nat) : Int)) = ((v1 + A / B * v2 : Nat) : Int) := by rw [IntKind.wrap_u64]; omega
        have hw9 : (A : Int).tmod (B : Int) = ((A % B : Nat) : Int) := by rw [Int.tmod_eq_emod_of_nonneg (by omega)]; exact (Int.natCast_emod A B).symm
        have hBn : B ≠ 0 := by omega
        obtain ⟨n2, e2⟩ : ∃ n2, n2 = v1 + A / B * v2 := ⟨_, rfl⟩
        obtain ⟨n1, e1⟩ : ∃ n1, n1 = u1 + A / B * u2 := ⟨_, rfl⟩
        obtain ⟨m2, e4⟩ : ∃ n2, n2 = A / B * v2 := ⟨_, rfl⟩
        obtain ⟨m1, e3⟩ : ∃ n1, n1 = A / B * u2 := ⟨_, rfl⟩
        obtain ⟨t, e5⟩ : ∃ t, t = A / B := ⟨_, rfl⟩
        obtain ⟨r, e6⟩ : ∃ t, t = A % B := ⟨_, rfl⟩
        rw [← e1, ← e2, ← e6] at HN
        rw [← e2] at hw8; rw [← e1] at hw6; rw [← e4] at hw7 hw8; rw [← e3] at hw5 hw6; rw [← e5] at hw3 hw5 hw7; rw [← e6] at hw4 hw9 hr
        obtain ⟨s, es⟩ : ∃ s, s = v1 + v2 := ⟨_, rfl⟩
        obtain ⟨d, ed⟩ : ∃ d, d = A - B := ⟨_, rfl⟩
        rw [← es] at hw1 c2; rw [← ed] at hw2 c2
        have hB0 : (B : Int) ≠ 0 := by omega
        clear e1 e2 e3 e4 e5 e6 es ed hn hn2 hsum hsh hle HI ha2
        go_wp2
--REGION5
        refine region_v (slots := [29, 30, 31, 32, 0, 1]) (V := VTab [.is (.int .u64 ((B : Nat) : Int)), .is (.int .u64 ((A : Nat) : Int)), .is (.int .u64 ((B : Nat) : Int)), .is (.int .u64 ((r : Nat) : Int)), .is (.int .u64 ((B : Nat) : Int)), .is (.int .u64 ((r : Nat) : Int))] 0) (by kernel_rfl) (by kernel_rfl) VTab.stable (by kernel_rfl) (by kernel_rfl) ?_ ?_
        · skip
          refine AllV.cons rfl (fun E W hb hc hf hE hV => Or.inl ⟨rfl, ?_⟩) ?_
          · have e1 : E (.tmp 1) = .int .u64 ((B : Nat) : Int) := hE 1 (by kernel_rfl)
            clear hE hV
            exact Does.value (w' := W) (by go_simp) ⟨rfl, Below.refl _ _⟩
          refine AllV.cons rfl (fun E W hb hc hf hE hV => Or.inl ⟨rfl, ?_⟩) ?_
          · have e1 : E (.tmp 0) = .int .u64 ((A : Nat) : Int) := hE 0 (by kernel_rfl)
            clear hE hV
            exact Does.value (w' := W) (by go_simp) ⟨rfl, Below.refl _ _⟩
          refine AllV.cons rfl (fun E W hb hc hf hE hV => Or.inl ⟨rfl, ?_⟩) ?_
          · have e1 : E (.tmp 1) = .int .u64 ((B : Nat) : Int) := hE 1 (by kernel_rfl)
            clear hE hV
            exact Does.value (w' := W) (by go_simp) ⟨rfl, Below.refl _ _⟩
          refine AllV.cons rfl (fun E W hb hc hf hE hV => Or.inl ⟨rfl, ?_⟩) ?_
          · have e1 : E (.tmp 30) = _ := hV 1 30 (by kernel_rfl) (by kernel_rfl)
            have e2 : E (.tmp 31) = _ := hV 2 31 (by kernel_rfl) (by kernel_rfl)
            clear hE hV
            exact Does.value (w' := W) (by go_simp) ⟨rfl, Below.refl _ _⟩
          refine AllV.cons rfl (fun E W hb hc hf hE hV => Or.inl ⟨rfl, ?_⟩) ?_
          · have e1 : E (.tmp 29) = _ := hV 0 29 (by kernel_rfl) (by kernel_rfl)
            clear hE hV
            exact Does.value (w' := W) (by go_simp) ⟨rfl, Below.refl _ _⟩
          refine AllV.cons rfl (fun E W hb hc hf hE hV => Or.inl ⟨rfl, ?_⟩) ?_
          · have e1 : E (.tmp 32) = _ := hV 3 32 (by kernel_rfl) (by kernel_rfl)
            clear hE hV
            exact Does.value (w' := W) (by go_simp) ⟨rfl, Below.refl _ _⟩
          exact AllV.nil
--END5
        intro f W hf hb
        have g0 : f 29 = .int .u64 ((B : Nat) : Int) := hf (0, 29) (by decide)
        have g1 : f 30 = .int .u64 ((A : Nat) : Int) := hf (1, 30) (by decide)
        have g2 : f 31 = .int .u64 ((B : Nat) : Int) := hf (2, 31) (by decide)
        have g3 : f 32 = .int .u64 ((r : Nat) : Int) := hf (3, 32) (by decide)
        have g4 : f 0 = .int .u64 ((B : Nat) : Int) := hf (4, 0) (by decide)
        have g5 : f 1 = .int .u64 ((r : Nat) : Int) := hf (5, 1) (by decide)
        have HL2 := Lib.hid (HL.out.below hb)
        have HW2 := Lib.hid (below_step HW.out hb)
        clear hf hb HL HW
        simp only [fillSlots, List.setIfInBounds_toArray, List.set_cons_succ, List.set_cons_zero, g0, g1, g2, g3, g4, g5]
        clear g0 g1 g2 g3 g4 g5
        go_wp2
        go_roundw
        case rel => exact ⟨B, r, u1, u2, n1, v1, v2, n2, !odd, rfl, rfl, rfl, rfl, rfl, rfl, rfl, rfl, rfl, HN, HL2, HW2⟩
        case measure => simp [intOf]; omega
      · obtain ⟨s, es⟩ : ∃ s, s = v1 + v2 := ⟨_, rfl⟩
        obtain ⟨d, ed⟩ : ∃ d, d = A - B := ⟨_, rfl⟩
        rw [← es] at hw1 c2; rw [← ed] at hw2 c2
        clear es ed hsum hsh hle ha2
        obtain ⟨k0, k1, k2, k3, k4, f0, f1, f2, f3, f4⟩ := HL.out
        go_wp2
        exact bodyPost_ret (v := .tuple #[.agg #[.int .u64 (u0 : Int), .int .u64 (v0 : Int), .int .u64 (u1 : Int), .int .u64 (v1 : Int), .bool odd], .bool ((v0 : Int) != 0)]) (by simp [results, Tryz.results59, go_sem, k0, k1, k2, k3, k4]) rfl ⟨A, B, u0, u1, u2, v0, v1, v2, odd, rfl, HI.out, ((((HW.out.setCell (Nat.le_refl _) _).setCell (Nat.le_refl _) _).setCell (Nat.le_refl _) _).setCell (Nat.le_refl _) _).setCell (Nat.le_refl _) _⟩
    · clear hsh hle ha2
      obtain ⟨k0, k1, k2, k3, k4, f0, f1, f2, f3, f4⟩ := HL.out
      go_wp2
      exact bodyPost_ret (v := .tuple #[.agg #[.int .u64 (u0 : Int), .int .u64 (v0 : Int), .int .u64 (u1 : Int), .int .u64 (v1 : Int), .bool odd], .bool ((v0 : Int) != 0)]) (by simp [results, Tryz.results59, go_sem, k0, k1, k2, k3, k4]) rfl ⟨A, B, u0, u1, u2, v0, v1, v2, odd, rfl, HI.out, ((((HW.out.setCell (Nat.le_refl _) _).setCell (Nat.le_refl _) _).setCell (Nat.le_refl _) _).setCell (Nat.le_refl _) _).setCell (Nat.le_refl _) _⟩
end Go.Proofs.YtioghcpmgojokaaGreatDoor
