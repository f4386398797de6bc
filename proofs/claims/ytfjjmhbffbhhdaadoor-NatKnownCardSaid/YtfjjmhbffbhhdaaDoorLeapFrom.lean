/- Lehmer's leaps: the leading words of two numbers determine steps of Euclid's algorithm (numbers alone). -/
import Derived.Test.YtfjjmhbffbhhdaaDoorDecTxt
import Derived.Test.YtfjjmhbffbhhdaaDoorLeaf
import Derived.Test.YtfjjmhbffbhhdaaDoorInv
namespace Go.Proofs.YtfjjmhbffbhhdaaDoor

structure Run (X Y K a b A B u0 u1 u2 v0 v1 v2 P Q q : Nat) (odd : Bool) : Prop where
  e1 : v2 * A + v1 * B = a
  e2 : u2 * A + u1 * B = b
  f1 : v1 * P + v0 * Q = X
  f2 : u1 * P + u0 * Q = Y
  r1 : v2 = v0 + q * v1
  r2 : u2 = u0 + q * u1
  d1 : odd = true → u1 * v0 = u0 * v1 + 1
  d0 : odd = false → u0 * v1 = u1 * v0 + 1
  lt : Q < P
  qy : Q ≤ Y
  py : v0 ≠ 0 → P ≤ Y
  yx : Y < X
  uv1 : u1 ≤ v1
  uv2 : u2 ≤ v2
  ba : B < A
  q1 : 1 ≤ q

theorem Run.start {X Y K a b : Nat} (ha : a = X / K) (hb : b = Y / K) (h1 : 1 ≤ b) (h2 : 1 ≤ a - b) :
    Run X Y K a b b (a % b) 1 0 (1 + a / b * 0) 0 1 (0 + a / b * 1) X Y (a / b) false := by
  have hYX : Y < X := by
    rcases Nat.lt_or_ge Y X with h | h
    · exact h
    · have : a ≤ b := by rw [ha, hb]; exact Nat.div_le_div_right h
      omega
  have hm := Nat.div_add_mod a b
  have hq : 1 ≤ a / b := by rw [Nat.le_div_iff_mul_le (by omega)]; omega
  refine ⟨?_, by simp, by simp, by simp, by simp, by simp, by simp, by simp, hYX, Nat.le_refl _, fun h => absurd rfl h, hYX, by omega, by omega, Nat.mod_lt _ (by omega), hq⟩
  rw [Nat.zero_add, Nat.mul_one, Nat.one_mul, Nat.mul_comm (a / b) b]
  exact hm

section
variable {X Y K a b A B u0 u1 u2 v0 v1 v2 P Q q : Nat} {odd : Bool}

theorem Run.vpos (h : Run X Y K a b A B u0 u1 u2 v0 v1 v2 P Q q odd) : 1 ≤ v1 := by
  rcases Nat.eq_zero_or_pos v1 with h0 | h0
  · have h1 := h.uv1
    have h2 := h.d1; have h3 := h.d0
    obtain rfl : u1 = 0 := by omega
    subst h0
    cases odd
    · have := h3 rfl; omega
    · have := h2 rfl; omega
  · exact h0

theorem ring1 (v0 v1 q Q R : Nat) : (v0 + q * v1) * Q + v1 * R = v1 * (q * Q + R) + v0 * Q := by grind
theorem Run.step (h : Run X Y K a b A B u0 u1 u2 v0 v1 v2 P Q q odd) (hK : 0 < K) (ha : a = X / K) (hb : b = Y / K) (c1 : v2 ≤ B) (c2 : v1 + v2 ≤ A - B) :
    Run X Y K a b B (A % B) u1 u2 (u1 + A / B * u2) v1 v2 (v1 + A / B * v2) Q (P - q * Q) (A / B) (!odd) ∧ q * Q ≤ P := by
  have hv := h.vpos
  obtain ⟨e1, e2, f1, f2, r1, r2, d1, d0, lt, qy, py, yx, uv1, uv2, ba, _⟩ := h
  have hv2 : 1 ≤ v2 := by
    rcases Nat.eq_zero_or_pos v2 with h0 | h0
    · exfalso
      have hu2 : u2 = 0 := by omega
      have hv0 : v0 = 0 := by omega
      have hq1 : q * v1 = 0 := by omega
      have hq0 : q = 0 := by rcases Nat.mul_eq_zero.1 hq1 with h | h <;> omega
      subst hq0
      have hu0 : u0 = 0 := by omega
      subst hu0; subst hv0
      cases odd
      · have := d0 rfl; omega
      · have := d1 rfl; omega
    · exact h0
  have hB : 0 < B := by omega
  obtain ⟨α, hα⟩ : ∃ α, α = X % K := ⟨_, rfl⟩
  obtain ⟨β, hβ⟩ : ∃ β, β = Y % K := ⟨_, rfl⟩
  have hαK : α < K := by rw [hα]; exact Nat.mod_lt _ hK
  have hβK : β < K := by rw [hβ]; exact Nat.mod_lt _ hK
  have hX : a * K + α = X := by rw [ha, hα, Nat.mul_comm]; exact Nat.div_add_mod X K
  have hY : b * K + β = Y := by rw [hb, hβ, Nat.mul_comm]; exact Nat.div_add_mod Y K
  have hm := Nat.div_add_mod A B
  have hmB : A % B < B := Nat.mod_lt _ hB
  have ht1 : 1 ≤ A / B := by rw [Nat.le_div_iff_mul_le hB]; omega
  have key : q * Q ≤ P ∧ P < q * Q + Q := by
    have m1 : u2 * α ≤ u2 * K := Nat.mul_le_mul_left _ (by omega)
    have m2 : u2 * K ≤ B * K := Nat.mul_le_mul_right _ (by omega)
    have m3 : v2 * β ≤ v2 * K := Nat.mul_le_mul_left _ (by omega)
    have m4 : v2 * K ≤ B * K := Nat.mul_le_mul_right _ c1
    have m5 : (v1 + v2) * β < (v1 + v2) * K := Nat.mul_lt_mul_of_pos_left hβK (by omega)
    have m6 : (v1 + v2) * K ≤ (A - B) * K := Nat.mul_le_mul_right _ c2
    have m7 : (u1 + u2) * α ≤ (v1 + v2) * α := Nat.mul_le_mul_right _ (by omega)
    have m8 : (v1 + v2) * α < (v1 + v2) * K := Nat.mul_lt_mul_of_pos_left hαK (by omega)
    obtain ⟨C, hC⟩ : ∃ C, A = B + C := ⟨A - B, by omega⟩
    have hAB : A - B = C := by omega
    rw [hAB] at m6
    clear hm hmB ht1 c1 c2 lt qy py yx ba hα hβ ha hb hAB
    subst hC
    cases odd with
    | true =>
      have d := d1 rfl
      clear d1 d0
      have k1 : P + u2 * α = q * Q + (B * K + v2 * β) := by grind
      have k2 : Q + (q * Q + (v1 + v2) * β) = P + (C * K + (u1 + u2) * α) := by grind
      constructor
      · omega
      · omega
    | false =>
      have d := d0 rfl
      clear d1 d0
      have k1 : P + v2 * β = q * Q + (B * K + u2 * α) := by grind
      have k2 : Q + (q * Q + (u1 + u2) * α) = P + (C * K + (v1 + v2) * β) := by grind
      constructor
      · omega
      · omega
  refine ⟨⟨?_, ?_, ?_, ?_, rfl, rfl, ?_, ?_, by omega, by omega, fun _ => qy, yx, uv2, ?_, hmB, ht1⟩, key.1⟩
  · grind
  · grind
  · obtain ⟨R, hR⟩ : ∃ R, P = q * Q + R := ⟨P - q * Q, by have := key.1; omega⟩
    rw [show P - q * Q = R by omega, ← f1, r1, hR]
    exact ring1 v0 v1 q Q R
  · obtain ⟨R, hR⟩ : ∃ R, P = q * Q + R := ⟨P - q * Q, by have := key.1; omega⟩
    rw [show P - q * Q = R by omega, ← f2, r2, hR]
    exact ring1 u0 u1 q Q R
  · intro ho
    have d := d0 (by cases odd <;> simp_all)
    grind
  · intro ho
    have d := d1 (by cases odd <;> simp_all)
    grind
  · have : A / B * u2 ≤ A / B * v2 := Nat.mul_le_mul_left _ uv2
    omega

theorem Run.odd_eqs (h : Run X Y K a b A B u0 u1 u2 v0 v1 v2 P Q q true) : P + u0 * X = v0 * Y ∧ Q + v1 * Y = u1 * X := by
  obtain ⟨e1, e2, f1, f2, r1, r2, d1, d0, lt, qy, py, yx, uv1, uv2, ba, _⟩ := h
  have d := d1 rfl
  subst f1; subst f2
  constructor <;> grind
theorem Run.even_eqs (h : Run X Y K a b A B u0 u1 u2 v0 v1 v2 P Q q false) : P + v0 * Y = u0 * X ∧ Q + u1 * X = v1 * Y := by
  obtain ⟨e1, e2, f1, f2, r1, r2, d1, d0, lt, qy, py, yx, uv1, uv2, ba, _⟩ := h
  have d := d0 rfl
  subst f1; subst f2
  constructor <;> grind
theorem dvd_of_add {g m n k : Nat} (h : m + n = k) (h1 : g ∣ n) (h2 : g ∣ k) : g ∣ m := (Nat.dvd_add_left h1).1 (by rw [h]; exact h2)
theorem Run.gcd (h : Run X Y K a b A B u0 u1 u2 v0 v1 v2 P Q q odd) : Nat.gcd P Q = Nat.gcd X Y := by
  refine Nat.dvd_antisymm (Nat.dvd_gcd ?_ ?_) (Nat.dvd_gcd ?_ ?_)
  · rw [← h.f1]; exact Nat.dvd_add (Nat.dvd_trans (Nat.gcd_dvd_left _ _) (Nat.dvd_mul_left _ _)) (Nat.dvd_trans (Nat.gcd_dvd_right _ _) (Nat.dvd_mul_left _ _))
  · rw [← h.f2]; exact Nat.dvd_add (Nat.dvd_trans (Nat.gcd_dvd_left _ _) (Nat.dvd_mul_left _ _)) (Nat.dvd_trans (Nat.gcd_dvd_right _ _) (Nat.dvd_mul_left _ _))
  · cases odd
    · exact dvd_of_add h.even_eqs.1 (Nat.dvd_trans (Nat.gcd_dvd_right _ _) (Nat.dvd_mul_left _ _)) (Nat.dvd_trans (Nat.gcd_dvd_left _ _) (Nat.dvd_mul_left _ _))
    · exact dvd_of_add h.odd_eqs.1 (Nat.dvd_trans (Nat.gcd_dvd_left _ _) (Nat.dvd_mul_left _ _)) (Nat.dvd_trans (Nat.gcd_dvd_right _ _) (Nat.dvd_mul_left _ _))
  · cases odd
    · exact dvd_of_add h.even_eqs.2 (Nat.dvd_trans (Nat.gcd_dvd_left _ _) (Nat.dvd_mul_left _ _)) (Nat.dvd_trans (Nat.gcd_dvd_right _ _) (Nat.dvd_mul_left _ _))
    · exact dvd_of_add h.odd_eqs.2 (Nat.dvd_trans (Nat.gcd_dvd_right _ _) (Nat.dvd_mul_left _ _)) (Nat.dvd_trans (Nat.gcd_dvd_left _ _) (Nat.dvd_mul_left _ _))
theorem Run.short (h : Run X Y K a b A B u0 u1 u2 v0 v1 v2 P Q q odd) : v2 ≤ a ∧ u2 ≤ b := by
  have hA : 0 < A := by have := h.ba; omega
  have h1 := h.e1; have h2 := h.e2
  have h3 : v2 * 1 ≤ v2 * A := Nat.mul_le_mul_left _ hA
  have h4 : u2 * 1 ≤ u2 * A := Nat.mul_le_mul_left _ hA
  omega
theorem Run.words (h : Run X Y K a b A B u0 u1 u2 v0 v1 v2 P Q q odd) : u0 ≤ b ∧ u1 ≤ b ∧ v0 ≤ a ∧ v1 ≤ a := by
  have h1 := h.short; have h2 := h.r1; have h3 := h.r2
  have h4 : 1 * v1 ≤ q * v1 := Nat.mul_le_mul_right _ h.q1
  have h5 : 1 * u1 ≤ q * u1 := Nat.mul_le_mul_right _ h.q1
  omega
end
end Go.Proofs.YtfjjmhbffbhhdaaDoor

/- The leap that two leading words determine: the program's. -/
namespace Go.Proofs.YtfjjmhbffbhhdaaDoor
open Go.RowKit

def LeapSt (X Y K a b A B u0 u1 u2 v0 v1 v2 : Nat) (odd : Bool) : Prop :=
  (A = a ∧ B = b ∧ u0 = 0 ∧ u1 = 1 ∧ u2 = 0 ∧ v0 = 0 ∧ v1 = 0 ∧ v2 = 1 ∧ odd = true) ∨ ∃ P Q q, Run X Y K a b A B u0 u1 u2 v0 v1 v2 P Q q odd

section
variable {X Y K a b A B u0 u1 u2 v0 v1 v2 : Nat} {odd : Bool}
theorem LeapSt.le (h : LeapSt X Y K a b A B u0 u1 u2 v0 v1 v2 odd) (hba : b ≤ a) : B ≤ A ∧ A ≤ a ∧ 1 ≤ v2 := by
  rcases h with ⟨rfl, rfl, _, _, _, _, _, rfl, _⟩ | ⟨P, Q, q, h⟩
  · omega
  · have h1 := h.ba; have h2 := h.e1; have h3 := h.vpos; have h4 := h.r1; have h5 := h.uv2
    have hv2 : 1 ≤ v2 := by
      rcases Nat.eq_zero_or_pos v2 with h0 | h0
      · exfalso
        have hu2 : u2 = 0 := by omega
        have hv0 : v0 = 0 := by omega
        have hq1 : q * v1 = 0 := by omega
        have hq0 : q = 0 := by rcases Nat.mul_eq_zero.1 hq1 with h | h <;> omega
        have h6 := h.r2
        subst hq0
        have hu0 : u0 = 0 := by omega
        subst hu0; subst hv0
        have h7 := h.d1; have h8 := h.d0
        cases odd
        · have := h8 rfl; omega
        · have := h7 rfl; omega
      · exact h0
    have : 1 * A ≤ v2 * A := Nat.mul_le_mul_right _ hv2
    omega
theorem LeapSt.short (h : LeapSt X Y K a b A B u0 u1 u2 v0 v1 v2 odd) (ha : 1 ≤ a) : u2 ≤ b ∧ v2 ≤ a := by
  rcases h with ⟨rfl, rfl, _, _, rfl, _, _, rfl, _⟩ | ⟨P, Q, q, h⟩
  · omega
  · have := h.short; omega
theorem LeapSt.sum (h : LeapSt X Y K a b A B u0 u1 u2 v0 v1 v2 odd) (ha : 1 ≤ a) (hB : 1 ≤ B) : v1 + v2 ≤ a := by
  rcases h with ⟨rfl, rfl, _, _, _, _, rfl, rfl, _⟩ | ⟨P, Q, q, h⟩
  · omega
  · have h1 := h.e1; have h2 := h.ba
    have h3 : v2 * 1 ≤ v2 * A := Nat.mul_le_mul_left _ (by omega)
    have h4 : v1 * 1 ≤ v1 * B := Nat.mul_le_mul_left _ hB
    omega
theorem LeapSt.step (h : LeapSt X Y K a b A B u0 u1 u2 v0 v1 v2 odd) (hK : 0 < K) (ha : a = X / K) (hb : b = Y / K) (c1 : v2 ≤ B) (c2 : v1 + v2 ≤ A - B) :
    LeapSt X Y K a b B (A % B) u1 u2 (u1 + A / B * u2) v1 v2 (v1 + A / B * v2) (!odd) := by
  rcases h with ⟨rfl, rfl, rfl, rfl, rfl, rfl, rfl, rfl, rfl⟩ | ⟨P, Q, q, h⟩
  · exact Or.inr ⟨_, _, _, Run.start ha hb (by omega) (by omega)⟩
  · exact Or.inr ⟨_, _, _, (h.step hK ha hb c1 c2).1⟩
end

inductive VWant where
  | is (v : Value)
  | any
def VMeans (_ : World) : VWant → Value → Prop
  | .is x, v => v = x
  | .any, _ => True
def VTab (t : List VWant) (off : Nat) (i : Nat) (v : Value) (w : World) : Prop := VMeans w (t.getD (i - off) .any) v
theorem VTab.stable {t : List VWant} {off : Nat} : ∀ i v w w', Below w.heap.size w w' → VTab t off i v w → VTab t off i v w' := fun _ _ _ _ _ h => h
structure LBox (b : Nat) (w : World) : Prop where
  c0 : w.cell? ⟨b, 0, none⟩ = some (.int .u64 0)
  c1 : w.cell? ⟨b, 1, none⟩ = some (.int .u64 0)
  c2 : w.cell? ⟨b, 2, none⟩ = some (.int .u64 0)
  c3 : w.cell? ⟨b, 3, none⟩ = some (.int .u64 0)
  c4 : w.cell? ⟨b, 4, none⟩ = some (.bool false)
  f0 : w.frozen? ⟨b, 0, none⟩ = false
  f1 : w.frozen? ⟨b, 1, none⟩ = false
  f2 : w.frozen? ⟨b, 2, none⟩ = false
  f3 : w.frozen? ⟨b, 3, none⟩ = false
  f4 : w.frozen? ⟨b, 4, none⟩ = false
theorem LBox.below {b : Nat} {w w' : World} (h : LBox b w) (hb : Below w.heap.size w w') : LBox b w' :=
  have hl : b < w.heap.size := World.block_lt_of_cell? _ _ h.c0
  ⟨by rw [hb.cell hl]; exact h.c0, by rw [hb.cell hl]; exact h.c1, by rw [hb.cell hl]; exact h.c2, by rw [hb.cell hl]; exact h.c3, by rw [hb.cell hl]; exact h.c4,
    by rw [hb.frozen hl]; exact h.f0, by rw [hb.frozen hl]; exact h.f1, by rw [hb.frozen hl]; exact h.f2, by rw [hb.frozen hl]; exact h.f3, by rw [hb.frozen hl]; exact h.f4⟩

end Go.Proofs.YtfjjmhbffbhhdaaDoor
