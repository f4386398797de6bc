/- A fraction to so many bits: how near, in order, odd, and by itself again. -/
import Derived.Test.YtjhjlecnjkjbbaaGreatDoorQOps
import Derived.Test.YtjhjlecnjkjbbaaGreatDoorDig
import Derived.Test.YtjhjlecnjkjbbaaGreatDoorKnown3
namespace Go.Proofs.YtjhjlecnjkjbbaaGreatDoor
open Go.RowKit

def rhe (a d : Nat) : Nat := if a % d = 0 then a / d else if d < 2 * (a % d) ∨ (2 * (a % d) = d ∧ a / d % 2 = 1) then a / d + 1 else a / d
theorem rhe_near (a : Nat) {d : Nat} (hd : 0 < d) : 2 * (rhe a d * d) ≤ 2 * a + d ∧ 2 * a ≤ 2 * (rhe a d * d) + d := by
  have h1 := Nat.div_add_mod a d
  have h2 := Nat.mod_lt a hd
  rw [Nat.mul_comm] at h1
  unfold rhe
  split
  · omega
  · split
    · rw [Nat.add_mul, Nat.one_mul]; omega
    · omega
theorem rhe_half {a d m : Nat} (hd : 0 < d) (h : 2 * a = 2 * (m * d) + d) : rhe a d = if m % 2 = 1 then m + 1 else m := by
  have h1 := Nat.div_add_mod a d
  have h2 := Nat.mod_lt a hd
  have h3 : a / d = m := by
    refine Nat.div_eq_of_lt_le ?_ ?_
    · omega
    · rw [Nat.add_mul, Nat.one_mul]; omega
  rw [h3, Nat.mul_comm] at h1
  unfold rhe
  rw [h3, if_neg (by omega)]
  by_cases hm : m % 2 = 1
  · rw [if_pos (Or.inr ⟨by omega, hm⟩), if_pos hm]
  · rw [if_neg (by omega), if_neg hm]
theorem rhe_mono {a b d e : Nat} (hd : 0 < d) (he : 0 < e) (h : a * e ≤ b * d) : rhe a d ≤ rhe b e := by
  obtain ⟨m, hm⟩ : ∃ m, rhe b e = m := ⟨_, rfl⟩
  obtain ⟨n, hn⟩ : ∃ n, rhe a d = n := ⟨_, rfl⟩
  have h1 := (rhe_near a hd).1
  have h2 := (rhe_near b he).2
  rw [hm] at h2 ⊢
  rw [hn] at h1 ⊢
  refine Decidable.byContradiction fun hc => ?_
  have h3 : (m + 1) * d ≤ n * d := Nat.mul_le_mul_right d (by omega)
  rw [Nat.add_mul, Nat.one_mul] at h3
  have h4 : 2 * (m * d) + d ≤ 2 * a := by omega
  have h5 : (2 * (m * d) + d) * e ≤ 2 * a * e := Nat.mul_le_mul_right e h4
  have h6 : 2 * b * d ≤ (2 * (m * e) + e) * d := Nat.mul_le_mul_right d h2
  have h7 : (2 * (m * d) + d) * e = (2 * (m * e) + e) * d := by grind
  have h8 : 2 * a * e = (2 * (m * d) + d) * e := by
    have : 2 * a * e ≤ 2 * b * d := by rw [Nat.mul_assoc, Nat.mul_assoc]; omega
    omega
  have h9 : 2 * b * d = (2 * (m * e) + e) * d := by
    have : 2 * a * e ≤ 2 * b * d := by rw [Nat.mul_assoc, Nat.mul_assoc]; omega
    omega
  have ha := rhe_half (m := m) hd (Nat.eq_of_mul_eq_mul_right he h8)
  have hb := rhe_half (m := m) he (Nat.eq_of_mul_eq_mul_right hd h9)
  rw [hm] at hb; rw [hn] at ha
  omega
def nearQ (X : Rat) (n : Nat) : Rat := mkRat (sgn (decide (X.num < 0)) (rhe (X.num.natAbs * 2 ^ n) X.den)) (2 ^ n)
def nearZ (X : Rat) (n : Nat) : Int := sgn (decide (X.num < 0)) (rhe (X.num.natAbs * 2 ^ n) X.den)
theorem nearQ_eq (X : Rat) (n : Nat) : nearQ X n = (nearZ X n : Rat) / ((2 ^ n : Nat) : Rat) := by
  show mkRat (nearZ X n) (2 ^ n) = _
  rw [Rat.mkRat_eq_div]
theorem two_pow_pos (n : Nat) : (0 : Rat) < ((2 ^ n : Nat) : Rat) := Rat.natCast_pos.2 (Nat.two_pow_pos n)
theorem nearZ_near (X : Rat) (n : Nat) : 2 * (nearZ X n * (X.den : Int)) ≤ 2 * (X.num * ((2 ^ n : Nat) : Int)) + X.den ∧ 2 * (X.num * ((2 ^ n : Nat) : Int)) ≤ 2 * (nearZ X n * (X.den : Int)) + X.den := by
  have h := rhe_near (X.num.natAbs * 2 ^ n) X.den_pos
  unfold nearZ sgn
  generalize hr : rhe (X.num.natAbs * 2 ^ n) X.den = r at h
  have e : ((X.num.natAbs * 2 ^ n : Nat) : Int) = (X.num.natAbs : Int) * ((2 ^ n : Nat) : Int) := Int.natCast_mul _ _
  have e2 : ((r * X.den : Nat) : Int) = (r : Int) * (X.den : Int) := Int.natCast_mul _ _
  by_cases hx : X.num < 0
  · rw [decide_eq_true hx, if_pos rfl, Int.neg_mul]
    have e3 : X.num * ((2 ^ n : Nat) : Int) = -((X.num.natAbs : Int) * ((2 ^ n : Nat) : Int)) := by rw [← Int.neg_mul]; congr 1; omega
    omega
  · rw [decide_eq_false hx, if_neg (by simp)]
    have e3 : X.num * ((2 ^ n : Nat) : Int) = ((X.num.natAbs : Int) * ((2 ^ n : Nat) : Int)) := by congr 1; omega
    omega
theorem rat_num (X : Rat) : (X.num : Rat) = X * (X.den : Rat) := by
  have h := Rat.mkRat_self X
  rw [Rat.mkRat_eq_div] at h
  have h0 : (X.den : Rat) ≠ 0 := by
    have := Rat.natCast_pos.2 X.den_pos
    intro e; rw [e] at this; exact Rat.lt_irrefl this
  have h2 : (X.num : Rat) / (X.den : Rat) * (X.den : Rat) = X.num := Rat.div_mul_cancel h0
  rw [h] at h2
  exact h2.symm
theorem near_half (X : Rat) (n : Nat) : 2 * (nearZ X n : Rat) ≤ 2 * (X * ((2 ^ n : Nat) : Rat)) + 1 ∧ 2 * (X * ((2 ^ n : Nat) : Rat)) ≤ 2 * (nearZ X n : Rat) + 1 := by
  obtain ⟨h1, h2⟩ := nearZ_near X n
  have hd : (0 : Rat) < (X.den : Rat) := Rat.natCast_pos.2 X.den_pos
  have g1 := Rat.intCast_le_intCast.2 h1
  have g2 := Rat.intCast_le_intCast.2 h2
  simp only [Rat.intCast_add, Rat.intCast_mul, Rat.intCast_natCast, rat_num X] at g1 g2
  constructor
  · refine Rat.le_of_mul_le_mul_right (c := (X.den : Rat)) ?_ hd
    grind
  · refine Rat.le_of_mul_le_mul_right (c := (X.den : Rat)) ?_ hd
    grind
theorem nearQ_mul (X : Rat) (n : Nat) : nearQ X n * ((2 ^ n : Nat) : Rat) = (nearZ X n : Rat) := by
  rw [nearQ_eq, Rat.div_mul_cancel]
  intro e
  have := two_pow_pos n
  rw [e] at this
  exact Rat.lt_irrefl this
theorem near_whole {X : Rat} {n : Nat} {z : Int} (h : X * ((2 ^ n : Nat) : Rat) = (z : Rat)) : nearZ X n = z ∧ nearQ X n = X := by
  obtain ⟨h1, h2⟩ := near_half X n
  rw [h] at h1 h2
  have e : nearZ X n = z := by
    have g1 : 2 * nearZ X n ≤ 2 * z + 1 := Rat.intCast_le_intCast.1 (by rw [Rat.intCast_add, Rat.intCast_mul, Rat.intCast_mul]; exact h1)
    have g2 : 2 * z ≤ 2 * nearZ X n + 1 := Rat.intCast_le_intCast.1 (by rw [Rat.intCast_add, Rat.intCast_mul, Rat.intCast_mul]; exact h2)
    omega
  refine ⟨e, ?_⟩
  have h3 := nearQ_mul X n
  rw [e, ← h] at h3
  have h4 := two_pow_pos n
  exact Rat.le_antisymm (Rat.le_of_mul_le_mul_right (by rw [h3]; exact Rat.le_refl) h4) (Rat.le_of_mul_le_mul_right (by rw [h3]; exact Rat.le_refl) h4)
theorem near_idem (X : Rat) (n : Nat) : nearQ (nearQ X n) n = nearQ X n := (near_whole (nearQ_mul X n)).2
theorem near_neg (X : Rat) (n : Nat) : nearQ (-X) n = -nearQ X n := by
  unfold nearQ
  rw [Rat.neg_mkRat, Rat.neg_num, Rat.neg_den, Int.natAbs_neg]
  congr 1
  unfold sgn
  by_cases h0 : X.num = 0
  · have : rhe (X.num.natAbs * 2 ^ n) X.den = 0 := by rw [h0]; unfold rhe; simp
    rw [this]; simp
  · by_cases h : X.num < 0
    · rw [decide_eq_true h, decide_eq_false (by omega)]; simp
    · rw [decide_eq_false h, decide_eq_true (by omega)]; simp
theorem nearZ_mono {X Y : Rat} (n : Nat) (h : X ≤ Y) : nearZ X n ≤ nearZ Y n := by
  rw [Rat.le_iff] at h
  have hx := X.den_pos; have hy := Y.den_pos
  unfold nearZ sgn
  by_cases h1 : X.num < 0 <;> by_cases h2 : Y.num < 0
  · rw [decide_eq_true h1, decide_eq_true h2, if_pos rfl, if_pos rfl]
    have : rhe (Y.num.natAbs * 2 ^ n) Y.den ≤ rhe (X.num.natAbs * 2 ^ n) X.den := by
      refine rhe_mono hy hx ?_
      have g : Y.num.natAbs * X.den ≤ X.num.natAbs * Y.den := by
        have e1 : ((Y.num.natAbs * X.den : Nat) : Int) = -(Y.num * (X.den : Int)) := by rw [Int.natCast_mul, ← Int.neg_mul]; congr 1; omega
        have e2 : ((X.num.natAbs * Y.den : Nat) : Int) = -(X.num * (Y.den : Int)) := by rw [Int.natCast_mul, ← Int.neg_mul]; congr 1; omega
        omega
      rw [Nat.mul_right_comm, Nat.mul_right_comm X.num.natAbs]
      exact Nat.mul_le_mul_right _ g
    omega
  · rw [decide_eq_true h1, decide_eq_false h2, if_pos rfl, if_neg (by simp)]; omega
  · exfalso
    have e1 : 0 ≤ X.num * (Y.den : Int) := Int.mul_nonneg (by omega) (by omega)
    have e2 : 0 < -Y.num * (X.den : Int) := Int.mul_pos (by omega) (by omega)
    rw [Int.neg_mul] at e2
    omega
  · rw [decide_eq_false h1, decide_eq_false h2, if_neg (by simp), if_neg (by simp)]
    have : rhe (X.num.natAbs * 2 ^ n) X.den ≤ rhe (Y.num.natAbs * 2 ^ n) Y.den := by
      refine rhe_mono hx hy ?_
      have g : X.num.natAbs * Y.den ≤ Y.num.natAbs * X.den := by
        have e1 : ((Y.num.natAbs * X.den : Nat) : Int) = (Y.num * (X.den : Int)) := by rw [Int.natCast_mul]; congr 1; omega
        have e2 : ((X.num.natAbs * Y.den : Nat) : Int) = (X.num * (Y.den : Int)) := by rw [Int.natCast_mul]; congr 1; omega
        omega
      rw [Nat.mul_right_comm, Nat.mul_right_comm Y.num.natAbs]
      exact Nat.mul_le_mul_right _ g
    omega
theorem near_mono {X Y : Rat} (n : Nat) (h : X ≤ Y) : nearQ X n ≤ nearQ Y n := by
  refine Rat.le_of_mul_le_mul_right (c := ((2 ^ n : Nat) : Rat)) ?_ (two_pow_pos n)
  rw [nearQ_mul, nearQ_mul]
  exact Rat.intCast_le_intCast.2 (nearZ_mono n h)
theorem step_mul (n : Nat) : mkRat 1 (2 ^ n) * ((2 ^ n : Nat) : Rat) = 1 := by
  rw [Rat.mkRat_eq_div, Rat.div_mul_cancel]
  · rfl
  · intro e
    have := two_pow_pos n
    rw [e] at this
    exact Rat.lt_irrefl this
theorem near_far (X : Rat) (n : Nat) : qabs (nearQ X n - X) + qabs (nearQ X n - X) ≤ mkRat 1 (2 ^ n) := by
  refine Rat.le_of_mul_le_mul_right (c := ((2 ^ n : Nat) : Rat)) ?_ (two_pow_pos n)
  obtain ⟨h1, h2⟩ := near_half X n
  have h3 := nearQ_mul X n
  rw [step_mul]
  unfold qabs
  split <;> grind
theorem near_steps (X : Rat) (n : Nat) : (nearQ X n / mkRat 1 (2 ^ n)).den = 1 := by
  have h : nearQ X n / mkRat 1 (2 ^ n) = (nearZ X n : Rat) := by
    have h1 := step_mul n
    have h2 := nearQ_mul X n
    have h3 : mkRat 1 (2 ^ n) ≠ 0 := by intro e; rw [e, Rat.zero_mul] at h1; exact absurd h1 (by decide)
    rw [Rat.div_def, ← h2]
    have h4 := Rat.mul_inv_cancel _ h3
    grind
  rw [h]
  rfl
theorem qcmp_le {X Y : Rat} : qcmp X Y ≤ 0 ↔ X ≤ Y := by
  rw [Rat.le_iff]
  unfold qcmp cmp3
  split
  · constructor <;> intro <;> omega
  · split
    · constructor <;> intro <;> omega
    · constructor <;> intro <;> omega
theorem qabs_nonneg (Z : Rat) : 0 ≤ qabs Z := by
  unfold qabs
  split
  · rename_i h
    have : Z < 0 := by rw [Rat.lt_iff]; simpa using h
    grind
  · rename_i h
    refine Rat.not_lt.1 fun h2 => h ?_
    rw [Rat.lt_iff] at h2; simpa using h2
def Twos (m most t : Nat) : Prop := t ≤ most ∧ 2 ^ t ∣ m ∧ (t = most ∨ ¬ 2 ^ (t + 1) ∣ m)
theorem Twos.gcd {m n t : Nat} (h : Twos m n t) : Nat.gcd m (2 ^ n) = 2 ^ t := by
  obtain ⟨h1, ⟨u, rfl⟩, h3⟩ := h
  rw [show 2 ^ n = 2 ^ t * 2 ^ (n - t) by rw [← Nat.pow_add]; congr 1; omega, Nat.gcd_mul_left]
  have : Nat.gcd u (2 ^ (n - t)) = 1 := by
    rcases h3 with h3 | h3
    · rw [h3, Nat.sub_self, Nat.pow_zero, Nat.gcd_one_right]
    · have hu : u % 2 = 1 := by
        rcases Nat.mod_two_eq_zero_or_one u with h | h
        · exfalso; apply h3
          obtain ⟨v, rfl⟩ := Nat.dvd_of_mod_eq_zero h
          exact ⟨v, by rw [Nat.pow_succ]; grind⟩
        · exact h
      exact (Nat.Coprime.pow_right _ (show Nat.gcd u 2 = 1 by rw [Nat.gcd_comm, Nat.gcd_rec, hu]; decide))
  rw [this, Nat.mul_one]
theorem Twos.odd {m t : Nat} (h : Twos m 1 t) : t = 0 ↔ m % 2 = 1 := by
  obtain ⟨h1, h2, h3⟩ := h
  constructor
  · rintro rfl
    rcases h3 with h3 | h3
    · cases h3
    · have : ¬ 2 ∣ m := h3
      omega
  · intro hm
    refine Decidable.byContradiction fun ht => ?_
    have e : t = 1 := by omega
    rw [e] at h2
    have : 2 ∣ m := h2
    omega
theorem Twos.near {X : Rat} {n m t : Nat} (hm : rhe (X.num.natAbs * 2 ^ n) X.den = m) (h : Twos m n t) : (nearQ X n).num = sgn (decide (X.num < 0)) (m / 2 ^ t) ∧ (nearQ X n).den = 2 ^ (n - t) := by
  have hg := h.gcd
  have hs : (sgn (decide (X.num < 0)) m).natAbs = m := by unfold sgn; split <;> omega
  obtain ⟨e1, e2⟩ := make_parts (sgn (decide (X.num < 0)) m) (d := 2 ^ n) (g := 2 ^ t) (Nat.ne_of_gt (Nat.two_pow_pos n)) (by rw [hs]; exact hg)
  unfold nearQ
  rw [hm, ← e1, ← e2]
  obtain ⟨h1, ⟨u, rfl⟩, -⟩ := h
  have hp := Nat.two_pow_pos t
  refine ⟨?_, ?_⟩
  · rw [Nat.mul_div_cancel_left _ hp]
    unfold sgn
    split
    · rw [Int.natCast_mul, ← Int.mul_neg, Int.mul_ediv_cancel_left _ (by omega)]
    · rw [Int.natCast_mul, Int.mul_ediv_cancel_left _ (by omega)]
  · rw [show 2 ^ n = 2 ^ t * 2 ^ (n - t) by rw [← Nat.pow_add]; congr 1; omega, Nat.mul_div_cancel_left _ hp]
theorem near_self {X : Rat} {n : Nat} (h : X.num.natAbs * 2 ^ n % X.den = 0) : nearQ X n = X := by
  obtain ⟨z, hz⟩ := Nat.dvd_of_mod_eq_zero h
  have hd : (X.den : Rat) ≠ 0 := by
    intro e
    have := Rat.natCast_pos.2 X.den_pos
    rw [e] at this
    exact Rat.lt_irrefl this
  obtain ⟨y, hy⟩ : ∃ y : Int, X.num * ((2 ^ n : Nat) : Int) = X.den * y := by
    rcases Int.lt_or_le X.num 0 with hs | hs
    · refine ⟨-(z : Int), ?_⟩
      have e : ((X.num.natAbs * 2 ^ n : Nat) : Int) = X.den * (z : Int) := by rw [hz]; exact Int.natCast_mul _ _
      rw [Int.mul_neg, ← e, Int.natCast_mul, ← Int.neg_mul]; congr 1; omega
    · refine ⟨(z : Int), ?_⟩
      have e : ((X.num.natAbs * 2 ^ n : Nat) : Int) = X.den * (z : Int) := by rw [hz]; exact Int.natCast_mul _ _
      rw [← e, Int.natCast_mul]; congr 1; omega
  refine (near_whole (z := y) ?_).2
  have g := congrArg (fun x : Int => (x : Rat)) hy
  simp only [Rat.intCast_mul, Rat.intCast_natCast, rat_num X] at g
  have h5 := Rat.mul_inv_cancel _ hd
  grind
end Go.Proofs.YtjhjlecnjkjbbaaGreatDoor

/- How often 2 divides a number: the program's count. -/
namespace Go.Proofs.YtjhjlecnjkjbbaaGreatDoor
open Go.RowKit

theorem tz8_spec : ∀ x : Fin 256, x.val ≠ 0 → Lib.trailingZeros8 x.val < 8 ∧ 2 ^ Lib.trailingZeros8 x.val ∣ x.val ∧ ¬ 2 ^ (Lib.trailingZeros8 x.val + 1) ∣ x.val := by decide +kernel
theorem twos_byte {n i x : Nat} (most : Nat) (h0 : 256 ^ i ∣ n) (hx : n / 256 ^ i % 256 = x) (hx0 : x ≠ 0) : Twos n most (min (8 * i + Lib.trailingZeros8 x) most) := by
  obtain ⟨q, rfl⟩ := h0
  have hp : 0 < 256 ^ i := Nat.pow_pos (by omega)
  rw [Nat.mul_div_cancel_left _ hp] at hx
  obtain ⟨t1, t2, t3⟩ := tz8_spec ⟨x, by omega⟩ hx0
  simp only at t1 t2 t3
  generalize Lib.trailingZeros8 x = t at *
  have e8 : (256 : Nat) ^ i = 2 ^ (8 * i) := by rw [Nat.pow_mul]
  have hq : q = 256 * (q / 256) + x := by have := Nat.div_add_mod q 256; omega
  have hd : ∀ s, s ≤ 8 → (2 ^ s ∣ q ↔ 2 ^ s ∣ x) := by
    intro s hs
    have h1 : 2 ^ s ∣ 256 * (q / 256) := Nat.dvd_trans (Nat.pow_dvd_pow 2 hs) (Nat.dvd_mul_right _ _)
    rw [hq]
    exact (Nat.dvd_add_iff_right h1).symm
  have g1 : 2 ^ t ∣ q := (hd t (by omega)).2 t2
  have g2 : ¬ 2 ^ (t + 1) ∣ q := fun h => t3 ((hd (t + 1) (by omega)).1 h)
  have g3 : 2 ^ (8 * i + t) ∣ 256 ^ i * q := by rw [Nat.pow_add, e8]; exact Nat.mul_dvd_mul (Nat.dvd_refl _) g1
  refine ⟨Nat.min_le_right _ _, Nat.dvd_trans (Nat.pow_dvd_pow 2 (Nat.min_le_left _ _)) g3, ?_⟩
  rcases Nat.le_total (8 * i + t) most with h | h
  · refine Or.inr ?_
    rw [Nat.min_eq_left h, Nat.add_assoc, Nat.pow_add, e8]
    intro hh
    exact g2 (Nat.dvd_of_mul_dvd_mul_left (Nat.two_pow_pos _) hh)
  · exact Or.inl (Nat.min_eq_right h)
theorem twos_next {n i : Nat} (h0 : 256 ^ i ∣ n) (hx : n / 256 ^ i % 256 = 0) : 256 ^ (i + 1) ∣ n := by
  obtain ⟨q, rfl⟩ := h0
  rw [Nat.mul_div_cancel_left _ (Nat.pow_pos (by omega))] at hx
  rw [Nat.pow_succ]
  exact Nat.mul_dvd_mul (Nat.dvd_refl _) (Nat.dvd_of_mod_eq_zero hx)
theorem be_getD {n k : Nat} (hk : k < (be n).length) : (be n).getD ((be n).length - 1 - k) 0 = n / 256 ^ k % 256 := by
  unfold be at hk ⊢
  rw [List.length_reverse] at hk ⊢
  rw [← digs_getD (by omega) n k, List.getD_eq_getElem?_getD, List.getElem?_reverse (by omega), List.getD_eq_getElem?_getD]
  congr 2; omega
theorem twos_all {n : Nat} (h : 256 ^ (be n).length ∣ n) : n = 0 := by
  refine Decidable.byContradiction fun h0 => ?_
  have h1 := Nat.le_of_dvd (by omega) h
  have h2 := digs_length_lt (b := 256) (by omega) h1
  unfold be at h2
  rw [List.length_reverse] at h2
  omega
set_option maxRecDepth 100000 in
set_option maxHeartbeats 2000000 in
theorem twos_any (w : World) (u : Value) (n most : Nat) (hn : (ds n).length ≤ 1000) (h : Num w u n) :
    Calls Tryz.prog 90 #[u, .int .i64 (most : Int)] w fun e w' => ∃ t : Nat, e = .returned (.int .i64 (t : Int)) ∧ Twos n most t ∧ Below w.heap.size w w' := by
  obtain ⟨s, p, l, c, rfl, h⟩ := h
  have HB := Lib.hid (fun W a => nbytes_any n s p l c W a (by omega))
  have H := Lib.hid h; clear h
  obtain ⟨L, hL⟩ : ∃ L, L = (be n).length := ⟨_, rfl⟩
  have hLm : L ≤ 8000 := by
    rw [hL, be_length]
    have h1 := bitLen_ds n
    have h2 := bitLen_lt_pow.1 (getD_lt (ds_lt n) (by omega) ((ds n).length - 1))
    omega
  have HL := Lib.hid hL
  clear hn
  go_enter Tryz.func90, Tryz.ntmps90
  go_wp2_with fail
  refine (HB.out _ (H.out.mono (below_alloc (Below.refl _ _) _))).mono ?_
  rintro e w1 ⟨b, off, c1, rfl, h1, _, h2, _, hb⟩
  have HA := Lib.hid h2
  have HB1 := Lib.hid (below_step (below_alloc (Below.refl w.heap.size w) _) hb)
  rw [← hL] at h1 ⊢
  clear h2 hb HB hL
  go_wp2
  go_loop [12] (fun i => ∃ k : Nat, k ≤ L ∧ i = .int .i64 k ∧ Hid (256 ^ k ∣ n)) (fun i => L - (intOf i).toNat)
  case atStart => exact ⟨0, Nat.zero_le _, rfl, Lib.hid ⟨n, by simp⟩⟩
  case round =>
    obtain ⟨k, hk, rfl, HK⟩ := hrel
    by_cases hlt : k < L
    · obtain ⟨j, hj⟩ : ∃ j, j = L - 1 - k := ⟨_, rfl⟩
      have hcell := HA.out j (by rw [← HL.out]; omega)
      have hx : (be n).getD j 0 < 256 := getD_lt (be_lt n) (by omega) j
      have hE : (be n).getD j 0 = n / 256 ^ k % 256 := by
        have := be_getD (n := n) (k := k) (by rw [← HL.out]; exact hlt)
        rw [← HL.out, ← hj] at this; exact this
      obtain ⟨x, hxe⟩ : ∃ x, x = (be n).getD j 0 := ⟨_, rfl⟩
      rw [← hxe] at hx hcell hE
      have HE := Lib.hid hE
      have hji : (L : Int) - 1 - (k : Int) = (j : Int) := by omega
      clear hxe hE hj
      by_cases hx0 : x = 0
      · subst hx0
        go_wp2
        go_round
        case rel => exact ⟨k + 1, by omega, by go_num, Lib.hid (twos_next HK.out HE.out.symm)⟩
        case measure => simp [intOf]; omega
      · have HT := Lib.hid (twos_byte most HK.out HE.out.symm hx0)
        have ht8 := (tz8_spec ⟨x, hx⟩ hx0).1
        simp only at ht8
        go_wp2_with fail
        refine (Tryz.bits_TrailingZeros8 x _ (by omega) (by omega)).mono ?_
        rintro e w2 ⟨rfl, rfl⟩
        rw [Int.toNat_natCast]
        generalize Lib.trailingZeros8 x = t at *
        go_wp2
        go_ret
        exact ⟨_, congrArg (fun z => Ending.returned (.int .i64 z)) (by omega), HT.out, HB1.out⟩
    · have ek : k = L := by omega
      subst ek
      have H0 : Hid (n = 0) := Lib.hid (twos_all (by rw [← HL.out]; exact HK.out))
      go_wp2
      go_ret
      exact ⟨most, rfl, ⟨Nat.le_refl _, by rw [H0.out]; exact Nat.dvd_zero _, Or.inl rfl⟩, HB1.out⟩
def tw (n most : Nat) : Nat := Nat.log2 (Nat.gcd n (2 ^ most))
theorem Twos.eq {n most t : Nat} (h : Twos n most t) : tw n most = t := by unfold tw; rw [h.gcd, Nat.log2_two_pow]
theorem twos_ex (n : Nat) : ∀ most, ∃ t, Twos n most t
  | 0 => ⟨0, Nat.le_refl _, ⟨n, by simp⟩, Or.inl rfl⟩
  | k + 1 => by
    obtain ⟨t, h1, h2, h3⟩ := twos_ex n k
    by_cases h : 2 ^ (t + 1) ∣ n
    · rcases h3 with h3 | h3
      · subst h3; exact ⟨t + 1, Nat.le_refl _, h, Or.inl rfl⟩
      · exact absurd h h3
    · exact ⟨t, by omega, h2, Or.inr h⟩
theorem tw_spec (n most : Nat) : Twos n most (tw n most) := by
  obtain ⟨t, h⟩ := twos_ex n most
  rw [h.eq]; exact h
theorem twos_gives (w : World) (u : Value) (n most : Nat) (hn : (ds n).length ≤ 1000) (h : Num w u n) : Calls Tryz.prog 90 #[u, .int .i64 (most : Int)] w (Gives w (.is (.int .i64 ((tw n most : Nat) : Int)))) :=
  (twos_any w u n most hn h).mono fun _ _ ⟨_, h1, h2, h3⟩ => ⟨_, h1, by rw [h2.eq]; rfl, h3⟩
theorem nShiftDown_gives (w : World) (u : Value) (m t : Nat) (hm : (ds m).length ≤ 60) (ht : t ≤ 65536) (h : Num w u m) : Calls Tryz.prog 35 #[u, .int .i64 (-(t : Int))] w (Gives w (.num (m / 2 ^ t))) := by
  rcases Nat.eq_zero_or_pos t with rfl | h0
  · have := nShift_gives w u m 0 hm (by omega) h
    rw [Nat.pow_zero, Nat.mul_one] at this
    rw [Nat.pow_zero, Nat.div_one]
    exact this
  · obtain ⟨s, p, l, c, rfl, h⟩ := h
    exact (shift_down m t s p l c w (by omega) h0 ht h).mono fun _ _ ⟨_, _, _, _, h, hi, hb⟩ => ⟨_, h, ⟨_, _, _, _, rfl, hi⟩, hb⟩
theorem near_ways (A D : Nat) : A % D = 0 ∨ (A % D ≠ 0 ∧ D < A % D * 2 ∧ rhe A D = A / D + 1) ∨ (A % D ≠ 0 ∧ A % D * 2 = D ∧ A / D % 2 = 1 ∧ rhe A D = A / D + 1) ∨ (A % D ≠ 0 ∧ A % D * 2 = D ∧ A / D % 2 ≠ 1 ∧ rhe A D = A / D) ∨ (A % D ≠ 0 ∧ A % D * 2 < D ∧ rhe A D = A / D) := by
  by_cases h0 : A % D = 0
  · exact Or.inl h0
  · have e : rhe A D = if D < 2 * (A % D) ∨ (2 * (A % D) = D ∧ A / D % 2 = 1) then A / D + 1 else A / D := by unfold rhe; rw [if_neg h0]
    rcases Nat.lt_trichotomy (A % D * 2) D with h | h | h
    · rw [if_neg (by omega)] at e; exact Or.inr (Or.inr (Or.inr (Or.inr ⟨h0, h, e⟩)))
    · by_cases ho : A / D % 2 = 1
      · rw [if_pos (Or.inr ⟨by omega, ho⟩)] at e; exact Or.inr (Or.inr (Or.inl ⟨h0, h, ho, e⟩))
      · rw [if_neg (by omega)] at e; exact Or.inr (Or.inr (Or.inr (Or.inl ⟨h0, h, ho, e⟩)))
    · rw [if_pos (Or.inl (by omega))] at e; exact Or.inr (Or.inl ⟨h0, h, e⟩)
end Go.Proofs.YtjhjlecnjkjbbaaGreatDoor

/- A fraction to so many bits: the program's. -/
namespace Go.Proofs.YtjhjlecnjkjbbaaGreatDoor
open Go.RowKit

theorem near_sizes {X : Rat} (h : QB X 600) {n A : Nat} (hn : n ≤ 30) (hA : X.num.natAbs * 2 ^ n = A) : (ds X.num.natAbs).length ≤ 60 ∧ (ds X.den).length ≤ 60 ∧ (ds A).length ≤ 60 ∧ (ds (A / X.den)).length ≤ 60 ∧ (ds (A / X.den + 1)).length ≤ 60 ∧ (ds (A % X.den)).length ≤ 60 ∧ (ds (A % X.den * 2 ^ 1)).length ≤ 60 := by
  have hd := h.ds
  have h2 : (ds (2 ^ n)).length ≤ 1 := by
    rw [ds_one (Nat.lt_of_le_of_lt (Nat.pow_le_pow_right (by omega) hn) (by decide))]; omega
  have h3 := ds_mul X.num.natAbs (2 ^ n)
  rw [hA] at h3
  have h4 := ds_mono (Nat.div_le_self A X.den)
  have h5 := ds_add (A / X.den) 1
  have h6 := ds_mono (Nat.le_of_lt (Nat.mod_lt A X.den_pos))
  have h7 := ds_mul (A % X.den) (2 ^ 1)
  have h8 : (ds 1).length ≤ 1 := by rw [ds_one (by decide)]; omega
  have h9 : (ds (2 ^ 1)).length ≤ 1 := by rw [ds_one (by decide)]; omega
  omega
set_option maxRecDepth 100000 in
set_option maxHeartbeats 4000000 in
theorem qNear_val (w : World) (u1 : Value) (X Z : Rat) (n : Nat) (hn : n ≤ 30) (hx : QB X 600) (hZ : nearQ X n = Z) (h1 : Means w (.that (fracS X)) u1) :
    Calls Tryz.prog 36 #[u1, .int .i64 (n : Int)] w (Gives w (.that (fracS Z))) := by
  obtain ⟨g1, s1, p1, l1, c1, t1, q1, k1, d1, rfl, h1⟩ := h1
  have H1 := Lib.hid h1; clear h1
  obtain ⟨A, hA⟩ : ∃ A, X.num.natAbs * 2 ^ n = A := ⟨_, rfl⟩; obtain ⟨D, hD⟩ : ∃ D, X.den = D := ⟨_, rfl⟩
  have HS := Lib.hid (near_sizes hx hn hA); rw [hD] at HS
  have HA := Lib.hid hA; have HD := Lib.hid hD; have HD0 : Hid (0 < D) := Lib.hid (by rw [← hD]; exact X.den_pos); have HZZ := Lib.hid hZ
  clear hx hA hD hZ
  go_enter Tryz.func36, Tryz.ntmps36
  have J := Frm.start (w := w) (V := []) fn
  refine wp_seq_h ?_; intro K1 hK1; go_wp2
  obtain ⟨W2, b2, eW2, eb2, sz2, J⟩ := Frm.putQ J rfl H1.out
  obtain ⟨W3, b3, eW3, eb3, sz3, J⟩ := Frm.putQ0 J sz2
  rw [← eW2, ← eW3, ← eb3, ← eb2]
  clear eW2 eb2 sz2 eW3 eb3 sz3
  refine hK1.out _ _ ?_; clear hK1
  refine region_c [11, 12, 13, 2] [.is (.int .i64 (n : Int)), .is (.int .i64 (n : Int)), .is (.int .i64 (n : Int)), .is (.int .i64 (n : Int))] [] [] [] J ?_ ?_
  · refine .pl rfl (fun _ _ W Γ => ev_move _ (Γ.s rfl)) ?_
    refine .pl rfl (fun _ E W Γ => by
      have e1 : E (.tmp 10) = .int .i64 (n : Int) := (Γ.k 0 rfl)
      have hc := Γ.c
      exact Does.value (w' := W) (by go_simp <;> omega) ⟨rfl, Below.refl _ _⟩) ?_
    refine .pl rfl (fun _ E W Γ => by
      have e1 : E (.tmp 11) = .int .i64 (n : Int) := (Γ.k 1 rfl)
      have hc := Γ.c
      exact Does.value (w' := W) (by go_simp <;> omega) ⟨rfl, Below.refl _ _⟩) ?_
    refine .pl rfl (fun _ _ W Γ => ev_assign _ (Γ.k 2 rfl)) ?_
    exact .nil
  clear J; intro K4 hK4; simp only [fx]; intro _ f4 W4 J; refine hK4.out _ _ ?_; clear hK4
  refine region_c [15, 16, 17, 18, 19, 20, 21, 22, 14, 23, 24, 25, 6, 7, 0, 0, 8] [.is (.pointer (some ⟨b2, 0, none⟩)), .int X.num, .num X.num.natAbs, .is (.int .i64 (n : Int)), .num A, .that (fracS X), .num D, .three (.num (A / D)) (.num (A % D)) (.is (.bool true)), .three (.num (A / D)) (.num (A % D)) (.is (.bool true)), .num (A / D), .num (A % D), .is (.bool true), .any, .any, .any, .any, .is (.bool true)] [] [⟨.nat, 12, 14, .num (A / D), .agg #[.int .u64 0, .slice none 0 0]⟩, ⟨.nat, 13, 15, .num (A % D), .agg #[.int .u64 0, .slice none 0 0]⟩] [] J ?_ ?_
  · refine .pl rfl (fun _ _ W Γ => ev_faQ0 (Γ.s rfl)) ?_
    refine .pl rfl (fun _ _ W Γ => ev_ldQ0 (Γ.k 0 rfl) (Γ.l 0 rfl)) ?_
    refine .pl rfl (fun _ _ W Γ => ev_call1 (Γ.f _) run_iAbs (iAbs_want W _ X.num (Γ.w (d := 15) 1 rfl))) ?_
    refine .pl rfl (fun _ _ W Γ => ev_move _ (Γ.s rfl)) ?_
    refine .pl rfl (fun _ _ W Γ => ev_call2 (Γ.f _) run_nShift (by rw [(show _ = Value.int .i64 (n : Int) from (Γ.k (d := 17) 3 rfl))]; exact show Calls Tryz.prog 35 #[_, .int .i64 (n : Int)] W (Gives W (.num A)) from by have := nShift_gives W _ X.num.natAbs n HS.out.1 (by omega) (Γ.w (d := 16) 2 rfl); rw [HA.out] at this; exact this)) ?_
    refine .pl rfl (fun _ _ W Γ => ev_ldQ (Γ.s rfl) (Γ.l 0 rfl)) ?_
    refine .pl rfl (fun _ _ W Γ => ev_call1 (Γ.f _) run_qDen (qDen_val W _ X D HD.out (Γ.w (d := 19) 5 rfl))) ?_
    refine .pl rfl (fun _ _ W Γ => ev_call2 (Γ.f _) run_nDiv (nDiv_gives W _ _ A D HS.out.2.2.1 HD0.out (Γ.w (d := 18) 4 rfl) (Γ.w (d := 20) 6 rfl))) ?_
    refine .pl rfl (fun _ _ W Γ => ev_moveM (Γ.w 7 rfl)) ?_
    refine .pl rfl (fun _ _ W Γ => ev_ex30 (Γ.w 8 rfl)) ?_
    refine .pl rfl (fun _ _ W Γ => ev_ex31 (Γ.w 8 rfl)) ?_
    refine .pl rfl (fun _ _ W Γ => ev_ex32 (Γ.w 8 rfl)) ?_
    refine .al 0 rfl rfl (fun _ _ => ev_alN) ?_
    refine .al 1 rfl rfl (fun _ _ => ev_alN) ?_
    refine .sn 0 rfl rfl (fun _ _ W Γ => ev_stN (Γ.q 0 rfl) (Γ.un 0 rfl) (Γ.w 9 rfl)) ?_
    refine .sn 1 rfl rfl (fun _ _ W Γ => ev_stN (Γ.q 1 rfl) (Γ.un 1 rfl) (Γ.w 10 rfl)) ?_
    refine .pl rfl (fun _ _ W Γ => ev_assign _ (Γ.k 11 rfl)) ?_
    exact .nil
  clear J; intro K5 hK5; simp only [fx]; intro β5 f5 W5 J; refine hK5.out _ _ ?_; clear hK5
  refine wp_seq_h ?_; intro K6 hK6
  by_cases h0 : A % D = 0
  · skip
    obtain rfl : X = Z := by rw [← HZZ.out]; exact (near_self (by rw [HA.out, HD.out]; exact h0)).symm
    have HR : Hid (decide (A % D = 0) = true) := Lib.hid (decide_eq_true h0)
    clear h0
    refine region_c [26, 27] [.num (A % D), .is (.bool true)] [] [] [] J ?_ ?_
    · refine .pl rfl (fun _ _ W Γ => ev_ldN (Γ.s rfl) (Γ.l 3 rfl)) ?_
      refine .pl rfl (fun _ _ W Γ => ev_call1 (Γ.f _) run_qIsZero (qIsZero_val W _ (A % D) _ HR.out (Γ.w (d := 25) 0 rfl))) ?_
      exact .nil
    clear J; intro K7 hK7; simp only [fx]; intro _ f7 W7 J; refine hK7.out _ _ ?_; clear hK7
    refine wp_cond_true rfl ?_
    refine region_c [28, 0] [.that (fracS X), .any] [none, some (1, .that (fracS X))] [] [] J ?_ ?_
    · refine .pl rfl (fun _ _ W Γ => ev_ldQ (Γ.s rfl) (Γ.l 0 rfl)) ?_
      refine .st 1 rfl rfl rfl (fun _ _ W Γ => ev_stQ (Γ.s rfl) (Γ.u 1 rfl rfl) (Γ.w 0 rfl)) ?_
      exact .nil
    clear J; intro K8 hK8; simp only [fx]; intro _ f8 W8 J; refine hK8.out _ _ ?_; clear hK8
    refine wp_ret ?_
    obtain ⟨u0, hx0, hm0⟩ := J.out.get 1 rfl
    obtain ⟨gr0, sr0, pr0, lr0, cr0, tr0, qr0, kr0, dr0, rfl, c0_0, c0_1, c0_2, c0_3, c0_4⟩ := hx0.frac
    exact bodyPost_ret (v := .agg #[.bool gr0, .int .u64 sr0, .slice pr0 lr0 cr0, .int .u64 tr0, .slice qr0 kr0 dr0]) (by simp [results, Tryz.results36, go_sem, c0_0, c0_1, c0_2, c0_3, c0_4]) rfl ⟨_, rfl, hm0, J.out.be⟩
  · skip
    have HR : Hid (decide (A % D = 0) = false) := Lib.hid (decide_eq_false h0)
    refine region_c [26, 27] [.num (A % D), .is (.bool false)] [] [] [] J ?_ ?_
    · refine .pl rfl (fun _ _ W Γ => ev_ldN (Γ.s rfl) (Γ.l 3 rfl)) ?_
      refine .pl rfl (fun _ _ W Γ => ev_call1 (Γ.f _) run_qIsZero (qIsZero_val W _ (A % D) _ HR.out (Γ.w (d := 25) 0 rfl))) ?_
      exact .nil
    clear J; intro K9 hK9; simp only [fx]; intro _ f9 W9 J; refine hK9.out _ _ ?_; clear hK9
    refine wp_cond_false rfl ?_
    refine wp_skip ?_
    refine hK6.out _ _ ?_; clear hK6
    rcases (near_ways A D).resolve_left h0 with h1 | h1 | h1 | h1
    · skip
      obtain ⟨-, hc, hm⟩ := h1
      have HC : Hid (cmp3 ((A % D * 2 ^ 1 : Nat) : Int) (D : Int) = 1) := Lib.hid (cmp3_gt (by omega))
      have HZ : Hid (Z.num = sgn (decide (X.num < 0)) ((A / D + 1) / 2 ^ tw (A / D + 1) n) ∧ Z.den = 1 * 2 ^ (n - tw (A / D + 1) n)) := Lib.hid (by rw [← HZZ.out, Nat.one_mul]; exact Twos.near (by rw [HA.out, HD.out]; exact hm) (tw_spec _ _))
      have ht := (tw_spec (A / D + 1) n).1
      clear hc hm
      refine region_c [29, 30, 31, 32, 33, 9] [.num (A % D), .num (A % D * 2 ^ 1), .that (fracS X), .num D, .is (.int .i64 1), .is (.int .i64 1)] [] [] [] J ?_ ?_
      · refine .pl rfl (fun _ _ W Γ => ev_ldN (Γ.s rfl) (Γ.l 3 rfl)) ?_
        refine .pl rfl (fun _ _ W Γ => ev_call2 (Γ.f _) run_nShift (by rw [Γ.c]; exact nShift_gives W _ (A % D) 1 HS.out.2.2.2.2.2.1 (by omega) (Γ.w (d := 28) 0 rfl))) ?_
        refine .pl rfl (fun _ _ W Γ => ev_ldQ (Γ.s rfl) (Γ.l 0 rfl)) ?_
        refine .pl rfl (fun _ _ W Γ => ev_call1 (Γ.f _) run_qDen (qDen_val W _ X D HD.out (Γ.w (d := 30) 2 rfl))) ?_
        refine .pl rfl (fun _ _ W Γ => ev_call2 (Γ.f _) run_nCmp (nCmp_val W _ _ (A % D * 2 ^ 1) D 1 HC.out HS.out.2.2.2.2.2.2 (Γ.w (d := 29) 1 rfl) (Γ.w (d := 31) 3 rfl))) ?_
        refine .pl rfl (fun _ _ W Γ => ev_assign _ (Γ.k 4 rfl)) ?_
        exact .nil
      clear J; intro K10 hK10; simp only [fx]; intro _ f10 W10 J; refine hK10.out _ _ ?_; clear hK10
      refine wp_seq_h ?_; intro K11 hK11
      refine region_c [34, 35, 36, 37, 38, 39, 40, 41, 42, 43, 44] [.is (.int .i64 1), .is (.bool true), .is (.bool true), .is undef, .is undef, .is undef, .is undef, .is undef, .is undef, .is undef, .is (.bool true)] [] [] [] J ?_ ?_
      · refine .pl rfl (fun _ _ W Γ => ev_move _ (Γ.s rfl)) ?_
        refine .pl rfl (fun _ E W Γ => by
          have e1 : E (.tmp 33) = .int .i64 1 := (Γ.k 0 rfl)
          have hc := Γ.c
          exact Does.value (w' := W) (by go_simp <;> first | rfl | (rw [IntKind.wrap_i64]; omega)) ⟨rfl, Below.refl _ _⟩) ?_
        refine .pl rfl (fun _ _ W Γ => ev_move _ (Γ.k 1 rfl)) ?_
        refine .off rfl rfl rfl rfl ?_
        refine .off rfl rfl rfl rfl ?_
        refine .off rfl rfl rfl rfl ?_
        refine .offu rfl rfl rfl rfl ?_
        refine .offu rfl rfl rfl rfl ?_
        refine .offu rfl rfl rfl rfl ?_
        refine .off rfl rfl rfl rfl ?_
        refine .pl rfl (fun _ _ W Γ => ev_pick (Γ.k 2 rfl) (Γ.c _)) ?_
        exact .nil
      clear J; intro K12 hK12; simp only [fx]; intro _ f12 W12 J; refine hK12.out _ _ ?_; clear hK12
      refine wp_cond_true rfl ?_
      refine region_f [45, 46, 47, 0] [.num (A / D), .num 1, .num (A / D + 1), .any] [none, none, some (3, .num (A / D + 1))] [] [] J ?_ ?_
      · refine .pl rfl (fun _ _ W Γ => ev_ldN (Γ.s rfl) (Γ.u 2 rfl rfl).1) ?_
        refine .pl rfl (fun _ _ W Γ => ev_call1 (Γ.f _) run_Of (by rw [Γ.c]; exact of_gives 1 (by omega) W)) ?_
        refine .pl rfl (fun _ _ W Γ => ev_call2 (Γ.f _) run_nAdd (nAdd_gives W _ _ (A / D) 1 HS.out.2.2.2.1 (by rw [ds_one (by decide)]; omega) (Γ.w (d := 44) 0 rfl) (Γ.w (d := 45) 1 rfl))) ?_
        refine .st 2 rfl rfl rfl (fun _ _ W Γ => ev_stN (Γ.s rfl) (Γ.u 2 rfl rfl) (Γ.w 2 rfl)) ?_
        exact .nil
      clear J; simp only [fx]; intro _ f13 W13 J
      refine hK11.out _ _ ?_; clear hK11
      refine region_c [48, 49, 50, 10] [.num (A / D + 1), .is (.int .i64 (n : Int)), .is (.int .i64 ((tw (A / D + 1) n : Nat) : Int)), .is (.int .i64 ((tw (A / D + 1) n : Nat) : Int))] [] [] [] J ?_ ?_
      · refine .pl rfl (fun _ _ W Γ => ev_ldN (Γ.s rfl) (Γ.l 2 rfl)) ?_
        refine .pl rfl (fun _ _ W Γ => ev_move _ (Γ.s rfl)) ?_
        refine .pl rfl (fun _ _ W Γ => ev_call2 (Γ.f _) run_qTwos (by rw [(show _ = Value.int .i64 (n : Int) from (Γ.k (d := 48) 1 rfl))]; exact twos_gives W _ (A / D + 1) n (by have := HS.out; omega) (Γ.w (d := 47) 0 rfl))) ?_
        refine .pl rfl (fun _ _ W Γ => ev_assign _ (Γ.k 2 rfl)) ?_
        exact .nil
      clear J; intro K14 hK14; simp only [fx]; intro _ f14 W14 J; refine hK14.out _ _ ?_; clear hK14
      refine region_c [51, 52, 53, 54, 55, 56, 57, 58, 59, 60, 61, 62, 63, 64, 0] [.that (fracS X), .is (.int .i64 (cmp3 X.num 0)), .is (.bool (decide (X.num < 0))), .num (A / D + 1), .is (.int .i64 ((tw (A / D + 1) n : Nat) : Int)), .is (.int .i64 (-((tw (A / D + 1) n : Nat) : Int))), .num ((A / D + 1) / 2 ^ tw (A / D + 1) n), .int (sgn (decide (X.num < 0)) ((A / D + 1) / 2 ^ tw (A / D + 1) n)), .num 1, .is (.int .i64 (n : Int)), .is (.int .i64 ((tw (A / D + 1) n : Nat) : Int)), .is (.int .i64 ((n - tw (A / D + 1) n : Nat) : Int)), .num (1 * 2 ^ (n - tw (A / D + 1) n)), .that (fracS Z), .any] [none, some (14, .that (fracS Z))] [] [] J ?_ ?_
      · refine .pl rfl (fun _ _ W Γ => ev_ldQ (Γ.s rfl) (Γ.l 0 rfl)) ?_
        refine .pl rfl (fun _ _ W Γ => ev_call1 (Γ.f _) run_qSign (qSign_val W _ X _ rfl (Γ.w (d := 50) 0 rfl))) ?_
        refine .pl rfl (fun _ _ W Γ => ev_lss (Γ.k 1 rfl) (Γ.c _) (cmp3_neg0 _)) ?_
        refine .pl rfl (fun _ _ W Γ => ev_ldN (Γ.s rfl) (Γ.l 2 rfl)) ?_
        refine .pl rfl (fun _ _ W Γ => ev_move _ (Γ.s rfl)) ?_
        refine .pl rfl (fun _ E W Γ => by
          have e1 : E (.tmp 54) = .int .i64 ((tw (A / D + 1) n : Nat) : Int) := (Γ.k 4 rfl)
          have hc := Γ.c
          exact Does.value (w' := W) (by go_simp <;> first | rfl | (rw [IntKind.wrap_i64]; omega)) ⟨rfl, Below.refl _ _⟩) ?_
        refine .pl rfl (fun _ _ W Γ => ev_call2 (Γ.f _) run_nShift (by rw [(show _ = Value.int .i64 (-((tw (A / D + 1) n : Nat) : Int)) from (Γ.k (d := 55) 5 rfl))]; exact nShiftDown_gives W _ (A / D + 1) (tw (A / D + 1) n) HS.out.2.2.2.2.1 (by omega) (Γ.w (d := 53) 3 rfl))) ?_
        refine .pl rfl (fun _ _ W Γ => ev_call2 (Γ.f _) run_iFrom (by rw [(show _ = Value.bool (decide (X.num < 0)) from (Γ.k (d := 52) 2 rfl))]; exact iFrom_want W _ (decide (X.num < 0)) ((A / D + 1) / 2 ^ tw (A / D + 1) n) (Γ.w (d := 56) 6 rfl))) ?_
        refine .pl rfl (fun _ _ W Γ => ev_call1 (Γ.f _) run_Of (by rw [Γ.c]; exact of_gives 1 (by omega) W)) ?_
        refine .pl rfl (fun _ _ W Γ => ev_move _ (Γ.s rfl)) ?_
        refine .pl rfl (fun _ _ W Γ => ev_move _ (Γ.s rfl)) ?_
        refine .pl rfl (fun _ E W Γ => by
          have e1 : E (.tmp 59) = .int .i64 (n : Int) := (Γ.k 9 rfl)
          have e2 : E (.tmp 60) = .int .i64 ((tw (A / D + 1) n : Nat) : Int) := (Γ.k 10 rfl)
          have hc := Γ.c
          exact Does.value (w' := W) (by go_simp <;> first | rfl | (rw [IntKind.wrap_i64]; omega)) ⟨rfl, Below.refl _ _⟩) ?_
        refine .pl rfl (fun _ _ W Γ => ev_call2 (Γ.f _) run_nShift (by rw [(show _ = Value.int .i64 ((n - tw (A / D + 1) n : Nat) : Int) from (Γ.k (d := 61) 11 rfl))]; exact nShift_gives W _ 1 (n - tw (A / D + 1) n) (by rw [ds_one (by decide)]; omega) (by omega) (Γ.w (d := 58) 8 rfl))) ?_
        refine .pl rfl (fun _ _ W Γ => ev_call2 (Γ.f _) run_qOfLowest (qOfLowest_val W _ _ (sgn (decide (X.num < 0)) ((A / D + 1) / 2 ^ tw (A / D + 1) n)) (1 * 2 ^ (n - tw (A / D + 1) n)) Z HZ.out.1 HZ.out.2 (Γ.w (d := 57) 7 rfl) (Γ.w (d := 62) 12 rfl))) ?_
        refine .st 1 rfl rfl rfl (fun _ _ W Γ => ev_stQ (Γ.s rfl) (Γ.u 1 rfl rfl) (Γ.w 13 rfl)) ?_
        exact .nil
      clear J; intro K15 hK15; simp only [fx]; intro _ f15 W15 J; refine hK15.out _ _ ?_; clear hK15
      refine wp_ret ?_
      obtain ⟨u0, hx0, hm0⟩ := J.out.get 1 rfl
      obtain ⟨gr0, sr0, pr0, lr0, cr0, tr0, qr0, kr0, dr0, rfl, c0_0, c0_1, c0_2, c0_3, c0_4⟩ := hx0.frac
      exact bodyPost_ret (v := .agg #[.bool gr0, .int .u64 sr0, .slice pr0 lr0 cr0, .int .u64 tr0, .slice qr0 kr0 dr0]) (by simp [results, Tryz.results36, go_sem, c0_0, c0_1, c0_2, c0_3, c0_4]) rfl ⟨_, rfl, hm0, J.out.be⟩
    · skip
      obtain ⟨-, hc, ho, hm⟩ := h1
      have HC : Hid (cmp3 ((A % D * 2 ^ 1 : Nat) : Int) (D : Int) = 0) := Lib.hid (by rw [show ((A % D * 2 ^ 1 : Nat) : Int) = (D : Int) by omega]; exact cmp3_eq _)
      have HZ : Hid (Z.num = sgn (decide (X.num < 0)) ((A / D + 1) / 2 ^ tw (A / D + 1) n) ∧ Z.den = 1 * 2 ^ (n - tw (A / D + 1) n)) := Lib.hid (by rw [← HZZ.out, Nat.one_mul]; exact Twos.near (by rw [HA.out, HD.out]; exact hm) (tw_spec _ _))
      have ht := (tw_spec (A / D + 1) n).1
      have HO : Hid ((((tw (A / D) 1 : Nat) : Int) == 0) = true) := Lib.hid (beq_iff_eq.2 (by have := (tw_spec (A / D) 1).odd.2 ho; omega))
      clear hc hm ho
      refine region_c [29, 30, 31, 32, 33, 9] [.num (A % D), .num (A % D * 2 ^ 1), .that (fracS X), .num D, .is (.int .i64 0), .is (.int .i64 0)] [] [] [] J ?_ ?_
      · refine .pl rfl (fun _ _ W Γ => ev_ldN (Γ.s rfl) (Γ.l 3 rfl)) ?_
        refine .pl rfl (fun _ _ W Γ => ev_call2 (Γ.f _) run_nShift (by rw [Γ.c]; exact nShift_gives W _ (A % D) 1 HS.out.2.2.2.2.2.1 (by omega) (Γ.w (d := 28) 0 rfl))) ?_
        refine .pl rfl (fun _ _ W Γ => ev_ldQ (Γ.s rfl) (Γ.l 0 rfl)) ?_
        refine .pl rfl (fun _ _ W Γ => ev_call1 (Γ.f _) run_qDen (qDen_val W _ X D HD.out (Γ.w (d := 30) 2 rfl))) ?_
        refine .pl rfl (fun _ _ W Γ => ev_call2 (Γ.f _) run_nCmp (nCmp_val W _ _ (A % D * 2 ^ 1) D 0 HC.out HS.out.2.2.2.2.2.2 (Γ.w (d := 29) 1 rfl) (Γ.w (d := 31) 3 rfl))) ?_
        refine .pl rfl (fun _ _ W Γ => ev_assign _ (Γ.k 4 rfl)) ?_
        exact .nil
      clear J; intro K16 hK16; simp only [fx]; intro _ f16 W16 J; refine hK16.out _ _ ?_; clear hK16
      refine wp_seq_h ?_; intro K17 hK17
      refine region_c [34, 35, 36, 37, 38, 39, 40, 41, 42, 43, 44] [.is (.int .i64 0), .is (.bool false), .is (.bool false), .is (.int .i64 0), .is (.bool true), .is (.bool true), .num (A / D), .is (.int .i64 ((tw (A / D) 1 : Nat) : Int)), .is (.bool true), .is (.bool true), .is (.bool true)] [] [] [] J ?_ ?_
      · refine .pl rfl (fun _ _ W Γ => ev_move _ (Γ.s rfl)) ?_
        refine .pl rfl (fun _ E W Γ => by
          have e1 : E (.tmp 33) = .int .i64 0 := (Γ.k 0 rfl)
          have hc := Γ.c
          exact Does.value (w' := W) (by go_simp <;> first | rfl | (rw [IntKind.wrap_i64]; omega)) ⟨rfl, Below.refl _ _⟩) ?_
        refine .pl rfl (fun _ _ W Γ => ev_move _ (Γ.k 1 rfl)) ?_
        refine .gu rfl rfl rfl rfl (fun _ _ W Γ => ev_move _ (Γ.s rfl)) ?_
        refine .gu rfl rfl rfl rfl (fun _ E W Γ => by
          have e1 : E (.tmp 36) = .int .i64 0 := (Γ.k 3 rfl)
          have hc := Γ.c
          exact Does.value (w' := W) (by go_simp <;> first | rfl | (rw [IntKind.wrap_i64]; omega)) ⟨rfl, Below.refl _ _⟩) ?_
        refine .gu rfl rfl rfl rfl (fun _ _ W Γ => ev_move _ (Γ.k 4 rfl)) ?_
        refine .gu rfl rfl rfl rfl (fun _ _ W Γ => ev_ldN (Γ.s rfl) (Γ.l 2 rfl)) ?_
        refine .gu rfl rfl rfl rfl (fun _ _ W Γ => ev_call2 (Γ.f _) run_qTwos (by rw [Γ.c]; exact twos_gives W _ (A / D) 1 (by have := HS.out; omega) (Γ.w (d := 39) 6 rfl))) ?_
        refine .gu rfl rfl rfl rfl (fun _ _ W Γ => ev_eql (Γ.k 7 rfl) (Γ.c _) HO.out) ?_
        refine .gu rfl rfl rfl rfl (fun _ _ W Γ => ev_pick (Γ.k 5 rfl) (Γ.k 8 rfl)) ?_
        refine .pl rfl (fun _ _ W Γ => ev_pick (Γ.k 2 rfl) (Γ.k 9 rfl)) ?_
        exact .nil
      clear J; intro K18 hK18; simp only [fx]; intro _ f18 W18 J; refine hK18.out _ _ ?_; clear hK18
      refine wp_cond_true rfl ?_
      refine region_f [45, 46, 47, 0] [.num (A / D), .num 1, .num (A / D + 1), .any] [none, none, some (3, .num (A / D + 1))] [] [] J ?_ ?_
      · refine .pl rfl (fun _ _ W Γ => ev_ldN (Γ.s rfl) (Γ.u 2 rfl rfl).1) ?_
        refine .pl rfl (fun _ _ W Γ => ev_call1 (Γ.f _) run_Of (by rw [Γ.c]; exact of_gives 1 (by omega) W)) ?_
        refine .pl rfl (fun _ _ W Γ => ev_call2 (Γ.f _) run_nAdd (nAdd_gives W _ _ (A / D) 1 HS.out.2.2.2.1 (by rw [ds_one (by decide)]; omega) (Γ.w (d := 44) 0 rfl) (Γ.w (d := 45) 1 rfl))) ?_
        refine .st 2 rfl rfl rfl (fun _ _ W Γ => ev_stN (Γ.s rfl) (Γ.u 2 rfl rfl) (Γ.w 2 rfl)) ?_
        exact .nil
      clear J; simp only [fx]; intro _ f19 W19 J
      refine hK17.out _ _ ?_; clear hK17
      refine region_c [48, 49, 50, 10] [.num (A / D + 1), .is (.int .i64 (n : Int)), .is (.int .i64 ((tw (A / D + 1) n : Nat) : Int)), .is (.int .i64 ((tw (A / D + 1) n : Nat) : Int))] [] [] [] J ?_ ?_
      · refine .pl rfl (fun _ _ W Γ => ev_ldN (Γ.s rfl) (Γ.l 2 rfl)) ?_
        refine .pl rfl (fun _ _ W Γ => ev_move _ (Γ.s rfl)) ?_
        refine .pl rfl (fun _ _ W Γ => ev_call2 (Γ.f _) run_qTwos (by rw [(show _ = Value.int .i64 (n : Int) from (Γ.k (d := 48) 1 rfl))]; exact twos_gives W _ (A / D + 1) n (by have := HS.out; omega) (Γ.w (d := 47) 0 rfl))) ?_
        refine .pl rfl (fun _ _ W Γ => ev_assign _ (Γ.k 2 rfl)) ?_
        exact .nil
      clear J; intro K20 hK20; simp only [fx]; intro _ f20 W20 J; refine hK20.out _ _ ?_; clear hK20
      refine region_c [51, 52, 53, 54, 55, 56, 57, 58, 59, 60, 61, 62, 63, 64, 0] [.that (fracS X), .is (.int .i64 (cmp3 X.num 0)), .is (.bool (decide (X.num < 0))), .num (A / D + 1), .is (.int .i64 ((tw (A / D + 1) n : Nat) : Int)), .is (.int .i64 (-((tw (A / D + 1) n : Nat) : Int))), .num ((A / D + 1) / 2 ^ tw (A / D + 1) n), .int (sgn (decide (X.num < 0)) ((A / D + 1) / 2 ^ tw (A / D + 1) n)), .num 1, .is (.int .i64 (n : Int)), .is (.int .i64 ((tw (A / D + 1) n : Nat) : Int)), .is (.int .i64 ((n - tw (A / D + 1) n : Nat) : Int)), .num (1 * 2 ^ (n - tw (A / D + 1) n)), .that (fracS Z), .any] [none, some (14, .that (fracS Z))] [] [] J ?_ ?_
      · refine .pl rfl (fun _ _ W Γ => ev_ldQ (Γ.s rfl) (Γ.l 0 rfl)) ?_
        refine .pl rfl (fun _ _ W Γ => ev_call1 (Γ.f _) run_qSign (qSign_val W _ X _ rfl (Γ.w (d := 50) 0 rfl))) ?_
        refine .pl rfl (fun _ _ W Γ => ev_lss (Γ.k 1 rfl) (Γ.c _) (cmp3_neg0 _)) ?_
        refine .pl rfl (fun _ _ W Γ => ev_ldN (Γ.s rfl) (Γ.l 2 rfl)) ?_
        refine .pl rfl (fun _ _ W Γ => ev_move _ (Γ.s rfl)) ?_
        refine .pl rfl (fun _ E W Γ => by
          have e1 : E (.tmp 54) = .int .i64 ((tw (A / D + 1) n : Nat) : Int) := (Γ.k 4 rfl)
          have hc := Γ.c
          exact Does.value (w' := W) (by go_simp <;> first | rfl | (rw [IntKind.wrap_i64]; omega)) ⟨rfl, Below.refl _ _⟩) ?_
        refine .pl rfl (fun _ _ W Γ => ev_call2 (Γ.f _) run_nShift (by rw [(show _ = Value.int .i64 (-((tw (A / D + 1) n : Nat) : Int)) from (Γ.k (d := 55) 5 rfl))]; exact nShiftDown_gives W _ (A / D + 1) (tw (A / D + 1) n) HS.out.2.2.2.2.1 (by omega) (Γ.w (d := 53) 3 rfl))) ?_
        refine .pl rfl (fun _ _ W Γ => ev_call2 (Γ.f _) run_iFrom (by rw [(show _ = Value.bool (decide (X.num < 0)) from (Γ.k (d := 52) 2 rfl))]; exact iFrom_want W _ (decide (X.num < 0)) ((A / D + 1) / 2 ^ tw (A / D + 1) n) (Γ.w (d := 56) 6 rfl))) ?_
        refine .pl rfl (fun _ _ W Γ => ev_call1 (Γ.f _) run_Of (by rw [Γ.c]; exact of_gives 1 (by omega) W)) ?_
        refine .pl rfl (fun _ _ W Γ => ev_move _ (Γ.s rfl)) ?_
        refine .pl rfl (fun _ _ W Γ => ev_move _ (Γ.s rfl)) ?_
        refine .pl rfl (fun _ E W Γ => by
          have e1 : E (.tmp 59) = .int .i64 (n : Int) := (Γ.k 9 rfl)
          have e2 : E (.tmp 60) = .int .i64 ((tw (A / D + 1) n : Nat) : Int) := (Γ.k 10 rfl)
          have hc := Γ.c
          exact Does.value (w' := W) (by go_simp <;> first | rfl | (rw [IntKind.wrap_i64]; omega)) ⟨rfl, Below.refl _ _⟩) ?_
        refine .pl rfl (fun _ _ W Γ => ev_call2 (Γ.f _) run_nShift (by rw [(show _ = Value.int .i64 ((n - tw (A / D + 1) n : Nat) : Int) from (Γ.k (d := 61) 11 rfl))]; exact nShift_gives W _ 1 (n - tw (A / D + 1) n) (by rw [ds_one (by decide)]; omega) (by omega) (Γ.w (d := 58) 8 rfl))) ?_
        refine .pl rfl (fun _ _ W Γ => ev_call2 (Γ.f _) run_qOfLowest (qOfLowest_val W _ _ (sgn (decide (X.num < 0)) ((A / D + 1) / 2 ^ tw (A / D + 1) n)) (1 * 2 ^ (n - tw (A / D + 1) n)) Z HZ.out.1 HZ.out.2 (Γ.w (d := 57) 7 rfl) (Γ.w (d := 62) 12 rfl))) ?_
        refine .st 1 rfl rfl rfl (fun _ _ W Γ => ev_stQ (Γ.s rfl) (Γ.u 1 rfl rfl) (Γ.w 13 rfl)) ?_
        exact .nil
      clear J; intro K21 hK21; simp only [fx]; intro _ f21 W21 J; refine hK21.out _ _ ?_; clear hK21
      refine wp_ret ?_
      obtain ⟨u0, hx0, hm0⟩ := J.out.get 1 rfl
      obtain ⟨gr0, sr0, pr0, lr0, cr0, tr0, qr0, kr0, dr0, rfl, c0_0, c0_1, c0_2, c0_3, c0_4⟩ := hx0.frac
      exact bodyPost_ret (v := .agg #[.bool gr0, .int .u64 sr0, .slice pr0 lr0 cr0, .int .u64 tr0, .slice qr0 kr0 dr0]) (by simp [results, Tryz.results36, go_sem, c0_0, c0_1, c0_2, c0_3, c0_4]) rfl ⟨_, rfl, hm0, J.out.be⟩
    · skip
      obtain ⟨-, hc, ho, hm⟩ := h1
      have HC : Hid (cmp3 ((A % D * 2 ^ 1 : Nat) : Int) (D : Int) = 0) := Lib.hid (by rw [show ((A % D * 2 ^ 1 : Nat) : Int) = (D : Int) by omega]; exact cmp3_eq _)
      have HZ : Hid (Z.num = sgn (decide (X.num < 0)) ((A / D) / 2 ^ tw (A / D) n) ∧ Z.den = 1 * 2 ^ (n - tw (A / D) n)) := Lib.hid (by rw [← HZZ.out, Nat.one_mul]; exact Twos.near (by rw [HA.out, HD.out]; exact hm) (tw_spec _ _))
      have ht := (tw_spec (A / D) n).1
      have HO : Hid ((((tw (A / D) 1 : Nat) : Int) == 0) = false) := Lib.hid (beq_eq_false_iff_ne.2 fun e => ho ((tw_spec (A / D) 1).odd.1 (by omega)))
      clear hc hm ho
      refine region_c [29, 30, 31, 32, 33, 9] [.num (A % D), .num (A % D * 2 ^ 1), .that (fracS X), .num D, .is (.int .i64 0), .is (.int .i64 0)] [] [] [] J ?_ ?_
      · refine .pl rfl (fun _ _ W Γ => ev_ldN (Γ.s rfl) (Γ.l 3 rfl)) ?_
        refine .pl rfl (fun _ _ W Γ => ev_call2 (Γ.f _) run_nShift (by rw [Γ.c]; exact nShift_gives W _ (A % D) 1 HS.out.2.2.2.2.2.1 (by omega) (Γ.w (d := 28) 0 rfl))) ?_
        refine .pl rfl (fun _ _ W Γ => ev_ldQ (Γ.s rfl) (Γ.l 0 rfl)) ?_
        refine .pl rfl (fun _ _ W Γ => ev_call1 (Γ.f _) run_qDen (qDen_val W _ X D HD.out (Γ.w (d := 30) 2 rfl))) ?_
        refine .pl rfl (fun _ _ W Γ => ev_call2 (Γ.f _) run_nCmp (nCmp_val W _ _ (A % D * 2 ^ 1) D 0 HC.out HS.out.2.2.2.2.2.2 (Γ.w (d := 29) 1 rfl) (Γ.w (d := 31) 3 rfl))) ?_
        refine .pl rfl (fun _ _ W Γ => ev_assign _ (Γ.k 4 rfl)) ?_
        exact .nil
      clear J; intro K22 hK22; simp only [fx]; intro _ f22 W22 J; refine hK22.out _ _ ?_; clear hK22
      refine wp_seq_h ?_; intro K23 hK23
      refine region_c [34, 35, 36, 37, 38, 39, 40, 41, 42, 43, 44] [.is (.int .i64 0), .is (.bool false), .is (.bool false), .is (.int .i64 0), .is (.bool true), .is (.bool true), .num (A / D), .is (.int .i64 ((tw (A / D) 1 : Nat) : Int)), .is (.bool false), .is (.bool false), .is (.bool false)] [] [] [] J ?_ ?_
      · refine .pl rfl (fun _ _ W Γ => ev_move _ (Γ.s rfl)) ?_
        refine .pl rfl (fun _ E W Γ => by
          have e1 : E (.tmp 33) = .int .i64 0 := (Γ.k 0 rfl)
          have hc := Γ.c
          exact Does.value (w' := W) (by go_simp <;> first | rfl | (rw [IntKind.wrap_i64]; omega)) ⟨rfl, Below.refl _ _⟩) ?_
        refine .pl rfl (fun _ _ W Γ => ev_move _ (Γ.k 1 rfl)) ?_
        refine .gu rfl rfl rfl rfl (fun _ _ W Γ => ev_move _ (Γ.s rfl)) ?_
        refine .gu rfl rfl rfl rfl (fun _ E W Γ => by
          have e1 : E (.tmp 36) = .int .i64 0 := (Γ.k 3 rfl)
          have hc := Γ.c
          exact Does.value (w' := W) (by go_simp <;> first | rfl | (rw [IntKind.wrap_i64]; omega)) ⟨rfl, Below.refl _ _⟩) ?_
        refine .gu rfl rfl rfl rfl (fun _ _ W Γ => ev_move _ (Γ.k 4 rfl)) ?_
        refine .gu rfl rfl rfl rfl (fun _ _ W Γ => ev_ldN (Γ.s rfl) (Γ.l 2 rfl)) ?_
        refine .gu rfl rfl rfl rfl (fun _ _ W Γ => ev_call2 (Γ.f _) run_qTwos (by rw [Γ.c]; exact twos_gives W _ (A / D) 1 (by have := HS.out; omega) (Γ.w (d := 39) 6 rfl))) ?_
        refine .gu rfl rfl rfl rfl (fun _ _ W Γ => ev_eql (Γ.k 7 rfl) (Γ.c _) HO.out) ?_
        refine .gu rfl rfl rfl rfl (fun _ _ W Γ => ev_pick (Γ.k 5 rfl) (Γ.k 8 rfl)) ?_
        refine .pl rfl (fun _ _ W Γ => ev_pick (Γ.k 2 rfl) (Γ.k 9 rfl)) ?_
        exact .nil
      clear J; intro K24 hK24; simp only [fx]; intro _ f24 W24 J; refine hK24.out _ _ ?_; clear hK24
      refine wp_cond_false rfl ?_
      refine wp_skip ?_
      refine hK23.out _ _ ?_; clear hK23
      refine region_c [48, 49, 50, 10] [.num (A / D), .is (.int .i64 (n : Int)), .is (.int .i64 ((tw (A / D) n : Nat) : Int)), .is (.int .i64 ((tw (A / D) n : Nat) : Int))] [] [] [] J ?_ ?_
      · refine .pl rfl (fun _ _ W Γ => ev_ldN (Γ.s rfl) (Γ.l 2 rfl)) ?_
        refine .pl rfl (fun _ _ W Γ => ev_move _ (Γ.s rfl)) ?_
        refine .pl rfl (fun _ _ W Γ => ev_call2 (Γ.f _) run_qTwos (by rw [(show _ = Value.int .i64 (n : Int) from (Γ.k (d := 48) 1 rfl))]; exact twos_gives W _ (A / D) n (by have := HS.out; omega) (Γ.w (d := 47) 0 rfl))) ?_
        refine .pl rfl (fun _ _ W Γ => ev_assign _ (Γ.k 2 rfl)) ?_
        exact .nil
      clear J; intro K25 hK25; simp only [fx]; intro _ f25 W25 J; refine hK25.out _ _ ?_; clear hK25
      refine region_c [51, 52, 53, 54, 55, 56, 57, 58, 59, 60, 61, 62, 63, 64, 0] [.that (fracS X), .is (.int .i64 (cmp3 X.num 0)), .is (.bool (decide (X.num < 0))), .num (A / D), .is (.int .i64 ((tw (A / D) n : Nat) : Int)), .is (.int .i64 (-((tw (A / D) n : Nat) : Int))), .num ((A / D) / 2 ^ tw (A / D) n), .int (sgn (decide (X.num < 0)) ((A / D) / 2 ^ tw (A / D) n)), .num 1, .is (.int .i64 (n : Int)), .is (.int .i64 ((tw (A / D) n : Nat) : Int)), .is (.int .i64 ((n - tw (A / D) n : Nat) : Int)), .num (1 * 2 ^ (n - tw (A / D) n)), .that (fracS Z), .any] [none, some (14, .that (fracS Z))] [] [] J ?_ ?_
      · refine .pl rfl (fun _ _ W Γ => ev_ldQ (Γ.s rfl) (Γ.l 0 rfl)) ?_
        refine .pl rfl (fun _ _ W Γ => ev_call1 (Γ.f _) run_qSign (qSign_val W _ X _ rfl (Γ.w (d := 50) 0 rfl))) ?_
        refine .pl rfl (fun _ _ W Γ => ev_lss (Γ.k 1 rfl) (Γ.c _) (cmp3_neg0 _)) ?_
        refine .pl rfl (fun _ _ W Γ => ev_ldN (Γ.s rfl) (Γ.l 2 rfl)) ?_
        refine .pl rfl (fun _ _ W Γ => ev_move _ (Γ.s rfl)) ?_
        refine .pl rfl (fun _ E W Γ => by
          have e1 : E (.tmp 54) = .int .i64 ((tw (A / D) n : Nat) : Int) := (Γ.k 4 rfl)
          have hc := Γ.c
          exact Does.value (w' := W) (by go_simp <;> first | rfl | (rw [IntKind.wrap_i64]; omega)) ⟨rfl, Below.refl _ _⟩) ?_
        refine .pl rfl (fun _ _ W Γ => ev_call2 (Γ.f _) run_nShift (by rw [(show _ = Value.int .i64 (-((tw (A / D) n : Nat) : Int)) from (Γ.k (d := 55) 5 rfl))]; exact nShiftDown_gives W _ (A / D) (tw (A / D) n) HS.out.2.2.2.1 (by omega) (Γ.w (d := 53) 3 rfl))) ?_
        refine .pl rfl (fun _ _ W Γ => ev_call2 (Γ.f _) run_iFrom (by rw [(show _ = Value.bool (decide (X.num < 0)) from (Γ.k (d := 52) 2 rfl))]; exact iFrom_want W _ (decide (X.num < 0)) ((A / D) / 2 ^ tw (A / D) n) (Γ.w (d := 56) 6 rfl))) ?_
        refine .pl rfl (fun _ _ W Γ => ev_call1 (Γ.f _) run_Of (by rw [Γ.c]; exact of_gives 1 (by omega) W)) ?_
        refine .pl rfl (fun _ _ W Γ => ev_move _ (Γ.s rfl)) ?_
        refine .pl rfl (fun _ _ W Γ => ev_move _ (Γ.s rfl)) ?_
        refine .pl rfl (fun _ E W Γ => by
          have e1 : E (.tmp 59) = .int .i64 (n : Int) := (Γ.k 9 rfl)
          have e2 : E (.tmp 60) = .int .i64 ((tw (A / D) n : Nat) : Int) := (Γ.k 10 rfl)
          have hc := Γ.c
          exact Does.value (w' := W) (by go_simp <;> first | rfl | (rw [IntKind.wrap_i64]; omega)) ⟨rfl, Below.refl _ _⟩) ?_
        refine .pl rfl (fun _ _ W Γ => ev_call2 (Γ.f _) run_nShift (by rw [(show _ = Value.int .i64 ((n - tw (A / D) n : Nat) : Int) from (Γ.k (d := 61) 11 rfl))]; exact nShift_gives W _ 1 (n - tw (A / D) n) (by rw [ds_one (by decide)]; omega) (by omega) (Γ.w (d := 58) 8 rfl))) ?_
        refine .pl rfl (fun _ _ W Γ => ev_call2 (Γ.f _) run_qOfLowest (qOfLowest_val W _ _ (sgn (decide (X.num < 0)) ((A / D) / 2 ^ tw (A / D) n)) (1 * 2 ^ (n - tw (A / D) n)) Z HZ.out.1 HZ.out.2 (Γ.w (d := 57) 7 rfl) (Γ.w (d := 62) 12 rfl))) ?_
        refine .st 1 rfl rfl rfl (fun _ _ W Γ => ev_stQ (Γ.s rfl) (Γ.u 1 rfl rfl) (Γ.w 13 rfl)) ?_
        exact .nil
      clear J; intro K26 hK26; simp only [fx]; intro _ f26 W26 J; refine hK26.out _ _ ?_; clear hK26
      refine wp_ret ?_
      obtain ⟨u0, hx0, hm0⟩ := J.out.get 1 rfl
      obtain ⟨gr0, sr0, pr0, lr0, cr0, tr0, qr0, kr0, dr0, rfl, c0_0, c0_1, c0_2, c0_3, c0_4⟩ := hx0.frac
      exact bodyPost_ret (v := .agg #[.bool gr0, .int .u64 sr0, .slice pr0 lr0 cr0, .int .u64 tr0, .slice qr0 kr0 dr0]) (by simp [results, Tryz.results36, go_sem, c0_0, c0_1, c0_2, c0_3, c0_4]) rfl ⟨_, rfl, hm0, J.out.be⟩
    · skip
      obtain ⟨-, hc, hm⟩ := h1
      have HC : Hid (cmp3 ((A % D * 2 ^ 1 : Nat) : Int) (D : Int) = (-1)) := Lib.hid (cmp3_lt (by omega))
      have HZ : Hid (Z.num = sgn (decide (X.num < 0)) ((A / D) / 2 ^ tw (A / D) n) ∧ Z.den = 1 * 2 ^ (n - tw (A / D) n)) := Lib.hid (by rw [← HZZ.out, Nat.one_mul]; exact Twos.near (by rw [HA.out, HD.out]; exact hm) (tw_spec _ _))
      have ht := (tw_spec (A / D) n).1
      clear hc hm
      refine region_c [29, 30, 31, 32, 33, 9] [.num (A % D), .num (A % D * 2 ^ 1), .that (fracS X), .num D, .is (.int .i64 (-1)), .is (.int .i64 (-1))] [] [] [] J ?_ ?_
      · refine .pl rfl (fun _ _ W Γ => ev_ldN (Γ.s rfl) (Γ.l 3 rfl)) ?_
        refine .pl rfl (fun _ _ W Γ => ev_call2 (Γ.f _) run_nShift (by rw [Γ.c]; exact nShift_gives W _ (A % D) 1 HS.out.2.2.2.2.2.1 (by omega) (Γ.w (d := 28) 0 rfl))) ?_
        refine .pl rfl (fun _ _ W Γ => ev_ldQ (Γ.s rfl) (Γ.l 0 rfl)) ?_
        refine .pl rfl (fun _ _ W Γ => ev_call1 (Γ.f _) run_qDen (qDen_val W _ X D HD.out (Γ.w (d := 30) 2 rfl))) ?_
        refine .pl rfl (fun _ _ W Γ => ev_call2 (Γ.f _) run_nCmp (nCmp_val W _ _ (A % D * 2 ^ 1) D (-1) HC.out HS.out.2.2.2.2.2.2 (Γ.w (d := 29) 1 rfl) (Γ.w (d := 31) 3 rfl))) ?_
        refine .pl rfl (fun _ _ W Γ => ev_assign _ (Γ.k 4 rfl)) ?_
        exact .nil
      clear J; intro K27 hK27; simp only [fx]; intro _ f27 W27 J; refine hK27.out _ _ ?_; clear hK27
      refine wp_seq_h ?_; intro K28 hK28
      refine region_c [34, 35, 36, 37, 38, 39, 40, 41, 42, 43, 44] [.is (.int .i64 (-1)), .is (.bool false), .is (.bool false), .is (.int .i64 (-1)), .is (.bool false), .is (.bool false), .is undef, .is undef, .is undef, .is (.bool false), .is (.bool false)] [] [] [] J ?_ ?_
      · refine .pl rfl (fun _ _ W Γ => ev_move _ (Γ.s rfl)) ?_
        refine .pl rfl (fun _ E W Γ => by
          have e1 : E (.tmp 33) = .int .i64 (-1) := (Γ.k 0 rfl)
          have hc := Γ.c
          exact Does.value (w' := W) (by go_simp <;> first | rfl | (rw [IntKind.wrap_i64]; omega)) ⟨rfl, Below.refl _ _⟩) ?_
        refine .pl rfl (fun _ _ W Γ => ev_move _ (Γ.k 1 rfl)) ?_
        refine .gu rfl rfl rfl rfl (fun _ _ W Γ => ev_move _ (Γ.s rfl)) ?_
        refine .gu rfl rfl rfl rfl (fun _ E W Γ => by
          have e1 : E (.tmp 36) = .int .i64 (-1) := (Γ.k 3 rfl)
          have hc := Γ.c
          exact Does.value (w' := W) (by go_simp <;> first | rfl | (rw [IntKind.wrap_i64]; omega)) ⟨rfl, Below.refl _ _⟩) ?_
        refine .gu rfl rfl rfl rfl (fun _ _ W Γ => ev_move _ (Γ.k 4 rfl)) ?_
        refine .off rfl rfl rfl rfl ?_
        refine .off rfl rfl rfl rfl ?_
        refine .off rfl rfl rfl rfl ?_
        refine .gu rfl rfl rfl rfl (fun _ _ W Γ => ev_pick (Γ.k 5 rfl) (Γ.c _)) ?_
        refine .pl rfl (fun _ _ W Γ => ev_pick (Γ.k 2 rfl) (Γ.k 9 rfl)) ?_
        exact .nil
      clear J; intro K29 hK29; simp only [fx]; intro _ f29 W29 J; refine hK29.out _ _ ?_; clear hK29
      refine wp_cond_false rfl ?_
      refine wp_skip ?_
      refine hK28.out _ _ ?_; clear hK28
      refine region_c [48, 49, 50, 10] [.num (A / D), .is (.int .i64 (n : Int)), .is (.int .i64 ((tw (A / D) n : Nat) : Int)), .is (.int .i64 ((tw (A / D) n : Nat) : Int))] [] [] [] J ?_ ?_
      · refine .pl rfl (fun _ _ W Γ => ev_ldN (Γ.s rfl) (Γ.l 2 rfl)) ?_
        refine .pl rfl (fun _ _ W Γ => ev_move _ (Γ.s rfl)) ?_
        refine .pl rfl (fun _ _ W Γ => ev_call2 (Γ.f _) run_qTwos (by rw [(show _ = Value.int .i64 (n : Int) from (Γ.k (d := 48) 1 rfl))]; exact twos_gives W _ (A / D) n (by have := HS.out; omega) (Γ.w (d := 47) 0 rfl))) ?_
        refine .pl rfl (fun _ _ W Γ => ev_assign _ (Γ.k 2 rfl)) ?_
        exact .nil
      clear J; intro K30 hK30; simp only [fx]; intro _ f30 W30 J; refine hK30.out _ _ ?_; clear hK30
      refine region_c [51, 52, 53, 54, 55, 56, 57, 58, 59, 60, 61, 62, 63, 64, 0] [.that (fracS X), .is (.int .i64 (cmp3 X.num 0)), .is (.bool (decide (X.num < 0))), .num (A / D), .is (.int .i64 ((tw (A / D) n : Nat) : Int)), .is (.int .i64 (-((tw (A / D) n : Nat) : Int))), .num ((A / D) / 2 ^ tw (A / D) n), .int (sgn (decide (X.num < 0)) ((A / D) / 2 ^ tw (A / D) n)), .num 1, .is (.int .i64 (n : Int)), .is (.int .i64 ((tw (A / D) n : Nat) : Int)), .is (.int .i64 ((n - tw (A / D) n : Nat) : Int)), .num (1 * 2 ^ (n - tw (A / D) n)), .that (fracS Z), .any] [none, some (14, .that (fracS Z))] [] [] J ?_ ?_
      · refine .pl rfl (fun _ _ W Γ => ev_ldQ (Γ.s rfl) (Γ.l 0 rfl)) ?_
        refine .pl rfl (fun _ _ W Γ => ev_call1 (Γ.f _) run_qSign (qSign_val W _ X _ rfl (Γ.w (d := 50) 0 rfl))) ?_
        refine .pl rfl (fun _ _ W Γ => ev_lss (Γ.k 1 rfl) (Γ.c _) (cmp3_neg0 _)) ?_
        refine .pl rfl (fun _ _ W Γ => ev_ldN (Γ.s rfl) (Γ.l 2 rfl)) ?_
        refine .pl rfl (fun _ _ W Γ => ev_move _ (Γ.s rfl)) ?_
        refine .pl rfl (fun _ E W Γ => by
          have e1 : E (.tmp 54) = .int .i64 ((tw (A / D) n : Nat) : Int) := (Γ.k 4 rfl)
          have hc := Γ.c
          exact Does.value (w' := W) (by go_simp <;> first | rfl | (rw [IntKind.wrap_i64]; omega)) ⟨rfl, Below.refl _ _⟩) ?_
        refine .pl rfl (fun _ _ W Γ => ev_call2 (Γ.f _) run_nShift (by rw [(show _ = Value.int .i64 (-((tw (A / D) n : Nat) : Int)) from (Γ.k (d := 55) 5 rfl))]; exact nShiftDown_gives W _ (A / D) (tw (A / D) n) HS.out.2.2.2.1 (by omega) (Γ.w (d := 53) 3 rfl))) ?_
        refine .pl rfl (fun _ _ W Γ => ev_call2 (Γ.f _) run_iFrom (by rw [(show _ = Value.bool (decide (X.num < 0)) from (Γ.k (d := 52) 2 rfl))]; exact iFrom_want W _ (decide (X.num < 0)) ((A / D) / 2 ^ tw (A / D) n) (Γ.w (d := 56) 6 rfl))) ?_
        refine .pl rfl (fun _ _ W Γ => ev_call1 (Γ.f _) run_Of (by rw [Γ.c]; exact of_gives 1 (by omega) W)) ?_
        refine .pl rfl (fun _ _ W Γ => ev_move _ (Γ.s rfl)) ?_
        refine .pl rfl (fun _ _ W Γ => ev_move _ (Γ.s rfl)) ?_
        refine .pl rfl (fun _ E W Γ => by
          have e1 : E (.tmp 59) = .int .i64 (n : Int) := (Γ.k 9 rfl)
          have e2 : E (.tmp 60) = .int .i64 ((tw (A / D) n : Nat) : Int) := (Γ.k 10 rfl)
          have hc := Γ.c
          exact Does.value (w' := W) (by go_simp <;> first | rfl | (rw [IntKind.wrap_i64]; omega)) ⟨rfl, Below.refl _ _⟩) ?_
        refine .pl rfl (fun _ _ W Γ => ev_call2 (Γ.f _) run_nShift (by rw [(show _ = Value.int .i64 ((n - tw (A / D) n : Nat) : Int) from (Γ.k (d := 61) 11 rfl))]; exact nShift_gives W _ 1 (n - tw (A / D) n) (by rw [ds_one (by decide)]; omega) (by omega) (Γ.w (d := 58) 8 rfl))) ?_
        refine .pl rfl (fun _ _ W Γ => ev_call2 (Γ.f _) run_qOfLowest (qOfLowest_val W _ _ (sgn (decide (X.num < 0)) ((A / D) / 2 ^ tw (A / D) n)) (1 * 2 ^ (n - tw (A / D) n)) Z HZ.out.1 HZ.out.2 (Γ.w (d := 57) 7 rfl) (Γ.w (d := 62) 12 rfl))) ?_
        refine .st 1 rfl rfl rfl (fun _ _ W Γ => ev_stQ (Γ.s rfl) (Γ.u 1 rfl rfl) (Γ.w 13 rfl)) ?_
        exact .nil
      clear J; intro K31 hK31; simp only [fx]; intro _ f31 W31 J; refine hK31.out _ _ ?_; clear hK31
      refine wp_ret ?_
      obtain ⟨u0, hx0, hm0⟩ := J.out.get 1 rfl
      obtain ⟨gr0, sr0, pr0, lr0, cr0, tr0, qr0, kr0, dr0, rfl, c0_0, c0_1, c0_2, c0_3, c0_4⟩ := hx0.frac
      exact bodyPost_ret (v := .agg #[.bool gr0, .int .u64 sr0, .slice pr0 lr0 cr0, .int .u64 tr0, .slice qr0 kr0 dr0]) (by simp [results, Tryz.results36, go_sem, c0_0, c0_1, c0_2, c0_3, c0_4]) rfl ⟨_, rfl, hm0, J.out.be⟩
end Go.Proofs.YtjhjlecnjkjbbaaGreatDoor
