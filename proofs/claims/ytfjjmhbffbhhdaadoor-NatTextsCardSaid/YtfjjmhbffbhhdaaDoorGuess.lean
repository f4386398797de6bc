/- A guess at a digit of a quotient: right, or one too great. -/
import Derived.Test.YtfjjmhbffbhhdaaDoorDiv64
import Derived.Test.YtfjjmhbffbhhdaaDoorProduct
import Derived.Test.YtfjjmhbffbhhdaaDoorDivS
namespace Go.Proofs.YtfjjmhbffbhhdaaDoor
open Go.RowKit

structure GuessInv (b p p2 d1 d2 q r : Nat) : Prop where
  eq : q * d1 + r = p
  rest : r < b
  most : q < b
  over : p * b + p2 < (q + 1) * (d1 * b + d2)
theorem GuessInv.step {b p p2 d1 d2 q r : Nat} (h : GuessInv b p p2 d1 d2 q r) (hc : r * b + p2 < q * d2) (hr : r + d1 < b) : GuessInv b p p2 d1 d2 (q - 1) (r + d1) := by
  have hp : 0 < q := by
    rcases Nat.eq_zero_or_pos q with h0 | h0
    · rw [h0, Nat.zero_mul] at hc; omega
    · exact h0
  have hl := guess_over h.eq hc
  have he := h.eq
  have hm := h.most
  obtain ⟨k, rfl⟩ : ∃ k, q = k + 1 := ⟨q - 1, by omega⟩
  rw [Nat.add_sub_cancel]
  exact ⟨by rw [← he, Nat.add_mul]; omega, hr, by omega, hl⟩
theorem GuessInv.done {b p p2 d1 d2 q r : Nat} (h : GuessInv b p p2 d1 d2 q r) (hc : q * d2 ≤ r * b + p2) : q = (p * b + p2) / (d1 * b + d2) :=
  (Nat.div_eq_of_lt_le (guess_fits h.eq hc) h.over).symm
theorem GuessInv.last {b p p2 d1 d2 q r : Nat} (h : GuessInv b p p2 d1 d2 q r) (h2 : d2 < b) (hc : r * b + p2 < q * d2) (hr : b ≤ r + d1) : q - 1 = (p * b + p2) / (d1 * b + d2) := by
  have hp : 0 < q := by
    rcases Nat.eq_zero_or_pos q with h0 | h0
    · rw [h0, Nat.zero_mul] at hc; omega
    · exact h0
  have hl := guess_over h.eq hc
  have he := h.eq
  have hm := h.most
  obtain ⟨k, rfl⟩ : ∃ k, q = k + 1 := ⟨q - 1, by omega⟩
  rw [Nat.add_sub_cancel]
  refine (Nat.div_eq_of_lt_le (guess_fits (r := r + d1) (by rw [← he, Nat.add_mul]; omega) ?_) hl).symm
  have h1 : k * d2 ≤ b * b := Nat.mul_le_mul (by omega) (by omega)
  have h3 : b * b ≤ (r + d1) * b := Nat.mul_le_mul_right _ hr
  omega

theorem guess_of {b j : Nat} {zs xs : List Nat} (hb : 2 ≤ b) (hz : zs.length = j + 3) (hx : xs.length = j + 2) (hZ : ∀ x ∈ zs, x < b) (hX : ∀ x ∈ xs, x < b) (htop : b ≤ 2 * xs.getD (j + 1) 0) (hlt : val b zs < b * val b xs) :
    (∀ g, xs.getD (j + 1) 0 ≤ zs.getD (j + 2) 0 → g = b - 1 → val b zs / val b xs ≤ g ∧ g ≤ val b zs / val b xs + 1) ∧
    (∀ g, g < b → g = ((zs.getD (j + 2) 0 * b + zs.getD (j + 1) 0) * b + zs.getD j 0) / (xs.getD (j + 1) 0 * b + xs.getD j 0) → val b zs / val b xs ≤ g ∧ g ≤ val b zs / val b xs + 1) := by
  have ez : val b zs = val b (zs.take j) + b ^ j * zs.getD j 0 + b ^ (j + 1) * zs.getD (j + 1) 0 + b ^ (j + 2) * zs.getD (j + 2) 0 := by
    rw [← val_take_succ', ← val_take_succ', ← val_take_succ', List.take_of_length_le (by omega)]
  have ex : val b xs = val b (xs.take j) + b ^ j * xs.getD j 0 + b ^ (j + 1) * xs.getD (j + 1) 0 := by
    rw [← val_take_succ', ← val_take_succ', List.take_of_length_le (by omega)]
  have ex1 : val b xs = val b (xs.take (j + 1)) + b ^ (j + 1) * xs.getD (j + 1) 0 := by
    rw [← val_take_succ', List.take_of_length_le (by omega)]
  have lz := val_take_lt b zs j hZ (by omega)
  have lx := val_take_lt b xs j hX (by omega)
  have lx1 := val_take_lt b xs (j + 1) hX (by omega)
  have hj : 0 < b ^ j := Nat.pow_pos (by omega)
  constructor
  · rintro g hle rfl
    refine guess_top (K := b ^ (j + 1)) (d1 := xs.getD (j + 1) 0) (dl := val b (xs.take (j + 1))) hb (by rw [ex1, Nat.mul_comm (b ^ (j + 1))]; omega) lx1 htop ?_ hlt
    have h1 : b ^ (j + 2) * xs.getD (j + 1) 0 ≤ b ^ (j + 2) * zs.getD (j + 2) 0 := Nat.mul_le_mul_left _ hle
    have h2 : xs.getD (j + 1) 0 * b * b ^ (j + 1) = b ^ (j + 2) * xs.getD (j + 1) 0 := by
      rw [Nat.pow_succ b (j + 1)]; grind
    omega
  · rintro g hg he
    rw [he]
    refine guess_near (K := b ^ j) hj (pl := val b (zs.take j)) (dl := val b (xs.take j)) ?_ lz ?_ lx ?_ ?_
    · rw [ez, Nat.pow_succ b (j + 1), Nat.pow_succ b j]; grind
    · rw [ex, Nat.pow_succ b j]; grind
    · have : 0 < xs.getD (j + 1) 0 * b := Nat.mul_pos (by omega) (by omega)
      omega
    · rw [← he]
      have : 1 * b ≤ xs.getD (j + 1) 0 * b := Nat.mul_le_mul_right _ (by omega)
      omega

def RetG (W : World) (q : Nat) : Ending → World → Prop := fun e w' => ∃ g : Nat, e = .returned (.int .u64 (g : Int)) ∧ g < 2 ^ 64 ∧ q ≤ g ∧ g ≤ q + 1 ∧ Below W.heap.size W w'

set_option maxRecDepth 100000 in
set_option maxHeartbeats 4000000 in
theorem guess_any (bz oz cz bx ox cx n m : Nat) (zs xs : List Nat) (w : World) (hm : m = n + 1) (hz : zs.length = m) (hx : xs.length = n) (hn : 2 ≤ n) (hl : n ≤ 4000000)
    (h1 : At w .u64 bz oz zs) (h2 : At w .u64 bx ox xs) (hZ : ∀ x ∈ zs, x < 2 ^ 64) (hX : ∀ x ∈ xs, x < 2 ^ 64) (htop : 2 ^ 63 ≤ xs.getD (n - 1) 0) (hlt : val (2 ^ 64) zs < 2 ^ 64 * val (2 ^ 64) xs) :
    Calls Tryd.prog 63 #[.slice (some ⟨bz, oz, none⟩) m cz, .slice (some ⟨bx, ox, none⟩) n cx] w (RetG w (val (2 ^ 64) zs / val (2 ^ 64) xs)) := by
  obtain ⟨j, rfl⟩ : ∃ j, n = j + 2 := ⟨n - 2, by omega⟩
  rw [show j + 2 - 1 = j + 1 from rfl] at htop
  obtain ⟨G1, G2⟩ := guess_of (by omega) (by omega) hx hZ hX (by omega) hlt
  generalize val (2 ^ 64) zs / val (2 ^ 64) xs = Q at *
  have z0 := h1 (j + 2) (by omega)
  have z1 := h1 (j + 1) (by omega)
  have z2 := h1 j (by omega)
  have x1 := h2 (j + 1) (by omega)
  have x2 := h2 j (by omega)
  have a0 := getD_lt hZ (by omega) (j + 2)
  have a1 := getD_lt hZ (by omega) (j + 1)
  have a2 := getD_lt hZ (by omega) j
  have b1 := getD_lt hX (by omega) (j + 1)
  have b2 := getD_lt hX (by omega) j
  generalize zs.getD (j + 2) 0 = p0 at *
  generalize zs.getD (j + 1) 0 = p1 at *
  generalize zs.getD j 0 = p2 at *
  generalize xs.getD (j + 1) 0 = d1 at *
  generalize xs.getD j 0 = d2 at *
  have HM := Lib.hid hm
  have e1 : ((j + 2 : Nat) : Int) - 1 = ((j + 1 : Nat) : Int) := by omega
  have e2 : ((j + 2 : Nat) : Int) - 2 = ((j : Nat) : Int) := by omega
  have i1 : ((j + 2 : Nat) : Int) < m := by omega
  have i2 : ((j + 1 : Nat) : Int) < m := by omega
  have i3 : ((j : Nat) : Int) < m := by omega
  obtain ⟨k, hk⟩ : ∃ k, k = j + 1 := ⟨_, rfl⟩
  obtain ⟨n, hn⟩ : ∃ n, n = j + 2 := ⟨_, rfl⟩
  have i4 : (k : Int) < n := by omega
  have i5 : (j : Int) < n := by omega
  have i6 : (n : Int) ≤ 4000002 := by omega
  rw [← hk] at e1 i2 z1 x1
  rw [← hn] at e1 e2 i1 z0 ⊢
  have i7 : IntKind.i64.wrap (k : Int) = (k : Int) := by rw [IntKind.wrap_i64]; omega
  have i8 : IntKind.i64.wrap (j : Int) = (j : Int) := by rw [IntKind.wrap_i64]; omega
  have A0 := Lib.hid a0; have A1 := Lib.hid a1; have A2 := Lib.hid a2; have B1 := Lib.hid b1; have B2 := Lib.hid b2; have HT := Lib.hid htop
  have HG1 := Lib.hid G1; have HG2 := Lib.hid G2
  clear h1 h2 hZ hX hz hx hlt hm hk hn hl G1 G2 a0 a1 a2 b1 b2 htop
  go_enter Tryd.func63, Tryd.ntmps63
  go_wp2
  go_big_region
  by_cases hcmp : d1 ≤ p0
  · have c1 : (d1 : Int) ≤ p0 := by omega
    have HF := Lib.hid (HG1.out (2 ^ 64 - 1) hcmp rfl)
    clear hcmp
    go_wp2
    go_ret
    exact ⟨2 ^ 64 - 1, rfl, by omega, HF.out.1, HF.out.2, (Below.refl _ _).drew⟩
  · have c1 : ¬ (d1 : Int) ≤ p0 := by omega
    have HD := Lib.hid (div64_any p0 p1 d1 (by omega) B1.out A1.out)
    obtain ⟨q0, hq0⟩ : ∃ q0, q0 = (p0 * 2 ^ 64 + p1) / d1 := ⟨_, rfl⟩
    obtain ⟨r0, hr0⟩ : ∃ r0, r0 = (p0 * 2 ^ 64 + p1) % d1 := ⟨_, rfl⟩
    rw [← hq0, ← hr0] at HD
    have HI : Hid (GuessInv (2 ^ 64) (p0 * 2 ^ 64 + p1) p2 d1 d2 q0 r0) := by
      refine Lib.hid ⟨?_, ?_, ?_, ?_⟩
      · rw [hq0, hr0, Nat.mul_comm]; exact Nat.div_add_mod _ _
      · rw [hr0]; have := Nat.mod_lt (p0 * 2 ^ 64 + p1) (show 0 < d1 by omega); have := B1.out; omega
      · rw [hq0]; exact word_digit (by omega) A1.out
      · rw [hq0]; exact guess_start (by omega) A2.out
    clear hq0 hr0
    clear hcmp
    have HB0 : Below w.heap.size w w.drew := (Below.refl _ _).drew
    go_wp2
    rename_i K hKK
--KEY
    have key : ∀ (u2 u3 u10 u11 u12 u13 u14 u15 u16 u17 u18 u19 u20 u21 u22 u23 u24 u25 u26 u27 u28 u29 u30 u31 u32 u33 u34 u35 u36 u37 u38 u39 u40 u41 u42 u43 u44 u45 u46 u47 u48 u49 u50 u51 u52 u53 u54 u55 u56 u57 u58 u59 u60 u61 u62 u63 u64 u65 u66 u67 u68 u69 u70 u71 u72 u73 u74 u75 u76 : Value) (W : World), Below w.heap.size w W → W.cell? ⟨bz, oz + j, none⟩ = some (.int .u64 (p2 : Int)) → K { tmps := #[.slice (some ⟨bz, oz, none⟩) m cz, .slice (some ⟨bx, ox, none⟩) n cx, u2, u3, .int .u64 0, .int .i64 n, .int .u64 d1, .int .u64 d2, .int .u64 (q0 : Int), .int .u64 (r0 : Int), u10, u11, u12, u13, u14, u15, u16, u17, u18, u19, u20, u21, u22, u23, u24, u25, u26, u27, u28, u29, u30, u31, u32, u33, u34, u35, u36, u37, u38, u39, u40, u41, u42, u43, u44, u45, u46, u47, u48, u49, u50, u51, u52, u53, u54, u55, u56, u57, u58, u59, u60, u61, u62, u63, u64, u65, u66, u67, u68, u69, u70, u71, u72, u73, u74, u75, u76], defers := [] } W := by
      intro u2 u3 u10 u11 u12 u13 u14 u15 u16 u17 u18 u19 u20 u21 u22 u23 u24 u25 u26 u27 u28 u29 u30 u31 u32 u33 u34 u35 u36 u37 u38 u39 u40 u41 u42 u43 u44 u45 u46 u47 u48 u49 u50 u51 u52 u53 u54 u55 u56 u57 u58 u59 u60 u61 u62 u63 u64 u65 u66 u67 u68 u69 u70 u71 u72 u73 u74 u75 u76 W hB z2
--KEYEND
      have HB := Lib.hid hB
      refine hKK _ _ ?_
      clear hKK hB z0 z1 x1 x2 i1 i2 i4 i5 e1 c1 HB0 i7 HD
      go_wp2
      go_loopw [8, 9] (fun a c wr => ∃ q' r' : Nat, a = .int .u64 (q' : Int) ∧ c = .int .u64 (r' : Int) ∧ Below w.heap.size w wr ∧ wr.cell? ⟨bz, oz + j, none⟩ = some (.int .u64 (p2 : Int)) ∧ Hid (GuessInv (2 ^ 64) (p0 * 2 ^ 64 + p1) p2 d1 d2 q' r')) (fun a _ _ => (intOf a).toNat)
      case atStart => exact ⟨_, _, rfl, rfl, HB.out, z2, HI⟩
      case round =>
        clear z2 HI HB
        obtain ⟨q', r', rfl, rfl, hB, z2, HI⟩ := hrel
        have hr2 := HI.out.rest
        have hm2 := HI.out.most
        have hmd := Nat.mod_add_div (q' * d2) (2 ^ 64)
        have hmdl := Nat.mod_lt (q' * d2) (by omega : 0 < 2 ^ 64)
        have HM2 := Lib.hid (mul64_any q' d2 (q' * d2 / 2 ^ 64) (q' * d2 % 2 ^ 64) hm2 B2.out hmd.symm hmdl)
        have HC := Lib.hid (Nat.lt_or_ge (r' * 2 ^ 64 + p2) (q' * d2))
        have HD3 := Lib.hid (fun h => HI.out.done h)
        have HS3 := Lib.hid (fun h => HI.out.step h)
        have HL3 := Lib.hid (fun h => HI.out.last B2.out h)
        have HP := Lib.hid (fun (h : r' * 2 ^ 64 + p2 < q' * d2) => (show 0 < q' from by
          rcases Nat.eq_zero_or_pos q' with h0 | h0
          · rw [h0, Nat.zero_mul] at h; omega
          · exact h0))
        generalize q' * d2 % 2 ^ 64 = lo at *
        generalize q' * d2 / 2 ^ 64 = hi at *
        generalize q' * d2 = p at *
        have HMD := Lib.hid hmd; have HLO := Lib.hid hmdl; have HR2 := Lib.hid hr2; have HM3 := Lib.hid hm2
        clear hmd hmdl hr2 hm2 HI
--BRANCH
        rcases HC.out with hc | hc
        · have hp := HP.out hc
          obtain ⟨q5, hq5⟩ : ∃ q5, q5 = q' - 1 := ⟨_, rfl⟩
          obtain ⟨r5, hr5⟩ : ∃ r5, r5 = (r' + d1) % 2 ^ 64 := ⟨_, rfl⟩
          have wq : IntKind.u64.wrap ((q' : Int) - 1) = (q5 : Int) := wrap_at (by have := HM3.out; omega)
          have wr5 : IntKind.u64.wrap ((r' : Int) + d1) = (r5 : Int) := wrap_at (by omega)
          have hcs : (hi = r' ∧ p2 < lo) ∨ r' < hi := by
            have h1 := HMD.out; have h2 := HLO.out; have h3 := HR2.out; have h4 := A2.out
            omega
          have hov : (r' + d1 < 2 ^ 64 ∧ ¬ (r5 : Int) < d1) ∨ (2 ^ 64 ≤ r' + d1 ∧ (r5 : Int) < d1) := by
            have h3 := HR2.out; have h4 := B1.out
            rw [hr5]
            rcases Nat.lt_or_ge (r' + d1) (2 ^ 64) with h | h
            · left; rw [Nat.mod_eq_of_lt h]; exact ⟨h, by omega⟩
            · right; refine ⟨h, ?_⟩; omega
          have HS := Lib.hid (HS3.out hc)
          have HL := Lib.hid (HL3.out hc)
          have HRE := Lib.hid hr5
          have HQE := Lib.hid hq5
          rw [← hq5] at HS HL
          have HHP := Lib.hid hp
          clear hc hp hr5 hq5 HS3 HL3 HD3 HC HP
          rcases hcs with ⟨rfl, hlo⟩ | hhi
          · have c3 : ¬ (lo : Int) ≤ p2 := by omega
            clear hlo
            rcases hov with ⟨ho, co⟩ | ⟨ho, co⟩
            · have HN := Lib.hid (HS.out ho)
              clear HS HL
              go_wp2_with fail
              refine (HM2.out _).mono ?_
              rintro e w1 ⟨rfl, rfl⟩
              go_wp2
              go_roundw
              case rel => exact ⟨q5, r5, rfl, rfl, by repeat' first | exact hB | refine Below.drew ?_, by simpa [go_sem] using z2, by rw [HRE.out, Nat.mod_eq_of_lt ho]; exact HN⟩
              case measure => have h1 := HQE.out; have h2 := HHP.out; simp [intOf]; omega
            · have HN := Lib.hid (HL.out ho)
              clear HS HL
              go_wp2_with fail
              refine (HM2.out _).mono ?_
              rintro e w1 ⟨rfl, rfl⟩
              go_wp2
              go_ret
              have h1 := HM3.out; have h2 := HQE.out; have h3 := HHP.out
              have hg := HG2.out q5 (by omega) HN.out
              exact ⟨q5, rfl, by omega, hg.1, hg.2, by repeat' first | exact hB | refine Below.drew ?_⟩
          · have c1 : ¬ (hi : Int) < r' := by omega
            have c2 : ((hi : Int) == r') = false := beq_eq_false_iff_ne.2 (by omega)
            have c4 : ¬ hi < r' := by omega
            have c5 : ¬ hi = r' := by omega
            clear hhi
            rcases hov with ⟨ho, co⟩ | ⟨ho, co⟩
            · have HN := Lib.hid (HS.out ho)
              clear HS HL
              go_wp2_with fail
              refine (HM2.out _).mono ?_
              rintro e w1 ⟨rfl, rfl⟩
              go_wp2
              go_roundw
              case rel => exact ⟨q5, r5, rfl, rfl, by repeat' first | exact hB | refine Below.drew ?_, by simpa [go_sem] using z2, by rw [HRE.out, Nat.mod_eq_of_lt ho]; exact HN⟩
              case measure => have h1 := HQE.out; have h2 := HHP.out; simp [intOf]; omega
            · have HN := Lib.hid (HL.out ho)
              clear HS HL
              go_wp2_with fail
              refine (HM2.out _).mono ?_
              rintro e w1 ⟨rfl, rfl⟩
              go_wp2
              go_ret
              have h1 := HM3.out; have h2 := HQE.out; have h3 := HHP.out
              have hg := HG2.out q5 (by omega) HN.out
              exact ⟨q5, rfl, by omega, hg.1, hg.2, by repeat' first | exact hB | refine Below.drew ?_⟩
        · have HN := Lib.hid (HD3.out hc)
          have hcs : (hi = r' ∧ lo ≤ p2) ∨ hi < r' := by
            have h1 := HMD.out; have h2 := HLO.out; have h3 := HR2.out; have h4 := A2.out
            omega
          clear hc HS3 HL3 HD3 HC HP
          rcases hcs with ⟨rfl, hlo⟩ | hhi
          · have c3 : (lo : Int) ≤ p2 := by omega
            go_wp2_with fail
            refine (HM2.out _).mono ?_
            rintro e w1 ⟨rfl, rfl⟩
            go_wp2
            go_ret
            have h1 := HM3.out
            have hg := HG2.out q' h1 HN.out
            exact ⟨q', rfl, h1, hg.1, hg.2, by repeat' first | exact hB | refine Below.drew ?_⟩
          · have c3 : (hi : Int) < r' := by omega
            go_wp2_with fail
            refine (HM2.out _).mono ?_
            rintro e w1 ⟨rfl, rfl⟩
            go_wp2
            go_ret
            have h1 := HM3.out
            have hg := HG2.out q' h1 HN.out
            exact ⟨q', rfl, h1, hg.1, hg.2, by repeat' first | exact hB | refine Below.drew ?_⟩
--BRANCHEND
    clear hKK
    have KEY := Lib.hid key
    clear key
--REGION
    refine region_phase (T := [0, 1, 2, 3, 4, 5, 6, 7, 8, 9, 10, 11]) (slots := [31, 32, 33, 34, 35, 36, 37, 38, 39, 40, 41, 30]) (fuel := 4) (n := 12) (deps := [0, 0, 3, 4, 0, 0, 32, 80, 128, 0, 776, 1024, 2048, 2048, 8191, 32767]) (Tm := 4095) (Lm := 4095)
        (L := #[true, true, true, true, true, true, true, true, true, true, true, true, false, false, false, false])
        (V := Tab [.is (.slice (some ⟨bz, oz, none⟩) m cz), .is (.int .i64 n), .is (.pointer (some ⟨bz, oz + n, none⟩)), .is (.int .u64 p0), .is (.slice (some ⟨bz, oz, none⟩) m cz), .is (.int .i64 n), .is (.int .i64 k), .is (.pointer (some ⟨bz, oz + k, none⟩)), .is (.int .u64 p1), .is (.int .u64 d1), .is (.tuple #[.int .u64 (q0 : Int), .int .u64 (r0 : Int)]), .is (.tuple #[.int .u64 (q0 : Int), .int .u64 (r0 : Int)])] 0)
        (by kernel_rfl) rfl Tab.stable (by kernel_rfl) (by kernel_rfl) (by kernel_rfl) (by kernel_rfl) (by kernel_rfl) (by kernel_rfl) (by kernel_rfl) ?_ ?_
    · skip
      refine AllGo.cons rfl (fun E W hb hc hf hE hV => ⟨rfl, ?_⟩) ?_
      · have e1 : E (.tmp 0) = .slice (some ⟨bz, oz, none⟩) m cz := hE 0 (by kernel_rfl)
        clear hE hV
        exact Does.value (w' := W) (by go_simp) ⟨rfl, Below.refl _ _⟩
      refine AllGo.cons rfl (fun E W hb hc hf hE hV => ⟨rfl, ?_⟩) ?_
      · have e1 : E (.tmp 5) = .int .i64 n := hE 5 (by kernel_rfl)
        clear hE hV
        exact Does.value (w' := W) (by go_simp) ⟨rfl, Below.refl _ _⟩
      refine AllGo.cons rfl (fun E W hb hc hf hE hV => ⟨rfl, ?_⟩) ?_
      · have e1 : E (.tmp 31) = _ := hV 0 31 (by kernel_rfl) (by kernel_rfl) (by kernel_rfl)
        have e2 : E (.tmp 32) = _ := hV 1 32 (by kernel_rfl) (by kernel_rfl) (by kernel_rfl)
        clear hE hV
        exact Does.value (w' := W) (by go_simp) ⟨rfl, Below.refl _ _⟩
      refine AllGo.cons rfl (fun E W hb hc hf hE hV => ⟨rfl, ?_⟩) ?_
      · have e1 : E (.tmp 33) = _ := hV 2 33 (by kernel_rfl) (by kernel_rfl) (by kernel_rfl)
        have q := wcell hb z0
        clear hE hV
        exact Does.value (w' := W) (by go_simp) ⟨rfl, Below.refl _ _⟩
      refine AllGo.cons rfl (fun E W hb hc hf hE hV => ⟨rfl, ?_⟩) ?_
      · have e1 : E (.tmp 0) = .slice (some ⟨bz, oz, none⟩) m cz := hE 0 (by kernel_rfl)
        clear hE hV
        exact Does.value (w' := W) (by go_simp) ⟨rfl, Below.refl _ _⟩
      refine AllGo.cons rfl (fun E W hb hc hf hE hV => ⟨rfl, ?_⟩) ?_
      · have e1 : E (.tmp 5) = .int .i64 n := hE 5 (by kernel_rfl)
        clear hE hV
        exact Does.value (w' := W) (by go_simp) ⟨rfl, Below.refl _ _⟩
      refine AllGo.cons rfl (fun E W hb hc hf hE hV => ⟨rfl, ?_⟩) ?_
      · have e1 : E (.tmp 36) = _ := hV 5 36 (by kernel_rfl) (by kernel_rfl) (by kernel_rfl)
        clear hE hV
        exact Does.value (w' := W) (by go_simp) ⟨rfl, Below.refl _ _⟩
      refine AllGo.cons rfl (fun E W hb hc hf hE hV => ⟨rfl, ?_⟩) ?_
      · have e1 : E (.tmp 35) = _ := hV 4 35 (by kernel_rfl) (by kernel_rfl) (by kernel_rfl)
        have e2 : E (.tmp 37) = _ := hV 6 37 (by kernel_rfl) (by kernel_rfl) (by kernel_rfl)
        clear hE hV
        exact Does.value (w' := W) (by go_simp) ⟨rfl, Below.refl _ _⟩
      refine AllGo.cons rfl (fun E W hb hc hf hE hV => ⟨rfl, ?_⟩) ?_
      · have e1 : E (.tmp 38) = _ := hV 7 38 (by kernel_rfl) (by kernel_rfl) (by kernel_rfl)
        have q := wcell hb z1
        clear hE hV
        exact Does.value (w' := W) (by go_simp) ⟨rfl, Below.refl _ _⟩
      refine AllGo.cons rfl (fun E W hb hc hf hE hV => ⟨rfl, ?_⟩) ?_
      · have e1 : E (.tmp 6) = .int .u64 d1 := hE 6 (by kernel_rfl)
        clear hE hV
        exact Does.value (w' := W) (by go_simp) ⟨rfl, Below.refl _ _⟩
      refine AllGo.cons rfl (fun E W hb hc hf hE hV => ⟨rfl, ?_⟩) ?_
      · have e1 : E (.tmp 34) = _ := hV 3 34 (by kernel_rfl) (by kernel_rfl) (by kernel_rfl)
        have e2 : E (.tmp 39) = _ := hV 8 39 (by kernel_rfl) (by kernel_rfl) (by kernel_rfl)
        have e3 : E (.tmp 40) = _ := hV 9 40 (by kernel_rfl) (by kernel_rfl) (by kernel_rfl)
        clear hE hV
        exact Does.call (w' := W) (by go_simp) ((HD.out W).mono fun e w' ⟨h1, h2⟩ => ⟨_, h1, rfl, h2⟩)
      refine AllGo.cons rfl (fun E W hb hc hf hE hV => ⟨rfl, ?_⟩) ?_
      · have e1 : E (.tmp 41) = _ := hV 10 41 (by kernel_rfl) (by kernel_rfl) (by kernel_rfl)
        clear hE hV
        exact Does.value (w' := W) (by go_simp) ⟨rfl, Below.refl _ _⟩
      exact AllGo.nil
--END
    · intro f W hf hb
      have e41 : f 30 = .tuple #[.int .u64 (q0 : Int), .int .u64 (r0 : Int)] := hf (11, 30) (by simp)
      have z2 := wcell hb z2
      have HB := Lib.hid (below_step HB0 hb)
      clear hf hb
      simp only [fillSlots]
--ORDER
      refine wpAny_ready (rs := [12, 13]) (by kernel_rfl) (by simp) ?_
      refine AllReady.cons rfl (fun K hK => ?_) (AllReady.cons rfl (fun K hK => ?_) AllReady.nil)
      · go_simp
        refine hK _ _ ?_; clear hK K
        refine wpAny_ready (rs := [13, 14]) (by kernel_rfl) (by simp) ?_
        refine AllReady.cons rfl (fun K hK => ?_) (AllReady.cons rfl (fun K hK => ?_) AllReady.nil)
        · go_simp
          refine hK _ _ ?_; clear hK K
          refine wpAny_ready (rs := [14]) (by kernel_rfl) (by simp) ?_
          refine AllReady.cons rfl (fun K hK => ?_) AllReady.nil
          go_simp
          refine hK _ _ ?_; clear hK K
          refine wpAny_ready (rs := [15]) (by kernel_rfl) (by simp) ?_
          refine AllReady.cons rfl (fun K hK => ?_) AllReady.nil
          go_simp
          refine hK _ _ ?_; clear hK K
          refine wpAny_done (by kernel_rfl) ?_ _
          exact KEY.out _ _ _ _ _ _ _ _ _ _ _ _ _ _ _ _ _ _ _ _ _ _ _ _ _ _ _ _ _ _ _ _ _ _ _ _ _ _ _ _ _ _ _ _ _ _ _ _ _ _ _ _ _ _ _ _ _ _ _ _ _ _ _ _ _ _ _ _ _ _ HB.out z2
        · go_simp
          refine hK _ _ ?_; clear hK K
          refine wpAny_ready (rs := [13]) (by kernel_rfl) (by simp) ?_
          refine AllReady.cons rfl (fun K hK => ?_) AllReady.nil
          go_simp
          refine hK _ _ ?_; clear hK K
          refine wpAny_ready (rs := [15]) (by kernel_rfl) (by simp) ?_
          refine AllReady.cons rfl (fun K hK => ?_) AllReady.nil
          go_simp
          refine hK _ _ ?_; clear hK K
          refine wpAny_done (by kernel_rfl) ?_ _
          exact KEY.out _ _ _ _ _ _ _ _ _ _ _ _ _ _ _ _ _ _ _ _ _ _ _ _ _ _ _ _ _ _ _ _ _ _ _ _ _ _ _ _ _ _ _ _ _ _ _ _ _ _ _ _ _ _ _ _ _ _ _ _ _ _ _ _ _ _ _ _ _ _ HB.out z2
      · go_simp
        refine hK _ _ ?_; clear hK K
        refine wpAny_ready (rs := [12]) (by kernel_rfl) (by simp) ?_
        refine AllReady.cons rfl (fun K hK => ?_) AllReady.nil
        go_simp
        refine hK _ _ ?_; clear hK K
        refine wpAny_ready (rs := [14]) (by kernel_rfl) (by simp) ?_
        refine AllReady.cons rfl (fun K hK => ?_) AllReady.nil
        go_simp
        refine hK _ _ ?_; clear hK K
        refine wpAny_ready (rs := [15]) (by kernel_rfl) (by simp) ?_
        refine AllReady.cons rfl (fun K hK => ?_) AllReady.nil
        go_simp
        refine hK _ _ ?_; clear hK K
        refine wpAny_done (by kernel_rfl) ?_ _
        exact KEY.out _ _ _ _ _ _ _ _ _ _ _ _ _ _ _ _ _ _ _ _ _ _ _ _ _ _ _ _ _ _ _ _ _ _ _ _ _ _ _ _ _ _ _ _ _ _ _ _ _ _ _ _ _ _ _ _ _ _ _ _ _ _ _ _ _ _ _ _ _ _ HB.out z2
--ORDEREND
end Go.Proofs.YtfjjmhbffbhhdaaDoor
