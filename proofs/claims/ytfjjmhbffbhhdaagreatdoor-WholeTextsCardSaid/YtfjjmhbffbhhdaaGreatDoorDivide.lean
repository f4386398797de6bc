/- A guess at a digit of a quotient: right, or one too great. -/
import Derived.Test.YtfjjmhbffbhhdaaGreatDoorDiv64
import Derived.Test.YtfjjmhbffbhhdaaGreatDoorSum
import Derived.Test.YtfjjmhbffbhhdaaGreatDoorDivS
import Derived.Test.YtfjjmhbffbhhdaaGreatDoorMove
namespace Go.Proofs.YtfjjmhbffbhhdaaGreatDoor
open Go.RowKit

structure GuessInv (b p p2 d1 d2 q r : Nat) : Prop where
  eq : q * d1 + r = p
  rest : r < b
  most : q < b
  over : p * b + p2 < (q + 1) * (d1 * b + d2)
theorem GuessInv.step {b p p2 d1 d2 q r : Nat} (h : GuessInv b p p2 d1 d2 q r) (hc : r * b + p2 < q * d2) (hr : r + d1 < b) : GuessInv b p p2 d1 d2 (q - 1) (r + d1) := by
  have hp : 0 < q := by
    rcases Nat.eq_zero_or_pos q with h0 | h0
    · rw [h0, Nat.zero_mul] at hc; omega
    · exact h0
  have hl := guess_over h.eq hc
  have he := h.eq
  have hm := h.most
  obtain ⟨k, rfl⟩ : ∃ k, q = k + 1 := ⟨q - 1, by omega⟩
  rw [Nat.add_sub_cancel]
  exact ⟨by rw [← he, Nat.add_mul]; omega, hr, by omega, hl⟩
theorem GuessInv.done {b p p2 d1 d2 q r : Nat} (h : GuessInv b p p2 d1 d2 q r) (hc : q * d2 ≤ r * b + p2) : q = (p * b + p2) / (d1 * b + d2) :=
  (Nat.div_eq_of_lt_le (guess_fits h.eq hc) h.over).symm
theorem GuessInv.last {b p p2 d1 d2 q r : Nat} (h : GuessInv b p p2 d1 d2 q r) (h2 : d2 < b) (hc : r * b + p2 < q * d2) (hr : b ≤ r + d1) : q - 1 = (p * b + p2) / (d1 * b + d2) := by
  have hp : 0 < q := by
    rcases Nat.eq_zero_or_pos q with h0 | h0
    · rw [h0, Nat.zero_mul] at hc; omega
    · exact h0
  have hl := guess_over h.eq hc
  have he := h.eq
  have hm := h.most
  obtain ⟨k, rfl⟩ : ∃ k, q = k + 1 := ⟨q - 1, by omega⟩
  rw [Nat.add_sub_cancel]
  refine (Nat.div_eq_of_lt_le (guess_fits (r := r + d1) (by rw [← he, Nat.add_mul]; omega) ?_) hl).symm
  have h1 : k * d2 ≤ b * b := Nat.mul_le_mul (by omega) (by omega)
  have h3 : b * b ≤ (r + d1) * b := Nat.mul_le_mul_right _ hr
  omega

theorem guess_of {b j : Nat} {zs xs : List Nat} (hb : 2 ≤ b) (hz : zs.length = j + 3) (hx : xs.length = j + 2) (hZ : ∀ x ∈ zs, x < b) (hX : ∀ x ∈ xs, x < b) (htop : b ≤ 2 * xs.getD (j + 1) 0) (hlt : val b zs < b * val b xs) :
    (∀ g, xs.getD (j + 1) 0 ≤ zs.getD (j + 2) 0 → g = b - 1 → val b zs / val b xs ≤ g ∧ g ≤ val b zs / val b xs + 1) ∧
    (∀ g, g < b → g = ((zs.getD (j + 2) 0 * b + zs.getD (j + 1) 0) * b + zs.getD j 0) / (xs.getD (j + 1) 0 * b + xs.getD j 0) → val b zs / val b xs ≤ g ∧ g ≤ val b zs / val b xs + 1) := by
  have ez : val b zs = val b (zs.take j) + b ^ j * zs.getD j 0 + b ^ (j + 1) * zs.getD (j + 1) 0 + b ^ (j + 2) * zs.getD (j + 2) 0 := by
    rw [← val_take_succ', ← val_take_succ', ← val_take_succ', List.take_of_length_le (by omega)]
  have ex : val b xs = val b (xs.take j) + b ^ j * xs.getD j 0 + b ^ (j + 1) * xs.getD (j + 1) 0 := by
    rw [← val_take_succ', ← val_take_succ', List.take_of_length_le (by omega)]
  have ex1 : val b xs = val b (xs.take (j + 1)) + b ^ (j + 1) * xs.getD (j + 1) 0 := by
    rw [← val_take_succ', List.take_of_length_le (by omega)]
  have lz := val_take_lt b zs j hZ (by omega)
  have lx := val_take_lt b xs j hX (by omega)
  have lx1 := val_take_lt b xs (j + 1) hX (by omega)
  have hj : 0 < b ^ j := Nat.pow_pos (by omega)
  constructor
  · rintro g hle rfl
    refine guess_top (K := b ^ (j + 1)) (d1 := xs.getD (j + 1) 0) (dl := val b (xs.take (j + 1))) hb (by rw [ex1, Nat.mul_comm (b ^ (j + 1))]; omega) lx1 htop ?_ hlt
    have h1 : b ^ (j + 2) * xs.getD (j + 1) 0 ≤ b ^ (j + 2) * zs.getD (j + 2) 0 := Nat.mul_le_mul_left _ hle
    have h2 : xs.getD (j + 1) 0 * b * b ^ (j + 1) = b ^ (j + 2) * xs.getD (j + 1) 0 := by
      rw [Nat.pow_succ b (j + 1)]; grind
    omega
  · rintro g hg he
    rw [he]
    refine guess_near (K := b ^ j) hj (pl := val b (zs.take j)) (dl := val b (xs.take j)) ?_ lz ?_ lx ?_ ?_
    · rw [ez, Nat.pow_succ b (j + 1), Nat.pow_succ b j]; grind
    · rw [ex, Nat.pow_succ b j]; grind
    · have : 0 < xs.getD (j + 1) 0 * b := Nat.mul_pos (by omega) (by omega)
      omega
    · rw [← he]
      have : 1 * b ≤ xs.getD (j + 1) 0 * b := Nat.mul_le_mul_right _ (by omega)
      omega

def RetG (W : World) (q : Nat) : Ending → World → Prop := fun e w' => ∃ g : Nat, e = .returned (.int .u64 (g : Int)) ∧ g < 2 ^ 64 ∧ q ≤ g ∧ g ≤ q + 1 ∧ Below W.heap.size W w'

set_option maxRecDepth 100000 in
set_option maxHeartbeats 4000000 in
theorem guess_any (bz oz cz bx ox cx n m : Nat) (zs xs : List Nat) (w : World) (hm : m = n + 1) (hz : zs.length = m) (hx : xs.length = n) (hn : 2 ≤ n) (hl : n ≤ 4000000)
    (h1 : At w .u64 bz oz zs) (h2 : At w .u64 bx ox xs) (hZ : ∀ x ∈ zs, x < 2 ^ 64) (hX : ∀ x ∈ xs, x < 2 ^ 64) (htop : 2 ^ 63 ≤ xs.getD (n - 1) 0) (hlt : val (2 ^ 64) zs < 2 ^ 64 * val (2 ^ 64) xs) :
    Calls Tryz.prog 93 #[.slice (some ⟨bz, oz, none⟩) m cz, .slice (some ⟨bx, ox, none⟩) n cx] w (RetG w (val (2 ^ 64) zs / val (2 ^ 64) xs)) := by
  obtain ⟨j, rfl⟩ : ∃ j, n = j + 2 := ⟨n - 2, by omega⟩
  rw [show j + 2 - 1 = j + 1 from rfl] at htop
  obtain ⟨G1, G2⟩ := guess_of (by omega) (by omega) hx hZ hX (by omega) hlt
  generalize val (2 ^ 64) zs / val (2 ^ 64) xs = Q at *
  have z0 := h1 (j + 2) (by omega)
  have z1 := h1 (j + 1) (by omega)
  have z2 := h1 j (by omega)
  have x1 := h2 (j + 1) (by omega)
  have x2 := h2 j (by omega)
  have a0 := getD_lt hZ (by omega) (j + 2)
  have a1 := getD_lt hZ (by omega) (j + 1)
  have a2 := getD_lt hZ (by omega) j
  have b1 := getD_lt hX (by omega) (j + 1)
  have b2 := getD_lt hX (by omega) j
  generalize zs.getD (j + 2) 0 = p0 at *
  generalize zs.getD (j + 1) 0 = p1 at *
  generalize zs.getD j 0 = p2 at *
  generalize xs.getD (j + 1) 0 = d1 at *
  generalize xs.getD j 0 = d2 at *
  have HM := Lib.hid hm
  have e1 : ((j + 2 : Nat) : Int) - 1 = ((j + 1 : Nat) : Int) := by omega
  have e2 : ((j + 2 : Nat) : Int) - 2 = ((j : Nat) : Int) := by omega
  have i1 : ((j + 2 : Nat) : Int) < m := by omega
  have i2 : ((j + 1 : Nat) : Int) < m := by omega
  have i3 : ((j : Nat) : Int) < m := by omega
  obtain ⟨k, hk⟩ : ∃ k, k = j + 1 := ⟨_, rfl⟩
  obtain ⟨n, hn⟩ : ∃ n, n = j + 2 := ⟨_, rfl⟩
  have i4 : (k : Int) < n := by omega
  have i5 : (j : Int) < n := by omega
  have i6 : (n : Int) ≤ 4000002 := by omega
  rw [← hk] at e1 i2 z1 x1
  rw [← hn] at e1 e2 i1 z0 ⊢
  have i7 : IntKind.i64.wrap (k : Int) = (k : Int) := by rw [IntKind.wrap_i64]; omega
  have i8 : IntKind.i64.wrap (j : Int) = (j : Int) := by rw [IntKind.wrap_i64]; omega
  have A0 := Lib.hid a0; have A1 := Lib.hid a1; have A2 := Lib.hid a2; have B1 := Lib.hid b1; have B2 := Lib.hid b2; have HT := Lib.hid htop
  have HG1 := Lib.hid G1; have HG2 := Lib.hid G2
  clear h1 h2 hZ hX hz hx hlt hm hk hn hl G1 G2 a0 a1 a2 b1 b2 htop
  go_enter Tryz.func93, Tryz.ntmps93
  go_wp2
  go_big_region
  by_cases hcmp : d1 ≤ p0
  · have c1 : (d1 : Int) ≤ p0 := by omega
    have HF := Lib.hid (HG1.out (2 ^ 64 - 1) hcmp rfl)
    clear hcmp
    go_wp2
    go_ret
    exact ⟨2 ^ 64 - 1, rfl, by omega, HF.out.1, HF.out.2, (Below.refl _ _).drew⟩
  · have c1 : ¬ (d1 : Int) ≤ p0 := by omega
    have HD := Lib.hid (div64_any p0 p1 d1 (by omega) B1.out A1.out)
    obtain ⟨q0, hq0⟩ : ∃ q0, q0 = (p0 * 2 ^ 64 + p1) / d1 := ⟨_, rfl⟩
    obtain ⟨r0, hr0⟩ : ∃ r0, r0 = (p0 * 2 ^ 64 + p1) % d1 := ⟨_, rfl⟩
    rw [← hq0, ← hr0] at HD
    have HI : Hid (GuessInv (2 ^ 64) (p0 * 2 ^ 64 + p1) p2 d1 d2 q0 r0) := by
      refine Lib.hid ⟨?_, ?_, ?_, ?_⟩
      · rw [hq0, hr0, Nat.mul_comm]; exact Nat.div_add_mod _ _
      · rw [hr0]; have := Nat.mod_lt (p0 * 2 ^ 64 + p1) (show 0 < d1 by omega); have := B1.out; omega
      · rw [hq0]; exact word_digit (by omega) A1.out
      · rw [hq0]; exact guess_start (by omega) A2.out
    clear hq0 hr0
    clear hcmp
    have HB0 : Below w.heap.size w w.drew := (Below.refl _ _).drew
    go_wp2
    rename_i K hKK
--KEY
    have key : ∀ (u2 u3 u10 u11 u12 u13 u14 u15 u16 u17 u18 u19 u20 u21 u22 u23 u24 u25 u26 u27 u28 u29 u30 u31 u32 u33 u34 u35 u36 u37 u38 u39 u40 u41 u42 u43 u44 u45 u46 u47 u48 u49 u50 u51 u52 u53 u54 u55 u56 u57 u58 u59 u60 u61 u62 u63 u64 u65 u66 u67 u68 u69 u70 u71 u72 u73 u74 u75 u76 : Value) (W : World), Below w.heap.size w W → W.cell? ⟨bz, oz + j, none⟩ = some (.int .u64 (p2 : Int)) → K { tmps := #[.slice (some ⟨bz, oz, none⟩) m cz, .slice (some ⟨bx, ox, none⟩) n cx, u2, u3, .int .u64 0, .int .i64 n, .int .u64 d1, .int .u64 d2, .int .u64 (q0 : Int), .int .u64 (r0 : Int), u10, u11, u12, u13, u14, u15, u16, u17, u18, u19, u20, u21, u22, u23, u24, u25, u26, u27, u28, u29, u30, u31, u32, u33, u34, u35, u36, u37, u38, u39, u40, u41, u42, u43, u44, u45, u46, u47, u48, u49, u50, u51, u52, u53, u54, u55, u56, u57, u58, u59, u60, u61, u62, u63, u64, u65, u66, u67, u68, u69, u70, u71, u72, u73, u74, u75, u76], defers := [] } W := by
      intro u2 u3 u10 u11 u12 u13 u14 u15 u16 u17 u18 u19 u20 u21 u22 u23 u24 u25 u26 u27 u28 u29 u30 u31 u32 u33 u34 u35 u36 u37 u38 u39 u40 u41 u42 u43 u44 u45 u46 u47 u48 u49 u50 u51 u52 u53 u54 u55 u56 u57 u58 u59 u60 u61 u62 u63 u64 u65 u66 u67 u68 u69 u70 u71 u72 u73 u74 u75 u76 W hB z2
--KEYEND
      have HB := Lib.hid hB
      refine hKK _ _ ?_
      clear hKK hB z0 z1 x1 x2 i1 i2 i4 i5 e1 c1 HB0 i7 HD
      go_wp2
      go_loopw [8, 9] (fun a c wr => ∃ q' r' : Nat, a = .int .u64 (q' : Int) ∧ c = .int .u64 (r' : Int) ∧ Below w.heap.size w wr ∧ wr.cell? ⟨bz, oz + j, none⟩ = some (.int .u64 (p2 : Int)) ∧ Hid (GuessInv (2 ^ 64) (p0 * 2 ^ 64 + p1) p2 d1 d2 q' r')) (fun a _ _ => (intOf a).toNat)
      case atStart => exact ⟨_, _, rfl, rfl, HB.out, z2, HI⟩
      case round =>
        clear z2 HI HB
        obtain ⟨q', r', rfl, rfl, hB, z2, HI⟩ := hrel
        have hr2 := HI.out.rest
        have hm2 := HI.out.most
        have hmd := Nat.mod_add_div (q' * d2) (2 ^ 64)
        have hmdl := Nat.mod_lt (q' * d2) (by omega : 0 < 2 ^ 64)
        have HM2 := Lib.hid (mul64_any q' d2 (q' * d2 / 2 ^ 64) (q' * d2 % 2 ^ 64) hm2 B2.out hmd.symm hmdl)
        have HC := Lib.hid (Nat.lt_or_ge (r' * 2 ^ 64 + p2) (q' * d2))
        have HD3 := Lib.hid (fun h => HI.out.done h)
        have HS3 := Lib.hid (fun h => HI.out.step h)
        have HL3 := Lib.hid (fun h => HI.out.last B2.out h)
        have HP := Lib.hid (fun (h : r' * 2 ^ 64 + p2 < q' * d2) => (show 0 < q' from by
          rcases Nat.eq_zero_or_pos q' with h0 | h0
          · rw [h0, Nat.zero_mul] at h; omega
          · exact h0))
        generalize q' * d2 % 2 ^ 64 = lo at *
        generalize q' * d2 / 2 ^ 64 = hi at *
        generalize q' * d2 = p at *
        have HMD := Lib.hid hmd; have HLO := Lib.hid hmdl; have HR2 := Lib.hid hr2; have HM3 := Lib.hid hm2
        clear hmd hmdl hr2 hm2 HI
--BRANCH
        rcases HC.out with hc | hc
        · have hp := HP.out hc
          obtain ⟨q5, hq5⟩ : ∃ q5, q5 = q' - 1 := ⟨_, rfl⟩
          obtain ⟨r5, hr5⟩ : ∃ r5, r5 = (r' + d1) % 2 ^ 64 := ⟨_, rfl⟩
          have wq : IntKind.u64.wrap ((q' : Int) - 1) = (q5 : Int) := wrap_at (by have := HM3.out; omega)
          have wr5 : IntKind.u64.wrap ((r' : Int) + d1) = (r5 : Int) := wrap_at (by omega)
          have hcs : (hi = r' ∧ p2 < lo) ∨ r' < hi := by
            have h1 := HMD.out; have h2 := HLO.out; have h3 := HR2.out; have h4 := A2.out
            omega
          have hov : (r' + d1 < 2 ^ 64 ∧ ¬ (r5 : Int) < d1) ∨ (2 ^ 64 ≤ r' + d1 ∧ (r5 : Int) < d1) := by
            have h3 := HR2.out; have h4 := B1.out
            rw [hr5]
            rcases Nat.lt_or_ge (r' + d1) (2 ^ 64) with h | h
            · left; rw [Nat.mod_eq_of_lt h]; exact ⟨h, by omega⟩
            · right; refine ⟨h, ?_⟩; omega
          have HS := Lib.hid (HS3.out hc)
          have HL := Lib.hid (HL3.out hc)
          have HRE := Lib.hid hr5
          have HQE := Lib.hid hq5
          rw [← hq5] at HS HL
          have HHP := Lib.hid hp
          clear hc hp hr5 hq5 HS3 HL3 HD3 HC HP
          rcases hcs with ⟨rfl, hlo⟩ | hhi
          · have c3 : ¬ (lo : Int) ≤ p2 := by omega
            clear hlo
            rcases hov with ⟨ho, co⟩ | ⟨ho, co⟩
            · have HN := Lib.hid (HS.out ho)
              clear HS HL
              go_wp2_with fail
              refine (HM2.out _).mono ?_
              rintro e w1 ⟨rfl, rfl⟩
              go_wp2
              go_roundw
              case rel => exact ⟨q5, r5, rfl, rfl, by repeat' first | exact hB | refine Below.drew ?_, by simpa [go_sem] using z2, by rw [HRE.out, Nat.mod_eq_of_lt ho]; exact HN⟩
              case measure => have h1 := HQE.out; have h2 := HHP.out; simp [intOf]; omega
            · have HN := Lib.hid (HL.out ho)
              clear HS HL
              go_wp2_with fail
              refine (HM2.out _).mono ?_
              rintro e w1 ⟨rfl, rfl⟩
              go_wp2
              go_ret
              have h1 := HM3.out; have h2 := HQE.out; have h3 := HHP.out
              have hg := HG2.out q5 (by omega) HN.out
              exact ⟨q5, rfl, by omega, hg.1, hg.2, by repeat' first | exact hB | refine Below.drew ?_⟩
          · have c1 : ¬ (hi : Int) < r' := by omega
            have c2 : ((hi : Int) == r') = false := beq_eq_false_iff_ne.2 (by omega)
            have c4 : ¬ hi < r' := by omega
            have c5 : ¬ hi = r' := by omega
            clear hhi
            rcases hov with ⟨ho, co⟩ | ⟨ho, co⟩
            · have HN := Lib.hid (HS.out ho)
              clear HS HL
              go_wp2_with fail
              refine (HM2.out _).mono ?_
              rintro e w1 ⟨rfl, rfl⟩
              go_wp2
              go_roundw
              case rel => exact ⟨q5, r5, rfl, rfl, by repeat' first | exact hB | refine Below.drew ?_, by simpa [go_sem] using z2, by rw [HRE.out, Nat.mod_eq_of_lt ho]; exact HN⟩
              case measure => have h1 := HQE.out; have h2 := HHP.out; simp [intOf]; omega
            · have HN := Lib.hid (HL.out ho)
              clear HS HL
              go_wp2_with fail
              refine (HM2.out _).mono ?_
              rintro e w1 ⟨rfl, rfl⟩
              go_wp2
              go_ret
              have h1 := HM3.out; have h2 := HQE.out; have h3 := HHP.out
              have hg := HG2.out q5 (by omega) HN.out
              exact ⟨q5, rfl, by omega, hg.1, hg.2, by repeat' first | exact hB | refine Below.drew ?_⟩
        · have HN := Lib.hid (HD3.out hc)
          have hcs : (hi = r' ∧ lo ≤ p2) ∨ hi < r' := by
            have h1 := HMD.out; have h2 := HLO.out; have h3 := HR2.out; have h4 := A2.out
            omega
          clear hc HS3 HL3 HD3 HC HP
          rcases hcs with ⟨rfl, hlo⟩ | hhi
          · have c3 : (lo : Int) ≤ p2 := by omega
            go_wp2_with fail
            refine (HM2.out _).mono ?_
            rintro e w1 ⟨rfl, rfl⟩
            go_wp2
            go_ret
            have h1 := HM3.out
            have hg := HG2.out q' h1 HN.out
            exact ⟨q', rfl, h1, hg.1, hg.2, by repeat' first | exact hB | refine Below.drew ?_⟩
          · have c3 : (hi : Int) < r' := by omega
            go_wp2_with fail
            refine (HM2.out _).mono ?_
            rintro e w1 ⟨rfl, rfl⟩
            go_wp2
            go_ret
            have h1 := HM3.out
            have hg := HG2.out q' h1 HN.out
            exact ⟨q', rfl, h1, hg.1, hg.2, by repeat' first | exact hB | refine Below.drew ?_⟩
--BRANCHEND
    clear hKK
    have KEY := Lib.hid key
    clear key
--REGION
    refine region_phase (T := [0, 1, 2, 3, 4, 5, 6, 7, 8, 9, 10, 11]) (slots := [31, 32, 33, 34, 35, 36, 37, 38, 39, 40, 41, 30]) (fuel := 4) (n := 12) (deps := [0, 0, 3, 4, 0, 0, 32, 80, 128, 0, 776, 1024, 2048, 2048, 8191, 32767]) (Tm := 4095) (Lm := 4095)
        (L := #[true, true, true, true, true, true, true, true, true, true, true, true, false, false, false, false])
        (V := Tab [.is (.slice (some ⟨bz, oz, none⟩) m cz), .is (.int .i64 n), .is (.pointer (some ⟨bz, oz + n, none⟩)), .is (.int .u64 p0), .is (.slice (some ⟨bz, oz, none⟩) m cz), .is (.int .i64 n), .is (.int .i64 k), .is (.pointer (some ⟨bz, oz + k, none⟩)), .is (.int .u64 p1), .is (.int .u64 d1), .is (.tuple #[.int .u64 (q0 : Int), .int .u64 (r0 : Int)]), .is (.tuple #[.int .u64 (q0 : Int), .int .u64 (r0 : Int)])] 0)
        (by kernel_rfl) rfl Tab.stable (by kernel_rfl) (by kernel_rfl) (by kernel_rfl) (by kernel_rfl) (by kernel_rfl) (by kernel_rfl) (by kernel_rfl) ?_ ?_
    · skip
      refine AllGo.cons rfl (fun E W hb hc hf hE hV => ⟨rfl, ?_⟩) ?_
      · have e1 : E (.tmp 0) = .slice (some ⟨bz, oz, none⟩) m cz := hE 0 (by kernel_rfl)
        clear hE hV
        exact Does.value (w' := W) (by go_simp) ⟨rfl, Below.refl _ _⟩
      refine AllGo.cons rfl (fun E W hb hc hf hE hV => ⟨rfl, ?_⟩) ?_
      · have e1 : E (.tmp 5) = .int .i64 n := hE 5 (by kernel_rfl)
        clear hE hV
        exact Does.value (w' := W) (by go_simp) ⟨rfl, Below.refl _ _⟩
      refine AllGo.cons rfl (fun E W hb hc hf hE hV => ⟨rfl, ?_⟩) ?_
      · have e1 : E (.tmp 31) = _ := hV 0 31 (by kernel_rfl) (by kernel_rfl) (by kernel_rfl)
        have e2 : E (.tmp 32) = _ := hV 1 32 (by kernel_rfl) (by kernel_rfl) (by kernel_rfl)
        clear hE hV
        exact Does.value (w' := W) (by go_simp) ⟨rfl, Below.refl _ _⟩
      refine AllGo.cons rfl (fun E W hb hc hf hE hV => ⟨rfl, ?_⟩) ?_
      · have e1 : E (.tmp 33) = _ := hV 2 33 (by kernel_rfl) (by kernel_rfl) (by kernel_rfl)
        have q := wcell hb z0
        clear hE hV
        exact Does.value (w' := W) (by go_simp) ⟨rfl, Below.refl _ _⟩
      refine AllGo.cons rfl (fun E W hb hc hf hE hV => ⟨rfl, ?_⟩) ?_
      · have e1 : E (.tmp 0) = .slice (some ⟨bz, oz, none⟩) m cz := hE 0 (by kernel_rfl)
        clear hE hV
        exact Does.value (w' := W) (by go_simp) ⟨rfl, Below.refl _ _⟩
      refine AllGo.cons rfl (fun E W hb hc hf hE hV => ⟨rfl, ?_⟩) ?_
      · have e1 : E (.tmp 5) = .int .i64 n := hE 5 (by kernel_rfl)
        clear hE hV
        exact Does.value (w' := W) (by go_simp) ⟨rfl, Below.refl _ _⟩
      refine AllGo.cons rfl (fun E W hb hc hf hE hV => ⟨rfl, ?_⟩) ?_
      · have e1 : E (.tmp 36) = _ := hV 5 36 (by kernel_rfl) (by kernel_rfl) (by kernel_rfl)
        clear hE hV
        exact Does.value (w' := W) (by go_simp) ⟨rfl, Below.refl _ _⟩
      refine AllGo.cons rfl (fun E W hb hc hf hE hV => ⟨rfl, ?_⟩) ?_
      · have e1 : E (.tmp 35) = _ := hV 4 35 (by kernel_rfl) (by kernel_rfl) (by kernel_rfl)
        have e2 : E (.tmp 37) = _ := hV 6 37 (by kernel_rfl) (by kernel_rfl) (by kernel_rfl)
        clear hE hV
        exact Does.value (w' := W) (by go_simp) ⟨rfl, Below.refl _ _⟩
      refine AllGo.cons rfl (fun E W hb hc hf hE hV => ⟨rfl, ?_⟩) ?_
      · have e1 : E (.tmp 38) = _ := hV 7 38 (by kernel_rfl) (by kernel_rfl) (by kernel_rfl)
        have q := wcell hb z1
        clear hE hV
        exact Does.value (w' := W) (by go_simp) ⟨rfl, Below.refl _ _⟩
      refine AllGo.cons rfl (fun E W hb hc hf hE hV => ⟨rfl, ?_⟩) ?_
      · have e1 : E (.tmp 6) = .int .u64 d1 := hE 6 (by kernel_rfl)
        clear hE hV
        exact Does.value (w' := W) (by go_simp) ⟨rfl, Below.refl _ _⟩
      refine AllGo.cons rfl (fun E W hb hc hf hE hV => ⟨rfl, ?_⟩) ?_
      · have e1 : E (.tmp 34) = _ := hV 3 34 (by kernel_rfl) (by kernel_rfl) (by kernel_rfl)
        have e2 : E (.tmp 39) = _ := hV 8 39 (by kernel_rfl) (by kernel_rfl) (by kernel_rfl)
        have e3 : E (.tmp 40) = _ := hV 9 40 (by kernel_rfl) (by kernel_rfl) (by kernel_rfl)
        clear hE hV
        exact Does.call (w' := W) (by go_simp) ((HD.out W).mono fun e w' ⟨h1, h2⟩ => ⟨_, h1, rfl, h2⟩)
      refine AllGo.cons rfl (fun E W hb hc hf hE hV => ⟨rfl, ?_⟩) ?_
      · have e1 : E (.tmp 41) = _ := hV 10 41 (by kernel_rfl) (by kernel_rfl) (by kernel_rfl)
        clear hE hV
        exact Does.value (w' := W) (by go_simp) ⟨rfl, Below.refl _ _⟩
      exact AllGo.nil
--END
    · intro f W hf hb
      have e41 : f 30 = .tuple #[.int .u64 (q0 : Int), .int .u64 (r0 : Int)] := hf (11, 30) (by simp)
      have z2 := wcell hb z2
      have HB := Lib.hid (below_step HB0 hb)
      clear hf hb
      simp only [fillSlots]
--ORDER
      refine wpAny_ready (rs := [12, 13]) (by kernel_rfl) (by simp) ?_
      refine AllReady.cons rfl (fun K hK => ?_) (AllReady.cons rfl (fun K hK => ?_) AllReady.nil)
      · go_simp
        refine hK _ _ ?_; clear hK K
        refine wpAny_ready (rs := [13, 14]) (by kernel_rfl) (by simp) ?_
        refine AllReady.cons rfl (fun K hK => ?_) (AllReady.cons rfl (fun K hK => ?_) AllReady.nil)
        · go_simp
          refine hK _ _ ?_; clear hK K
          refine wpAny_ready (rs := [14]) (by kernel_rfl) (by simp) ?_
          refine AllReady.cons rfl (fun K hK => ?_) AllReady.nil
          go_simp
          refine hK _ _ ?_; clear hK K
          refine wpAny_ready (rs := [15]) (by kernel_rfl) (by simp) ?_
          refine AllReady.cons rfl (fun K hK => ?_) AllReady.nil
          go_simp
          refine hK _ _ ?_; clear hK K
          refine wpAny_done (by kernel_rfl) ?_ _
          exact KEY.out _ _ _ _ _ _ _ _ _ _ _ _ _ _ _ _ _ _ _ _ _ _ _ _ _ _ _ _ _ _ _ _ _ _ _ _ _ _ _ _ _ _ _ _ _ _ _ _ _ _ _ _ _ _ _ _ _ _ _ _ _ _ _ _ _ _ _ _ _ _ HB.out z2
        · go_simp
          refine hK _ _ ?_; clear hK K
          refine wpAny_ready (rs := [13]) (by kernel_rfl) (by simp) ?_
          refine AllReady.cons rfl (fun K hK => ?_) AllReady.nil
          go_simp
          refine hK _ _ ?_; clear hK K
          refine wpAny_ready (rs := [15]) (by kernel_rfl) (by simp) ?_
          refine AllReady.cons rfl (fun K hK => ?_) AllReady.nil
          go_simp
          refine hK _ _ ?_; clear hK K
          refine wpAny_done (by kernel_rfl) ?_ _
          exact KEY.out _ _ _ _ _ _ _ _ _ _ _ _ _ _ _ _ _ _ _ _ _ _ _ _ _ _ _ _ _ _ _ _ _ _ _ _ _ _ _ _ _ _ _ _ _ _ _ _ _ _ _ _ _ _ _ _ _ _ _ _ _ _ _ _ _ _ _ _ _ _ HB.out z2
      · go_simp
        refine hK _ _ ?_; clear hK K
        refine wpAny_ready (rs := [12]) (by kernel_rfl) (by simp) ?_
        refine AllReady.cons rfl (fun K hK => ?_) AllReady.nil
        go_simp
        refine hK _ _ ?_; clear hK K
        refine wpAny_ready (rs := [14]) (by kernel_rfl) (by simp) ?_
        refine AllReady.cons rfl (fun K hK => ?_) AllReady.nil
        go_simp
        refine hK _ _ ?_; clear hK K
        refine wpAny_ready (rs := [15]) (by kernel_rfl) (by simp) ?_
        refine AllReady.cons rfl (fun K hK => ?_) AllReady.nil
        go_simp
        refine hK _ _ ?_; clear hK K
        refine wpAny_done (by kernel_rfl) ?_ _
        exact KEY.out _ _ _ _ _ _ _ _ _ _ _ _ _ _ _ _ _ _ _ _ _ _ _ _ _ _ _ _ _ _ _ _ _ _ _ _ _ _ _ _ _ _ _ _ _ _ _ _ _ _ _ _ _ _ _ _ _ _ _ _ _ _ _ _ _ _ _ _ _ _ HB.out z2
--ORDEREND
end Go.Proofs.YtfjjmhbffbhhdaaGreatDoor

/- Long division of rows. -/
namespace Go.Proofs.YtfjjmhbffbhhdaaGreatDoor
open Go.RowKit

theorem long_start {xs ys dv rs0 : List Nat} {lx n s t : Nat} (hx : xs.length = lx) (hy : ys.length = n) (hX : ∀ x ∈ xs, x < 2 ^ 64) (hY : ∀ x ∈ ys, x < 2 ^ 64) (hn : 2 ≤ n) (hle : n ≤ lx) (ht : ys.getD (n - 1) 0 = t) (ht0 : t ≠ 0) (hs : 64 - bitLen t = s)
    (hdl : dv.length = n + 1) (hdX : ∀ x ∈ dv, x < 2 ^ 64) (hdv : val (2 ^ 64) dv = val (2 ^ 64) ys * 2 ^ s) (hrl : rs0.length = lx + 1) (hrX : ∀ x ∈ rs0, x < 2 ^ 64) (hrv : val (2 ^ 64) rs0 = val (2 ^ 64) xs * 2 ^ s) :
    (dv.take n).length = n ∧ val (2 ^ 64) (dv.take n) = val (2 ^ 64) ys * 2 ^ s ∧ 2 ^ 63 ≤ (dv.take n).getD (n - 1) 0 ∧ val (2 ^ 64) ys * 2 ^ s ≤ (2 ^ 64) ^ n ∧ LongInv (2 ^ 64) n (val (2 ^ 64) ys * 2 ^ s) rs0 rs0 (List.replicate (lx + 1 - n) 0) (lx + 1 - n) := by
  have htl : t < 2 ^ 64 := by rw [← ht]; exact getD_lt hY (by omega) _
  obtain ⟨hs64, hn1, hn2⟩ := div64_norm (by omega) htl hs
  have ey : val (2 ^ 64) ys = val (2 ^ 64) (ys.take (n - 1)) + (2 ^ 64) ^ (n - 1) * t := by
    rw [← ht, ← val_take_succ', show n - 1 + 1 = n from by omega, List.take_of_length_le (by omega)]
  have ly := val_take_lt (2 ^ 64) ys (n - 1) hY (by omega)
  have hpow : (2 ^ 64) ^ n = (2 ^ 64) ^ (n - 1) * 2 ^ 64 := by rw [← Nat.pow_succ]; congr 1; omega
  have hpos : 0 < (2 ^ 64) ^ (n - 1) := Nat.pow_pos (by omega)
  have h64 : 2 ^ 64 = 2 ^ (64 - s) * 2 ^ s := by rw [← Nat.pow_add]; congr 1; omega
  have hts : (t + 1) * 2 ^ s ≤ 2 ^ 64 := by
    rw [h64] at hn2 ⊢
    exact Nat.mul_le_mul_right _ (Nat.lt_of_mul_lt_mul_right hn2)
  have hps := Nat.two_pow_pos s
  have hDlt : val (2 ^ 64) ys * 2 ^ s < (2 ^ 64) ^ n := by
    have h1 : val (2 ^ 64) ys < (2 ^ 64) ^ (n - 1) * (t + 1) := by rw [ey, Nat.mul_add]; omega
    have h2 : val (2 ^ 64) ys * 2 ^ s < (2 ^ 64) ^ (n - 1) * (t + 1) * 2 ^ s := Nat.mul_lt_mul_of_pos_right h1 hps
    have h3 : (2 ^ 64) ^ (n - 1) * (t + 1) * 2 ^ s ≤ (2 ^ 64) ^ n := by
      rw [hpow, Nat.mul_assoc]; exact Nat.mul_le_mul_left _ hts
    omega
  have hDge : (2 ^ 64) ^ (n - 1) * (t * 2 ^ s) ≤ val (2 ^ 64) ys * 2 ^ s := by
    rw [← Nat.mul_assoc]
    exact Nat.mul_le_mul_right _ (by omega)
  have htk : (dv.take n).length = n := by rw [List.length_take]; omega
  obtain ⟨hdt, _⟩ := val_nil_ge (b := 2 ^ 64) (xs := dv) (k := n) (by omega) (by rw [hdv]; exact hDlt)
  have hdt2 : val (2 ^ 64) (dv.take n) = val (2 ^ 64) ys * 2 ^ s := by rw [hdt, hdv]
  have htop : 2 ^ 63 ≤ (dv.take n).getD (n - 1) 0 := by
    have h1 : val (2 ^ 64) (dv.take n) = val (2 ^ 64) ((dv.take n).take (n - 1)) + (2 ^ 64) ^ (n - 1) * (dv.take n).getD (n - 1) 0 := by
      rw [← val_take_succ', show n - 1 + 1 = n from by omega, List.take_of_length_le (l := dv.take n) (by omega)]
    have h2 := val_take_lt (2 ^ 64) (dv.take n) (n - 1) (fun x hx => hdX x (List.mem_of_mem_take hx)) (by omega)
    rw [hdt2] at h1
    generalize (dv.take n).getD (n - 1) 0 = y at *
    have h3 : (2 ^ 64) ^ (n - 1) * (t * 2 ^ s) < (2 ^ 64) ^ (n - 1) * (y + 1) := by rw [Nat.mul_add (_ ^ _) y]; omega
    have := Nat.lt_of_mul_lt_mul_left h3
    omega
  refine ⟨htk, hdt2, htop, Nat.le_of_lt hDlt, ?_⟩
  have hz : val (2 ^ 64) (List.drop (lx + 1 - n) (List.replicate (lx + 1 - n) 0)) = 0 := by rw [List.drop_eq_nil_of_le (by simp)]; rfl
  refine ⟨rfl, by simp; omega, hrX, fun x hx => by rw [List.eq_of_mem_replicate hx]; omega, rfl, ?_, by rw [hz, Nat.zero_mul, Nat.add_zero]⟩
  have h1 := val_split (2 ^ 64) rs0 (lx + 1 - n) (by omega)
  have h2 : val (2 ^ 64) xs < (2 ^ 64) ^ lx := by rw [← hx]; exact val_lt _ _ hX
  have h3 : val (2 ^ 64) xs * 2 ^ s < (2 ^ 64) ^ lx * 2 ^ s := Nat.mul_lt_mul_of_pos_right h2 hps
  have h4 : (2 ^ 64) ^ lx = (2 ^ 64) ^ (lx + 1 - n) * (2 ^ 64) ^ (n - 1) := by rw [← Nat.pow_add]; congr 1; omega
  rw [h4, Nat.mul_assoc] at h3
  rw [hrv] at h1
  have h5 : (2 ^ 64) ^ (lx + 1 - n) * val (2 ^ 64) (rs0.drop (lx + 1 - n)) < (2 ^ 64) ^ (lx + 1 - n) * ((2 ^ 64) ^ (n - 1) * 2 ^ s) := by omega
  have h6 := Nat.lt_of_mul_lt_mul_left h5
  have h7 : (2 ^ 64) ^ (n - 1) * 2 ^ s ≤ (2 ^ 64) ^ (n - 1) * (t * 2 ^ s) := Nat.mul_le_mul_left _ (by
    have : 1 * 2 ^ s ≤ t * 2 ^ s := Nat.mul_le_mul_right _ (by omega)
    omega)
  omega

theorem long_digit {P D g V d M : Nat} (hD : 0 < D) (_hM : D ≤ M) (hg1 : P / D ≤ g) (hg2 : g ≤ P / D + 1) (hV : V < M) (h : V + D * g = P + M * d) (hd : d ≤ 1) :
    (d = 0 → g = P / D ∧ V < D ∧ V + g * D = P) ∧
    (d ≠ 0 → 0 < g ∧ g - 1 = P / D ∧ ∀ V2 c, V2 < M → c ≤ 1 → V2 + M * c = V + D → V2 < D ∧ V2 + (g - 1) * D = P) := by
  have hm := Nat.div_add_mod P D
  have hl := Nat.mod_lt P hD
  generalize P / D = q at *
  generalize P % D = r at *
  have hgc : g = q ∨ g = q + 1 := by omega
  constructor
  · rintro rfl
    rcases hgc with rfl | rfl
    · refine ⟨rfl, ?_, ?_⟩
      · omega
      · rw [Nat.mul_comm]; omega
    · have : D * (q + 1) = D * q + D := by grind
      omega
  · intro hd0
    obtain rfl : d = 1 := by omega
    rcases hgc with rfl | rfl
    · omega
    · refine ⟨by omega, by omega, fun V2 c h1 h2 h3 => ?_⟩
      have e : D * (q + 1) = D * q + D := by grind
      rw [Nat.add_sub_cancel, Nat.mul_comm q D]
      have : c = 0 ∨ c = 1 := by omega
      rcases this with rfl | rfl
      · omega
      · omega

theorem long_end {X Y s V R : Nat} (_hY : 0 < Y) (h : R + V * (Y * 2 ^ s) = X * 2 ^ s) (hR : R < Y * 2 ^ s) : V = X / Y ∧ R / 2 ^ s = X % Y := by
  have hp := Nat.two_pow_pos s
  generalize 2 ^ s = p at *
  have h1 : V * Y ≤ X := by
    refine Nat.le_of_mul_le_mul_right (c := p) ?_ hp
    rw [Nat.mul_assoc]; omega
  have h2 : R = (X - V * Y) * p := by rw [Nat.sub_mul, Nat.mul_assoc]; omega
  have h3 : X - V * Y < Y := by
    refine Nat.lt_of_mul_lt_mul_right (a := p) ?_
    rw [← h2]; exact hR
  have hq : V = X / Y := by
    refine (Nat.div_eq_of_lt_le h1 ?_).symm
    rw [Nat.add_mul]; omega
  refine ⟨hq, ?_⟩
  rw [h2, Nat.mul_div_cancel _ hp]
  have := Nat.div_add_mod X Y
  rw [← hq, Nat.mul_comm] at this
  omega

def RetDivide (W : World) (q r : Nat) : Ending → World → Prop := fun e w' =>
  ∃ b l c zs b2 off k d rs, e = .returned (.tuple #[.slice (some ⟨b, 0, none⟩) l c, .slice (some ⟨b2, off, none⟩) k d]) ∧ zs.length = l ∧ l ≤ c ∧ l ≤ 1000001 ∧ (∀ x ∈ zs, x < 2 ^ 64) ∧ val (2 ^ 64) zs = q ∧ At w' .u64 b 0 zs ∧
    rs.length = k ∧ k ≤ 1000001 ∧ (∀ x ∈ rs, x < 2 ^ 64) ∧ val (2 ^ 64) rs = r ∧ k ≤ d ∧ At w' .u64 b2 off rs ∧ Below W.heap.size W w'
set_option maxRecDepth 100000 in
set_option maxHeartbeats 8000000 in
theorem divide_any (bx ox cx bY oy cy lx n : Nat) (xs ys : List Nat) (w : World) (hx : xs.length = lx) (hy : ys.length = n) (hX : ∀ x ∈ xs, x < 2 ^ 64) (hY : ∀ x ∈ ys, x < 2 ^ 64) (hn : 2 ≤ n) (hle : n ≤ lx) (hlx : lx ≤ 1000000) (ht0 : ys.getD (n - 1) 0 ≠ 0)
    (h1 : At w .u64 bx ox xs) (h2 : At w .u64 bY oy ys) :
    Calls Tryz.prog 73 #[.slice (some ⟨bx, ox, none⟩) lx cx, .slice (some ⟨bY, oy, none⟩) n cy] w (RetDivide w (val (2 ^ 64) xs / val (2 ^ 64) ys) (val (2 ^ 64) xs % val (2 ^ 64) ys)) := by
  have htl := getD_lt hY (by omega) (n - 1)
  have ct := h2 (n - 1) (by omega)
  have hY0 : 0 < val (2 ^ 64) ys := by
    have := val_set (2 ^ 64) ys (n - 1) 0 (by omega)
    have h3 : 0 < (2 ^ 64) ^ (n - 1) * ys.getD (n - 1) 0 := Nat.mul_pos (Nat.pow_pos (by omega)) (by omega)
    rw [Nat.mul_zero, Nat.add_zero] at this
    omega
  obtain ⟨t, ht⟩ : ∃ t, ys.getD (n - 1) 0 = t := ⟨_, rfl⟩
  rw [ht] at htl ct ht0
  obtain ⟨s, hs⟩ : ∃ s, 64 - bitLen t = s := ⟨_, rfl⟩
  have hs64 : s ≤ 64 := by omega
  have hs63 : s < 64 := (div64_norm (by omega) htl hs).1
  have HLS := Lib.hid (fun dv rs0 a b c d e f => long_start (dv := dv) (rs0 := rs0) hx hy hX hY hn hle ht ht0 hs a b c d e f)
  have HLZ := Lib.hid (lz64_any t htl)
  rw [hs] at HLZ
  have HU1 := Lib.hid (fun W h => shiftUp_any bY oy cy n s (n + 1) ys W hy (by omega) (by omega) (by omega) (by omega) h hY)
  have HU2 := Lib.hid (fun W h => shiftUp_any bx ox cx lx s (lx + 1) xs W hx (by omega) (by omega) (by omega) (by omega) h hX)
  have H1 := Lib.hid h1; have H2 := Lib.hid h2
  have HLE := Lib.hid hle; have HN2 := Lib.hid hn
  obtain ⟨m, hm⟩ : ∃ m, m = n - 1 := ⟨_, rfl⟩
  obtain ⟨n1, hn1⟩ : ∃ n1, n1 = n + 1 := ⟨_, rfl⟩
  obtain ⟨lr, hlr⟩ : ∃ lr, lr = lx + 1 := ⟨_, rfl⟩
  obtain ⟨lq, hlq⟩ : ∃ lq, lq = lx + 1 - n := ⟨_, rfl⟩
  rw [← hm] at ct
  rw [← hn1] at HU1
  rw [← hlr] at HU2
  have i1 : (n : Int) - 1 = (m : Int) := by omega
  have i2 : (m : Int) < n := by omega
  have i3 : (lr : Int) - n = (lq : Int) := by omega
  have i4 : (n : Int) ≤ n1 := by omega
  have hmk := make_u64 lq (by omega)
  have b1 : lq ≤ 1000000 := by omega
  have b2 : n ≤ 1000000 := by omega
  have HM := Lib.hid hm; have HN1 := Lib.hid hn1; have HLR := Lib.hid hlr; have HLQ := Lib.hid hlq
  have HX0 := Lib.hid hY0
  generalize val (2 ^ 64) xs = X at *
  generalize val (2 ^ 64) ys = Y at *
  clear h1 h2 hx hy hX hY hn hle ht0 htl ht hs hm hn1 hlr hlq hY0 hlx
  go_enter Tryz.func73, Tryz.ntmps73
  go_wp2_with fail
  refine (HLZ.out _).mono ?_
  rintro e w0 ⟨rfl, rfl⟩
  go_wp2_with fail
  refine (HU1.out _ H2.out).mono ?_
  rintro e w1 ⟨gd, dv, cd, rfl, d1, d2, d3, d4, d5, d6, d7, hb1⟩
  have D1 := Lib.hid d1; have D3 := Lib.hid d3; have D4 := Lib.hid d4; have D5 := Lib.hid d5; have D6 := Lib.hid d6; have HB1 := Lib.hid hb1
  clear d1 d3 d4 d5 d6 d7 hb1
  have i5 : (n : Int) ≤ cd := by omega
  go_wp2_with fail
  refine (HU2.out _ (H1.out.mono HB1.out)).mono ?_
  rintro e w2 ⟨gr, rs0, cr, rfl, r1, r2, r3, r4, r5, r6, r7, hb2⟩
  have R1 := Lib.hid r1; have R3 := Lib.hid r3; have R4 := Lib.hid r4; have R5 := Lib.hid r5; have R6 := Lib.hid r6; have R7 := Lib.hid r7; have HB2 := Lib.hid hb2
  clear r1 r3 r4 r5 r6 r7 hb2
  go_wp2_with fail
  obtain ⟨t1, t2, t3, t4, t5⟩ := HLS.out dv rs0 (by rw [D1.out, HN1.out]) D3.out D4.out (by rw [R1.out, HLR.out]) R3.out R4.out
  have hD0 : 0 < Y * 2 ^ s := Nat.mul_pos HX0.out (Nat.two_pow_pos s)
  have hDt := D6.out.take n
  have hDX : ∀ x ∈ dv.take n, x < 2 ^ 64 := fun x hx => D3.out x (List.mem_of_mem_take hx)
  generalize dv.take n = dt at *
  have hgd : gd < w1.heap.size := hDt.lt (by omega)
  have hgr : gr < w2.heap.size := R6.out.lt (by rw [R1.out]; have := HLR.out; omega)
  have A3 := At.made w2 .u64 lq 23
  have F3 := Fr.made w2 .u64 lq lq 23
  have B3 : Below w2.heap.size w2 (w2.alloc (.cells (madeCells #[.int .u64 0] lq) 23)) := below_alloc (Below.refl _ _) _
  obtain ⟨w3, hw3⟩ : ∃ w3, w3 = w2.alloc (.cells (madeCells #[.int .u64 0] lq) 23) := ⟨_, rfl⟩
  rw [← hw3] at A3 F3 B3 ⊢
  obtain ⟨gq, hgq⟩ : ∃ gq, gq = w2.heap.size := ⟨_, rfl⟩
  rw [← hgq] at A3 F3 ⊢
  have n1' : gd ≠ gr := by have := R5.out; omega
  have n2' : gd ≠ gq := by have := HB2.out.size; omega
  have n3' : gr ≠ gq := by omega
  have n4' : w.heap.size ≤ gq := by have := HB2.out.size; have := HB1.out.size; omega
  have n5' : w.heap.size ≤ gr := by have := R5.out; have := HB1.out.size; omega
  have S1 := Lib.hid (R6.out.mono B3)
  have S2 := Lib.hid (R7.out.mono B3 hgr)
  have S3 := Lib.hid ((hDt.mono HB2.out).mono B3)
  have S4 := Lib.hid A3; have S5 := Lib.hid F3
  have S6 : Below w.heap.size w w3 := below_step (below_step HB1.out HB2.out) B3
  have T1 := Lib.hid t1; have T2 := Lib.hid t2; have T3 := Lib.hid t3; have T4 := Lib.hid t4; have T5 := Lib.hid t5; have HD0 := Lib.hid hD0; have HDX := Lib.hid hDX
  have RL : Hid (rs0.length = lr) := R1
  have R4' := R4
  obtain ⟨D, hD⟩ : ∃ D, D = Y * 2 ^ s := ⟨_, rfl⟩
  rw [← hD] at T2 T4 T5 HD0
  have HD := Lib.hid hD
  clear t1 t2 t3 t4 t5 hD0 hDt hDX hgd hgr A3 F3 B3 hw3 hgq hmk HLS HLZ HU1 HU2 H1 H2 D1 D3 D4 D5 D6 HB1 HB2 R1 R5 R6 R7 ct hD i1 i2 i3 i4
  go_loopw [9] (fun i wr => ∃ k : Nat, k ≤ lq ∧ i = .int .i64 ((k : Int) - 1) ∧ ∃ rs qs, Hid (LongInv (2 ^ 64) n D rs0 rs qs k) ∧ Hid (At wr .u64 gr 0 rs) ∧ Hid (Fr wr gr 0 lr) ∧ Hid (At wr .u64 gd 0 dt) ∧ Hid (At wr .u64 gq 0 qs) ∧ Hid (Fr wr gq 0 lq) ∧ Hid (Below w.heap.size w wr)) (fun i _ => (intOf i + 1).toNat)
  case atStart => exact ⟨lq, Nat.le_refl _, rfl, rs0, List.replicate lq 0, by have := T5; rw [← HLQ.out] at this; exact this, S1, S2, S3, S4, S5, Lib.hid S6⟩
  case round =>
    clear S1 S2 S3 S4 S5 S6
    obtain ⟨k, hk, rfl, rs, qs, HI, S1, S2, S3, S4, S5, S6⟩ := hrel
    have hrl : rs.length = lr := by rw [HI.out.len, RL.out]
    have hql : qs.length = lq := by have h1 := HI.out.qlen; have h2 := RL.out; have h3 := HLR.out; have h4 := HLQ.out; omega
    have hlr := HLR.out; have hlq := HLQ.out; have hle := HLE.out; have hn1 := HN1.out; have hn2 := HN2.out
    rcases Nat.eq_zero_or_pos k with hk0 | hk0
    · subst hk0
      have hinv := HI.out
      have hsm := hinv.small
      have hsum := hinv.sum
      rw [List.drop_zero] at hsm
      rw [List.drop_zero, List.drop_zero, List.drop_zero, R4.out, HD.out] at hsum
      rw [HD.out] at hsm
      obtain ⟨e1, e2⟩ := long_end HX0.out hsum hsm
      obtain ⟨e3, _⟩ := val_nil_ge (b := 2 ^ 64) (xs := rs) (k := n) (by omega) (Nat.lt_of_lt_of_le (by have := hinv.small; rwa [List.drop_zero] at this) T4.out)
      have htl : (rs.take n).length = n := by rw [List.length_take]; omega
      have HSD := Lib.hid (shiftDown_any gr 0 cr n s (rs.take n) wr htl (by omega) (by omega) (by omega) (S1.out.take n) (fun x hx => hinv.lt x (List.mem_of_mem_take hx)))
      rw [e3, e2] at HSD
      have HE := Lib.hid e1; have HQX := Lib.hid hinv.qlt; have HQN := Lib.hid hql
      have i1 : (n : Int) ≤ cr := by omega
      have HLQ2 : Hid (lq ≤ 1000001 ∧ n ≤ 1000001) := Lib.hid ⟨by omega, by omega⟩
      clear hinv hsm hsum e1 e2 e3 htl hrl hql hlr hlq hle hn1 hn2 HI hk
      go_wp2_with fail
      refine HSD.out.mono ?_
      rintro e u1 ⟨p, k, d, rr, rfl, k1, k2, k3, k4, k5, hb1⟩
      have hkk := HLQ2.out.2
      have hn2 := HN2.out
      rcases k5 with ⟨_, _, _, k5⟩ | ⟨b3, o3, rfl, k6, k7⟩
      · omega
      have K7 := Lib.hid k7
      clear k7 hn2
      go_wp2
      exact bodyPost_ret (v := .tuple #[.slice (some ⟨gq, 0, none⟩) lq lq, .slice (some ⟨b3, o3, none⟩) k d]) (by simp [results, Tryz.results73, go_sem]) rfl
        ⟨gq, lq, lq, qs, b3, o3, k, d, rr, rfl, HQN.out, Nat.le_refl _, HLQ2.out.1, HQX.out, HE.out, S4.out.mono hb1, k1, Nat.le_trans k2 hkk, k3, k4, k6, K7.out, below_step S6.out hb1⟩
    · obtain ⟨j, rfl⟩ : ∃ j, k = j + 1 := ⟨k - 1, by omega⟩
      obtain ⟨p1, p2, p3, p4⟩ := HI.out.part (by omega) T4.out (by omega)
      have hpl : ((rs.drop j).take n1).length = n1 := by rw [List.length_take, List.length_drop]; omega
      have hpA := (S1.out.drop j).take n1
      rw [Nat.zero_add] at hpA
      have hpF : Fr wr gr j n1 := fun i hi => by have := S2.out (j + i) (by omega); rwa [Nat.zero_add] at this
      have hpX : ∀ x ∈ (rs.drop j).take n1, x < 2 ^ 64 := fun x hx => HI.out.lt x (List.mem_of_mem_drop (List.mem_of_mem_take hx))
      have HG := Lib.hid (guess_any gr j (cr - j) gd 0 cd n n1 ((rs.drop j).take n1) dt wr hn1 hpl T1.out hn2 (by omega) hpA S3.out hpX HDX.out T3.out (by rw [T2.out, hn1, p1]; exact p2))
      rw [T2.out] at HG
      have HST := Lib.hid (fun q zs a b c d e => HI.out.step (q := q) (zs := zs) (by omega) T4.out (by omega) a b c d e)
      rw [← hn1] at HST
      have HPP : Hid (val (2 ^ 64) ((rs.drop j).take n1) < 2 ^ 64 * D) := Lib.hid (by rw [hn1, p1]; exact p2)
      have HPL := Lib.hid hpl; have HPA := Lib.hid hpA; have HPF := Lib.hid hpF; have HPX := Lib.hid hpX; have HRL := Lib.hid hrl; have HQL := Lib.hid hql
      generalize (rs.drop j).take n1 = part at *
      obtain ⟨jn, hjn⟩ : ∃ jn, jn = j + n1 := ⟨_, rfl⟩
      have i0 : ((j + 1 : Nat) : Int) - 1 = (j : Int) := by omega
      rw [i0]
      have i1 : (0 : Int) ≤ j := by omega
      have i2 : (j : Int) < lq := by omega
      have i3 : (j : Int) + n + 1 = (jn : Int) := by omega
      have i4 : jn - j = n1 := by omega
      have i6 : (jn : Int) ≤ cr := by omega
      have i7 : (j : Int) ≤ jn := by omega
      have i8 : (jn : Int) ≤ lr := by omega
      have HJN := Lib.hid hjn
      clear p1 p2 p3 p4 hpl hpA hpF hpX hrl hql hlr hlq hle hn1 hn2 hjn HI hk0
      go_wp2_with fail
      refine HG.out.mono ?_
      rintro e u1 ⟨g, rfl, g1, g2, g3, hb1⟩
      have hwr := hb1.size
      have A1 := Lib.hid (HPA.out.mono hb1); have E1 := Lib.hid (HPF.out.mono hb1 (HPA.out.lt (by rw [HPL.out, HN1.out]; omega)))
      have S1 := Lib.hid (S1.out.mono hb1); have B1 := Lib.hid (S3.out.mono hb1); have Q1 := Lib.hid (S4.out.mono hb1); have W1 := Lib.hid (below_step S6.out hb1)
      have F1 := Lib.hid (S2.out.mono hb1 (HPA.out.lt (by rw [HPL.out, HN1.out]; omega))); have Q2 := Lib.hid (S5.out.mono hb1 (S4.out.lt (by rw [HQL.out]; omega)))
      have HT := Lib.hid (subTimes_any gr j (cr - j) gd 0 cd n n1 part dt g u1 HN1.out HPL.out T1.out (by omega) n1' A1.out E1.out B1.out HPX.out HDX.out g1)
      have HG1 := Lib.hid g1; have HG2 := Lib.hid g2; have HG3 := Lib.hid g3
      clear HG S2 S3 S4 S5 S6 HPA HPF hb1 g1 g2 g3
      go_wp2_with fail
      refine HT.out.mono ?_
      rintro e u2 ⟨zs, d, hd, rfl, z1, z2, z3, z4, z5⟩
      rw [← HN1.out] at z1 z3 z5
      rw [T2.out] at z3
      have hdig := long_digit HD0.out (M := (2 ^ 64) ^ n1) (Nat.le_trans T4.out (Nat.pow_le_pow_right (by omega) (by have := HN1.out; omega))) HG2.out HG3.out (by rw [← z1]; exact val_lt _ _ z2) z3 hd
      have hqlt : val (2 ^ 64) part / D < 2 ^ 64 := (Nat.div_lt_iff_lt_mul HD0.out).2 HPP.out
      have hP1 : ∀ (zz : List Nat) (u3 : World), zz.length = n1 → Only u1 u3 gr j n1 → At u3 .u64 gr j zz → At u3 .u64 gr 0 (rs.take j ++ zz ++ rs.drop (j + n1)) := fun zz u3 ha hb hc => S1.out.splice hc ha hb (by have := HRL.out; have := HJN.out; omega)
      have HP1 := Lib.hid hP1
      have Z1 := Lib.hid z1; have Z2 := Lib.hid z2; have Z4 := Lib.hid z4; have Z5 := Lib.hid z5; have HQLT := Lib.hid hqlt
      have hql2 : j < qs.length := by rw [HQL.out]; omega
      rcases Nat.eq_zero_or_pos d with hd0 | hd0
      · obtain ⟨y1, y2, y3⟩ := hdig.1 hd0
        subst hd0
        have HF := Lib.hid (HST.out g zs z1 z2 (by rw [y1]; exact hqlt) y2 y3)
        have A3 := Lib.hid (HP1.out zs u2 z1 z5 z4)
        have F3 := Lib.hid (F1.out.only z5); have B3 := Lib.hid (B1.out.only z5 n1'); have Q3 := Q1.out.only z5 (fun h => n3' h.symm); have Q4 := Q2.out.onlyOther z5 (Q1.out.lt (by omega)) (fun h => n3' h.symm)
        have W3 := Lib.hid (W1.out.trans (z5.below (B := w.heap.size) n5' W1.out.size))
        have c1 := Q3.zero j hql2
        have f1 := Q4.zero j (by omega)
        have Q5 := Q3.set j g hql2
        rw [Nat.zero_add] at Q5
        have Q6 := Lib.hid Q5; have Q7 := Lib.hid Q4
        generalize qs.getD j 0 = q0 at *
        clear HST y1 y2 y3 hdig hqlt hP1 z1 z2 z3 z4 z5 Q3 Q4 Q5 hd S1 A1 E1 B1 Q1 Q2 W1 F1 HT
        go_wp2
        go_roundw
        case rel => exact ⟨j, by omega, by go_num, _, _, HF, Lib.hid (A3.out.setOther _ _ (fun h => n3' h.symm)), Lib.hid (F3.out.setCell _ _), Lib.hid (B3.out.setOther _ _ (fun h => n2' h.symm)), Q6, Lib.hid (Q7.out.setCell _ _), Lib.hid (W3.out.setCell n4' _)⟩
        case measure => simp [intOf]
      · obtain ⟨y0, y1, y2⟩ := hdig.2 (by omega)
        obtain rfl : d = 1 := by omega
        have HA := Lib.hid (addTo_any gr j (cr - j) gd 0 cd n1 n zs dt u2 z1 T1.out (by have := HN1.out; omega) (by have := HN1.out; omega) n1' z4 (E1.out.only z5) (B1.out.only z5 n1') z2 HDX.out)
        have wg : IntKind.u64.wrap ((g : Int) - 1) = ((g - 1 : Nat) : Int) := wrap_at (by have := HG1.out; omega)
        obtain ⟨q, hq⟩ : ∃ q, q = g - 1 := ⟨_, rfl⟩
        rw [← hq] at wg y1 y2
        have Y2 := Lib.hid y2; have Y1 := Lib.hid y1
        clear y0 y1 y2 hdig hqlt hP1 z1 z2 z3 z4 z5 hd hq HT hd0
        go_wp2_with fail
        refine HA.out.mono ?_
        rintro e u3 ⟨rfl, zs2, c, v1, v2, v3, v4, v5, v6⟩
        rw [T2.out] at v4
        obtain ⟨y2, y3⟩ := Y2.out (val (2 ^ 64) zs2) c (by rw [← v1]; exact val_lt _ _ v2) v3 v4
        have z6 := Z5.out.trans v6
        have HF := Lib.hid (HST.out q zs2 v1 v2 (by rw [Y1.out]; exact HQLT.out) y2 y3)
        have A3 := Lib.hid (HP1.out zs2 u3 v1 z6 v5)
        have F3 := Lib.hid (F1.out.only z6); have B3 := Lib.hid (B1.out.only z6 n1'); have Q3 := Q1.out.only z6 (fun h => n3' h.symm); have Q4 := Q2.out.onlyOther z6 (Q1.out.lt (by omega)) (fun h => n3' h.symm)
        have W3 := Lib.hid (W1.out.trans (z6.below (B := w.heap.size) n5' W1.out.size))
        have c1 := Q3.zero j hql2
        have f1 := Q4.zero j (by omega)
        have Q5 := Q3.set j q hql2
        rw [Nat.zero_add] at Q5
        have Q6 := Lib.hid Q5; have Q7 := Lib.hid Q4
        generalize qs.getD j 0 = q0 at *
        clear HST y2 y3 v1 v2 v3 v4 v5 v6 z6 Q3 Q4 Q5 S1 A1 E1 B1 Q1 Q2 W1 F1 HA
        go_wp2
        go_roundw
        case rel => exact ⟨j, by omega, by go_num, _, _, HF, Lib.hid (A3.out.setOther _ _ (fun h => n3' h.symm)), Lib.hid (F3.out.setCell _ _), Lib.hid (B3.out.setOther _ _ (fun h => n2' h.symm)), Q6, Lib.hid (Q7.out.setCell _ _), Lib.hid (W3.out.setCell n4' _)⟩
        case measure => simp [intOf]
end Go.Proofs.YtfjjmhbffbhhdaaGreatDoor
