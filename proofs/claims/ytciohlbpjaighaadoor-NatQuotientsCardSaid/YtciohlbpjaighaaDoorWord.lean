/- A row divided by one digit, in place. -/
import Derived.Test.YtciohlbpjaighaaDoorDiv64
import Derived.Test.YtciohlbpjaighaaDoorWant
namespace Go.Proofs.YtciohlbpjaighaaDoor
open Go.RowKit

/-- What the quotient by a digit leaves. -/
def RetWord (w : World) (b off l : Nat) (v d : Nat) : Ending → World → Prop := fun e w' =>
  ∃ (ws : List Nat) (r : Nat), e = .returned (.int .u64 (r : Int)) ∧ r = v % d ∧ ws.length = l ∧ (∀ x ∈ ws, x < 2 ^ 64) ∧ val (2 ^ 64) ws = v / d ∧ At w' .u64 b off ws ∧ Only w w' b off l

theorem WordInv.done {b d : Nat} {ws ws' : List Nat} {r : Nat} (h : WordInv b d ws ws' 0 r) : val b ws' = val b ws / d ∧ r = val b ws % d := by
  have h1 := h.sum
  have h2 := h.rest
  rw [List.drop_zero, List.drop_zero] at h1
  have h3 : val b ws / d = val b ws' := Nat.div_eq_of_lt_le (by omega) (by rw [Nat.add_mul]; omega)
  refine ⟨h3.symm, ?_⟩
  have h4 := Nat.div_add_mod (val b ws) d
  rw [h3, Nat.mul_comm] at h4
  omega

set_option maxRecDepth 100000 in
set_option maxHeartbeats 2000000 in
theorem divByWord_any (b off c l d : Nat) (ws : List Nat) (w : World) (hl : ws.length = l) (h0 : 0 < l) (hl2 : l ≤ 1000000) (hd : 0 < d) (hd2 : d < 2 ^ 64) (h : At w .u64 b off ws) (hF : Fr w b off l) (hW : ∀ x ∈ ws, x < 2 ^ 64) :
    Calls Tryd.prog 18 #[.slice (some ⟨b, off, none⟩) l c, .int .u64 (d : Int)] w (RetWord w b off l (val (2 ^ 64) ws) d) := by
  have hb := h.lt (by omega)
  have HA := Lib.hid h; have HF := Lib.hid hF; have HW := Lib.hid hW; have HL := Lib.hid hl; have HD := Lib.hid hd; have HD2 := Lib.hid hd2; have HB := Lib.hid hb
  clear h hF hW hl hd hd2 hb
  go_enter Tryd.func18, Tryd.ntmps18
  go_wp2
  go_loopw [5, 6] (fun r i wr => ∃ k r' : Nat, k ≤ l ∧ i = .int .i64 ((k : Int) - 1) ∧ r = .int .u64 (r' : Int) ∧ ∃ ws', Hid (WordInv (2 ^ 64) d ws ws' k r') ∧ At wr .u64 b off ws' ∧ Only w wr b off l) (fun _ i _ => (intOf i + 1).toNat)
  case atStart => exact ⟨l, 0, Nat.le_refl _, rfl, rfl, ws, Lib.hid (by have := WordInv.start (ws := ws) HD.out HW.out; rwa [HL.out] at this), HA.out, Only.refl _ _ _ _⟩
  case round =>
    obtain ⟨k, r, hk, rfl, rfl, ws', HI, hA, hO⟩ := hrel
    rcases Nat.eq_zero_or_pos k with hk0 | hk0
    · subst hk0
      have HFIN := Lib.hid HI.out.done
      have HLT := Lib.hid HI.out.lt
      have HLN : Hid (ws'.length = l) := Lib.hid (by rw [HI.out.len, HL.out])
      clear HI
      go_wp2
      go_ret
      exact ⟨ws', r, rfl, HFIN.out.2, HLN.out, HLT.out, HFIN.out.1, hA, hO⟩
    · obtain ⟨j, rfl⟩ : ∃ j, k = j + 1 := ⟨k - 1, by omega⟩
      have hlen : ws'.length = l := by rw [HI.out.len, HL.out]
      have c1 := hA j (by omega)
      have hx := getD_lt HI.out.lt (by omega) j
      have hq := word_digit HI.out.rest hx
      have HT := Lib.hid (div64_any r (ws'.getD j 0) d HI.out.rest HD2.out hx)
      have HS := Lib.hid (HI.out.step (by rw [HL.out]; omega) hq (Nat.mod_lt _ HD.out) (by rw [Nat.mul_comm]; exact Nat.div_add_mod _ _))
      generalize (r * 2 ^ 64 + ws'.getD j 0) / d = q at *
      generalize (r * 2 ^ 64 + ws'.getD j 0) % d = s at *
      generalize ws'.getD j 0 = x at *
      have HLN := Lib.hid hlen
      have i0 : ((j + 1 : Nat) : Int) - 1 = (j : Int) := by omega
      rw [i0]
      have i1 : (0 : Int) ≤ j := by omega
      have i2 : (j : Int) < l := by omega
      clear hx hq HI hlen
      go_wp2_with fail
      refine (HT.out _).mono ?_
      rintro e w1 ⟨rfl, hb⟩
      have hbl := Nat.lt_of_lt_of_le HB.out hO.size
      have f1 := (HF.out.only hO) j (by omega)
      have c2 := wcell hb c1
      have f2 := wfree hb c1 f1
      have hA2 := Lib.hid ((hA.mono hb).set j q (by rw [HLN.out]; omega))
      have hO2 := Lib.hid ((hO.trans (Only.of_below hb hbl)).setCell (off + j) (by omega) (by omega) (.int .u64 (q : Int)))
      clear hA hO c1 f1 hbl hb
      go_wp2
      go_roundw
      case rel => exact ⟨j, s, by omega, by go_num, rfl, _, HS, hA2.out, hO2.out⟩
      case measure => simp [intOf]
end Go.Proofs.YtciohlbpjaighaaDoor
