/- Sums and differences of rows, in place. -/
import Derived.Test.YtciohlbpjaighaaDoorCarryNum
import Derived.Test.YtciohlbpjaighaaDoorCarry
namespace Go.Proofs.YtciohlbpjaighaaDoor
open Go.RowKit

/-- What an addition into a row leaves. -/
def RetAdd (w : World) (bz oz lz : Nat) (zs xs : List Nat) : Ending → World → Prop := fun e w' => e = .returned (.tuple #[]) ∧
  ∃ zs' c, zs'.length = lz ∧ (∀ x ∈ zs', x < 2 ^ 64) ∧ c ≤ 1 ∧ val (2 ^ 64) zs' + (2 ^ 64) ^ lz * c = val (2 ^ 64) zs + val (2 ^ 64) xs ∧ At w' .u64 bz oz zs' ∧ Only w w' bz oz lz

set_option maxHeartbeats 1000000 in
theorem addTo_any (bz oz cz bx ox cx lz lx : Nat) (zs xs : List Nat) (w : World) (hz : zs.length = lz) (hx : xs.length = lx) (hle : lx ≤ lz) (hlz : lz ≤ 4000000)
    (hne : bx ≠ bz) (h1 : At w .u64 bz oz zs) (hF : Fr w bz oz lz) (h2 : At w .u64 bx ox xs) (hZ : ∀ x ∈ zs, x < 2 ^ 64) (hX : ∀ x ∈ xs, x < 2 ^ 64) :
    Calls Tryd.prog 43 #[.slice (some ⟨bz, oz, none⟩) lz cz, .slice (some ⟨bx, ox, none⟩) lx cx] w (RetAdd w bz oz lz zs xs) := by
  have H1 := Lib.hid h1; have HF := Lib.hid hF; have H2 := Lib.hid h2; have HZ := Lib.hid hZ; have HX := Lib.hid hX; have HLZ := Lib.hid hz; have HLX := Lib.hid hx
  clear h1 hF h2 hZ hX hz hx
  go_enter Tryd.func43, Tryd.ntmps43
  go_wp2
  go_loopw [4, 10] (fun c i wr => ∃ k c' : Nat, k ≤ lx ∧ i = .int .i64 k ∧ c = .int .u64 (c' : Int) ∧ ∃ zs', Hid (AddInv (2 ^ 64) zs xs zs' k c') ∧ At wr .u64 bz oz zs' ∧ Only w wr bz oz lz) (fun _ i _ => lx - (intOf i).toNat)
  case atStart => exact ⟨0, 0, Nat.zero_le _, rfl, rfl, zs, Lib.hid (AddInv.start _ _ _ HZ.out), H1.out, Only.refl _ _ _ _⟩
  case round =>
    obtain ⟨k, c, hk, rfl, rfl, zs', HI, hA, hO⟩ := hrel
    by_cases hlt : k < lx
    · have hzl : zs'.length = lz := by rw [HI.out.len, HLZ.out]
      have c1 := hA k (by omega)
      have f1 := (HF.out.only hO) k (by omega)
      have c2 := (H2.out.only hO hne) k (by rw [HLX.out]; omega)
      have hx1 := getD_lt HX.out (by omega) k
      have hz1 := getD_lt HI.out.lt (by omega) k
      have hc1 := HI.out.carry
      obtain ⟨s, d, hs, hs2, hd⟩ : ∃ s d, zs'.getD k 0 + xs.getD k 0 + c = s + 2 ^ 64 * d ∧ s < 2 ^ 64 ∧ d ≤ 1 := ⟨(zs'.getD k 0 + xs.getD k 0 + c) % 2 ^ 64, (zs'.getD k 0 + xs.getD k 0 + c) / 2 ^ 64, by omega, by omega, by omega⟩
      have hadd := call_add64' _ _ _ _ _ hc1 hs hs2
      have HN := Lib.hid (HI.out.step (by rw [HLZ.out]; omega) hs2 hd hs)
      generalize zs'.getD k 0 = z at *
      generalize xs.getD k 0 = x at *
      have i1 : (0 : Int) ≤ k := by omega
      have i2 : (k : Int) < lz := by omega
      have i3 : (k : Int) < lx := by omega
      clear hs hs2 hx1 hz1 hc1 hd HI
      go_wp2
      go_roundw
      case rel => exact ⟨k + 1, d, by omega, by go_num, rfl, zs'.set k s, HN, hA.set k s (by omega), hO.setCell _ (by omega) (by omega) _⟩
      case measure => simp [intOf]; omega
    · obtain rfl : k = lx := by omega
      go_wp2
      clear hlt
      go_loopw [4, 7] (fun c i wr => ∃ j c' : Nat, k ≤ j ∧ j ≤ lz ∧ i = .int .i64 j ∧ c = .int .u64 (c' : Int) ∧ ∃ zs', Hid (AddInv (2 ^ 64) zs xs zs' j c') ∧ At wr .u64 bz oz zs' ∧ Only w wr bz oz lz) (fun _ i _ => lz - (intOf i).toNat)
      case atStart => exact ⟨k, c, Nat.le_refl _, by omega, rfl, rfl, zs', HI, hA, hO⟩
      case round =>
        clear HI hA hO
        obtain ⟨j, c, hkj, hj, rfl, rfl, zs', HI, hA, hO⟩ := hrel
        have fin : (c = 0 ∨ j = lz) → RetAdd w bz oz lz zs xs (.returned (.tuple #[])) wr := fun hc =>
          ⟨rfl, zs', c, by rw [HI.out.len, HLZ.out], HI.out.lt, HI.out.carry, by have := HI.out.done (by rw [HLX.out]; omega) (by rw [HLZ.out]; omega) (by rw [HLZ.out]; exact hc); rwa [HLZ.out] at this, hA, hO⟩
        have FIN := Lib.hid fin; clear fin
        by_cases h0 : c = 0
        · subst h0
          go_wp2
          go_end0
          exact FIN.out (by simp)
        · have d0 : ((c : Int) != 0) = true := by rw [bne_iff_ne]; omega
          by_cases hlt : j < lz
          · have hzl : zs'.length = lz := by rw [HI.out.len, HLZ.out]
            have c1 := hA j (by omega)
            have f1 := (HF.out.only hO) j (by omega)
            have hz1 := getD_lt HI.out.lt (by omega) j
            have hc1 := HI.out.carry
            have hx0 : xs.getD j 0 = 0 := by simp only [List.getD, List.getElem?_eq_none (by rw [HLX.out]; omega : xs.length ≤ j)]; rfl
            obtain ⟨s, d, hs, hs2, hd⟩ : ∃ s d, zs'.getD j 0 + c + 0 = s + 2 ^ 64 * d ∧ s < 2 ^ 64 ∧ d ≤ 1 := ⟨(zs'.getD j 0 + c) % 2 ^ 64, (zs'.getD j 0 + c) / 2 ^ 64, by omega, by omega, by omega⟩
            have hadd := call_add64' _ _ 0 _ _ (by omega) hs hs2
            rw [Int.natCast_zero] at hadd
            have HN := Lib.hid (HI.out.step (by rw [HLZ.out]; omega) hs2 hd (by rw [hx0]; omega))
            generalize zs'.getD j 0 = z at *
            have i1 : (0 : Int) ≤ j := by omega
            have i2 : (j : Int) < lz := by omega
            clear hs hs2 hz1 hc1 hd HI hx0 FIN h0
            go_wp2
            go_roundw
            case rel => exact ⟨j + 1, d, by omega, by omega, by go_num, rfl, zs'.set j s, HN, hA.set j s (by omega), hO.setCell _ (by omega) (by omega) _⟩
            case measure => simp [intOf]; omega
          · have i2 : ¬ ((j : Int) < lz) := by omega
            go_wp2
            go_end0
            exact FIN.out (Or.inr (by omega))
end Go.Proofs.YtciohlbpjaighaaDoor
