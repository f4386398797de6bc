/- Sums, differences and products of lists of digits, digit by digit: no program stands in this text. -/
import Derived.Test.YtfjjmhbffbhhdaaDoorDecTxt
import Derived.Test.YtfjjmhbffbhhdaaDoorShiftS
namespace Go.Proofs.YtfjjmhbffbhhdaaDoor

theorem take_set_self (xs : List Nat) (k y : Nat) : (xs.set k y).take k = xs.take k := by
  rw [List.take_set_of_le (Nat.le_refl k)]

theorem drop_set_succ (xs : List Nat) (k y : Nat) : (xs.set k y).drop (k + 1) = xs.drop (k + 1) := by
  rw [List.drop_set_of_lt (by omega)]

theorem getD_of_drop {xs ys : List Nat} {k : Nat} (h : xs.drop k = ys.drop k) (hl : xs.length = ys.length) : xs.getD k 0 = ys.getD k 0 := by
  by_cases hk : k < xs.length
  · have h1 : (xs.drop k)[0]? = (ys.drop k)[0]? := by rw [h]
    rw [List.getElem?_drop, List.getElem?_drop, Nat.add_zero] at h1
    simp only [List.getD, h1]
  · simp only [List.getD, List.getElem?_eq_none (by omega : xs.length ≤ k), List.getElem?_eq_none (by omega : ys.length ≤ k)]

theorem drop_succ_of {xs ys : List Nat} {k : Nat} (h : xs.drop k = ys.drop k) : xs.drop (k + 1) = ys.drop (k + 1) := by
  rw [← List.drop_drop, ← List.drop_drop, h]

theorem val_take_succ' (b : Nat) (xs : List Nat) (k : Nat) : val b (xs.take (k + 1)) = val b (xs.take k) + b ^ k * xs.getD k 0 := by
  by_cases h : k < xs.length
  · exact val_take_succ b xs k h
  · rw [List.take_of_length_le (by omega), List.take_of_length_le (by omega)]
    simp [List.getD, List.getElem?_eq_none (by omega : xs.length ≤ k)]

theorem set_all_lt {b : Nat} {xs : List Nat} (h : ∀ x ∈ xs, x < b) {k y : Nat} (hy : y < b) : ∀ x ∈ xs.set k y, x < b := by
  intro x hx
  rcases List.mem_or_eq_of_mem_set hx with h1 | h1
  · exact h x h1
  · rw [h1]; exact hy

theorem getD_set_self (xs : List Nat) (k y : Nat) (h : k < xs.length) : (xs.set k y).getD k 0 = y := by simp [List.getD, h]

structure AddInv (b : Nat) (zs xs zs' : List Nat) (k c : Nat) : Prop where
  len : zs'.length = zs.length
  lt : ∀ x ∈ zs', x < b
  carry : c ≤ 1
  rest : zs'.drop k = zs.drop k
  sum : val b (zs'.take k) + b ^ k * c = val b (zs.take k) + val b (xs.take k)

theorem AddInv.start (b : Nat) (zs xs : List Nat) (h : ∀ x ∈ zs, x < b) : AddInv b zs xs zs 0 0 := ⟨rfl, h, by omega, rfl, by simp [val]⟩

theorem AddInv.step {b : Nat} {zs xs zs' : List Nat} {k c s d : Nat} (h : AddInv b zs xs zs' k c) (hk : k < zs.length) (hs : s < b) (hd : d ≤ 1)
    (e : zs'.getD k 0 + xs.getD k 0 + c = s + b * d) : AddInv b zs xs (zs'.set k s) (k + 1) d := by
  have hl := h.len
  refine ⟨by simpa using hl, set_all_lt h.lt hs, hd, by rw [drop_set_succ]; exact drop_succ_of h.rest, ?_⟩
  rw [val_take_succ' b (zs'.set k s), take_set_self, getD_set_self _ _ _ (by omega), val_take_succ' b zs, val_take_succ' b xs, Nat.pow_succ]
  rw [getD_of_drop h.rest hl] at e
  have h1 := h.sum
  generalize zs.getD k 0 = z at *
  generalize xs.getD k 0 = x at *
  have e2 : b ^ k * (z + x + c) = b ^ k * (s + b * d) := by rw [e]
  grind

theorem AddInv.done {b : Nat} {zs xs zs' : List Nat} {k c : Nat} (h : AddInv b zs xs zs' k c) (hk : xs.length ≤ k) (hkz : k ≤ zs.length) (hc : c = 0 ∨ k = zs.length) :
    val b zs' + b ^ zs.length * c = val b zs + val b xs := by
  have h1 := h.sum
  rw [List.take_of_length_le hk] at h1
  rcases hc with rfl | rfl
  · rw [val_split b zs' k (by rw [h.len]; exact hkz), h.rest, val_split b zs k hkz]
    simp only [Nat.mul_zero, Nat.add_zero] at h1 ⊢
    omega
  · rw [List.take_of_length_le (by rw [h.len]; omega), List.take_of_length_le (Nat.le_refl _)] at h1
    exact h1

structure SubInv (b : Nat) (zs xs zs' : List Nat) (k c : Nat) : Prop where
  len : zs'.length = zs.length
  lt : ∀ x ∈ zs', x < b
  carry : c ≤ 1
  rest : zs'.drop k = zs.drop k
  sum : val b (zs'.take k) + val b (xs.take k) = val b (zs.take k) + b ^ k * c

theorem SubInv.start (b : Nat) (zs xs : List Nat) (h : ∀ x ∈ zs, x < b) : SubInv b zs xs zs 0 0 := ⟨rfl, h, by omega, rfl, by simp [val]⟩

theorem SubInv.step {b : Nat} {zs xs zs' : List Nat} {k c s d : Nat} (h : SubInv b zs xs zs' k c) (hk : k < zs.length) (hs : s < b) (hd : d ≤ 1)
    (e : zs'.getD k 0 + b * d = s + xs.getD k 0 + c) : SubInv b zs xs (zs'.set k s) (k + 1) d := by
  have hl := h.len
  refine ⟨by simpa using hl, set_all_lt h.lt hs, hd, by rw [drop_set_succ]; exact drop_succ_of h.rest, ?_⟩
  rw [val_take_succ' b (zs'.set k s), take_set_self, getD_set_self _ _ _ (by omega), val_take_succ' b zs, val_take_succ' b xs, Nat.pow_succ]
  rw [getD_of_drop h.rest hl] at e
  have h1 := h.sum
  generalize zs.getD k 0 = z at *
  generalize xs.getD k 0 = x at *
  have e2 : b ^ k * (z + b * d) = b ^ k * (s + x + c) := by rw [e]
  grind

theorem SubInv.done {b : Nat} {zs xs zs' : List Nat} {k c : Nat} (h : SubInv b zs xs zs' k c) (hk : xs.length ≤ k) (hkz : k ≤ zs.length) (hc : c = 0 ∨ k = zs.length) :
    val b zs' + val b xs = val b zs + b ^ zs.length * c := by
  have h1 := h.sum
  rw [List.take_of_length_le hk] at h1
  rcases hc with rfl | rfl
  · rw [val_split b zs' k (by rw [h.len]; exact hkz), h.rest, val_split b zs k hkz]
    simp only [Nat.mul_zero, Nat.add_zero] at h1 ⊢
    omega
  · rw [List.take_of_length_le (by rw [h.len]; omega), List.take_of_length_le (Nat.le_refl _)] at h1
    exact h1

structure MulInv (b : Nat) (zs xs : List Nat) (y : Nat) (zs' : List Nat) (k c : Nat) : Prop where
  len : zs'.length = zs.length
  lt : ∀ x ∈ zs', x < b
  carry : c < b
  rest : zs'.drop k = zs.drop k
  sum : val b (zs'.take k) + b ^ k * c = val b (zs.take k) + val b (xs.take k) * y

theorem MulInv.start {b : Nat} (hb : 0 < b) (zs xs : List Nat) (y : Nat) (h : ∀ x ∈ zs, x < b) : MulInv b zs xs y zs 0 0 := ⟨rfl, h, hb, rfl, by simp [val]⟩

theorem MulInv.step {b : Nat} {zs xs zs' : List Nat} {y k c s d : Nat} (h : MulInv b zs xs y zs' k c) (hk : k < zs.length) (hs : s < b) (hd : d < b)
    (e : xs.getD k 0 * y + zs'.getD k 0 + c = s + b * d) : MulInv b zs xs y (zs'.set k s) (k + 1) d := by
  have hl := h.len
  refine ⟨by simpa using hl, set_all_lt h.lt hs, hd, by rw [drop_set_succ]; exact drop_succ_of h.rest, ?_⟩
  rw [val_take_succ' b (zs'.set k s), take_set_self, getD_set_self _ _ _ (by omega), val_take_succ' b zs, val_take_succ' b xs, Nat.pow_succ]
  rw [getD_of_drop h.rest hl] at e
  have h1 := h.sum
  generalize zs.getD k 0 = z at *
  generalize xs.getD k 0 = x at *
  have e2 : b ^ k * (x * y + z + c) = b ^ k * (s + b * d) := by rw [e]
  grind

theorem MulInv.done {b : Nat} {zs xs zs' : List Nat} {y c : Nat} (h : MulInv b zs xs y zs' zs.length c) (hx : xs.length = zs.length) :
    val b zs' + b ^ zs.length * c = val b zs + val b xs * y := by
  have h1 := h.sum
  rw [List.take_of_length_le (by rw [h.len]; omega), List.take_of_length_le (Nat.le_refl _), List.take_of_length_le (by omega)] at h1
  exact h1

theorem mul_step_bound {b x y z c : Nat} (hx : x < b) (hy : y < b) (hz : z < b) (hc : c < b) : (x * y + z + c) / b < b := by
  have h1 : x * y ≤ (b - 1) * (b - 1) := Nat.mul_le_mul (by omega) (by omega)
  obtain ⟨d, rfl⟩ : ∃ d, b = d + 1 := ⟨b - 1, by omega⟩
  simp only [Nat.add_sub_cancel] at h1
  rw [Nat.div_lt_iff_lt_mul (by omega)]
  have : (d + 1) * (d + 1) = d * d + d + d + 1 := by grind
  omega

end Go.Proofs.YtfjjmhbffbhhdaaDoor

/- Sums and differences of rows, in place. -/
namespace Go.Proofs.YtfjjmhbffbhhdaaDoor
open Go.RowKit

def RetAdd (w : World) (bz oz lz : Nat) (zs xs : List Nat) : Ending → World → Prop := fun e w' => e = .returned (.tuple #[]) ∧
  ∃ zs' c, zs'.length = lz ∧ (∀ x ∈ zs', x < 2 ^ 64) ∧ c ≤ 1 ∧ val (2 ^ 64) zs' + (2 ^ 64) ^ lz * c = val (2 ^ 64) zs + val (2 ^ 64) xs ∧ At w' .u64 bz oz zs' ∧ Only w w' bz oz lz

set_option maxHeartbeats 1000000 in
theorem addTo_any (bz oz cz bx ox cx lz lx : Nat) (zs xs : List Nat) (w : World) (hz : zs.length = lz) (hx : xs.length = lx) (hle : lx ≤ lz) (hlz : lz ≤ 4000000)
    (hne : bx ≠ bz) (h1 : At w .u64 bz oz zs) (hF : Fr w bz oz lz) (h2 : At w .u64 bx ox xs) (hZ : ∀ x ∈ zs, x < 2 ^ 64) (hX : ∀ x ∈ xs, x < 2 ^ 64) :
    Calls Tryd.prog 65 #[.slice (some ⟨bz, oz, none⟩) lz cz, .slice (some ⟨bx, ox, none⟩) lx cx] w (RetAdd w bz oz lz zs xs) := by
  have H1 := Lib.hid h1; have HF := Lib.hid hF; have H2 := Lib.hid h2; have HZ := Lib.hid hZ; have HX := Lib.hid hX; have HLZ := Lib.hid hz; have HLX := Lib.hid hx
  clear h1 hF h2 hZ hX hz hx
  go_enter Tryd.func65, Tryd.ntmps65
  go_wp2
  go_loopw [4, 10] (fun c i wr => ∃ k c' : Nat, k ≤ lx ∧ i = .int .i64 k ∧ c = .int .u64 (c' : Int) ∧ ∃ zs', Hid (AddInv (2 ^ 64) zs xs zs' k c') ∧ At wr .u64 bz oz zs' ∧ Only w wr bz oz lz) (fun _ i _ => lx - (intOf i).toNat)
  case atStart => exact ⟨0, 0, Nat.zero_le _, rfl, rfl, zs, Lib.hid (AddInv.start _ _ _ HZ.out), H1.out, Only.refl _ _ _ _⟩
  case round =>
    obtain ⟨k, c, hk, rfl, rfl, zs', HI, hA, hO⟩ := hrel
    by_cases hlt : k < lx
    · have hzl : zs'.length = lz := by rw [HI.out.len, HLZ.out]
      have c1 := hA k (by omega)
      have f1 := (HF.out.only hO) k (by omega)
      have c2 := (H2.out.only hO hne) k (by rw [HLX.out]; omega)
      have hx1 := getD_lt HX.out (by omega) k
      have hz1 := getD_lt HI.out.lt (by omega) k
      have hc1 := HI.out.carry
      obtain ⟨s, d, hs, hs2, hd⟩ : ∃ s d, zs'.getD k 0 + xs.getD k 0 + c = s + 2 ^ 64 * d ∧ s < 2 ^ 64 ∧ d ≤ 1 := ⟨(zs'.getD k 0 + xs.getD k 0 + c) % 2 ^ 64, (zs'.getD k 0 + xs.getD k 0 + c) / 2 ^ 64, by omega, by omega, by omega⟩
      have hadd := call_add64' _ _ _ _ _ hc1 hs hs2
      have HN := Lib.hid (HI.out.step (by rw [HLZ.out]; omega) hs2 hd hs)
      generalize zs'.getD k 0 = z at *
      generalize xs.getD k 0 = x at *
      have i1 : (0 : Int) ≤ k := by omega
      have i2 : (k : Int) < lz := by omega
      have i3 : (k : Int) < lx := by omega
      clear hs hs2 hx1 hz1 hc1 hd HI
      go_wp2
      go_roundw
      case rel => exact ⟨k + 1, d, by omega, by go_num, rfl, zs'.set k s, HN, hA.set k s (by omega), hO.setCell _ (by omega) (by omega) _⟩
      case measure => simp [intOf]; omega
    · obtain rfl : k = lx := by omega
      go_wp2
      clear hlt
      go_loopw [4, 7] (fun c i wr => ∃ j c' : Nat, k ≤ j ∧ j ≤ lz ∧ i = .int .i64 j ∧ c = .int .u64 (c' : Int) ∧ ∃ zs', Hid (AddInv (2 ^ 64) zs xs zs' j c') ∧ At wr .u64 bz oz zs' ∧ Only w wr bz oz lz) (fun _ i _ => lz - (intOf i).toNat)
      case atStart => exact ⟨k, c, Nat.le_refl _, by omega, rfl, rfl, zs', HI, hA, hO⟩
      case round =>
        clear HI hA hO
        obtain ⟨j, c, hkj, hj, rfl, rfl, zs', HI, hA, hO⟩ := hrel
        have fin : (c = 0 ∨ j = lz) → RetAdd w bz oz lz zs xs (.returned (.tuple #[])) wr := fun hc =>
          ⟨rfl, zs', c, by rw [HI.out.len, HLZ.out], HI.out.lt, HI.out.carry, by have := HI.out.done (by rw [HLX.out]; omega) (by rw [HLZ.out]; omega) (by rw [HLZ.out]; exact hc); rwa [HLZ.out] at this, hA, hO⟩
        have FIN := Lib.hid fin; clear fin
        by_cases h0 : c = 0
        · subst h0
          go_wp2
          go_end0
          exact FIN.out (by simp)
        · have d0 : ((c : Int) != 0) = true := by rw [bne_iff_ne]; omega
          by_cases hlt : j < lz
          · have hzl : zs'.length = lz := by rw [HI.out.len, HLZ.out]
            have c1 := hA j (by omega)
            have f1 := (HF.out.only hO) j (by omega)
            have hz1 := getD_lt HI.out.lt (by omega) j
            have hc1 := HI.out.carry
            have hx0 : xs.getD j 0 = 0 := by simp only [List.getD, List.getElem?_eq_none (by rw [HLX.out]; omega : xs.length ≤ j)]; rfl
            obtain ⟨s, d, hs, hs2, hd⟩ : ∃ s d, zs'.getD j 0 + c + 0 = s + 2 ^ 64 * d ∧ s < 2 ^ 64 ∧ d ≤ 1 := ⟨(zs'.getD j 0 + c) % 2 ^ 64, (zs'.getD j 0 + c) / 2 ^ 64, by omega, by omega, by omega⟩
            have hadd := call_add64' _ _ 0 _ _ (by omega) hs hs2
            rw [Int.natCast_zero] at hadd
            have HN := Lib.hid (HI.out.step (by rw [HLZ.out]; omega) hs2 hd (by rw [hx0]; omega))
            generalize zs'.getD j 0 = z at *
            have i1 : (0 : Int) ≤ j := by omega
            have i2 : (j : Int) < lz := by omega
            clear hs hs2 hz1 hc1 hd HI hx0 FIN h0
            go_wp2
            go_roundw
            case rel => exact ⟨j + 1, d, by omega, by omega, by go_num, rfl, zs'.set j s, HN, hA.set j s (by omega), hO.setCell _ (by omega) (by omega) _⟩
            case measure => simp [intOf]; omega
          · have i2 : ¬ ((j : Int) < lz) := by omega
            go_wp2
            go_end0
            exact FIN.out (Or.inr (by omega))
end Go.Proofs.YtfjjmhbffbhhdaaDoor

/- Differences of rows, in place. -/
namespace Go.Proofs.YtfjjmhbffbhhdaaDoor
open Go.RowKit

def RetSub (w : World) (bz oz lz : Nat) (zs xs : List Nat) : Ending → World → Prop := fun e w' => e = .returned (.tuple #[]) ∧
  ∃ zs' c, zs'.length = lz ∧ (∀ x ∈ zs', x < 2 ^ 64) ∧ c ≤ 1 ∧ val (2 ^ 64) zs' + val (2 ^ 64) xs = val (2 ^ 64) zs + (2 ^ 64) ^ lz * c ∧ At w' .u64 bz oz zs' ∧ Only w w' bz oz lz

set_option maxHeartbeats 1000000 in
theorem subFrom_any (bz oz cz bx ox cx lz lx : Nat) (zs xs : List Nat) (w : World) (hz : zs.length = lz) (hx : xs.length = lx) (hle : lx ≤ lz) (hlz : lz ≤ 4000000)
    (hne : bx ≠ bz) (h1 : At w .u64 bz oz zs) (hF : Fr w bz oz lz) (h2 : At w .u64 bx ox xs) (hZ : ∀ x ∈ zs, x < 2 ^ 64) (hX : ∀ x ∈ xs, x < 2 ^ 64) :
    Calls Tryd.prog 30 #[.slice (some ⟨bz, oz, none⟩) lz cz, .slice (some ⟨bx, ox, none⟩) lx cx] w (RetSub w bz oz lz zs xs) := by
  have H1 := Lib.hid h1; have HF := Lib.hid hF; have H2 := Lib.hid h2; have HZ := Lib.hid hZ; have HX := Lib.hid hX; have HLZ := Lib.hid hz; have HLX := Lib.hid hx
  clear h1 hF h2 hZ hX hz hx
  go_enter Tryd.func30, Tryd.ntmps30
  go_wp2
  go_loopw [4, 10] (fun c i wr => ∃ k c' : Nat, k ≤ lx ∧ i = .int .i64 k ∧ c = .int .u64 (c' : Int) ∧ ∃ zs', Hid (SubInv (2 ^ 64) zs xs zs' k c') ∧ At wr .u64 bz oz zs' ∧ Only w wr bz oz lz) (fun _ i _ => lx - (intOf i).toNat)
  case atStart => exact ⟨0, 0, Nat.zero_le _, rfl, rfl, zs, Lib.hid (SubInv.start _ _ _ HZ.out), H1.out, Only.refl _ _ _ _⟩
  case round =>
    obtain ⟨k, c, hk, rfl, rfl, zs', HI, hA, hO⟩ := hrel
    by_cases hlt : k < lx
    · have hzl : zs'.length = lz := by rw [HI.out.len, HLZ.out]
      have c1 := hA k (by omega)
      have f1 := (HF.out.only hO) k (by omega)
      have c2 := (H2.out.only hO hne) k (by rw [HLX.out]; omega)
      have hx1 := getD_lt HX.out (by omega) k
      have hz1 := getD_lt HI.out.lt (by omega) k
      have hc1 := HI.out.carry
      obtain ⟨s, d, hs, hs2, hd⟩ : ∃ s d, zs'.getD k 0 + 2 ^ 64 * d = s + xs.getD k 0 + c ∧ s < 2 ^ 64 ∧ d ≤ 1 := by
        by_cases hb : xs.getD k 0 + c ≤ zs'.getD k 0
        · exact ⟨zs'.getD k 0 - (xs.getD k 0 + c), 0, by omega, by omega, by omega⟩
        · exact ⟨zs'.getD k 0 + 2 ^ 64 - (xs.getD k 0 + c), 1, by omega, by omega, by omega⟩
      have hadd := call_sub64' _ _ _ _ _ hc1 hz1 hx1 hs hs2
      have HN := Lib.hid (HI.out.step (by rw [HLZ.out]; omega) hs2 hd hs)
      generalize zs'.getD k 0 = z at *
      generalize xs.getD k 0 = x at *
      have i1 : (0 : Int) ≤ k := by omega
      have i2 : (k : Int) < lz := by omega
      have i3 : (k : Int) < lx := by omega
      clear hs hs2 hx1 hz1 hc1 hd HI
      go_wp2
      go_roundw
      case rel => exact ⟨k + 1, d, by omega, by go_num, rfl, zs'.set k s, HN, hA.set k s (by omega), hO.setCell _ (by omega) (by omega) _⟩
      case measure => simp [intOf]; omega
    · obtain rfl : k = lx := by omega
      go_wp2
      clear hlt
      go_loopw [4, 7] (fun c i wr => ∃ j c' : Nat, k ≤ j ∧ j ≤ lz ∧ i = .int .i64 j ∧ c = .int .u64 (c' : Int) ∧ ∃ zs', Hid (SubInv (2 ^ 64) zs xs zs' j c') ∧ At wr .u64 bz oz zs' ∧ Only w wr bz oz lz) (fun _ i _ => lz - (intOf i).toNat)
      case atStart => exact ⟨k, c, Nat.le_refl _, by omega, rfl, rfl, zs', HI, hA, hO⟩
      case round =>
        clear HI hA hO
        obtain ⟨j, c, hkj, hj, rfl, rfl, zs', HI, hA, hO⟩ := hrel
        have fin : (c = 0 ∨ j = lz) → RetSub w bz oz lz zs xs (.returned (.tuple #[])) wr := fun hc =>
          ⟨rfl, zs', c, by rw [HI.out.len, HLZ.out], HI.out.lt, HI.out.carry, by have := HI.out.done (by rw [HLX.out]; omega) (by rw [HLZ.out]; omega) (by rw [HLZ.out]; exact hc); rwa [HLZ.out] at this, hA, hO⟩
        have FIN := Lib.hid fin; clear fin
        by_cases h0 : c = 0
        · subst h0
          go_wp2
          go_end0
          exact FIN.out (by simp)
        · have d0 : ((c : Int) != 0) = true := by rw [bne_iff_ne]; omega
          by_cases hlt : j < lz
          · have hzl : zs'.length = lz := by rw [HI.out.len, HLZ.out]
            have c1 := hA j (by omega)
            have f1 := (HF.out.only hO) j (by omega)
            have hz1 := getD_lt HI.out.lt (by omega) j
            have hc1 := HI.out.carry
            have hx0 : xs.getD j 0 = 0 := by simp only [List.getD, List.getElem?_eq_none (by rw [HLX.out]; omega : xs.length ≤ j)]; rfl
            obtain ⟨s, d, hs, hs2, hd⟩ : ∃ s d, zs'.getD j 0 + 2 ^ 64 * d = s + c + 0 ∧ s < 2 ^ 64 ∧ d ≤ 1 := by
              by_cases hb : c ≤ zs'.getD j 0
              · exact ⟨zs'.getD j 0 - c, 0, by omega, by omega, by omega⟩
              · exact ⟨zs'.getD j 0 + 2 ^ 64 - c, 1, by omega, by omega, by omega⟩
            have hadd := call_sub64' _ _ 0 _ _ (by omega) hz1 (by omega) hs hs2
            rw [Int.natCast_zero] at hadd
            have HN := Lib.hid (HI.out.step (by rw [HLZ.out]; omega) hs2 hd (by rw [hx0]; omega))
            generalize zs'.getD j 0 = z at *
            have i1 : (0 : Int) ≤ j := by omega
            have i2 : (j : Int) < lz := by omega
            clear hs hs2 hz1 hc1 hd HI hx0 FIN h0
            go_wp2
            go_roundw
            case rel => exact ⟨j + 1, d, by omega, by omega, by go_num, rfl, zs'.set j s, HN, hA.set j s (by omega), hO.setCell _ (by omega) (by omega) _⟩
            case measure => simp [intOf]; omega
          · have i2 : ¬ ((j : Int) < lz) := by omega
            go_wp2
            go_end0
            exact FIN.out (Or.inr (by omega))
end Go.Proofs.YtfjjmhbffbhhdaaDoor
