/- The document's own numbers: made, measured, as bytes. -/
import Derived.Test.YtciohlbpjaighaaDoorBits
namespace Go.Proofs.YtciohlbpjaighaaDoor
open Go.RowKit

def dr (n : Nat) : List Nat := digs (2 ^ 32) n

/-- The parts of a slice say the document's number n. -/
def IsR (w : World) (p : Option Addr) (l c : Nat) (n : Nat) : Prop :=
  l = (dr n).length ∧ l ≤ c ∧ (n ≠ 0 → ∃ b off, p = some ⟨b, off, none⟩ ∧ At w .u32 b off (dr n))

theorem IsR.mono {w w' : World} {p : Option Addr} {l c n : Nat} (h : IsR w p l c n) (hb : Below w.heap.size w w') : IsR w' p l c n := by
  obtain ⟨h1, h2, h3⟩ := h
  refine ⟨h1, h2, fun hn => ?_⟩
  obtain ⟨b, off, h4, h5⟩ := h3 hn
  exact ⟨b, off, h4, h5.mono hb⟩

def RetR (W : World) (n : Nat) : Ending → World → Prop := fun e w' =>
  ∃ p l c, e = .returned (.slice p l c) ∧ IsR w' p l c n ∧ Below W.heap.size W w'

theorem dr_zero : dr 0 = [] := digs_zero _
theorem dr_lt (n : Nat) : ∀ x ∈ dr n, x < 2 ^ 32 := digs_lt (by omega) n
theorem val_dr (n : Nat) : val (2 ^ 32) (dr n) = n := val_digs (by omega) n
theorem dr_pos {n : Nat} (h : n ≠ 0) : 0 < (dr n).length := List.length_pos_iff.2 (digs_ne_nil (by omega) h)

/-- A trimmed row is the document's number. -/
theorem RetTrim.isR {W w' : World} {b off c : Nat} {xs : List Nat} {e : Ending} (h : RetTrim W (2 ^ 32) b off c xs e w') (ha : At W .u32 b off xs) (hc : xs.length ≤ c) : RetR W (val (2 ^ 32) xs) e w' := by
  obtain ⟨rfl, h2, h3⟩ := h
  have hl : (digs (2 ^ 32) (val (2 ^ 32) xs)).length ≤ xs.length := by rw [← h3, List.length_take]; omega
  refine ⟨_, _, _, h2, ⟨rfl, by omega, fun _ => ⟨b, off, rfl, ?_⟩⟩, Below.refl _ _⟩
  unfold dr; rw [← h3]; exact ha.take _

theorem rtrim_n (b off c l : Nat) (xs : List Nat) (hl' : xs.length = l) (w : World) (h : At w .u32 b off xs) (hx : ∀ x ∈ xs, x < 2 ^ 32) (hl : l ≤ 281474976710656) (hc : l ≤ c) :
    Calls Tryd.prog 31 #[.slice (some ⟨b, off, none⟩) l c] w (RetR w (val (2 ^ 32) xs)) := by
  subst hl'
  exact (rtrim_any b off c xs w h hx hl hc).mono fun e w' h1 => h1.isR h hc

set_option maxHeartbeats 400000 in
theorem rof_any (n : Nat) (hn : n < 2 ^ 64) (w : World) : Calls Tryd.prog 28 #[.int .u64 (n : Int)] w (RetR w n) := by
  have hv : Hid (val (2 ^ 32) [n % 4294967296, n / 4294967296] = n) := Lib.hid (by simp [val]; omega)
  have hx : Hid (∀ x ∈ [n % 4294967296, n / 4294967296], x < 2 ^ 32) := Lib.hid (by simp; omega)
  have HN := Lib.hid hn; clear hn
  go_enter Tryd.func28, Tryd.ntmps28
  go_wp2_with fail
  have hn := HN.out
  rw [show (n : Int) / 4294967296 % 4294967296 = ((n / 4294967296 : Nat) : Int) from by omega, show (n : Int) % 4294967296 = ((n % 4294967296 : Nat) : Int) from by omega]
  clear hn
  refine (rtrim_n _ _ _ 2 [n % 4294967296, n / 4294967296] rfl _ (At.new2 _ _ _ _ _) hx.out (by omega) (by omega)).mono ?_
  rintro e w1 ⟨p, l, c, rfl, h1, hb⟩
  go_wp2
  go_ret
  rw [hv.out] at h1
  exact ⟨_, _, _, rfl, h1, (by repeat' first | exact Below.refl _ _ | refine below_alloc ?_ _ | refine below_step ?_ (by assumption))⟩

set_option maxHeartbeats 400000 in
theorem rbits_any (n : Nat) (p : Option Addr) (l c : Nat) (w : World) (h : IsR w p l c n) (hl : l ≤ 1000000) :
    Calls Tryd.prog 29 #[.slice p l c] w fun e w' => w = w' ∧ e = .returned (.int .i64 (bitLen n : Nat)) := by
  obtain ⟨h1, h2, h3⟩ := h
  by_cases hn : n = 0
  · subst hn
    rw [dr_zero] at h1
    obtain rfl : l = 0 := h1
    clear h3
    go_enter Tryd.func29, Tryd.ntmps29
    go_wp2
    go_ret
    exact ⟨rfl, rfl⟩
  · obtain ⟨b, off, rfl, h5⟩ := h3 hn
    have hp := dr_pos hn
    have hc := h5 ((dr n).length - 1) (by omega)
    have ht := bitLen_top (e := 32) (by omega) hn
    have hx := getD_lt (dr_lt n) (by omega) ((dr n).length - 1)
    change bitLen n = 32 * ((dr n).length - 1) + bitLen ((dr n).getD ((dr n).length - 1) 0) at ht
    generalize (dr n).getD ((dr n).length - 1) 0 = x at *
    rw [← h1] at hc ht hp
    have d0 : ((l : Int) == 0) = false := beq_eq_false_iff_ne.2 (by omega)
    have hbn : bitLen n ≤ 32000000 := by have := bitLen_lt_pow.1 hx; omega
    have HT := Lib.hid ht; have H1 := Lib.hid h1
    clear h1 ht h5 h3
    go_enter Tryd.func29, Tryd.ntmps29
    go_wp2
    go_loop [3, 4] (fun k y => ∃ y' k' : Nat, k = .int .i64 k' ∧ y = .int .u32 y' ∧ y' ≤ x ∧ k' ≤ 64000000 ∧ Hid (k' + bitLen y' = bitLen n)) (fun _ y => (intOf y).toNat)
    case atStart =>
      have hb := bitLen_lt_pow.1 hx
      refine ⟨x, 32 * (l - 1), by go_num, rfl, Nat.le_refl _, by omega, Lib.hid ?_⟩
      rw [HT.out]
    case round =>
      obtain ⟨y, k, rfl, rfl, hy, hk, HI⟩ := hrel
      by_cases h0 : y = 0
      · subst h0
        go_wp2
        go_ret
        exact ⟨rfl, ret_int (by have := HI.out; simp [bitLen] at this ⊢; omega)⟩
      · have h0' : 0 < y := by omega
        have HB : Hid (bitLen y = 1 + bitLen (y / 2)) := Lib.hid (by
          unfold bitLen
          rw [if_neg h0]
          by_cases h2 : y / 2 = 0
          · have : y = 1 := by omega
            subst this; rfl
          · rw [if_neg h2]
            have : y.log2 = (y / 2).log2 + 1 := by rw [Nat.log2_def y, if_pos (by omega)]
            omega)
        clear h0
        have hk2 : k + 1 ≤ 64000000 := by
          have h1 := HI.out; have h2 := HB.out
          omega
        go_wp2
        go_round
        case rel => exact ⟨y / 2, k + 1, by go_num, by go_num, by omega, by omega, Lib.hid (by have h1 := HI.out; have h2 := HB.out; omega)⟩
        case measure => simp [intOf]; omega

set_option maxHeartbeats 400000 in
/-- The bytes of the document's numbers. -/
theorem rbytes_any (n : Nat) (p : Option Addr) (l c : Nat) (w : World) (h : IsR w p l c n) (hl : l ≤ 1000000) :
    Calls Tryd.prog 33 #[.slice p l c] w (RetW w .u8 (be n)) := by
  have hmb : bitLen n ≤ 32 * l := by
    have h1 := h.1
    by_cases hn : n = 0
    · subst hn; simp [bitLen]
    · have ht := bitLen_top (e := 32) (by omega) hn
      have hx := bitLen_lt_pow.1 (getD_lt (dr_lt n) (by omega) ((dr n).length - 1))
      have := dr_pos hn
      change bitLen n = 32 * ((dr n).length - 1) + bitLen ((dr n).getD ((dr n).length - 1) 0) at ht
      omega
  obtain ⟨m, hm⟩ : ∃ m, m = (bitLen n + 7) / 8 := ⟨_, rfl⟩
  have hdl : m ≤ 4 * l := by omega
  have HM := Lib.hid (make_u8 m (by omega))
  have hz : n = 0 ∨ ∃ b off, p = some ⟨b, off, none⟩ ∧ At w .u32 b off (dr n) := by
    by_cases hn : n = 0
    · exact Or.inl hn
    · exact Or.inr (h.2.2 hn)
  have H1 := Lib.hid h.1
  have hm0 : n = 0 → m = 0 := fun h0 => by subst h0; rw [hm]; rfl
  have H := Lib.hid h
  have HZ := Lib.hid hz
  have HM0 := Lib.hid hm0
  have hq : (((bitLen n : Nat) : Int) + 7) / 8 = (m : Int) := by omega
  have hm8 : m ≤ 4000000 := by omega
  have HMM := Lib.hid hm
  have hmk := HM.out
  clear h hz hm hmb hm0
  go_enter Tryd.func33, Tryd.ntmps33
  go_wp2_with (go_at_call 29; refine (rbits_any n _ _ _ _ H.out hl).mono ?_; rintro e w1 ⟨rfl, rfl⟩)
  have A3 := At.made w .u8 m 5
  have F3 := Fr.made w .u8 m m 5
  have B3 : Below w.heap.size w (w.alloc (.cells (madeCells #[.int .u8 0] m) 5)) := below_alloc (Below.refl _ _) _
  have hz2 : w.heap.size < (w.alloc (.cells (madeCells #[.int .u8 0] m) 5)).heap.size := by simp
  obtain ⟨w3, hw3⟩ : ∃ w3, w3 = w.alloc (.cells (madeCells #[.int .u8 0] m) 5) := ⟨_, rfl⟩
  rw [← hw3] at A3 F3 B3 hz2 ⊢
  obtain ⟨g, hg⟩ : ∃ g, g = w.heap.size := ⟨_, rfl⟩
  have HG := Lib.hid hg
  rw [← hg] at A3 F3 hz2 ⊢
  have HA3 := Lib.hid A3; have HF3 := Lib.hid F3; have HB3 := Lib.hid B3
  have HQ := Lib.hid hq
  clear hw3 hg A3 F3 B3 hq hmk HM
  rw [HQ.out]
  go_loopw [5] (fun i wr => ∃ k : Nat, k ≤ m ∧ i = .int .i64 k ∧ ∃ L : List Nat, L.length = m ∧ At wr .u8 g 0 L ∧ Hid (∀ j, j < k → L.getD (m - 1 - j) 0 = n / 256 ^ j % 256) ∧ Only w3 wr g 0 m) (fun i _ => m - (intOf i).toNat)
  case atStart => exact ⟨0, Nat.zero_le _, rfl, List.replicate m 0, by simp, HA3.out, Lib.hid fun j h => by omega, Only.refl _ _ _ _⟩
  case round =>
    obtain ⟨k, hk, rfl, L, hL, hA, HI, hO⟩ := hrel
    by_cases hlt : k < m
    · obtain ⟨b, off, rfl, hAt⟩ := HZ.out.resolve_left (fun h0 => by have := HM0.out h0; omega)
      have hbl : b < g := by
        have := hAt.lt (by rw [← H1.out]; omega)
        rw [HG.out]; exact this
      have c1 := hA.zero (m - 1 - k) (by omega)
      have c2 := (HF3.out.only hO).zero (m - 1 - k) (by omega)
      have c3 := ((hAt.mono HB3.out).only hO (by omega)) (k / 4) (by rw [← H1.out]; omega)
      have i1 : (0 : Int) ≤ (m : Int) - 1 - k := by omega
      have i2 : (0 : Int) ≤ (k : Int) / 4 := by omega
      have i3 : (k : Int) / 4 < l := by omega
      have hx : (dr n).getD (k / 4) 0 / 2 ^ (8 * (k % 4)) % 256 = n / 256 ^ k % 256 := by
        have h1 := byte_of_digit 4 n k (by omega)
        rw [← digs_getD (b := 2 ^ (8 * 4)) (by omega)] at h1
        rw [← h1]; rfl
      have HX := Lib.hid hx; clear hx hAt
      generalize (dr n).getD (k / 4) 0 = x at *
      go_wp2
      go_roundw
      case rel =>
        refine ⟨k + 1, by omega, by go_num, L.set (m - 1 - k) (x / 2 ^ (8 * (k % 4)) % 256), by simpa using hL, ?_, Lib.hid fun j hj => ?_, ?_⟩
        · have := hA.set (m - 1 - k) (x / 2 ^ (8 * (k % 4)) % 256) (by omega)
          rw [Nat.zero_add, shr_cast] at this
          exact this
        · rw [getD_set _ _ _ _ (by omega)]
          by_cases e : j = k
          · subst e; rw [if_pos rfl, HX.out]
          · rw [if_neg (by omega)]; exact HI.out j (by omega)
        · exact hO.setCell _ (by omega) (by omega) _
      case measure => simp [intOf]; omega
    · go_wp2
      go_ret
      obtain rfl : k = m := by omega
      have e := be_eq HMM.out.symm hL HI.out
      rw [e] at hA hL
      exact ⟨g, 0, k, ret_slice hL.symm, by omega, by rw [HG.out]; exact Nat.le_refl _, hA, by rw [hL]; exact HF3.out.only hO, HB3.out.trans (hO.below (by rw [HG.out]; exact Nat.le_refl _) (by rw [← HG.out]; omega))⟩
end Go.Proofs.YtciohlbpjaighaaDoor
