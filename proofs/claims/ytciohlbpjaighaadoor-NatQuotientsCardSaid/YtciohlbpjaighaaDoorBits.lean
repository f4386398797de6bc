/- New rows; the bits and the bytes of the program's numbers; the document's numbers. -/
import Derived.Test.YtciohlbpjaighaaDoorLeaf
import Derived.Test.YtciohlbpjaighaaDoorB8
import Derived.Test.YtciohlbpjaighaaDoorShelf
import Derived.OwnWalk
import Derived.Laws.MakeOwn
namespace Go.Proofs.YtciohlbpjaighaaDoor
open Go.RowKit

theorem Tryd.infoU32 : (Tryd.prog.info? 57).map (fun i => (i.zero, i.size, i.bytes)) = some (some (.int .u32 0), 1, 4) := by kernel_rfl
theorem Tryd.infoU64 : (Tryd.prog.info? 23).map (fun i => (i.zero, i.size, i.bytes)) = some (some (.int .u64 0), 1, 8) := by kernel_rfl

theorem make_u64 (n : Nat) (hn : n ≤ 1099511627776) (w : World) : (Instr.makeSlice 24 (.int .i64 (n : Int)) (.int .i64 (n : Int))).run Tryd.prog w = .ok (.slice (some ⟨w.heap.size, 0, none⟩) n n) (w.alloc (.cells (madeCells #[.int .u64 0] n) 23)) :=
  run_make_one _ _ _ 8 n Tryd.underlying24 Tryd.infoU64 (by omega) hn w
theorem make_rn (n : Nat) (hn : n ≤ 1099511627776) (w : World) : (Instr.makeSlice 28 (.int .i64 (n : Int)) (.int .i64 (n : Int))).run Tryd.prog w = .ok (.slice (some ⟨w.heap.size, 0, none⟩) n n) (w.alloc (.cells (madeCells #[.int .u32 0] n) 57)) :=
  run_make_one _ _ _ 4 n Tryd.underlying28 Tryd.infoU32 (by omega) hn w

/-- The bits as the library counts them. -/
theorem lib_bitLen {n : Nat} (h : n < 2 ^ 64) : Lib.bitLen n = bitLen n := by
  have key : ∀ f x, x < 2 ^ f → Lib.bitLenAux f x = bitLen x := by
    intro f
    induction f with
    | zero => intro x hx; have : x = 0 := by simpa using hx
              subst this; rfl
    | succ f ih =>
      intro x hx
      by_cases h0 : x = 0
      · subst h0; simp [Lib.bitLenAux, bitLen]
      · have h1 := ih (x / 2) (by rw [Nat.pow_succ] at hx; omega)
        rw [Lib.bitLenAux, if_neg h0, h1]
        unfold bitLen
        rw [if_neg h0]
        by_cases h2 : x / 2 = 0
        · have : x = 1 := by omega
          subst this; rfl
        · rw [if_neg h2]
          have : x.log2 = (x / 2).log2 + 1 := by
            rw [Nat.log2_def x, if_pos (by omega)]
          omega
  exact key 64 n h

theorem len64_any (n : Nat) (hn : n < 2 ^ 64) (w : World) : Calls Tryd.prog 25 #[.int .u64 (n : Int)] w fun e w' => w = w' ∧ e = .returned (.int .i64 (bitLen n : Nat)) :=
  (Tryd.bits_Len64 (n : Int) w (by omega) (by omega)).mono fun e w' ⟨h1, h2⟩ => ⟨h2.symm, by rw [h1, Int.toNat_natCast, lib_bitLen hn]⟩

theorem bitLen_ds (n : Nat) : bitLen n = 64 * ((ds n).length - 1) + bitLen ((ds n).getD ((ds n).length - 1) 0) := by
  by_cases h : n = 0
  · subst h; rfl
  · rw [ds_big h]; exact bitLen_top (by omega) h

set_option maxHeartbeats 400000 in
/-- The bits of the program's numbers. -/
theorem nbits_any (n : Nat) (s : Int) (p : Option Addr) (l c : Nat) (w : World) (h : IsN w s p l c n) (hl : (ds n).length ≤ 281474976710656) :
    Calls Tryd.prog 8 #[.agg #[.int .u64 s, .slice p l c]] w fun e w' => e = .returned (.int .i64 (bitLen n : Nat)) ∧ Below w.heap.size w w' := by
  have hp := ds_pos n
  have HS := Lib.hid (bitLen_ds n)
  have HT := Lib.hid (getD_lt (ds_lt n) (by omega) ((ds n).length - 1))
  have HD := Lib.hid (rfl : ds n = ds n)
  go_enter Tryd.func8, Tryd.ntmps8
  go_wp2_with fail
  refine (list_any n s p l c _ (h.mono (by repeat' first | exact Below.refl _ _ | refine below_alloc ?_ _))).mono ?_
  rintro e w1 ⟨b, off, c', rfl, h1, h2, hb⟩
  have hcell := h2 ((ds n).length - 1) (by omega)
  have hx : bitLen ((ds n).getD ((ds n).length - 1) 0) ≤ 64 := bitLen_lt_pow.1 HT.out
  generalize (ds n).getD ((ds n).length - 1) 0 = x at *
  generalize (ds n).length = m at *
  go_wp2_with (go_at_call 25; refine (len64_any x HT.out _).mono ?_; rintro e w2 ⟨rfl, rfl⟩)
  go_ret
  exact ⟨ret_int (by rw [HS.out]; omega), (by repeat' first | exact Below.refl _ _ | refine below_alloc ?_ _ | refine below_step ?_ (by assumption))⟩

/-- The bytes of a number, the highest first. -/
def be (n : Nat) : List Nat := (digs 256 n).reverse
theorem be_length (n : Nat) : (be n).length = (bitLen n + 7) / 8 := by unfold be; rw [List.length_reverse, digs_len_bits]
theorem be_eq {n m : Nat} {L : List Nat} (hm : (bitLen n + 7) / 8 = m) (hL : L.length = m) (h : ∀ j, j < m → L.getD (m - 1 - j) 0 = n / 256 ^ j % 256) : L = be n := by
  apply List.ext_getElem
  · rw [hL, be_length, hm]
  · intro i h1 h2
    have h3 := h (m - 1 - i) (by omega)
    rw [show m - 1 - (m - 1 - i) = i from by omega] at h3
    simp only [List.getD, List.getElem?_eq_getElem h1, Option.getD_some] at h3
    rw [h3]
    have h6 : (be n)[i] = (digs 256 n)[(digs 256 n).length - 1 - i]'(by rw [be_length, ← digs_len_bits] at h2; omega) := List.getElem_reverse _
    rw [h6]
    have h4 := digs_getD (b := 256) (by omega) n (m - 1 - i)
    rw [← h4]
    have h5 : (digs 256 n).length = m := by rw [digs_len_bits, hm]
    simp only [h5]
    simp [List.getD, List.getElem?_eq_getElem (by rw [h5]; omega : m - 1 - i < (digs 256 n).length)]

set_option maxHeartbeats 400000 in
/-- The bytes of the program's numbers. -/
theorem nbytes_any (n : Nat) (s : Int) (p : Option Addr) (l c : Nat) (w : World) (h : IsN w s p l c n) (hl : (ds n).length ≤ 1000000) :
    Calls Tryd.prog 32 #[.agg #[.int .u64 s, .slice p l c]] w (RetW w .u8 (be n)) := by
  have hmb : bitLen n ≤ 64 * (ds n).length := by
    have h1 := bitLen_ds n
    have h2 := bitLen_lt_pow.1 (getD_lt (ds_lt n) (by omega) ((ds n).length - 1))
    have := ds_pos n
    omega
  have hle : (bitLen n + 7) / 8 ≤ 8 * (ds n).length := by omega
  have H := Lib.hid h
  have HM := Lib.hid (make_u8 ((bitLen n + 7) / 8) (by omega))
  obtain ⟨m, hm⟩ : ∃ m, m = (bitLen n + 7) / 8 := ⟨_, rfl⟩
  rw [← hm] at HM
  have HMM := Lib.hid hm
  clear h
  go_enter Tryd.func32, Tryd.ntmps32
  go_wp2_with fail
  refine (list_any n s p l c _ (H.out.mono (by repeat' first | exact Below.refl _ _ | refine below_alloc ?_ _))).mono ?_
  rintro e w1 ⟨b, off, c', rfl, h1, h2, hb⟩
  have H2 := Lib.hid h2; clear h2
  obtain ⟨hc, hf⟩ := bcell hb
  go_wp2_with fail
  refine (nbits_any n s p l c _ (H.out.mono (by repeat' first | exact Below.refl _ _ | refine below_alloc ?_ _ | refine below_step ?_ (by assumption))) (by omega)).mono ?_
  rintro e w2 ⟨rfl, hb2⟩
  have hq : (((bitLen n : Nat) : Int) + 7) / 8 = (m : Int) := by omega
  have hm8 : m ≤ 8000000 := by omega
  have hmk := HM.out
  clear hm hmb hle
  go_wp2_with fail
  have A3 := At.made w2 .u8 m 5
  have F3 := Fr.made w2 .u8 m m 5
  have B3 : Below w2.heap.size w2 (w2.alloc (.cells (madeCells #[.int .u8 0] m) 5)) := below_alloc (Below.refl _ _) _
  have hz2 : b < w2.heap.size ∧ w.heap.size ≤ w2.heap.size := by
    have := H2.out.lt (ds_pos n); have := hb2.size; have := hb.size; simp at this; omega
  have HBW : Below w.heap.size w w2 := (by repeat' first | exact Below.refl _ _ | refine below_alloc ?_ _ | refine below_step ?_ (by assumption))
  have H3 := Lib.hid ((H2.out.mono hb2).mono B3)
  obtain ⟨w3, hw3⟩ : ∃ w3, w3 = w2.alloc (.cells (madeCells #[.int .u8 0] m) 5) := ⟨_, rfl⟩
  rw [← hw3] at A3 F3 B3 H3 ⊢
  have HB3 := Lib.hid (below_step HBW B3)
  have HA3 := Lib.hid A3; have HF3 := Lib.hid F3
  obtain ⟨g, hg⟩ : ∃ g, g = w2.heap.size := ⟨_, rfl⟩
  rw [← hg] at HA3 HF3 hz2 ⊢
  have hg3 : g < w3.heap.size := by rw [hw3, hg]; simp
  have hdl : m ≤ 8 * (ds n).length := by
    have h1 := bitLen_ds n
    have h2 := bitLen_lt_pow.1 (getD_lt (ds_lt n) (by omega) ((ds n).length - 1))
    have := ds_pos n
    omega
  clear hw3 hg A3 F3 B3 HBW hb2 hb hc hf hq H2 hmk HM
  go_loopw [15] (fun i wr => ∃ k : Nat, k ≤ m ∧ i = .int .i64 k ∧ ∃ L : List Nat, L.length = m ∧ At wr .u8 g 0 L ∧ Hid (∀ j, j < k → L.getD (m - 1 - j) 0 = n / 256 ^ j % 256) ∧ Only w3 wr g 0 m) (fun i _ => m - (intOf i).toNat)
  case atStart => exact ⟨0, Nat.zero_le _, rfl, List.replicate m 0, by simp, HA3.out, Lib.hid fun j h => by omega, Only.refl _ _ _ _⟩
  case round =>
    obtain ⟨k, hk, rfl, L, hL, hA, HI, hO⟩ := hrel
    by_cases hlt : k < m
    · have c1 := hA.zero (m - 1 - k) (by omega)
      have c2 := (HF3.out.only hO).zero (m - 1 - k) (by omega)
      have c3 := (H3.out.only hO (by omega)) (k / 8) (by omega)
      have i1 : (0 : Int) ≤ (m : Int) - 1 - k := by omega
      have i2 : (0 : Int) ≤ (k : Int) / 8 := by omega
      have i3 : (k : Int) / 8 < (ds n).length := by omega
      have hx : (ds n).getD (k / 8) 0 / 2 ^ (k % 8 * 8) % 256 = n / 256 ^ k % 256 := by
        have h1 := byte_of_digit 8 n k (by omega)
        rw [← digs_getD (b := 2 ^ (8 * 8)) (by omega)] at h1
        rw [← h1, Nat.mul_comm 8 (k % 8)]
        unfold ds
        split
        · subst_vars; rw [digs_zero]
          cases k / 8 <;> simp
        · rfl
      have HX := Lib.hid hx; clear hx
      generalize (ds n).getD (k / 8) 0 = x at *
      go_wp2
      go_roundw
      case rel =>
        refine ⟨k + 1, by omega, by go_num, L.set (m - 1 - k) (x / 2 ^ (k % 8 * 8) % 256), by simpa using hL, ?_, Lib.hid fun j hj => ?_, ?_⟩
        · have := hA.set (m - 1 - k) (x / 2 ^ (k % 8 * 8) % 256) (by omega)
          rw [Nat.zero_add, shr_cast] at this
          exact this
        · rw [getD_set _ _ _ _ (by omega)]
          by_cases e : j = k
          · subst e; rw [if_pos rfl, HX.out]
          · rw [if_neg (by omega)]; exact HI.out j (by omega)
        · exact hO.setCell _ (by omega) (by omega) _
      case measure => simp [intOf]; omega
    · go_wp2
      go_ret
      obtain rfl : k = m := by omega
      have e := be_eq HMM.out.symm hL HI.out
      rw [e] at hA hL
      exact ⟨g, 0, k, ret_slice hL.symm, by omega, by omega, hA, by rw [hL]; exact HF3.out.only hO, HB3.out.trans (hO.below hz2.2 (by omega))⟩
end Go.Proofs.YtciohlbpjaighaaDoor
