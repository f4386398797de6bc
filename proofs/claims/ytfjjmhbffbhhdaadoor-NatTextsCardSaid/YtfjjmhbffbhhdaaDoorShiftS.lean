/- New rows; the bits and the bytes of the program's numbers; the document's numbers. -/
import Derived.Test.YtfjjmhbffbhhdaaDoorLeaf
import Derived.Test.YtfjjmhbffbhhdaaDoorCut
import Derived.Test.YtfjjmhbffbhhdaaDoorShelf
import Derived.OwnWalk
import Derived.Laws.MakeOwn
import Derived.Laws.Externs
namespace Go.Proofs.YtfjjmhbffbhhdaaDoor
open Go.RowKit

theorem Tryd.infoU32 : (Tryd.prog.info? 82).map (fun i => (i.zero, i.size, i.bytes)) = some (some (.int .u32 0), 1, 4) := by kernel_rfl
theorem Tryd.infoU64 : (Tryd.prog.info? 22).map (fun i => (i.zero, i.size, i.bytes)) = some (some (.int .u64 0), 1, 8) := by kernel_rfl

theorem make_u64 (n : Nat) (hn : n ≤ 1099511627776) (w : World) : (Instr.makeSlice 23 (.int .i64 (n : Int)) (.int .i64 (n : Int))).run Tryd.prog w = .ok (.slice (some ⟨w.heap.size, 0, none⟩) n n) (w.alloc (.cells (madeCells #[.int .u64 0] n) 22)) :=
  run_make_one _ _ _ 8 n Tryd.underlying23 Tryd.infoU64 (by omega) hn w
theorem make_rn (n : Nat) (hn : n ≤ 1099511627776) (w : World) : (Instr.makeSlice 44 (.int .i64 (n : Int)) (.int .i64 (n : Int))).run Tryd.prog w = .ok (.slice (some ⟨w.heap.size, 0, none⟩) n n) (w.alloc (.cells (madeCells #[.int .u32 0] n) 82)) :=
  run_make_one _ _ _ 4 n Tryd.underlying44 Tryd.infoU32 (by omega) hn w

theorem lib_bitLen {n : Nat} (h : n < 2 ^ 64) : Lib.bitLen n = bitLen n := by
  have key : ∀ f x, x < 2 ^ f → Lib.bitLenAux f x = bitLen x := by
    intro f
    induction f with
    | zero => intro x hx; have : x = 0 := by simpa using hx
              subst this; rfl
    | succ f ih =>
      intro x hx
      by_cases h0 : x = 0
      · subst h0; simp [Lib.bitLenAux, bitLen]
      · have h1 := ih (x / 2) (by rw [Nat.pow_succ] at hx; omega)
        rw [Lib.bitLenAux, if_neg h0, h1]
        unfold bitLen
        rw [if_neg h0]
        by_cases h2 : x / 2 = 0
        · have : x = 1 := by omega
          subst this; rfl
        · rw [if_neg h2]
          have : x.log2 = (x / 2).log2 + 1 := by
            rw [Nat.log2_def x, if_pos (by omega)]
          omega
  exact key 64 n h

theorem len64_any (n : Nat) (hn : n < 2 ^ 64) (w : World) : Calls Tryd.prog 36 #[.int .u64 (n : Int)] w fun e w' => w = w' ∧ e = .returned (.int .i64 (bitLen n : Nat)) :=
  (Tryd.bits_Len64 (n : Int) w (by omega) (by omega)).mono fun e w' ⟨h1, h2⟩ => ⟨h2.symm, by rw [h1, Int.toNat_natCast, lib_bitLen hn]⟩

theorem bitLen_ds (n : Nat) : bitLen n = 64 * ((ds n).length - 1) + bitLen ((ds n).getD ((ds n).length - 1) 0) := by
  by_cases h : n = 0
  · subst h; rfl
  · rw [ds_big h]; exact bitLen_top (by omega) h

set_option maxHeartbeats 400000 in
theorem nbits_any (n : Nat) (s : Int) (p : Option Addr) (l c : Nat) (w : World) (h : IsN w s p l c n) (hl : (ds n).length ≤ 281474976710656) :
    Calls Tryd.prog 12 #[.agg #[.int .u64 s, .slice p l c]] w fun e w' => e = .returned (.int .i64 (bitLen n : Nat)) ∧ Below w.heap.size w w' := by
  have hp := ds_pos n
  have HS := Lib.hid (bitLen_ds n)
  have HT := Lib.hid (getD_lt (ds_lt n) (by omega) ((ds n).length - 1))
  have HD := Lib.hid (rfl : ds n = ds n)
  go_enter Tryd.func12, Tryd.ntmps12
  go_wp2_with fail
  refine (list_any n s p l c _ (h.mono (by repeat' first | exact Below.refl _ _ | refine below_alloc ?_ _))).mono ?_
  rintro e w1 ⟨b, off, c', rfl, h1, h2, hb⟩
  have hcell := h2 ((ds n).length - 1) (by omega)
  have hx : bitLen ((ds n).getD ((ds n).length - 1) 0) ≤ 64 := bitLen_lt_pow.1 HT.out
  generalize (ds n).getD ((ds n).length - 1) 0 = x at *
  generalize (ds n).length = m at *
  go_wp2_with (go_at_call 36; refine (len64_any x HT.out _).mono ?_; rintro e w2 ⟨rfl, rfl⟩)
  go_ret
  exact ⟨ret_int (by rw [HS.out]; omega), (by repeat' first | exact Below.refl _ _ | refine below_alloc ?_ _ | refine below_step ?_ (by assumption))⟩

def be (n : Nat) : List Nat := (digs 256 n).reverse
theorem be_length (n : Nat) : (be n).length = (bitLen n + 7) / 8 := by unfold be; rw [List.length_reverse, digs_len_bits]
theorem be_eq {n m : Nat} {L : List Nat} (hm : (bitLen n + 7) / 8 = m) (hL : L.length = m) (h : ∀ j, j < m → L.getD (m - 1 - j) 0 = n / 256 ^ j % 256) : L = be n := by
  apply List.ext_getElem
  · rw [hL, be_length, hm]
  · intro i h1 h2
    have h3 := h (m - 1 - i) (by omega)
    rw [show m - 1 - (m - 1 - i) = i from by omega] at h3
    simp only [List.getD, List.getElem?_eq_getElem h1, Option.getD_some] at h3
    rw [h3]
    have h6 : (be n)[i] = (digs 256 n)[(digs 256 n).length - 1 - i]'(by rw [be_length, ← digs_len_bits] at h2; omega) := List.getElem_reverse _
    rw [h6]
    have h4 := digs_getD (b := 256) (by omega) n (m - 1 - i)
    rw [← h4]
    have h5 : (digs 256 n).length = m := by rw [digs_len_bits, hm]
    simp only [h5]
    simp [List.getD, List.getElem?_eq_getElem (by rw [h5]; omega : m - 1 - i < (digs 256 n).length)]

set_option maxHeartbeats 400000 in
theorem nbytes_any (n : Nat) (s : Int) (p : Option Addr) (l c : Nat) (w : World) (h : IsN w s p l c n) (hl : (ds n).length ≤ 1000000) :
    Calls Tryd.prog 16 #[.agg #[.int .u64 s, .slice p l c]] w (RetW w .u8 (be n)) := by
  have hmb : bitLen n ≤ 64 * (ds n).length := by
    have h1 := bitLen_ds n
    have h2 := bitLen_lt_pow.1 (getD_lt (ds_lt n) (by omega) ((ds n).length - 1))
    have := ds_pos n
    omega
  have hle : (bitLen n + 7) / 8 ≤ 8 * (ds n).length := by omega
  have H := Lib.hid h
  have HM := Lib.hid (make_u8 ((bitLen n + 7) / 8) (by omega))
  obtain ⟨m, hm⟩ : ∃ m, m = (bitLen n + 7) / 8 := ⟨_, rfl⟩
  rw [← hm] at HM
  have HMM := Lib.hid hm
  clear h
  go_enter Tryd.func16, Tryd.ntmps16
  go_wp2_with fail
  refine (list_any n s p l c _ (H.out.mono (by repeat' first | exact Below.refl _ _ | refine below_alloc ?_ _))).mono ?_
  rintro e w1 ⟨b, off, c', rfl, h1, h2, hb⟩
  have H2 := Lib.hid h2; clear h2
  obtain ⟨hc, hf⟩ := bcell hb
  go_wp2_with fail
  refine (nbits_any n s p l c _ (H.out.mono (by repeat' first | exact Below.refl _ _ | refine below_alloc ?_ _ | refine below_step ?_ (by assumption))) (by omega)).mono ?_
  rintro e w2 ⟨rfl, hb2⟩
  have hq : (((bitLen n : Nat) : Int) + 7) / 8 = (m : Int) := by omega
  have hm8 : m ≤ 8000000 := by omega
  have hmk := HM.out
  clear hm hmb hle
  go_wp2_with fail
  have A3 := At.made w2 .u8 m 5
  have F3 := Fr.made w2 .u8 m m 5
  have B3 : Below w2.heap.size w2 (w2.alloc (.cells (madeCells #[.int .u8 0] m) 5)) := below_alloc (Below.refl _ _) _
  have hz2 : b < w2.heap.size ∧ w.heap.size ≤ w2.heap.size := by
    have := H2.out.lt (ds_pos n); have := hb2.size; have := hb.size; simp at this; omega
  have HBW : Below w.heap.size w w2 := (by repeat' first | exact Below.refl _ _ | refine below_alloc ?_ _ | refine below_step ?_ (by assumption))
  have H3 := Lib.hid ((H2.out.mono hb2).mono B3)
  obtain ⟨w3, hw3⟩ : ∃ w3, w3 = w2.alloc (.cells (madeCells #[.int .u8 0] m) 5) := ⟨_, rfl⟩
  rw [← hw3] at A3 F3 B3 H3 ⊢
  have HB3 := Lib.hid (below_step HBW B3)
  have HA3 := Lib.hid A3; have HF3 := Lib.hid F3
  obtain ⟨g, hg⟩ : ∃ g, g = w2.heap.size := ⟨_, rfl⟩
  rw [← hg] at HA3 HF3 hz2 ⊢
  have hg3 : g < w3.heap.size := by rw [hw3, hg]; simp
  have hdl : m ≤ 8 * (ds n).length := by
    have h1 := bitLen_ds n
    have h2 := bitLen_lt_pow.1 (getD_lt (ds_lt n) (by omega) ((ds n).length - 1))
    have := ds_pos n
    omega
  clear hw3 hg A3 F3 B3 HBW hb2 hb hc hf hq H2 hmk HM
  go_loopw [15] (fun i wr => ∃ k : Nat, k ≤ m ∧ i = .int .i64 k ∧ ∃ L : List Nat, L.length = m ∧ At wr .u8 g 0 L ∧ Hid (∀ j, j < k → L.getD (m - 1 - j) 0 = n / 256 ^ j % 256) ∧ Only w3 wr g 0 m) (fun i _ => m - (intOf i).toNat)
  case atStart => exact ⟨0, Nat.zero_le _, rfl, List.replicate m 0, by simp, HA3.out, Lib.hid fun j h => by omega, Only.refl _ _ _ _⟩
  case round =>
    obtain ⟨k, hk, rfl, L, hL, hA, HI, hO⟩ := hrel
    by_cases hlt : k < m
    · have c1 := hA.zero (m - 1 - k) (by omega)
      have c2 := (HF3.out.only hO).zero (m - 1 - k) (by omega)
      have c3 := (H3.out.only hO (by omega)) (k / 8) (by omega)
      have i1 : (0 : Int) ≤ (m : Int) - 1 - k := by omega
      have i2 : (0 : Int) ≤ (k : Int) / 8 := by omega
      have i3 : (k : Int) / 8 < (ds n).length := by omega
      have hx : (ds n).getD (k / 8) 0 / 2 ^ (k % 8 * 8) % 256 = n / 256 ^ k % 256 := by
        have h1 := byte_of_digit 8 n k (by omega)
        rw [← digs_getD (b := 2 ^ (8 * 8)) (by omega)] at h1
        rw [← h1, Nat.mul_comm 8 (k % 8)]
        unfold ds
        split
        · subst_vars; rw [digs_zero]
          cases k / 8 <;> simp
        · rfl
      have HX := Lib.hid hx; clear hx
      generalize (ds n).getD (k / 8) 0 = x at *
      go_wp2
      go_roundw
      case rel =>
        refine ⟨k + 1, by omega, by go_num, L.set (m - 1 - k) (x / 2 ^ (k % 8 * 8) % 256), by simpa using hL, ?_, Lib.hid fun j hj => ?_, ?_⟩
        · have := hA.set (m - 1 - k) (x / 2 ^ (k % 8 * 8) % 256) (by omega)
          rw [Nat.zero_add, shr_cast] at this
          exact this
        · rw [getD_set _ _ _ _ (by omega)]
          by_cases e : j = k
          · subst e; rw [if_pos rfl, HX.out]
          · rw [if_neg (by omega)]; exact HI.out j (by omega)
        · exact hO.setCell _ (by omega) (by omega) _
      case measure => simp [intOf]; omega
    · go_wp2
      go_ret
      obtain rfl : k = m := by omega
      have e := be_eq HMM.out.symm hL HI.out
      rw [e] at hA hL
      exact ⟨g, 0, k, ret_slice hL.symm, by omega, by omega, hA, by rw [hL]; exact HF3.out.only hO, HB3.out.trans (hO.below hz2.2 (by omega))⟩
end Go.Proofs.YtfjjmhbffbhhdaaDoor

/- The carrying sums and differences of math/bits, as the model has them; sums of two short numbers. -/
namespace Go.Proofs.YtfjjmhbffbhhdaaDoor
open Go.RowKit

def sub64Entry : Array Value → Sem Value := fun args => do
  let (x, y, b) ← Extern.MathBitsCarry.three "Sub64" args
  pure (Extern.MathBitsCarry.pair ((x + Extern.MathBitsCarry.m64 - y - b) % Extern.MathBitsCarry.m64) (if x < y + b then 1 else 0))

theorem run_sub64 {P : Program} (x y b : Nat) (hb : b ≤ 1) (w : World) :
    (sub64Entry #[.int .u64 x, .int .u64 y, .int .u64 b]).run P w =
      .ok (.tuple #[.int .u64 (((x + 18446744073709551616 - y - b) % 18446744073709551616 : Nat) : Int), .int .u64 ((if x < y + b then 1 else 0 : Nat) : Int)]) w := by
  have : b = 0 ∨ b = 1 := by omega
  rcases this with rfl | rfl <;> rfl

theorem call_add64 (x y c : Nat) (hc : c ≤ 1) (w : World) :
    (callFunc 57 #[.int .u64 x, .int .u64 y, .int .u64 c]).run Tryd.prog w =
      .ok (.value (.tuple #[.int .u64 (((x + y + c) % 18446744073709551616 : Nat) : Int), .int .u64 (((x + y + c) / 18446744073709551616 : Nat) : Int)])) w := by
  rw [run_callFunc_extern Tryd.func57 (by kernel_rfl) (by kernel_rfl) (by kernel_rfl) (e := add64Entry) (by kernel_rfl), run_add64 x y c (by omega) (by omega) (by omega) (by omega)]
  simp only [Result.andThen]
  congr 5 <;> omega

theorem call_sub64 (x y b : Nat) (hb : b ≤ 1) (w : World) :
    (callFunc 59 #[.int .u64 x, .int .u64 y, .int .u64 b]).run Tryd.prog w =
      .ok (.value (.tuple #[.int .u64 (((x + 18446744073709551616 - y - b) % 18446744073709551616 : Nat) : Int), .int .u64 ((if x < y + b then 1 else 0 : Nat) : Int)])) w := by
  rw [run_callFunc_extern Tryd.func59 (by kernel_rfl) (by kernel_rfl) (by kernel_rfl) (e := sub64Entry) (by kernel_rfl), run_sub64 x y b hb]
  rfl

theorem call_add64' (x y c z d : Nat) (hc : c ≤ 1) (hz : x + y + c = z + 2 ^ 64 * d) (hz2 : z < 2 ^ 64) (w : World) :
    (callFunc 57 #[.int .u64 x, .int .u64 y, .int .u64 c]).run Tryd.prog w = .ok (.value (.tuple #[.int .u64 (z : Int), .int .u64 (d : Int)])) w := by
  rw [call_add64 x y c hc]
  have h1 : (x + y + c) % 18446744073709551616 = z := by omega
  have h2 : (x + y + c) / 18446744073709551616 = d := by omega
  rw [h1, h2]

theorem call_sub64' (x y b z d : Nat) (hb : b ≤ 1) (hx : x < 2 ^ 64) (hy : y < 2 ^ 64) (hz : x + 2 ^ 64 * d = z + y + b) (hz2 : z < 2 ^ 64) (w : World) :
    (callFunc 59 #[.int .u64 x, .int .u64 y, .int .u64 b]).run Tryd.prog w = .ok (.value (.tuple #[.int .u64 (z : Int), .int .u64 (d : Int)])) w := by
  rw [call_sub64 x y b hb]
  have h1 : (x + 18446744073709551616 - y - b) % 18446744073709551616 = z := by omega
  have h2 : (if x < y + b then 1 else 0 : Nat) = d := by split <;> omega
  rw [h1, h2]

theorem IsN.box {w : World} {s : Int} {p q : Option Addr} {l c k d n g : Nat} {u v : Value} (h : IsN w s p l c n) (h1 : w.cell? ⟨g, 1, none⟩ = some (.slice q k d)) :
    IsN ((w.setCell ⟨g, 0, none⟩ u).setCell ⟨g, 1, none⟩ v) s p l c n := by
  rcases h with h | ⟨a1, a2, b, off, a3, a4, a5, a6⟩
  · exact Or.inl h
  · refine Or.inr ⟨a1, a2, b, off, a3, a4, a5, fun i hi => ?_⟩
    have h2 := ds_two a1
    have h3 : ∀ o, (o = 0 ∨ o = 1) → (⟨g, o, none⟩ : Addr) ≠ ⟨b, off + i, none⟩ := by
      intro o ho e
      injection e with e1 e2
      subst e1
      have h4 := a6 (1 - off) (by omega)
      rw [show off + (1 - off) = 1 from by omega, h1] at h4
      cases h4
    rw [World.cell?_setCell_other _ _ _ _ (h3 1 (Or.inr rfl)), World.cell?_setCell_other _ _ _ _ (h3 0 (Or.inl rfl))]
    exact a6 i hi

theorem ofTwo_any (m n : Nat) (hm : m < 2 ^ 64) (hn : n < 2 ^ 64) (w : World) : Calls Tryd.prog 54 #[.int .u64 (m : Int), .int .u64 (n : Int)] w (RetN w (n + 2 ^ 64 * m)) := by
  by_cases h : m = 0
  · subst h; simpa using ofTwo_zero n hn w
  · have := ofTwo_more m n hm hn (by omega) w
    rwa [show m * 2 ^ 64 + n = n + 2 ^ 64 * m from by omega] at this

set_option maxHeartbeats 400000 in
theorem add_ss (m n : Nat) (hm : m < 2 ^ 64) (hn : n < 2 ^ 64) (w : World) :
    Calls Tryd.prog 27 #[.agg #[.int .u64 (m : Int), .slice none 0 0], .agg #[.int .u64 (n : Int), .slice none 0 0]] w (RetN w (m + n)) := by
  obtain ⟨z, d, hz, hz2, hd⟩ : ∃ z d, m + n + 0 = z + 2 ^ 64 * d ∧ z < 2 ^ 64 ∧ d < 2 ^ 64 := ⟨(m + n) % 2 ^ 64, (m + n) / 2 ^ 64, by omega, by omega, by omega⟩
  have hadd := call_add64' m n 0 z d (by omega) hz hz2
  rw [Int.natCast_zero] at hadd
  have HT := Lib.hid (ofTwo_any d z hd hz2)
  have HE := Lib.hid (show z + 2 ^ 64 * d = m + n by omega)
  clear hz hz2 hd hm hn
  go_enter Tryd.func27, Tryd.ntmps27
  go_wp2_with fail
  refine (short_yes _ _ _ _).mono ?_
  rintro e w1 ⟨rfl, hb⟩
  obtain ⟨hc, hf⟩ := bcell hb
  have hz : w.heap.size + 1 < w1.heap.size := by have := hb.size; simp at this; omega
  go_wp2_with fail
  refine (short_yes _ _ _ _).mono ?_
  rintro e w2 ⟨rfl, hb2⟩
  replace hb2 := below_step hb hb2
  obtain ⟨hc2, hf2⟩ := bcell hb2
  clear hc hf
  go_wp2_with fail
  refine (HT.out _).mono ?_
  rintro e w3 ⟨s, p, l, c, rfl, hN, hb3⟩
  rw [HE.out] at hN
  replace hb3 := below_step hb2 hb3
  obtain ⟨hc3, hf3⟩ := bcell hb3
  have hz3 : w.heap.size + 2 < w3.heap.size := by have := hb3.size; simp at this; omega
  go_wp2
  refine bodyPost_ret (v := .agg #[.int .u64 s, .slice p l c]) (by simp [results, Tryd.results27, go_sem, hc3]) rfl ⟨s, p, l, c, rfl, hN.box (q := none) (k := 0) (d := 0) (by simp [hc3, go_sem]), ?_⟩
  exact (by repeat' first | exact Below.refl _ _ | refine below_alloc ?_ _ | (refine Below.setCell ?_ (by simp; omega) _) | refine below_step ?_ (by assumption))
end Go.Proofs.YtfjjmhbffbhhdaaDoor

/- Short numbers moved by bits. -/
namespace Go.Proofs.YtfjjmhbffbhhdaaDoor
open Go.RowKit

set_option maxHeartbeats 400000 in
theorem down_s (m n : Nat) (hm : m < 2 ^ 64) (w : World) :
    Calls Tryd.prog 38 #[.agg #[.int .u64 (m : Int), .slice none 0 0], .int .i64 (n : Int)] w (RetN w (m / 2 ^ n)) := by
  have HX := Lib.hid (Nat.lt_of_le_of_lt (Nat.div_le_self m (2 ^ n)) hm)
  go_enter Tryd.func38, Tryd.ntmps38
  go_wp2_with fail
  refine (short_yes _ _ _ _).mono ?_
  rintro e w1 ⟨rfl, hb⟩
  obtain ⟨hc, hf⟩ := bcell hb
  have hz : w.heap.size + 1 < w1.heap.size := by have := hb.size; simp at this; omega
  go_wp2_with fail
  rw [show (m : Int) / 2 ^ min n 64 = ((m / 2 ^ n : Nat) : Int) from by
    rcases Nat.le_total n 64 with h | h
    · rw [Nat.min_eq_left h, Int.natCast_ediv, Int.natCast_pow]; rfl
    · rw [Nat.min_eq_right h, Nat.div_eq_of_lt (Nat.lt_of_lt_of_le hm (Nat.pow_le_pow_right (by omega) h))]
      have : m / 2 ^ 64 = 0 := Nat.div_eq_of_lt hm
      omega]
  refine (of_any _ _).mono ?_
  rintro e w2 ⟨rfl, hb2⟩
  replace hb2 := below_step hb hb2
  obtain ⟨hc2, hf2⟩ := bcell hb2
  clear hc hf
  have hz2 : w.heap.size + 1 < w2.heap.size := by have := hb2.size; simp at this; omega
  have HB : Below w.heap.size w w2 := (by repeat' first | exact Below.refl _ _ | refine below_alloc ?_ _ | refine below_step ?_ (by assumption))
  go_wp2
  exact bodyPost_ret (v := .agg #[.int .u64 ((m / 2 ^ n : Nat) : Int), .slice none 0 0]) (by simp [results, Tryd.results38, go_sem, hc2]) rfl (RetN.short HX.out (by repeat' first | exact HB | (refine Below.setCell ?_ (by simp) _)))

set_option maxHeartbeats 400000 in
theorem up_s (m n : Nat) (hm : m < 2 ^ 64) (hn : bitLen m + n ≤ 64) (w : World) :
    Calls Tryd.prog 37 #[.agg #[.int .u64 (m : Int), .slice none 0 0], .int .i64 (n : Int)] w (RetN w (m * 2 ^ n)) := by
  have HX : m * 2 ^ n < 2 ^ 64 := by
    have := (bitLen_spec m).1
    have h2 : m * 2 ^ n < 2 ^ bitLen m * 2 ^ n := Nat.mul_lt_mul_of_pos_right this (Nat.two_pow_pos n)
    rw [← Nat.pow_add] at h2
    exact Nat.lt_of_lt_of_le h2 (Nat.pow_le_pow_right (by omega) hn)
  have HX := Lib.hid HX
  go_enter Tryd.func37, Tryd.ntmps37
  go_wp2_with fail
  refine (short_yes _ _ _ _).mono ?_
  rintro e w1 ⟨rfl, hb⟩
  obtain ⟨hc, hf⟩ := bcell hb
  have hz : w.heap.size + 1 < w1.heap.size := by have := hb.size; simp at this; omega
  go_wp2_with (go_at_call 36; refine (len64_any m hm _).mono ?_; rintro e w2 ⟨rfl, rfl⟩)
  rw [show IntKind.u64.wrap ((m : Int) * 2 ^ n) = ((m * 2 ^ n : Nat) : Int) from by
    have h := HX.out
    have e : (m : Int) * 2 ^ n = ((m * 2 ^ n : Nat) : Int) := by rw [Int.natCast_mul, Int.natCast_pow]; rfl
    rw [e, IntKind.wrap_u64]
    generalize m * 2 ^ n = q at *
    omega]
  refine (of_any _ _).mono ?_
  rintro e w2 ⟨rfl, hb2⟩
  replace hb2 := below_step hb hb2
  obtain ⟨hc2, hf2⟩ := bcell hb2
  clear hc hf
  have hz2 : w.heap.size + 1 < w2.heap.size := by have := hb2.size; simp at this; omega
  have HB : Below w.heap.size w w2 := (by repeat' first | exact Below.refl _ _ | refine below_alloc ?_ _ | refine below_step ?_ (by assumption))
  go_wp2
  exact bodyPost_ret (v := .agg #[.int .u64 ((m * 2 ^ n : Nat) : Int), .slice none 0 0]) (by simp [results, Tryd.results37, go_sem, hc2]) rfl (RetN.short HX.out (by repeat' first | exact HB | (refine Below.setCell ?_ (by simp) _)))
end Go.Proofs.YtfjjmhbffbhhdaaDoor
