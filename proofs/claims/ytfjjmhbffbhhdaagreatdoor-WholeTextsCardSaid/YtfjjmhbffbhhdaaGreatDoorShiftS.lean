/- Rows of bytes: a slice that says bytes; the first bytes of an argument. -/
import Derived.Test.YtfjjmhbffbhhdaaGreatDoorFmt
import Derived.WalkSpells
import Derived.WalkLawsBesides
import Derived.BigQuiet
import Derived.BigRegion
import Derived.Laws.BitsAllLaws
import Derived.Lib.Hide
import Derived.OwnWalk
import Derived.Laws.AppendOwnNone
import Derived.Laws.MakeOwn
import Derived.Test.YtfjjmhbffbhhdaaGreatDoorLeapFrom
import Derived.Test.YtfjjmhbffbhhdaaGreatDoorShelf
import Derived.Laws.Externs
import Derived.Laws.AppendOwn
namespace Go.Proofs.YtfjjmhbffbhhdaaGreatDoor
open Go.RowKit

theorem Tryz.infoU8 : (Tryz.prog.info? 5).map (fun i => (i.zero, i.size, i.bytes)) = some (some (.int .u8 0), 1, 1) := by kernel_rfl
theorem Tryz.cellsU8 : Tryz.prog.cellsOf 5 = 1 := by kernel_rfl

theorem run_make_one {P : Program} (t e : TypeId) (k : IntKind) (by_ n : Nat) (ht : P.underlying t = some (.slice e)) (hi : (P.info? e).map (fun i => (i.zero, i.size, i.bytes)) = some (some (.int k 0), 1, by_))
    (hb : by_ ≤ 8) (hn : n ≤ 1099511627776) (w : World) :
    (Instr.makeSlice t (.int .i64 (n : Int)) (.int .i64 (n : Int))).run P w = .ok (.slice (some ⟨w.heap.size, 0, none⟩) n n) (w.alloc (.cells (madeCells #[.int k 0] n) e)) := by
  obtain ⟨i0, h1, h2, h3, h4⟩ := info_parts hi
  have hbb : i0.bytes * n ≤ 8 * n := Nat.mul_le_mul_right n (by omega)
  have hb' : (i0.bytes : Int) * (n : Int) ≤ 281474976710656 := by
    have h : ((i0.bytes * n : Nat) : Int) ≤ 281474976710656 := by omega
    rwa [Int.natCast_mul] at h
  have hr := run_make (P := P) w t e i0 _ ht h1 h2 .i64 .i64 n n (by omega) (by omega) hb' (by omega)
  simp only [Int.toNat_natCast, h3, Nat.mul_one] at hr
  exact hr

theorem make_u8 (n : Nat) (hn : n ≤ 1099511627776) (w : World) : (Instr.makeSlice 22 (.int .i64 (n : Int)) (.int .i64 (n : Int))).run Tryz.prog w = .ok (.slice (some ⟨w.heap.size, 0, none⟩) n n) (w.alloc (.cells (madeCells #[.int .u8 0] n) 5)) :=
  run_make_one _ _ _ 1 n Tryz.underlying22 Tryz.infoU8 (by omega) hn w
theorem At.made (w : World) (k : IntKind) (n : Nat) (t : TypeId) : At (w.alloc (.cells (madeCells #[.int k 0] n) t)) k w.heap.size 0 (List.replicate n 0) := by
  intro i hi
  have hi' : i < n := by simpa using hi
  rw [World.cell?_alloc_at _ _ _ _ rfl]
  simp [madeCells, hi', Nat.mod_one]

theorem Fr.made (w : World) (k : IntKind) (n m : Nat) (t : TypeId) : Fr (w.alloc (.cells (madeCells #[.int k 0] n) t)) w.heap.size 0 m :=
  fun _ _ => World.frozen?_alloc_at _ _ _ _ rfl

def cellsOfRow (k : IntKind) (xs : List Nat) : List Value := xs.map fun (x : Nat) => Value.int k (x : Int)

def IsB (w : World) (p : Option Addr) (l c : Nat) (bs : List Nat) : Prop :=
  bs.length = l ∧ (∀ x ∈ bs, x < 256) ∧ ((p = none ∧ l = 0 ∧ c = 0) ∨ ∃ b off sp, p = some ⟨b, off, sp⟩ ∧ l ≤ c ∧ ∀ i, i < bs.length → w.cell? ((⟨b, off, sp⟩ : Addr).add i) = some (.int .u8 ((bs.getD i 0 : Nat) : Int)))

theorem IsB.mono {w w' : World} {p : Option Addr} {l c : Nat} {bs : List Nat} (h : IsB w p l c bs) (hb : Below w.heap.size w w') : IsB w' p l c bs := by
  obtain ⟨h1, h2, h3 | ⟨b, off, sp, h3, h4, h5⟩⟩ := h
  · exact ⟨h1, h2, Or.inl h3⟩
  · exact ⟨h1, h2, Or.inr ⟨b, off, sp, h3, h4, fun i hi => by have h6 := h5 i hi; rw [hb.cell (World.block_lt_of_cell? _ _ h6)]; exact h6⟩⟩

theorem ret_own {W w2 : World} {k : IntKind} {t : TypeId} {v : Value} {bs : List Nat} (h : w2.ownsRow W.heap.size t 1 v bs.length (cellsOfRow k bs)) (hn : v ≠ .slice none 0 0) (hb : Below W.heap.size W w2) :
    RetW W k bs (.returned v) w2 := by
  rcases h.2 with ⟨h1, _⟩ | ⟨g, cap, cur, rfl, hg, _, hcap, _, _, _⟩
  · exact absurd h1 hn
  · refine ⟨g, 0, cap, rfl, hcap, hg, fun i hi => ?_, fun i _ => ?_, hb⟩
    · rw [Nat.zero_add, World.ownsRow.cellAt h i (by omega)]
      simp [cellsOfRow, List.getD, hi]
    · rw [Nat.zero_add]; exact World.ownsRow.frozenAt h i

set_option maxHeartbeats 1000000 in
theorem few_some (b off c l n : Nat) (sp : Option Nat) (bs : List Nat) (w : World) (hl : bs.length = l) (hlc : l ≤ c) (hl2 : n ≤ 1000000000) (h : ∀ i, i < bs.length → w.cell? ((⟨b, off, sp⟩ : Addr).add i) = some (.int .u8 ((bs.getD i 0 : Nat) : Int))) :
    Calls Tryz.prog 18 #[.slice (some ⟨b, off, sp⟩) l c, .int .i64 (n : Int)] w (RetW w .u8 (bs.take n)) := by
  obtain ⟨i0, hi, hz0, hz1, hz2⟩ := info_parts Tryz.infoU8
  obtain ⟨m, hmm⟩ : ∃ m, m = min l n := ⟨_, rfl⟩
  have hm : (bs.take n).length = m := by rw [List.length_take]; omega
  have hmin : min (l : Int) (n : Int) = (m : Int) := by omega
  have hite : (if n < l then (n : Int) else (l : Int)) = (m : Int) := by split <;> omega
  have hnews : ∀ j u, (cellsOfRow .u8 (bs.take n))[j]? = some u → (w.alloc (.cells #[] 5)).cell? ((⟨b, off, sp⟩ : Addr).add j) = some u := by
    intro j u hj
    have hjl : j < (bs.take n).length := by
      rcases Nat.lt_or_ge j (bs.take n).length with h | h
      · exact h
      · rw [List.getElem?_eq_none (by simpa [cellsOfRow] using h)] at hj; cases hj
    have hjb : j < bs.length := by rw [List.length_take] at hjl; omega
    have h1 := h j hjb
    have h2 : (w.alloc (.cells #[] 5)).cell? ((⟨b, off, sp⟩ : Addr).add j) = w.cell? ((⟨b, off, sp⟩ : Addr).add j) := (below_alloc (Below.refl w.heap.size w) (.cells #[] 5)).cell (World.block_lt_of_cell? _ _ h1)
    have h3 : bs.getD j 0 = (bs.take n).getD j 0 := by
      rw [List.length_take] at hjl
      simp [List.getD, show j < n by omega]
    rw [h2, h1, h3, ← hj]
    generalize bs.take n = bt at *
    simp [cellsOfRow, List.getD, hjl]
  have hm2 : m ≤ c := by omega
  have hm3 : m ≤ 1000000000 := by omega
  have HM := Lib.hid hm
  have HN := Lib.hid hnews
  clear hnews hm h hmm
  go_enter Tryz.func18, Tryz.ntmps18
  go_wp2_with (at_builtin; go_loud (refine wpList_append_own _ rfl (.tmp 5) (.tmp 11) 22 rfl w.heap.size 5 i0 (.int .u8 0) 1 1 Tryz.underlying22 hi hz0 hz1 hz2 rfl (by decide) (.slice (some ⟨w.heap.size, 0, none⟩) 0 0) 0 [] rfl ?own ⟨b, off, sp⟩ m c (cellsOfRow .u8 (bs.take n)) rfl ?c1 HN.out ?c3 ?c4 ?c5 ?c6 ?_))
  case own => exact World.ownsRow_made w #[] 0 (Nat.le_refl _) (by simp [maxLen]) (by simp)
  case c1 => rw [cellsOfRow, List.length_map, HM.out, Nat.mul_one]
  case c3 =>
    intro u hu
    simp only [cellsOfRow, List.mem_map] at hu
    obtain ⟨x, _, rfl⟩ := hu
    rfl
  case c4 => unfold maxLen; omega
  case c5 => omega
  case c6 => simp
  intro v' w2 hown hg hnil
  have hb : Below w.heap.size w w2 := (below_alloc (Below.refl w.heap.size w) (.cells #[] 5)).grown hg (by simp) (fun k hk => by simp [Value.ownBlock] at hk; omega)
  have HO := Lib.hid hown; have HNN := Lib.hid hnil; have HB := Lib.hid hb
  clear hown hg hnil hb
  go_wp2
  go_ret
  have ho := HO.out
  rw [← HM.out] at ho
  exact ret_own ho HNN.out HB.out

set_option maxHeartbeats 1000000 in
theorem few_none (n : Nat) (w : World) (hl2 : n ≤ 1000000000) :
    Calls Tryz.prog 18 #[.slice none 0 0, .int .i64 (n : Int)] w (RetW w .u8 []) := by
  obtain ⟨i0, hi, hz0, hz1, hz2⟩ := info_parts Tryz.infoU8
  go_enter Tryz.func18, Tryz.ntmps18
  go_wp2_with (at_builtin; go_loud (refine wpList_append_own_none rfl (.tmp 5) (.tmp 11) 22 rfl w.heap.size 5 i0 1 Tryz.underlying22 hi (.slice (some ⟨w.heap.size, 0, none⟩) 0 0) 0 [] rfl ?own rfl ?_))
  case own => exact World.ownsRow_made w #[] 0 (Nat.le_refl _) (by simp [maxLen]) (by simp)
  go_wp2
  go_ret
  exact ⟨w.heap.size, 0, 0, rfl, Nat.le_refl _, Nat.le_refl _, At.nil _ _ _ _, fun i hi => by simp at hi, below_alloc (Below.refl _ _) _⟩

theorem few_any (p : Option Addr) (l c n : Nat) (bs : List Nat) (w : World) (hl2 : n ≤ 1000000000) (h : IsB w p l c bs) :
    Calls Tryz.prog 18 #[.slice p l c, .int .i64 (n : Int)] w (RetW w .u8 (bs.take n)) := by
  obtain ⟨h1, h2, ⟨rfl, rfl, rfl⟩ | ⟨b, off, sp, rfl, h4, h5⟩⟩ := h
  · have : bs = [] := List.eq_nil_of_length_eq_zero h1
    subst this
    rw [List.take_nil]
    exact few_none n w hl2
  · exact few_some b off c l n sp bs w h1 h4 hl2 h5
end Go.Proofs.YtfjjmhbffbhhdaaGreatDoor

/- New rows; the bits and the bytes of the program's numbers; the document's numbers. -/
namespace Go.Proofs.YtfjjmhbffbhhdaaGreatDoor
open Go.RowKit

theorem Tryz.infoU32 : (Tryz.prog.info? 73).map (fun i => (i.zero, i.size, i.bytes)) = some (some (.int .u32 0), 1, 4) := by kernel_rfl
theorem Tryz.infoU64 : (Tryz.prog.info? 23).map (fun i => (i.zero, i.size, i.bytes)) = some (some (.int .u64 0), 1, 8) := by kernel_rfl

theorem make_u64 (n : Nat) (hn : n ≤ 1099511627776) (w : World) : (Instr.makeSlice 24 (.int .i64 (n : Int)) (.int .i64 (n : Int))).run Tryz.prog w = .ok (.slice (some ⟨w.heap.size, 0, none⟩) n n) (w.alloc (.cells (madeCells #[.int .u64 0] n) 23)) :=
  run_make_one _ _ _ 8 n Tryz.underlying24 Tryz.infoU64 (by omega) hn w
theorem make_rn (n : Nat) (hn : n ≤ 1099511627776) (w : World) : (Instr.makeSlice 30 (.int .i64 (n : Int)) (.int .i64 (n : Int))).run Tryz.prog w = .ok (.slice (some ⟨w.heap.size, 0, none⟩) n n) (w.alloc (.cells (madeCells #[.int .u32 0] n) 73)) :=
  run_make_one _ _ _ 4 n Tryz.underlying30 Tryz.infoU32 (by omega) hn w

theorem lib_bitLen {n : Nat} (h : n < 2 ^ 64) : Lib.bitLen n = bitLen n := by
  have key : ∀ f x, x < 2 ^ f → Lib.bitLenAux f x = bitLen x := by
    intro f
    induction f with
    | zero => intro x hx; have : x = 0 := by simpa using hx
              subst this; rfl
    | succ f ih =>
      intro x hx
      by_cases h0 : x = 0
      · subst h0; simp [Lib.bitLenAux, bitLen]
      · have h1 := ih (x / 2) (by rw [Nat.pow_succ] at hx; omega)
        rw [Lib.bitLenAux, if_neg h0, h1]
        unfold bitLen
        rw [if_neg h0]
        by_cases h2 : x / 2 = 0
        · have : x = 1 := by omega
          subst this; rfl
        · rw [if_neg h2]
          have : x.log2 = (x / 2).log2 + 1 := by
            rw [Nat.log2_def x, if_pos (by omega)]
          omega
  exact key 64 n h

theorem len64_any (n : Nat) (hn : n < 2 ^ 64) (w : World) : Calls Tryz.prog 107 #[.int .u64 (n : Int)] w fun e w' => w = w' ∧ e = .returned (.int .i64 (bitLen n : Nat)) :=
  (Tryz.bits_Len64 (n : Int) w (by omega) (by omega)).mono fun e w' ⟨h1, h2⟩ => ⟨h2.symm, by rw [h1, Int.toNat_natCast, lib_bitLen hn]⟩

theorem bitLen_ds (n : Nat) : bitLen n = 64 * ((ds n).length - 1) + bitLen ((ds n).getD ((ds n).length - 1) 0) := by
  by_cases h : n = 0
  · subst h; rfl
  · rw [ds_big h]; exact bitLen_top (by omega) h

set_option maxHeartbeats 400000 in
theorem nbits_any (n : Nat) (s : Int) (p : Option Addr) (l c : Nat) (w : World) (h : IsN w s p l c n) (hl : (ds n).length ≤ 281474976710656) :
    Calls Tryz.prog 97 #[.agg #[.int .u64 s, .slice p l c]] w fun e w' => e = .returned (.int .i64 (bitLen n : Nat)) ∧ Below w.heap.size w w' := by
  have hp := ds_pos n
  have HS := Lib.hid (bitLen_ds n)
  have HT := Lib.hid (getD_lt (ds_lt n) (by omega) ((ds n).length - 1))
  have HD := Lib.hid (rfl : ds n = ds n)
  go_enter Tryz.func97, Tryz.ntmps97
  go_wp2_with fail
  refine (list_any n s p l c _ (h.mono (by repeat' first | exact Below.refl _ _ | refine below_alloc ?_ _))).mono ?_
  rintro e w1 ⟨b, off, c', rfl, h1, h2, hb⟩
  have hcell := h2 ((ds n).length - 1) (by omega)
  have hx : bitLen ((ds n).getD ((ds n).length - 1) 0) ≤ 64 := bitLen_lt_pow.1 HT.out
  generalize (ds n).getD ((ds n).length - 1) 0 = x at *
  generalize (ds n).length = m at *
  go_wp2_with (go_at_call 107; refine (len64_any x HT.out _).mono ?_; rintro e w2 ⟨rfl, rfl⟩)
  go_ret
  exact ⟨ret_int (by rw [HS.out]; omega), (by repeat' first | exact Below.refl _ _ | refine below_alloc ?_ _ | refine below_step ?_ (by assumption))⟩

def be (n : Nat) : List Nat := (digs 256 n).reverse
theorem be_length (n : Nat) : (be n).length = (bitLen n + 7) / 8 := by unfold be; rw [List.length_reverse, digs_len_bits]
theorem be_eq {n m : Nat} {L : List Nat} (hm : (bitLen n + 7) / 8 = m) (hL : L.length = m) (h : ∀ j, j < m → L.getD (m - 1 - j) 0 = n / 256 ^ j % 256) : L = be n := by
  apply List.ext_getElem
  · rw [hL, be_length, hm]
  · intro i h1 h2
    have h3 := h (m - 1 - i) (by omega)
    rw [show m - 1 - (m - 1 - i) = i from by omega] at h3
    simp only [List.getD, List.getElem?_eq_getElem h1, Option.getD_some] at h3
    rw [h3]
    have h6 : (be n)[i] = (digs 256 n)[(digs 256 n).length - 1 - i]'(by rw [be_length, ← digs_len_bits] at h2; omega) := List.getElem_reverse _
    rw [h6]
    have h4 := digs_getD (b := 256) (by omega) n (m - 1 - i)
    rw [← h4]
    have h5 : (digs 256 n).length = m := by rw [digs_len_bits, hm]
    simp only [h5]
    simp [List.getD, List.getElem?_eq_getElem (by rw [h5]; omega : m - 1 - i < (digs 256 n).length)]

set_option maxHeartbeats 400000 in
theorem nbytes_any (n : Nat) (s : Int) (p : Option Addr) (l c : Nat) (w : World) (h : IsN w s p l c n) (hl : (ds n).length ≤ 1000000) :
    Calls Tryz.prog 77 #[.agg #[.int .u64 s, .slice p l c]] w (RetW w .u8 (be n)) := by
  have hmb : bitLen n ≤ 64 * (ds n).length := by
    have h1 := bitLen_ds n
    have h2 := bitLen_lt_pow.1 (getD_lt (ds_lt n) (by omega) ((ds n).length - 1))
    have := ds_pos n
    omega
  have hle : (bitLen n + 7) / 8 ≤ 8 * (ds n).length := by omega
  have H := Lib.hid h
  have HM := Lib.hid (make_u8 ((bitLen n + 7) / 8) (by omega))
  obtain ⟨m, hm⟩ : ∃ m, m = (bitLen n + 7) / 8 := ⟨_, rfl⟩
  rw [← hm] at HM
  have HMM := Lib.hid hm
  clear h
  go_enter Tryz.func77, Tryz.ntmps77
  go_wp2_with fail
  refine (list_any n s p l c _ (H.out.mono (by repeat' first | exact Below.refl _ _ | refine below_alloc ?_ _))).mono ?_
  rintro e w1 ⟨b, off, c', rfl, h1, h2, hb⟩
  have H2 := Lib.hid h2; clear h2
  obtain ⟨hc, hf⟩ := bcell hb
  go_wp2_with fail
  refine (nbits_any n s p l c _ (H.out.mono (by repeat' first | exact Below.refl _ _ | refine below_alloc ?_ _ | refine below_step ?_ (by assumption))) (by omega)).mono ?_
  rintro e w2 ⟨rfl, hb2⟩
  have hq : (((bitLen n : Nat) : Int) + 7) / 8 = (m : Int) := by omega
  have hm8 : m ≤ 8000000 := by omega
  have hmk := HM.out
  clear hm hmb hle
  go_wp2_with fail
  have A3 := At.made w2 .u8 m 5
  have F3 := Fr.made w2 .u8 m m 5
  have B3 : Below w2.heap.size w2 (w2.alloc (.cells (madeCells #[.int .u8 0] m) 5)) := below_alloc (Below.refl _ _) _
  have hz2 : b < w2.heap.size ∧ w.heap.size ≤ w2.heap.size := by
    have := H2.out.lt (ds_pos n); have := hb2.size; have := hb.size; simp at this; omega
  have HBW : Below w.heap.size w w2 := (by repeat' first | exact Below.refl _ _ | refine below_alloc ?_ _ | refine below_step ?_ (by assumption))
  have H3 := Lib.hid ((H2.out.mono hb2).mono B3)
  obtain ⟨w3, hw3⟩ : ∃ w3, w3 = w2.alloc (.cells (madeCells #[.int .u8 0] m) 5) := ⟨_, rfl⟩
  rw [← hw3] at A3 F3 B3 H3 ⊢
  have HB3 := Lib.hid (below_step HBW B3)
  have HA3 := Lib.hid A3; have HF3 := Lib.hid F3
  obtain ⟨g, hg⟩ : ∃ g, g = w2.heap.size := ⟨_, rfl⟩
  rw [← hg] at HA3 HF3 hz2 ⊢
  have hg3 : g < w3.heap.size := by rw [hw3, hg]; simp
  have hdl : m ≤ 8 * (ds n).length := by
    have h1 := bitLen_ds n
    have h2 := bitLen_lt_pow.1 (getD_lt (ds_lt n) (by omega) ((ds n).length - 1))
    have := ds_pos n
    omega
  clear hw3 hg A3 F3 B3 HBW hb2 hb hc hf hq H2 hmk HM
  go_loopw [15] (fun i wr => ∃ k : Nat, k ≤ m ∧ i = .int .i64 k ∧ ∃ L : List Nat, L.length = m ∧ At wr .u8 g 0 L ∧ Hid (∀ j, j < k → L.getD (m - 1 - j) 0 = n / 256 ^ j % 256) ∧ Only w3 wr g 0 m) (fun i _ => m - (intOf i).toNat)
  case atStart => exact ⟨0, Nat.zero_le _, rfl, List.replicate m 0, by simp, HA3.out, Lib.hid fun j h => by omega, Only.refl _ _ _ _⟩
  case round =>
    obtain ⟨k, hk, rfl, L, hL, hA, HI, hO⟩ := hrel
    by_cases hlt : k < m
    · have c1 := hA.zero (m - 1 - k) (by omega)
      have c2 := (HF3.out.only hO).zero (m - 1 - k) (by omega)
      have c3 := (H3.out.only hO (by omega)) (k / 8) (by omega)
      have i1 : (0 : Int) ≤ (m : Int) - 1 - k := by omega
      have i2 : (0 : Int) ≤ (k : Int) / 8 := by omega
      have i3 : (k : Int) / 8 < (ds n).length := by omega
      have hx : (ds n).getD (k / 8) 0 / 2 ^ (k % 8 * 8) % 256 = n / 256 ^ k % 256 := by
        have h1 := byte_of_digit 8 n k (by omega)
        rw [← digs_getD (b := 2 ^ (8 * 8)) (by omega)] at h1
        rw [← h1, Nat.mul_comm 8 (k % 8)]
        unfold ds
        split
        · subst_vars; rw [digs_zero]
          cases k / 8 <;> simp
        · rfl
      have HX := Lib.hid hx; clear hx
      generalize (ds n).getD (k / 8) 0 = x at *
      go_wp2
      go_roundw
      case rel =>
        refine ⟨k + 1, by omega, by go_num, L.set (m - 1 - k) (x / 2 ^ (k % 8 * 8) % 256), by simpa using hL, ?_, Lib.hid fun j hj => ?_, ?_⟩
        · have := hA.set (m - 1 - k) (x / 2 ^ (k % 8 * 8) % 256) (by omega)
          rw [Nat.zero_add, shr_cast] at this
          exact this
        · rw [getD_set _ _ _ _ (by omega)]
          by_cases e : j = k
          · subst e; rw [if_pos rfl, HX.out]
          · rw [if_neg (by omega)]; exact HI.out j (by omega)
        · exact hO.setCell _ (by omega) (by omega) _
      case measure => simp [intOf]; omega
    · go_wp2
      go_ret
      obtain rfl : k = m := by omega
      have e := be_eq HMM.out.symm hL HI.out
      rw [e] at hA hL
      exact ⟨g, 0, k, ret_slice hL.symm, by omega, by omega, hA, by rw [hL]; exact HF3.out.only hO, HB3.out.trans (hO.below hz2.2 (by omega))⟩
end Go.Proofs.YtfjjmhbffbhhdaaGreatDoor

/- The carrying sums and differences of math/bits, as the model has them; sums of two short numbers. -/
namespace Go.Proofs.YtfjjmhbffbhhdaaGreatDoor
open Go.RowKit

def sub64Entry : Array Value → Sem Value := fun args => do
  let (x, y, b) ← Extern.MathBitsCarry.three "Sub64" args
  pure (Extern.MathBitsCarry.pair ((x + Extern.MathBitsCarry.m64 - y - b) % Extern.MathBitsCarry.m64) (if x < y + b then 1 else 0))

theorem run_sub64 {P : Program} (x y b : Nat) (hb : b ≤ 1) (w : World) :
    (sub64Entry #[.int .u64 x, .int .u64 y, .int .u64 b]).run P w =
      .ok (.tuple #[.int .u64 (((x + 18446744073709551616 - y - b) % 18446744073709551616 : Nat) : Int), .int .u64 ((if x < y + b then 1 else 0 : Nat) : Int)]) w := by
  have : b = 0 ∨ b = 1 := by omega
  rcases this with rfl | rfl <;> rfl

theorem call_add64 (x y c : Nat) (hc : c ≤ 1) (w : World) :
    (callFunc 70 #[.int .u64 x, .int .u64 y, .int .u64 c]).run Tryz.prog w =
      .ok (.value (.tuple #[.int .u64 (((x + y + c) % 18446744073709551616 : Nat) : Int), .int .u64 (((x + y + c) / 18446744073709551616 : Nat) : Int)])) w := by
  rw [run_callFunc_extern Tryz.func70 (by kernel_rfl) (by kernel_rfl) (by kernel_rfl) (e := add64Entry) (by kernel_rfl), run_add64 x y c (by omega) (by omega) (by omega) (by omega)]
  simp only [Result.andThen]
  congr 5 <;> omega

theorem call_sub64 (x y b : Nat) (hb : b ≤ 1) (w : World) :
    (callFunc 96 #[.int .u64 x, .int .u64 y, .int .u64 b]).run Tryz.prog w =
      .ok (.value (.tuple #[.int .u64 (((x + 18446744073709551616 - y - b) % 18446744073709551616 : Nat) : Int), .int .u64 ((if x < y + b then 1 else 0 : Nat) : Int)])) w := by
  rw [run_callFunc_extern Tryz.func96 (by kernel_rfl) (by kernel_rfl) (by kernel_rfl) (e := sub64Entry) (by kernel_rfl), run_sub64 x y b hb]
  rfl

theorem call_add64' (x y c z d : Nat) (hc : c ≤ 1) (hz : x + y + c = z + 2 ^ 64 * d) (hz2 : z < 2 ^ 64) (w : World) :
    (callFunc 70 #[.int .u64 x, .int .u64 y, .int .u64 c]).run Tryz.prog w = .ok (.value (.tuple #[.int .u64 (z : Int), .int .u64 (d : Int)])) w := by
  rw [call_add64 x y c hc]
  have h1 : (x + y + c) % 18446744073709551616 = z := by omega
  have h2 : (x + y + c) / 18446744073709551616 = d := by omega
  rw [h1, h2]

theorem call_sub64' (x y b z d : Nat) (hb : b ≤ 1) (hx : x < 2 ^ 64) (hy : y < 2 ^ 64) (hz : x + 2 ^ 64 * d = z + y + b) (hz2 : z < 2 ^ 64) (w : World) :
    (callFunc 96 #[.int .u64 x, .int .u64 y, .int .u64 b]).run Tryz.prog w = .ok (.value (.tuple #[.int .u64 (z : Int), .int .u64 (d : Int)])) w := by
  rw [call_sub64 x y b hb]
  have h1 : (x + 18446744073709551616 - y - b) % 18446744073709551616 = z := by omega
  have h2 : (if x < y + b then 1 else 0 : Nat) = d := by split <;> omega
  rw [h1, h2]

theorem IsN.box {w : World} {s : Int} {p q : Option Addr} {l c k d n g : Nat} {u v : Value} (h : IsN w s p l c n) (h1 : w.cell? ⟨g, 1, none⟩ = some (.slice q k d)) :
    IsN ((w.setCell ⟨g, 0, none⟩ u).setCell ⟨g, 1, none⟩ v) s p l c n := by
  rcases h with h | ⟨a1, a2, b, off, a3, a4, a5, a6⟩
  · exact Or.inl h
  · refine Or.inr ⟨a1, a2, b, off, a3, a4, a5, fun i hi => ?_⟩
    have h2 := ds_two a1
    have h3 : ∀ o, (o = 0 ∨ o = 1) → (⟨g, o, none⟩ : Addr) ≠ ⟨b, off + i, none⟩ := by
      intro o ho e
      injection e with e1 e2
      subst e1
      have h4 := a6 (1 - off) (by omega)
      rw [show off + (1 - off) = 1 from by omega, h1] at h4
      cases h4
    rw [World.cell?_setCell_other _ _ _ _ (h3 1 (Or.inr rfl)), World.cell?_setCell_other _ _ _ _ (h3 0 (Or.inl rfl))]
    exact a6 i hi

theorem ofTwo_any (m n : Nat) (hm : m < 2 ^ 64) (hn : n < 2 ^ 64) (w : World) : Calls Tryz.prog 65 #[.int .u64 (m : Int), .int .u64 (n : Int)] w (RetN w (n + 2 ^ 64 * m)) := by
  by_cases h : m = 0
  · subst h; simpa using ofTwo_zero n hn w
  · have := ofTwo_more m n hm hn (by omega) w
    rwa [show m * 2 ^ 64 + n = n + 2 ^ 64 * m from by omega] at this

set_option maxHeartbeats 400000 in
theorem add_ss (m n : Nat) (hm : m < 2 ^ 64) (hn : n < 2 ^ 64) (w : World) :
    Calls Tryz.prog 40 #[.agg #[.int .u64 (m : Int), .slice none 0 0], .agg #[.int .u64 (n : Int), .slice none 0 0]] w (RetN w (m + n)) := by
  obtain ⟨z, d, hz, hz2, hd⟩ : ∃ z d, m + n + 0 = z + 2 ^ 64 * d ∧ z < 2 ^ 64 ∧ d < 2 ^ 64 := ⟨(m + n) % 2 ^ 64, (m + n) / 2 ^ 64, by omega, by omega, by omega⟩
  have hadd := call_add64' m n 0 z d (by omega) hz hz2
  rw [Int.natCast_zero] at hadd
  have HT := Lib.hid (ofTwo_any d z hd hz2)
  have HE := Lib.hid (show z + 2 ^ 64 * d = m + n by omega)
  clear hz hz2 hd hm hn
  go_enter Tryz.func40, Tryz.ntmps40
  go_wp2_with fail
  refine (short_yes _ _ _ _).mono ?_
  rintro e w1 ⟨rfl, hb⟩
  obtain ⟨hc, hf⟩ := bcell hb
  have hz : w.heap.size + 1 < w1.heap.size := by have := hb.size; simp at this; omega
  go_wp2_with fail
  refine (short_yes _ _ _ _).mono ?_
  rintro e w2 ⟨rfl, hb2⟩
  replace hb2 := below_step hb hb2
  obtain ⟨hc2, hf2⟩ := bcell hb2
  clear hc hf
  go_wp2_with fail
  refine (HT.out _).mono ?_
  rintro e w3 ⟨s, p, l, c, rfl, hN, hb3⟩
  rw [HE.out] at hN
  replace hb3 := below_step hb2 hb3
  obtain ⟨hc3, hf3⟩ := bcell hb3
  have hz3 : w.heap.size + 2 < w3.heap.size := by have := hb3.size; simp at this; omega
  go_wp2
  refine bodyPost_ret (v := .agg #[.int .u64 s, .slice p l c]) (by simp [results, Tryz.results40, go_sem, hc3]) rfl ⟨s, p, l, c, rfl, hN.box (q := none) (k := 0) (d := 0) (by simp [hc3, go_sem]), ?_⟩
  exact (by repeat' first | exact Below.refl _ _ | refine below_alloc ?_ _ | (refine Below.setCell ?_ (by simp; omega) _) | refine below_step ?_ (by assumption))
end Go.Proofs.YtfjjmhbffbhhdaaGreatDoor

/- Short numbers moved by bits. -/
namespace Go.Proofs.YtfjjmhbffbhhdaaGreatDoor
open Go.RowKit

end Go.Proofs.YtfjjmhbffbhhdaaGreatDoor

/- Raw numbers as small ones. -/
namespace Go.Proofs.YtfjjmhbffbhhdaaGreatDoor
open Go.RowKit

end Go.Proofs.YtfjjmhbffbhhdaaGreatDoor

/- A raw number as a place in a slice of whatever length; a slice of bytes cut there. -/
namespace Go.Proofs.YtfjjmhbffbhhdaaGreatDoor
open Go.RowKit

end Go.Proofs.YtfjjmhbffbhhdaaGreatDoor

/- Rows of one's own: their cells. -/
namespace Go.Proofs.YtfjjmhbffbhhdaaGreatDoor
open Go.RowKit

theorem ownsRow_pos {W : World} {base : Nat} {e : TypeId} {size : Nat} {v : Value} {k : Nat} {xs : List Value} (h : W.ownsRow base e size v k xs) (hk : 0 < k) : ∃ g cap, v = .slice (some ⟨g, 0, none⟩) k cap := by
  rcases h.2 with ⟨_, h0⟩ | ⟨g, cap, _, rfl, _⟩
  · omega
  · exact ⟨g, cap, rfl⟩

theorem ownsRow_at {W : World} {base : Nat} {k : IntKind} {g n cap : Nat} {xs : List Nat} {e : TypeId} (h : W.ownsRow base e 1 (.slice (some ⟨g, 0, none⟩) n cap) n (cellsOfRow k xs)) (hn : xs.length = n) :
    base ≤ g ∧ n ≤ cap ∧ At W k g 0 xs ∧ Fr W g 0 n := by
  obtain ⟨h1, ⟨h2, _⟩ | ⟨g', cap', cur, h2, h3, h4, h5, _⟩⟩ := id h
  · cases h2
  · simp only [Value.slice.injEq, Option.some.injEq, Addr.mk.injEq, and_true, true_and] at h2
    obtain ⟨rfl, rfl⟩ := h2
    refine ⟨h3, h5, fun i hi => ?_, fun i _ => ?_⟩
    · rw [Nat.zero_add, World.ownsRow.cellAt h i (by omega)]
      simp [cellsOfRow, List.getD, hi]
    · rw [Nat.zero_add]; exact World.ownsRow.frozenAt h i

theorem cells_at {W : World} {k : IntKind} {b off : Nat} {xs : List Nat} (h : At W k b off xs) : ∀ j u, (cellsOfRow k xs)[j]? = some u → W.cell? ((⟨b, off, none⟩ : Addr).add j) = some u := by
  intro j u hj
  have hjl : j < xs.length := by
    rcases Nat.lt_or_ge j xs.length with h | h
    · exact h
    · rw [List.getElem?_eq_none (by simpa [cellsOfRow] using h)] at hj; cases hj
  rw [Go.WideShapes.add_plain]
  show W.cell? ⟨b, off + j, none⟩ = some u
  rw [h j hjl, ← hj]
  simp [cellsOfRow, List.getD, hjl]
theorem cells_one (k : IntKind) (xs : List Nat) : ∀ u ∈ cellsOfRow k xs, u.oneCell' = true := by
  intro u hu
  simp only [cellsOfRow, List.mem_map] at hu
  obtain ⟨x, _, rfl⟩ := hu
  rfl
theorem cells_len (k : IntKind) (xs : List Nat) : (cellsOfRow k xs).length = xs.length := by simp [cellsOfRow]
theorem cells_app (k : IntKind) (xs ys : List Nat) : cellsOfRow k (xs ++ ys) = cellsOfRow k xs ++ cellsOfRow k ys := by simp [cellsOfRow]

end Go.Proofs.YtfjjmhbffbhhdaaGreatDoor
