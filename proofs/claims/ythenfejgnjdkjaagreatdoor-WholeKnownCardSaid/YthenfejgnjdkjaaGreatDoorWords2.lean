/- Words and bytes of a number (numbers alone). -/
import Derived.Test.YthenfejgnjdkjaaGreatDoorFill
import Derived.Test.YthenfejgnjdkjaaGreatDoorProduct
import Derived.Test.YthenfejgnjdkjaaGreatDoorInt
namespace Go.Proofs.YthenfejgnjdkjaaGreatDoor

theorem val_digit {b : Nat} {xs : List Nat} (hx : ∀ x ∈ xs, x < b) {j : Nat} (hj : j < xs.length) : val b xs / b ^ j % b = xs.getD j 0 := by
  have h0 : 0 < b := by have := hx xs[j] (List.getElem_mem hj); omega
  have h1 := val_split b xs j (by omega)
  rw [val_drop_cons _ _ _ hj] at h1
  have h2 := val_take_lt b xs j hx (by omega)
  have h3 := getD_lt hx h0 j
  rw [h1, Nat.add_mul_div_left _ _ (Nat.pow_pos h0), Nat.div_eq_of_lt h2, Nat.zero_add, Nat.add_mul_mod_self_left, Nat.mod_eq_of_lt h3]
theorem val_of_digits {b : Nat} (hb : 0 < b) : ∀ (L : List Nat) (n : Nat), n < b ^ L.length → (∀ j, j < L.length → L.getD j 0 = n / b ^ j % b) → val b L = n
  | [], n, h, _ => by
    rw [List.length_nil, Nat.pow_zero] at h
    show 0 = n
    omega
  | x :: L, n, h, hd => by
    have h0 : x = n % b := by simpa using hd 0 (by simp)
    have h1 : n / b < b ^ L.length := by
      rw [List.length_cons, Nat.pow_succ, Nat.mul_comm] at h
      exact Nat.div_lt_of_lt_mul h
    have h2 := val_of_digits hb L (n / b) h1 (fun j hj => by
      have := hd (j + 1) (by simpa using hj)
      rw [Nat.div_div_eq_div_mul, Nat.mul_comm b, ← Nat.pow_succ]
      simpa using this)
    show x + b * val b L = n
    rw [h2, h0]
    exact Nat.mod_add_div n b
theorem byte_of_word {ws : List Nat} (hw : ∀ x ∈ ws, x < 2 ^ 64) {i : Nat} (hi : i < 8 * ws.length) : ws.getD (i / 8) 0 / 2 ^ (8 * (i % 8)) % 256 = val (2 ^ 64) ws / 256 ^ i % 256 := by
  rw [← val_digit hw (show i / 8 < ws.length by omega)]
  exact byte_of_digit 8 (val (2 ^ 64) ws) i (by omega)
theorem nb_of_bytes {L : List Nat} {n m : Nat} (hL : L.length = m) (hn : n < 256 ^ m) (h : ∀ j, j < m → L.getD (m - 1 - j) 0 = n / 256 ^ j % 256) : nb L = n := by
  unfold nb
  refine val_of_digits (by omega) _ _ (by rw [List.length_reverse, hL]; exact hn) (fun j hj => ?_)
  rw [List.length_reverse, hL] at hj
  rw [rev_getD _ _ (by omega), hL]
  exact h j hj
theorem pow_words (l : Nat) : (2 ^ 64) ^ l = 256 ^ (8 * l) := by
  rw [Nat.pow_mul]
end Go.Proofs.YthenfejgnjdkjaaGreatDoor

/- A number as words, and words as a number: the program's. -/
namespace Go.Proofs.YthenfejgnjdkjaaGreatDoor
open Go.RowKit

set_option maxRecDepth 100000 in
set_option maxHeartbeats 2000000 in
theorem natOf_any (bx ox cx n : Nat) (ws : List Nat) (w : World) (hl : ws.length = n) (hn : n ≤ 100000) (h0 : 0 < n) (h : At w .u64 bx ox ws) (hw : ∀ x ∈ ws, x < 2 ^ 64) :
    Calls Tryz.prog 60 #[.slice (some ⟨bx, ox, none⟩) n cx] w (RetN w (val (2 ^ 64) ws)) := by
  obtain ⟨m, hm⟩ : ∃ m, m = 8 * n := ⟨_, rfl⟩
  have hmk := make_u8 m (by omega)
  have hq : 8 * (n : Int) = (m : Int) := by omega
  have hwq : IntKind.i64.wrap (8 * (n : Int)) = (m : Int) := by rw [IntKind.wrap_i64]; omega
  have hbx := h.lt (by omega)
  have H := Lib.hid h; have HW := Lib.hid hw; have HL := Lib.hid hl; have HM := Lib.hid hm
  have hm2 : m ≤ 800000 := by omega
  clear h hw hl hm
  go_enter Tryz.func60, Tryz.ntmps60
  go_wp2_with fail
  obtain ⟨w1, hw1⟩ : ∃ w1, w1 = w.alloc (.cells #[.int .u64 0, .slice none 0 0] 25) := ⟨_, rfl⟩
  have hz1 : w1.heap.size = w.heap.size + 1 := by rw [hw1]; simp
  have B1 : Below w.heap.size w w1 := by rw [hw1]; exact below_alloc (Below.refl _ _) _
  have r0 : w1.cell? ⟨w.heap.size, 0, none⟩ = some (.int .u64 0) := by rw [hw1]; simp [go_sem]
  have r1 : w1.cell? ⟨w.heap.size, 1, none⟩ = some (.slice none 0 0) := by rw [hw1]; simp [go_sem]
  have f0 : w1.frozen? ⟨w.heap.size, 0, none⟩ = false := by rw [hw1]; simp [go_sem]
  have f1 : w1.frozen? ⟨w.heap.size, 1, none⟩ = false := by rw [hw1]; simp [go_sem]
  rw [← hw1]
  have A3 := At.made w1 .u8 m 5
  have F3 := Fr.made w1 .u8 m m 5
  have B3 : Below w1.heap.size w1 (w1.alloc (.cells (madeCells #[.int .u8 0] m) 5)) := below_alloc (Below.refl _ _) _
  have hz3 : (w1.alloc (.cells (madeCells #[.int .u8 0] m) 5)).heap.size = w1.heap.size + 1 := by simp
  obtain ⟨w3, hw3⟩ : ∃ w3, w3 = w1.alloc (.cells (madeCells #[.int .u8 0] m) 5) := ⟨_, rfl⟩
  obtain ⟨g, hg⟩ : ∃ g, g = w1.heap.size := ⟨_, rfl⟩
  rw [← hw3] at A3 F3 B3 hz3 ⊢
  rw [← hg] at A3 F3 hz3 hz1
  rw [← hz1]
  have HZ1 := Lib.hid hz1; have HZ3 := Lib.hid hz3
  have R0 := Lib.hid (wcell B3 r0); have R1 := Lib.hid (wcell B3 r1)
  have W0 := Lib.hid (wfree B3 r0 f0); have W1 := Lib.hid (wfree B3 r1 f1)
  have HA3 := Lib.hid A3; have HF3 := Lib.hid F3
  have HB3 := Lib.hid (below_step B1 B3)
  have HX3 := Lib.hid ((H.out.mono B1).mono B3)
  clear r0 r1 f0 f1 A3 F3 B3 B1 hw3 hw1 hg hmk hq hwq hz1 hz3
  go_loopw [11] (fun i wr => ∃ k : Nat, k ≤ m ∧ i = .int .i64 k ∧ ∃ L : List Nat, L.length = m ∧ At wr .u8 g 0 L ∧ Hid ((∀ j, j < k → L.getD (m - 1 - j) 0 = val (2 ^ 64) ws / 256 ^ j % 256) ∧ ∀ x ∈ L, x < 256) ∧ Only w3 wr g 0 m) (fun i _ => m - (intOf i).toNat)
  case atStart => exact ⟨0, Nat.zero_le _, rfl, List.replicate m 0, by simp, HA3.out, Lib.hid ⟨fun j hj => absurd hj (Nat.not_lt_zero j), fun x hx => by rw [List.eq_of_mem_replicate hx]; omega⟩, Only.refl _ _ _ _⟩
  case round =>
    obtain ⟨k, hk, rfl, L, hL, hA, HI, hO⟩ := hrel
    by_cases hlt : k < m
    · have hM := HM.out
      have hk8 : k / 8 < n := by omega
      have hbB : bx ≠ g := by have := HZ1.out; omega
      have c1 := hA.zero (m - 1 - k) (by omega)
      have c2 := (HF3.out.only hO).zero (m - 1 - k) (by omega)
      have c3 := (HX3.out.only hO hbB) (k / 8) (by rw [HL.out]; omega)
      have hx := getD_lt HW.out (by omega) (k / 8)
      have hby := byte_of_word HW.out (i := k) (by rw [HL.out]; omega)
      have HBY := Lib.hid (show ws.getD (k / 8) 0 / 2 ^ (k % 8 * 8) % 256 = val (2 ^ 64) ws / 256 ^ k % 256 from by rw [Nat.mul_comm (k % 8)]; exact hby)
      obtain ⟨x, hxe⟩ : ∃ x, x = ws.getD (k / 8) 0 := ⟨_, rfl⟩
      rw [← hxe] at c3 HBY
      have i1 : (0 : Int) ≤ (m : Int) - 1 - k := by omega
      have i2 : (0 : Int) ≤ (k : Int) / 8 := by omega
      have i3 : (k : Int) / 8 < n := by omega
      clear hby hxe hM hx
      go_wp2
      go_roundw
      case rel =>
        refine ⟨k + 1, by omega, by go_num, L.set (m - 1 - k) (x / 2 ^ (k % 8 * 8) % 256), by simpa using hL, ?_, Lib.hid ⟨fun j hj => ?_, fun z hz => ?_⟩, ?_⟩
        · have := hA.set (m - 1 - k) (x / 2 ^ (k % 8 * 8) % 256) (by omega)
          rw [Nat.zero_add, shr_cast] at this
          exact this
        · rw [getD_set _ _ _ _ (by omega)]
          by_cases e : j = k
          · subst e; rw [if_pos rfl, HBY.out]
          · rw [if_neg (by omega)]; exact HI.out.1 j (by omega)
        · rcases List.mem_or_eq_of_mem_set hz with h | h
          · exact HI.out.2 z h
          · rw [h]; exact Nat.mod_lt _ (by omega)
        · exact hO.setCell _ (by omega) (by omega) _
      case measure => simp [intOf]; omega
    · obtain rfl : k = m := by omega
      have hbx2 : w.heap.size < w3.heap.size := by have := HZ1.out; have := HZ3.out; omega
      have hne : w.heap.size ≠ g := by have := HZ1.out; omega
      have r0' : wr.cell? ⟨w.heap.size, 0, none⟩ = some (.int .u64 0) := by rw [World.cell?_of_block (w := w3) (hO.block _ hbx2 hne)]; exact R0.out
      have r1' : wr.cell? ⟨w.heap.size, 1, none⟩ = some (.slice none 0 0) := by rw [World.cell?_of_block (w := w3) (hO.block _ hbx2 hne)]; exact R1.out
      have f0' : wr.frozen? ⟨w.heap.size, 0, none⟩ = false := by rw [World.frozen?_of_block (w := w3) (hO.block _ hbx2 hne)]; exact W0.out
      have f1' : wr.frozen? ⟨w.heap.size, 1, none⟩ = false := by rw [World.frozen?_of_block (w := w3) (hO.block _ hbx2 hne)]; exact W1.out
      have HT := Lib.hid (fromBytes_any g 0 k k L wr hL (by omega) hA HI.out.2)
      have hRB := hO.below (show w.heap.size ≤ g by have := HZ1.out; omega) (show w.heap.size ≤ w3.heap.size by have := HZ1.out; have := HZ3.out; omega)
      have HBR := Lib.hid (HB3.out.trans hRB)
      have hnv : val (2 ^ 64) ws < 256 ^ k := by rw [HM.out, ← pow_words, ← HL.out]; exact val_lt _ _ HW.out
      have HV := Lib.hid (nb_of_bytes hL hnv HI.out.1)
      clear hRB hA hO HI hnv
      go_wp2_with fail
      refine HT.out.mono ?_
      rintro e w6 ⟨s6, p6, l6, c6, rfl, h6, hb6⟩
      have H6 := Lib.hid h6; clear h6
      have r0 := wcell hb6 r0'; have r1 := wcell hb6 r1'
      have f0 := wfree hb6 r0' f0'; have f1 := wfree hb6 r1' f1'
      have HB6 := Lib.hid (below_step HBR.out hb6)
      clear r0' r1' f0' f1' hb6
      go_wp2
      refine bodyPost_ret (v := .agg #[.int .u64 s6, .slice p6 l6 c6]) (by simp [results, Tryz.results60, go_sem, r0, r1]) rfl ⟨s6, p6, l6, c6, rfl, ?_, ?_⟩
      · have hv := HV.out
        rw [← hv]
        exact H6.out.box r1
      · exact (HB6.out.setCell (by simp) _).setCell (by simp) _
end Go.Proofs.YthenfejgnjdkjaaGreatDoor

/- The words of a number: the program's. -/
namespace Go.Proofs.YthenfejgnjdkjaaGreatDoor
open Go.RowKit

theorem be_le {n k : Nat} (h : n < (2 ^ 64) ^ k) : (be n).length ≤ 8 * k := by
  unfold be
  rw [List.length_reverse]
  exact digs_length_le (by omega) (by rw [← pow_words]; exact h)

set_option maxRecDepth 100000 in
set_option maxHeartbeats 2000000 in
theorem wordsOf_any (n m : Nat) (s : Int) (p : Option Addr) (l0 c0 : Nat) (w : World) (h : IsN w s p l0 c0 n) (hl : (ds n).length ≤ 100000) (hm0 : 0 < m) (hm : m ≤ 100000) (hn : n < (2 ^ 64) ^ m) :
    Calls Tryz.prog 56 #[.agg #[.int .u64 s, .slice p l0 c0], .int .i64 (m : Int)] w (RetP w m n) := by
  have hmk := make_u64 m (by omega)
  obtain ⟨bs, hbs⟩ : ∃ bs, bs = be n := ⟨_, rfl⟩
  obtain ⟨l, hlb⟩ : ∃ l, l = bs.length := ⟨_, rfl⟩
  have hl8 : l ≤ 8 * m := by rw [hlb, hbs]; exact be_le hn
  have HBY := Lib.hid (fun W (hI : IsN W s p l0 c0 n) => nbytes_any n s p l0 c0 W hI (by omega))
  rw [← hbs] at HBY
  have H := Lib.hid h
  have HB := Lib.hid (show ∀ x ∈ bs, x < 256 from by rw [hbs]; exact be_lt n)
  have HNB := Lib.hid (show nb bs = n from by rw [hbs]; exact nb_be n)
  have HL := Lib.hid hlb.symm
  have HL8 := Lib.hid hl8
  clear h hl hbs hlb hn
  go_enter Tryz.func56, Tryz.ntmps56
  go_wp2_with fail
  refine (HBY.out _ (H.out.mono (by repeat' first | exact Below.refl _ _ | refine below_alloc ?_ _))).mono ?_
  rintro e w1 ⟨bB, off, c, rfl, hc1, hnew, hX, hF, hb⟩
  rw [HL.out]
  have HX1 := Lib.hid hX
  have B1 : Below w.heap.size w w1 := (by repeat' first | exact Below.refl _ _ | refine below_alloc ?_ _ | refine below_step ?_ (by assumption))
  have HB1 := Lib.hid B1
  have hbB : bB < w1.heap.size ∨ l = 0 := by
    rcases Nat.eq_zero_or_pos l with h0 | h0
    · exact Or.inr h0
    · exact Or.inl (hX.lt (by rw [HL.out]; exact h0))
  clear hX hF hb B1 hc1 hnew
  go_wp2_with fail
  have A3 := At.made w1 .u64 m 22
  have F3 := Fr.made w1 .u64 m m 22
  have B3 : Below w1.heap.size w1 (w1.alloc (.cells (madeCells #[.int .u64 0] m) 22)) := below_alloc (Below.refl _ _) _
  have hz3 : (w1.alloc (.cells (madeCells #[.int .u64 0] m) 22)).heap.size = w1.heap.size + 1 := by simp
  obtain ⟨w3, hw3⟩ : ∃ w3, w3 = w1.alloc (.cells (madeCells #[.int .u64 0] m) 22) := ⟨_, rfl⟩
  obtain ⟨g, hg⟩ : ∃ g, g = w1.heap.size := ⟨_, rfl⟩
  rw [← hw3] at A3 F3 B3 hz3 ⊢
  rw [← hg] at A3 F3 hz3 hbB ⊢
  have HZ3 := Lib.hid hz3
  have HZ1 := Lib.hid (show w.heap.size ≤ g by rw [hg]; exact HB1.out.size)
  have HA3 := Lib.hid A3; have HF3 := Lib.hid F3
  have HB3 := Lib.hid (below_step HB1.out B3)
  have HX3 := Lib.hid (HX1.out.mono B3)
  clear A3 F3 B3 hw3 hg hmk hz3 HX1 HB1
  go_loopw [14] (fun i wr => ∃ k : Nat, k ≤ l ∧ i = .int .i64 k ∧ ∃ L : List Nat, L.length = m ∧ At wr .u64 g 0 L ∧ Hid (Fill 8 bs.reverse L k) ∧ Only w3 wr g 0 m) (fun i _ => l - (intOf i).toNat)
  case atStart => exact ⟨0, Nat.zero_le _, rfl, List.replicate m 0, by simp, HA3.out, Lib.hid (Fill.start _ _ _), Only.refl _ _ _ _⟩
  case round =>
    obtain ⟨k, hk, rfl, L, hL, hA, HI, hO⟩ := hrel
    by_cases hlt : k < l
    · have hM := HL8.out
      have hk8 : k / 8 < m := by omega
      have hbg : bB ≠ g := by omega
      have c1 := hA.zero (k / 8) (by omega)
      have c2 := (HF3.out.only hO).zero (k / 8) (by omega)
      have c3 := (HX3.out.only hO hbg) (l - 1 - k) (by rw [HL.out]; omega)
      have i1 : (0 : Int) ≤ (l : Int) - 1 - k := by omega
      have i2 : (0 : Int) ≤ (k : Int) / 8 := by omega
      have i3 : (k : Int) / 8 < m := by omega
      have hy : bs.getD (l - 1 - k) 0 < 256 := getD_lt HB.out (by omega) _
      have hst := HI.out.step (by omega) (fun x hx => HB.out x (List.mem_reverse.1 hx)) (by rw [List.length_reverse, HL.out]; exact hlt) (by rw [hL]; exact hk8)
      rw [rev_getD _ _ (by rw [HL.out]; exact hlt), HL.out] at hst
      have HS := Lib.hid hst
      clear hst
      have hx : L.getD (k / 8) 0 < 2 ^ 64 := by
        have := getD_lt (HI.out.lt (fun x hx => HB.out x (List.mem_reverse.1 hx))) (by omega) (k / 8)
        exact this
      have HXX := Lib.hid hx
      generalize L.getD (k / 8) 0 = x at *
      generalize bs.getD (l - 1 - k) 0 = y at *
      clear hx hM
      go_wp2_with fail
      go_big_region
      have hor := or64 HXX.out hy (show k % 8 * 8 ≤ 56 by omega)
      rw [hor]
      go_wp2
      go_roundw
      case rel =>
        refine ⟨k + 1, by omega, by go_num, _, ?_, ?_, Lib.hid HS.out, ?_⟩
        · rw [List.length_set]; exact hL
        · have := hA.set (k / 8) (x ||| y * 2 ^ (8 * (k % 8))) (by omega)
          rw [Nat.zero_add] at this
          rw [Nat.mul_comm (k % 8) 8]
          exact this.drew
        · exact (hO.setCell _ (by omega) (by omega) _).drew
      case measure => simp [intOf]; omega
    · obtain rfl : k = l := by omega
      have hF := HI.out
      have hrl : bs.reverse.length = k := by rw [List.length_reverse, HL.out]
      have hv := Fill.done (hrl ▸ hF) (by rw [hrl, hL]; have := HL8.out; omega)
      have hlt2 := hF.lt (fun x hx => HB.out x (List.mem_reverse.1 hx))
      have hRB := hO.below HZ1.out (show w.heap.size ≤ w3.heap.size by have := HZ1.out; have := HZ3.out; omega)
      have HBR := Lib.hid (HB3.out.trans hRB)
      have HV := Lib.hid (show val (2 ^ 64) L = n from by rw [← HNB.out]; exact hv)
      have HLT := Lib.hid hlt2
      have HA := Lib.hid hA
      have HFF := Lib.hid (HF3.out.only hO)
      clear hF hv hlt2 hRB hA hO HI
      go_wp2
      go_ret
      exact ⟨g, L, m, rfl, hL, Nat.le_refl _, HLT.out, HV.out, HZ1.out, HA.out, HFF.out, HBR.out⟩
end Go.Proofs.YthenfejgnjdkjaaGreatDoor
