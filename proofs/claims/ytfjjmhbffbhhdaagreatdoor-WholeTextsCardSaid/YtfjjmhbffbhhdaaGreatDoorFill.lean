/- Numbers of bytes: a row of words is filled with bytes, the lowest first. -/
import Derived.Test.YtfjjmhbffbhhdaaGreatDoorShiftS
import Derived.Test.YtfjjmhbffbhhdaaGreatDoorDivS
import Derived.BigRegion
import Derived.Laws.BitsAllLaws
namespace Go.Proofs.YtfjjmhbffbhhdaaGreatDoor
open Go.RowKit

theorem val_words (b q : Nat) (ws : List Nat) : ∀ bs : List Nat, bs.length ≤ ws.length * q → (∀ j, j < ws.length → ws.getD j 0 = val b ((bs.drop (q * j)).take q)) → val (b ^ q) ws = val b bs := by
  induction ws with
  | nil => intro bs h _; have : bs = [] := List.eq_nil_of_length_eq_zero (by simpa using h)
           subst this; rfl
  | cons x ws ih =>
    intro bs h hg
    have h0 : x = val b (bs.take q) := by simpa using hg 0 (by simp)
    have h1 := ih (bs.drop q) (by rw [List.length_drop]; simp only [List.length_cons, Nat.succ_mul] at h; omega) (fun j hj => by
      have := hg (j + 1) (by simpa using hj)
      rw [List.drop_drop, show q + q * j = q * (j + 1) from by rw [Nat.mul_succ]; omega]
      simpa using this)
    show x + b ^ q * val (b ^ q) ws = val b bs
    rw [h1, h0]
    by_cases hq : q ≤ bs.length
    · exact (val_split b bs q hq).symm
    · rw [List.take_of_length_le (by omega), List.drop_of_length_le (by omega)]; simp [val]

structure Fill (q : Nat) (bs ws : List Nat) (i : Nat) : Prop where
  word : ∀ j, j < ws.length → ws.getD j 0 = val 256 (((bs.take i).drop (q * j)).take q)

theorem Fill.start (q m : Nat) (bs : List Nat) : Fill q bs (List.replicate m 0) 0 :=
  ⟨fun j hj => by simp at hj; simp [val, hj]⟩

theorem or_add {x y k : Nat} (h : x < 2 ^ k) : x ||| y * 2 ^ k = x + 2 ^ k * y := by
  rw [Nat.mul_comm, Nat.or_comm, ← Nat.two_pow_add_eq_or_of_lt h, Nat.add_comm]

theorem Fill.low {q : Nat} {bs ws : List Nat} {i : Nat} (h : Fill q bs ws i) (hq : 0 < q) (hb : ∀ x ∈ bs, x < 256) (hi : i < bs.length) (hm : i / q < ws.length) : ws.getD (i / q) 0 < 2 ^ (8 * (i % q)) := by
  rw [h.word _ hm]
  have h1 := Nat.div_add_mod i q
  have h2 := Nat.mod_lt i hq
  have h3 := val_lt 256 (((bs.take i).drop (q * (i / q))).take q) (fun x hx => hb x (List.mem_of_mem_take (List.mem_of_mem_drop (List.mem_of_mem_take hx))))
  have h4 : (((bs.take i).drop (q * (i / q))).take q).length = i % q := by
    rw [List.length_take, List.length_drop, List.length_take]; omega
  rw [h4] at h3
  rw [Nat.pow_mul]
  exact h3

theorem Fill.step {q : Nat} {bs ws : List Nat} {i : Nat} (h : Fill q bs ws i) (hq : 0 < q) (hb : ∀ x ∈ bs, x < 256) (hi : i < bs.length) (hm : i / q < ws.length) :
    Fill q bs (ws.set (i / q) (ws.getD (i / q) 0 ||| bs.getD i 0 * 2 ^ (8 * (i % q)))) (i + 1) := by
  have h1 := Nat.div_add_mod i q
  have h2 := Nat.mod_lt i hq
  refine ⟨fun j hj => ?_⟩
  rw [List.length_set] at hj
  rw [getD_set _ _ _ _ hm]
  have e : bs.take (i + 1) = bs.take i ++ [bs.getD i 0] := by
    rw [List.take_add_one, List.getElem?_eq_getElem hi]; simp [List.getD, hi]
  have hl : (bs.take i).length = i := by rw [List.length_take]; omega
  by_cases hji : j = i / q
  · subst hji
    rw [if_pos rfl, or_add (h.low hq hb hi hm), h.word _ hm, e]
    rw [List.drop_append_of_le_length (by rw [hl]; omega)]
    have h3 : ((bs.take i).drop (q * (i / q))).length = i % q := by rw [List.length_drop, hl]; omega
    rw [List.take_append, h3]
    rw [show q - i % q = (q - i % q - 1) + 1 from by omega, List.take_succ_cons, List.take_nil, val_append, List.take_of_length_le (by omega), h3, Nat.pow_mul]
    simp [val]
  · rw [if_neg hji, h.word _ hj, e]
    by_cases hlt : j < i / q
    · have h5 : q * j + q ≤ q * (i / q) := by rw [← Nat.mul_succ]; exact Nat.mul_le_mul_left q hlt
      rw [List.drop_append_of_le_length (by rw [hl]; omega), List.take_append_of_le_length (by rw [List.length_drop, hl]; omega)]
    · have h5 : q * (i / q) + q ≤ q * j := by rw [← Nat.mul_succ]; exact Nat.mul_le_mul_left q (by omega)
      rw [List.drop_of_length_le (by rw [hl]; omega), List.drop_of_length_le (by rw [List.length_append, hl]; simp; omega)]

theorem Fill.done {q : Nat} {bs ws : List Nat} (h : Fill q bs ws bs.length) (hm : bs.length ≤ ws.length * q) : val (256 ^ q) ws = val 256 bs :=
  val_words 256 q ws bs hm (fun j hj => by have := h.word j hj; rwa [List.take_of_length_le (Nat.le_refl _)] at this)
theorem Fill.lt {q : Nat} {bs ws : List Nat} {i : Nat} (h : Fill q bs ws i) (hb : ∀ x ∈ bs, x < 256) : ∀ x ∈ ws, x < 256 ^ q := by
  intro x hx
  obtain ⟨j, hj, rfl⟩ := List.getElem_of_mem hx
  have h1 := h.word j hj
  rw [List.getD, List.getElem?_eq_getElem hj, Option.getD_some] at h1
  rw [h1]
  have h3 := val_lt 256 (((bs.take i).drop (q * j)).take q) (fun x hx => hb x (List.mem_of_mem_take (List.mem_of_mem_drop (List.mem_of_mem_take hx))))
  exact Nat.lt_of_lt_of_le h3 (Nat.pow_le_pow_right (by omega) (by rw [List.length_take]; omega))
def nb (bs : List Nat) : Nat := val 256 bs.reverse

theorem rev_getD (bs : List Nat) (i : Nat) (h : i < bs.length) : bs.reverse.getD i 0 = bs.getD (bs.length - 1 - i) 0 := by
  simp only [List.getD]
  rw [List.getElem?_reverse h]

theorem shifted_lt {y s e : Nat} (hy : y < 256) (hs : s + 8 ≤ e) : y * 2 ^ s < 2 ^ e := by
  have h1 : 2 ^ s * 2 ^ 8 ≤ 2 ^ e := by rw [← Nat.pow_add]; exact Nat.pow_le_pow_right (by omega) hs
  have h2 : y * 2 ^ s < 256 * 2 ^ s := Nat.mul_lt_mul_of_pos_right hy (Nat.two_pow_pos s)
  rw [Nat.mul_comm] at h1
  exact Nat.lt_of_lt_of_le h2 h1
structure FillD (q : Nat) (bs ws : List Nat) (K : Nat) : Prop where
  word : ∀ j, j < ws.length → ws.getD j 0 = val 256 (((List.replicate K 0 ++ bs.drop K).drop (q * j)).take q)

theorem FillD.start (q m : Nat) (bs : List Nat) : FillD q bs (List.replicate m 0) bs.length := by
  refine ⟨fun j hj => ?_⟩
  simp only [List.length_replicate] at hj
  rw [List.drop_of_length_le (Nat.le_refl _), List.append_nil, List.drop_replicate, List.take_replicate, val_replicate_zero]
  simp [hj]

theorem take_zeros {n q : Nat} {T : List Nat} (h : n ≤ q) : (List.replicate n 0 ++ T).take q = List.replicate n 0 ++ T.take (q - n) := by
  rw [List.take_append, List.length_replicate, List.take_of_length_le (by rw [List.length_replicate]; exact h)]

theorem FillD.next {bs : List Nat} {K : Nat} (hK : K < bs.length) : List.replicate K 0 ++ bs.drop K = (List.replicate (K + 1) 0 ++ bs.drop (K + 1)).set K (bs.getD K 0) := by
  rw [List.drop_eq_getElem_cons hK, List.replicate_succ', List.append_assoc, List.set_append_right _ _ (by simp)]
  simp [List.getD, hK]

theorem FillD.step {q : Nat} {bs ws : List Nat} {K : Nat} (h : FillD q bs ws (K + 1)) (hq : 0 < q) (hb : ∀ x ∈ bs, x < 256) (hK : K < bs.length) (hm : K / q < ws.length) :
    FillD q bs (ws.set (K / q) (ws.getD (K / q) 0 ||| bs.getD K 0 * 2 ^ (8 * (K % q)))) K := by
  have h1 := Nat.div_add_mod K q
  have h2 := Nat.mod_lt K hq
  refine ⟨fun j hj => ?_⟩
  rw [List.length_set] at hj
  rw [getD_set _ _ _ _ hm, FillD.next hK]
  by_cases hji : j = K / q
  · subst hji
    rw [if_pos rfl, h.word _ hm, List.drop_set, if_neg (by omega), List.take_set]
    rw [show K - q * (K / q) = K % q from by omega, List.drop_append_of_le_length (by rw [List.length_replicate]; omega), List.drop_replicate]
    rw [show K + 1 - q * (K / q) = K % q + 1 from by omega, take_zeros (by omega)]
    have hy : bs.getD K 0 < 256 := getD_lt hb (by omega) K
    generalize bs.getD K 0 = y at *
    generalize (bs.drop (K + 1)).take (q - (K % q + 1)) = T
    generalize K % q = r at *
    have e : (List.replicate (r + 1) 0 ++ T).set r y = List.replicate r 0 ++ y :: T := by
      rw [List.replicate_succ', List.append_assoc, List.set_append_right _ _ (by simp)]; simp
    rw [e, val_append, val_append, val_replicate_zero, val_replicate_zero, List.length_replicate, List.length_replicate, Nat.zero_add, Nat.zero_add]
    have h6 := shifted_lt (e := 8 * r + 8) hy (show 8 * r + 8 ≤ 8 * r + 8 by omega)
    rw [show (256 : Nat) ^ (r + 1) = 2 ^ (8 * r + 8) from by rw [show (256 : Nat) = 2 ^ 8 from rfl, ← Nat.pow_mul]; rfl, ← Nat.two_pow_add_eq_or_of_lt h6]
    show _ = 256 ^ r * (y + 256 * val 256 T)
    rw [show (2 : Nat) ^ (8 * r + 8) = 256 ^ r * 256 from by rw [show (256 : Nat) = 2 ^ 8 from rfl, ← Nat.pow_mul, ← Nat.pow_add], show (2 : Nat) ^ (8 * r) = 256 ^ r from by rw [show (256 : Nat) = 2 ^ 8 from rfl, ← Nat.pow_mul]]
    generalize 256 ^ r = P
    grind
  · rw [if_neg hji, h.word _ hj]
    by_cases hlt : j < K / q
    · have h5 : q * j + q ≤ q * (K / q) := by rw [← Nat.mul_succ]; exact Nat.mul_le_mul_left q hlt
      rw [List.drop_set, if_neg (by omega), List.take_set_of_le (by omega)]
    · have h5 : q * (K / q) + q ≤ q * j := by rw [← Nat.mul_succ]; exact Nat.mul_le_mul_left q (by omega)
      rw [List.drop_set, if_pos (by omega)]

theorem FillD.done {q : Nat} {bs ws : List Nat} (h : FillD q bs ws 0) (hm : bs.length ≤ ws.length * q) : val (256 ^ q) ws = val 256 bs :=
  val_words 256 q ws bs hm (fun j hj => by have := h.word j hj; simpa using this)
theorem FillD.lt {q : Nat} {bs ws : List Nat} {K : Nat} (h : FillD q bs ws K) (hb : ∀ x ∈ bs, x < 256) : ∀ x ∈ ws, x < 256 ^ q := by
  intro x hx
  obtain ⟨j, hj, rfl⟩ := List.getElem_of_mem hx
  have h1 := h.word j hj
  rw [List.getD, List.getElem?_eq_getElem hj, Option.getD_some] at h1
  rw [h1]
  have h3 := val_lt 256 (((List.replicate K 0 ++ bs.drop K).drop (q * j)).take q) (fun x hx => by
    have h4 := List.mem_of_mem_drop (List.mem_of_mem_take hx)
    rw [List.mem_append] at h4
    rcases h4 with h4 | h4
    · rw [List.eq_of_mem_replicate h4]; omega
    · exact hb x (List.mem_of_mem_drop h4))
  exact Nat.lt_of_lt_of_le h3 (Nat.pow_le_pow_right (by omega) (by rw [List.length_take]; omega))

theorem At.drew {w : World} {k : IntKind} {b off : Nat} {xs : List Nat} (h : At w k b off xs) : At w.drew k b off xs := fun i hi => by have := h i hi; simpa [go_sem] using this

theorem or64 {x y s : Nat} (hx : x < 2 ^ 64) (hy : y < 256) (hs : s ≤ 56) : bits .or .u64 (x : Int) (IntKind.u64.wrap ((y : Int) * 2 ^ s)) = ((x ||| y * 2 ^ s : Nat) : Int) := by
  have h1 := shifted_lt (e := 64) hy (show s + 8 ≤ 64 by omega)
  rw [show ((y : Int) * 2 ^ s) = ((y * 2 ^ s : Nat) : Int) from by norm_cast]
  rw [show IntKind.u64.wrap ((y * 2 ^ s : Nat) : Int) = ((y * 2 ^ s : Nat) : Int) from by rw [IntKind.wrap_u64]; omega]
  exact u64_or_nat _ _ hx h1
theorem or32 {x y s : Nat} (hx : x < 2 ^ 32) (hy : y < 256) (hs : s ≤ 24) : bits .or .u32 (x : Int) ((y : Int) * 2 ^ s % 4294967296) = ((x ||| y * 2 ^ s : Nat) : Int) := by
  have h1 := shifted_lt (e := 32) hy (show s + 8 ≤ 32 by omega)
  rw [show ((y : Int) * 2 ^ s) = ((y * 2 ^ s : Nat) : Int) from by norm_cast]
  rw [show ((y * 2 ^ s : Nat) : Int) % 4294967296 = ((y * 2 ^ s : Nat) : Int) from by omega]
  exact u32_or_nat _ _ hx h1

set_option maxHeartbeats 1000000 in
theorem fromBytes_any (bB off c l : Nat) (bs : List Nat) (w : World) (hl : bs.length = l) (hl2 : l ≤ 1000000) (h : At w .u8 bB off bs) (hb : ∀ x ∈ bs, x < 256) :
    Calls Tryz.prog 62 #[.slice (some ⟨bB, off, none⟩) l c] w (RetN w (nb bs)) := by
  obtain ⟨m, hm⟩ : ∃ m, m = (l + 7) / 8 := ⟨_, rfl⟩
  have hmk := make_u64 m (by omega)
  have hq : ((l : Int) + 8 - 1) / 8 = (m : Int) := by omega
  have H := Lib.hid h; have HB := Lib.hid hb; have HL := Lib.hid hl; have HM := Lib.hid hm
  have HBL : Hid (l = 0 ∨ bB < w.heap.size) := Lib.hid (by
    by_cases h0 : l = 0
    · exact Or.inl h0
    · exact Or.inr (h.lt (by omega)))
  clear h hb hl hm
  go_enter Tryz.func62, Tryz.ntmps62
  go_wp2_with fail
  obtain ⟨w1, hw1⟩ : ∃ w1, w1 = w.alloc (.cells #[.int .u64 0, .slice none 0 0] 26) := ⟨_, rfl⟩
  have hz1 : w1.heap.size = w.heap.size + 1 := by rw [hw1]; simp
  have B1 : Below w.heap.size w w1 := by rw [hw1]; exact below_alloc (Below.refl _ _) _
  have r0 : w1.cell? ⟨w.heap.size, 0, none⟩ = some (.int .u64 0) := by rw [hw1]; simp [go_sem]
  have r1 : w1.cell? ⟨w.heap.size, 1, none⟩ = some (.slice none 0 0) := by rw [hw1]; simp [go_sem]
  have f0 : w1.frozen? ⟨w.heap.size, 0, none⟩ = false := by rw [hw1]; simp [go_sem]
  have f1 : w1.frozen? ⟨w.heap.size, 1, none⟩ = false := by rw [hw1]; simp [go_sem]
  rw [← hw1]
  have A3 := At.made w1 .u64 m 23
  have F3 := Fr.made w1 .u64 m m 23
  have B3 : Below w1.heap.size w1 (w1.alloc (.cells (madeCells #[.int .u64 0] m) 23)) := below_alloc (Below.refl _ _) _
  have hz3 : (w1.alloc (.cells (madeCells #[.int .u64 0] m) 23)).heap.size = w1.heap.size + 1 := by simp
  obtain ⟨w3, hw3⟩ : ∃ w3, w3 = w1.alloc (.cells (madeCells #[.int .u64 0] m) 23) := ⟨_, rfl⟩
  obtain ⟨g, hg⟩ : ∃ g, g = w1.heap.size := ⟨_, rfl⟩
  rw [← hw3] at A3 F3 B3 hz3 ⊢
  rw [← hg] at A3 F3 hz3 hz1
  rw [← hz1]
  have HZ1 := Lib.hid hz1; have HZ3 := Lib.hid hz3
  have R0 := Lib.hid (wcell B3 r0); have R1 := Lib.hid (wcell B3 r1)
  have W0 := Lib.hid (wfree B3 r0 f0); have W1 := Lib.hid (wfree B3 r1 f1)
  have HA3 := Lib.hid A3; have HF3 := Lib.hid F3
  have HB3 := Lib.hid (below_step B1 B3)
  have HX3 := Lib.hid ((H.out.mono B1).mono B3)
  clear r0 r1 f0 f1 A3 F3 B3 B1 hw3 hw1 hg hmk hq hz1 hz3
  go_loopw [13] (fun i wr => ∃ k : Nat, k ≤ l ∧ i = .int .i64 k ∧ ∃ L : List Nat, L.length = m ∧ At wr .u64 g 0 L ∧ Hid (Fill 8 bs.reverse L k) ∧ Only w3 wr g 0 m) (fun i _ => l - (intOf i).toNat)
  case atStart => exact ⟨0, Nat.zero_le _, rfl, List.replicate m 0, by simp, HA3.out, Lib.hid (Fill.start _ _ _), Only.refl _ _ _ _⟩
  case round =>
    obtain ⟨k, hk, rfl, L, hL, hA, HI, hO⟩ := hrel
    by_cases hlt : k < l
    · have hM := HM.out
      have hk8 : k / 8 < m := by omega
      have hbB : bB ≠ g := by have := HBL.out; have := HZ1.out; omega
      have c1 := hA.zero (k / 8) (by omega)
      have c2 := (HF3.out.only hO).zero (k / 8) (by omega)
      have c3 := (HX3.out.only hO hbB) (l - 1 - k) (by rw [HL.out]; omega)
      have i1 : (0 : Int) ≤ (l : Int) - 1 - k := by omega
      have i2 : (0 : Int) ≤ (k : Int) / 8 := by omega
      have i3 : (k : Int) / 8 < m := by omega
      have hy : bs.getD (l - 1 - k) 0 < 256 := getD_lt HB.out (by omega) _
      have hst := HI.out.step (by omega) (fun x hx => HB.out x (List.mem_reverse.1 hx)) (by rw [List.length_reverse, HL.out]; exact hlt) (by rw [hL]; exact hk8)
      rw [rev_getD _ _ (by rw [HL.out]; exact hlt), HL.out] at hst
      have HS := Lib.hid hst
      clear hst
      have hx : L.getD (k / 8) 0 < 2 ^ 64 := by
        have := getD_lt (HI.out.lt (fun x hx => HB.out x (List.mem_reverse.1 hx))) (by omega) (k / 8)
        exact this
      have HXX := Lib.hid hx
      generalize L.getD (k / 8) 0 = x at *
      generalize bs.getD (l - 1 - k) 0 = y at *
      clear hx hM
      go_wp2_with fail
      go_big_region
      have hor := or64 HXX.out hy (show k % 8 * 8 ≤ 56 by omega)
      rw [hor]
      go_wp2
      go_roundw
      case rel =>
        refine ⟨k + 1, by omega, by go_num, _, ?_, ?_, Lib.hid HS.out, ?_⟩
        · rw [List.length_set]; exact hL
        · have := hA.set (k / 8) (x ||| y * 2 ^ (8 * (k % 8))) (by omega)
          rw [Nat.zero_add] at this
          rw [Nat.mul_comm (k % 8) 8]
          exact this.drew
        · exact (hO.setCell _ (by omega) (by omega) _).drew
      case measure => simp [intOf]; omega
    · obtain rfl : k = l := by omega
      have hF := HI.out
      have hrl : bs.reverse.length = k := by rw [List.length_reverse, HL.out]
      have hv := Fill.done (hrl ▸ hF) (by rw [hrl, hL, HM.out]; omega)
      have hlt2 := hF.lt (fun x hx => HB.out x (List.mem_reverse.1 hx))
      have hRB := hO.below (show w.heap.size ≤ g by have := HZ1.out; omega) (show w.heap.size ≤ w3.heap.size by have := HZ1.out; have := HZ3.out; omega)
      have hbx : w.heap.size < w3.heap.size := by have := HZ1.out; have := HZ3.out; omega
      have hne : w.heap.size ≠ g := by have := HZ1.out; omega
      have r0' : wr.cell? ⟨w.heap.size, 0, none⟩ = some (.int .u64 0) := by rw [World.cell?_of_block (w := w3) (hO.block _ hbx hne)]; exact R0.out
      have r1' : wr.cell? ⟨w.heap.size, 1, none⟩ = some (.slice none 0 0) := by rw [World.cell?_of_block (w := w3) (hO.block _ hbx hne)]; exact R1.out
      have f0' : wr.frozen? ⟨w.heap.size, 0, none⟩ = false := by rw [World.frozen?_of_block (w := w3) (hO.block _ hbx hne)]; exact W0.out
      have f1' : wr.frozen? ⟨w.heap.size, 1, none⟩ = false := by rw [World.frozen?_of_block (w := w3) (hO.block _ hbx hne)]; exact W1.out
      have HT := Lib.hid (ofWords_any g 0 m m L hL wr hA hlt2 (by have := HM.out; omega) (Nat.le_refl _))
      have HBR := Lib.hid (HB3.out.trans hRB)
      have HV := Lib.hid hv
      clear hF hv hlt2 hRB hA hO HI
      go_wp2_with fail
      refine HT.out.mono ?_
      rintro e w6 ⟨s6, p6, l6, c6, rfl, h6, hb6⟩
      have H6 := Lib.hid h6; clear h6
      have r0 := wcell hb6 r0'; have r1 := wcell hb6 r1'
      have f0 := wfree hb6 r0' f0'; have f1 := wfree hb6 r1' f1'
      have HB6 := Lib.hid (below_step HBR.out hb6)
      clear r0' r1' f0' f1' hb6
      go_wp2
      refine bodyPost_ret (v := .agg #[.int .u64 s6, .slice p6 l6 c6]) (by simp [results, Tryz.results62, go_sem, r0, r1]) rfl ⟨s6, p6, l6, c6, rfl, ?_, ?_⟩
      · have hv : val (2 ^ 64) L = nb bs := HV.out
        rw [← hv]
        exact H6.out.box r1
      · exact (HB6.out.setCell (by simp) _).setCell (by simp) _

set_option maxHeartbeats 1000000 in
theorem rFrom_any (bB off c l : Nat) (bs : List Nat) (w : World) (hl : bs.length = l) (hl2 : l ≤ 1000000) (h : At w .u8 bB off bs) (hb : ∀ x ∈ bs, x < 256) :
    Calls Tryz.prog 17 #[.slice (some ⟨bB, off, none⟩) l c] w (RetR w (nb bs)) := by
  obtain ⟨m, hm⟩ : ∃ m, m = (l + 3) / 4 := ⟨_, rfl⟩
  have hmk := make_rn m (by omega)
  have hq : ((l : Int) + 3) / 4 = (m : Int) := by omega
  have H := Lib.hid h; have HB := Lib.hid hb; have HL := Lib.hid hl; have HM := Lib.hid hm
  have HBL : Hid (l = 0 ∨ bB < w.heap.size) := Lib.hid (by
    by_cases h0 : l = 0
    · exact Or.inl h0
    · exact Or.inr (h.lt (by omega)))
  clear h hb hl hm
  go_enter Tryz.func17, Tryz.ntmps17
  go_wp2_with fail
  have A3 := At.made w .u32 m 73
  have F3 := Fr.made w .u32 m m 73
  have B3 : Below w.heap.size w (w.alloc (.cells (madeCells #[.int .u32 0] m) 73)) := below_alloc (Below.refl _ _) _
  have hz3 : (w.alloc (.cells (madeCells #[.int .u32 0] m) 73)).heap.size = w.heap.size + 1 := by simp
  obtain ⟨w3, hw3⟩ : ∃ w3, w3 = w.alloc (.cells (madeCells #[.int .u32 0] m) 73) := ⟨_, rfl⟩
  obtain ⟨g, hg⟩ : ∃ g, g = w.heap.size := ⟨_, rfl⟩
  rw [← hw3] at A3 F3 B3 hz3 ⊢
  rw [← hg] at A3 F3 hz3 ⊢
  have HZ1 := Lib.hid hg; have HZ3 := Lib.hid hz3
  have HA3 := Lib.hid A3; have HF3 := Lib.hid F3
  have HB3 := Lib.hid B3
  have HX3 := Lib.hid (H.out.mono B3)
  clear A3 F3 B3 hw3 hg hmk hq hz3
  go_loopw [4] (fun i wr => ∃ k : Nat, k ≤ l ∧ i = .int .i64 k ∧ ∃ L : List Nat, L.length = m ∧ At wr .u32 g 0 L ∧ Hid (FillD 4 bs.reverse L (l - k)) ∧ Only w3 wr g 0 m) (fun i _ => l - (intOf i).toNat)
  case atStart => exact ⟨0, Nat.zero_le _, rfl, List.replicate m 0, by simp, HA3.out, Lib.hid (by have := FillD.start 4 m bs.reverse; rwa [List.length_reverse, HL.out] at this), Only.refl _ _ _ _⟩
  case round =>
    obtain ⟨k, hk, rfl, L, hL, hA, HI, hO⟩ := hrel
    by_cases hlt : k < l
    · have hM := HM.out
      obtain ⟨j, hj⟩ : ∃ j, j = l - 1 - k := ⟨_, rfl⟩
      have hk8 : j / 4 < m := by omega
      have hbB : bB ≠ g := by have := HBL.out; have := HZ1.out; omega
      have c1 := hA.zero (j / 4) (by omega)
      have c2 := (HF3.out.only hO).zero (j / 4) (by omega)
      have c3 := (HX3.out.only hO hbB) k (by rw [HL.out]; omega)
      have hy : bs.getD k 0 < 256 := getD_lt HB.out (by omega) _
      have hI := HI.out
      rw [show l - k = j + 1 from by omega] at hI
      have hst := hI.step (by omega) (fun x hx => HB.out x (List.mem_reverse.1 hx)) (by rw [List.length_reverse, HL.out]; omega) (by rw [hL]; exact hk8)
      rw [rev_getD _ _ (by rw [HL.out]; omega), HL.out, show l - 1 - j = k from by omega] at hst
      have HS := Lib.hid hst
      have hx : L.getD (j / 4) 0 < 2 ^ 32 := getD_lt (hI.lt (fun x hx => HB.out x (List.mem_reverse.1 hx))) (by omega) (j / 4)
      have HXX := Lib.hid hx
      have hji : (l : Int) - 1 - k = (j : Int) := by omega
      have i2 : (0 : Int) ≤ (j : Int) / 4 := by omega
      have i3 : (j : Int) / 4 < m := by omega
      have hjb : j < 1000000 := by omega
      have HJ := Lib.hid hj
      have HJI := Lib.hid hji
      generalize L.getD (j / 4) 0 = x at *
      generalize bs.getD k 0 = y at *
      clear hx hM hst hI hj hji
      go_wp2_with fail
      rw [HJI.out]
      go_big_region
      have hor := or32 HXX.out hy (show 8 * (j % 4) ≤ 24 by omega)
      rw [hor]
      go_wp2
      go_roundw
      case rel =>
        refine ⟨k + 1, by omega, by go_num, _, ?_, ?_, Lib.hid (by rw [show l - (k + 1) = j from by have := HJ.out; omega]; exact HS.out), ?_⟩
        · rw [List.length_set]; exact hL
        · have := hA.set (j / 4) (x ||| y * 2 ^ (8 * (j % 4))) (by omega)
          rw [Nat.zero_add] at this
          exact this.drew
        · exact (hO.setCell _ (by omega) (by omega) _).drew
      case measure => simp [intOf]; omega
    · obtain rfl : k = l := by omega
      have hF := HI.out
      rw [Nat.sub_self] at hF
      have hrl : bs.reverse.length = k := by rw [List.length_reverse, HL.out]
      have hv := FillD.done hF (by rw [hrl, hL, HM.out]; omega)
      have hlt2 := hF.lt (fun x hx => HB.out x (List.mem_reverse.1 hx))
      have hRB := hO.below (show w.heap.size ≤ g by have := HZ1.out; omega) (show w.heap.size ≤ w3.heap.size by have := HZ1.out; have := HZ3.out; omega)
      have HT := Lib.hid (rtrim_n g 0 m m L hL wr hA hlt2 (by have := HM.out; omega) (Nat.le_refl _))
      have HBR := Lib.hid (HB3.out.trans hRB)
      have HV := Lib.hid hv
      clear hF hv hlt2 hRB hA hO HI
      go_wp2_with fail
      refine HT.out.mono ?_
      rintro e w6 ⟨p6, l6, c6, rfl, h6, hb6⟩
      have H6 := Lib.hid h6; clear h6
      have HB6 := Lib.hid (below_step HBR.out hb6)
      clear hb6
      go_wp2
      go_ret
      have hv : val (2 ^ 32) L = nb bs := HV.out
      rw [hv] at H6
      exact ⟨_, _, _, rfl, H6.out, HB6.out⟩
end Go.Proofs.YtfjjmhbffbhhdaaGreatDoor
