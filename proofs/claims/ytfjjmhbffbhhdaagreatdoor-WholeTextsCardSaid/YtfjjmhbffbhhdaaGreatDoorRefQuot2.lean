/- The document's quotient by one digit of 32 bits. -/
import Derived.Test.YtfjjmhbffbhhdaaGreatDoorRefProd
import Derived.Test.YtfjjmhbffbhhdaaGreatDoorLong
import Derived.Test.YtfjjmhbffbhhdaaGreatDoorDiv64
import Derived.Test.YtfjjmhbffbhhdaaGreatDoorRefCmp
import Derived.Test.YtfjjmhbffbhhdaaGreatDoorDivide
import Derived.Test.YtfjjmhbffbhhdaaGreatDoorDivS
import Derived.Test.YtfjjmhbffbhhdaaGreatDoorNTxt
import Derived.Laws.IdiomStrings
namespace Go.Proofs.YtfjjmhbffbhhdaaGreatDoor
open Go.RowKit

structure ROne (b d : Nat) (ws zs : List Nat) (i r : Nat) : Prop where
  len : zs.length = ws.length
  lt : ∀ x ∈ zs, x < b
  rest : r < d
  sum : val b (zs.drop i) * d + r = val b (ws.drop i)

theorem ROne.start {b d : Nat} {ws : List Nat} (hb : 0 < b) (hd : 0 < d) : ROne b d ws (List.replicate ws.length 0) ws.length 0 :=
  ⟨by simp, fun x hx => by rw [List.eq_of_mem_replicate hx]; exact hb, hd, by rw [List.drop_eq_nil_of_le (by simp), List.drop_eq_nil_of_le (Nat.le_refl _)]; simp [val]⟩

theorem ROne.step {b d : Nat} {ws zs : List Nat} {i r q s : Nat} (h : ROne b d ws zs (i + 1) r) (hi : i < ws.length) (hq : q < b) (hs : s < d) (e : q * d + s = r * b + ws.getD i 0) :
    ROne b d ws (zs.set i q) i s := by
  have hl := h.len
  refine ⟨by rw [List.length_set]; exact hl, set_all_lt h.lt hq, hs, ?_⟩
  rw [val_drop_cons b (zs.set i q) i (by rw [List.length_set]; omega), drop_set_succ, getD_set_self _ _ _ (by omega), val_drop_cons b ws i hi, ← h.sum]
  generalize val b (zs.drop (i + 1)) = V at *
  have e1 : (q + b * V) * d = q * d + b * (V * d) := by grind
  have e2 : b * (V * d + r) = b * (V * d) + r * b := by grind
  omega

theorem ROne.done {b d : Nat} {ws zs : List Nat} {r : Nat} (h : ROne b d ws zs 0 r) : val b zs = val b ws / d ∧ r = val b ws % d := by
  have h1 := h.sum
  have h2 := h.rest
  rw [List.drop_zero, List.drop_zero] at h1
  have h3 : val b ws / d = val b zs := Nat.div_eq_of_lt_le (by omega) (by rw [Nat.add_mul]; omega)
  refine ⟨h3.symm, ?_⟩
  have h4 := Nat.div_add_mod (val b ws) d
  rw [h3, Nat.mul_comm] at h4
  omega

set_option maxRecDepth 100000 in
set_option maxHeartbeats 2000000 in
theorem rOne_any (p : Option Addr) (l c m d : Nat) (w : World) (hl : l ≤ 100000) (hd : 0 < d) (hd2 : d < 2 ^ 32) (h : IsR w p l c m) :
    Calls Tryz.prog 59 #[.slice p l c, .int .u32 (d : Int)] w fun e w' => ∃ p' l' c', e = .returned (.tuple #[.slice p' l' c', .int .u32 ((m % d : Nat) : Int)]) ∧ IsR w' p' l' c' (m / d) ∧ Below w.heap.size w w' := by
  have H1 := Lib.hid h
  have e1 := Lib.hid h.1
  have HD := Lib.hid hd
  have d0 : ((d : Int) == 0) = false := beq_eq_false_iff_ne.2 (by omega)
  have d1 : (0 : Int) < d := by omega
  have d2 : (d : Int) < 4294967296 := by omega
  have hmk := make_rn l (by omega)
  clear h
  go_enter Tryz.func59, Tryz.ntmps59
  go_wp2_with fail
  have A3 := At.made w .u32 l 73
  have F3 := Fr.made w .u32 l l 73
  have B3 : Below w.heap.size w (w.alloc (.cells (madeCells #[.int .u32 0] l) 73)) := below_alloc (Below.refl _ _) _
  have hz3 : (w.alloc (.cells (madeCells #[.int .u32 0] l) 73)).heap.size = w.heap.size + 1 := by simp
  obtain ⟨w3, hw3⟩ : ∃ w3, w3 = w.alloc (.cells (madeCells #[.int .u32 0] l) 73) := ⟨_, rfl⟩
  obtain ⟨g, hg⟩ : ∃ g, g = w.heap.size := ⟨_, rfl⟩
  rw [← hw3] at A3 F3 B3 hz3 ⊢
  rw [← hg] at A3 F3 hz3 ⊢
  have HG := Lib.hid hg; have HZ3 := Lib.hid hz3
  have HA3 := Lib.hid A3; have HF3 := Lib.hid F3
  have HB3 := Lib.hid B3
  have X1 := Lib.hid (H1.out.mono B3)
  clear A3 F3 B3 hw3 hg hmk hz3
  go_loopw [7, 8] (fun r' i wr => ∃ k r : Nat, k ≤ l ∧ i = .int .i64 ((k : Int) - 1) ∧ r' = .int .u64 (r : Int) ∧ ∃ L : List Nat, L.length = l ∧ At wr .u32 g 0 L ∧ Hid (ROne (2 ^ 32) d (dr m) L k r) ∧ Hid (IsR wr p l c m) ∧ Only w3 wr g 0 l) (fun _ i _ => (intOf i + 1).toNat)
  case atStart => exact ⟨l, 0, Nat.le_refl _, rfl, rfl, List.replicate l 0, by simp, HA3.out, Lib.hid (by have := ROne.start (b := 2 ^ 32) (ws := dr m) (by omega) HD.out; rwa [← e1.out] at this), X1, Only.refl _ _ _ _⟩
  case round =>
    obtain ⟨k, r, hk, rfl, rfl, L, hL, hA, HI, Y1, hO⟩ := hrel
    rcases Nat.eq_zero_or_pos k with hk0 | hk0
    · subst hk0
      have hdone := HI.out.done
      rw [val_dr] at hdone
      have hr := HI.out.rest
      have HT := Lib.hid (rtrim_n g 0 l l L hL wr hA HI.out.lt (by omega) (Nat.le_refl _))
      rw [hdone.1] at HT
      have HBR := Lib.hid (HB3.out.trans (hO.below (show w.heap.size ≤ g by have := HG.out; omega) (by have := HZ3.out; have := HG.out; omega)))
      have HR := Lib.hid hdone.2
      clear hdone hA HI hO
      go_wp2_with fail
      refine HT.out.mono ?_
      rintro e w6 ⟨p6, l6, c6, rfl, h6, hb6⟩
      have H6 := Lib.hid h6; clear h6
      have HB6 := Lib.hid (below_step HBR.out hb6)
      clear hb6
      have r2 : (r : Int) % 4294967296 = r := by omega
      go_wp2
      exact bodyPost_ret (v := .tuple #[.slice p6 l6 c6, .int .u32 (r : Int)]) (by simp [results, Tryz.results59, go_sem]) rfl ⟨p6, l6, c6, by rw [← HR.out], H6.out, HB6.out⟩
    · obtain ⟨j, rfl⟩ : ∃ j, k = j + 1 := ⟨k - 1, by omega⟩
      have hm0 : m ≠ 0 := fun e => by have := e1.out; subst e; rw [dr_zero] at this; simp at this; omega
      obtain ⟨b, off, rfl, y1⟩ := Y1.out.2.2 hm0
      have c0 := y1 j (by rw [← e1.out]; omega)
      have c1 := hA.zero j (by omega)
      have c2 := (HF3.out.only hO).zero j (by omega)
      have hx := getD_lt (dr_lt m) (by omega) j
      have hr := HI.out.rest
      have hq := word_digit hr hx
      have hst := Lib.hid (HI.out.step (by rw [← e1.out]; omega) hq (Nat.mod_lt _ HD.out) (by rw [Nat.mul_comm]; exact Nat.div_add_mod _ _))
      generalize (dr m).getD j 0 = x at *
      generalize L.getD j 0 = z at *
      obtain ⟨t, ht⟩ : ∃ t, t = r * 2 ^ 32 + x := ⟨_, rfl⟩
      rw [← ht] at hst hq
      have ht64 : t < 18446744073709551616 := by omega
      obtain ⟨q, hqd⟩ : ∃ q, q = t / d := ⟨_, rfl⟩
      obtain ⟨s, hsd⟩ : ∃ s, s = t % d := ⟨_, rfl⟩
      rw [← hqd] at hst hq
      rw [← hsd] at hst
      have hsl : s < d := by rw [hsd]; exact Nat.mod_lt _ HD.out
      have wor : bits .or .u64 ((r : Int) * 4294967296) (x : Int) = (t : Int) := by
        rw [show (r : Int) * 4294967296 = ((2 ^ 32 * r : Nat) : Int) from by omega, u64_or_nat _ _ (by omega) (by omega), ← Nat.two_pow_add_eq_or_of_lt hx, ht, Nat.mul_comm]
      have wsl : IntKind.u64.wrap ((r : Int) * 4294967296) = (r : Int) * 4294967296 := by rw [IntKind.wrap_u64]; omega
      have wq : (t : Int) / d = (q : Int) := by rw [hqd, Int.natCast_ediv]
      have ws : (t : Int) % d = (s : Int) := by rw [hsd, Int.natCast_emod]
      have wq2 : (t : Int).tdiv d = (q : Int) := by rw [Int.tdiv_eq_ediv_of_nonneg (by omega), wq]
      have ws2 : (t : Int).tmod d = (s : Int) := by rw [Int.tmod_eq_emod_of_nonneg (by omega), ws]
      have wq3 : (q : Int) % 4294967296 = q := by omega
      have wx : IntKind.u64.wrap (x : Int) = x := by rw [IntKind.wrap_u64]; omega
      have wqw : IntKind.u64.wrap (q : Int) = q := by rw [IntKind.wrap_u64]; omega
      have xb : (x : Int) < 4294967296 := by omega
      have i0 : ((j + 1 : Nat) : Int) - 1 = (j : Int) := by omega
      rw [i0]
      have i1 : (0 : Int) ≤ j := by omega
      have i2 : (j : Int) < l := by omega
      have HON := Lib.hid (hO.setCell j (by omega) (by omega) (.int .u32 (q : Int)))
      have HAN := Lib.hid (hA.set j q (by omega))
      rw [Nat.zero_add] at HAN
      have HST := hst
      have HL := Lib.hid hL
      clear y1 hm0 hst hO hA HI ht hqd hsd hx hL
      go_wp2
      go_roundw
      case rel => exact ⟨j, s, by omega, by go_num, rfl, L.set j q, by rw [List.length_set]; exact HL.out, HAN.out, HST, Lib.hid (H1.out.keeps HB3.out HON.out (by have := HG.out; omega)), HON.out⟩
      case measure => simp [intOf]
end Go.Proofs.YtfjjmhbffbhhdaaGreatDoor

/- The numbers of the document's long division: digits of 32 bits in words of 64. -/
namespace Go.Proofs.YtfjjmhbffbhhdaaGreatDoor
open Go.RowKit

end Go.Proofs.YtfjjmhbffbhhdaaGreatDoor

/- The document's quotient where no long division is asked for. -/
namespace Go.Proofs.YtfjjmhbffbhhdaaGreatDoor
open Go.RowKit

end Go.Proofs.YtfjjmhbffbhhdaaGreatDoor

/- The numbers of the document's guess at a digit, and of the start of its long division. -/
namespace Go.Proofs.YtfjjmhbffbhhdaaGreatDoor
open Go.RowKit

structure RGuess (b p p2 d1 d2 g r : Nat) : Prop where
  eq : g * d1 + r = p
  over : b ≤ g + 1 ∨ p * b + p2 < (g + 1) * (d1 * b + d2)

theorem RGuess.start {b p p2 d1 d2 : Nat} (h1 : 0 < d1) (h2 : p2 < b) : RGuess b p p2 d1 d2 (p / d1) (p % d1) :=
  ⟨by rw [Nat.mul_comm]; exact Nat.div_add_mod p d1, Or.inr (guess_start h1 h2)⟩

theorem RGuess.pos {b p2 d2 g r : Nat} (hb : 0 < b) (hc : b ≤ g ∨ r * b + p2 < g * d2) : 0 < g := by
  rcases hc with h | h
  · omega
  · rcases Nat.eq_zero_or_pos g with h0 | h0
    · rw [h0, Nat.zero_mul] at h; omega
    · exact h0

theorem RGuess.step {b p p2 d1 d2 g r : Nat} (h : RGuess b p p2 d1 d2 g r) (hb : 0 < b) (hc : b ≤ g ∨ r * b + p2 < g * d2) : RGuess b p p2 d1 d2 (g - 1) (r + d1) := by
  have hp := RGuess.pos hb hc
  have he := h.eq
  obtain ⟨k, rfl⟩ : ∃ k, g = k + 1 := ⟨g - 1, by omega⟩
  rw [Nat.add_sub_cancel]
  refine ⟨by rw [← he, Nat.add_mul]; omega, ?_⟩
  rcases hc with hc | hc
  · exact Or.inl hc
  · exact Or.inr (guess_over he hc)

theorem RGuess.most {b p0 p1 p2 d1 d2 g r : Nat} (h : RGuess b (p0 * b + p1) p2 d1 d2 g r) (h0 : p0 ≤ d1) (h1 : p1 < b) (hr : b ≤ r + d1) : g ≤ b := by
  rcases Nat.lt_or_ge b g with hg | hg
  · have he := h.eq
    have e1 : (b + 1) * d1 ≤ g * d1 := Nat.mul_le_mul_right _ hg
    have e2 : p0 * b ≤ d1 * b := Nat.mul_le_mul_right _ h0
    rw [Nat.add_mul, Nat.one_mul, Nat.mul_comm b d1] at e1
    omega
  · exact hg
theorem RGuess.top {b p0 p1 p2 d1 d2 g r : Nat} (h : RGuess b (p0 * b + p1) p2 d1 d2 g r) (h0 : p0 ≤ d1) (h1 : p1 < b) (hd : b ≤ 2 * d1) : g ≤ b + 1 := by
  rcases Nat.lt_or_ge (b + 1) g with hg | hg
  · have he := h.eq
    have e1 : (b + 2) * d1 ≤ g * d1 := Nat.mul_le_mul_right _ hg
    have e2 : p0 * b ≤ d1 * b := Nat.mul_le_mul_right _ h0
    rw [Nat.add_mul, Nat.mul_comm b d1] at e1
    omega
  · exact hg

end Go.Proofs.YtfjjmhbffbhhdaaGreatDoor

/- The document's text of a number. -/
namespace Go.Proofs.YtfjjmhbffbhhdaaGreatDoor
open Go.RowKit

theorem pad_cons : ∀ k c : Nat, pad (k + 1) c = UInt8.ofNat (48 + c / 10 ^ k % 10) :: pad k c
  | 0, c => by simp [pad]
  | k + 1, c => by
    rw [pad, pad_cons k (c / 10), Nat.div_div_eq_div_mul, Nat.pow_succ, Nat.mul_comm 10, List.cons_append, pad]
theorem pad_len : ∀ k c : Nat, (pad k c).length = k
  | 0, _ => rfl
  | k + 1, c => by rw [pad, List.length_append, pad_len k (c / 10)]; rfl
theorem dec_short {n : Nat} (h : (dr n).length ≤ 1000) : (Lib.decDigits n).length ≤ 10001 := by
  have h1 : n < (2 ^ 32) ^ (dr n).length := lt_pow_digs (by omega) n
  have aux : ∀ k : Nat, (2 ^ 32) ^ k ≤ 10 ^ (10 * k) := fun k => by rw [Nat.pow_mul]; exact Nat.pow_le_pow_left (by omega) _
  have h2 := aux (dr n).length
  generalize (dr n).length = k at *
  have h3 := dec_len_le (10 * k) n (by rw [Nat.pow_succ]; omega)
  omega
theorem TxtSt0.len {n N : Nat} {S : List UInt8} (h : N ≠ 0 → Lib.decDigits n = Lib.decDigits N ++ S) (hN : N ≠ 0) (hn : (Lib.decDigits n).length ≤ 10001) : S.length ≤ 10001 := by
  have := congrArg List.length (h hN)
  rw [List.length_append] at this
  omega
theorem pad_dec {k c : Nat} (h1 : c < 10 ^ k) (h2 : 10 ^ (k - 1) ≤ c) (h0 : 0 < k) : pad k c = Lib.decDigits c := by
  obtain ⟨j, rfl⟩ : ∃ j, k = j + 1 := ⟨k - 1, by omega⟩
  rw [pad_eq j c h1, Lib.decDigits_length, Lib.nDigits_unique j c h2 h1, Nat.sub_self]
  rfl
theorem str_app (l m : List UInt8) : (ByteArray.mk l.toArray) ++ (ByteArray.mk m.toArray) = ByteArray.mk (l ++ m).toArray := by
  apply ByteArray.ext
  simp
theorem str_ne {l : List UInt8} (h : l ≠ []) : (ByteArray.mk l.toArray).toList.isEmpty = false := by
  rw [Go.ByteArray.toList_mk]
  simpa using h
theorem IsR.nil_iff {w : World} {p : Option Addr} {l c n : Nat} (h : IsR w p l c n) : l = 0 ↔ n = 0 := by
  constructor
  · intro hl
    rcases Nat.eq_zero_or_pos n with h0 | h0
    · exact h0
    · have := dr_pos (n := n) (by omega); have := h.1; omega
  · intro hn; rw [h.1, hn, dr_zero]; rfl
def TxtSt (n N : Nat) (S : List UInt8) : Prop := (N ≠ 0 → Lib.decDigits n = Lib.decDigits N ++ S) ∧ (N = 0 → (n = 0 ∧ S = []) ∨ (n ≠ 0 ∧ S = Lib.decDigits n))
theorem TxtSt.more {n N : Nat} {S : List UInt8} (h : TxtSt n N S) (hN : N ≠ 0) (hM : N / 1000000000 ≠ 0) : TxtSt n (N / 1000000000) (pad 9 (N % 1000000000) ++ S) := by
  refine ⟨fun _ => ?_, fun e => absurd e hM⟩
  have h2 := dec_split 9 (N % 1000000000) (N / 1000000000) hM (Nat.mod_lt _ (by omega))
  rw [show N % 1000000000 + 10 ^ 9 * (N / 1000000000) = N by omega] at h2
  rw [h.1 hN, h2, List.append_assoc]
theorem TxtSt.last {n N k : Nat} {S : List UInt8} (h : TxtSt n N S) (hN : N ≠ 0) (hM : N / 1000000000 = 0) (h1 : N % 1000000000 / 10 ^ k = 0) (h2 : k = 0 ∨ 10 ^ (k - 1) ≤ N % 1000000000) : TxtSt n (N / 1000000000) (pad k (N % 1000000000) ++ S) := by
  have e : N % 1000000000 = N := by omega
  rw [e] at h1 h2 ⊢
  have hk : 0 < k := by
    rcases Nat.eq_zero_or_pos k with h0 | h0
    · subst h0; simp at h1; exact absurd h1 hN
    · exact h0
  have hlt : N < 10 ^ k := by
    rcases Nat.lt_or_ge N (10 ^ k) with h3 | h3
    · exact h3
    · have := Nat.div_pos h3 (Nat.pow_pos (by omega)); omega
  rw [hM, pad_dec hlt (by omega) hk]
  refine ⟨fun e => absurd rfl e, fun _ => .inr ⟨fun e0 => ?_, (h.1 hN).symm⟩⟩
  subst e0
  have h3 := congrArg List.length (h.1 hN)
  have h4 := dec_len_pos N
  rw [List.length_append, Lib.decDigits_one (show 0 < 10 by omega)] at h3
  obtain ⟨b, t, hb, hb2⟩ := dec_first N hN
  have h5 := h.1 hN
  rw [hb, Lib.decDigits_one (show 0 < 10 by omega), List.cons_append, List.cons.injEq] at h5
  exact hb2 (by rw [← h5.1]; rfl)

theorem conv_one (w : World) (v : Int) (y : UInt8) (h : v = (y.toNat : Int)) : (convert 22 9 (.slice (some ⟨w.heap.size, 0, none⟩) 1 1)).run Tryz.prog (w.alloc (.cells #[.int .u8 v] 5)) = .ok (.string ⟨[y].toArray⟩) (w.alloc (.cells #[.int .u8 v] 5)) := by
  refine run_convert_bytes_back (P := Tryz.prog) _ 22 9 5 ⟨w.heap.size, 0, none⟩ 1 [y] Tryz.underlying22 Tryz.underlying5 Tryz.underlying9 (fun j hj => ?_)
  obtain rfl : j = 0 := by simpa using hj
  rw [Lib.add_plain, World.cell?_alloc_at _ _ _ _ rfl, h]
  rfl

set_option maxRecDepth 100000 in
set_option maxHeartbeats 4000000 in
theorem rText_any (p : Option Addr) (l c n : Nat) (w : World) (hl : l ≤ 1000) (h : IsR w p l c n) :
    Calls Tryz.prog 32 #[.slice p l c] w fun e w' => e = .returned (decS n) ∧ Below w.heap.size w w' := by
  have H := Lib.hid h
  have HDN := Lib.hid (dec_short (n := n) (by rw [← h.1]; exact hl))
  clear h
  go_enter Tryz.func32, Tryz.ntmps32
  go_wp2_with fail
  go_loopg [0, 3] n (fun k a s wr => ∃ (N : Nat) (p1 : Option Addr) (l1 c1 : Nat) (S : List UInt8), a = .slice p1 l1 c1 ∧ s = .string ⟨S.toArray⟩ ∧ l1 ≤ 1000 ∧ Hid (N = k ∧ TxtSt n N S) ∧ Hid (IsR wr p1 l1 c1 N ∧ Below w.heap.size w wr))
  case atStart => exact ⟨n, p, l, c, [], rfl, rfl, hl, Lib.hid ⟨rfl, fun _ => (List.append_nil _).symm, fun e => .inl ⟨e, rfl⟩⟩, Lib.hid ⟨H.out, Below.refl _ _⟩⟩
  case round =>
    clear H
    obtain ⟨N, p1, l1, c1, S, rfl, rfl, hl1, HK, HW⟩ := hrel
    rcases Nat.eq_zero_or_pos N with h0 | h0
    · have hlz : l1 = 0 := (HW.out.1.nil_iff).2 h0
      subst hlz
      rcases HK.out.2.2 h0 with ⟨hn, rfl⟩ | ⟨hn, rfl⟩
      · subst hn
        go_wp2
        go_ret
        exact ⟨by rw [decS, Lib.decDigits_one (by omega)]; rfl, HW.out.2⟩
      · have hne := str_ne (l := Lib.decDigits n) (fun e => by have := dec_len_pos n; rw [e] at this; exact Nat.lt_irrefl 0 this)
        obtain ⟨s, hs⟩ : ∃ s, s = ByteArray.mk (Lib.decDigits n).toArray := ⟨_, rfl⟩
        rw [← hs] at hne ⊢
        have HS := Lib.hid hs
        clear hs hn
        go_wp2
        go_ret
        exact ⟨by rw [decS, ← HS.out]; rfl, HW.out.2⟩
    · have hl0 : 0 < l1 := by
        rcases Nat.eq_zero_or_pos l1 with e | e
        · have := (HW.out.1.nil_iff).1 e; omega
        · exact e
      have hO := rOne_any p1 l1 c1 N 1000000000 wr (by omega) (by omega) (by omega) HW.out.1
      have HO := Lib.hid hO
      have HN := Lib.hid (show N ≠ 0 by omega)
      clear hO h0
      go_wp2_with fail
      refine HO.out.mono ?_
      rintro e w2 ⟨p2, l2, c2, rfl, hR, hb⟩
      obtain ⟨M, hM⟩ : ∃ M, M = N / 1000000000 := ⟨_, rfl⟩
      obtain ⟨x, hx⟩ : ∃ x, x = N % 1000000000 := ⟨_, rfl⟩
      rw [← hx]; rw [← hM] at hR
      have hxl : x < 1000000000 := by omega
      have hl2 : l2 ≤ 1000 := by
        have h1 := HW.out.1.1
        have h2 := hR.1
        have h3 := digs_length_mono (b := 2 ^ 32) (by omega) (show M ≤ N by rw [hM]; exact Nat.div_le_self _ _)
        show l2 ≤ 1000
        rw [h2]; unfold dr at *; omega
      have HR := Lib.hid hR; have HB := Lib.hid (below_step HW.out.2 hb); have HX := Lib.hid (And.intro hM hx)
      have hlz := hR.nil_iff
      have HLZ := Lib.hid hlz
      clear hR hb hM hx HW HO hlz
      go_wp2_with fail
      go_loopw [5, 6, 7] (fun r d k wy => ∃ K : Nat, K ≤ 9 ∧ k = .int .i64 (K : Int) ∧ r = .int .u32 ((x / 10 ^ K : Nat) : Int) ∧ d = .string ⟨(pad K x).toArray⟩ ∧ Hid (M ≠ 0 ∨ K = 0 ∨ 10 ^ (K - 1) ≤ x) ∧ Hid (IsR wy p2 l2 c2 M ∧ Below w.heap.size w wy)) (fun _ _ k _ => 9 - (intOf k).toNat)
      case atStart => exact ⟨0, by omega, rfl, by simp, rfl, Lib.hid (.inr (.inl rfl)), Lib.hid ⟨HR.out, HB.out⟩⟩
      case round =>
        clear HR HB
        obtain ⟨K, hK, rfl, rfl, rfl, HI, HB⟩ := hrel
        obtain ⟨R, hR⟩ : ∃ R, R = x / 10 ^ K := ⟨_, rfl⟩
        rw [← hR]
        have hRl : R < 1000000000 := by rw [hR]; exact Nat.lt_of_le_of_lt (Nat.div_le_self _ _) hxl
        have HRR := Lib.hid hR
        clear hR
        obtain ⟨d, hd⟩ : ∃ d, d = ByteArray.mk (pad K x).toArray := ⟨_, rfl⟩
        rw [← hd]
        have HD := Lib.hid hd
        have hds : d.size = K := by rw [hd]; show (pad K x).toArray.size = K; rw [List.size_toArray, pad_len]
        have hdz : ¬ 9223372036854775807 < 1 + d.size := by omega
        have HDS := Lib.hid hds
        clear hd hds
        obtain ⟨y, hy⟩ : ∃ y, y = UInt8.ofNat (48 + R % 10) := ⟨_, rfl⟩
        have hcv := conv_one wr (48 + (R : Int) % 10) y (by rw [hy, UInt8.toNat_ofNat']; omega)
        have HY := Lib.hid hy
        clear hy
        by_cases hgo : K < 9 ∧ (0 < R ∨ 0 < l2)
        · have i1 : (K : Int) < 9 := by omega
          have i2 : IntKind.i64.wrap ((K : Int) + 1) = ((K + 1 : Nat) : Int) := by rw [IntKind.wrap_i64]; omega
          rcases Nat.eq_zero_or_pos R with hR0 | hR0
          · have hl20 : 0 < l2 := by omega
            subst hR0
            have hcv := conv_one wr 48 48 rfl
            go_wp2
            refine ⟨⟨K + 1, by omega, by go_num, ?_, ?_, Lib.hid ?_, Lib.hid ⟨HB.out.1.mono (below_alloc (Below.refl _ _) _), below_alloc HB.out.2 _⟩⟩, by simp [intOf]; omega⟩
            · rw [Nat.pow_succ, ← Nat.div_div_eq_div_mul, ← HRR.out]; rfl
            · rw [pad_cons, ← HRR.out, HD.out]; exact congrArg Value.string (str_app [48] (pad K x))
            · left
              have h1 := HLZ.out
              omega
          · have i3 : (0 : Int) < R := by omega
            go_wp2
            refine ⟨⟨K + 1, by omega, by go_num, ?_, ?_, Lib.hid ?_, Lib.hid ⟨HB.out.1.mono (below_alloc (Below.refl _ _) _), below_alloc HB.out.2 _⟩⟩, by simp [intOf]; omega⟩
            · rw [Nat.pow_succ, ← Nat.div_div_eq_div_mul, ← HRR.out]; first | rfl | (congr 1; omega)
            · rw [pad_cons, ← HRR.out, ← HY.out, HD.out]; exact congrArg Value.string (str_app [y] (pad K x))
            · right; right
              rw [Nat.add_sub_cancel]
              rw [HRR.out] at hR0
              rcases Nat.lt_or_ge x (10 ^ K) with h3 | h3
              · rw [Nat.div_eq_of_lt h3] at hR0; exact absurd hR0 (Nat.lt_irrefl 0)
              · exact h3
        · obtain ⟨s, hs⟩ : ∃ s, s = ByteArray.mk S.toArray := ⟨_, rfl⟩
          rw [← hs]
          have hsl : s.size = S.length := by rw [hs]; exact List.size_toArray
          have hSl := TxtSt0.len HK.out.2.1 HN.out HDN.out
          have hsz : ¬ 9223372036854775807 < d.size + s.size := by have := HDS.out; omega
          have HS := Lib.hid hs
          clear hs hsl hSl
          by_cases hK9 : K < 9
          · have i1 : (K : Int) < 9 := by omega
            obtain rfl : R = 0 := by omega
            obtain rfl : l2 = 0 := by omega
            have hM0 := HLZ.out.1 rfl
            go_wp2
            go_roundg M
            case measure =>
              have h1 := HX.out.1; have h2 := HN.out; have h3 := HK.out.1
              have : N / 1000000000 < N := Nat.div_lt_self (by omega) (by omega)
              omega
            case rel =>
              have hx := HX.out
              refine ⟨M, p2, _, c2, pad K x ++ S, rfl, ?_, hl2, Lib.hid ⟨rfl, ?_⟩, Lib.hid HB.out⟩
              · rw [HD.out, HS.out]; exact congrArg Value.string (str_app (pad K x) S)
              · have h1 := HRR.out
                rw [hx.1, hx.2]
                exact HK.out.2.last HN.out (by rw [← hx.1]; exact hM0) (by rw [← hx.2]; exact h1.symm) (by rw [← hx.2]; have := HI.out; omega)
          · obtain rfl : K = 9 := by omega
            clear hK9 hgo
            rcases Nat.eq_zero_or_pos M with hM0 | hM0
            · have HM0 := Lib.hid hM0
              clear hM0
              go_wp2
              go_roundg M
              case measure =>
                have h1 := HX.out.1; have h2 := HN.out; have h3 := HK.out.1
                have : N / 1000000000 < N := Nat.div_lt_self (by omega) (by omega)
                omega
              case rel =>
                have hx := HX.out
                refine ⟨M, p2, _, c2, pad 9 x ++ S, rfl, ?_, hl2, Lib.hid ⟨rfl, ?_⟩, Lib.hid HB.out⟩
                · rw [HD.out, HS.out]; exact congrArg Value.string (str_app (pad 9 x) S)
                · rw [hx.1, hx.2]
                  exact HK.out.2.last HN.out (by rw [← hx.1]; exact HM0.out) (by rw [← hx.2]; omega) (by rw [← hx.2]; have := HI.out; have := HM0.out; omega)
            · have HM0 := Lib.hid hM0
              clear hM0
              go_wp2
              go_roundg M
              case measure =>
                have h1 := HX.out.1; have h2 := HN.out; have h3 := HK.out.1
                have : N / 1000000000 < N := Nat.div_lt_self (by omega) (by omega)
                omega
              case rel =>
                have hx := HX.out
                refine ⟨M, p2, _, c2, pad 9 x ++ S, rfl, ?_, hl2, Lib.hid ⟨rfl, ?_⟩, Lib.hid HB.out⟩
                · rw [HD.out, HS.out]; exact congrArg Value.string (str_app (pad 9 x) S)
                · rw [hx.1, hx.2]
                  exact HK.out.2.more HN.out (by rw [← hx.1]; have := HM0.out; omega)
end Go.Proofs.YtfjjmhbffbhhdaaGreatDoor
