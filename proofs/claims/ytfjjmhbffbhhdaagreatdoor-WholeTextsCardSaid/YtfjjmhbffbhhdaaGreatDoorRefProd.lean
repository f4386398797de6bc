/- Draws leave what was written. -/
import Derived.Test.YtfjjmhbffbhhdaaGreatDoorFmt
import Derived.Test.YtfjjmhbffbhhdaaGreatDoorFill
import Derived.Test.YtfjjmhbffbhhdaaGreatDoorSum
import Derived.Test.YtfjjmhbffbhhdaaGreatDoorRefCmp
namespace Go.Proofs.YtfjjmhbffbhhdaaGreatDoor
open Go.RowKit

theorem Only.drewN {w w' : World} {b off n : Nat} (h : Only w w' b off n) : ∀ k, Only w (w'.drewN k) b off n
  | 0 => h
  | k + 1 => (Only.drewN h k).drew
theorem At.drewN {w : World} {k : IntKind} {b off : Nat} {xs : List Nat} (h : At w k b off xs) (n : Nat) : At (w.drewN n) k b off xs := h.mono (below_drewN (Below.refl _ _) n)
end Go.Proofs.YtfjjmhbffbhhdaaGreatDoor

/- The document's sums. -/
namespace Go.Proofs.YtfjjmhbffbhhdaaGreatDoor
open Go.RowKit

theorem rAt_any (n i : Nat) (p : Option Addr) (l c : Nat) (w : World) (h : IsR w p l c n) (hi : i ≤ 1000000) :
    Calls Tryz.prog 72 #[.slice p l c, .int .i64 (i : Int)] w fun e w' => w = w' ∧ e = .returned (.int .u64 (((dr n).getD i 0 : Nat) : Int)) := by
  obtain ⟨h1, h2, h3⟩ := h
  by_cases hl : i < l
  · have hn : n ≠ 0 := fun e => by subst e; rw [dr_zero] at h1; simp at h1; omega
    obtain ⟨b, off, rfl, h4⟩ := h3 hn
    have c1 := h4 i (by omega)
    have hx := getD_lt (dr_lt n) (by omega) i
    generalize (dr n).getD i 0 = x at *
    clear h3 h4 h1
    go_enter Tryz.func72, Tryz.ntmps72
    go_wp2
    go_ret
    exact ⟨rfl, rfl⟩
  · have hx : (dr n).getD i 0 = 0 := by simp [List.getD, List.getElem?_eq_none (show (dr n).length ≤ i by omega)]
    rw [hx]
    clear h3 h1 hx
    go_enter Tryz.func72, Tryz.ntmps72
    go_wp2
    go_ret
    exact ⟨rfl, rfl⟩

structure RSum (b : Nat) (xs ys zs : List Nat) (k c : Nat) : Prop where
  lt : ∀ x ∈ zs, x < b
  one : c ≤ 1
  sum : val b (zs.take k) + b ^ k * c = val b (xs.take k) + val b (ys.take k)

theorem RSum.start {b : Nat} (hb : 0 < b) (xs ys : List Nat) (n : Nat) : RSum b xs ys (List.replicate n 0) 0 0 :=
  ⟨fun x hx => by rw [List.eq_of_mem_replicate hx]; exact hb, by omega, by simp [val]⟩

theorem RSum.step {b : Nat} {xs ys zs : List Nat} {k c : Nat} (h : RSum b xs ys zs k c) (hb : 2 ≤ b) (hX : ∀ x ∈ xs, x < b) (hY : ∀ x ∈ ys, x < b) (hk : k < zs.length) :
    RSum b xs ys (zs.set k ((c + xs.getD k 0 + ys.getD k 0) % b)) (k + 1) ((c + xs.getD k 0 + ys.getD k 0) / b) := by
  have h1 := getD_lt hX (by omega) k
  have h2 := getD_lt hY (by omega) k
  have h3 := h.one
  refine ⟨set_all_lt h.lt (Nat.mod_lt _ (by omega)), ?_, ?_⟩
  · have : (c + xs.getD k 0 + ys.getD k 0) / b < 2 := by rw [Nat.div_lt_iff_lt_mul (by omega)]; omega
    omega
  · rw [val_take_succ', take_set_self, getD_set_self _ _ _ hk, val_take_succ', val_take_succ']
    have h4 := h.sum
    have h5 := Nat.div_add_mod (c + xs.getD k 0 + ys.getD k 0) b
    generalize (c + xs.getD k 0 + ys.getD k 0) / b = d at *
    generalize (c + xs.getD k 0 + ys.getD k 0) % b = r at *
    rw [Nat.pow_succ]
    generalize b ^ k = P at *
    generalize xs.getD k 0 = x at *
    generalize ys.getD k 0 = y at *
    grind

theorem RSum.done {b : Nat} {xs ys zs : List Nat} {k c : Nat} (h : RSum b xs ys zs (k + 1) c) (hb : 2 ≤ b) (hz : zs.length = k + 1) (hx : xs.length ≤ k) (hy : ys.length ≤ k) (hX : ∀ x ∈ xs, x < b) (hY : ∀ x ∈ ys, x < b) :
    val b zs = val b xs + val b ys := by
  have h1 := h.sum
  rw [List.take_of_length_le (by omega), List.take_of_length_le (by omega), List.take_of_length_le (by omega)] at h1
  have h2 := Nat.lt_of_lt_of_le (val_lt b xs hX) (Nat.pow_le_pow_right (by omega) hx)
  have h3 := Nat.lt_of_lt_of_le (val_lt b ys hY) (Nat.pow_le_pow_right (by omega) hy)
  have h4 : b ^ k * 2 ≤ b ^ (k + 1) := by rw [Nat.pow_succ]; exact Nat.mul_le_mul_left _ hb
  have h5 : c = 0 := by
    rcases Nat.eq_zero_or_pos c with h | h
    · exact h
    · have : b ^ (k + 1) * 1 ≤ b ^ (k + 1) * c := Nat.mul_le_mul_left _ h
      omega
  subst h5
  omega

theorem IsR.keeps {w w1 w2 : World} {p : Option Addr} {l c n g o z : Nat} (h : IsR w p l c n) (hb : Below w.heap.size w w1) (ho : Only w1 w2 g o z) (hg : w.heap.size ≤ g) : IsR w2 p l c n := by
  obtain ⟨a1, a2, a3⟩ := h
  refine ⟨a1, a2, fun hn => ?_⟩
  obtain ⟨b, off, a4, a5⟩ := a3 hn
  have hlt := a5.lt (dr_pos hn)
  exact ⟨b, off, a4, (a5.mono hb).only ho (by omega)⟩

set_option maxHeartbeats 1000000 in
theorem rAdd_any (p q : Option Addr) (l c k d m n : Nat) (w : World) (hl : l ≤ 100000) (hk : k ≤ 100000) (h1 : IsR w p l c m) (h2 : IsR w q k d n) :
    Calls Tryz.prog 41 #[.slice p l c, .slice q k d] w (RetR w (m + n)) := by
  have H1 := Lib.hid h1; have H2 := Lib.hid h2
  have e1 := Lib.hid h1.1; have e2 := Lib.hid h2.1
  obtain ⟨N, hN⟩ : ∃ N, N = max l k := ⟨_, rfl⟩
  have hmax : max (l : Int) (k : Int) = (N : Int) := by omega
  have hNb : N ≤ 100000 := by omega
  have HN := Lib.hid hN
  obtain ⟨M, hM⟩ : ∃ M, M = N + 1 := ⟨_, rfl⟩
  have hmk := make_rn M (by omega)
  have hq : (N : Int) + 1 = (M : Int) := by omega
  have HM := Lib.hid hM
  have HQ := Lib.hid hq
  clear h1 h2 hN hM
  go_enter Tryz.func41, Tryz.ntmps41
  go_wp2_with fail
  have A3 := At.made w .u32 M 73
  have F3 := Fr.made w .u32 M M 73
  have B3 : Below w.heap.size w (w.alloc (.cells (madeCells #[.int .u32 0] M) 73)) := below_alloc (Below.refl _ _) _
  have hz3 : (w.alloc (.cells (madeCells #[.int .u32 0] M) 73)).heap.size = w.heap.size + 1 := by simp
  obtain ⟨w3, hw3⟩ : ∃ w3, w3 = w.alloc (.cells (madeCells #[.int .u32 0] M) 73) := ⟨_, rfl⟩
  obtain ⟨g, hg⟩ : ∃ g, g = w.heap.size := ⟨_, rfl⟩
  rw [← hw3] at A3 F3 B3 hz3 ⊢
  rw [← hg] at A3 F3 hz3 ⊢
  have HG := Lib.hid hg; have HZ3 := Lib.hid hz3
  have HA3 := Lib.hid A3; have HF3 := Lib.hid F3
  have HB3 := Lib.hid B3
  have X1 := Lib.hid (H1.out.mono B3); have X2 := Lib.hid (H2.out.mono B3)
  clear A3 F3 B3 hw3 hg hmk hz3 hq
  go_loopw [7, 8] (fun c' i wr => ∃ j cc : Nat, j ≤ M ∧ i = .int .i64 j ∧ c' = .int .u64 (cc : Int) ∧ ∃ L : List Nat, L.length = M ∧ At wr .u32 g 0 L ∧ Hid (RSum (2 ^ 32) (dr m) (dr n) L j cc) ∧ Hid (IsR wr p l c m) ∧ Hid (IsR wr q k d n) ∧ Only w3 wr g 0 M) (fun _ i _ => M - (intOf i).toNat)
  case atStart => exact ⟨0, 0, Nat.zero_le _, rfl, rfl, List.replicate M 0, by simp, HA3.out, Lib.hid (RSum.start (by omega) _ _ _), X1, X2, Only.refl _ _ _ _⟩
  case round =>
    obtain ⟨j, cc, hj, rfl, rfl, L, hL, hA, HI, Y1, Y2, hO⟩ := hrel
    have hMN := HM.out
    by_cases hlt : j < M
    · have c1 := hA.zero j (by omega)
      have c2 := (HF3.out.only hO).zero j (by omega)
      have hjN : (j : Int) ≤ N := by omega
      have hc1 := HI.out.one
      have hst := Lib.hid (HI.out.step (by omega) (dr_lt m) (dr_lt n) (by omega : j < L.length))
      have hx := getD_lt (dr_lt m) (by omega) j
      have hy := getD_lt (dr_lt n) (by omega) j
      have T1 := Lib.hid (rAt_any m j p l c wr Y1.out (by omega))
      have T2 := Lib.hid (rAt_any n j q k d wr Y2.out (by omega))
      generalize (dr m).getD j 0 = x at *
      generalize (dr n).getD j 0 = y at *
      generalize L.getD j 0 = z at *
      clear hMN
      go_wp2_with fail
      refine T1.out.mono ?_
      rintro e _ ⟨rfl, rfl⟩
      go_wp2_with fail
      refine T2.out.mono ?_
      rintro e _ ⟨rfl, rfl⟩
      go_wp2
      have hON := hO.setCell j (by omega) (by omega) (.int .u32 (((cc : Int) + x + y) % 4294967296))
      go_roundw
      case rel =>
        refine ⟨j + 1, (cc + x + y) / 2 ^ 32, by omega, by go_num, ?_, L.set j ((cc + x + y) % 2 ^ 32), by rw [List.length_set]; exact hL, ?_, hst, Lib.hid (H1.out.keeps HB3.out hON (by have := HG.out; omega)), Lib.hid (H2.out.keeps HB3.out hON (by have := HG.out; omega)), hON⟩
        · have hc : (((cc + x + y) / 2 ^ 32 : Nat) : Int) = ((cc : Int) + x + y) / 4294967296 := by omega
          rw [hc]
        · have := hA.set j ((cc + x + y) % 2 ^ 32) (by omega)
          have hc : (((cc + x + y) % 2 ^ 32 : Nat) : Int) = ((cc : Int) + x + y) % 4294967296 := by omega
          rw [Nat.zero_add, hc] at this
          exact this
      case measure => simp [intOf]; omega
    · obtain rfl : j = M := by omega
      have hv := HI.out
      rw [hMN] at hv hL
      have hdone := hv.done (by omega) hL (by have := e1.out; have := HN.out; omega) (by have := e2.out; have := HN.out; omega) (dr_lt m) (dr_lt n)
      rw [val_dr, val_dr] at hdone
      rw [← hMN] at hL
      have HT := Lib.hid (rtrim_n g 0 j j L hL wr hA hv.lt (by omega) (Nat.le_refl _))
      rw [hdone] at HT
      have HBR := Lib.hid (HB3.out.trans (hO.below (show w.heap.size ≤ g by have := HG.out; omega) (by have := HZ3.out; have := HG.out; omega)))
      have hjN : (N : Int) < j := by omega
      clear hv hdone hA HI hO hMN
      go_wp2_with fail
      refine HT.out.mono ?_
      rintro e w6 ⟨p6, l6, c6, rfl, h6, hb6⟩
      have H6 := Lib.hid h6; clear h6
      have HB6 := Lib.hid (below_step HBR.out hb6)
      clear hb6
      go_wp2
      go_ret
      exact ⟨_, _, _, rfl, H6.out, HB6.out⟩
end Go.Proofs.YtfjjmhbffbhhdaaGreatDoor

/- The document's differences. -/
namespace Go.Proofs.YtfjjmhbffbhhdaaGreatDoor
open Go.RowKit

structure RDiff (b : Nat) (xs ys zs : List Nat) (k c : Nat) : Prop where
  lt : ∀ x ∈ zs, x < b
  one : c ≤ 1
  sum : val b (zs.take k) + val b (ys.take k) = val b (xs.take k) + b ^ k * c

theorem RDiff.start {b : Nat} (hb : 0 < b) (xs ys : List Nat) (n : Nat) : RDiff b xs ys (List.replicate n 0) 0 0 :=
  ⟨fun x hx => by rw [List.eq_of_mem_replicate hx]; exact hb, by omega, by simp [val]⟩

theorem RDiff.step {b : Nat} {xs ys zs : List Nat} {k c s d : Nat} (h : RDiff b xs ys zs k c) (hk : k < zs.length) (hs : s < b) (hd : d ≤ 1)
    (e : s + ys.getD k 0 + c = xs.getD k 0 + b * d) : RDiff b xs ys (zs.set k s) (k + 1) d := by
  refine ⟨set_all_lt h.lt hs, hd, ?_⟩
  rw [val_take_succ', take_set_self, getD_set_self _ _ _ hk, val_take_succ', val_take_succ']
  have h4 := h.sum
  rw [Nat.pow_succ]
  generalize b ^ k = P at *
  generalize xs.getD k 0 = x at *
  generalize ys.getD k 0 = y at *
  have e2 : P * (s + y + c) = P * (x + b * d) := by rw [e]
  grind

theorem RDiff.done {b : Nat} {xs ys zs : List Nat} {k c : Nat} (h : RDiff b xs ys zs k c) (hz : zs.length = k) (hx : xs.length = k) (hy : ys.length ≤ k) (hle : val b ys ≤ val b xs) :
    val b zs = val b xs - val b ys := by
  have h1 := h.sum
  rw [List.take_of_length_le (by omega), List.take_of_length_le (by omega), List.take_of_length_le (by omega)] at h1
  have h2 := val_lt b zs h.lt
  rw [hz] at h2
  have h5 : c = 0 := by
    rcases Nat.eq_zero_or_pos c with h | h
    · exact h
    · have : b ^ k * 1 ≤ b ^ k * c := Nat.mul_le_mul_left _ h
      omega
  subst h5
  omega

end Go.Proofs.YtfjjmhbffbhhdaaGreatDoor

/- The document's products. -/
namespace Go.Proofs.YtfjjmhbffbhhdaaGreatDoor
open Go.RowKit

def midRow (L zs : List Nat) (i l : Nat) : List Nat := L.take i ++ zs ++ L.drop (i + l)
theorem midRow_start (L : List Nat) (i l : Nat) (_h : i + l ≤ L.length) : midRow L ((L.drop i).take l) i l = L := by
  unfold midRow
  rw [← List.drop_drop, List.append_assoc, List.take_append_drop, List.take_append_drop]
theorem midRow_length {L zs : List Nat} {i l : Nat} (h : i + l ≤ L.length) (hz : zs.length = l) : (midRow L zs i l).length = L.length := by
  unfold midRow
  simp only [List.length_append, List.length_take, List.length_drop]; omega
theorem midRow_getD {L zs : List Nat} {i l k : Nat} (h : i + l ≤ L.length) (hz : zs.length = l) (hk : k < l) : (midRow L zs i l).getD (i + k) 0 = zs.getD k 0 := by
  unfold midRow
  have h1 : (L.take i).length = i := by rw [List.length_take]; omega
  simp only [List.getD]
  rw [List.append_assoc, List.getElem?_append_right (by rw [h1]; omega), h1, Nat.add_sub_cancel_left, List.getElem?_append_left (by omega)]
theorem midRow_set {L zs : List Nat} {i l k v : Nat} (h : i + l ≤ L.length) (hz : zs.length = l) (hk : k < l) : (midRow L zs i l).set (i + k) v = midRow L (zs.set k v) i l := by
  unfold midRow
  have h1 : (L.take i).length = i := by rw [List.length_take]; omega
  rw [List.append_assoc, List.set_append_right _ _ (by rw [h1]; omega), h1, Nat.add_sub_cancel_left, List.set_append_left _ _ (by omega), List.append_assoc]

theorem mul_lt_bound {x y z c : Nat} (hx : x < 2 ^ 32) (hy : y < 2 ^ 32) (hz : z < 2 ^ 32) (hc : c < 2 ^ 32) : c + z + x * y < 2 ^ 64 := by
  have : x * y ≤ (2 ^ 32 - 1) * (2 ^ 32 - 1) := Nat.mul_le_mul (by omega) (by omega)
  omega

set_option maxHeartbeats 1000000 in
theorem rMul_any (p q : Option Addr) (l c k d m n : Nat) (w : World) (hl : l ≤ 100000) (hk : k ≤ 100000) (h1 : IsR w p l c m) (h2 : IsR w q k d n) :
    Calls Tryz.prog 42 #[.slice p l c, .slice q k d] w (RetR w (m * n)) := by
  have H1 := Lib.hid h1; have H2 := Lib.hid h2
  have e1 := Lib.hid h1.1; have e2 := Lib.hid h2.1
  obtain ⟨M, hM⟩ : ∃ M, M = l + k := ⟨_, rfl⟩
  have hmk := make_rn M (by omega)
  have hq : (l : Int) + k = (M : Int) := by omega
  have HM := Lib.hid hM
  clear h1 h2 hM
  go_enter Tryz.func42, Tryz.ntmps42
  go_wp2_with fail
  have A3 := At.made w .u32 M 73
  have F3 := Fr.made w .u32 M M 73
  have B3 : Below w.heap.size w (w.alloc (.cells (madeCells #[.int .u32 0] M) 73)) := below_alloc (Below.refl _ _) _
  have hz3 : (w.alloc (.cells (madeCells #[.int .u32 0] M) 73)).heap.size = w.heap.size + 1 := by simp
  obtain ⟨w3, hw3⟩ : ∃ w3, w3 = w.alloc (.cells (madeCells #[.int .u32 0] M) 73) := ⟨_, rfl⟩
  obtain ⟨g, hg⟩ : ∃ g, g = w.heap.size := ⟨_, rfl⟩
  rw [← hw3] at A3 F3 B3 hz3 ⊢
  rw [← hg] at A3 F3 hz3 ⊢
  have HG := Lib.hid hg; have HZ3 := Lib.hid hz3
  have HA3 := Lib.hid A3; have HF3 := Lib.hid F3
  have HB3 := Lib.hid B3
  clear A3 F3 B3 hw3 hg hmk hz3 hq
  go_loopw [6] (fun i wr => ∃ j : Nat, j ≤ l ∧ i = .int .i64 j ∧ ∃ L : List Nat, At wr .u32 g 0 L ∧ Hid (ProdInv (2 ^ 32) (dr n) (dr m) L j) ∧ Only w3 wr g 0 M) (fun i _ => l - (intOf i).toNat)
  case atStart => exact ⟨0, Nat.zero_le _, rfl, List.replicate M 0, HA3.out, Lib.hid (by have := ProdInv.start (b := 2 ^ 32) (by omega) (dr n) (dr m); rwa [← e1.out, ← e2.out, show k + l = M from by have := HM.out; omega] at this), Only.refl _ _ _ _⟩
  case round =>
    obtain ⟨j, hj, rfl, L, hA, HI, hO⟩ := hrel
    by_cases hlt : j < l
    · have hLM : L.length = M := by have := HI.out.len; rw [← e1.out, ← e2.out] at this; have := HM.out; omega
      have hMM := HM.out
      have hm0 : m ≠ 0 := fun e => by have := e1.out; subst e; rw [dr_zero] at this; simp at this; omega
      obtain ⟨b, off, rfl, y1⟩ := H1.out.2.2 hm0
      have hbg : b ≠ g := by have := y1.lt (dr_pos hm0); have := HG.out; omega
      have Y1 := Lib.hid (y1.mono HB3.out)
      have hx := getD_lt (dr_lt m) (by omega) j
      have hwl : ((L.drop j).take k).length = k := by rw [List.length_take, List.length_drop]; omega
      have hwlt : ∀ x ∈ (L.drop j).take k, x < 2 ^ 32 := fun x hx => HI.out.lt x (List.mem_of_mem_drop (List.mem_of_mem_take hx))
      have HWL := Lib.hid hwl; have HLM := Lib.hid hLM; have HX := Lib.hid hx
      have HST := Lib.hid (MulInv.start (b := 2 ^ 32) (by omega) ((L.drop j).take k) (dr n) ((dr m).getD j 0) hwlt)
      have hA' : At wr .u32 g 0 (midRow L ((L.drop j).take k) j k) := by rw [midRow_start _ _ _ (by omega)]; exact hA
      have HA' := Lib.hid hA'
      have HJK := Lib.hid (show j + k ≤ L.length by omega)
      clear hwlt hA' hwl hLM hMM y1 hx hA
      go_wp2_with fail
      go_loopw [7, 8] (fun c' i wq => ∃ t cc : Nat, t ≤ k ∧ i = .int .i64 t ∧ c' = .int .u64 (cc : Int) ∧ ∃ zs, Hid (MulInv (2 ^ 32) ((L.drop j).take k) (dr n) ((dr m).getD j 0) zs t cc) ∧ At wq .u32 g 0 (midRow L zs j k) ∧ Only w3 wq g 0 M) (fun _ i _ => k - (intOf i).toNat)
      case atStart => exact ⟨0, 0, Nat.zero_le _, rfl, rfl, _, HST, HA'.out, hO⟩
      case round =>
        obtain ⟨t, cc, ht, rfl, rfl, zs, HZ, hB, hOq⟩ := hrel
        have hzl : zs.length = k := by rw [HZ.out.len, HWL.out]
        have hjk := HJK.out
        have hlm := HLM.out
        by_cases htk : t < k
        · have hn0 : n ≠ 0 := fun e => by have := e2.out; subst e; rw [dr_zero] at this; simp at this; omega
          obtain ⟨b2, off2, rfl, y2⟩ := H2.out.2.2 hn0
          have hbg2 : b2 ≠ g := by have := y2.lt (dr_pos hn0); have := HG.out; omega
          have c1 := hB.zero (j + t) (by rw [midRow_length hjk hzl]; omega)
          rw [midRow_getD hjk hzl htk] at c1
          have c2 := (HF3.out.only hOq).zero (j + t) (by omega)
          have c3 := (Y1.out.only hOq hbg) j (by rw [← e1.out]; exact hlt)
          have c4 := ((y2.mono HB3.out).only hOq hbg2) t (by rw [← e2.out]; exact htk)
          have hz := getD_lt HZ.out.lt (by omega) t
          have hy := getD_lt (dr_lt n) (by omega) t
          have hx := HX.out
          have hcc := HZ.out.carry
          have hbound := mul_lt_bound hx hy hz hcc
          have hst := Lib.hid (fun s d h1 h2 h3 => HZ.out.step (s := s) (d := d) (by rw [HWL.out]; exact htk) h1 h2 h3)
          have HBB := Lib.hid hB
          have hjkM : (j : Int) + t < M := by omega
          generalize (dr m).getD j 0 = x at *
          generalize (dr n).getD t 0 = y at *
          generalize zs.getD t 0 = z at *
          have HBO := Lib.hid hbound
          clear y2 hB hbound hlm
          go_wp2_with fail
          go_quiet (fail)
          go_wp2
          have hbo := HBO.out
          have hw : IntKind.u64.wrap ((cc : Int) + z + IntKind.u64.wrap ((x : Int) * y)) = ((cc + z + x * y : Nat) : Int) := by
            rw [show (x : Int) * y = ((x * y : Nat) : Int) from by norm_cast]
            generalize x * y = pr at *
            rw [IntKind.wrap_u64, IntKind.wrap_u64]; omega
          rw [hw]
          have hyx : y * x + z + cc = (cc + z + x * y) % 4294967296 + 2 ^ 32 * ((cc + z + x * y) / 4294967296) := by
            rw [Nat.mul_comm y x]
            generalize x * y = pr at *
            omega
          have hs1 := hst.out ((cc + z + x * y) % 4294967296) ((cc + z + x * y) / 4294967296) (Nat.mod_lt _ (by omega)) (by generalize x * y = pr at *; omega) hyx
          generalize cc + z + x * y = S at *
          have hON := (hOq.trans (Only.drewN (Only.refl wr g 0 M) nq)).setCell (j + t) (by omega) (by omega) (.int .u32 ((S % 4294967296 : Nat) : Int))
          go_roundw
          case rel =>
            refine ⟨t + 1, S / 4294967296, by omega, by go_num, by rfl, zs.set t (S % 4294967296), Lib.hid hs1, ?_, hON⟩
            have h5 := (HBB.out.drewN nq).set (j + t) (S % 4294967296) (by rw [midRow_length hjk hzl, HLM.out]; omega)
            rw [Nat.zero_add, midRow_set hjk hzl htk] at h5
            exact h5
          case measure => simp [intOf]; omega
        · obtain rfl : t = k := by omega
          have hz2 : (dr n).length = t := e2.out.symm
          have c1 := hB.zero (j + t) (by rw [midRow_length hjk hzl, hlm]; have := HM.out; omega)
          have c2 := (HF3.out.only hOq).zero (j + t) (by have := HM.out; omega)
          have hcc := HZ.out.carry
          have hMM := HM.out
          have hjt : (j : Int) + t < M := by omega
          have hpi := HI.out.step (sub := zs) (c := cc) (by rw [← e1.out]; exact hlt) (by rw [hz2]; exact hzl) HZ.out.lt hcc (by
            have h6 := MulInv.done (zs := (L.drop j).take t) (by rw [HWL.out]; exact HZ.out) (by rw [HWL.out, hz2])
            rw [HWL.out] at h6
            rw [hz2]; exact h6)
          rw [hz2] at hpi
          have HPI := Lib.hid hpi; have HBB := Lib.hid hB
          have hON := hOq.setCell (j + t) (by omega) (by omega) (.int .u32 (cc : Int))
          generalize (midRow L zs j t).getD (j + t) 0 = v0 at *
          clear hpi hB hMM hlm
          go_wp2
          go_roundw
          case rel =>
            refine ⟨j + 1, by omega, by go_num, _, ?_, Lib.hid HPI.out, hON⟩
            have h5 := HBB.out.set (j + t) cc (by rw [midRow_length hjk hzl, HLM.out]; have := HM.out; omega)
            rw [Nat.zero_add] at h5
            exact h5
          case measure => simp [intOf]; omega
    · obtain rfl : j = l := by omega
      have hI := HI.out
      rw [e1.out] at hI
      have hdone := hI.done
      rw [val_dr, val_dr, Nat.mul_comm] at hdone
      have hLM : L.length = M := by have := hI.len; rw [← e1.out, ← e2.out] at this; have := HM.out; omega
      have HT := Lib.hid (rtrim_n g 0 M M L hLM wr hA hI.lt (by have := HM.out; omega) (Nat.le_refl _))
      rw [hdone] at HT
      have HBR := Lib.hid (HB3.out.trans (hO.below (show w.heap.size ≤ g by have := HG.out; omega) (by have := HZ3.out; have := HG.out; omega)))
      clear hdone hA HI hO hI
      go_wp2_with fail
      refine HT.out.mono ?_
      rintro e w6 ⟨p6, l6, c6, rfl, h6, hb6⟩
      have H6 := Lib.hid h6; clear h6
      have HB6 := Lib.hid (below_step HBR.out hb6)
      clear hb6
      go_wp2
      go_ret
      exact ⟨_, _, _, rfl, H6.out, HB6.out⟩
end Go.Proofs.YtfjjmhbffbhhdaaGreatDoor
