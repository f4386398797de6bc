/- The document's own numbers: made, measured, as bytes. -/
import Derived.Test.YtfjjmhbffbhhdaaGreatDoorShiftS
import Derived.Test.YtfjjmhbffbhhdaaGreatDoorLeapFrom
namespace Go.Proofs.YtfjjmhbffbhhdaaGreatDoor
open Go.RowKit

def dr (n : Nat) : List Nat := digs (2 ^ 32) n

def IsR (w : World) (p : Option Addr) (l c : Nat) (n : Nat) : Prop :=
  l = (dr n).length ∧ l ≤ c ∧ (n ≠ 0 → ∃ b off, p = some ⟨b, off, none⟩ ∧ At w .u32 b off (dr n))

theorem IsR.mono {w w' : World} {p : Option Addr} {l c n : Nat} (h : IsR w p l c n) (hb : Below w.heap.size w w') : IsR w' p l c n := by
  obtain ⟨h1, h2, h3⟩ := h
  refine ⟨h1, h2, fun hn => ?_⟩
  obtain ⟨b, off, h4, h5⟩ := h3 hn
  exact ⟨b, off, h4, h5.mono hb⟩

def RetR (W : World) (n : Nat) : Ending → World → Prop := fun e w' =>
  ∃ p l c, e = .returned (.slice p l c) ∧ IsR w' p l c n ∧ Below W.heap.size W w'

theorem dr_zero : dr 0 = [] := digs_zero _
theorem dr_lt (n : Nat) : ∀ x ∈ dr n, x < 2 ^ 32 := digs_lt (by omega) n
theorem val_dr (n : Nat) : val (2 ^ 32) (dr n) = n := val_digs (by omega) n
theorem dr_pos {n : Nat} (h : n ≠ 0) : 0 < (dr n).length := List.length_pos_iff.2 (digs_ne_nil (by omega) h)

theorem RetTrim.isR {W w' : World} {b off c : Nat} {xs : List Nat} {e : Ending} (h : RetTrim W (2 ^ 32) b off c xs e w') (ha : At W .u32 b off xs) (hc : xs.length ≤ c) : RetR W (val (2 ^ 32) xs) e w' := by
  obtain ⟨rfl, h2, h3⟩ := h
  have hl : (digs (2 ^ 32) (val (2 ^ 32) xs)).length ≤ xs.length := by rw [← h3, List.length_take]; omega
  refine ⟨_, _, _, h2, ⟨rfl, by omega, fun _ => ⟨b, off, rfl, ?_⟩⟩, Below.refl _ _⟩
  unfold dr; rw [← h3]; exact ha.take _

theorem rtrim_n (b off c l : Nat) (xs : List Nat) (hl' : xs.length = l) (w : World) (h : At w .u32 b off xs) (hx : ∀ x ∈ xs, x < 2 ^ 32) (hl : l ≤ 281474976710656) (hc : l ≤ c) :
    Calls Tryz.prog 34 #[.slice (some ⟨b, off, none⟩) l c] w (RetR w (val (2 ^ 32) xs)) := by
  subst hl'
  exact (rtrim_any b off c xs w h hx hl hc).mono fun e w' h1 => h1.isR h hc

set_option maxHeartbeats 400000 in
theorem rof_any (n : Nat) (hn : n < 2 ^ 64) (w : World) : Calls Tryz.prog 43 #[.int .u64 (n : Int)] w (RetR w n) := by
  have hv : Hid (val (2 ^ 32) [n % 4294967296, n / 4294967296] = n) := Lib.hid (by simp [val]; omega)
  have hx : Hid (∀ x ∈ [n % 4294967296, n / 4294967296], x < 2 ^ 32) := Lib.hid (by simp; omega)
  have HN := Lib.hid hn; clear hn
  go_enter Tryz.func43, Tryz.ntmps43
  go_wp2_with fail
  have hn := HN.out
  rw [show (n : Int) / 4294967296 % 4294967296 = ((n / 4294967296 : Nat) : Int) from by omega, show (n : Int) % 4294967296 = ((n % 4294967296 : Nat) : Int) from by omega]
  clear hn
  refine (rtrim_n _ _ _ 2 [n % 4294967296, n / 4294967296] rfl _ (At.new2 _ _ _ _ _) hx.out (by omega) (by omega)).mono ?_
  rintro e w1 ⟨p, l, c, rfl, h1, hb⟩
  go_wp2
  go_ret
  rw [hv.out] at h1
  exact ⟨_, _, _, rfl, h1, (by repeat' first | exact Below.refl _ _ | refine below_alloc ?_ _ | refine below_step ?_ (by assumption))⟩

set_option maxHeartbeats 400000 in
theorem rbits_any (n : Nat) (p : Option Addr) (l c : Nat) (w : World) (h : IsR w p l c n) (hl : l ≤ 1000000) :
    Calls Tryz.prog 87 #[.slice p l c] w fun e w' => w = w' ∧ e = .returned (.int .i64 (bitLen n : Nat)) := by
  obtain ⟨h1, h2, h3⟩ := h
  by_cases hn : n = 0
  · subst hn
    rw [dr_zero] at h1
    obtain rfl : l = 0 := h1
    clear h3
    go_enter Tryz.func87, Tryz.ntmps87
    go_wp2
    go_ret
    exact ⟨rfl, rfl⟩
  · obtain ⟨b, off, rfl, h5⟩ := h3 hn
    have hp := dr_pos hn
    have hc := h5 ((dr n).length - 1) (by omega)
    have ht := bitLen_top (e := 32) (by omega) hn
    have hx := getD_lt (dr_lt n) (by omega) ((dr n).length - 1)
    change bitLen n = 32 * ((dr n).length - 1) + bitLen ((dr n).getD ((dr n).length - 1) 0) at ht
    generalize (dr n).getD ((dr n).length - 1) 0 = x at *
    rw [← h1] at hc ht hp
    have d0 : ((l : Int) == 0) = false := beq_eq_false_iff_ne.2 (by omega)
    have hbn : bitLen n ≤ 32000000 := by have := bitLen_lt_pow.1 hx; omega
    have HT := Lib.hid ht; have H1 := Lib.hid h1
    clear h1 ht h5 h3
    go_enter Tryz.func87, Tryz.ntmps87
    go_wp2
    go_loop [3, 4] (fun k y => ∃ y' k' : Nat, k = .int .i64 k' ∧ y = .int .u32 y' ∧ y' ≤ x ∧ k' ≤ 64000000 ∧ Hid (k' + bitLen y' = bitLen n)) (fun _ y => (intOf y).toNat)
    case atStart =>
      have hb := bitLen_lt_pow.1 hx
      refine ⟨x, 32 * (l - 1), by go_num, rfl, Nat.le_refl _, by omega, Lib.hid ?_⟩
      rw [HT.out]
    case round =>
      obtain ⟨y, k, rfl, rfl, hy, hk, HI⟩ := hrel
      by_cases h0 : y = 0
      · subst h0
        go_wp2
        go_ret
        exact ⟨rfl, ret_int (by have := HI.out; simp [bitLen] at this ⊢; omega)⟩
      · have h0' : 0 < y := by omega
        have HB : Hid (bitLen y = 1 + bitLen (y / 2)) := Lib.hid (by
          unfold bitLen
          rw [if_neg h0]
          by_cases h2 : y / 2 = 0
          · have : y = 1 := by omega
            subst this; rfl
          · rw [if_neg h2]
            have : y.log2 = (y / 2).log2 + 1 := by rw [Nat.log2_def y, if_pos (by omega)]
            omega)
        clear h0
        have hk2 : k + 1 ≤ 64000000 := by
          have h1 := HI.out; have h2 := HB.out
          omega
        go_wp2
        go_round
        case rel => exact ⟨y / 2, k + 1, by go_num, by go_num, by omega, by omega, Lib.hid (by have h1 := HI.out; have h2 := HB.out; omega)⟩
        case measure => simp [intOf]; omega

set_option maxHeartbeats 400000 in
theorem rbytes_any (n : Nat) (p : Option Addr) (l c : Nat) (w : World) (h : IsR w p l c n) (hl : l ≤ 1000000) :
    Calls Tryz.prog 63 #[.slice p l c] w (RetW w .u8 (be n)) := by
  have hmb : bitLen n ≤ 32 * l := by
    have h1 := h.1
    by_cases hn : n = 0
    · subst hn; simp [bitLen]
    · have ht := bitLen_top (e := 32) (by omega) hn
      have hx := bitLen_lt_pow.1 (getD_lt (dr_lt n) (by omega) ((dr n).length - 1))
      have := dr_pos hn
      change bitLen n = 32 * ((dr n).length - 1) + bitLen ((dr n).getD ((dr n).length - 1) 0) at ht
      omega
  obtain ⟨m, hm⟩ : ∃ m, m = (bitLen n + 7) / 8 := ⟨_, rfl⟩
  have hdl : m ≤ 4 * l := by omega
  have HM := Lib.hid (make_u8 m (by omega))
  have hz : n = 0 ∨ ∃ b off, p = some ⟨b, off, none⟩ ∧ At w .u32 b off (dr n) := by
    by_cases hn : n = 0
    · exact Or.inl hn
    · exact Or.inr (h.2.2 hn)
  have H1 := Lib.hid h.1
  have hm0 : n = 0 → m = 0 := fun h0 => by subst h0; rw [hm]; rfl
  have H := Lib.hid h
  have HZ := Lib.hid hz
  have HM0 := Lib.hid hm0
  have hq : (((bitLen n : Nat) : Int) + 7) / 8 = (m : Int) := by omega
  have hm8 : m ≤ 4000000 := by omega
  have HMM := Lib.hid hm
  have hmk := HM.out
  clear h hz hm hmb hm0
  go_enter Tryz.func63, Tryz.ntmps63
  go_wp2_with (go_at_call 87; refine (rbits_any n _ _ _ _ H.out hl).mono ?_; rintro e w1 ⟨rfl, rfl⟩)
  have A3 := At.made w .u8 m 5
  have F3 := Fr.made w .u8 m m 5
  have B3 : Below w.heap.size w (w.alloc (.cells (madeCells #[.int .u8 0] m) 5)) := below_alloc (Below.refl _ _) _
  have hz2 : w.heap.size < (w.alloc (.cells (madeCells #[.int .u8 0] m) 5)).heap.size := by simp
  obtain ⟨w3, hw3⟩ : ∃ w3, w3 = w.alloc (.cells (madeCells #[.int .u8 0] m) 5) := ⟨_, rfl⟩
  rw [← hw3] at A3 F3 B3 hz2 ⊢
  obtain ⟨g, hg⟩ : ∃ g, g = w.heap.size := ⟨_, rfl⟩
  have HG := Lib.hid hg
  rw [← hg] at A3 F3 hz2 ⊢
  have HA3 := Lib.hid A3; have HF3 := Lib.hid F3; have HB3 := Lib.hid B3
  have HQ := Lib.hid hq
  clear hw3 hg A3 F3 B3 hq hmk HM
  rw [HQ.out]
  go_loopw [5] (fun i wr => ∃ k : Nat, k ≤ m ∧ i = .int .i64 k ∧ ∃ L : List Nat, L.length = m ∧ At wr .u8 g 0 L ∧ Hid (∀ j, j < k → L.getD (m - 1 - j) 0 = n / 256 ^ j % 256) ∧ Only w3 wr g 0 m) (fun i _ => m - (intOf i).toNat)
  case atStart => exact ⟨0, Nat.zero_le _, rfl, List.replicate m 0, by simp, HA3.out, Lib.hid fun j h => by omega, Only.refl _ _ _ _⟩
  case round =>
    obtain ⟨k, hk, rfl, L, hL, hA, HI, hO⟩ := hrel
    by_cases hlt : k < m
    · obtain ⟨b, off, rfl, hAt⟩ := HZ.out.resolve_left (fun h0 => by have := HM0.out h0; omega)
      have hbl : b < g := by
        have := hAt.lt (by rw [← H1.out]; omega)
        rw [HG.out]; exact this
      have c1 := hA.zero (m - 1 - k) (by omega)
      have c2 := (HF3.out.only hO).zero (m - 1 - k) (by omega)
      have c3 := ((hAt.mono HB3.out).only hO (by omega)) (k / 4) (by rw [← H1.out]; omega)
      have i1 : (0 : Int) ≤ (m : Int) - 1 - k := by omega
      have i2 : (0 : Int) ≤ (k : Int) / 4 := by omega
      have i3 : (k : Int) / 4 < l := by omega
      have hx : (dr n).getD (k / 4) 0 / 2 ^ (8 * (k % 4)) % 256 = n / 256 ^ k % 256 := by
        have h1 := byte_of_digit 4 n k (by omega)
        rw [← digs_getD (b := 2 ^ (8 * 4)) (by omega)] at h1
        rw [← h1]; rfl
      have HX := Lib.hid hx; clear hx hAt
      generalize (dr n).getD (k / 4) 0 = x at *
      go_wp2
      go_roundw
      case rel =>
        refine ⟨k + 1, by omega, by go_num, L.set (m - 1 - k) (x / 2 ^ (8 * (k % 4)) % 256), by simpa using hL, ?_, Lib.hid fun j hj => ?_, ?_⟩
        · have := hA.set (m - 1 - k) (x / 2 ^ (8 * (k % 4)) % 256) (by omega)
          rw [Nat.zero_add, shr_cast] at this
          exact this
        · rw [getD_set _ _ _ _ (by omega)]
          by_cases e : j = k
          · subst e; rw [if_pos rfl, HX.out]
          · rw [if_neg (by omega)]; exact HI.out j (by omega)
        · exact hO.setCell _ (by omega) (by omega) _
      case measure => simp [intOf]; omega
    · go_wp2
      go_ret
      obtain rfl : k = m := by omega
      have e := be_eq HMM.out.symm hL HI.out
      rw [e] at hA hL
      exact ⟨g, 0, k, ret_slice hL.symm, by omega, by rw [HG.out]; exact Nat.le_refl _, hA, by rw [hL]; exact HF3.out.only hO, HB3.out.trans (hO.below (by rw [HG.out]; exact Nat.le_refl _) (by rw [← HG.out]; omega))⟩
end Go.Proofs.YtfjjmhbffbhhdaaGreatDoor

/- Comparing the program's numbers. -/
namespace Go.Proofs.YtfjjmhbffbhhdaaGreatDoor
open Go.RowKit

set_option maxHeartbeats 400000 in
theorem compare_len (p q : Option Addr) (l k c d : Nat) (h : l ≠ k) (w : World) :
    Calls Tryz.prog 61 #[.slice p l c, .slice q k d] w fun e w' => w = w' ∧ e = .returned (.int .i64 (cmp3 l k)) := by
  have d0 : ((l : Int) != k) = true := by rw [bne_iff_ne]; omega
  clear h
  go_enter Tryz.func61, Tryz.ntmps61
  go_wp2_with (go_at_call 86; refine (cmpI_any _ _ _).mono ?_; rintro e w1 ⟨rfl, rfl⟩)
  go_ret
  exact ⟨rfl, rfl⟩

def RetC (W : World) (x y : Nat) : Ending → World → Prop := fun e w' => e = .returned (.int .i64 (cmp3 x y)) ∧ Below W.heap.size W w'

set_option maxHeartbeats 800000 in
theorem compare_same (b off c b2 off2 d n : Nat) (xs ys : List Nat) (w : World) (hx : xs.length = n) (hy : ys.length = n) (hn : n ≤ 281474976710656)
    (h1 : At w .u64 b off xs) (h2 : At w .u64 b2 off2 ys) (hX : ∀ x ∈ xs, x < 2 ^ 64) (hY : ∀ x ∈ ys, x < 2 ^ 64) :
    Calls Tryz.prog 61 #[.slice (some ⟨b, off, none⟩) n c, .slice (some ⟨b2, off2, none⟩) n d] w (RetC w (val (2 ^ 64) xs) (val (2 ^ 64) ys)) := by
  have H1 := Lib.hid h1; have H2 := Lib.hid h2; have HX := Lib.hid hX; have HY := Lib.hid hY; have HL := Lib.hid hx; have HL2 := Lib.hid hy
  clear h1 h2 hX hY hx hy
  go_enter Tryz.func61, Tryz.ntmps61
  go_wp2
  go_loopw [5] (fun i wr => ∃ k : Nat, k ≤ n ∧ i = .int .i64 ((k : Int) - 1) ∧ Hid (xs.drop k = ys.drop k) ∧ Below w.heap.size w wr) (fun i _ => (intOf i + 1).toNat)
  case atStart => exact ⟨n, Nat.le_refl _, rfl, Lib.hid (by rw [List.drop_of_length_le (by rw [HL.out]; omega), List.drop_of_length_le (by rw [HL2.out]; omega)]), Below.refl _ _⟩
  case round =>
    obtain ⟨k, hk, rfl, HE, hb⟩ := hrel
    cases k with
    | zero =>
      go_wp2
      go_ret
      have e : xs = ys := by simpa using HE.out
      exact ⟨ret_int (by rw [e, cmp3_eq]), hb⟩
    | succ m =>
      have c1 := H1.out.mono hb m (by rw [HL.out]; omega)
      have c2 := H2.out.mono hb m (by rw [HL2.out]; omega)
      have hz : xs.getD m 0 < ys.getD m 0 ∨ xs.getD m 0 = ys.getD m 0 ∨ ys.getD m 0 < xs.getD m 0 := by omega
      generalize gx : xs.getD m 0 = x at *
      generalize gy : ys.getD m 0 = y at *
      have GX := Lib.hid gx; have GY := Lib.hid gy; clear gx gy
      have i0 : (0 : Int) ≤ m := by omega
      have i1 : (m : Int) < n := by omega
      rcases hz with hz | rfl | hz
      · have d0 : ((x : Int) != y) = true := by rw [bne_iff_ne]; omega
        go_wp2_with fail
        go_quiet (fail)
        go_wp2
        go_quiet ((go_at_call 60; exact quiet_eq_add (cmpU_any _ _ _)))
        go_wp2
        go_ret
        have hv := val_lt_of_top (b := 2 ^ 64) (xs := xs) (ys := ys) (m := m) (by rw [HL.out, HL2.out]) (by rw [HL.out]; omega) HX.out HE.out (by rw [GX.out, GY.out]; exact hz)
        exact ⟨ret_int (by rw [cmp3_lt (by omega), cmp3_lt (by exact_mod_cast hv)]), below_drewN (below_drewN hb _) _⟩
      · have d0 : ((x : Int) != x) = false := by simp
        go_wp2_with fail
        go_quiet (fail)
        go_wp2
        go_roundw
        case rel => exact ⟨m, by omega, by go_num, Lib.hid (by
          rw [List.drop_eq_getElem_cons (by rw [HL.out]; omega : m < xs.length), List.drop_eq_getElem_cons (by rw [HL2.out]; omega : m < ys.length), HE.out]
          congr 1
          have e1 := GX.out; have e2 := GY.out
          simp only [List.getD, List.getElem?_eq_getElem (by rw [HL.out]; omega : m < xs.length), List.getElem?_eq_getElem (by rw [HL2.out]; omega : m < ys.length), Option.getD_some] at e1 e2
          rw [e1, e2]), below_drewN hb _⟩
        case measure => simp [intOf]
      · have d0 : ((x : Int) != y) = true := by rw [bne_iff_ne]; omega
        go_wp2_with fail
        go_quiet (fail)
        go_wp2
        go_quiet ((go_at_call 60; exact quiet_eq_add (cmpU_any _ _ _)))
        go_wp2
        go_ret
        have hv := val_lt_of_top (b := 2 ^ 64) (xs := ys) (ys := xs) (m := m) (by rw [HL.out, HL2.out]) (by rw [HL2.out]; omega) HY.out HE.out.symm (by rw [GX.out, GY.out]; exact hz)
        exact ⟨ret_int (by rw [cmp3_gt (by omega), cmp3_gt (by exact_mod_cast hv)]), below_drewN (below_drewN hb _) _⟩

theorem cmp_ds {m n : Nat} (h : (ds m).length ≠ (ds n).length) : cmp3 (ds m).length (ds n).length = cmp3 m n := by
  by_cases hlt : m < n
  · have := ds_mono (Nat.le_of_lt hlt)
    rw [cmp3_lt (by omega), cmp3_lt (by omega)]
  · have := ds_mono (Nat.le_of_not_lt hlt)
    have : m ≠ n := by intro e; rw [e] at h; exact h rfl
    rw [cmp3_gt (by omega), cmp3_gt (by omega)]

theorem compare_ds (m n b off c b2 off2 d : Nat) (hm : (ds m).length ≤ 281474976710656) (w : World) (h1 : At w .u64 b off (ds m)) (h2 : At w .u64 b2 off2 (ds n)) :
    Calls Tryz.prog 61 #[.slice (some ⟨b, off, none⟩) (ds m).length c, .slice (some ⟨b2, off2, none⟩) (ds n).length d] w (RetC w m n) := by
  by_cases h : (ds m).length = (ds n).length
  · have := compare_same b off c b2 off2 d (ds m).length (ds m) (ds n) w rfl h.symm hm h1 h2 (ds_lt m) (ds_lt n)
    rw [val_ds, val_ds] at this
    rw [← h]
    exact this
  · refine (compare_len _ _ _ _ c d h w).mono fun e w' ⟨h3, h4⟩ => ?_
    subst h3
    rw [h4, cmp_ds h]
    exact ⟨rfl, Below.refl _ _⟩

set_option maxHeartbeats 400000 in
theorem cmp_ss (m n : Nat) (w : World) :
    Calls Tryz.prog 33 #[.agg #[.int .u64 (m : Int), .slice none 0 0], .agg #[.int .u64 (n : Int), .slice none 0 0]] w (RetC w m n) := by
  go_enter Tryz.func33, Tryz.ntmps33
  go_wp2_with fail
  refine (short_yes _ _ _ _).mono ?_
  rintro e w1 ⟨rfl, hb⟩
  obtain ⟨hc, hf⟩ := bcell hb
  have hz : w.heap.size + 1 < w1.heap.size := by have := hb.size; simp at this; omega
  go_wp2_with fail
  refine (short_yes _ _ _ _).mono ?_
  rintro e w2 ⟨rfl, hb2⟩
  replace hb2 := below_step hb hb2
  obtain ⟨hc2, hf2⟩ := bcell hb2
  go_wp2_with fail
  refine (cmpU_any _ _ _).mono ?_
  rintro e w3 ⟨rfl, rfl⟩
  go_wp2
  go_ret
  exact ⟨rfl, (by repeat' first | exact Below.refl _ _ | refine below_alloc ?_ _ | refine below_step ?_ (by assumption))⟩

set_option maxHeartbeats 400000 in
theorem cmp_l (s t : Int) (p q : Option Addr) (l k c d m n : Nat) (hl : 0 < l) (w : World) (T : ∀ w', Below w.heap.size w w' → Calls Tryz.prog 61 #[.slice p l c, .slice q k d] w' (RetC w' m n)) :
    Calls Tryz.prog 33 #[.agg #[.int .u64 s, .slice p l c], .agg #[.int .u64 t, .slice q k d]] w (RetC w m n) := by
  have HT := Lib.hid T; clear T
  go_enter Tryz.func33, Tryz.ntmps33
  go_wp2_with fail
  refine (short_no _ _ _ _ hl _).mono ?_
  rintro e w1 ⟨rfl, hb⟩
  obtain ⟨hc, hf⟩ := bcell hb
  have HB : Below w.heap.size w w1 := (by repeat' first | exact Below.refl _ _ | refine below_alloc ?_ _ | refine below_step ?_ (by assumption))
  have hz : w.heap.size + 1 < w1.heap.size := by have := hb.size; simp at this; omega
  go_wp2_with fail
  refine (HT.out w1 HB).mono ?_
  rintro e w2 ⟨rfl, hb2⟩
  go_wp2
  go_ret
  exact ⟨rfl, (by repeat' first | exact Below.refl _ _ | refine below_alloc ?_ _ | refine below_step ?_ (by assumption))⟩

set_option maxHeartbeats 400000 in
theorem cmp_sl (s t : Int) (p q : Option Addr) (k c d m n : Nat) (hl : 0 < k) (w : World) (T : ∀ w', Below w.heap.size w w' → Calls Tryz.prog 61 #[.slice p 0 c, .slice q k d] w' (RetC w' m n)) :
    Calls Tryz.prog 33 #[.agg #[.int .u64 s, .slice p 0 c], .agg #[.int .u64 t, .slice q k d]] w (RetC w m n) := by
  have HT := Lib.hid T; clear T
  go_enter Tryz.func33, Tryz.ntmps33
  go_wp2_with fail
  refine (short_yes _ _ _ _).mono ?_
  rintro e w1 ⟨rfl, hb⟩
  obtain ⟨hc, hf⟩ := bcell hb
  have HB : Below w.heap.size w w1 := (by repeat' first | exact Below.refl _ _ | refine below_alloc ?_ _ | refine below_step ?_ (by assumption))
  have hz : w.heap.size + 1 < w1.heap.size := by have := hb.size; simp at this; omega
  go_wp2_with fail
  refine (short_no _ _ _ _ hl _).mono ?_
  rintro e w2 ⟨rfl, hb2⟩
  have HB2 : Below w.heap.size w w2 := below_step HB hb2
  replace hb2 := below_step hb hb2
  obtain ⟨hc2, hf2⟩ := bcell hb2
  go_wp2_with fail
  refine (HT.out w2 HB2).mono ?_
  rintro e w3 ⟨rfl, hb3⟩
  go_wp2
  go_ret
  exact ⟨rfl, below_step HB2 hb3⟩

theorem cmp_any (s t : Int) (p q : Option Addr) (l k c d m n : Nat) (w : World) (h1 : IsN w s p l c m) (h2 : IsN w t q k d n) (hm : (ds m).length ≤ 281474976710656) :
    Calls Tryz.prog 33 #[.agg #[.int .u64 s, .slice p l c], .agg #[.int .u64 t, .slice q k d]] w (RetC w m n) := by
  rcases h1 with ⟨a1, rfl, rfl, rfl, rfl⟩ | ⟨a1, rfl, b, off, rfl, a3, a4, a5⟩
  · rcases h2 with ⟨b1, rfl, rfl, rfl, rfl⟩ | ⟨b1, rfl, b', off', rfl, b3, b4, b5⟩
    · exact cmp_ss m n w
    · have := ds_pos n
      refine cmp_sl _ _ _ _ _ _ _ m n (by omega) w fun w' _ => ?_
      refine (compare_len _ _ 0 k 0 d (by omega) w').mono fun e w1 ⟨e1, e2⟩ => ?_
      subst e1
      rw [e2, cmp3_lt (by omega)]
      exact ⟨by rw [cmp3_lt (by omega)], Below.refl _ _⟩
  · have hm0 := ds_pos m
    rcases h2 with ⟨b1, rfl, rfl, rfl, rfl⟩ | ⟨b1, rfl, b', off', rfl, b3, b4, b5⟩
    · refine cmp_l _ _ _ _ _ _ _ _ m n (by omega) w fun w' _ => ?_
      refine (compare_len _ _ l 0 c 0 (by omega) w').mono fun e w1 ⟨e1, e2⟩ => ?_
      subst e1
      rw [e2, cmp3_gt (by omega)]
      exact ⟨by rw [cmp3_gt (by omega)], Below.refl _ _⟩
    · refine cmp_l _ _ _ _ _ _ _ _ m n (by omega) w fun w' hb => ?_
      subst a3 b3
      exact compare_ds m n b off c b' off' d hm w' (a5.mono hb) (b5.mono hb)
end Go.Proofs.YtfjjmhbffbhhdaaGreatDoor

/- Comparing the document's numbers. -/
namespace Go.Proofs.YtfjjmhbffbhhdaaGreatDoor
open Go.RowKit

theorem rcmp_lt (p q : Option Addr) (l k c d : Nat) (h : l < k) (w : World) :
    Calls Tryz.prog 30 #[.slice p l c, .slice q k d] w fun e w' => w = w' ∧ e = .returned (.int .i64 (-1)) := by
  have d0 : ((l : Int) != k) = true := by rw [bne_iff_ne]; omega
  go_enter Tryz.func30, Tryz.ntmps30
  go_wp2
  go_ret
  exact ⟨rfl, rfl⟩
theorem rcmp_gt (p q : Option Addr) (l k c d : Nat) (h : k < l) (w : World) :
    Calls Tryz.prog 30 #[.slice p l c, .slice q k d] w fun e w' => w = w' ∧ e = .returned (.int .i64 1) := by
  have d0 : ((l : Int) != k) = true := by rw [bne_iff_ne]; omega
  go_enter Tryz.func30, Tryz.ntmps30
  go_wp2
  go_ret
  exact ⟨rfl, rfl⟩
theorem rcmp_zero (p q : Option Addr) (c d : Nat) (w : World) :
    Calls Tryz.prog 30 #[.slice p 0 c, .slice q 0 d] w fun e w' => w = w' ∧ e = .returned (.int .i64 0) := by
  go_enter Tryz.func30, Tryz.ntmps30
  go_wp2
  go_loopw [5] (fun i wr => i = .int .i64 (-1) ∧ wr = w) (fun _ _ => 0)
  case atStart => exact ⟨rfl, rfl⟩
  case round =>
    obtain ⟨rfl, rfl⟩ := hrel
    go_wp2
    go_ret
    exact ⟨rfl, rfl⟩

set_option maxHeartbeats 800000 in
theorem rcmp_same (b off c b2 off2 d n : Nat) (xs ys : List Nat) (w : World) (hx : xs.length = n) (hy : ys.length = n) (hn : n ≤ 281474976710656)
    (h1 : At w .u32 b off xs) (h2 : At w .u32 b2 off2 ys) (hX : ∀ x ∈ xs, x < 2 ^ 32) (hY : ∀ x ∈ ys, x < 2 ^ 32) :
    Calls Tryz.prog 30 #[.slice (some ⟨b, off, none⟩) n c, .slice (some ⟨b2, off2, none⟩) n d] w (RetC w (val (2 ^ 32) xs) (val (2 ^ 32) ys)) := by
  have H1 := Lib.hid h1; have H2 := Lib.hid h2; have HX := Lib.hid hX; have HY := Lib.hid hY; have HL := Lib.hid hx; have HL2 := Lib.hid hy
  clear h1 h2 hX hY hx hy
  go_enter Tryz.func30, Tryz.ntmps30
  go_wp2
  go_loopw [5] (fun i wr => ∃ k : Nat, k ≤ n ∧ i = .int .i64 ((k : Int) - 1) ∧ Hid (xs.drop k = ys.drop k) ∧ Below w.heap.size w wr) (fun i _ => (intOf i + 1).toNat)
  case atStart => exact ⟨n, Nat.le_refl _, rfl, Lib.hid (by rw [List.drop_of_length_le (by rw [HL.out]; omega), List.drop_of_length_le (by rw [HL2.out]; omega)]), Below.refl _ _⟩
  case round =>
    obtain ⟨k, hk, rfl, HE, hb⟩ := hrel
    cases k with
    | zero =>
      go_wp2
      go_ret
      have e : xs = ys := by simpa using HE.out
      exact ⟨ret_int (by rw [e, cmp3_eq]), hb⟩
    | succ m =>
      have c1 := H1.out.mono hb m (by rw [HL.out]; omega)
      have c2 := H2.out.mono hb m (by rw [HL2.out]; omega)
      have hz : xs.getD m 0 < ys.getD m 0 ∨ xs.getD m 0 = ys.getD m 0 ∨ ys.getD m 0 < xs.getD m 0 := by omega
      generalize gx : xs.getD m 0 = x at *
      generalize gy : ys.getD m 0 = y at *
      have GX := Lib.hid gx; have GY := Lib.hid gy; clear gx gy
      have i0 : (0 : Int) ≤ m := by omega
      have i1 : (m : Int) < n := by omega
      rcases hz with hz | rfl | hz
      · have d0 : ((x : Int) != y) = true := by rw [bne_iff_ne]; omega
        have d1 : decide ((x : Int) < y) = true := by simp; omega
        go_wp2_with fail
        go_quiet (fail)
        go_wp2
        go_quiet (fail)
        go_wp2
        go_ret
        have hv := val_lt_of_top (b := 2 ^ 32) (xs := xs) (ys := ys) (m := m) (by rw [HL.out, HL2.out]) (by rw [HL.out]; omega) HX.out HE.out (by rw [GX.out, GY.out]; exact hz)
        exact ⟨ret_int (by rw [cmp3_lt (by exact_mod_cast hv)]), below_drewN (below_drewN hb _) _⟩
      · have d0 : ((x : Int) != x) = false := by simp
        go_wp2_with fail
        go_quiet (fail)
        go_wp2
        go_roundw
        case rel => exact ⟨m, by omega, by go_num, Lib.hid (by
          rw [List.drop_eq_getElem_cons (by rw [HL.out]; omega : m < xs.length), List.drop_eq_getElem_cons (by rw [HL2.out]; omega : m < ys.length), HE.out]
          congr 1
          have e1 := GX.out; have e2 := GY.out
          simp only [List.getD, List.getElem?_eq_getElem (by rw [HL.out]; omega : m < xs.length), List.getElem?_eq_getElem (by rw [HL2.out]; omega : m < ys.length), Option.getD_some] at e1 e2
          rw [e1, e2]), below_drewN hb _⟩
        case measure => simp [intOf]
      · have d0 : ((x : Int) != y) = true := by rw [bne_iff_ne]; omega
        have d1 : decide ((x : Int) < y) = false := by simp; omega
        go_wp2_with fail
        go_quiet (fail)
        go_wp2
        go_quiet (fail)
        go_wp2
        go_ret
        have hv := val_lt_of_top (b := 2 ^ 32) (xs := ys) (ys := xs) (m := m) (by rw [HL.out, HL2.out]) (by rw [HL2.out]; omega) HY.out HE.out.symm (by rw [GX.out, GY.out]; exact hz)
        exact ⟨ret_int (by rw [cmp3_gt (by exact_mod_cast hv)]), below_drewN (below_drewN hb _) _⟩

theorem dr_lt_of {m n : Nat} (h : (dr m).length < (dr n).length) : m < n := by
  rcases Nat.lt_or_ge m n with h1 | h1
  · exact h1
  · have := digs_length_mono (b := 2 ^ 32) (by omega) h1
    unfold dr at h
    omega

theorem rCmp_any (p q : Option Addr) (l k c d m n : Nat) (w : World) (hl : l ≤ 281474976710656) (h1 : IsR w p l c m) (h2 : IsR w q k d n) :
    Calls Tryz.prog 30 #[.slice p l c, .slice q k d] w (RetC w m n) := by
  have e1 := h1.1; have e2 := h2.1
  rcases Nat.lt_trichotomy l k with h | h | h
  · have hmn : m < n := dr_lt_of (by omega)
    refine (rcmp_lt p q l k c d h w).mono ?_
    rintro e _ ⟨rfl, rfl⟩
    exact ⟨by rw [cmp3_lt (by exact_mod_cast hmn)], Below.refl _ _⟩
  · subst h
    by_cases h0 : l = 0
    · subst h0
      have hm : m = 0 := by
        by_cases hm : m = 0
        · exact hm
        · have := dr_pos hm; omega
      have hn : n = 0 := by
        by_cases hn : n = 0
        · exact hn
        · have := dr_pos hn; omega
      subst hm hn
      refine (rcmp_zero p q c d w).mono ?_
      rintro e _ ⟨rfl, rfl⟩
      exact ⟨by rw [cmp3_eq], Below.refl _ _⟩
    · have hm : m ≠ 0 := fun e => by subst e; rw [dr_zero] at e1; simp at e1; omega
      have hn : n ≠ 0 := fun e => by subst e; rw [dr_zero] at e2; simp at e2; omega
      obtain ⟨b, off, rfl, a1⟩ := h1.2.2 hm
      obtain ⟨b2, off2, rfl, a2⟩ := h2.2.2 hn
      have := rcmp_same b off c b2 off2 d l (dr m) (dr n) w e1.symm e2.symm hl a1 a2 (dr_lt m) (dr_lt n)
      rwa [val_dr, val_dr] at this
  · have hmn : n < m := dr_lt_of (by omega)
    refine (rcmp_gt p q l k c d h w).mono ?_
    rintro e _ ⟨rfl, rfl⟩
    exact ⟨by rw [cmp3_gt (by exact_mod_cast hmn)], Below.refl _ _⟩
end Go.Proofs.YtfjjmhbffbhhdaaGreatDoor
