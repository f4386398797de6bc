/- Differences of the program's numbers. -/
import Derived.Test.YtfjjmhbffbhhdaaGreatDoorArith
import Derived.Test.YtfjjmhbffbhhdaaGreatDoorLong
import Derived.Test.YtfjjmhbffbhhdaaGreatDoorRefCmp
import Derived.Test.YtfjjmhbffbhhdaaGreatDoorSum
import Derived.Test.YtfjjmhbffbhhdaaGreatDoorDiv64
import Derived.Test.YtfjjmhbffbhhdaaGreatDoorFill
namespace Go.Proofs.YtfjjmhbffbhhdaaGreatDoor
open Go.RowKit

theorem clone_any (b off c l : Nat) (xs : List Nat) (w : World) (hl : xs.length = l) (hl2 : l ≤ 1000000) (h : At w .u64 b off xs) :
    Calls Tryz.prog 53 #[.slice (some ⟨b, off, none⟩) l c] w (RetW w .u64 xs) := by
  obtain ⟨i0, hi, hz0, hz1, hz2⟩ := info_parts Tryz.infoU64
  have hn : l ≤ maxLen := by unfold maxLen; omega
  refine (Tryz.slices_Clone i0 _ 1 8 hi hz0 hz1 hz2 rfl (by omega) Tryz.sizeOf23 b off l c (cellsOfRow .u64 xs) w (by simp [cellsOfRow, hl]) hn (by omega) (fun j u hj => ?_) (fun u hu => ?_)).mono ?_
  · have hjl : j < xs.length := by
      rcases Nat.lt_or_ge j xs.length with h | h
      · exact h
      · rw [List.getElem?_eq_none (by simpa [cellsOfRow] using h)] at hj; cases hj
    rw [h j hjl, ← hj]
    simp [cellsOfRow, List.getD, hjl]
  · simp only [cellsOfRow, List.mem_map] at hu
    obtain ⟨x, _, rfl⟩ := hu
    rfl
  · rintro e w' ⟨v, rfl, hown, hnn, hb⟩
    have h1 := hown.2
    rcases h1 with ⟨h1, _⟩ | ⟨g, cap, cur, rfl, hg, _, hcap, _, _, _⟩
    · exact absurd h1 hnn
    · refine ⟨g, 0, cap, by rw [hl], by omega, hg, fun i hi => ?_, fun i _ => ?_, hb⟩
      · rw [Nat.zero_add, World.ownsRow.cellAt hown i (by omega)]
        simp [cellsOfRow, List.getD, hi]
      · rw [Nat.zero_add]; exact World.ownsRow.frozenAt hown i

def RetL2 (W : World) (p : Option Addr) (xs : List Nat) : Ending → World → Prop := fun e w' =>
  ∃ b off c, e = .returned (.slice (some ⟨b, off, none⟩) xs.length c) ∧ xs.length ≤ c ∧ At w' .u64 b off xs ∧ (W.heap.size ≤ b ∨ p = some ⟨b, off, none⟩) ∧ Below W.heap.size W w'

set_option maxHeartbeats 400000 in
theorem list2_any (n : Nat) (s : Int) (p : Option Addr) (l c : Nat) (w : World) (h : IsN w s p l c n) :
    Calls Tryz.prog 69 #[.agg #[.int .u64 s, .slice p l c]] w (RetL2 w p (ds n)) := by
  rcases h with ⟨h1, rfl, rfl, rfl, rfl⟩ | ⟨h1, rfl, b, off, rfl, h4, h5, h6⟩
  · have H := Lib.hid (ds_small h1)
    clear h1
    go_enter Tryz.func69, Tryz.ntmps69
    go_wp2_with (go_at_call 44; refine (short_yes _ _ _ _).mono ?_; rintro e w1 ⟨rfl, hb⟩; obtain ⟨hc, hf⟩ := bcell hb)
    go_ret
    rw [H.out]
    have hz := hb.size
    rw [World.size_alloc] at hz
    exact ⟨_, _, _, rfl, by simp, At.new1 _ _ _ _, Or.inl (by omega), (by repeat' first | exact Below.refl _ _ | refine below_alloc ?_ _ | refine below_step ?_ (by assumption))⟩
  · have h0 : 0 < l := by rw [h4]; exact ds_pos n
    have H := Lib.hid h4
    have H6 := Lib.hid h6
    clear h4 h6 h1
    go_enter Tryz.func69, Tryz.ntmps69
    go_wp2_with (go_at_call 44; refine (short_no _ _ _ _ h0 _).mono ?_; rintro e w1 ⟨rfl, hb⟩; obtain ⟨hc, hf⟩ := bcell hb)
    go_ret
    have HB : Below w.heap.size w w1 := (by repeat' first | exact Below.refl _ _ | refine below_alloc ?_ _ | refine below_step ?_ (by assumption))
    exact ⟨b, off, c, ret_slice H.out, by rw [← H.out]; exact h5, H6.out.mono HB, Or.inr rfl, HB⟩

def RetSubN (W : World) (m n : Nat) : Ending → World → Prop := fun e w' =>
  (m < n ∧ e = .returned (.tuple #[.agg #[.int .u64 0, .slice none 0 0], .bool false]) ∧ Below W.heap.size W w') ∨
  (n ≤ m ∧ ∃ s p l c, e = .returned (.tuple #[.agg #[.int .u64 s, .slice p l c], .bool true]) ∧ IsN w' s p l c (m - n) ∧ Below W.heap.size W w')

set_option maxHeartbeats 400000 in
theorem sub_lt (s t : Int) (p q : Option Addr) (l c k d m n : Nat) (w : World) (hlt : m < n) (hm : (ds m).length ≤ 1000000) (h1 : IsN w s p l c m) (h2 : IsN w t q k d n) :
    Calls Tryz.prog 46 #[.agg #[.int .u64 s, .slice p l c], .agg #[.int .u64 t, .slice q k d]] w (RetSubN w m n) := by
  have H1 := Lib.hid h1; have H2 := Lib.hid h2; have HLT := Lib.hid hlt; clear h1 h2 hlt
  go_enter Tryz.func46, Tryz.ntmps46
  go_wp2_with fail
  refine (cmp_any _ _ _ _ _ _ _ _ m n _ (H1.out.mono (by repeat' first | exact Below.refl _ _ | refine below_alloc ?_ _)) (H2.out.mono (by repeat' first | exact Below.refl _ _ | refine below_alloc ?_ _)) (by omega)).mono ?_
  rintro e w1 ⟨rfl, hb⟩
  rw [cmp3_lt (by exact_mod_cast HLT.out)]
  obtain ⟨hc, hf⟩ := bcell hb
  have HB : Below w.heap.size w w1 := (by repeat' first | exact Below.refl _ _ | refine below_alloc ?_ _ | refine below_step ?_ (by assumption))
  go_wp2
  exact bodyPost_ret (v := .tuple #[.agg #[.int .u64 0, .slice none 0 0], .bool false]) (by simp [results, Tryz.results46, go_sem, hc]) rfl (Or.inl ⟨HLT.out, rfl, (by repeat' first | exact HB | (refine Below.setCell ?_ (by simp; omega) _))⟩)

set_option maxHeartbeats 400000 in
theorem sub_ss (m n : Nat) (hm : m < 2 ^ 64) (hn : n < 2 ^ 64) (hle : n ≤ m) (w : World) :
    Calls Tryz.prog 46 #[.agg #[.int .u64 (m : Int), .slice none 0 0], .agg #[.int .u64 (n : Int), .slice none 0 0]] w (RetSubN w m n) := by
  have HM := Lib.hid hm; have HN := Lib.hid hn; have HLE := Lib.hid hle
  have h0 : 0 ≤ cmp3 m n := by unfold cmp3; rw [if_neg (by omega)]; split <;> omega
  have hw : IntKind.u64.wrap ((m : Int) - n) = ((m - n : Nat) : Int) := by rw [IntKind.wrap_u64]; omega
  clear hm hn hle
  go_enter Tryz.func46, Tryz.ntmps46
  go_wp2_with fail
  refine (cmp_any _ _ _ _ _ _ _ _ m n _ (.short HM.out) (.short HN.out) (by rw [ds_one HM.out]; omega)).mono ?_
  rintro e w1 ⟨rfl, hb⟩
  obtain ⟨hc, hf⟩ := bcell hb
  have hz : w.heap.size + 1 < w1.heap.size := by have := hb.size; simp at this; omega
  go_wp2_with fail
  refine (short_yes _ _ _ _).mono ?_
  rintro e w2 ⟨rfl, hb2⟩
  replace hb2 := below_step hb hb2
  obtain ⟨hc2, hf2⟩ := bcell hb2
  clear hc hf
  go_wp2_with fail
  refine (of_any _ _).mono ?_
  rintro e w3 ⟨rfl, hb3⟩
  replace hb3 := below_step hb2 hb3
  obtain ⟨hc3, hf3⟩ := bcell hb3
  have HB : Below w.heap.size w w3 := (by repeat' first | exact Below.refl _ _ | refine below_alloc ?_ _ | refine below_step ?_ (by assumption))
  go_wp2
  have h3 := HM.out
  exact bodyPost_ret (v := .tuple #[.agg #[.int .u64 ((m - n : Nat) : Int), .slice none 0 0], .bool true]) (by simp [results, Tryz.results46, go_sem, hc3]) rfl (Or.inr ⟨HLE.out, _, _, _, _, rfl, .short (by omega), (by repeat' first | exact HB | (refine Below.setCell ?_ (by simp; omega) _))⟩)

set_option maxHeartbeats 1000000 in
theorem sub_l (t : Int) (q : Option Addr) (b off l c k d m n : Nat) (w : World) (hl : l = (ds m).length) (hlc : l ≤ c) (ha : At w .u64 b off (ds m)) (hm : (ds m).length ≤ 1000000) (hle : n ≤ m) (hm2 : 2 ^ 64 ≤ m) (h2 : IsN w t q k d n) :
    Calls Tryz.prog 46 #[.agg #[.int .u64 0, .slice (some ⟨b, off, none⟩) l c], .agg #[.int .u64 t, .slice q k d]] w (RetSubN w m n) := by
  have h1 : IsN w 0 (some ⟨b, off, none⟩) l c m := Or.inr ⟨hm2, rfl, b, off, rfl, hl, hlc, ha⟩
  have hl0 : 0 < l := by rw [hl]; exact ds_pos m
  have hll : l ≤ 1000000 := by omega
  have H1 := Lib.hid h1; have H2 := Lib.hid h2; have HLE := Lib.hid hle; have HA := Lib.hid ha; have HL := Lib.hid hl
  have h0 : 0 ≤ cmp3 m n := by unfold cmp3; rw [if_neg (by omega)]; split <;> omega
  have hbl : b < w.heap.size := ha.lt (ds_pos m)
  clear h1 h2 hle ha hl hm2
  go_enter Tryz.func46, Tryz.ntmps46
  go_wp2_with fail
  refine (cmp_any _ _ _ _ _ _ _ _ m n _ (H1.out.mono (by repeat' first | exact Below.refl _ _ | refine below_alloc ?_ _)) (H2.out.mono (by repeat' first | exact Below.refl _ _ | refine below_alloc ?_ _)) (by omega)).mono ?_
  rintro e w1 ⟨rfl, hb⟩
  obtain ⟨hc, hf⟩ := bcell hb
  have hz : w.heap.size + 1 < w1.heap.size := by have := hb.size; simp at this; omega
  go_wp2_with fail
  refine (short_no _ _ _ _ hl0 _).mono ?_
  rintro e w2 ⟨rfl, hb2⟩
  replace hb2 := below_step hb hb2
  obtain ⟨hc2, hf2⟩ := bcell hb2
  clear hc hf
  have HB2 : Below w.heap.size w w2 := (by repeat' first | exact Below.refl _ _ | refine below_alloc ?_ _ | refine below_step ?_ (by assumption))
  go_wp2_with fail
  refine (clone_any b off c l (ds m) w2 HL.out.symm hll (HA.out.mono HB2)).mono ?_
  rintro e w3 ⟨g, og, cg, rfl, x1, x2, x3, x4, hb3'⟩
  have hb3 := below_step hb2 hb3'
  obtain ⟨hc3, hf3⟩ := bcell hb3
  clear hc2 hf2
  have HB3 : Below w.heap.size w w3 := below_step HB2 hb3'
  have X3 := Lib.hid x3; have X4 := Lib.hid x4
  clear x3 x4
  have hz3 : w.heap.size + 1 + 1 < w3.heap.size := by have := hb3.size; simp at this; omega
  have hg2 : w2.heap.size ≤ g := x2
  rw [← HL.out]
  go_wp2_with fail
  refine (list2_any n t q k d w3 (H2.out.mono HB3)).mono ?_
  rintro e w4 ⟨bn, on, cn, rfl, y1, y2, y3, hb4'⟩
  have hb4 := below_step hb3 hb4'
  obtain ⟨hc4, hf4⟩ := bcell hb4
  clear hc3 hf3
  have HB4 : Below w.heap.size w w4 := below_step HB3 hb4'
  have X3' := Lib.hid (X3.out.mono hb4')
  have hgl : g < w3.heap.size := X3.out.lt (by rw [← HL.out]; exact hl0)
  have X4' := Lib.hid (X4.out.mono hb4' hgl)
  have hgw : w.heap.size + 1 + 1 < g := by have := hb2.size; simp at this; omega
  go_wp2_with fail
  have hbn : bn ≠ g := by
    rcases y3 with h | h
    · omega
    · rcases H2.out with ⟨_, _, h3, _⟩ | ⟨_, _, b', off', h3, _, _, h6⟩
      · rw [h3] at h; cases h
      · rw [h3] at h
        injection h with h
        injection h with h
        have := h6.lt (ds_pos n)
        omega
  refine (subFrom_any g og cg bn on cn l (ds n).length (ds m) (ds n) w4 HL.out.symm rfl (by rw [HL.out]; exact ds_mono HLE.out) (by omega) hbn X3'.out (by rw [HL.out]; exact X4'.out) y2 (ds_lt m) (ds_lt n)).mono ?_
  rintro e w5 ⟨rfl, zs, cc, z1, z2, z3, z4, z5, z6⟩
  have hv : val (2 ^ 64) zs = m - n := by
    rw [val_ds, val_ds] at z4
    have h1 := val_lt _ zs z2
    rw [z1] at h1
    have h2 := lt_ds m
    rw [← HL.out] at h2
    have h3 := HLE.out
    generalize (2 ^ 64) ^ l = P at *
    have hcc : cc = 0 ∨ cc = 1 := by omega
    rcases hcc with rfl | rfl
    · omega
    · omega
  have hgs : w.heap.size ≤ g := by omega
  have HB5 : Below w.heap.size w w5 := HB4.trans (z6.below hgs HB4.size)
  have r0 : w4.cell? ⟨w.heap.size + 1 + 1, 0, none⟩ = some (.int .u64 0) := by simp [hc4, go_sem]
  have r1 : w4.cell? ⟨w.heap.size + 1 + 1, 1, none⟩ = some (.slice none 0 0) := by simp [hc4, go_sem]
  have f0 : w4.frozen? ⟨w.heap.size + 1 + 1, 0, none⟩ = false := by simp [hf4, go_sem]
  have f1 : w4.frozen? ⟨w.heap.size + 1 + 1, 1, none⟩ = false := by simp [hf4, go_sem]
  have hne : w.heap.size + 1 + 1 ≠ g := by omega
  have hlt4 : w.heap.size + 1 + 1 < w4.heap.size := World.block_lt_of_cell? _ _ r0
  have r0' : w5.cell? ⟨w.heap.size + 1 + 1, 0, none⟩ = some (.int .u64 0) := by rw [World.cell?_of_block (w := w4) (z6.block _ hlt4 hne)]; exact r0
  have r1' : w5.cell? ⟨w.heap.size + 1 + 1, 1, none⟩ = some (.slice none 0 0) := by rw [World.cell?_of_block (w := w4) (z6.block _ hlt4 hne)]; exact r1
  have f0' : w5.frozen? ⟨w.heap.size + 1 + 1, 0, none⟩ = false := by rw [World.frozen?_of_block (w := w4) (z6.block _ hlt4 hne)]; exact f0
  have f1' : w5.frozen? ⟨w.heap.size + 1 + 1, 1, none⟩ = false := by rw [World.frozen?_of_block (w := w4) (z6.block _ hlt4 hne)]; exact f1
  have HT := Lib.hid (ofWords_any g og cg l zs z1 w5 z5 z2 (by omega) (by rw [HL.out]; exact x1))
  rw [hv] at HT
  have HB5' := Lib.hid HB5
  clear r0 r1 f0 f1 hc4 hf4 hb4 hb4' hb3 hb3' hb2 hb z1 z2 z3 z4 z5 z6 HB5 hv
  go_wp2_with fail
  refine HT.out.mono ?_
  rintro e w6 ⟨s6, p6, l6, c6, rfl, h6, hb6⟩
  have H6 := Lib.hid h6; clear h6
  have r0 := wcell hb6 r0'; have r1 := wcell hb6 r1'
  have f0 := wfree hb6 r0' f0'; have f1 := wfree hb6 r1' f1'
  have HB6 := Lib.hid (below_step HB5'.out hb6)
  clear r0' r1' f0' f1' hb6
  go_wp2
  refine bodyPost_ret (v := .tuple #[.agg #[.int .u64 s6, .slice p6 l6 c6], .bool true]) (by simp [results, Tryz.results46, go_sem, r0, r1]) rfl (Or.inr ⟨HLE.out, s6, p6, l6, c6, rfl, H6.out.box r1, ?_⟩)
  exact (HB6.out.setCell (by show w.heap.size ≤ w.heap.size + 1 + 1; omega) _).setCell (by show w.heap.size ≤ w.heap.size + 1 + 1; omega) _

theorem sub_any (s t : Int) (p q : Option Addr) (l c k d m n : Nat) (w : World) (hm : (ds m).length ≤ 1000000) (h1 : IsN w s p l c m) (h2 : IsN w t q k d n) :
    Calls Tryz.prog 46 #[.agg #[.int .u64 s, .slice p l c], .agg #[.int .u64 t, .slice q k d]] w (RetSubN w m n) := by
  by_cases hlt : m < n
  · exact sub_lt s t p q l c k d m n w hlt hm h1 h2
  · rcases h1 with ⟨a1, rfl, rfl, rfl, rfl⟩ | ⟨a1, rfl, b, off, rfl, a3, a4, a5⟩
    · rcases h2 with ⟨b1, rfl, rfl, rfl, rfl⟩ | ⟨b1, _⟩
      · exact sub_ss m n a1 b1 (by omega) w
      · omega
    · exact sub_l t q b off l c k d m n w a3 a4 a5 hm (by omega) a1 h2
theorem RetSubN.lt {W w' : World} {m n : Nat} {e : Ending} (h : RetSubN W m n e w') (hlt : m < n) : e = .returned (.tuple #[.agg #[.int .u64 0, .slice none 0 0], .bool false]) ∧ Below W.heap.size W w' := by
  rcases h with ⟨_, h1, h2⟩ | ⟨h1, _⟩
  · exact ⟨h1, h2⟩
  · omega
theorem RetSubN.ge {W w' : World} {m n : Nat} {e : Ending} (h : RetSubN W m n e w') (hle : n ≤ m) : ∃ s p l c, e = .returned (.tuple #[.agg #[.int .u64 s, .slice p l c], .bool true]) ∧ IsN w' s p l c (m - n) ∧ Below W.heap.size W w' := by
  rcases h with ⟨h1, _⟩ | ⟨_, h⟩
  · omega
  · exact h
end Go.Proofs.YtfjjmhbffbhhdaaGreatDoor

/- Rows moved by bits. -/
namespace Go.Proofs.YtfjjmhbffbhhdaaGreatDoor
open Go.RowKit

theorem or_low {z m part : Nat} (hp : part < 64) (hz : z < 2 ^ part) (hm : m < 2 ^ 64) (hd : 2 ^ part ∣ m) : bits .or .u64 (z : Int) (m : Int) = ((z + m : Nat) : Int) := by
  have h1 : z < 2 ^ 64 := Nat.lt_of_lt_of_le hz (Nat.pow_le_pow_right (by omega) (by omega))
  rw [u64_or_nat z m (by omega) (by omega)]
  obtain ⟨q, rfl⟩ := hd
  rw [Nat.or_comm, ← Nat.two_pow_add_eq_or_of_lt hz, Nat.add_comm]

set_option maxRecDepth 100000 in
set_option maxHeartbeats 2000000 in
theorem shiftUp_any (bx ox cx lx n l : Nat) (xs : List Nat) (w : World) (hx : xs.length = lx) (h0 : 0 < lx) (hlx : lx ≤ 1000000) (hn : n ≤ 100000000) (hl : l = lx + n / 64 + 1) (h1 : At w .u64 bx ox xs) (hX : ∀ x ∈ xs, x < 2 ^ 64) :
    Calls Tryz.prog 92 #[.slice (some ⟨bx, ox, none⟩) lx cx, .int .i64 (n : Int)] w (RetP w l (val (2 ^ 64) xs * 2 ^ n)) := by
  have hbx : bx < w.heap.size := h1.lt (by omega)
  obtain ⟨skip, hs⟩ : ∃ s, s = n / 64 := ⟨_, rfl⟩
  obtain ⟨part, hp⟩ : ∃ p, p = n % 64 := ⟨_, rfl⟩
  have hmk := make_u64 l (by omega)
  have w1 : IntKind.i64.wrap ((n : Int).tdiv 64) = (skip : Int) := by rw [Int.tdiv_eq_ediv_of_nonneg (by omega), IntKind.wrap_i64]; omega
  have w1' : (n : Int) / 64 = (skip : Int) := by omega
  have w2 : (n : Int).tmod 64 = (part : Int) := by rw [Int.tmod_eq_emod_of_nonneg (by omega)]; omega
  have w2' : (n : Int) % 64 = (part : Int) := by omega
  have hq : (lx : Int) + skip + 1 = (l : Int) := by omega
  have hp64 : part < 64 := by omega
  have HN : Hid (n = 64 * skip + part) := Lib.hid (by omega)
  have HL : Hid (l = lx + skip + 1) := Lib.hid (by omega)
  have H1 := Lib.hid h1; have HX := Lib.hid hX; have HLX := Lib.hid hx; have HQ := Lib.hid hq; have HLL := Lib.hid hlx; have HNN := Lib.hid hn
  have hskip : skip ≤ 1562500 := by omega
  clear h1 hX hx hs hp hl hn
  go_enter Tryz.func92, Tryz.ntmps92
  go_wp2_with fail
  have A3 := At.made w .u64 l 23
  have F3 := Fr.made w .u64 l l 23
  have B3 : Below w.heap.size w (w.alloc (.cells (madeCells #[.int .u64 0] l) 23)) := below_alloc (Below.refl _ _) _
  have hz2 : w.heap.size < (w.alloc (.cells (madeCells #[.int .u64 0] l) 23)).heap.size := by simp
  obtain ⟨w3, hw3⟩ : ∃ w3, w3 = w.alloc (.cells (madeCells #[.int .u64 0] l) 23) := ⟨_, rfl⟩
  rw [← hw3] at A3 F3 B3 hz2 ⊢
  obtain ⟨g, hg⟩ : ∃ g, g = w.heap.size := ⟨_, rfl⟩
  have HG := Lib.hid hg
  rw [← hg] at A3 F3 hz2 hbx ⊢
  have HA3 := Lib.hid A3; have HF3 := Lib.hid F3; have HB3 := Lib.hid B3
  clear hw3 hg A3 F3 B3 hmk hq w1 w1' w2 w2'
  try rw [HQ.out]
  go_loopw [22] (fun i wr => ∃ k : Nat, k ≤ lx ∧ i = .int .i64 k ∧ ∃ L : List Nat, Hid (UpInv xs L skip part k) ∧ At wr .u64 g 0 L ∧ Only w3 wr g 0 l) (fun i _ => lx - (intOf i).toNat)
  case atStart =>
    have e : List.replicate l 0 = List.replicate (xs.length + skip + 1) 0 := by rw [HLX.out, HL.out]
    exact ⟨0, Nat.zero_le _, rfl, List.replicate l 0, Lib.hid (by rw [e]; exact UpInv.start _ _ _), HA3.out, Only.refl _ _ _ _⟩
  case round =>
    obtain ⟨k, hk, rfl, L, HI, hA, hO⟩ := hrel
    by_cases hlt : k < lx
    · have hLl : L.length = l := by rw [HI.out.len, HLX.out, HL.out]
      have hle := HL.out
      have hll := HLL.out
      have c2 := (((H1.out.mono HB3.out).only hO (by omega))) k (by rw [HLX.out]; omega)
      have c3 := hA.zero (skip + k) (by omega)
      have c4 := hA.zero (skip + k + 1) (by omega)
      have f3 := (HF3.out.only hO).zero (skip + k) (by omega)
      have f4 := (HF3.out.only hO).zero (skip + k + 1) (by omega)
      have hx1 := getD_lt HX.out (by omega) k
      obtain ⟨e1, e2, e3⟩ := up_digit hx1 hp64
      have hml : xs.getD k 0 * 2 ^ part % 2 ^ 64 < 2 ^ 64 := Nat.mod_lt _ (by omega)
      have wo := or_low hp64 HI.out.top hml e3
      have HN2 := Lib.hid (HI.out.step (by rw [HLX.out]; exact hlt) HX.out hp64)
      have HA2 := Lib.hid ((hA.drew.set (skip + k) (L.getD (skip + k) 0 + xs.getD k 0 * 2 ^ part % 2 ^ 64) (by omega)).set (skip + k + 1) (xs.getD k 0 / 2 ^ (64 - part)) (by rw [List.length_set]; omega))
      have wsh : IntKind.u64.wrap (((xs.getD k 0 : Nat) : Int) * 2 ^ part) = ((xs.getD k 0 * 2 ^ part % 2 ^ 64 : Nat) : Int) := by
        rw [show (((xs.getD k 0 : Nat) : Int) * 2 ^ part) = ((xs.getD k 0 * 2 ^ part : Nat) : Int) from by norm_cast]
        exact wrap_at (by omega)
      have wsr : ((xs.getD k 0 : Nat) : Int) / 2 ^ (64 - part) = ((xs.getD k 0 / 2 ^ (64 - part) : Nat) : Int) := by rw [Int.natCast_ediv, Int.natCast_pow]; rfl
      generalize xs.getD k 0 * 2 ^ part % 2 ^ 64 = lo at *
      generalize xs.getD k 0 / 2 ^ (64 - part) = hi at *
      generalize xs.getD k 0 = x at *
      generalize L.getD (skip + k) 0 = z at *
      have i1 : (0 : Int) ≤ k := by omega
      have i2 : (k : Int) < lx := by omega
      have i3 : (skip : Int) + k < l := by omega
      have i4 : (skip : Int) + k + 1 < l := by omega
      have hO2 := Lib.hid (hO.drew)
      have HLW := Lib.hid hLl
      clear hx1 hml e1 e2 e3 HI hle hll hLl
      go_wp2
      go_big_region
      go_wp2
      go_roundw
      case rel =>
        have hl2 := HLW.out
        have hle := HL.out
        refine ⟨k + 1, by omega, by go_num, _, HN2, ?_, (hO2.out.setCell _ (by omega) (by omega) _).setCell _ (by omega) (by omega) _⟩
        have := HA2.out
        rw [Nat.zero_add, Nat.zero_add] at this
        exact this
      case measure => simp [intOf]; omega
    · obtain rfl : k = lx := by omega
      have hI := HI.out
      have e1 := hI.sum
      have e2 := HLX.out
      rw [List.take_of_length_le (by omega), Nat.mul_assoc, ← Nat.pow_mul, ← Nat.pow_add, Nat.add_comm part, ← HN.out] at e1
      have hlen : L.length = l := by rw [hI.len, HL.out, HLX.out]
      have HE := Lib.hid e1
      clear e1 e2
      go_wp2
      go_ret
      exact ⟨g, L, _, rfl, hlen, Nat.le_refl _, hI.lt, HE.out, by rw [HG.out]; exact Nat.le_refl _, hA, HF3.out.only hO, HB3.out.trans (hO.below (by rw [HG.out]; exact Nat.le_refl _) (by rw [← HG.out]; omega))⟩

def RetDown (W : World) (L sh n : Nat) : Ending → World → Prop := fun e w' =>
  ∃ p l c zs, e = .returned (.slice p l c) ∧ zs.length = l ∧ l ≤ L ∧ (∀ x ∈ zs, x < 2 ^ 64) ∧ val (2 ^ 64) zs = n ∧ ((p = none ∧ l = 0 ∧ c = 0 ∧ 64 * L ≤ sh) ∨ ∃ b off, p = some ⟨b, off, none⟩ ∧ l ≤ c ∧ At w' .u64 b off zs) ∧ Below W.heap.size W w'

set_option maxRecDepth 100000 in
set_option maxHeartbeats 2000000 in
theorem shiftDown_any (bx ox cx lx n : Nat) (xs : List Nat) (w : World) (hx : xs.length = lx) (hc : lx ≤ cx) (hlx : lx ≤ 1000000) (hn : n ≤ 100000000) (h1 : At w .u64 bx ox xs) (hX : ∀ x ∈ xs, x < 2 ^ 64) :
    Calls Tryz.prog 95 #[.slice (some ⟨bx, ox, none⟩) lx cx, .int .i64 (n : Int)] w (RetDown w lx n (val (2 ^ 64) xs / 2 ^ n)) := by
  obtain ⟨skip, hs⟩ : ∃ s, s = n / 64 := ⟨_, rfl⟩
  obtain ⟨part, hp⟩ : ∃ p, p = n % 64 := ⟨_, rfl⟩
  have t1 : IntKind.i64.wrap ((n : Int).tdiv 64) = (skip : Int) := by rw [Int.tdiv_eq_ediv_of_nonneg (by omega), IntKind.wrap_i64]; omega
  have t1' : (n : Int) / 64 = (skip : Int) := by omega
  have t2 : (n : Int).tmod 64 = (part : Int) := by rw [Int.tmod_eq_emod_of_nonneg (by omega)]; omega
  have t2' : (n : Int) % 64 = (part : Int) := by omega
  have hp64 : part < 64 := by omega
  have hskip : skip ≤ 1562500 := by omega
  have HN : n = 64 * skip + part := by omega
  by_cases hlt : skip < lx
  · have hD := h1.drop skip
    have hDl : (xs.drop skip).length = lx - skip := by rw [List.length_drop]; omega
    have hDX : ∀ x ∈ xs.drop skip, x < 2 ^ 64 := fun x hx => hX x (List.mem_of_mem_drop hx)
    have hval : val (2 ^ 64) xs / 2 ^ n = val (2 ^ 64) (xs.drop skip) / 2 ^ part := by
      have e := val_split (2 ^ 64) xs skip (by omega)
      have e2 := val_take_lt (2 ^ 64) xs skip hX (by omega)
      rw [HN, Nat.pow_add, Nat.pow_mul, ← Nat.div_div_eq_div_mul]
      congr 1
      refine Nat.div_eq_of_lt_le ?_ ?_
      · rw [Nat.mul_comm]; omega
      · rw [Nat.mul_comm, Nat.mul_add]; omega
    obtain ⟨m, hm⟩ : ∃ m, m = lx - skip := ⟨_, rfl⟩
    have HT := Lib.hid (clone_any bx (ox + skip) (cx - skip) m (xs.drop skip) w (by omega) (by omega) hD)
    have HDX := Lib.hid hDX; have HDL := Lib.hid hDl
    have HM := Lib.hid (show m ≤ lx by omega)
    rw [hval]
    generalize xs.drop skip = z0 at *
    have i1 : ¬ (lx : Int) ≤ skip := by omega
    have i2 : (skip : Int) ≤ lx := by omega
    have i3 : (skip : Int) ≤ cx := by omega
    have i4 : (lx : Int) - skip = (m : Int) := by omega
    have i5 : (cx : Int) - skip = ((cx - skip : Nat) : Int) := by omega
    have i6 : lx - skip = m := by omega
    clear hs hp hval hD hDX hDl h1 hX hx hn HN hm
    go_enter Tryz.func95, Tryz.ntmps95
    go_wp2_with fail
    refine HT.out.mono ?_
    rintro e w1 ⟨g, og, cg, rfl, y1, y2, y3, y4, hb⟩
    have hL : z0.length = m := by rw [HDL.out, i6]
    rw [hL] at y1 y4 ⊢
    have HL := Lib.hid hL; have HA3 := Lib.hid y3; have HF3 := Lib.hid y4; have HB3 := Lib.hid hb; have HG := Lib.hid y2; have HCG := Lib.hid y1
    have hmb : m ≤ 1000000 := by omega
    clear y1 y2 y3 y4 hb hL HT i1 i2 i3 i4 i5 i6 t1 t1' t2 t2'
    go_wp2_with fail
    go_loopw [23] (fun i wr => ∃ k : Nat, k ≤ m ∧ i = .int .i64 k ∧ ∃ L : List Nat, Hid (DownInv z0 L part k) ∧ At wr .u64 g og L ∧ Only w1 wr g og m) (fun i _ => m - (intOf i).toNat)
    case atStart => exact ⟨0, Nat.zero_le _, rfl, z0, Lib.hid (DownInv.start _ _ HDX.out), HA3.out, Only.refl _ _ _ _⟩
    case round =>
      obtain ⟨k, hk, rfl, L, HI, hA, hO⟩ := hrel
      have hLl : L.length = m := by rw [HI.out.len, HL.out]
      by_cases hlt2 : k < m
      · have c1 := hA k (by omega)
        have f1 := (HF3.out.only hO) k (by omega)
        have e0 := getD_of_drop HI.out.rest (by rw [hLl, HL.out])
        have e1 := getD_of_drop (drop_succ_of HI.out.rest) (by rw [hLl, HL.out])
        have hx1 := getD_lt HDX.out (by omega) k
        have hfit := down_fits (y := z0.getD (k + 1) 0) hx1 hp64
        have hdd := down_digit (y := z0.getD (k + 1) 0) hp64
        have HN2 := Lib.hid (HI.out.step (by rw [HL.out]; exact hlt2) HDX.out hp64)
        rw [e0] at c1
        have HLW := Lib.hid hLl
        have i1 : (0 : Int) ≤ k := by omega
        have i2 : (k : Int) < m := by omega
        have wsr : ((z0.getD k 0 : Nat) : Int) / 2 ^ part = ((z0.getD k 0 / 2 ^ part : Nat) : Int) := by rw [Int.natCast_ediv, Int.natCast_pow]; rfl
        have hA2 := hA.set k (z0.getD k 0 / 2 ^ part) (by omega)
        have hO2 := hO.setCell (og + k) (by omega) (by omega) (.int .u64 ((z0.getD k 0 / 2 ^ part : Nat) : Int))
        by_cases hlast : k + 1 < m
        · have c2 := hA2 (k + 1) (by rw [List.length_set]; omega)
          have e2 : (L.set k (z0.getD k 0 / 2 ^ part)).getD (k + 1) 0 = z0.getD (k + 1) 0 := by
            simp only [List.getD] at e1 ⊢
            rw [List.getElem?_set_ne (by omega)]; exact e1
          rw [e2] at c2
          have wsl : IntKind.u64.wrap (((z0.getD (k + 1) 0 : Nat) : Int) * 2 ^ (64 - part)) = ((z0.getD (k + 1) 0 % 2 ^ part * 2 ^ (64 - part) : Nat) : Int) := by
            rw [show (((z0.getD (k + 1) 0 : Nat) : Int) * 2 ^ (64 - part)) = ((z0.getD (k + 1) 0 * 2 ^ (64 - part) : Nat) : Int) from by norm_cast]
            exact wrap_at (by omega)
          have wo : bits .or .u64 ((z0.getD k 0 / 2 ^ part : Nat) : Int) ((z0.getD (k + 1) 0 % 2 ^ part * 2 ^ (64 - part) : Nat) : Int) = ((z0.getD k 0 / 2 ^ part + z0.getD (k + 1) 0 % 2 ^ part * 2 ^ (64 - part) : Nat) : Int) := by
            have h1 := hfit.2
            rw [u64_or_nat _ _ (by omega) (by omega), Nat.mul_comm, Nat.or_comm, ← Nat.two_pow_add_eq_or_of_lt hfit.1, Nat.add_comm]
          have hA3 := Lib.hid (hA2.drew.set k (z0.getD k 0 / 2 ^ part + z0.getD (k + 1) 0 % 2 ^ part * 2 ^ (64 - part)) (by rw [List.length_set]; omega))
          rw [List.set_set] at hA3
          have hO3 := Lib.hid (hO2.drew.setCell (og + k) (by omega) (by omega) (.int .u64 ((z0.getD k 0 / 2 ^ part + z0.getD (k + 1) 0 % 2 ^ part * 2 ^ (64 - part) : Nat) : Int)))
          generalize z0.getD k 0 / 2 ^ part + z0.getD (k + 1) 0 % 2 ^ part * 2 ^ (64 - part) = t at *
          generalize z0.getD (k + 1) 0 % 2 ^ part * 2 ^ (64 - part) = b at *
          generalize z0.getD (k + 1) 0 = y at *
          generalize z0.getD k 0 / 2 ^ part = a at *
          generalize z0.getD k 0 = x at *
          have i3 : (k : Int) + 1 < m := by omega
          clear hfit hdd e0 e1 e2 hx1 HI hLl hO hO2 hA2 hA
          go_wp2
          go_big_region
          go_wp2
          go_roundw
          case rel => exact ⟨k + 1, by omega, by go_num, _, HN2, hA3.out, hO3.out⟩
          case measure => simp [intOf]; omega
        · have ey : z0.getD (k + 1) 0 = 0 := by
            have := HL.out
            simp [List.getD, List.getElem?_eq_none (by omega : z0.length ≤ k + 1)]
          rw [ey, Nat.zero_mod, Nat.zero_mul, Nat.add_zero] at HN2
          have HA2 := Lib.hid hA2; have HO2 := Lib.hid hO2
          generalize z0.getD k 0 / 2 ^ part = a at *
          generalize z0.getD k 0 = x at *
          have i3 : ¬ (k : Int) + 1 < m := by omega
          clear hfit hdd e0 e1 ey hx1 HI hLl hO hO2 hA2 hA
          go_wp2
          go_roundw
          case rel => exact ⟨k + 1, by omega, by go_num, _, HN2, HA2.out, HO2.out⟩
          case measure => simp [intOf]; omega
      · obtain rfl : k = m := by omega
        have hd := HI.out.lt
        have hv := (show DownInv z0 L part z0.length from by rw [HL.out]; exact HI.out).done
        have HV := Lib.hid hv; have HD := Lib.hid hd; have HLW := Lib.hid hLl
        clear hv hd hLl HI
        go_wp2
        go_ret
        exact ⟨some ⟨g, og, none⟩, _, _, L, rfl, HLW.out, HM.out, HD.out, HV.out, Or.inr ⟨g, og, rfl, HCG.out, hA⟩, HB3.out.trans (hO.below HG.out HB3.out.size)⟩
  · have hz : val (2 ^ 64) xs / 2 ^ n = 0 := by
      refine Nat.div_eq_of_lt (Nat.lt_of_lt_of_le (val_lt (2 ^ 64) xs hX) ?_)
      rw [hx, ← Nat.pow_mul]
      exact Nat.pow_le_pow_right (by omega) (by omega)
    rw [hz]
    have i1 : (lx : Int) ≤ skip := by omega
    have HFAR := Lib.hid (show 64 * lx ≤ n by omega)
    clear hs hp h1 hX hn HN hz hx
    go_enter Tryz.func95, Tryz.ntmps95
    go_wp2
    go_ret
    exact ⟨none, 0, 0, [], rfl, rfl, Nat.zero_le _, fun x hx => by simp at hx, rfl, Or.inl ⟨rfl, rfl, rfl, HFAR.out⟩, Below.refl _ _⟩
end Go.Proofs.YtfjjmhbffbhhdaaGreatDoor
