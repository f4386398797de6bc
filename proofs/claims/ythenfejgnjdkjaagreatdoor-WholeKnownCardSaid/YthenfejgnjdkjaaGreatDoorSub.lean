/- Differences of the program's numbers. -/
import Derived.Test.YthenfejgnjdkjaaGreatDoorArith
import Derived.Test.YthenfejgnjdkjaaGreatDoorSubFrom
import Derived.Test.YthenfejgnjdkjaaGreatDoorCmp
namespace Go.Proofs.YthenfejgnjdkjaaGreatDoor
open Go.RowKit

theorem clone_any (b off c l : Nat) (xs : List Nat) (w : World) (hl : xs.length = l) (hl2 : l ≤ 1000000) (h : At w .u64 b off xs) :
    Calls Tryz.prog 38 #[.slice (some ⟨b, off, none⟩) l c] w (RetW w .u64 xs) := by
  obtain ⟨i0, hi, hz0, hz1, hz2⟩ := info_parts Tryz.infoU64
  have hn : l ≤ maxLen := by unfold maxLen; omega
  refine (Tryz.slices_Clone i0 _ 1 8 hi hz0 hz1 hz2 rfl (by omega) Tryz.sizeOf22 b off l c (cellsOfRow .u64 xs) w (by simp [cellsOfRow, hl]) hn (by omega) (fun j u hj => ?_) (fun u hu => ?_)).mono ?_
  · have hjl : j < xs.length := by
      rcases Nat.lt_or_ge j xs.length with h | h
      · exact h
      · rw [List.getElem?_eq_none (by simpa [cellsOfRow] using h)] at hj; cases hj
    rw [h j hjl, ← hj]
    simp [cellsOfRow, List.getD, hjl]
  · simp only [cellsOfRow, List.mem_map] at hu
    obtain ⟨x, _, rfl⟩ := hu
    rfl
  · rintro e w' ⟨v, rfl, hown, hnn, hb⟩
    have h1 := hown.2
    rcases h1 with ⟨h1, _⟩ | ⟨g, cap, cur, rfl, hg, _, hcap, _, _, _⟩
    · exact absurd h1 hnn
    · refine ⟨g, 0, cap, by rw [hl], by omega, hg, fun i hi => ?_, fun i _ => ?_, hb⟩
      · rw [Nat.zero_add, World.ownsRow.cellAt hown i (by omega)]
        simp [cellsOfRow, List.getD, hi]
      · rw [Nat.zero_add]; exact World.ownsRow.frozenAt hown i

def RetL2 (W : World) (p : Option Addr) (xs : List Nat) : Ending → World → Prop := fun e w' =>
  ∃ b off c, e = .returned (.slice (some ⟨b, off, none⟩) xs.length c) ∧ xs.length ≤ c ∧ At w' .u64 b off xs ∧ (W.heap.size ≤ b ∨ p = some ⟨b, off, none⟩) ∧ Below W.heap.size W w'

set_option maxHeartbeats 400000 in
theorem list2_any (n : Nat) (s : Int) (p : Option Addr) (l c : Nat) (w : World) (h : IsN w s p l c n) :
    Calls Tryz.prog 34 #[.agg #[.int .u64 s, .slice p l c]] w (RetL2 w p (ds n)) := by
  rcases h with ⟨h1, rfl, rfl, rfl, rfl⟩ | ⟨h1, rfl, b, off, rfl, h4, h5, h6⟩
  · have H := Lib.hid (ds_small h1)
    clear h1
    go_enter Tryz.func34, Tryz.ntmps34
    go_wp2_with (go_at_call 36; refine (short_yes _ _ _ _).mono ?_; rintro e w1 ⟨rfl, hb⟩; obtain ⟨hc, hf⟩ := bcell hb)
    go_ret
    rw [H.out]
    have hz := hb.size
    rw [World.size_alloc] at hz
    exact ⟨_, _, _, rfl, by simp, At.new1 _ _ _ _, Or.inl (by omega), (by repeat' first | exact Below.refl _ _ | refine below_alloc ?_ _ | refine below_step ?_ (by assumption))⟩
  · have h0 : 0 < l := by rw [h4]; exact ds_pos n
    have H := Lib.hid h4
    have H6 := Lib.hid h6
    clear h4 h6 h1
    go_enter Tryz.func34, Tryz.ntmps34
    go_wp2_with (go_at_call 36; refine (short_no _ _ _ _ h0 _).mono ?_; rintro e w1 ⟨rfl, hb⟩; obtain ⟨hc, hf⟩ := bcell hb)
    go_ret
    have HB : Below w.heap.size w w1 := (by repeat' first | exact Below.refl _ _ | refine below_alloc ?_ _ | refine below_step ?_ (by assumption))
    exact ⟨b, off, c, ret_slice H.out, by rw [← H.out]; exact h5, H6.out.mono HB, Or.inr rfl, HB⟩

def RetSubN (W : World) (m n : Nat) : Ending → World → Prop := fun e w' =>
  (m < n ∧ e = .returned (.tuple #[.agg #[.int .u64 0, .slice none 0 0], .bool false]) ∧ Below W.heap.size W w') ∨
  (n ≤ m ∧ ∃ s p l c, e = .returned (.tuple #[.agg #[.int .u64 s, .slice p l c], .bool true]) ∧ IsN w' s p l c (m - n) ∧ Below W.heap.size W w')

set_option maxHeartbeats 400000 in
theorem sub_lt (s t : Int) (p q : Option Addr) (l c k d m n : Nat) (w : World) (hlt : m < n) (hm : (ds m).length ≤ 1000000) (h1 : IsN w s p l c m) (h2 : IsN w t q k d n) :
    Calls Tryz.prog 22 #[.agg #[.int .u64 s, .slice p l c], .agg #[.int .u64 t, .slice q k d]] w (RetSubN w m n) := by
  have H1 := Lib.hid h1; have H2 := Lib.hid h2; have HLT := Lib.hid hlt; clear h1 h2 hlt
  go_enter Tryz.func22, Tryz.ntmps22
  go_wp2_with fail
  refine (cmp_any _ _ _ _ _ _ _ _ m n _ (H1.out.mono (by repeat' first | exact Below.refl _ _ | refine below_alloc ?_ _)) (H2.out.mono (by repeat' first | exact Below.refl _ _ | refine below_alloc ?_ _)) (by omega)).mono ?_
  rintro e w1 ⟨rfl, hb⟩
  rw [cmp3_lt (by exact_mod_cast HLT.out)]
  obtain ⟨hc, hf⟩ := bcell hb
  have HB : Below w.heap.size w w1 := (by repeat' first | exact Below.refl _ _ | refine below_alloc ?_ _ | refine below_step ?_ (by assumption))
  go_wp2
  exact bodyPost_ret (v := .tuple #[.agg #[.int .u64 0, .slice none 0 0], .bool false]) (by simp [results, Tryz.results22, go_sem, hc]) rfl (Or.inl ⟨HLT.out, rfl, (by repeat' first | exact HB | (refine Below.setCell ?_ (by simp; omega) _))⟩)

set_option maxHeartbeats 400000 in
theorem sub_ss (m n : Nat) (hm : m < 2 ^ 64) (hn : n < 2 ^ 64) (hle : n ≤ m) (w : World) :
    Calls Tryz.prog 22 #[.agg #[.int .u64 (m : Int), .slice none 0 0], .agg #[.int .u64 (n : Int), .slice none 0 0]] w (RetSubN w m n) := by
  have HM := Lib.hid hm; have HN := Lib.hid hn; have HLE := Lib.hid hle
  have h0 : 0 ≤ cmp3 m n := by unfold cmp3; rw [if_neg (by omega)]; split <;> omega
  have hw : IntKind.u64.wrap ((m : Int) - n) = ((m - n : Nat) : Int) := by rw [IntKind.wrap_u64]; omega
  clear hm hn hle
  go_enter Tryz.func22, Tryz.ntmps22
  go_wp2_with fail
  refine (cmp_any _ _ _ _ _ _ _ _ m n _ (.short HM.out) (.short HN.out) (by rw [ds_one HM.out]; omega)).mono ?_
  rintro e w1 ⟨rfl, hb⟩
  obtain ⟨hc, hf⟩ := bcell hb
  have hz : w.heap.size + 1 < w1.heap.size := by have := hb.size; simp at this; omega
  go_wp2_with fail
  refine (short_yes _ _ _ _).mono ?_
  rintro e w2 ⟨rfl, hb2⟩
  replace hb2 := below_step hb hb2
  obtain ⟨hc2, hf2⟩ := bcell hb2
  clear hc hf
  go_wp2_with fail
  refine (of_any _ _).mono ?_
  rintro e w3 ⟨rfl, hb3⟩
  replace hb3 := below_step hb2 hb3
  obtain ⟨hc3, hf3⟩ := bcell hb3
  have HB : Below w.heap.size w w3 := (by repeat' first | exact Below.refl _ _ | refine below_alloc ?_ _ | refine below_step ?_ (by assumption))
  go_wp2
  have h3 := HM.out
  exact bodyPost_ret (v := .tuple #[.agg #[.int .u64 ((m - n : Nat) : Int), .slice none 0 0], .bool true]) (by simp [results, Tryz.results22, go_sem, hc3]) rfl (Or.inr ⟨HLE.out, _, _, _, _, rfl, .short (by omega), (by repeat' first | exact HB | (refine Below.setCell ?_ (by simp; omega) _))⟩)

set_option maxHeartbeats 1000000 in
theorem sub_l (t : Int) (q : Option Addr) (b off l c k d m n : Nat) (w : World) (hl : l = (ds m).length) (hlc : l ≤ c) (ha : At w .u64 b off (ds m)) (hm : (ds m).length ≤ 1000000) (hle : n ≤ m) (hm2 : 2 ^ 64 ≤ m) (h2 : IsN w t q k d n) :
    Calls Tryz.prog 22 #[.agg #[.int .u64 0, .slice (some ⟨b, off, none⟩) l c], .agg #[.int .u64 t, .slice q k d]] w (RetSubN w m n) := by
  have h1 : IsN w 0 (some ⟨b, off, none⟩) l c m := Or.inr ⟨hm2, rfl, b, off, rfl, hl, hlc, ha⟩
  have hl0 : 0 < l := by rw [hl]; exact ds_pos m
  have hll : l ≤ 1000000 := by omega
  have H1 := Lib.hid h1; have H2 := Lib.hid h2; have HLE := Lib.hid hle; have HA := Lib.hid ha; have HL := Lib.hid hl
  have h0 : 0 ≤ cmp3 m n := by unfold cmp3; rw [if_neg (by omega)]; split <;> omega
  have hbl : b < w.heap.size := ha.lt (ds_pos m)
  clear h1 h2 hle ha hl hm2
  go_enter Tryz.func22, Tryz.ntmps22
  go_wp2_with fail
  refine (cmp_any _ _ _ _ _ _ _ _ m n _ (H1.out.mono (by repeat' first | exact Below.refl _ _ | refine below_alloc ?_ _)) (H2.out.mono (by repeat' first | exact Below.refl _ _ | refine below_alloc ?_ _)) (by omega)).mono ?_
  rintro e w1 ⟨rfl, hb⟩
  obtain ⟨hc, hf⟩ := bcell hb
  have hz : w.heap.size + 1 < w1.heap.size := by have := hb.size; simp at this; omega
  go_wp2_with fail
  refine (short_no _ _ _ _ hl0 _).mono ?_
  rintro e w2 ⟨rfl, hb2⟩
  replace hb2 := below_step hb hb2
  obtain ⟨hc2, hf2⟩ := bcell hb2
  clear hc hf
  have HB2 : Below w.heap.size w w2 := (by repeat' first | exact Below.refl _ _ | refine below_alloc ?_ _ | refine below_step ?_ (by assumption))
  go_wp2_with fail
  refine (clone_any b off c l (ds m) w2 HL.out.symm hll (HA.out.mono HB2)).mono ?_
  rintro e w3 ⟨g, og, cg, rfl, x1, x2, x3, x4, hb3'⟩
  have hb3 := below_step hb2 hb3'
  obtain ⟨hc3, hf3⟩ := bcell hb3
  clear hc2 hf2
  have HB3 : Below w.heap.size w w3 := below_step HB2 hb3'
  have X3 := Lib.hid x3; have X4 := Lib.hid x4
  clear x3 x4
  have hz3 : w.heap.size + 1 + 1 < w3.heap.size := by have := hb3.size; simp at this; omega
  have hg2 : w2.heap.size ≤ g := x2
  rw [← HL.out]
  go_wp2_with fail
  refine (list2_any n t q k d w3 (H2.out.mono HB3)).mono ?_
  rintro e w4 ⟨bn, on, cn, rfl, y1, y2, y3, hb4'⟩
  have hb4 := below_step hb3 hb4'
  obtain ⟨hc4, hf4⟩ := bcell hb4
  clear hc3 hf3
  have HB4 : Below w.heap.size w w4 := below_step HB3 hb4'
  have X3' := Lib.hid (X3.out.mono hb4')
  have hgl : g < w3.heap.size := X3.out.lt (by rw [← HL.out]; exact hl0)
  have X4' := Lib.hid (X4.out.mono hb4' hgl)
  have hgw : w.heap.size + 1 + 1 < g := by have := hb2.size; simp at this; omega
  go_wp2_with fail
  have hbn : bn ≠ g := by
    rcases y3 with h | h
    · omega
    · rcases H2.out with ⟨_, _, h3, _⟩ | ⟨_, _, b', off', h3, _, _, h6⟩
      · rw [h3] at h; cases h
      · rw [h3] at h
        injection h with h
        injection h with h
        have := h6.lt (ds_pos n)
        omega
  refine (subFrom_any g og cg bn on cn l (ds n).length (ds m) (ds n) w4 HL.out.symm rfl (by rw [HL.out]; exact ds_mono HLE.out) (by omega) hbn X3'.out (by rw [HL.out]; exact X4'.out) y2 (ds_lt m) (ds_lt n)).mono ?_
  rintro e w5 ⟨rfl, zs, cc, z1, z2, z3, z4, z5, z6⟩
  have hv : val (2 ^ 64) zs = m - n := by
    rw [val_ds, val_ds] at z4
    have h1 := val_lt _ zs z2
    rw [z1] at h1
    have h2 := lt_ds m
    rw [← HL.out] at h2
    have h3 := HLE.out
    generalize (2 ^ 64) ^ l = P at *
    have hcc : cc = 0 ∨ cc = 1 := by omega
    rcases hcc with rfl | rfl
    · omega
    · omega
  have hgs : w.heap.size ≤ g := by omega
  have HB5 : Below w.heap.size w w5 := HB4.trans (z6.below hgs HB4.size)
  have r0 : w4.cell? ⟨w.heap.size + 1 + 1, 0, none⟩ = some (.int .u64 0) := by simp [hc4, go_sem]
  have r1 : w4.cell? ⟨w.heap.size + 1 + 1, 1, none⟩ = some (.slice none 0 0) := by simp [hc4, go_sem]
  have f0 : w4.frozen? ⟨w.heap.size + 1 + 1, 0, none⟩ = false := by simp [hf4, go_sem]
  have f1 : w4.frozen? ⟨w.heap.size + 1 + 1, 1, none⟩ = false := by simp [hf4, go_sem]
  have hne : w.heap.size + 1 + 1 ≠ g := by omega
  have hlt4 : w.heap.size + 1 + 1 < w4.heap.size := World.block_lt_of_cell? _ _ r0
  have r0' : w5.cell? ⟨w.heap.size + 1 + 1, 0, none⟩ = some (.int .u64 0) := by rw [World.cell?_of_block (w := w4) (z6.block _ hlt4 hne)]; exact r0
  have r1' : w5.cell? ⟨w.heap.size + 1 + 1, 1, none⟩ = some (.slice none 0 0) := by rw [World.cell?_of_block (w := w4) (z6.block _ hlt4 hne)]; exact r1
  have f0' : w5.frozen? ⟨w.heap.size + 1 + 1, 0, none⟩ = false := by rw [World.frozen?_of_block (w := w4) (z6.block _ hlt4 hne)]; exact f0
  have f1' : w5.frozen? ⟨w.heap.size + 1 + 1, 1, none⟩ = false := by rw [World.frozen?_of_block (w := w4) (z6.block _ hlt4 hne)]; exact f1
  have HT := Lib.hid (ofWords_any g og cg l zs z1 w5 z5 z2 (by omega) (by rw [HL.out]; exact x1))
  rw [hv] at HT
  have HB5' := Lib.hid HB5
  clear r0 r1 f0 f1 hc4 hf4 hb4 hb4' hb3 hb3' hb2 hb z1 z2 z3 z4 z5 z6 HB5 hv
  go_wp2_with fail
  refine HT.out.mono ?_
  rintro e w6 ⟨s6, p6, l6, c6, rfl, h6, hb6⟩
  have H6 := Lib.hid h6; clear h6
  have r0 := wcell hb6 r0'; have r1 := wcell hb6 r1'
  have f0 := wfree hb6 r0' f0'; have f1 := wfree hb6 r1' f1'
  have HB6 := Lib.hid (below_step HB5'.out hb6)
  clear r0' r1' f0' f1' hb6
  go_wp2
  refine bodyPost_ret (v := .tuple #[.agg #[.int .u64 s6, .slice p6 l6 c6], .bool true]) (by simp [results, Tryz.results22, go_sem, r0, r1]) rfl (Or.inr ⟨HLE.out, s6, p6, l6, c6, rfl, H6.out.box r1, ?_⟩)
  exact (HB6.out.setCell (by show w.heap.size ≤ w.heap.size + 1 + 1; omega) _).setCell (by show w.heap.size ≤ w.heap.size + 1 + 1; omega) _

theorem sub_any (s t : Int) (p q : Option Addr) (l c k d m n : Nat) (w : World) (hm : (ds m).length ≤ 1000000) (h1 : IsN w s p l c m) (h2 : IsN w t q k d n) :
    Calls Tryz.prog 22 #[.agg #[.int .u64 s, .slice p l c], .agg #[.int .u64 t, .slice q k d]] w (RetSubN w m n) := by
  by_cases hlt : m < n
  · exact sub_lt s t p q l c k d m n w hlt hm h1 h2
  · rcases h1 with ⟨a1, rfl, rfl, rfl, rfl⟩ | ⟨a1, rfl, b, off, rfl, a3, a4, a5⟩
    · rcases h2 with ⟨b1, rfl, rfl, rfl, rfl⟩ | ⟨b1, _⟩
      · exact sub_ss m n a1 b1 (by omega) w
      · omega
    · exact sub_l t q b off l c k d m n w a3 a4 a5 hm (by omega) a1 h2
theorem RetSubN.lt {W w' : World} {m n : Nat} {e : Ending} (h : RetSubN W m n e w') (hlt : m < n) : e = .returned (.tuple #[.agg #[.int .u64 0, .slice none 0 0], .bool false]) ∧ Below W.heap.size W w' := by
  rcases h with ⟨_, h1, h2⟩ | ⟨h1, _⟩
  · exact ⟨h1, h2⟩
  · omega
theorem RetSubN.ge {W w' : World} {m n : Nat} {e : Ending} (h : RetSubN W m n e w') (hle : n ≤ m) : ∃ s p l c, e = .returned (.tuple #[.agg #[.int .u64 s, .slice p l c], .bool true]) ∧ IsN w' s p l c (m - n) ∧ Below W.heap.size W w' := by
  rcases h with ⟨h1, _⟩ | ⟨_, h⟩
  · omega
  · exact h
end Go.Proofs.YthenfejgnjdkjaaGreatDoor
