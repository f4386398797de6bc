/- A list in ascending order: slices.Sorted over slices.Values. -/
import Derived.Test.YtfjjmhbffbhhdaaPt2
import Derived.Shelf.Slices.In.SortNone
import Derived.RangeFuncNested
import Derived.RangeFuncBound
import Derived.RangeFuncCalls
import Derived.RangeFuncLeaves
import Derived.Shelf.Abstract
import Derived.Shelf.RegionOpen
import Derived.OwnWalkIn
import Derived.TacticsInMore
import Derived.LoopNIn
import Derived.LoopIn
namespace Go.Proofs.Ytfjjmhbffbhhdaa
open Go.RowKit Go.Shelf
attribute [local go_sem] Oper.semAt_some

theorem take_snoc (xs : List Nat) (k : Nat) (hk : k < xs.length) : xs.take k ++ [xs.getD k 0] = xs.take (k + 1) := by
  rw [List.take_add_one, List.getD_eq_getElem?_getD]; simp [hk]

set_option maxRecDepth 100000 in
set_option maxHeartbeats 2000000 in
/-- The library's walk over a slice, for every body that keeps what lay below n0. -/
theorem vals1_in (F : Fence) (n : Nat) (hF : F.fn 39) (hro : F.round = none) (hn : 1 ≤ n) (l Bs n0 b off cap len : Nat) (xs : List Nat) (hl : xs.length = len) (hreach : len ≤ 1000000) (hb : b < n0) (J Jx : List Nat → World → Prop)
    (hY : ∀ pre (x : Nat) W, J pre W → pre.length < len → YieldAt F (n - 1) Try.prog l #[.int .i64 (x : Int)] W fun e W' =>
      (e = .returned (.bool true) ∧ J (pre ++ [x]) W' ∧ Below n0 W W') ∨ (e = .returned (.bool false) ∧ Jx (pre ++ [x]) W'))
    (W : World) (hBs : W.cell? ⟨Bs, 0, none⟩ = some (.slice (some ⟨b, off, none⟩) len cap)) (hc : At W .i64 b off xs) (h0 : J [] W) :
    CallsIn F n Try.prog 39 #[.func (.yield l) #[] #[], .pointer (some ⟨Bs, 0, none⟩)] W fun e W' => (∃ v, e = .returned v) ∧
      ((∃ ys, ys = xs ∧ J ys W') ∨ (∃ pre, pre <+: xs ∧ Jx pre W')) := by
  have HC := Lib.hid hc; have HL := Lib.hid hl
  clear hc hl
  refine callsIn_of_wp Try.func39 rfl hF ?_ hro
  simp only [Try.ntmps39, List.size_toArray, List.length_cons, List.length_nil, Nat.reduceAdd, Nat.reduceSub, Array.replicate_succ, Array.replicate_zero, List.push_toArray, List.append_toArray, List.nil_append, List.cons_append]
  gi_wp2
  gi_loopw [7] (fun i wr => ∃ k : Nat, k ≤ len ∧ i = .int .i64 k ∧ J (xs.take k) wr ∧ Hid (Below n0 W wr)) (fun i _ => len - (intOf i).toNat)
  case atStart => exact ⟨0, Nat.zero_le _, rfl, h0, Below.refl _ _⟩
  case round =>
    obtain ⟨k, hk, rfl, hJs, HB⟩ := hrel
    by_cases hlt : k < len
    · have hcell : wr.cell? ⟨b, off + k, none⟩ = some (.int .i64 ((xs.getD k 0 : Nat) : Int)) := (HB.out.cell (p := ⟨b, off + k, none⟩) hb).trans (HC.out k (by rw [HL.out]; exact hlt))
      have hs := take_snoc xs k (by rw [HL.out]; exact hlt)
      obtain ⟨x, hx⟩ : ∃ x, x = xs.getD k 0 := ⟨_, rfl⟩
      rw [← hx] at hcell hs
      obtain ⟨fn, tmps, assign, body, hy, hR⟩ := hY _ x wr hJs (by rw [List.length_take]; omega)
      rw [hs] at hR
      clear hx hs
      have i1 : (0 : Int) ≤ k := by omega
      have i2 : (k : Int) < len := by omega
      gi_wp2
      refine hR.mono ?_
      rintro e W3 (⟨rfl, hJ3, hk3⟩ | ⟨rfl, hJx3⟩)
      · gi_wp2
        go_roundw
        case rel => exact ⟨k + 1, by omega, by simp, hJ3, HB.out.trans hk3⟩
        case measure => simp [intOf]; omega
      · gi_wp2
        refine bodyPost_ret (results_none rfl _ _ _) rfl ?_
        exact ⟨⟨_, rfl⟩, .inr ⟨_, List.take_prefix _ _, hJx3⟩⟩
    · obtain rfl : k = len := by omega
      rw [List.take_of_length_le (by rw [HL.out]; exact Nat.le_refl _)] at hJs
      gi_wp2
      go_end0
      exact ⟨⟨_, rfl⟩, .inl ⟨_, rfl, hJs⟩⟩

theorem vals_stops (F : Fence) (n : Nat) (hF : F.fn 39) (hro : F.round = none) (hn : 1 ≤ n) (Bs n0 b off cap len : Nat) (xs : List Nat) (hl : xs.length = len) (hreach : len ≤ 1000000) (hb : b < n0) (w : World)
    (hBs : w.cell? ⟨Bs, 0, none⟩ = some (.slice (some ⟨b, off, none⟩) len cap)) (hc : At w .i64 b off xs) :
    SeqStopsK F n Try.prog 39 #[.pointer (some ⟨Bs, 0, none⟩)] (fun x : Nat => #[Value.int .i64 (x : Int)]) (Below n0) (fun ys => ys = xs) (fun pre => pre <+: xs) len w := fun l J Jx W hW _ _ hY h0 =>
  vals1_in F n hF hro hn l Bs n0 b off cap len xs hl hreach hb J Jx hY W ((hW.cell (p := ⟨Bs, 0, none⟩) (World.block_lt_of_cell? _ _ hBs)).trans hBs) (hc.mono hW) h0

/-- What the collected row keeps. -/
def ColI (w : World) (pre : List Nat) (W : World) : Prop :=
  (∃ v, (W.cell? ⟨w.heap.size, 0, none⟩ = some v ∧ W.frozen? ⟨w.heap.size, 0, none⟩ = false) ∧ W.ownsRow (w.heap.size + 1) 3 1 v pre.length (cellsOfRow .i64 pre)) ∧ Below w.heap.size w W

theorem ownsRow_kept {A B : World} {row : Option Nat} {base : Nat} {e : TypeId} {v : Value} {k : Nat} {xs : List Value} (h : A.ownsRow base e 1 v k xs) (hg : A.grownBy B row) (hr : ∀ r, row = some r → ∃ o : Obj, A.heap[r]? = some o ∧ o.isCells = false) : B.ownsRow base e 1 v k xs := by
  refine h.kept hg ?_
  rcases h.2 with ⟨rfl, _⟩ | ⟨g, cap, cur, rfl, _, hgb, _⟩
  · exact .inl rfl
  · refine .inr fun e' => ?_
    obtain ⟨o, ho, hc⟩ := hr g e'.symm
    rw [hgb] at ho; cases ho; cases hc
theorem ownsRow_cells {A : World} {base : Nat} {e : TypeId} {v : Value} {k : Nat} {xs : List Value} (h : A.ownsRow base e 1 v k xs) : ∀ (j : Nat) (o : Obj), v.ownBlock = some j → A.heap[j]? = some o → o.isCells = true := by
  intro j o hj ho
  rcases h.2 with ⟨rfl, _⟩ | ⟨g, cap, cur, rfl, _, hgb, _⟩
  · cases hj
  · cases hj; rw [hgb] at ho; cases ho; rfl
theorem colI_own (w : World) (B : Nat) (hB : w.heap.size ≤ B) : OwnFrom B (ColI w) := by
  rintro pre A C row ⟨⟨v, hs, ho⟩, hb⟩ hg hr
  have hr' : ∀ r, row = some r → ∃ o : Obj, A.heap[r]? = some o ∧ o.isCells = false := fun r e => (hr r e).2
  exact ⟨⟨v, ⟨cell_kept hs.1 hg hr', (frozen_kept hs.1 hg hr').trans hs.2⟩, ownsRow_kept ho hg hr'⟩, hb.grown hg hb.size (fun k e => Nat.le_trans hB (hr k e).1)⟩

set_option maxRecDepth 100000 in
set_option maxHeartbeats 2000000 in
/-- slices.AppendSeq to none, over the walk. -/
theorem aseq_any (Bs b off cap len : Nat) (xs : List Nat) (hl : xs.length = len) (hreach : len ≤ 1000000) (w : World) (hb : b < w.heap.size) (hBs : w.cell? ⟨Bs, 0, none⟩ = some (.slice (some ⟨b, off, none⟩) len cap)) (hc : At w .i64 b off xs) :
    Calls Try.prog 53 #[.slice none 0 0, .func (.func 39) #[] #[.pointer (some ⟨Bs, 0, none⟩)]] w fun e w' => ∃ v, e = .returned v ∧ w'.ownsRow (w.heap.size + 1) 3 1 v xs.length (cellsOfRow .i64 xs) ∧ Below w.heap.size w w' := by
  have HL := Lib.hid hl
  have bB := Boxed.new w 27 (.slice none 0 0)
  have hB0 : Below w.heap.size w (w.alloc (.cells #[.slice none 0 0] 27)) := (Below.refl _ w).alloc (Nat.le_refl _) _
  have hst := vals_stops Fence.wide 2 trivial rfl (by omega) Bs w.heap.size b off cap len xs hl hreach hb (w.alloc (.cells #[.slice none 0 0] 27)) ((hB0.cell (p := ⟨Bs, 0, none⟩) (World.block_lt_of_cell? _ _ hBs)).trans hBs) (hc.mono hB0)
  clear hl hc hBs
  refine (callsIn_wide (n := 3)).1 ?_
  refine callsIn_of_wp_marks Try.func53 rfl trivial ?_ rfl
  simp only [Try.ntmps53, List.size_toArray, List.length_cons, List.length_nil, Nat.reduceAdd, Nat.reduceSub, Array.replicate_succ, Array.replicate_zero, List.push_toArray, List.append_toArray, List.nil_append, List.cons_append]
  gi_wp2_with fail
  refine wpIn_rangeFunc_ownG rfl (by omega) (gf := 39) (lb := #[.pointer (some ⟨Bs, 0, none⟩)]) rfl trivial (enters_of Try.func39 (by kernel_rfl) rfl)
    hst belowK_t (belowK_b (by simp)) (Below.refl _ _) (fun _ => rfl)
    (ColI w) (fun _ _ _ => False) (colI_own w _ (by simp)) (fun _ _ _ _ _ hs _ _ => hs)
    ⟨⟨_, ⟨bB.cell, bB.frozen⟩, World.ownsRow_nil _ _ _ _⟩, hB0⟩
    (fun y => { tmps := #[.slice none 0 0, .func (.func 39) #[] #[.pointer (some ⟨Bs, 0, none⟩)], .pointer (some ⟨w.heap.size, 0, none⟩), undef, .slice none 0 0, .int .i64 (y : Int), .func (.func 39) #[] #[.pointer (some ⟨Bs, 0, none⟩)], .int .i64 (y : Int), undef, undef, undef, undef, undef], defers := [] }) ?assign ?body ?done ?stop
  case assign =>
    intro l x W K hK
    gi_wp2
    exact hK
  case body =>
    rintro l pre x W ⟨⟨v, ⟨hc, hf⟩, ho⟩, hB⟩ hlen
    obtain ⟨i0, hi, hz0, hz1, hz2⟩ := info_parts Try.infoI
    have hln := cells_len .i64 [x]
    have hown := ho.alloc (.cells #[.int .i64 (x : Int)] 3)
    have hsl : w.heap.size < W.heap.size := World.block_lt_of_cell? _ _ hc
    have hte : w.heap.size + 1 ≤ (W.alloc (.cells #[.int .i64 (x : Int)] 3)).heap.size := by
      simp only [World.alloc, Array.size_push]; omega
    have HB := Lib.hid hB; have HO := Lib.hid ho
    clear hB ho hst bB hB0
    gi_wp2_with (gi_at_builtin; go_loud (refine wpListIn_append_own _ rfl (.tmp 8) (.tmp 10) 27 rfl (w.heap.size + 1) 3 i0 (.int .i64 0) 1 8 Try.underlying27 hi hz0 hz1 hz2 rfl (by decide) _ pre.length (cellsOfRow .i64 pre) rfl hown ⟨W.heap.size, 0, none⟩ 1 1 (cellsOfRow .i64 [x]) rfl hln (cells_at (news_one W x 3)) (cells_one _ _) (by unfold maxLen; omega) (by omega) hte ?_))
    intro v' w' h1 h2 _
    rw [← cells_app] at h1
    obtain ⟨g', c', rfl⟩ := ownsRow_pos h1 (by omega)
    have hne : some w.heap.size ≠ v.ownBlock := fun e => by have := (HO.out.lt _ e.symm).1; omega
    have hne' : (Value.slice (some ⟨g', 0, none⟩) (pre.length + 1) c').ownBlock = none ∨ (Value.slice (some ⟨g', 0, none⟩) (pre.length + 1) c').ownBlock ≠ some w.heap.size := .inr fun e => by have := (h1.lt _ e).1; omega
    have hbl : w'.heap[w.heap.size]? = W.heap[w.heap.size]? := (h2.block _ (by simp only [World.alloc, Array.size_push]; omega) hne).trans (heap_alloc_old W _ hsl)
    have hc2 : w'.cell? ⟨w.heap.size, 0, none⟩ = some v := (World.cell?_of_block (w := W) hbl).trans hc
    have hf2 : w'.frozen? ⟨w.heap.size, 0, none⟩ = false := (World.frozen?_of_block (w := W) hbl).trans hf
    have hko : KeepsOthers W w' := (KeepsOthers.alloc W _).trans (KeepsOthers.of_grownBy h2 (ownsRow_cells hown))
    have hbw : Below w.heap.size W w' := (below_alloc (Below.refl _ _) _ |>.mono (by omega)).grown h2 (by simp only [World.alloc, Array.size_push]; omega) (fun k hk => by have := (HO.out.lt k hk).1; omega)
    have HK := Lib.hid hko; have HW := Lib.hid hbw; have H1 := Lib.hid h1
    clear hne hbl hko hbw h1 h2 hown hc hf hte hln
    gi_wp2
    have hg := grownBy_setCell' w' w.heap.size (Value.slice (some ⟨g', 0, none⟩) (pre.length + 1) c')
    have hbs : Below w.heap.size W (w'.setCell ⟨w.heap.size, 0, none⟩ (Value.slice (some ⟨g', 0, none⟩) (pre.length + 1) c')) := HW.out.setCell (p := ⟨w.heap.size, 0, none⟩) (Nat.le_refl _) _
    exact ⟨(HK.out.trans (KeepsOthers.setCell _ _ _)).from _, hbs, ⟨_, ⟨World.cell?_setCell_same' _ _ _ (by rw [hc2]; rfl), by rw [World.frozen?_setCell]; exact hf2⟩, by rw [show (pre ++ [x]).length = pre.length + 1 from by simp]; exact H1.out.kept hg hne'⟩, HB.out.trans hbs⟩
  case done =>
    rintro D ys W hD rfl ⟨⟨v, ⟨hc, hf⟩, ho⟩, hB⟩ hK
    have HB := Lib.hid hB; have HO := Lib.hid ho; have HK := Lib.hid hK
    clear hB ho hst bB hB0 hK
    gi_wp2
    simp only [World.size_alloc] at hD
    refine ⟨by simp, .inl ⟨_, _, rfl, run_takeDeferred HK.out, ?_⟩⟩
    exact ⟨_, results_tmp rfl _ _ _, v, rfl, ownsRow_kept HO.out (grownBy_putObj' W D _) (fun r e => by cases e; exact ⟨_, HK.out, rfl⟩), HB.out.trans (belowK_b (w := w) (Nat.le_refl _) _ D _ _ (by omega) HK.out rfl rfl)⟩
  case stop =>
    intro D c pre W _ _ hs _
    exact hs.elim

set_option maxRecDepth 100000 in
theorem coll_any (Bs b off cap len : Nat) (xs : List Nat) (hl : xs.length = len) (hreach : len ≤ 1000000) (w : World) (hb : b < w.heap.size) (hBs : w.cell? ⟨Bs, 0, none⟩ = some (.slice (some ⟨b, off, none⟩) len cap)) (hc : At w .i64 b off xs) :
    Calls Try.prog 38 #[.func (.func 39) #[] #[.pointer (some ⟨Bs, 0, none⟩)]] w fun e w' => ∃ v, e = .returned v ∧ w'.ownsRow (w.heap.size + 1) 3 1 v xs.length (cellsOfRow .i64 xs) ∧ Below w.heap.size w w' := by
  have HS := aseq_any Bs b off cap len xs hl hreach w hb hBs hc
  clear hc hBs hl
  go_enter Try.func38, Try.ntmps38
  go_wp2_with fail
  refine HS.mono ?_
  rintro e w' ⟨v, rfl, ho, hB⟩
  go_wp2
  go_ret
  exact ⟨v, rfl, ho, hB⟩

set_option maxRecDepth 100000 in
theorem sorted_any (Bs b off cap len : Nat) (xs : List Nat) (hl : xs.length = len) (hreach : len < 1000000) (w : World) (hb : b < w.heap.size) (hBs : w.cell? ⟨Bs, 0, none⟩ = some (.slice (some ⟨b, off, none⟩) len cap)) (hc : At w .i64 b off xs) :
    Calls Try.prog 30 #[.func (.func 39) #[] #[.pointer (some ⟨Bs, 0, none⟩)]] w fun e w' => ∃ v, e = .returned v ∧ RowV w' w.heap.size v (srt xs) ∧ Below w.heap.size w w' := by
  have HS := coll_any Bs b off cap len xs hl (by omega) w hb hBs hc
  have HL := Lib.hid hl
  clear hc hBs hl
  go_enter Try.func30, Try.ntmps30
  go_wp2_with fail
  refine HS.mono ?_
  rintro e w1 ⟨v, rfl, ho, hB⟩
  rcases RowV.own ho with ⟨rfl, rfl⟩ | ⟨g, c, rfl, h1, h2, h3⟩
  · go_wp2_with fail
    refine (Any.slices_Sort_int_none Try.lays189 none 0 w1).mono ?_
    rintro e w2 ⟨rfl, rfl⟩
    go_wp2
    go_ret
    exact ⟨_, rfl, .inl ⟨rfl, by simp [srt]⟩, hB⟩
  · rcases Nat.eq_zero_or_pos xs.length with h0 | h0
    · obtain rfl : xs = [] := List.eq_nil_of_length_eq_zero h0
      go_wp2_with fail
      refine (Any.slices_Sort_int_none Try.lays189 (some ⟨g, 0, none⟩) c w1).mono ?_
      rintro e w2 ⟨rfl, rfl⟩
      go_wp2
      go_ret
      exact ⟨.slice (some ⟨g, 0, none⟩) 0 c, rfl, .inr ⟨g, c, by simp [srt], by omega, by simpa [srt] using h2, by simpa [srt] using h3⟩, hB⟩
    · have HB := Lib.hid hB
      have hgl := h2.lt h0
      have HS2 := sort_at g c xs w1 h2 h3 h0 (by have := HL.out; omega)
      clear h2 h3 ho hB
      go_wp2_with fail
      refine HS2.mono ?_
      rintro e w2 ⟨rfl, h4, h5, h6⟩
      go_wp2
      go_ret
      refine ⟨.slice (some ⟨g, 0, none⟩) xs.length c, rfl, .inr ⟨g, c, by rw [srt_len], by omega, h4, by rw [srt_len]; exact h5⟩, ?_⟩
      exact HB.out.trans (h6.below (by omega) HB.out.size)

set_option maxRecDepth 100000 in
theorem vals_any (a : Option Addr) (len cap : Nat) (w : World) :
    Calls Try.prog 31 #[.slice a len cap] w fun e w' => e = .returned (.func (.func 39) #[] #[.pointer (some ⟨w.heap.size, 0, none⟩)]) ∧ w' = w.alloc (.cells #[.slice a len cap] 27) := by
  go_enter Try.func31, Try.ntmps31
  go_wp2
  go_ret
  exact ⟨rfl, rfl⟩

set_option maxRecDepth 100000 in
/-- The rows of a list in ascending order, in a row of their own. -/
theorem asc_any (b off cap len : Nat) (xs : List Nat) (hl : xs.length = len) (hreach : len < 1000000) (w : World) (hb : b < w.heap.size) (hc : At w .i64 b off xs) :
    Calls Try.prog 19 #[.slice (some ⟨b, off, none⟩) len cap] w fun e w' => ∃ v, e = .returned v ∧ RowV w' w.heap.size v (srt xs) ∧ Below w.heap.size w w' := by
  obtain ⟨w1, hw⟩ : ∃ w1, w1 = w.alloc (.cells #[.slice (some ⟨b, off, none⟩) len cap] 27) := ⟨_, rfl⟩
  have hB : Below w.heap.size w w1 := by rw [hw]; exact below_alloc (Below.refl _ _) _
  have hsz : w1.heap.size = w.heap.size + 1 := by rw [hw]; simp
  have hbx : w1.cell? ⟨w.heap.size, 0, none⟩ = some (.slice (some ⟨b, off, none⟩) len cap) := by rw [hw]; exact (Boxed.new w 27 _).cell
  have HS := sorted_any w.heap.size b off cap len xs hl hreach w1 (by omega) hbx (hc.mono hB)
  have HV := vals_any (some ⟨b, off, none⟩) len cap w
  rw [← hw] at HV
  have HB := Lib.hid hB
  clear hw hbx hc hB hl
  go_enter Try.func19, Try.ntmps19
  go_wp2_with fail
  refine HV.mono ?_
  rintro e w2 ⟨rfl, rfl⟩
  go_wp2_with fail
  refine HS.mono ?_
  rintro e w2 ⟨v, rfl, hr, hb2⟩
  go_wp2
  go_ret
  refine ⟨v, rfl, ?_, HB.out.trans (hb2.mono (by omega))⟩
  rcases hr with h | ⟨g, c, h1, h2, h3⟩
  · exact .inl h
  · exact .inr ⟨g, c, h1, by omega, h3⟩

end Go.Proofs.Ytfjjmhbffbhhdaa
