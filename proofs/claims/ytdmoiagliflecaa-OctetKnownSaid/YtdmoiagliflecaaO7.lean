/- The reading of a count, whole. -/
import Derived.Test.YtdmoiagliflecaaO6
import Derived.RangeFuncNested
import Derived.RangeFuncBound
import Derived.RangeFuncCalls
import Derived.RangeFuncLeaves
import Derived.Shelf.Abstract
import Derived.Shelf.RegionOpen
import Derived.OwnWalkIn
import Derived.TacticsInMore
import Derived.LoopNIn
import Derived.LoopIn
namespace Go.Proofs.Ytdmoiagliflecaa
open Go.RowKit Go.Shelf
attribute [local go_sem] Oper.semAt_some

/-- What a round keeps: what lay below n0, and the slice's box. -/
def KpB (n0 Bs : Nat) (W W' : World) : Prop := Below n0 W W' ∧ W'.cell? ⟨Bs, 0, none⟩ = W.cell? ⟨Bs, 0, none⟩
theorem kpB_t {n0 Bs : Nat} {A B C : World} (h : KpB n0 Bs A B) (k : KpB n0 Bs B C) : KpB n0 Bs A C := ⟨h.1.trans k.1, k.2.trans h.2⟩
theorem kpB_b {n0 Bs : Nat} {w : World} (hn : n0 ≤ w.heap.size) (hB : Bs < w.heap.size) (W : World) (l : Nat) (o o' : Obj) (hl : w.heap.size ≤ l) (h : W.heap[l]? = some o) (h1 : o.isCells = false) (h2 : o.isWalk = false) : KpB n0 Bs W (W.putObj l o') :=
  ⟨belowK_b hn W l o o' hl h h1 h2, World.cell?_of_block (w := W) ((belowK_b (n₀ := w.heap.size) (Nat.le_refl _) W l o o' hl h h1 h2).block Bs hB)⟩

set_option maxRecDepth 100000 in
set_option maxHeartbeats 2000000 in
/-- The library's walk over a slice from its end on, for every body that keeps what lay below n0. -/
theorem back1_in (F : Fence) (n : Nat) (hF : F.fn 52) (hro : F.round = none) (hn : 1 ≤ n) (l Bs n0 b off cap len : Nat) (t : List Nat) (ht : ∀ x ∈ t, x < 256) (hl : t.length = len) (h0l : 0 < len) (hreach : len ≤ 1000) (hb : b < n0) (J Jx : List GB → World → Prop)
    (hY : ∀ pre x W, J pre W → pre.length < len → YieldAt F (n - 1) Try.prog l #[.int .i64 (x.1.1 : Int), .int .u8 (x.1.2 : Int)] W fun e W' =>
      (e = .returned (.bool true) ∧ J (pre ++ [x]) W' ∧ KpB n0 Bs W W') ∨ (e = .returned (.bool false) ∧ Jx (pre ++ [x]) W'))
    (W : World) (hBs : W.cell? ⟨Bs, 0, none⟩ = some (.slice (some ⟨b, off, none⟩) len cap)) (hc : At W .u8 b off t) (h0 : J [] W) :
    CallsIn F n Try.prog 52 #[.func (.yield l) #[] #[], .pointer (some ⟨Bs, 0, none⟩)] W fun e W' => (∃ v, e = .returned v) ∧
      ((∃ ys, ys = upto (fB t ht) len ∧ J ys W') ∨ (∃ pre, (∃ k, k ≤ len ∧ pre = upto (fB t ht) k) ∧ Jx pre W')) := by
  have HC := Lib.hid hc; have HL := Lib.hid hl
  clear hc hl
  refine callsIn_of_wp Try.func52 rfl hF ?_ hro
  simp only [Try.ntmps52, List.size_toArray, List.length_cons, List.length_nil, Nat.reduceAdd, Nat.reduceSub, Array.replicate_succ, Array.replicate_zero, List.push_toArray, List.append_toArray, List.nil_append, List.cons_append]
  gi_wp2
  gi_loopw [3] (fun i wr => ∃ k : Nat, k ≤ len ∧ ((k < len ∧ i = .int .i64 ((len - 1 - k : Nat) : Int)) ∨ (k = len ∧ i = .int .i64 (-1))) ∧ J (upto (fB t ht) k) wr ∧ Hid (KpB n0 Bs W wr)) (fun i _ => (intOf i + 1).toNat)
  case atStart =>
    refine ⟨0, Nat.zero_le _, Or.inl ⟨h0l, ?_⟩, h0, Below.refl _ _, rfl⟩
    congr 1; omega
  case round =>
    obtain ⟨k, hk, hi, hJs, HB⟩ := hrel
    have hbs : wr.cell? ⟨Bs, 0, none⟩ = some (.slice (some ⟨b, off, none⟩) len cap) := HB.out.2.trans hBs
    rcases hi with ⟨hlt, rfl⟩ | ⟨rfl, rfl⟩
    · obtain ⟨m, hm⟩ : ∃ m, m = len - 1 - k := ⟨_, rfl⟩
      have hml : m < len := by omega
      have hcell : wr.cell? ⟨b, off + m, none⟩ = some (.int .u8 ((t.getD m 0 : Nat) : Int)) := (HB.out.1.cell (p := ⟨b, off + m, none⟩) hb).trans (HC.out m (by rw [HL.out]; exact hml))
      have hy256 : t.getD m 0 < 256 := getD_lt ht (by omega) m
      obtain ⟨y, hye⟩ : ∃ y, y = t.getD m 0 := ⟨_, rfl⟩
      rw [← hye] at hcell hy256
      have hfb : fB t ht k = ⟨(m, y), hy256⟩ := by
        unfold fB
        apply Subtype.ext
        show (t.length - 1 - k, t.getD (t.length - 1 - k) 0) = (m, y)
        rw [HL.out, ← hm, ← hye]
      obtain ⟨fn, tmps, assign, body, hy, hR⟩ := hY _ ⟨(m, y), hy256⟩ wr hJs (by rw [upto_length]; exact hlt)
      dsimp only at hy
      have hsucc : upto (fB t ht) k ++ [⟨(m, y), hy256⟩] = upto (fB t ht) (k + 1) := by rw [upto_succ, hfb]
      rw [hsucc] at hR
      rw [← hm]
      have HM := Lib.hid hm
      clear hm hfb hsucc hye
      gi_wp2
      refine hR.mono ?_
      rintro e W3 (⟨rfl, hJ3, hk3⟩ | ⟨rfl, hJx3⟩)
      · gi_wp2
        go_roundw
        case rel =>
          refine ⟨k + 1, by omega, ?_, hJ3, kpB_t HB.out hk3⟩
          have := HM.out
          by_cases h1 : k + 1 < len
          · left; exact ⟨h1, by congr 1; omega⟩
          · right; exact ⟨by omega, by congr 1; omega⟩
        case measure => simp [intOf]
      · gi_wp2
        refine bodyPost_ret (results_none rfl _ _ _) rfl ?_
        exact ⟨⟨_, rfl⟩, .inr ⟨_, ⟨k + 1, by omega, rfl⟩, hJx3⟩⟩
    · gi_wp2
      go_end0
      exact ⟨⟨_, rfl⟩, .inl ⟨_, rfl, hJs⟩⟩

theorem back_stops (F : Fence) (n : Nat) (hF : F.fn 52) (hro : F.round = none) (hn : 1 ≤ n) (Bs n0 b off cap len : Nat) (t : List Nat) (ht : ∀ x ∈ t, x < 256) (hl : t.length = len) (h0l : 0 < len) (hreach : len ≤ 1000) (hb : b < n0) (w : World) (_hn0 : n0 ≤ w.heap.size)
    (hBs : w.cell? ⟨Bs, 0, none⟩ = some (.slice (some ⟨b, off, none⟩) len cap)) (hc : At w .u8 b off t) :
    SeqStopsK F n Try.prog 52 #[.pointer (some ⟨Bs, 0, none⟩)] (fun x : GB => #[Value.int .i64 (x.1.1 : Int), Value.int .u8 (x.1.2 : Int)]) (KpB n0 Bs) (fun ys => ys = upto (fB t ht) len) (fun pre => ∃ k, k ≤ len ∧ pre = upto (fB t ht) k) len w := fun l J Jx W hW _ _ hY h0 =>
  back1_in F n hF hro hn l Bs n0 b off cap len t ht hl h0l hreach hb J Jx hY W ((hW.cell (p := ⟨Bs, 0, none⟩) (World.block_lt_of_cell? _ _ hBs)).trans hBs) (hc.mono hW) h0

/-- The groups that have come, the most significant one first. -/
def gFold (l : List GB) : Nat := l.foldl (fun n x => n * 128 + x.1.2 % 128) 0
theorem gFold_snoc (l : List GB) (x : GB) : gFold (l ++ [x]) = gFold l * 128 + x.1.2 % 128 := by simp [gFold]
theorem gFold_lt (l : List GB) : gFold l < 128 ^ l.length := by
  suffices h : ∀ (l : List GB) (a k : Nat), a < 128 ^ k → l.foldl (fun n x => n * 128 + x.1.2 % 128) a < 128 ^ (k + l.length) by
    have := h l 0 0 (by decide)
    rwa [Nat.zero_add] at this
  intro l
  induction l with
  | nil => intro a k h; exact h
  | cons x l ih =>
    intro a k h
    rw [List.foldl_cons, List.length_cons, show k + (l.length + 1) = (k + 1) + l.length from by omega]
    refine ih _ _ ?_
    rw [Nat.pow_succ]
    omega
theorem gFold_upto (t : List Nat) (ht : ∀ x ∈ t, x < 256) : ∀ k, k ≤ t.length → gFold (upto (fB t ht) k) = val 128 ((t.drop (t.length - k)).map (· % 128)) := by
  intro k
  induction k with
  | zero => intro _; simp [upto, gFold, val]
  | succ k ih =>
    intro hk
    have hm : t.length - (k + 1) < t.length := by omega
    rw [upto_succ, gFold_snoc, ih (by omega), List.drop_eq_getElem_cons hm]
    simp only [List.map_cons, val]
    rw [show t.length - (k + 1) + 1 = t.length - k from by omega]
    have : (fB t ht k).1.2 = t[t.length - (k + 1)] := by
      show t.getD (t.length - 1 - k) 0 = _
      rw [show t.length - 1 - k = t.length - (k + 1) from by omega]
      simp [List.getD, hm]
    rw [this]; omega
theorem gFold_all (t : List Nat) (ht : ∀ x ∈ t, x < 256) (len : Nat) (hl : t.length = len) : gFold (upto (fB t ht) len) = groups t := by
  subst hl
  rw [gFold_upto t ht t.length (Nat.le_refl _), Nat.sub_self, List.drop_zero]; rfl

/-- What a count's reading leaves. -/
def RetRead (W : World) (x : Nat × Nat × Nat) : Ending → World → Prop := fun e w' => e = .returned (.tuple #[.int .i64 (x.1 : Int), .int .i64 (x.2.1 : Int), .int .i64 (x.2.2 : Int)]) ∧ Below W.heap.size W w'

set_option maxRecDepth 100000 in
set_option maxHeartbeats 2000000 in
theorem read_num (b off l c q : Nat) (t : List Nat) (w : World) (hl : t.length = l) (hm : l ≤ 140737488351232) (ht : ∀ x ∈ t, x < 256) (h : At w .u8 b off t) (hlc : l ≤ c)
    (hlast : lastAt t = q) (h9 : q ≤ 8) (hlt : q < l) (hform : q = 0 ∨ (0 < q ∧ t.getD q 0 ≠ 0)) (r : Nat × Nat × Nat) (hr : r = if 2 ^ 62 < groups (t.take (q + 1)) then (0, 0, 4) else (groups (t.take (q + 1)), q + 1, 0)) :
    Calls Try.prog 39 #[.slice (some ⟨b, off, none⟩) l c] w (RetRead w r) := by
  have HL := Lib.hid hl; have HX := Lib.hid h; have HT := Lib.hid ht; have HR := Lib.hid hr
  have hcell : w.cell? ⟨b, off + q, none⟩ = some (.int .u8 ((t.getD q 0 : Nat) : Int)) := h q (by omega)
  have hblt : b < w.heap.size := World.block_lt_of_cell? _ _ hcell
  have hli : lastInt t = (q : Int) := by unfold lastInt; rw [hlast, if_neg (by omega)]
  have htl : (t.take (q + 1)).length = q + 1 := by rw [List.length_take]; omega
  have HTL := Lib.hid htl
  have HA := Lib.hid (h.take (q + 1))
  have HTT : Hid (∀ x ∈ t.take (q + 1), x < 256) := fun x hx => ht x (List.mem_of_mem_take hx)
  obtain ⟨x, hx⟩ : ∃ x, x = t.getD q 0 := ⟨_, rfl⟩
  rw [← hx] at hcell hform
  obtain ⟨tt, htt⟩ : ∃ tt, tt = t.take (q + 1) := ⟨_, rfl⟩
  rw [← htt] at HTL HA HTT hr
  clear hl h ht hlast hx htl htt HR
  have HR := Lib.hid hr
  clear hr
  refine (callsIn_wide (n := 3)).1 ?_
  refine callsIn_of_wp_marks Try.func39 rfl trivial ?_ rfl
  simp only [Try.ntmps39, List.size_toArray, List.length_cons, List.length_nil, Nat.reduceAdd, Nat.reduceSub, Array.replicate_succ, Array.replicate_zero, List.push_toArray, List.append_toArray, List.nil_append, List.cons_append]
  gi_wp2_with fail
  refine ⟨trivial, (callsIn_wide.2 (index_at b off l c t _ HL.out hm HT.out (HX.out.mono (below_alloc (Below.refl _ _) _)))).mono ?_⟩
  rintro e w2 ⟨rfl, rfl⟩
  rw [hli]
  have hd1 : decide ((q : Int) < 0) = false := decide_eq_false (by omega)
  have hd2 : decide (9 ≤ (q : Int)) = false := decide_eq_false (by omega)
  rcases hform with rfl | ⟨hq0, hx0⟩
  · skip
    gi_wp2_with fail
    refine ⟨trivial, (callsIn_wide.2 (back_any _ _ _ _)).mono ?_⟩
    rintro e w2 ⟨rfl, rfl⟩
    gi_wp2_with fail
    have bN := Boxed.new w 3 (.int .i64 0)
    have bS := Boxed.new (w.alloc (.cells #[.int .i64 0] 3)) 22 (.slice (some ⟨b, off, none⟩) 1 c)
    rw [World.size_alloc] at bS
    have hB0 : Below w.heap.size w ((w.alloc (.cells #[.int .i64 0] 3)).alloc (.cells #[.slice (some ⟨b, off, none⟩) 1 c] 22)) := ((Below.refl _ w).alloc (Nat.le_refl _) _).alloc (by simp) _
    refine wpIn_rangeFunc_ownG rfl (by omega) (gf := 52) (lb := #[.pointer (some ⟨w.heap.size + 1, 0, none⟩)]) rfl trivial (enters_of Try.func52 (by kernel_rfl) rfl)
      (back_stops Fence.wide 2 trivial rfl (by omega) (w.heap.size + 1) w.heap.size b off c 1 tt HTT HTL.out (by omega) (by omega) hblt _ (by simp; omega) bS.cell (HA.out.mono hB0)) kpB_t (kpB_b (by simp; omega) (by simp)) (Below.refl _ _) (fun _ => rfl)
      (fun pre W => (W.cell? ⟨w.heap.size, 0, none⟩ = some (.int .i64 ((gFold pre : Nat) : Int)) ∧ W.frozen? ⟨w.heap.size, 0, none⟩ = false) ∧ Below w.heap.size w W)
      (fun _ _ _ => False)
      (OwnFrom.and (Own.from (fun s A B row hs hg hr => ⟨cell_kept hs.1 hg hr, (frozen_kept hs.1 hg hr).trans hs.2⟩) _) (ownFrom_below (Nat.le_refl _) (by simp; omega)))
      (fun _ _ _ _ _ hs _ _ => hs)
      ⟨⟨(bN.alloc _).cell, (bN.alloc _).frozen⟩, hB0⟩
      (fun y => { tmps := #[.slice (some ⟨b, off, none⟩) l c, undef, .pointer (some ⟨w.heap.size, 0, none⟩), .int .i64 1, .int .i64 0, .int .i64 0, undef, .int .u8 (y.1.2 : Int), .slice (some ⟨b, off, none⟩) l c, .int .i64 0, .bool false, .int .i64 0, .bool false, .bool false, .int .i64 0, .bool false, .bool false, undef, undef, undef, undef, undef, .bool false, .bool false, .int .i64 0, .bool false, .int .i64 0, .int .i64 1, .slice (some ⟨b, off, none⟩) l c, .int .i64 1, .slice (some ⟨b, off, none⟩) 1 c, .func (.func 52) #[] #[.pointer (some ⟨w.heap.size + 1, 0, none⟩)], .int .i64 (y.1.1 : Int), .int .u8 (y.1.2 : Int), undef, undef, undef, undef, undef, undef, undef, undef, undef, undef], defers := [] }) ?assign ?body ?done ?stop
    case assign =>
      intro l x W K hK
      gi_wp2
      exact hK
    case body =>
      rintro l pre ⟨⟨i, y⟩, hy⟩ W ⟨⟨hc, hf⟩, hB⟩ hlen
      have hy2 : y < 256 := hy
      have hsn := gFold_snoc pre ⟨(i, y), hy⟩
      have hlt56 : gFold pre < 128 ^ 8 := Nat.lt_of_lt_of_le (gFold_lt pre) (Nat.pow_le_pow_right (by omega) (by omega))
      obtain ⟨g, hg⟩ : ∃ g, g = gFold pre := ⟨_, rfl⟩
      obtain ⟨d, hd⟩ : ∃ d, d = y % 128 := ⟨_, rfl⟩
      have hd128 : d < 128 := by omega
      obtain ⟨s, hs⟩ : ∃ s, s = g * 128 + d := ⟨_, rfl⟩
      have e1 : bits .and .u8 (y : Int) 127 = (d : Int) := by rw [u8_mask y hy2, hd]
      rw [← hg] at hsn hlt56 hc
      have hg63 : g < 72057594037927936 := by have : (128 : Nat) ^ 8 = 72057594037927936 := by decide
                                              omega
      have e2 : bits .or .i64 ((g : Int) * 128) (d : Int) = (s : Int) := by
        have := i64_join (a := g) hd128 (by omega)
        rw [Int.natCast_mul, ← hs] at this
        exact this
      have hsn2 : gFold (pre ++ [⟨(i, y), hy⟩]) = s := by rw [hsn, hs, hd]
      have HSN := Lib.hid hsn2
      have HB := Lib.hid hB
      clear hsn hsn2 hg hd hs hlt56 hB hli hd1 hd2 bN bS hB0 hcell
      gi_wp2
      refine ⟨(KeepsOthers.setCell _ _ _).from _, ⟨(Below.refl w.heap.size W).setCell (p := ⟨w.heap.size, 0, none⟩) (Nat.le_refl _) _, World.cell?_setCell_other _ _ _ _ (by intro e; injection e with e; omega)⟩, ⟨?_, by rw [World.frozen?_setCell]; exact hf⟩, HB.out.setCell (p := ⟨w.heap.size, 0, none⟩) (Nat.le_refl _) _⟩
      rw [HSN.out]
      exact World.cell?_setCell_same' _ _ _ (by rw [hc]; rfl)
    case done =>
      rintro D ys W hD hys ⟨⟨hc, hf⟩, hB⟩ hK
      have hG : gFold ys = groups tt := by rw [hys]; exact gFold_all tt HTT _ HTL.out
      have hDl : w.heap.size < D := by simp at hD; omega
      rw [hG] at hc
      obtain ⟨G, hGe⟩ : ∃ G, G = groups tt := ⟨_, rfl⟩
      rw [← hGe] at hc HR
      have HB := Lib.hid hB
      have HC := Lib.hid hc
      have HK := Lib.hid hK
      clear hG hGe hys hD hB hli hd1 hd2 bN bS hB0 hcell hK
      by_cases hbig : 4611686018427387904 < G
      · have hr : r = (0, 0, 4) := by rw [HR.out, if_pos (show 2 ^ 62 < G from hbig)]
        have HRR := Lib.hid hr
        clear hr HR
        gi_wp2
        have hK' := (KeepsOthers.setCell W ⟨w.heap.size, 0, none⟩ (.int .i64 0)).same D _ HK.out rfl
        refine ⟨by simp, .inl ⟨_, _, rfl, run_takeDeferred hK', ?_⟩⟩
        have hc5 := cell_kept (World.cell?_setCell_same' W ⟨w.heap.size, 0, none⟩ (.int .i64 0) (by rw [HC.out]; rfl)) (grownBy_putObj' _ D (.deferred none)) (fun r e => by cases e; exact ⟨_, hK', rfl⟩)
        refine ⟨.tuple #[.int .i64 0, .int .i64 0, .int .i64 4], by simp [results, Try.f39, go_sem, hc5], by rw [HRR.out]; rfl, ?_⟩
        exact (HB.out.setCell (p := ⟨w.heap.size, 0, none⟩) (Nat.le_refl _) _).trans (belowK_b (w := w) (Nat.le_refl _) _ D _ _ (by omega) hK' rfl rfl)
      · have hr : r = (G, 1, 0) := by rw [HR.out, if_neg (show ¬ 2 ^ 62 < G from hbig)]
        have HRR := Lib.hid hr
        clear hr HR
        gi_wp2
        have hK' := (KeepsOthers.setCell W ⟨w.heap.size, 0, none⟩ (.int .i64 (G : Int))).same D _ HK.out rfl
        refine ⟨by simp, .inl ⟨_, _, rfl, run_takeDeferred hK', ?_⟩⟩
        have hc5 := cell_kept (World.cell?_setCell_same' W ⟨w.heap.size, 0, none⟩ (.int .i64 (G : Int)) (by rw [HC.out]; rfl)) (grownBy_putObj' _ D (.deferred none)) (fun r e => by cases e; exact ⟨_, hK', rfl⟩)
        refine ⟨.tuple #[.int .i64 (G : Int), .int .i64 1, .int .i64 0], by simp [results, Try.f39, go_sem, hc5], by rw [HRR.out]; rfl, ?_⟩
        exact (HB.out.setCell (p := ⟨w.heap.size, 0, none⟩) (Nat.le_refl _) _).trans (belowK_b (w := w) (Nat.le_refl _) _ D _ _ (by omega) hK' rfl rfl)
    case stop =>
      rintro D c pre W _ _ h _
      exact h.elim
  · have hxe : ((x : Int) == 0) = false := by simpa using hx0
    gi_wp2_with fail
    refine ⟨trivial, (callsIn_wide.2 (back_any _ _ _ _)).mono ?_⟩
    rintro e w2 ⟨rfl, rfl⟩
    gi_wp2_with fail
    have bN := Boxed.new w 3 (.int .i64 0)
    have bS := Boxed.new (w.alloc (.cells #[.int .i64 0] 3)) 22 (.slice (some ⟨b, off, none⟩) (q + 1) c)
    rw [World.size_alloc] at bS
    have hB0 : Below w.heap.size w ((w.alloc (.cells #[.int .i64 0] 3)).alloc (.cells #[.slice (some ⟨b, off, none⟩) (q + 1) c] 22)) := ((Below.refl _ w).alloc (Nat.le_refl _) _).alloc (by simp) _
    refine wpIn_rangeFunc_ownG rfl (by omega) (gf := 52) (lb := #[.pointer (some ⟨w.heap.size + 1, 0, none⟩)]) rfl trivial (enters_of Try.func52 (by kernel_rfl) rfl)
      (back_stops Fence.wide 2 trivial rfl (by omega) (w.heap.size + 1) w.heap.size b off c (q + 1) tt HTT HTL.out (by omega) (by omega) hblt _ (by simp; omega) bS.cell (HA.out.mono hB0)) kpB_t (kpB_b (by simp; omega) (by simp)) (Below.refl _ _) (fun _ => rfl)
      (fun pre W => (W.cell? ⟨w.heap.size, 0, none⟩ = some (.int .i64 ((gFold pre : Nat) : Int)) ∧ W.frozen? ⟨w.heap.size, 0, none⟩ = false) ∧ Below w.heap.size w W)
      (fun _ _ _ => False)
      (OwnFrom.and (Own.from (fun s A B row hs hg hr => ⟨cell_kept hs.1 hg hr, (frozen_kept hs.1 hg hr).trans hs.2⟩) _) (ownFrom_below (Nat.le_refl _) (by simp; omega)))
      (fun _ _ _ _ _ hs _ _ => hs)
      ⟨⟨(bN.alloc _).cell, (bN.alloc _).frozen⟩, hB0⟩
      (fun y => { tmps := #[.slice (some ⟨b, off, none⟩) l c, undef, .pointer (some ⟨w.heap.size, 0, none⟩), .int .i64 ((q : Int) + 1), .int .i64 0, .int .i64 (q : Int), undef, .int .u8 (y.1.2 : Int), .slice (some ⟨b, off, none⟩) l c, .int .i64 (q : Int), .bool false, .int .i64 (q : Int), .bool false, .bool false, .int .i64 (q : Int), .bool true, .bool true, .slice (some ⟨b, off, none⟩) l c, .int .i64 (q : Int), .pointer (some ⟨b, off + q, none⟩), .int .u8 (x : Int), .bool false, .bool false, .bool false, .int .i64 (q : Int), .bool false, .int .i64 (q : Int), .int .i64 ((q : Int) + 1), .slice (some ⟨b, off, none⟩) l c, .int .i64 ((q : Int) + 1), .slice (some ⟨b, off, none⟩) (q + 1) c, .func (.func 52) #[] #[.pointer (some ⟨w.heap.size + 1, 0, none⟩)], .int .i64 (y.1.1 : Int), .int .u8 (y.1.2 : Int), undef, undef, undef, undef, undef, undef, undef, undef, undef, undef], defers := [] }) ?assign ?body ?done ?stop
    case assign =>
      intro l x W K hK
      gi_wp2
      exact hK
    case body =>
      rintro l pre ⟨⟨i, y⟩, hy⟩ W ⟨⟨hc, hf⟩, hB⟩ hlen
      have hy2 : y < 256 := hy
      have hsn := gFold_snoc pre ⟨(i, y), hy⟩
      have hlt56 : gFold pre < 128 ^ 8 := Nat.lt_of_lt_of_le (gFold_lt pre) (Nat.pow_le_pow_right (by omega) (by omega))
      obtain ⟨g, hg⟩ : ∃ g, g = gFold pre := ⟨_, rfl⟩
      obtain ⟨d, hd⟩ : ∃ d, d = y % 128 := ⟨_, rfl⟩
      have hd128 : d < 128 := by omega
      obtain ⟨s, hs⟩ : ∃ s, s = g * 128 + d := ⟨_, rfl⟩
      have e1 : bits .and .u8 (y : Int) 127 = (d : Int) := by rw [u8_mask y hy2, hd]
      rw [← hg] at hsn hlt56 hc
      have hg63 : g < 72057594037927936 := by have : (128 : Nat) ^ 8 = 72057594037927936 := by decide
                                              omega
      have e2 : bits .or .i64 ((g : Int) * 128) (d : Int) = (s : Int) := by
        have := i64_join (a := g) hd128 (by omega)
        rw [Int.natCast_mul, ← hs] at this
        exact this
      have hsn2 : gFold (pre ++ [⟨(i, y), hy⟩]) = s := by rw [hsn, hs, hd]
      have HSN := Lib.hid hsn2
      have HB := Lib.hid hB
      clear hsn hsn2 hg hd hs hlt56 hB hli hd1 hd2 bN bS hB0 hcell
      gi_wp2
      refine ⟨(KeepsOthers.setCell _ _ _).from _, ⟨(Below.refl w.heap.size W).setCell (p := ⟨w.heap.size, 0, none⟩) (Nat.le_refl _) _, World.cell?_setCell_other _ _ _ _ (by intro e; injection e with e; omega)⟩, ⟨?_, by rw [World.frozen?_setCell]; exact hf⟩, HB.out.setCell (p := ⟨w.heap.size, 0, none⟩) (Nat.le_refl _) _⟩
      rw [HSN.out]
      exact World.cell?_setCell_same' _ _ _ (by rw [hc]; rfl)
    case done =>
      rintro D ys W hD hys ⟨⟨hc, hf⟩, hB⟩ hK
      have hG : gFold ys = groups tt := by rw [hys]; exact gFold_all tt HTT _ HTL.out
      have hDl : w.heap.size < D := by simp at hD; omega
      rw [hG] at hc
      obtain ⟨G, hGe⟩ : ∃ G, G = groups tt := ⟨_, rfl⟩
      rw [← hGe] at hc HR
      have HB := Lib.hid hB
      have HC := Lib.hid hc
      have HK := Lib.hid hK
      clear hG hGe hys hD hB hli hd1 hd2 bN bS hB0 hcell hK
      by_cases hbig : 4611686018427387904 < G
      · have hr : r = (0, 0, 4) := by rw [HR.out, if_pos (show 2 ^ 62 < G from hbig)]
        have HRR := Lib.hid hr
        clear hr HR
        gi_wp2
        have hK' := (KeepsOthers.setCell W ⟨w.heap.size, 0, none⟩ (.int .i64 0)).same D _ HK.out rfl
        refine ⟨by simp, .inl ⟨_, _, rfl, run_takeDeferred hK', ?_⟩⟩
        have hc5 := cell_kept (World.cell?_setCell_same' W ⟨w.heap.size, 0, none⟩ (.int .i64 0) (by rw [HC.out]; rfl)) (grownBy_putObj' _ D (.deferred none)) (fun r e => by cases e; exact ⟨_, hK', rfl⟩)
        refine ⟨.tuple #[.int .i64 0, .int .i64 0, .int .i64 4], by simp [results, Try.f39, go_sem, hc5], by rw [HRR.out]; rfl, ?_⟩
        exact (HB.out.setCell (p := ⟨w.heap.size, 0, none⟩) (Nat.le_refl _) _).trans (belowK_b (w := w) (Nat.le_refl _) _ D _ _ (by omega) hK' rfl rfl)
      · have hr : r = (G, q + 1, 0) := by rw [HR.out, if_neg (show ¬ 2 ^ 62 < G from hbig)]
        have HRR := Lib.hid hr
        clear hr HR
        gi_wp2
        have hK' := (KeepsOthers.setCell W ⟨w.heap.size, 0, none⟩ (.int .i64 (G : Int))).same D _ HK.out rfl
        refine ⟨by simp, .inl ⟨_, _, rfl, run_takeDeferred hK', ?_⟩⟩
        have hc5 := cell_kept (World.cell?_setCell_same' W ⟨w.heap.size, 0, none⟩ (.int .i64 (G : Int)) (by rw [HC.out]; rfl)) (grownBy_putObj' _ D (.deferred none)) (fun r e => by cases e; exact ⟨_, hK', rfl⟩)
        refine ⟨.tuple #[.int .i64 (G : Int), .int .i64 ((q : Int) + 1), .int .i64 0], by simp [results, Try.f39, go_sem, hc5], by rw [HRR.out]; rfl, ?_⟩
        exact (HB.out.setCell (p := ⟨w.heap.size, 0, none⟩) (Nat.le_refl _) _).trans (belowK_b (w := w) (Nat.le_refl _) _ D _ _ (by omega) hK' rfl rfl)
    case stop =>
      rintro D c pre W _ _ h _
      exact h.elim
end Go.Proofs.Ytdmoiagliflecaa
