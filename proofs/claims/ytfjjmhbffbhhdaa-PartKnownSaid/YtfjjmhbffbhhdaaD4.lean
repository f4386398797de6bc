/- Rows of choices; a shuffled row. -/
import Derived.Test.YtfjjmhbffbhhdaaD3
namespace Go.Proofs.Ytfjjmhbffbhhdaa
open Go.RowKit

theorem Try.infoI : (Try.prog.info? 3).map (fun i => (i.zero, i.size, i.bytes)) = some (some (.int .i64 0), 1, 8) := by kernel_rfl
theorem make_int (n : Nat) (hn : n ≤ 1099511627776) (w : World) : (Instr.makeSlice 27 (.int .i64 (n : Int)) (.int .i64 (n : Int))).run Try.prog w = .ok (.slice (some ⟨w.heap.size, 0, none⟩) n n) (w.alloc (.cells (madeCells #[.int .i64 0] n) 3)) :=
  run_make_one _ _ _ 8 n Try.underlying27 Try.infoI (by omega) hn w
theorem ext_getD {a b : List Nat} (h : a.length = b.length) (h2 : ∀ j, j < a.length → a.getD j 0 = b.getD j 0) : a = b := by
  refine List.ext_getElem h fun j h3 h4 => ?_
  have := h2 j h3
  simpa [List.getD, h3, h4] using this
theorem map_range_get (f : Nat → Nat) {j k : Nat} (h : j < k) : ((List.range k).map f).getD j 0 = f j := by simp [List.getD, h]
theorem ddrawV_get {n k s j : Nat} (h : j < k) : (ddrawV n k s).getD j 0 = dbelowV n (ddrawS n j s) := by
  unfold ddrawV
  rw [map_range_get _ h]
theorem ddrawV_lt {n k s : Nat} (hn : 0 < n) {j : Nat} (h : j < k) : (ddrawV n k s).getD j 0 < n := by rw [ddrawV_get h]; exact dbelowV_lt _ hn

theorem At.put0 {w : World} {k : IntKind} {b : Nat} {xs : List Nat} (h : At w k b 0 xs) (j y : Nat) (hj : j < xs.length) : At (w.setCell ⟨b, j, none⟩ (.int k (y : Int))) k b 0 (xs.set j y) := by
  have := h.set j y hj
  rwa [Nat.zero_add] at this
theorem IsD.fresh {w : World} {b s g : Nat} (h : IsD w b s) (hg : g ≠ b) (j : Nat) (v : Value) : IsD (w.setCell ⟨g, j, none⟩ v) b s :=
  ⟨by rw [World.cell?_setCell_other _ _ _ _ (by intro e; injection e; omega)]; exact h.1, by rw [World.frozen?_setCell]; exact h.2.1, h.2.2⟩
theorem Only.fresh {w w' : World} {b o n g : Nat} (h : Only w w' b o n) (hw : w.heap.size ≤ g) (hg : g ≠ b) (j : Nat) (v : Value) : Only w (w'.setCell ⟨g, j, none⟩ v) b o n :=
  ⟨h.os, h.tape, h.output, by rw [show (w'.setCell ⟨g, j, none⟩ v).heap.size = w'.heap.size from by simp [World.setCell]]; exact h.size,
    fun k hk hb => (Below.heap_setCell _ _ _ _ (show k ≠ g by omega)).trans (h.block k hk hb),
    fun o ho => (World.cell?_setCell_other _ _ _ _ (by intro e; injection e; omega)).trans (h.cell o ho), fun o => (World.frozen?_setCell _ _ _ _).trans (h.frozen o)⟩
theorem Drawn.fresh {w w' : World} {b s g : Nat} (h : Drawn w w' b s) (hw : w.heap.size ≤ g) (hg : g ≠ b) (j : Nat) (v : Value) : Drawn w (w'.setCell ⟨g, j, none⟩ v) b s :=
  ⟨h.1.fresh hg j v, h.2.fresh hw hg j v⟩

/-- A row of the call's own, and the generator at another state. -/
def RetRow (w : World) (b s : Nat) (xs : List Nat) : Ending → World → Prop := fun e w' =>
  ∃ g, e = .returned (.slice (some ⟨g, 0, none⟩) xs.length xs.length) ∧ w.heap.size ≤ g ∧ At w' .i64 g 0 xs ∧ Drawn w w' b s

/-- The same; the row may be written. -/
def RetRowF (w : World) (b s : Nat) (xs : List Nat) : Ending → World → Prop := fun e w' =>
  ∃ g, e = .returned (.slice (some ⟨g, 0, none⟩) xs.length xs.length) ∧ w.heap.size ≤ g ∧ At w' .i64 g 0 xs ∧ Fr w' g 0 xs.length ∧ Drawn w w' b s
theorem RetRowF.row {w : World} {b s : Nat} {xs : List Nat} {e : Ending} {w' : World} (h : RetRowF w b s xs e w') : RetRow w b s xs e w' :=
  let ⟨g, h1, h2, h3, _, h5⟩ := h
  ⟨g, h1, h2, h3, h5⟩

set_option maxRecDepth 100000 in
set_option maxHeartbeats 1000000 in
theorem dDraw_anyF (b s n k : Nat) (w : World) (h : IsD w b s) (hn : 0 < n) (hn2 : n ≤ 9223372036854775807) (hk : 0 < k) (hk2 : k ≤ 65536) :
    Calls Try.prog 17 #[.pointer (some ⟨b, 0, none⟩), .int .i64 (n : Int), .int .i64 (k : Int)] w (RetRowF w b (ddrawS n k s) (ddrawV n k s)) := by
  have d1 : ¬ (n : Int) < 1 := by omega
  have d2 : ¬ (k : Int) < 1 := by omega
  have d3 : ¬ (65536 : Int) < (k : Int) := by omega
  have hm := make_int k (by omega) w
  have hbg : b < w.heap.size := h.lt
  obtain ⟨g, hg⟩ : ∃ g, g = w.heap.size := ⟨_, rfl⟩
  obtain ⟨w1, hw1⟩ : ∃ w1, w1 = w.alloc (.cells (madeCells #[.int .i64 0] k) 3) := ⟨_, rfl⟩
  have HA := Lib.hid (show At w1 .i64 g 0 (List.replicate k 0) from by rw [hw1, hg]; exact At.made w .i64 k 3)
  have HF := Lib.hid (show Fr w1 g 0 k from by rw [hw1, hg]; exact Fr.made w .i64 k k 3)
  have hst : Below w.heap.size w w1 := by rw [hw1]; exact below_alloc (Below.refl _ _) _
  have HD := Lib.hid (show Drawn w w1 b s from ⟨h.mono hst, Only.of_below hst hbg⟩)
  have HG := Lib.hid (show w.heap.size ≤ g by omega)
  have hgb : g ≠ b := by omega
  rw [← hw1, ← hg] at hm
  clear hst h hw1 hg
  go_enter Try.func17, Try.ntmps17
  go_wp2_with fail
  go_loopw [23] (fun i wr => ∃ (j : Nat) (L : List Nat), j ≤ k ∧ i = .int .i64 j ∧ L.length = k ∧ Hid (∀ m, m < j → L.getD m 0 = dbelowV n (ddrawS n m s)) ∧ Hid (At wr .i64 g 0 L) ∧ Hid (Fr wr g 0 k) ∧ Hid (Drawn w wr b (ddrawS n j s))) (fun i _ => k - (intOf i).toNat)
  case atStart => exact ⟨0, List.replicate k 0, Nat.zero_le _, rfl, List.length_replicate, Lib.hid (fun m hm => absurd hm (Nat.not_lt_zero m)), HA, HF, by rw [ddrawS_zero]; exact HD⟩
  case round =>
    clear HA HF HD
    obtain ⟨j, L, hj, rfl, hL, HV, HA, HF, HD⟩ := hrel
    by_cases hlt : j < k
    · go_wp2_with fail
      refine (dBelow_any b _ n wr HD.out.1 hn hn2).mono ?_
      rintro e w2 ⟨rfl, hD⟩
      have ho : Drawn w w2 b (ddrawS n (j + 1) s) := by rw [ddrawS_succ]; exact HD.out.trans hD
      obtain ⟨v, hv⟩ : ∃ v, v = dbelowV n (ddrawS n j s) := ⟨_, rfl⟩
      rw [← hv]
      have A2 := HA.out.only hD.2 hgb
      have F2 := HF.out.onlyOther hD.2 (HA.out.lt (by rw [hL]; omega)) hgb
      have c2 := A2.zero j (by omega)
      have f2 := F2.zero j (by omega)
      have i1 : (0 : Int) ≤ j := by omega
      have i2 : (j : Int) < k := by omega
      have HA2 := Lib.hid A2; have HF2 := Lib.hid F2; have HO := Lib.hid ho; have HVV := Lib.hid hv
      clear A2 F2 ho hv hD
      go_wp2
      go_roundw
      case rel =>
        refine ⟨j + 1, L.set j v, by omega, by go_num, by rw [List.length_set]; exact hL, Lib.hid (fun m hm => ?_), Lib.hid (HA2.out.put0 j v (by omega)), Lib.hid (HF2.out.setCell _ _), Lib.hid (HO.out.fresh HG.out hgb _ _)⟩
        rw [getD_set _ _ _ _ (by omega)]
        split
        · subst m; exact HVV.out
        · exact HV.out m (by omega)
      case measure => simp [intOf]; omega
    · obtain rfl : j = k := by omega
      have he : L = ddrawV n j s := ext_getD (by rw [hL, ddrawV_len]) (fun m hm => by rw [ddrawV_get (by omega)]; exact HV.out m (by omega))
      have HE := Lib.hid (show At wr .i64 g 0 (ddrawV n j s) from he ▸ HA.out)
      have hlen : (ddrawV n j s).length = j := ddrawV_len n j s
      go_wp2
      go_ret
      exact ⟨g, by rw [hlen]; rfl, HG.out, HE.out, by rw [hlen]; exact HF.out, HD.out⟩
theorem dDraw_any (b s n k : Nat) (w : World) (h : IsD w b s) (hn : 0 < n) (hn2 : n ≤ 9223372036854775807) (hk : 0 < k) (hk2 : k ≤ 65536) :
    Calls Try.prog 17 #[.pointer (some ⟨b, 0, none⟩), .int .i64 (n : Int), .int .i64 (k : Int)] w (RetRow w b (ddrawS n k s) (ddrawV n k s)) :=
  (dDraw_anyF b s n k w h hn hn2 hk hk2).mono fun _ _ h => h.row
end Go.Proofs.Ytfjjmhbffbhhdaa
