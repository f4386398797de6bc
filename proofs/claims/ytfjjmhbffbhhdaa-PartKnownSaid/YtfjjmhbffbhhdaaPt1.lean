/- Rows of numbers of a call's own; the rows that a list leaves. -/
import Derived.Test.YtfjjmhbffbhhdaaD6
import Derived.Test.YtfjjmhbffbhhdaaOwn
import Derived.Laws.AppendOwn
namespace Go.Proofs.Ytfjjmhbffbhhdaa
open Go.RowKit

/-- A slice of the call's own, or none: these numbers. -/
def RowV (w : World) (B : Nat) (v : Value) (xs : List Nat) : Prop :=
  (v = .slice none 0 0 ∧ xs = []) ∨ ∃ g c, v = .slice (some ⟨g, 0, none⟩) xs.length c ∧ B ≤ g ∧ At w .i64 g 0 xs ∧ Fr w g 0 xs.length
theorem RowV.mono {w w' : World} {B : Nat} {v : Value} {xs : List Nat} (h : RowV w B v xs) (hb : Below w.heap.size w w') : RowV w' B v xs := by
  rcases h with h | ⟨g, c, rfl, h1, h2, h3⟩
  · exact .inl h
  · refine .inr ⟨g, c, rfl, h1, h2.mono hb, ?_⟩
    rcases Nat.eq_zero_or_pos xs.length with h0 | h0
    · rw [h0]; exact fun i hi => absurd hi (Nat.not_lt_zero i)
    · exact h3.mono hb (h2.lt h0)
theorem RowV.own {w : World} {B : Nat} {v : Value} {xs : List Nat} (h : w.ownsRow B 3 1 v xs.length (cellsOfRow .i64 xs)) : RowV w B v xs := by
  rcases id h.2 with ⟨rfl, h0⟩ | ⟨g, c, cur, rfl, _⟩
  · exact .inl ⟨rfl, List.eq_nil_of_length_eq_zero h0⟩
  · obtain ⟨h1, _, h2, h3⟩ := ownsRow_at h rfl
    exact .inr ⟨g, c, rfl, h1, h2, h3⟩

/-- Block g holds a flag for each of n places. -/
def Flags (w : World) (g n : Nat) (f : Nat → Bool) : Prop := ∀ m, m < n → w.cell? ⟨g, m, none⟩ = some (.bool (f m)) ∧ w.frozen? ⟨g, m, none⟩ = false
theorem Flags.set {w : World} {g n : Nat} {f : Nat → Bool} (h : Flags w g n f) (x : Nat) (hx : x < n) : Flags (w.setCell ⟨g, x, none⟩ (.bool true)) g n (fun m => f m || m == x) := by
  intro m hm
  refine ⟨?_, by rw [World.frozen?_setCell]; exact (h m hm).2⟩
  by_cases e : m = x
  · subst e; rw [World.cell?_setCell_same _ _ _ (h m hm).1]; simp
  · rw [World.cell?_setCell_other _ _ _ _ (by intro e2; injection e2; omega), (h m hm).1]; simp [e]
theorem Flags.congr {w : World} {g n : Nat} {f f' : Nat → Bool} (h : Flags w g n f) (e : ∀ m, m < n → f m = f' m) : Flags w g n f' := fun m hm => by rw [← e m hm]; exact h m hm
theorem Flags.block {w w' : World} {g n : Nat} {f : Nat → Bool} (h : Flags w g n f) (hb : w'.heap[g]? = w.heap[g]?) : Flags w' g n f := fun m hm =>
  ⟨by rw [World.cell?_of_block (w := w) hb]; exact (h m hm).1, by rw [World.frozen?_of_block (w := w) hb]; exact (h m hm).2⟩
theorem Flags.lt {w : World} {g n : Nat} {f : Nat → Bool} (h : Flags w g n f) (h0 : 0 < n) : g < w.heap.size := World.block_lt_of_cell? w ⟨g, 0, none⟩ (h 0 h0).1

theorem Try.infoB : (Try.prog.info? 4).map (fun i => (i.zero, i.size, i.bytes)) = some (some (.bool false), 1, 1) := by kernel_rfl
theorem make_bool (n : Nat) (hn : n ≤ 1099511627776) (w : World) : (Instr.makeSlice 54 (.int .i64 (n : Int)) (.int .i64 (n : Int))).run Try.prog w = .ok (.slice (some ⟨w.heap.size, 0, none⟩) n n) (w.alloc (.cells (madeCells #[.bool false] n) 4)) := by
  obtain ⟨i0, h1, h2, h3, h4⟩ : ∃ i0, Try.prog.info? 4 = some i0 ∧ i0.zero = some (.bool false) ∧ i0.size = 1 ∧ i0.bytes = 1 := by
    have h := Try.infoB
    cases hi : Try.prog.info? 4 with
    | none => rw [hi] at h; cases h
    | some i => rw [hi] at h; simp only [Option.map_some, Option.some.injEq, Prod.mk.injEq] at h; exact ⟨i, rfl, h.1, h.2.1, h.2.2⟩
  have hb' : (i0.bytes : Int) * (n : Int) ≤ 281474976710656 := by rw [h4]; omega
  have hr := run_make (P := Try.prog) w 54 4 i0 _ Try.underlying54 h1 h2 .i64 .i64 n n (by omega) (by omega) hb' (by omega)
  simp only [Int.toNat_natCast, h3, Nat.mul_one] at hr
  exact hr
theorem Flags.made (w : World) (n : Nat) (t : TypeId) : Flags (w.alloc (.cells (madeCells #[.bool false] n) t)) w.heap.size n (fun _ => false) := by
  intro i hi
  refine ⟨?_, World.frozen?_alloc_at _ _ _ _ rfl⟩
  rw [World.cell?_alloc_at _ _ _ _ rfl]
  simp [madeCells, hi, Nat.mod_one]

/-- The rows below n that xs has not. -/
def restL (n : Nat) (xs : List Nat) : List Nat := (List.range n).filter fun m => !xs.contains m
theorem restL_step (f : Nat → Bool) (j : Nat) : (List.range (j + 1)).filter f = (List.range j).filter f ++ if f j then [j] else [] := by
  rw [List.range_succ, List.filter_append]
  congr 1
  cases h : f j <;> simp [h]
theorem take_contains {xs : List Nat} {j x : Nat} (hj : j < xs.length) (hx : x = xs.getD j 0) (m : Nat) : ((xs.take j).contains m || m == x) = (xs.take (j + 1)).contains m := by
  have e : xs.take (j + 1) = xs.take j ++ [x] := by
    rw [List.take_add_one, hx, List.getD_eq_getElem?_getD]; simp [hj]
  rw [e, List.contains_eq_any_beq, List.contains_eq_any_beq, List.any_append]
  simp [List.any_cons]
theorem restL_len (n : Nat) (xs : List Nat) : (restL n xs).length ≤ n := by
  have := List.length_filter_le (fun m => !xs.contains m) (List.range n)
  rw [List.length_range] at this
  exact this

theorem news_one (w : World) (x : Nat) (t : TypeId) : At (w.alloc (.cells #[.int .i64 (x : Int)] t)) .i64 w.heap.size 0 [x] := by
  intro i hi
  obtain rfl : i = 0 := by simpa using hi
  rw [World.cell?_alloc_at _ _ _ _ rfl]; rfl

set_option maxRecDepth 100000 in
set_option maxHeartbeats 2000000 in
theorem rest_any (n g k c : Nat) (xs : List Nat) (w : World) (hn : 0 < n) (hn2 : n ≤ 300) (hk : xs.length = k) (hk2 : k ≤ 1000000) (hx : ∀ i, i < k → xs.getD i 0 < 9223372036854775808) (h : At w .i64 g 0 xs) (hg : g < w.heap.size) :
    Calls Try.prog 14 #[.int .i64 (n : Int), .slice (some ⟨g, 0, none⟩) k c] w fun e w' => ∃ v, e = .returned v ∧ RowV w' w.heap.size v (restL n xs) ∧ Below w.heap.size w w' := by
  have d1 : ¬ (n : Int) < 1 := by omega
  have d2 : ¬ (300 : Int) < (n : Int) := by omega
  have hm := make_bool n (by omega) w
  obtain ⟨t, ht⟩ : ∃ t, t = w.heap.size := ⟨_, rfl⟩
  obtain ⟨w1, hw1⟩ : ∃ w1, w1 = w.alloc (.cells (madeCells #[.bool false] n) 4) := ⟨_, rfl⟩
  have hst : Below w.heap.size w w1 := by rw [hw1]; exact below_alloc (Below.refl _ _) _
  have HB := Lib.hid hst
  have HT := Lib.hid (show Flags w1 t n (fun m => (xs.take 0).contains m) from by rw [hw1, ht]; exact (Flags.made w n 4).congr fun m _ => by simp)
  have HA := Lib.hid (h.mono hst)
  have HX := Lib.hid hx
  have hgt : g < t := by omega
  have HW := Lib.hid ht
  rw [← hw1, ← ht] at hm
  clear hst h hw1 ht hx hg
  go_enter Try.func14, Try.ntmps14
  go_wp2_with fail
  go_loopw [21] (fun i wr => ∃ j : Nat, j ≤ k ∧ i = .int .i64 j ∧ Hid (Flags wr t n (fun m => (xs.take j).contains m)) ∧ Hid (At wr .i64 g 0 xs) ∧ Hid (Below w.heap.size w wr)) (fun i _ => k - (intOf i).toNat)
  case atStart => exact ⟨0, Nat.zero_le _, rfl, HT, HA, HB⟩
  case round =>
    clear HT HA HB
    obtain ⟨j, hj, rfl, HT, HA, HB⟩ := hrel
    by_cases hlt : j < k
    · have c1 := HA.out.zero j (by omega)
      have hxj := HX.out j hlt
      obtain ⟨x, hxe⟩ : ∃ x, x = xs.getD j 0 := ⟨_, rfl⟩
      rw [← hxe] at c1 hxj
      have HE := Lib.hid hxe
      have i1 : (0 : Int) ≤ j := by omega
      have i2 : (j : Int) < k := by omega
      have i3 : (0 : Int) ≤ x := by omega
      clear hxe
      by_cases hxn : x < n
      · have i4 : (x : Int) < n := by omega
        have f1 := (HT.out x hxn).2
        have c2 := (HT.out x hxn).1
        go_wp2
        go_roundw
        case rel => exact ⟨j + 1, by omega, by go_num, Lib.hid ((HT.out.set x hxn).congr fun m _ => take_contains (by omega) HE.out m), Lib.hid (HA.out.setOther ⟨t, x, none⟩ _ (by show t ≠ g; omega)), Lib.hid (HB.out.setCell (by show w.heap.size ≤ t; rw [HW.out]; exact Nat.le_refl _) _)⟩
        case measure => simp [intOf]; omega
      · have i4 : ¬ (x : Int) < n := by omega
        go_wp2
        go_roundw
        case rel => exact ⟨j + 1, by omega, by go_num, Lib.hid (HT.out.congr fun m hm => by rw [← take_contains (x := x) (by omega) HE.out m]; simp; omega), HA, HB⟩
        case measure => simp [intOf]; omega
    · obtain rfl : j = k := by omega
      have HT0 := Lib.hid (show Flags wr t n (fun m => xs.contains m) from HT.out.congr fun m _ => by rw [List.take_of_length_le (by omega)])
      clear HT HA HX hlt
      go_wp2_with fail
      obtain ⟨i0, hi, hz0, hz1, hz2⟩ := info_parts Try.infoI
      go_loopw [38, 8] (fun i v wr => ∃ (m : Nat) (ys : List Nat), m ≤ n ∧ i = .int .i64 m ∧ Hid (ys = (List.range m).filter fun m => !xs.contains m) ∧ ys.length ≤ m ∧ Hid (wr.ownsRow (t + 1) 3 1 v ys.length (cellsOfRow .i64 ys)) ∧ Hid (Flags wr t n (fun m => xs.contains m)) ∧ Hid (Below w.heap.size w wr)) (fun i _ _ => n - (intOf i).toNat)
      case atStart => exact ⟨0, [], Nat.zero_le _, rfl, Lib.hid rfl, Nat.le_refl _, Lib.hid (World.ownsRow_nil _ _ _ _), HT0, HB⟩
      case round =>
        clear HT0 HB
        obtain ⟨m, ys, hm2, rfl, HY, hyl, HO, HT, HB⟩ := hrel
        by_cases hlt : m < n
        · have c1 := (HT.out m hlt).1
          have i1 : (0 : Int) ≤ m := by omega
          have i2 : (m : Int) < n := by omega
          have hs := restL_step (fun m => !xs.contains m) m
          replace c1 : wr.cell? ⟨t, m, none⟩ = some (.bool (xs.contains m)) := c1
          cases hc : xs.contains m with
          | true =>
            rw [hc] at c1 hs
            have HS := Lib.hid hs
            clear hs hc
            go_wp2
            go_roundw
            case rel => exact ⟨m + 1, ys, by omega, by go_num, Lib.hid (by rw [HS.out, HY.out]; simp), by omega, HO, HT, HB⟩
            case measure => simp [intOf]; omega
          | false =>
            rw [hc] at c1 hs
            have HS := Lib.hid hs
            clear hs hc
            have hln := cells_len .i64 [m]
            have hown := HO.out.alloc (.cells #[.int .i64 (m : Int)] 3)
            have hte : t + 1 ≤ (wr.alloc (.cells #[.int .i64 (m : Int)] 3)).heap.size := by
              have := HT.out.lt (by omega)
              simp only [World.alloc, Array.size_push]; omega
            go_wp2_with (at_builtin; go_loud (refine wpList_append_own _ rfl (.tmp 45) (.tmp 47) 27 rfl (t + 1) 3 i0 (.int .i64 0) 1 8 Try.underlying27 hi hz0 hz1 hz2 rfl (by decide) _ ys.length (cellsOfRow .i64 ys) rfl hown ⟨wr.heap.size, 0, none⟩ 1 1 (cellsOfRow .i64 [m]) rfl hln (cells_at (news_one wr m 3)) (cells_one _ _) (by unfold maxLen; omega) (by omega) hte ?_))
            intro v' w' h1 h2 _
            rw [← cells_app, show ys.length + 1 = (ys ++ [m]).length from by simp] at h1
            have hne : some t ≠ Value.ownBlock u8 := fun e => by have := (HO.out.lt t e.symm).1; omega
            have hb2 : Below w.heap.size w w' := ((HB.out.alloc HB.out.size _).grown h2 (by have := HB.out.size; simp only [World.alloc, Array.size_push]; omega) (fun k hk => by have := (HO.out.lt k hk).1; have := HW.out; omega))
            have hT2 : Flags w' t n (fun m => xs.contains m) := (HT.out.block (heap_alloc_old wr _ (HT.out.lt (by omega)))).block (h2.block t (by have := HT.out.lt (by omega); simp only [World.alloc, Array.size_push]; omega) hne)
            have H1 := Lib.hid h1; have HB2 := Lib.hid hb2; have HT2 := Lib.hid hT2
            clear h1 h2 hne hb2 hT2 hown hte hln
            go_wp2
            go_roundw
            case rel => exact ⟨m + 1, ys ++ [m], by omega, by go_num, Lib.hid (by rw [HS.out, HY.out]; simp), by simp; omega, H1, HT2, HB2⟩
            case measure => simp [intOf]; omega
        · obtain rfl : m = n := by omega
          have he : ys = restL m xs := HY.out
          subst he
          go_wp2
          go_ret
          refine ⟨_, rfl, ?_, HB.out⟩
          rcases RowV.own HO.out with h | ⟨g', c', h1, h2, h3⟩
          · exact .inl h
          · exact .inr ⟨g', c', h1, by have := HW.out; omega, h3⟩
end Go.Proofs.Ytfjjmhbffbhhdaa
