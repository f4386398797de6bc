/- The smallest functions of the program's numbers. -/
import Derived.Test.YtfjjmhbffbhhdaaDoorCut
import Derived.WalkSpells
import Derived.WalkLawsBesides
import Derived.BigQuiet
import Derived.Lib.Hide
import Derived.Deep.QuietTactic
import Derived.Deep.RegionWith
import Derived.Deep.RegionHeld3
namespace Go.Proofs.YtfjjmhbffbhhdaaDoor
open Go.RowKit

set_option maxHeartbeats 400000 in
theorem of_any (n : Int) (w : World) :
    Calls Tryd.prog 6 #[.int .u64 n] w fun e w' => e = .returned (.agg #[.int .u64 n, .slice none 0 0]) ∧ Below w.heap.size w w' := by
  go_enter Tryd.func6, Tryd.ntmps6
  go_wp2
  exact bodyPost_ret (v := .agg #[.int .u64 n, .slice none 0 0]) (by simp [results, Tryd.results6, go_sem]) rfl ⟨rfl, below_alloc (Below.refl _ _) _⟩

set_option maxHeartbeats 400000 in
theorem short_any (n : Int) (s : Option Addr) (l c : Nat) (w : World) :
    Calls Tryd.prog 28 #[.agg #[.int .u64 n, .slice s l c]] w fun e w' => e = .returned (.bool ((l : Int) == 0)) ∧ Below w.heap.size w w' := by
  go_enter Tryd.func28, Tryd.ntmps28
  go_wp2
  go_ret
  exact ⟨rfl, below_alloc (Below.refl _ _) _⟩

theorem short_yes (n : Int) (s : Option Addr) (c : Nat) (w : World) :
    Calls Tryd.prog 28 #[.agg #[.int .u64 n, .slice s 0 c]] w fun e w' => e = .returned (.bool true) ∧ Below w.heap.size w w' :=
  (short_any n s 0 c w).mono fun _ _ ⟨h, k⟩ => ⟨h, k⟩

theorem short_no (n : Int) (s : Option Addr) (l c : Nat) (hl : 0 < l) (w : World) :
    Calls Tryd.prog 28 #[.agg #[.int .u64 n, .slice s l c]] w fun e w' => e = .returned (.bool false) ∧ Below w.heap.size w w' :=
  (short_any n s l c w).mono fun _ _ ⟨h, k⟩ => ⟨by rw [h]; congr 2; exact beq_eq_false_iff_ne.2 (by omega), k⟩

set_option maxHeartbeats 400000 in
theorem list_short (n : Nat) (hn : n < 2 ^ 64) (w : World) :
    Calls Tryd.prog 31 #[.agg #[.int .u64 (n : Int), .slice none 0 0]] w (RetL w .u64 (ds n)) := by
  have H := Lib.hid (ds_small hn)
  clear hn
  go_enter Tryd.func31, Tryd.ntmps31
  go_wp2_with (go_at_call 28; refine (short_yes _ _ _ _).mono ?_; rintro e w1 ⟨rfl, hb⟩; obtain ⟨hc, hf⟩ := bcell hb)
  go_ret
  rw [H.out]
  exact ⟨_, _, _, rfl, by simp, At.new1 _ _ _ _, (by repeat' first | exact Below.refl _ _ | refine below_alloc ?_ _ | refine below_step ?_ (by assumption))⟩

set_option maxHeartbeats 400000 in
theorem list_long (n b off l c : Nat) (hl : l = (ds n).length) (hc : l ≤ c) (w : World) (h : At w .u64 b off (ds n)) :
    Calls Tryd.prog 31 #[.agg #[.int .u64 0, .slice (some ⟨b, off, none⟩) l c]] w (RetL w .u64 (ds n)) := by
  have h0 : 0 < l := by rw [hl]; exact ds_pos n
  have H := Lib.hid hl
  clear hl
  go_enter Tryd.func31, Tryd.ntmps31
  go_wp2_with (go_at_call 28; refine (short_no _ _ _ _ h0 _).mono ?_; rintro e w1 ⟨rfl, hb⟩; obtain ⟨hc, hf⟩ := bcell hb)
  go_ret
  have HB : Below w.heap.size w w1 := (by repeat' first | exact Below.refl _ _ | refine below_alloc ?_ _ | refine below_step ?_ (by assumption))
  exact ⟨_, _, _, ret_slice H.out, by rw [← H.out]; assumption, h.mono HB, HB⟩

theorem list_any (n : Nat) (s : Int) (p : Option Addr) (l c : Nat) (w : World) (h : IsN w s p l c n) :
    Calls Tryd.prog 31 #[.agg #[.int .u64 s, .slice p l c]] w (RetL w .u64 (ds n)) := by
  rcases h with ⟨h1, rfl, rfl, rfl, rfl⟩ | ⟨h1, rfl, b, off, rfl, h4, h5, h6⟩
  · exact list_short n h1 w
  · exact list_long n b off l c h4 h5 w h6

set_option maxHeartbeats 400000 in
theorem trim_any (b off c : Nat) (xs : List Nat) (w : World) (h : At w .u64 b off xs) (hx : ∀ x ∈ xs, x < 2 ^ 64) (hl : xs.length ≤ 281474976710656) (hc : xs.length ≤ c) :
    Calls Tryd.prog 40 #[.slice (some ⟨b, off, none⟩) xs.length c] w (RetTrim w (2 ^ 64) b off c xs) := by
  have H := Lib.hid h; clear h
  have HX := Lib.hid hx; clear hx
  go_enter Tryd.func40, Tryd.ntmps40
  go_wp2
  go_loop [3] (fun i => ∃ k : Nat, k ≤ xs.length ∧ i = .int .i64 k ∧ Hid (∀ j, k ≤ j → j < xs.length → xs.getD j 0 = 0)) (fun i => (intOf i).toNat)
  case atStart => exact ⟨xs.length, Nat.le_refl _, rfl, Lib.hid fun j h1 h2 => by omega⟩
  case round =>
    obtain ⟨k, hk, rfl, HZ⟩ := hrel
    cases k with
    | zero =>
      go_wp2
      go_ret
      exact RetTrim.mk (by omega) HX.out hk HZ.out (fun h => absurd rfl h)
    | succ m =>
      have hcell := H.out m (by omega)
      have hz : xs.getD m 0 = 0 ∨ 0 < xs.getD m 0 := by omega
      generalize hy : xs.getD m 0 = y at *
      have HY := Lib.hid hy; clear hy
      rcases hz with rfl | hz
      · go_wp2
        go_round
        case rel => exact ⟨m, by omega, by go_num, Lib.hid fun j h1 h2 => by
          by_cases e : j = m
          · subst e; exact HY.out
          · exact HZ.out j (by omega) h2⟩
        case measure => simp [intOf]
      · go_wp2
        go_ret
        exact RetTrim.mk (by omega) HX.out hk HZ.out (fun _ => by rw [show m + 1 - 1 = m from rfl, HY.out]; omega)

set_option maxHeartbeats 400000 in
theorem rtrim_any (b off c : Nat) (xs : List Nat) (w : World) (h : At w .u32 b off xs) (hx : ∀ x ∈ xs, x < 2 ^ 32) (hl : xs.length ≤ 281474976710656) (hc : xs.length ≤ c) :
    Calls Tryd.prog 76 #[.slice (some ⟨b, off, none⟩) xs.length c] w (RetTrim w (2 ^ 32) b off c xs) := by
  have H := Lib.hid h; clear h
  have HX := Lib.hid hx; clear hx
  go_enter Tryd.func76, Tryd.ntmps76
  go_wp2
  go_loop [3] (fun i => ∃ k : Nat, k ≤ xs.length ∧ i = .int .i64 k ∧ Hid (∀ j, k ≤ j → j < xs.length → xs.getD j 0 = 0)) (fun i => (intOf i).toNat)
  case atStart => exact ⟨xs.length, Nat.le_refl _, rfl, Lib.hid fun j h1 h2 => by omega⟩
  case round =>
    obtain ⟨k, hk, rfl, HZ⟩ := hrel
    cases k with
    | zero =>
      go_wp2
      go_ret
      exact RetTrim.mk (by omega) HX.out hk HZ.out (fun h => absurd rfl h)
    | succ m =>
      have hcell := H.out m (by omega)
      have hz : xs.getD m 0 = 0 ∨ 0 < xs.getD m 0 := by omega
      generalize hy : xs.getD m 0 = y at *
      have HY := Lib.hid hy; clear hy
      rcases hz with rfl | hz
      · go_wp2
        go_round
        case rel => exact ⟨m, by omega, by go_num, Lib.hid fun j h1 h2 => by
          by_cases e : j = m
          · subst e; exact HY.out
          · exact HZ.out j (by omega) h2⟩
        case measure => simp [intOf]
      · go_wp2
        go_ret
        exact RetTrim.mk (by omega) HX.out hk HZ.out (fun _ => by rw [show m + 1 - 1 = m from rfl, HY.out]; omega)

theorem trim_cases {b off : Nat} {xs : List Nat} {w : World} (h : At w .u64 b off xs) (ht : xs.take (digs (2 ^ 64) (val (2 ^ 64) xs)).length = digs (2 ^ 64) (val (2 ^ 64) xs)) :
    At w .u64 b off (dw (val (2 ^ 64) xs)) := by
  unfold dw; rw [← ht]; exact h.take _

theorem trim_n (b off c l n : Nat) (xs : List Nat) (hl' : xs.length = l) (w : World) (h : At w .u64 b off xs) (hx : ∀ x ∈ xs, x < 2 ^ 64) (hl : l ≤ 281474976710656) (hc : l ≤ c)
    (hn : (dw (val (2 ^ 64) xs)).length = n) :
    Calls Tryd.prog 40 #[.slice (some ⟨b, off, none⟩) l c] w fun e w' => w = w' ∧ e = .returned (.slice (some ⟨b, off, none⟩) n c) := by
  subst hl' hn
  exact (trim_any b off c xs w h hx hl hc).mono fun e w' ⟨h1, h2, _⟩ => ⟨h1, h2⟩

set_option maxHeartbeats 400000 in
theorem ofWords0 (b off c l : Nat) (w : World) (T : ∀ w', Below w.heap.size w w' → Calls Tryd.prog 40 #[.slice (some ⟨b, off, none⟩) l c] w' fun e w1 => w' = w1 ∧ e = .returned (.slice (some ⟨b, off, none⟩) 0 c)) :
    Calls Tryd.prog 32 #[.slice (some ⟨b, off, none⟩) l c] w (RetN w 0) := by
  have T' := T _ (below_alloc (Below.refl _ _) (.cells #[.int .u64 0, .slice none 0 0] 25))
  clear T
  go_enter Tryd.func32, Tryd.ntmps32
  go_wp2_with (go_at_call 40; refine T'.mono ?_; rintro e w1 ⟨rfl, rfl⟩)
  exact bodyPost_ret (v := .agg #[.int .u64 0, .slice none 0 0]) (by simp [results, Tryd.results32, go_sem]) rfl (RetN.short (n := 0) (by omega) (by repeat' first | exact Below.refl _ _ | refine below_alloc ?_ _ | refine below_step ?_ (by assumption)))

set_option maxHeartbeats 400000 in
theorem ofWords1 (b off c l x : Nat) (w : World) (hx : x < 2 ^ 64) (hcell : w.cell? ⟨b, off, none⟩ = some (.int .u64 (x : Int))) (T : ∀ w', Below w.heap.size w w' → Calls Tryd.prog 40 #[.slice (some ⟨b, off, none⟩) l c] w' fun e w1 => w' = w1 ∧ e = .returned (.slice (some ⟨b, off, none⟩) 1 c)) :
    Calls Tryd.prog 32 #[.slice (some ⟨b, off, none⟩) l c] w (RetN w x) := by
  have T' := T _ (below_alloc (Below.refl _ _) (.cells #[.int .u64 0, .slice none 0 0] 25))
  have hb := World.block_lt_of_cell? _ _ hcell
  have HX := Lib.hid hx
  clear T hx
  go_enter Tryd.func32, Tryd.ntmps32
  go_wp2_with (first | (go_at_call 40; refine T'.mono ?_; rintro e w1 ⟨rfl, rfl⟩) | (go_at_call 6; refine (of_any _ _).mono ?_; rintro e w1 ⟨rfl, hb⟩; obtain ⟨hc, hf⟩ := bcell hb))
  have HB : Below w.heap.size w w1 := (by repeat' first | exact Below.refl _ _ | refine below_alloc ?_ _ | refine below_step ?_ (by assumption))
  have hz : w.heap.size < w1.heap.size := by have := hb.size; simp at this; omega
  exact bodyPost_ret (v := .agg #[.int .u64 x, .slice none 0 0]) (by simp [results, Tryd.results32, go_sem, hc]) rfl (RetN.short HX.out (by repeat' first | exact HB | (refine Below.setCell ?_ (by simp) _)))
set_option maxHeartbeats 400000 in
theorem ofWords2 (b off c l k : Nat) (hk : 2 ≤ k) (w : World) (T : ∀ w', Below w.heap.size w w' → Calls Tryd.prog 40 #[.slice (some ⟨b, off, none⟩) l c] w' fun e w1 => w' = w1 ∧ e = .returned (.slice (some ⟨b, off, none⟩) k c)) :
    Calls Tryd.prog 32 #[.slice (some ⟨b, off, none⟩) l c] w fun e w' => e = .returned (.agg #[.int .u64 0, .slice (some ⟨b, off, none⟩) k c]) ∧ Below w.heap.size w w' := by
  have T' := T _ (below_alloc (Below.refl _ _) (.cells #[.int .u64 0, .slice none 0 0] 25))
  have d0 : ((k : Int) == 0) = false := beq_eq_false_iff_ne.2 (by omega)
  have d1 : ((k : Int) == 1) = false := beq_eq_false_iff_ne.2 (by omega)
  clear T hk
  go_enter Tryd.func32, Tryd.ntmps32
  go_wp2_with (go_at_call 40; refine T'.mono ?_; rintro e w1 ⟨rfl, rfl⟩)
  exact bodyPost_ret (v := .agg #[.int .u64 0, .slice (some ⟨b, off, none⟩) k c]) (by simp [results, Tryd.results32, go_sem]) rfl ⟨rfl, (by repeat' first | exact Below.refl _ _ | refine below_alloc ?_ _ | refine below_step ?_ (by assumption))⟩

theorem ofWords_any (b off c l : Nat) (xs : List Nat) (hl' : xs.length = l) (w : World) (h : At w .u64 b off xs) (hx : ∀ x ∈ xs, x < 2 ^ 64) (hl : l ≤ 281474976710656) (hc : l ≤ c) :
    Calls Tryd.prog 32 #[.slice (some ⟨b, off, none⟩) l c] w (RetN w (val (2 ^ 64) xs)) := by
  subst hl'
  have ht := (trim_any b off c xs w h hx hl hc)
  have ht : xs.take (dw (val (2 ^ 64) xs)).length = dw (val (2 ^ 64) xs) := by
    obtain ⟨e, w', _, hr, _⟩ := ht []
    exact hr.2.2
  have hlen : (dw (val (2 ^ 64) xs)).length ≤ xs.length := by rw [← ht, List.length_take]; omega
  have hA := trim_cases h ht
  have T : ∀ n, (dw (val (2 ^ 64) xs)).length = n → ∀ w', Below w.heap.size w w' → Calls Tryd.prog 40 #[.slice (some ⟨b, off, none⟩) xs.length c] w' fun e w1 => w' = w1 ∧ e = .returned (.slice (some ⟨b, off, none⟩) n c) :=
    fun n hn w' hb => trim_n b off c xs.length n xs rfl w' (h.mono hb) hx hl hc hn
  by_cases h0 : val (2 ^ 64) xs = 0
  · rw [h0]
    exact ofWords0 b off c _ w (T 0 (by rw [h0]; unfold dw; rw [digs_zero]; rfl))
  · by_cases h1 : val (2 ^ 64) xs < 2 ^ 64
    · have e := ds_small h1
      rw [ds_big h0] at e
      have hcell := hA 0 (by rw [e]; simp)
      rw [e] at hcell
      exact ofWords1 b off c _ _ w h1 (by simpa using hcell) (T 1 (by rw [e]; rfl))
    · have e2 := ds_two (n := val (2 ^ 64) xs) (by omega)
      rw [ds_big h0] at e2
      refine (ofWords2 b off c _ _ e2 w (T _ rfl)).mono fun e w' ⟨he, hb⟩ => ?_
      rw [he]
      exact ⟨_, _, _, _, rfl, Or.inr ⟨by omega, rfl, b, off, rfl, by rw [ds_big h0], by omega, by rw [ds_big h0]; exact hA.mono hb⟩, hb⟩

set_option maxHeartbeats 400000 in
theorem ofTwo_zero (n : Nat) (hn : n < 2 ^ 64) (w : World) : Calls Tryd.prog 54 #[.int .u64 0, .int .u64 (n : Int)] w (RetN w n) := by
  have HX := Lib.hid hn; clear hn
  go_enter Tryd.func54, Tryd.ntmps54
  go_wp2_with (go_at_call 6; refine (of_any _ _).mono ?_; rintro e w1 ⟨rfl, hb⟩; obtain ⟨hc, hf⟩ := bcell hb)
  have hz : w.heap.size < w1.heap.size := by have := hb.size; simp at this; omega
  have HB : Below w.heap.size w w1 := (by repeat' first | exact Below.refl _ _ | refine below_alloc ?_ _ | refine below_step ?_ (by assumption))
  exact bodyPost_ret (v := .agg #[.int .u64 n, .slice none 0 0]) (by simp [results, Tryd.results54, go_sem, hc]) rfl (RetN.short HX.out (by repeat' first | exact HB | (refine Below.setCell ?_ (by simp) _)))

set_option maxHeartbeats 400000 in
theorem ofTwo_more (m n : Nat) (hm : m < 2 ^ 64) (hn : n < 2 ^ 64) (h0 : 0 < m) (w : World) : Calls Tryd.prog 54 #[.int .u64 (m : Int), .int .u64 (n : Int)] w (RetN w (m * 2 ^ 64 + n)) := by
  have hv : dw (m * 2 ^ 64 + n) = [n, m] := by
    have := digs_val (b := 2 ^ 64) (by omega) [n, m] (by simp; omega) (by simp; omega)
    rw [← this]; congr 1; simp [val]; omega
  have H : Hid (At (((w.alloc (.cells #[.int .u64 0, .slice (some ⟨w.heap.size + 1, 0, none⟩) 2 2] 25)).alloc (.cells #[.int .u64 (n : Int), .int .u64 (m : Int)] 22))) .u64 (w.heap.size + 1) 0 (dw (m * 2 ^ 64 + n))) := by
    rw [hv]
    have := At.new2 (w.alloc (.cells #[.int .u64 0, .slice (some ⟨w.heap.size + 1, 0, none⟩) 2 2] 25)) .u64 n m 22
    exact Lib.hid (by simpa using this)
  have HN := Lib.hid (show 2 ^ 64 ≤ m * 2 ^ 64 + n ∧ (dw (m * 2 ^ 64 + n)).length = 2 from ⟨by omega, by rw [hv]; rfl⟩)
  have d0 : ((m : Int) == 0) = false := beq_eq_false_iff_ne.2 (by omega)
  clear hv hm hn h0
  go_enter Tryd.func54, Tryd.ntmps54
  go_wp2
  refine bodyPost_ret (v := .agg #[.int .u64 0, .slice (some ⟨w.heap.size + 1, 0, none⟩) 2 2]) (by simp [results, Tryd.results54, go_sem]) rfl ?_
  have e := ds_big (n := m * 2 ^ 64 + n) (by have := HN.out.1; omega)
  exact ⟨_, _, _, _, rfl, Or.inr ⟨HN.out.1, rfl, _, _, rfl, by rw [e, HN.out.2], by omega, by rw [e]; exact H.out⟩, (by repeat' first | exact Below.refl _ _ | refine below_alloc ?_ _ | refine below_step ?_ (by assumption))⟩

set_option maxHeartbeats 400000 in
theorem nsmall_any (s : Int) (p : Option Addr) (l c : Nat) (w : World) : Calls Tryd.prog 9 #[.agg #[.int .u64 s, .slice p l c]] w fun e w' => e = .returned (.tuple #[.int .u64 s, .bool ((l : Int) == 0)]) ∧ Below w.heap.size w w' := by
  go_enter Tryd.func9, Tryd.ntmps9
  go_wp2
  go_region_with (go_at_call 28; refine (short_any _ _ _ _ _).mono ?_; rintro e w1 ⟨rfl, hb⟩; obtain ⟨hc, hf⟩ := bcell hb)
  all_goals
    go_wp2
    go_ret2
    exact ⟨rfl, (by repeat' first | exact Below.refl _ _ | refine below_alloc ?_ _ | refine Below.drew ?_ | refine below_step ?_ (by assumption))⟩

set_option maxHeartbeats 400000 in
theorem cmpU_any (x y : Int) (w : World) : Calls Tryd.prog 44 #[.int .u64 x, .int .u64 y] w fun e w' => w = w' ∧ e = .returned (.int .i64 (cmp3 x y)) := by
  have n1 : ∀ x : Int, ∀ w, Calls Tryd.prog 74 #[.int .u64 x] w fun e w' => w = w' ∧ e = .returned (.bool false) := by
    intro x w
    go_enter Tryd.func74, Tryd.ntmps74
    go_wp2
    go_ret
    exact ⟨rfl, rfl⟩
  go_enter Tryd.func44, Tryd.ntmps44
  go_wp2_with (go_at_call 74; refine (n1 _ _).mono ?_; rintro e w1 ⟨rfl, rfl⟩)
  all_goals
    go_ret
    exact ⟨rfl, ret_int (by unfold cmp3; first | rw [if_pos (by assumption)] | (rw [if_neg (by omega)]; first | rw [if_pos (by assumption)] | rw [if_neg (by omega)]))⟩

set_option maxHeartbeats 400000 in
theorem cmpI_any (x y : Int) (w : World) : Calls Tryd.prog 75 #[.int .i64 x, .int .i64 y] w fun e w' => w = w' ∧ e = .returned (.int .i64 (cmp3 x y)) := by
  have n1 : ∀ x : Int, ∀ w, Calls Tryd.prog 88 #[.int .i64 x] w fun e w' => w = w' ∧ e = .returned (.bool false) := by
    intro x w
    go_enter Tryd.func88, Tryd.ntmps88
    go_wp2
    go_ret
    exact ⟨rfl, rfl⟩
  go_enter Tryd.func75, Tryd.ntmps75
  go_wp2_with (go_at_call 88; refine (n1 _ _).mono ?_; rintro e w1 ⟨rfl, rfl⟩)
  all_goals
    go_ret
    exact ⟨rfl, ret_int (by unfold cmp3; first | rw [if_pos (by assumption)] | (rw [if_neg (by omega)]; first | rw [if_pos (by assumption)] | rw [if_neg (by omega)]))⟩
end Go.Proofs.YtfjjmhbffbhhdaaDoor
