/- The smallest functions of the program's numbers. -/
import Derived.Test.YtfjjmhbffbhhdaaGreatDoorFmt
import Derived.WalkSpells
import Derived.WalkLawsBesides
import Derived.BigQuiet
import Derived.Lib.Hide
import Derived.Deep.QuietTactic
import Derived.Deep.RegionWith
import Derived.Deep.RegionHeld3
import Derived.Test.YtfjjmhbffbhhdaaGreatDoorDecTxt
import Derived.Test.YtfjjmhbffbhhdaaGreatDoorInv
namespace Go.Proofs.YtfjjmhbffbhhdaaGreatDoor
open Go.RowKit

set_option maxHeartbeats 400000 in
theorem of_any (n : Int) (w : World) :
    Calls Tryz.prog 24 #[.int .u64 n] w fun e w' => e = .returned (.agg #[.int .u64 n, .slice none 0 0]) ∧ Below w.heap.size w w' := by
  go_enter Tryz.func24, Tryz.ntmps24
  go_wp2
  exact bodyPost_ret (v := .agg #[.int .u64 n, .slice none 0 0]) (by simp [results, Tryz.results24, go_sem]) rfl ⟨rfl, below_alloc (Below.refl _ _) _⟩

set_option maxHeartbeats 400000 in
theorem short_any (n : Int) (s : Option Addr) (l c : Nat) (w : World) :
    Calls Tryz.prog 44 #[.agg #[.int .u64 n, .slice s l c]] w fun e w' => e = .returned (.bool ((l : Int) == 0)) ∧ Below w.heap.size w w' := by
  go_enter Tryz.func44, Tryz.ntmps44
  go_wp2
  go_ret
  exact ⟨rfl, below_alloc (Below.refl _ _) _⟩

theorem short_yes (n : Int) (s : Option Addr) (c : Nat) (w : World) :
    Calls Tryz.prog 44 #[.agg #[.int .u64 n, .slice s 0 c]] w fun e w' => e = .returned (.bool true) ∧ Below w.heap.size w w' :=
  (short_any n s 0 c w).mono fun _ _ ⟨h, k⟩ => ⟨h, k⟩

theorem short_no (n : Int) (s : Option Addr) (l c : Nat) (hl : 0 < l) (w : World) :
    Calls Tryz.prog 44 #[.agg #[.int .u64 n, .slice s l c]] w fun e w' => e = .returned (.bool false) ∧ Below w.heap.size w w' :=
  (short_any n s l c w).mono fun _ _ ⟨h, k⟩ => ⟨by rw [h]; congr 2; exact beq_eq_false_iff_ne.2 (by omega), k⟩

set_option maxHeartbeats 400000 in
theorem list_short (n : Nat) (hn : n < 2 ^ 64) (w : World) :
    Calls Tryz.prog 69 #[.agg #[.int .u64 (n : Int), .slice none 0 0]] w (RetL w .u64 (ds n)) := by
  have H := Lib.hid (ds_small hn)
  clear hn
  go_enter Tryz.func69, Tryz.ntmps69
  go_wp2_with (go_at_call 44; refine (short_yes _ _ _ _).mono ?_; rintro e w1 ⟨rfl, hb⟩; obtain ⟨hc, hf⟩ := bcell hb)
  go_ret
  rw [H.out]
  exact ⟨_, _, _, rfl, by simp, At.new1 _ _ _ _, (by repeat' first | exact Below.refl _ _ | refine below_alloc ?_ _ | refine below_step ?_ (by assumption))⟩

set_option maxHeartbeats 400000 in
theorem list_long (n b off l c : Nat) (hl : l = (ds n).length) (hc : l ≤ c) (w : World) (h : At w .u64 b off (ds n)) :
    Calls Tryz.prog 69 #[.agg #[.int .u64 0, .slice (some ⟨b, off, none⟩) l c]] w (RetL w .u64 (ds n)) := by
  have h0 : 0 < l := by rw [hl]; exact ds_pos n
  have H := Lib.hid hl
  clear hl
  go_enter Tryz.func69, Tryz.ntmps69
  go_wp2_with (go_at_call 44; refine (short_no _ _ _ _ h0 _).mono ?_; rintro e w1 ⟨rfl, hb⟩; obtain ⟨hc, hf⟩ := bcell hb)
  go_ret
  have HB : Below w.heap.size w w1 := (by repeat' first | exact Below.refl _ _ | refine below_alloc ?_ _ | refine below_step ?_ (by assumption))
  exact ⟨_, _, _, ret_slice H.out, by rw [← H.out]; assumption, h.mono HB, HB⟩

theorem list_any (n : Nat) (s : Int) (p : Option Addr) (l c : Nat) (w : World) (h : IsN w s p l c n) :
    Calls Tryz.prog 69 #[.agg #[.int .u64 s, .slice p l c]] w (RetL w .u64 (ds n)) := by
  rcases h with ⟨h1, rfl, rfl, rfl, rfl⟩ | ⟨h1, rfl, b, off, rfl, h4, h5, h6⟩
  · exact list_short n h1 w
  · exact list_long n b off l c h4 h5 w h6

set_option maxHeartbeats 400000 in
theorem trim_any (b off c : Nat) (xs : List Nat) (w : World) (h : At w .u64 b off xs) (hx : ∀ x ∈ xs, x < 2 ^ 64) (hl : xs.length ≤ 281474976710656) (hc : xs.length ≤ c) :
    Calls Tryz.prog 55 #[.slice (some ⟨b, off, none⟩) xs.length c] w (RetTrim w (2 ^ 64) b off c xs) := by
  have H := Lib.hid h; clear h
  have HX := Lib.hid hx; clear hx
  go_enter Tryz.func55, Tryz.ntmps55
  go_wp2
  go_loop [3] (fun i => ∃ k : Nat, k ≤ xs.length ∧ i = .int .i64 k ∧ Hid (∀ j, k ≤ j → j < xs.length → xs.getD j 0 = 0)) (fun i => (intOf i).toNat)
  case atStart => exact ⟨xs.length, Nat.le_refl _, rfl, Lib.hid fun j h1 h2 => by omega⟩
  case round =>
    obtain ⟨k, hk, rfl, HZ⟩ := hrel
    cases k with
    | zero =>
      go_wp2
      go_ret
      exact RetTrim.mk (by omega) HX.out hk HZ.out (fun h => absurd rfl h)
    | succ m =>
      have hcell := H.out m (by omega)
      have hz : xs.getD m 0 = 0 ∨ 0 < xs.getD m 0 := by omega
      generalize hy : xs.getD m 0 = y at *
      have HY := Lib.hid hy; clear hy
      rcases hz with rfl | hz
      · go_wp2
        go_round
        case rel => exact ⟨m, by omega, by go_num, Lib.hid fun j h1 h2 => by
          by_cases e : j = m
          · subst e; exact HY.out
          · exact HZ.out j (by omega) h2⟩
        case measure => simp [intOf]
      · go_wp2
        go_ret
        exact RetTrim.mk (by omega) HX.out hk HZ.out (fun _ => by rw [show m + 1 - 1 = m from rfl, HY.out]; omega)

set_option maxHeartbeats 400000 in
theorem rtrim_any (b off c : Nat) (xs : List Nat) (w : World) (h : At w .u32 b off xs) (hx : ∀ x ∈ xs, x < 2 ^ 32) (hl : xs.length ≤ 281474976710656) (hc : xs.length ≤ c) :
    Calls Tryz.prog 34 #[.slice (some ⟨b, off, none⟩) xs.length c] w (RetTrim w (2 ^ 32) b off c xs) := by
  have H := Lib.hid h; clear h
  have HX := Lib.hid hx; clear hx
  go_enter Tryz.func34, Tryz.ntmps34
  go_wp2
  go_loop [3] (fun i => ∃ k : Nat, k ≤ xs.length ∧ i = .int .i64 k ∧ Hid (∀ j, k ≤ j → j < xs.length → xs.getD j 0 = 0)) (fun i => (intOf i).toNat)
  case atStart => exact ⟨xs.length, Nat.le_refl _, rfl, Lib.hid fun j h1 h2 => by omega⟩
  case round =>
    obtain ⟨k, hk, rfl, HZ⟩ := hrel
    cases k with
    | zero =>
      go_wp2
      go_ret
      exact RetTrim.mk (by omega) HX.out hk HZ.out (fun h => absurd rfl h)
    | succ m =>
      have hcell := H.out m (by omega)
      have hz : xs.getD m 0 = 0 ∨ 0 < xs.getD m 0 := by omega
      generalize hy : xs.getD m 0 = y at *
      have HY := Lib.hid hy; clear hy
      rcases hz with rfl | hz
      · go_wp2
        go_round
        case rel => exact ⟨m, by omega, by go_num, Lib.hid fun j h1 h2 => by
          by_cases e : j = m
          · subst e; exact HY.out
          · exact HZ.out j (by omega) h2⟩
        case measure => simp [intOf]
      · go_wp2
        go_ret
        exact RetTrim.mk (by omega) HX.out hk HZ.out (fun _ => by rw [show m + 1 - 1 = m from rfl, HY.out]; omega)

theorem trim_cases {b off : Nat} {xs : List Nat} {w : World} (h : At w .u64 b off xs) (ht : xs.take (digs (2 ^ 64) (val (2 ^ 64) xs)).length = digs (2 ^ 64) (val (2 ^ 64) xs)) :
    At w .u64 b off (dw (val (2 ^ 64) xs)) := by
  unfold dw; rw [← ht]; exact h.take _

theorem trim_n (b off c l n : Nat) (xs : List Nat) (hl' : xs.length = l) (w : World) (h : At w .u64 b off xs) (hx : ∀ x ∈ xs, x < 2 ^ 64) (hl : l ≤ 281474976710656) (hc : l ≤ c)
    (hn : (dw (val (2 ^ 64) xs)).length = n) :
    Calls Tryz.prog 55 #[.slice (some ⟨b, off, none⟩) l c] w fun e w' => w = w' ∧ e = .returned (.slice (some ⟨b, off, none⟩) n c) := by
  subst hl' hn
  exact (trim_any b off c xs w h hx hl hc).mono fun e w' ⟨h1, h2, _⟩ => ⟨h1, h2⟩

set_option maxHeartbeats 400000 in
theorem ofWords0 (b off c l : Nat) (w : World) (T : ∀ w', Below w.heap.size w w' → Calls Tryz.prog 55 #[.slice (some ⟨b, off, none⟩) l c] w' fun e w1 => w' = w1 ∧ e = .returned (.slice (some ⟨b, off, none⟩) 0 c)) :
    Calls Tryz.prog 67 #[.slice (some ⟨b, off, none⟩) l c] w (RetN w 0) := by
  have T' := T _ (below_alloc (Below.refl _ _) (.cells #[.int .u64 0, .slice none 0 0] 26))
  clear T
  go_enter Tryz.func67, Tryz.ntmps67
  go_wp2_with (go_at_call 55; refine T'.mono ?_; rintro e w1 ⟨rfl, rfl⟩)
  exact bodyPost_ret (v := .agg #[.int .u64 0, .slice none 0 0]) (by simp [results, Tryz.results67, go_sem]) rfl (RetN.short (n := 0) (by omega) (by repeat' first | exact Below.refl _ _ | refine below_alloc ?_ _ | refine below_step ?_ (by assumption)))

set_option maxHeartbeats 400000 in
theorem ofWords1 (b off c l x : Nat) (w : World) (hx : x < 2 ^ 64) (hcell : w.cell? ⟨b, off, none⟩ = some (.int .u64 (x : Int))) (T : ∀ w', Below w.heap.size w w' → Calls Tryz.prog 55 #[.slice (some ⟨b, off, none⟩) l c] w' fun e w1 => w' = w1 ∧ e = .returned (.slice (some ⟨b, off, none⟩) 1 c)) :
    Calls Tryz.prog 67 #[.slice (some ⟨b, off, none⟩) l c] w (RetN w x) := by
  have T' := T _ (below_alloc (Below.refl _ _) (.cells #[.int .u64 0, .slice none 0 0] 26))
  have hb := World.block_lt_of_cell? _ _ hcell
  have HX := Lib.hid hx
  clear T hx
  go_enter Tryz.func67, Tryz.ntmps67
  go_wp2_with (first | (go_at_call 55; refine T'.mono ?_; rintro e w1 ⟨rfl, rfl⟩) | (go_at_call 24; refine (of_any _ _).mono ?_; rintro e w1 ⟨rfl, hb⟩; obtain ⟨hc, hf⟩ := bcell hb))
  have HB : Below w.heap.size w w1 := (by repeat' first | exact Below.refl _ _ | refine below_alloc ?_ _ | refine below_step ?_ (by assumption))
  have hz : w.heap.size < w1.heap.size := by have := hb.size; simp at this; omega
  exact bodyPost_ret (v := .agg #[.int .u64 x, .slice none 0 0]) (by simp [results, Tryz.results67, go_sem, hc]) rfl (RetN.short HX.out (by repeat' first | exact HB | (refine Below.setCell ?_ (by simp) _)))
set_option maxHeartbeats 400000 in
theorem ofWords2 (b off c l k : Nat) (hk : 2 ≤ k) (w : World) (T : ∀ w', Below w.heap.size w w' → Calls Tryz.prog 55 #[.slice (some ⟨b, off, none⟩) l c] w' fun e w1 => w' = w1 ∧ e = .returned (.slice (some ⟨b, off, none⟩) k c)) :
    Calls Tryz.prog 67 #[.slice (some ⟨b, off, none⟩) l c] w fun e w' => e = .returned (.agg #[.int .u64 0, .slice (some ⟨b, off, none⟩) k c]) ∧ Below w.heap.size w w' := by
  have T' := T _ (below_alloc (Below.refl _ _) (.cells #[.int .u64 0, .slice none 0 0] 26))
  have d0 : ((k : Int) == 0) = false := beq_eq_false_iff_ne.2 (by omega)
  have d1 : ((k : Int) == 1) = false := beq_eq_false_iff_ne.2 (by omega)
  clear T hk
  go_enter Tryz.func67, Tryz.ntmps67
  go_wp2_with (go_at_call 55; refine T'.mono ?_; rintro e w1 ⟨rfl, rfl⟩)
  exact bodyPost_ret (v := .agg #[.int .u64 0, .slice (some ⟨b, off, none⟩) k c]) (by simp [results, Tryz.results67, go_sem]) rfl ⟨rfl, (by repeat' first | exact Below.refl _ _ | refine below_alloc ?_ _ | refine below_step ?_ (by assumption))⟩

theorem ofWords_any (b off c l : Nat) (xs : List Nat) (hl' : xs.length = l) (w : World) (h : At w .u64 b off xs) (hx : ∀ x ∈ xs, x < 2 ^ 64) (hl : l ≤ 281474976710656) (hc : l ≤ c) :
    Calls Tryz.prog 67 #[.slice (some ⟨b, off, none⟩) l c] w (RetN w (val (2 ^ 64) xs)) := by
  subst hl'
  have ht := (trim_any b off c xs w h hx hl hc)
  have ht : xs.take (dw (val (2 ^ 64) xs)).length = dw (val (2 ^ 64) xs) := by
    obtain ⟨e, w', _, hr, _⟩ := ht []
    exact hr.2.2
  have hlen : (dw (val (2 ^ 64) xs)).length ≤ xs.length := by rw [← ht, List.length_take]; omega
  have hA := trim_cases h ht
  have T : ∀ n, (dw (val (2 ^ 64) xs)).length = n → ∀ w', Below w.heap.size w w' → Calls Tryz.prog 55 #[.slice (some ⟨b, off, none⟩) xs.length c] w' fun e w1 => w' = w1 ∧ e = .returned (.slice (some ⟨b, off, none⟩) n c) :=
    fun n hn w' hb => trim_n b off c xs.length n xs rfl w' (h.mono hb) hx hl hc hn
  by_cases h0 : val (2 ^ 64) xs = 0
  · rw [h0]
    exact ofWords0 b off c _ w (T 0 (by rw [h0]; unfold dw; rw [digs_zero]; rfl))
  · by_cases h1 : val (2 ^ 64) xs < 2 ^ 64
    · have e := ds_small h1
      rw [ds_big h0] at e
      have hcell := hA 0 (by rw [e]; simp)
      rw [e] at hcell
      exact ofWords1 b off c _ _ w h1 (by simpa using hcell) (T 1 (by rw [e]; rfl))
    · have e2 := ds_two (n := val (2 ^ 64) xs) (by omega)
      rw [ds_big h0] at e2
      refine (ofWords2 b off c _ _ e2 w (T _ rfl)).mono fun e w' ⟨he, hb⟩ => ?_
      rw [he]
      exact ⟨_, _, _, _, rfl, Or.inr ⟨by omega, rfl, b, off, rfl, by rw [ds_big h0], by omega, by rw [ds_big h0]; exact hA.mono hb⟩, hb⟩

set_option maxHeartbeats 400000 in
theorem ofTwo_zero (n : Nat) (hn : n < 2 ^ 64) (w : World) : Calls Tryz.prog 65 #[.int .u64 0, .int .u64 (n : Int)] w (RetN w n) := by
  have HX := Lib.hid hn; clear hn
  go_enter Tryz.func65, Tryz.ntmps65
  go_wp2_with (go_at_call 24; refine (of_any _ _).mono ?_; rintro e w1 ⟨rfl, hb⟩; obtain ⟨hc, hf⟩ := bcell hb)
  have hz : w.heap.size < w1.heap.size := by have := hb.size; simp at this; omega
  have HB : Below w.heap.size w w1 := (by repeat' first | exact Below.refl _ _ | refine below_alloc ?_ _ | refine below_step ?_ (by assumption))
  exact bodyPost_ret (v := .agg #[.int .u64 n, .slice none 0 0]) (by simp [results, Tryz.results65, go_sem, hc]) rfl (RetN.short HX.out (by repeat' first | exact HB | (refine Below.setCell ?_ (by simp) _)))

set_option maxHeartbeats 400000 in
theorem ofTwo_more (m n : Nat) (hm : m < 2 ^ 64) (hn : n < 2 ^ 64) (h0 : 0 < m) (w : World) : Calls Tryz.prog 65 #[.int .u64 (m : Int), .int .u64 (n : Int)] w (RetN w (m * 2 ^ 64 + n)) := by
  have hv : dw (m * 2 ^ 64 + n) = [n, m] := by
    have := digs_val (b := 2 ^ 64) (by omega) [n, m] (by simp; omega) (by simp; omega)
    rw [← this]; congr 1; simp [val]; omega
  have H : Hid (At (((w.alloc (.cells #[.int .u64 0, .slice (some ⟨w.heap.size + 1, 0, none⟩) 2 2] 26)).alloc (.cells #[.int .u64 (n : Int), .int .u64 (m : Int)] 23))) .u64 (w.heap.size + 1) 0 (dw (m * 2 ^ 64 + n))) := by
    rw [hv]
    have := At.new2 (w.alloc (.cells #[.int .u64 0, .slice (some ⟨w.heap.size + 1, 0, none⟩) 2 2] 26)) .u64 n m 23
    exact Lib.hid (by simpa using this)
  have HN := Lib.hid (show 2 ^ 64 ≤ m * 2 ^ 64 + n ∧ (dw (m * 2 ^ 64 + n)).length = 2 from ⟨by omega, by rw [hv]; rfl⟩)
  have d0 : ((m : Int) == 0) = false := beq_eq_false_iff_ne.2 (by omega)
  clear hv hm hn h0
  go_enter Tryz.func65, Tryz.ntmps65
  go_wp2
  refine bodyPost_ret (v := .agg #[.int .u64 0, .slice (some ⟨w.heap.size + 1, 0, none⟩) 2 2]) (by simp [results, Tryz.results65, go_sem]) rfl ?_
  have e := ds_big (n := m * 2 ^ 64 + n) (by have := HN.out.1; omega)
  exact ⟨_, _, _, _, rfl, Or.inr ⟨HN.out.1, rfl, _, _, rfl, by rw [e, HN.out.2], by omega, by rw [e]; exact H.out⟩, (by repeat' first | exact Below.refl _ _ | refine below_alloc ?_ _ | refine below_step ?_ (by assumption))⟩

set_option maxHeartbeats 400000 in
theorem nsmall_any (s : Int) (p : Option Addr) (l c : Nat) (w : World) : Calls Tryz.prog 25 #[.agg #[.int .u64 s, .slice p l c]] w fun e w' => e = .returned (.tuple #[.int .u64 s, .bool ((l : Int) == 0)]) ∧ Below w.heap.size w w' := by
  go_enter Tryz.func25, Tryz.ntmps25
  go_wp2
  go_region_with (go_at_call 44; refine (short_any _ _ _ _ _).mono ?_; rintro e w1 ⟨rfl, hb⟩; obtain ⟨hc, hf⟩ := bcell hb)
  all_goals
    go_wp2
    go_ret2
    exact ⟨rfl, (by repeat' first | exact Below.refl _ _ | refine below_alloc ?_ _ | refine Below.drew ?_ | refine below_step ?_ (by assumption))⟩

set_option maxHeartbeats 400000 in
theorem cmpU_any (x y : Int) (w : World) : Calls Tryz.prog 60 #[.int .u64 x, .int .u64 y] w fun e w' => w = w' ∧ e = .returned (.int .i64 (cmp3 x y)) := by
  have n1 : ∀ x : Int, ∀ w, Calls Tryz.prog 85 #[.int .u64 x] w fun e w' => w = w' ∧ e = .returned (.bool false) := by
    intro x w
    go_enter Tryz.func85, Tryz.ntmps85
    go_wp2
    go_ret
    exact ⟨rfl, rfl⟩
  go_enter Tryz.func60, Tryz.ntmps60
  go_wp2_with (go_at_call 85; refine (n1 _ _).mono ?_; rintro e w1 ⟨rfl, rfl⟩)
  all_goals
    go_ret
    exact ⟨rfl, ret_int (by unfold cmp3; first | rw [if_pos (by assumption)] | (rw [if_neg (by omega)]; first | rw [if_pos (by assumption)] | rw [if_neg (by omega)]))⟩

set_option maxHeartbeats 400000 in
theorem cmpI_any (x y : Int) (w : World) : Calls Tryz.prog 86 #[.int .i64 x, .int .i64 y] w fun e w' => w = w' ∧ e = .returned (.int .i64 (cmp3 x y)) := by
  have n1 : ∀ x : Int, ∀ w, Calls Tryz.prog 105 #[.int .i64 x] w fun e w' => w = w' ∧ e = .returned (.bool false) := by
    intro x w
    go_enter Tryz.func105, Tryz.ntmps105
    go_wp2
    go_ret
    exact ⟨rfl, rfl⟩
  go_enter Tryz.func86, Tryz.ntmps86
  go_wp2_with (go_at_call 105; refine (n1 _ _).mono ?_; rintro e w1 ⟨rfl, rfl⟩)
  all_goals
    go_ret
    exact ⟨rfl, ret_int (by unfold cmp3; first | rw [if_pos (by assumption)] | (rw [if_neg (by omega)]; first | rw [if_pos (by assumption)] | rw [if_neg (by omega)]))⟩
end Go.Proofs.YtfjjmhbffbhhdaaGreatDoor

/- Lehmer's leaps: the leading words of two numbers determine steps of Euclid's algorithm (numbers alone). -/
namespace Go.Proofs.YtfjjmhbffbhhdaaGreatDoor

structure Run (X Y K a b A B u0 u1 u2 v0 v1 v2 P Q q : Nat) (odd : Bool) : Prop where
  e1 : v2 * A + v1 * B = a
  e2 : u2 * A + u1 * B = b
  f1 : v1 * P + v0 * Q = X
  f2 : u1 * P + u0 * Q = Y
  r1 : v2 = v0 + q * v1
  r2 : u2 = u0 + q * u1
  d1 : odd = true → u1 * v0 = u0 * v1 + 1
  d0 : odd = false → u0 * v1 = u1 * v0 + 1
  lt : Q < P
  qy : Q ≤ Y
  py : v0 ≠ 0 → P ≤ Y
  yx : Y < X
  uv1 : u1 ≤ v1
  uv2 : u2 ≤ v2
  ba : B < A
  q1 : 1 ≤ q

theorem Run.start {X Y K a b : Nat} (ha : a = X / K) (hb : b = Y / K) (h1 : 1 ≤ b) (h2 : 1 ≤ a - b) :
    Run X Y K a b b (a % b) 1 0 (1 + a / b * 0) 0 1 (0 + a / b * 1) X Y (a / b) false := by
  have hYX : Y < X := by
    rcases Nat.lt_or_ge Y X with h | h
    · exact h
    · have : a ≤ b := by rw [ha, hb]; exact Nat.div_le_div_right h
      omega
  have hm := Nat.div_add_mod a b
  have hq : 1 ≤ a / b := by rw [Nat.le_div_iff_mul_le (by omega)]; omega
  refine ⟨?_, by simp, by simp, by simp, by simp, by simp, by simp, by simp, hYX, Nat.le_refl _, fun h => absurd rfl h, hYX, by omega, by omega, Nat.mod_lt _ (by omega), hq⟩
  rw [Nat.zero_add, Nat.mul_one, Nat.one_mul, Nat.mul_comm (a / b) b]
  exact hm

section
variable {X Y K a b A B u0 u1 u2 v0 v1 v2 P Q q : Nat} {odd : Bool}

theorem Run.vpos (h : Run X Y K a b A B u0 u1 u2 v0 v1 v2 P Q q odd) : 1 ≤ v1 := by
  rcases Nat.eq_zero_or_pos v1 with h0 | h0
  · have h1 := h.uv1
    have h2 := h.d1; have h3 := h.d0
    obtain rfl : u1 = 0 := by omega
    subst h0
    cases odd
    · have := h3 rfl; omega
    · have := h2 rfl; omega
  · exact h0

theorem ring1 (v0 v1 q Q R : Nat) : (v0 + q * v1) * Q + v1 * R = v1 * (q * Q + R) + v0 * Q := by grind
theorem Run.step (h : Run X Y K a b A B u0 u1 u2 v0 v1 v2 P Q q odd) (hK : 0 < K) (ha : a = X / K) (hb : b = Y / K) (c1 : v2 ≤ B) (c2 : v1 + v2 ≤ A - B) :
    Run X Y K a b B (A % B) u1 u2 (u1 + A / B * u2) v1 v2 (v1 + A / B * v2) Q (P - q * Q) (A / B) (!odd) ∧ q * Q ≤ P := by
  have hv := h.vpos
  obtain ⟨e1, e2, f1, f2, r1, r2, d1, d0, lt, qy, py, yx, uv1, uv2, ba, _⟩ := h
  have hv2 : 1 ≤ v2 := by
    rcases Nat.eq_zero_or_pos v2 with h0 | h0
    · exfalso
      have hu2 : u2 = 0 := by omega
      have hv0 : v0 = 0 := by omega
      have hq1 : q * v1 = 0 := by omega
      have hq0 : q = 0 := by rcases Nat.mul_eq_zero.1 hq1 with h | h <;> omega
      subst hq0
      have hu0 : u0 = 0 := by omega
      subst hu0; subst hv0
      cases odd
      · have := d0 rfl; omega
      · have := d1 rfl; omega
    · exact h0
  have hB : 0 < B := by omega
  obtain ⟨α, hα⟩ : ∃ α, α = X % K := ⟨_, rfl⟩
  obtain ⟨β, hβ⟩ : ∃ β, β = Y % K := ⟨_, rfl⟩
  have hαK : α < K := by rw [hα]; exact Nat.mod_lt _ hK
  have hβK : β < K := by rw [hβ]; exact Nat.mod_lt _ hK
  have hX : a * K + α = X := by rw [ha, hα, Nat.mul_comm]; exact Nat.div_add_mod X K
  have hY : b * K + β = Y := by rw [hb, hβ, Nat.mul_comm]; exact Nat.div_add_mod Y K
  have hm := Nat.div_add_mod A B
  have hmB : A % B < B := Nat.mod_lt _ hB
  have ht1 : 1 ≤ A / B := by rw [Nat.le_div_iff_mul_le hB]; omega
  have key : q * Q ≤ P ∧ P < q * Q + Q := by
    have m1 : u2 * α ≤ u2 * K := Nat.mul_le_mul_left _ (by omega)
    have m2 : u2 * K ≤ B * K := Nat.mul_le_mul_right _ (by omega)
    have m3 : v2 * β ≤ v2 * K := Nat.mul_le_mul_left _ (by omega)
    have m4 : v2 * K ≤ B * K := Nat.mul_le_mul_right _ c1
    have m5 : (v1 + v2) * β < (v1 + v2) * K := Nat.mul_lt_mul_of_pos_left hβK (by omega)
    have m6 : (v1 + v2) * K ≤ (A - B) * K := Nat.mul_le_mul_right _ c2
    have m7 : (u1 + u2) * α ≤ (v1 + v2) * α := Nat.mul_le_mul_right _ (by omega)
    have m8 : (v1 + v2) * α < (v1 + v2) * K := Nat.mul_lt_mul_of_pos_left hαK (by omega)
    obtain ⟨C, hC⟩ : ∃ C, A = B + C := ⟨A - B, by omega⟩
    have hAB : A - B = C := by omega
    rw [hAB] at m6
    clear hm hmB ht1 c1 c2 lt qy py yx ba hα hβ ha hb hAB
    subst hC
    cases odd with
    | true =>
      have d := d1 rfl
      clear d1 d0
      have k1 : P + u2 * α = q * Q + (B * K + v2 * β) := by grind
      have k2 : Q + (q * Q + (v1 + v2) * β) = P + (C * K + (u1 + u2) * α) := by grind
      constructor
      · omega
      · omega
    | false =>
      have d := d0 rfl
      clear d1 d0
      have k1 : P + v2 * β = q * Q + (B * K + u2 * α) := by grind
      have k2 : Q + (q * Q + (u1 + u2) * α) = P + (C * K + (v1 + v2) * β) := by grind
      constructor
      · omega
      · omega
  refine ⟨⟨?_, ?_, ?_, ?_, rfl, rfl, ?_, ?_, by omega, by omega, fun _ => qy, yx, uv2, ?_, hmB, ht1⟩, key.1⟩
  · grind
  · grind
  · obtain ⟨R, hR⟩ : ∃ R, P = q * Q + R := ⟨P - q * Q, by have := key.1; omega⟩
    rw [show P - q * Q = R by omega, ← f1, r1, hR]
    exact ring1 v0 v1 q Q R
  · obtain ⟨R, hR⟩ : ∃ R, P = q * Q + R := ⟨P - q * Q, by have := key.1; omega⟩
    rw [show P - q * Q = R by omega, ← f2, r2, hR]
    exact ring1 u0 u1 q Q R
  · intro ho
    have d := d0 (by cases odd <;> simp_all)
    grind
  · intro ho
    have d := d1 (by cases odd <;> simp_all)
    grind
  · have : A / B * u2 ≤ A / B * v2 := Nat.mul_le_mul_left _ uv2
    omega

theorem Run.odd_eqs (h : Run X Y K a b A B u0 u1 u2 v0 v1 v2 P Q q true) : P + u0 * X = v0 * Y ∧ Q + v1 * Y = u1 * X := by
  obtain ⟨e1, e2, f1, f2, r1, r2, d1, d0, lt, qy, py, yx, uv1, uv2, ba, _⟩ := h
  have d := d1 rfl
  subst f1; subst f2
  constructor <;> grind
theorem Run.even_eqs (h : Run X Y K a b A B u0 u1 u2 v0 v1 v2 P Q q false) : P + v0 * Y = u0 * X ∧ Q + u1 * X = v1 * Y := by
  obtain ⟨e1, e2, f1, f2, r1, r2, d1, d0, lt, qy, py, yx, uv1, uv2, ba, _⟩ := h
  have d := d0 rfl
  subst f1; subst f2
  constructor <;> grind
theorem dvd_of_add {g m n k : Nat} (h : m + n = k) (h1 : g ∣ n) (h2 : g ∣ k) : g ∣ m := (Nat.dvd_add_left h1).1 (by rw [h]; exact h2)
theorem Run.gcd (h : Run X Y K a b A B u0 u1 u2 v0 v1 v2 P Q q odd) : Nat.gcd P Q = Nat.gcd X Y := by
  refine Nat.dvd_antisymm (Nat.dvd_gcd ?_ ?_) (Nat.dvd_gcd ?_ ?_)
  · rw [← h.f1]; exact Nat.dvd_add (Nat.dvd_trans (Nat.gcd_dvd_left _ _) (Nat.dvd_mul_left _ _)) (Nat.dvd_trans (Nat.gcd_dvd_right _ _) (Nat.dvd_mul_left _ _))
  · rw [← h.f2]; exact Nat.dvd_add (Nat.dvd_trans (Nat.gcd_dvd_left _ _) (Nat.dvd_mul_left _ _)) (Nat.dvd_trans (Nat.gcd_dvd_right _ _) (Nat.dvd_mul_left _ _))
  · cases odd
    · exact dvd_of_add h.even_eqs.1 (Nat.dvd_trans (Nat.gcd_dvd_right _ _) (Nat.dvd_mul_left _ _)) (Nat.dvd_trans (Nat.gcd_dvd_left _ _) (Nat.dvd_mul_left _ _))
    · exact dvd_of_add h.odd_eqs.1 (Nat.dvd_trans (Nat.gcd_dvd_left _ _) (Nat.dvd_mul_left _ _)) (Nat.dvd_trans (Nat.gcd_dvd_right _ _) (Nat.dvd_mul_left _ _))
  · cases odd
    · exact dvd_of_add h.even_eqs.2 (Nat.dvd_trans (Nat.gcd_dvd_left _ _) (Nat.dvd_mul_left _ _)) (Nat.dvd_trans (Nat.gcd_dvd_right _ _) (Nat.dvd_mul_left _ _))
    · exact dvd_of_add h.odd_eqs.2 (Nat.dvd_trans (Nat.gcd_dvd_right _ _) (Nat.dvd_mul_left _ _)) (Nat.dvd_trans (Nat.gcd_dvd_left _ _) (Nat.dvd_mul_left _ _))
theorem Run.short (h : Run X Y K a b A B u0 u1 u2 v0 v1 v2 P Q q odd) : v2 ≤ a ∧ u2 ≤ b := by
  have hA : 0 < A := by have := h.ba; omega
  have h1 := h.e1; have h2 := h.e2
  have h3 : v2 * 1 ≤ v2 * A := Nat.mul_le_mul_left _ hA
  have h4 : u2 * 1 ≤ u2 * A := Nat.mul_le_mul_left _ hA
  omega
theorem Run.words (h : Run X Y K a b A B u0 u1 u2 v0 v1 v2 P Q q odd) : u0 ≤ b ∧ u1 ≤ b ∧ v0 ≤ a ∧ v1 ≤ a := by
  have h1 := h.short; have h2 := h.r1; have h3 := h.r2
  have h4 : 1 * v1 ≤ q * v1 := Nat.mul_le_mul_right _ h.q1
  have h5 : 1 * u1 ≤ q * u1 := Nat.mul_le_mul_right _ h.q1
  omega
end
end Go.Proofs.YtfjjmhbffbhhdaaGreatDoor

/- The leap that two leading words determine: the program's. -/
namespace Go.Proofs.YtfjjmhbffbhhdaaGreatDoor
open Go.RowKit

def LeapSt (X Y K a b A B u0 u1 u2 v0 v1 v2 : Nat) (odd : Bool) : Prop :=
  (A = a ∧ B = b ∧ u0 = 0 ∧ u1 = 1 ∧ u2 = 0 ∧ v0 = 0 ∧ v1 = 0 ∧ v2 = 1 ∧ odd = true) ∨ ∃ P Q q, Run X Y K a b A B u0 u1 u2 v0 v1 v2 P Q q odd

section
variable {X Y K a b A B u0 u1 u2 v0 v1 v2 : Nat} {odd : Bool}
theorem LeapSt.le (h : LeapSt X Y K a b A B u0 u1 u2 v0 v1 v2 odd) (hba : b ≤ a) : B ≤ A ∧ A ≤ a ∧ 1 ≤ v2 := by
  rcases h with ⟨rfl, rfl, _, _, _, _, _, rfl, _⟩ | ⟨P, Q, q, h⟩
  · omega
  · have h1 := h.ba; have h2 := h.e1; have h3 := h.vpos; have h4 := h.r1; have h5 := h.uv2
    have hv2 : 1 ≤ v2 := by
      rcases Nat.eq_zero_or_pos v2 with h0 | h0
      · exfalso
        have hu2 : u2 = 0 := by omega
        have hv0 : v0 = 0 := by omega
        have hq1 : q * v1 = 0 := by omega
        have hq0 : q = 0 := by rcases Nat.mul_eq_zero.1 hq1 with h | h <;> omega
        have h6 := h.r2
        subst hq0
        have hu0 : u0 = 0 := by omega
        subst hu0; subst hv0
        have h7 := h.d1; have h8 := h.d0
        cases odd
        · have := h8 rfl; omega
        · have := h7 rfl; omega
      · exact h0
    have : 1 * A ≤ v2 * A := Nat.mul_le_mul_right _ hv2
    omega
theorem LeapSt.short (h : LeapSt X Y K a b A B u0 u1 u2 v0 v1 v2 odd) (ha : 1 ≤ a) : u2 ≤ b ∧ v2 ≤ a := by
  rcases h with ⟨rfl, rfl, _, _, rfl, _, _, rfl, _⟩ | ⟨P, Q, q, h⟩
  · omega
  · have := h.short; omega
theorem LeapSt.sum (h : LeapSt X Y K a b A B u0 u1 u2 v0 v1 v2 odd) (ha : 1 ≤ a) (hB : 1 ≤ B) : v1 + v2 ≤ a := by
  rcases h with ⟨rfl, rfl, _, _, _, _, rfl, rfl, _⟩ | ⟨P, Q, q, h⟩
  · omega
  · have h1 := h.e1; have h2 := h.ba
    have h3 : v2 * 1 ≤ v2 * A := Nat.mul_le_mul_left _ (by omega)
    have h4 : v1 * 1 ≤ v1 * B := Nat.mul_le_mul_left _ hB
    omega
theorem LeapSt.step (h : LeapSt X Y K a b A B u0 u1 u2 v0 v1 v2 odd) (hK : 0 < K) (ha : a = X / K) (hb : b = Y / K) (c1 : v2 ≤ B) (c2 : v1 + v2 ≤ A - B) :
    LeapSt X Y K a b B (A % B) u1 u2 (u1 + A / B * u2) v1 v2 (v1 + A / B * v2) (!odd) := by
  rcases h with ⟨rfl, rfl, rfl, rfl, rfl, rfl, rfl, rfl, rfl⟩ | ⟨P, Q, q, h⟩
  · exact Or.inr ⟨_, _, _, Run.start ha hb (by omega) (by omega)⟩
  · exact Or.inr ⟨_, _, _, (h.step hK ha hb c1 c2).1⟩
end

inductive VWant where
  | is (v : Value)
  | any
def VMeans (_ : World) : VWant → Value → Prop
  | .is x, v => v = x
  | .any, _ => True
def VTab (t : List VWant) (off : Nat) (i : Nat) (v : Value) (w : World) : Prop := VMeans w (t.getD (i - off) .any) v
theorem VTab.stable {t : List VWant} {off : Nat} : ∀ i v w w', Below w.heap.size w w' → VTab t off i v w → VTab t off i v w' := fun _ _ _ _ _ h => h
structure LBox (b : Nat) (w : World) : Prop where
  c0 : w.cell? ⟨b, 0, none⟩ = some (.int .u64 0)
  c1 : w.cell? ⟨b, 1, none⟩ = some (.int .u64 0)
  c2 : w.cell? ⟨b, 2, none⟩ = some (.int .u64 0)
  c3 : w.cell? ⟨b, 3, none⟩ = some (.int .u64 0)
  c4 : w.cell? ⟨b, 4, none⟩ = some (.bool false)
  f0 : w.frozen? ⟨b, 0, none⟩ = false
  f1 : w.frozen? ⟨b, 1, none⟩ = false
  f2 : w.frozen? ⟨b, 2, none⟩ = false
  f3 : w.frozen? ⟨b, 3, none⟩ = false
  f4 : w.frozen? ⟨b, 4, none⟩ = false
theorem LBox.below {b : Nat} {w w' : World} (h : LBox b w) (hb : Below w.heap.size w w') : LBox b w' :=
  have hl : b < w.heap.size := World.block_lt_of_cell? _ _ h.c0
  ⟨by rw [hb.cell hl]; exact h.c0, by rw [hb.cell hl]; exact h.c1, by rw [hb.cell hl]; exact h.c2, by rw [hb.cell hl]; exact h.c3, by rw [hb.cell hl]; exact h.c4,
    by rw [hb.frozen hl]; exact h.f0, by rw [hb.frozen hl]; exact h.f1, by rw [hb.frozen hl]; exact h.f2, by rw [hb.frozen hl]; exact h.f3, by rw [hb.frozen hl]; exact h.f4⟩

end Go.Proofs.YtfjjmhbffbhhdaaGreatDoor
