/- A row sorted; the rows of a bag; the laws' example. -/
import Derived.Test.YtfjjmhbffbhhdaaPt1
import Derived.Test.YtfjjmhbffbhhdaaShelf
import Derived.Sort.Row
namespace Go.Proofs.Ytfjjmhbffbhhdaa
open Go.RowKit

/-- The numbers in order. -/
def srt (xs : List Nat) : List Nat := xs.mergeSort fun x y => decide (x ≤ y)
theorem srt_len (xs : List Nat) : (srt xs).length = xs.length := List.length_mergeSort ..
theorem srt_perm (xs : List Nat) : (srt xs).Perm xs := List.mergeSort_perm ..
theorem srt_mem {xs : List Nat} {x : Nat} : x ∈ srt xs ↔ x ∈ xs := (srt_perm xs).mem_iff
theorem srt_count (xs : List Nat) (x : Nat) : (srt xs).count x = xs.count x := (srt_perm xs).count_eq x
theorem srt_sorted (xs : List Nat) : (srt xs).Pairwise fun x y => x ≤ y := by
  have h := List.pairwise_mergeSort (le := fun (x y : Nat) => decide (x ≤ y)) (fun a b c h1 h2 => by simp at h1 h2 ⊢; omega) (fun a b => by simp; omega) xs
  exact h.imp fun h => of_decide_eq_true h
theorem srt_up {xs : List Nat} {i j : Nat} (h : i ≤ j) (hj : j < xs.length) : (srt xs).getD i 0 ≤ (srt xs).getD j 0 := by
  rcases Nat.lt_or_ge i j with hl | hl
  · have hl1 : j < (srt xs).length := by rw [srt_len]; exact hj
    have := List.pairwise_iff_getElem.1 (srt_sorted xs) i j (by omega) hl1 hl
    simp only [List.getD_eq_getElem?_getD, List.getElem?_eq_getElem hl1, List.getElem?_eq_getElem (show i < (srt xs).length by omega), Option.getD_some]
    exact this
  · rw [show i = j by omega]; exact Nat.le_refl _
theorem srt_ints (xs : List Nat) : ((xs.map fun x : Nat => (x : Int)).mergeSort fun x y => decide (x ≤ y)) = (srt xs).map fun x : Nat => (x : Int) :=
  (List.map_mergeSort fun a _ b _ => by simp).symm
theorem srt_lt {xs : List Nat} {n : Nat} (h : ∀ x ∈ xs, x < n) : ∀ x ∈ srt xs, x < n := fun x hx => h x (srt_mem.1 hx)
theorem getD_mem {xs : List Nat} {i : Nat} (h : i < xs.length) : xs.getD i 0 ∈ xs := by
  rw [List.getD_eq_getElem?_getD, List.getElem?_eq_getElem h]; exact List.getElem_mem h

theorem holds_at {w : World} {g : Nat} {xs : List Nat} (h : At w .i64 g 0 xs) (hF : Fr w g 0 xs.length) : Go.Sort.Holds (Value.int .i64) w g 0 (xs.map fun x : Nat => (x : Int)).toArray := by
  intro j hj
  simp only [List.size_toArray, List.length_map] at hj
  refine ⟨?_, hF j hj⟩
  rw [h j hj]
  simp [List.getD, hj]
theorem at_holds {w : World} {g : Nat} {xs : List Nat} (h : Go.Sort.Holds (Value.int .i64) w g 0 (xs.map fun x : Nat => (x : Int)).toArray) : At w .i64 g 0 xs ∧ Fr w g 0 xs.length := by
  refine ⟨fun j hj => ?_, fun j hj => (h j (by simpa using hj)).2⟩
  rw [(h j (by simpa using hj)).1]
  simp [List.getD, hj]
theorem Only.freshRow {w w1 w2 : World} {b o n g p q : Nat} (h : Only w w1 b o n) (k : Only w1 w2 g p q) (hg : w.heap.size ≤ g) (hb : g ≠ b) (hbl : b < w1.heap.size) : Only w w2 b o n :=
  ⟨k.os.trans h.os, k.tape.trans h.tape, k.output.trans h.output, Nat.le_trans h.size k.size, fun i hi hib => (k.block i (Nat.lt_of_lt_of_le hi h.size) (by omega)).trans (h.block i hi hib),
    fun x hx => (World.cell?_of_block (w := w1) (k.block b hbl (by omega))).trans (h.cell x hx), fun x => (World.frozen?_of_block (w := w1) (k.block b hbl (by omega))).trans (h.frozen x)⟩

theorem sort_at (g c : Nat) (xs : List Nat) (w : World) (h : At w .i64 g 0 xs) (hF : Fr w g 0 xs.length) (h0 : 0 < xs.length) (hl : xs.length < 1000000) :
    Calls Try.prog 27 #[.slice (some ⟨g, 0, none⟩) xs.length c] w fun e w' => e = .returned (.tuple #[]) ∧ At w' .i64 g 0 (srt xs) ∧ Fr w' g 0 xs.length ∧ Only w w' g 0 xs.length := by
  have hg := h.lt h0
  have hH := holds_at h hF
  have := Try.slices_Sort_int g 0 c (xs.map fun x : Nat => (x : Int)) w hH hg (by rw [List.length_map]; omega)
  rw [List.length_map] at this
  refine this.mono ?_
  rintro e w' ⟨rfl, n, os, rfl⟩
  rw [srt_ints]
  have hs : ((srt xs).map fun x : Nat => (x : Int)).toArray.size = (xs.map fun x : Nat => (x : Int)).toArray.size := by simp [srt_len]
  have h1 := Go.Sort.holds_putRow (Value.int .i64) (Go.Sort.ahead w n) g 0 _ _ (show Go.Sort.Holds (Value.int .i64) (Go.Sort.ahead w n) g 0 _ from hH) hs
  have h2 := at_holds (Go.Sort.holds_grow (Value.int .i64) _ os g 0 _ (by rw [Go.Sort.size_putRow]; exact hg) h1)
  refine ⟨rfl, h2.1, by have := h2.2; rwa [srt_len] at this, ?_⟩
  refine ⟨rfl, rfl, rfl, by rw [Go.Sort.size_grow, Go.Sort.size_putRow]; show w.heap.size ≤ w.heap.size + _; omega, fun k hk hkb => ?_, fun o ho => ?_, fun o => ?_⟩
  · rw [Go.Sort.heap_grow_old _ _ (by rw [Go.Sort.size_putRow]; exact hk)]
    show (w.heap.modify g _)[k]? = _
    rw [Array.getElem?_modify]
    simp [show ¬ g = k from fun e => hkb e.symm]
  · rw [Go.Sort.cell?_grow _ _ _ (by rw [Go.Sort.size_putRow]; exact hg), Go.Sort.cell?_putRow_other _ _ _ _ _ _ (by right; simp only [List.size_toArray, List.length_map, srt_len]; omega)]
    rfl
  · rw [Go.Sort.frozen?_grow _ _ _ (by rw [Go.Sort.size_putRow]; exact hg), Go.Sort.frozen?_putRow]
    rfl

set_option maxRecDepth 100000 in
set_option maxHeartbeats 1000000 in
theorem known8_any (w : World) : Calls Try.prog 7 #[] w fun e w' => e = .returned (.bool true) ∧ Below w.heap.size w w' := by
  obtain ⟨o, ho⟩ : ∃ o, o = Obj.cells #[.int .i64 2, .int .i64 0, .int .i64 2] 3 := ⟨_, rfl⟩
  have h0 : At (w.alloc o) .i64 w.heap.size 0 [2, 0, 2] := by
    intro i hi
    rw [ho, World.cell?_alloc_at _ _ _ _ rfl]
    have : i < 3 := hi
    match i, this with
    | 0, _ => rfl
    | 1, _ => rfl
    | 2, _ => rfl
  have hR := rest_any 4 w.heap.size 3 3 [2, 0, 2] (w.alloc o) (by decide) (by decide) rfl (by decide) (fun i hi => by match i, hi with | 0, _ => decide | 1, _ => decide | 2, _ => decide) h0 (by simp only [World.alloc, Array.size_push]; omega)
  rw [show restL 4 [2, 0, 2] = [1, 3] by decide] at hR
  have HR := Lib.hid hR
  clear hR h0
  subst ho
  go_enter Try.func7, Try.ntmps7
  go_wp2_with fail
  refine HR.out.mono ?_
  rintro e w2 ⟨v, rfl, ⟨_, h⟩ | ⟨g, c, rfl, h1, h2, h3⟩, hb⟩
  · cases h
  have c0 : w2.cell? ⟨g, 0, none⟩ = some (.int .i64 1) := h2 0 (by decide)
  have c1 : w2.cell? ⟨g, 1, none⟩ = some (.int .i64 3) := h2 1 (by decide)
  have HB := Lib.hid (show Below w.heap.size w w2 from (below_alloc (Below.refl _ _) _).trans (hb.mono (by simp only [World.alloc, Array.size_push]; omega)))
  clear hb h2 h3 h1
  go_wp2
  go_ret
  exact ⟨rfl, HB.out⟩

set_option maxRecDepth 100000 in
set_option maxHeartbeats 1000000 in
theorem boot_any (n b s : Nat) (w : World) (h : IsD w b s) (hn : 0 < n) (hn2 : n ≤ 300) :
    Calls Try.prog 12 #[.int .i64 (n : Int), .pointer (some ⟨b, 0, none⟩)] w fun e w' => ∃ g v, e = .returned (.tuple #[.slice (some ⟨g, 0, none⟩) n n, v]) ∧ w.heap.size ≤ g ∧
      At w' .i64 g 0 (srt (ddrawV n n s)) ∧ RowV w' w.heap.size v (restL n (srt (ddrawV n n s))) ∧ Drawn w w' b (ddrawS n n s) := by
  have d1 : ¬ (n : Int) < 1 := by omega
  have d2 : ¬ (300 : Int) < (n : Int) := by omega
  have hlt : ∀ x ∈ ddrawV n n s, x < n := fun x hx => by
    obtain ⟨i, hi, rfl⟩ := List.getElem_of_mem hx
    have := ddrawV_lt (n := n) (k := n) (s := s) hn (j := i) (by rwa [ddrawV_len] at hi)
    rwa [List.getD_eq_getElem?_getD, List.getElem?_eq_getElem hi] at this
  have hl := ddrawV_len n n s
  have hD := dDraw_anyF b s n n w h hn (by omega) hn (by omega)
  obtain ⟨L, hL⟩ : ∃ L, L = ddrawV n n s := ⟨_, rfl⟩
  obtain ⟨T, hT⟩ : ∃ T, T = ddrawS n n s := ⟨_, rfl⟩
  rw [← hL] at hlt hl hD ⊢
  rw [← hT] at hD ⊢
  have HD := Lib.hid hD; have HL := Lib.hid hlt
  have hbl := h.lt
  clear hD hlt h hL hT
  go_enter Try.func12, Try.ntmps12
  go_wp2_with fail
  refine HD.out.mono ?_
  rintro e w1 ⟨g, rfl, hg, hA, hF, hdr⟩
  rw [hl]
  have hgb : g ≠ b := by omega
  have hS := sort_at g n L w1 hA hF (by omega) (by omega)
  rw [hl] at hS
  have HS := Lib.hid hS; have HDR := Lib.hid hdr
  clear hS hA hF hdr HD
  go_wp2_with fail
  refine HS.out.mono ?_
  rintro e w2 ⟨rfl, hA, hF, ho⟩
  have hd2 : Drawn w w2 b T := ⟨HDR.out.1.only ho (by omega), HDR.out.2.freshRow ho hg hgb HDR.out.1.lt⟩
  have hR := rest_any n g n n (srt L) w2 hn hn2 (by rw [srt_len, hl]) (by omega) (fun i hi => by have := srt_lt HL.out _ (getD_mem (xs := srt L) (i := i) (by rw [srt_len, hl]; exact hi)); omega) hA (hA.lt (by rw [srt_len, hl]; exact hn))
  have HR := Lib.hid hR; have HA := Lib.hid hA; have HD2 := Lib.hid hd2
  clear hR hA hF ho hd2 HS HDR
  go_wp2_with fail
  refine HR.out.mono ?_
  rintro e w3 ⟨v, rfl, hv, hb⟩
  have H3 := Lib.hid hv; have HB3 := Lib.hid hb
  clear hv hb HR
  go_wp2
  refine bodyPost_ret (v := .tuple #[.slice (some ⟨g, 0, none⟩) n n, v]) (by simp [results, Try.results12, go_sem]) rfl ?_
  have hsz := HD2.out.2.size
  refine ⟨g, v, rfl, hg, HA.out.mono HB3.out, ?_, HD2.out.1.mono HB3.out, HD2.out.2.trans (Only.of_below HB3.out HD2.out.1.lt)⟩
  rcases H3.out with h | ⟨g', c', h1, h2, h3⟩
  · exact .inl h
  · exact .inr ⟨g', c', h1, by omega, h3⟩
end Go.Proofs.Ytfjjmhbffbhhdaa
