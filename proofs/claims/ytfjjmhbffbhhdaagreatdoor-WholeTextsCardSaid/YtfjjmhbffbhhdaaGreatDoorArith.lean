/- Sums and products of the program's numbers. -/
import Derived.Test.YtfjjmhbffbhhdaaGreatDoorSum
import Derived.Test.YtfjjmhbffbhhdaaGreatDoorDivS
namespace Go.Proofs.YtfjjmhbffbhhdaaGreatDoor
open Go.RowKit

set_option maxHeartbeats 400000 in
theorem product_ge (bx ox cx bY oy cy lx ly : Nat) (xs ys : List Nat) (w : World) (hx : xs.length = lx) (hy : ys.length = ly) (hle : ly ≤ lx) (hly : ly < 64) (hlx : 1 ≤ lx) (hlx2 : lx ≤ 1000000)
    (h1 : At w .u64 bx ox xs) (h2 : At w .u64 bY oy ys) (hX : ∀ x ∈ xs, x < 2 ^ 64) (hY : ∀ x ∈ ys, x < 2 ^ 64) :
    Calls Tryz.prog 68 #[.slice (some ⟨bx, ox, none⟩) lx cx, .slice (some ⟨bY, oy, none⟩) ly cy] w (RetP w (lx + ly) (val (2 ^ 64) xs * val (2 ^ 64) ys)) := by
  have HT := Lib.hid (plain_any bx ox cx bY oy cy lx ly xs ys w hx hy hlx hlx2 (by omega) h1 h2 hX hY)
  have d0 : decide ((lx : Int) < ly) = false := by simp; omega
  have d1 : decide ((ly : Int) < 64) = true := by simp; omega
  clear h1 h2 hX hY hx hy
  go_enter Tryz.func68, Tryz.ntmps68
  go_wp2_with fail
  refine HT.out.mono ?_
  rintro e w1 h
  obtain ⟨b, zs, c, rfl, h2⟩ := h
  have H2 := Lib.hid h2; clear h2
  go_wp2
  go_ret
  exact ⟨b, zs, c, rfl, H2.out⟩

set_option maxHeartbeats 400000 in
theorem product_lt (bx ox cx bY oy cy lx ly : Nat) (xs ys : List Nat) (w : World) (hx : xs.length = lx) (hy : ys.length = ly) (hle : ly < lx) (hly : ly < 64) (hlx : 1 ≤ lx) (hlx2 : lx ≤ 1000000)
    (h1 : At w .u64 bx ox xs) (h2 : At w .u64 bY oy ys) (hX : ∀ x ∈ xs, x < 2 ^ 64) (hY : ∀ x ∈ ys, x < 2 ^ 64) :
    Calls Tryz.prog 68 #[.slice (some ⟨bY, oy, none⟩) ly cy, .slice (some ⟨bx, ox, none⟩) lx cx] w (RetP w (lx + ly) (val (2 ^ 64) xs * val (2 ^ 64) ys)) := by
  have HT := Lib.hid (plain_any bx ox cx bY oy cy lx ly xs ys w hx hy hlx hlx2 (by omega) h1 h2 hX hY)
  have d0 : decide ((ly : Int) < lx) = true := by simp; omega
  have d1 : decide ((ly : Int) < 64) = true := by simp; omega
  clear h1 h2 hX hY hx hy
  go_enter Tryz.func68, Tryz.ntmps68
  go_wp2_with fail
  refine HT.out.mono ?_
  rintro e w1 h
  obtain ⟨b, zs, c, rfl, h2⟩ := h
  have H2 := Lib.hid h2; clear h2
  go_wp2
  go_ret
  exact ⟨b, zs, c, rfl, H2.out⟩

theorem product_ds (m n bx ox cx bY oy cy : Nat) (w : World) (hm : (ds m).length ≤ 1000000) (hn : (ds n).length ≤ 1000000) (h64 : (ds m).length < 64 ∨ (ds n).length < 64)
    (h1 : At w .u64 bx ox (ds m)) (h2 : At w .u64 bY oy (ds n)) :
    Calls Tryz.prog 68 #[.slice (some ⟨bx, ox, none⟩) (ds m).length cx, .slice (some ⟨bY, oy, none⟩) (ds n).length cy] w (RetP w ((ds m).length + (ds n).length) (m * n)) := by
  have hpm := ds_pos m; have hpn := ds_pos n
  by_cases h : (ds m).length < (ds n).length
  · have := product_lt bY oy cy bx ox cx _ _ (ds n) (ds m) w rfl rfl h (by omega) hpn hn h2 h1 (ds_lt n) (ds_lt m)
    rw [val_ds, val_ds, Nat.mul_comm n m, Nat.add_comm (ds n).length] at this
    exact this
  · have := product_ge bx ox cx bY oy cy _ _ (ds m) (ds n) w rfl rfl (by omega) (by omega) hpm hm h1 h2 (ds_lt m) (ds_lt n)
    rw [val_ds, val_ds] at this
    exact this

theorem sum_ds (m n bx ox cx bY oy cy : Nat) (w : World) (hm : (ds m).length ≤ 1000000) (hn : (ds n).length ≤ 1000000)
    (h1 : At w .u64 bx ox (ds m)) (h2 : At w .u64 bY oy (ds n)) :
    Calls Tryz.prog 71 #[.slice (some ⟨bx, ox, none⟩) (ds m).length cx, .slice (some ⟨bY, oy, none⟩) (ds n).length cy] w (RetP w (max (ds m).length (ds n).length + 1) (m + n)) := by
  have hpm := ds_pos m; have hpn := ds_pos n
  by_cases h : (ds m).length < (ds n).length
  · have := sum_lt bY oy cy bx ox cx _ _ (ds n) (ds m) w rfl rfl hpm h hn h2 h1 (ds_lt n) (ds_lt m)
    rw [val_ds, val_ds, Nat.add_comm n m] at this
    rw [Nat.max_eq_right (by omega)]
    exact this
  · have := sum_ge bx ox cx bY oy cy _ _ (ds m) (ds n) w rfl rfl hpn (by omega) hm h1 h2 (ds_lt m) (ds_lt n)
    rw [val_ds, val_ds] at this
    rw [Nat.max_eq_left (by omega)]
    exact this

theorem RetP.want {W w' : World} {l n : Nat} {e : Ending} (h : RetP W l n e w') : ∃ v, e = .returned v ∧ WRow w' v l n ∧ Below W.heap.size W w' := by
  obtain ⟨b, zs, c, h1, h2, h3, h4, h5, _, h7, _, h9⟩ := h
  exact ⟨_, h1, ⟨b, 0, c, zs, rfl, h2, h3, h4, h5, h7⟩, h9⟩
theorem RetL.want {W w' : World} {k : IntKind} {xs : List Nat} {e : Ending} (h : RetL W k xs e w') : ∃ v, e = .returned v ∧ RowOf w' v k xs ∧ Below W.heap.size W w' := by
  obtain ⟨b, off, c, h1, h2, h3, h4⟩ := h
  exact ⟨_, h1, ⟨b, off, c, rfl, h2, h3⟩, h4⟩
theorem RetN.want {W w' : World} {n : Nat} {e : Ending} (h : RetN W n e w') : ∃ v, e = .returned v ∧ Num w' v n ∧ Below W.heap.size W w' := by
  obtain ⟨s, p, l, c, h1, h2, h3⟩ := h
  exact ⟨_, h1, ⟨s, p, l, c, rfl, h2⟩, h3⟩
theorem list_want (w : World) (v : Value) (n : Nat) (h : Num w v n) : Calls Tryz.prog 69 #[v] w fun e w' => ∃ v', e = .returned v' ∧ RowOf w' v' .u64 (ds n) ∧ Below w.heap.size w w' := by
  obtain ⟨s, p, l, c, rfl, h⟩ := h
  exact (list_any n s p l c w h).mono fun _ _ h => h.want
theorem ofWords_want (w : World) (v : Value) (l n : Nat) (hl : l ≤ 281474976710656) (h : WRow w v l n) : Calls Tryz.prog 67 #[v] w fun e w' => ∃ v', e = .returned v' ∧ Num w' v' n ∧ Below w.heap.size w w' := by
  obtain ⟨b, off, c, xs, rfl, h2, h3, h4, h5, h6⟩ := h
  have := ofWords_any b off c l xs h2 w h6 h4 hl h3
  rw [h5] at this
  exact this.mono fun _ _ h => h.want
theorem sum_want (w : World) (u v : Value) (m n : Nat) (hm : (ds m).length ≤ 1000000) (hn : (ds n).length ≤ 1000000) (h1 : RowOf w u .u64 (ds m)) (h2 : RowOf w v .u64 (ds n)) :
    Calls Tryz.prog 71 #[u, v] w fun e w' => ∃ v', e = .returned v' ∧ WRow w' v' (max (ds m).length (ds n).length + 1) (m + n) ∧ Below w.heap.size w w' := by
  obtain ⟨b, off, c, rfl, _, h3⟩ := h1
  obtain ⟨b', off', c', rfl, _, h4⟩ := h2
  exact (sum_ds m n b off c b' off' c' w hm hn h3 h4).mono fun _ _ h => h.want
theorem product_want (w : World) (u v : Value) (m n : Nat) (hm : (ds m).length ≤ 1000000) (hn : (ds n).length ≤ 1000000) (h64 : (ds m).length < 64 ∨ (ds n).length < 64) (h1 : RowOf w u .u64 (ds m)) (h2 : RowOf w v .u64 (ds n)) :
    Calls Tryz.prog 68 #[u, v] w fun e w' => ∃ v', e = .returned v' ∧ WRow w' v' ((ds m).length + (ds n).length) (m * n) ∧ Below w.heap.size w w' := by
  obtain ⟨b, off, c, rfl, _, h3⟩ := h1
  obtain ⟨b', off', c', rfl, _, h4⟩ := h2
  exact (product_ds m n b off c b' off' c' w hm hn h64 h3 h4).mono fun _ _ h => h.want

set_option maxRecDepth 100000 in
set_option maxHeartbeats 1000000 in
theorem add_l (s t : Int) (p q : Option Addr) (l c k d m n : Nat) (w : World) (hlong : 0 < l) (hm : (ds m).length ≤ 1000000) (hn : (ds n).length ≤ 1000000)
    (h1 : IsN w s p l c m) (h2 : IsN w t q k d n) :
    Calls Tryz.prog 40 #[.agg #[.int .u64 s, .slice p l c], .agg #[.int .u64 t, .slice q k d]] w (RetN w (m + n)) := by
  have H1 := Lib.hid h1; have H2 := Lib.hid h2; clear h1 h2
  go_enter Tryz.func40, Tryz.ntmps40
  go_wp2_with fail
  refine (short_no _ _ _ _ hlong _).mono ?_
  rintro e w2 ⟨rfl, hb2⟩
  obtain ⟨hc2, hf2⟩ := bcell hb2
  go_wp2_with fail
  have HB : Below w.heap.size w w2 := (by repeat' first | exact Below.refl _ _ | refine below_alloc ?_ _ | refine below_step ?_ (by assumption))
  obtain ⟨g, hg⟩ : ∃ g, g = w.heap.size := ⟨_, rfl⟩
  have q0 : w2.cell? ⟨g, 0, none⟩ = some (.int .u64 s) := by simp [hg, hc2, go_sem]
  have q1 : w2.cell? ⟨g, 1, none⟩ = some (.slice p l c) := by simp [hg, hc2, go_sem]
  have q2 : w2.cell? ⟨g + 1, 0, none⟩ = some (.int .u64 t) := by simp [hg, hc2, go_sem]
  have q3 : w2.cell? ⟨g + 1, 1, none⟩ = some (.slice q k d) := by simp [hg, hc2, go_sem]
  have r0 : w2.cell? ⟨g + 1 + 1, 0, none⟩ = some (.int .u64 0) := by simp [hg, hc2, go_sem]
  have r1 : w2.cell? ⟨g + 1 + 1, 1, none⟩ = some (.slice none 0 0) := by simp [hg, hc2, go_sem]
  have f0 : w2.frozen? ⟨g + 1 + 1, 0, none⟩ = false := by simp [hg, hf2, go_sem]
  have f1 : w2.frozen? ⟨g + 1 + 1, 1, none⟩ = false := by simp [hg, hf2, go_sem]
  have HG := Lib.hid hg
  have hM := Lib.hid (H1.out.mono HB); have hN := Lib.hid (H2.out.mono HB)
  rw [← hg]
  clear hc2 hf2 hb2 hg
  refine region_phase (T := [0, 1, 2, 3, 4, 5]) (slots := [24, 25, 26, 27, 28, 29]) (fuel := 1) (n := 6) (deps := [0, 1, 0, 6, 10, 16, 63]) (Tm := 63) (Lm := 63)
      (L := #[true, true, true, true, true, true, false])
      (V := Tab [.is (.agg #[.int .u64 s, .slice p l c]), .row .u64 (ds m), .is (.agg #[.int .u64 t, .slice q k d]), .row .u64 (ds n), .wrow (max (ds m).length (ds n).length + 1) (m + n), .num (m + n)] 0)
      (by kernel_rfl) rfl Tab.stable (by kernel_rfl) (by kernel_rfl) (by kernel_rfl) (by kernel_rfl) (by kernel_rfl) (by kernel_rfl) (by kernel_rfl) ?_ ?_
  · skip
    refine AllGo.cons rfl (fun E W hb hc hf hE hV => ⟨rfl, ?_⟩) ?_
    · have e1 : E (.tmp 2) = .pointer (some ⟨g, 0, none⟩) := hE 2 (by kernel_rfl)
      have q := wcell hb q0
      have q' := wcell hb q1
      clear hE hV
      exact Does.value (w' := W) (by go_simp) ⟨rfl, Below.refl _ _⟩
    refine AllGo.cons rfl (fun E W hb hc hf hE hV => ⟨rfl, ?_⟩) ?_
    · have e1 : E (.tmp 24) = _ := hV 0 24 (by kernel_rfl) (by kernel_rfl) (by kernel_rfl)
      clear hE hV
      exact Does.call (w' := W) (by go_simp) ((list_want W _ m ⟨_, _, _, _, rfl, hM.out.mono hb⟩).mono fun e w' ⟨v, h1, h2, h3⟩ => ⟨v, h1, h2, h3⟩)
    refine AllGo.cons rfl (fun E W hb hc hf hE hV => ⟨rfl, ?_⟩) ?_
    · have e1 : E (.tmp 3) = .pointer (some ⟨g + 1, 0, none⟩) := hE 3 (by kernel_rfl)
      have q := wcell hb q2
      have q' := wcell hb q3
      clear hE hV
      exact Does.value (w' := W) (by go_simp) ⟨rfl, Below.refl _ _⟩
    refine AllGo.cons rfl (fun E W hb hc hf hE hV => ⟨rfl, ?_⟩) ?_
    · have e1 : E (.tmp 26) = _ := hV 2 26 (by kernel_rfl) (by kernel_rfl) (by kernel_rfl)
      clear hE hV
      exact Does.call (w' := W) (by go_simp) ((list_want W _ n ⟨_, _, _, _, rfl, hN.out.mono hb⟩).mono fun e w' ⟨v, h1, h2, h3⟩ => ⟨v, h1, h2, h3⟩)
    refine AllGo.cons rfl (fun E W hb hc hf hE hV => ⟨rfl, ?_⟩) ?_
    · have e1 : Means W (.row .u64 (ds m)) (E (.tmp 25)) := hV 1 25 (by kernel_rfl) (by kernel_rfl) (by kernel_rfl)
      have e2 : Means W (.row .u64 (ds n)) (E (.tmp 27)) := hV 3 27 (by kernel_rfl) (by kernel_rfl) (by kernel_rfl)
      clear hE hV
      exact Does.call (w' := W) (by go_simp) ((sum_want W _ _ m n hm hn e1 e2).mono fun e w' ⟨v, h1, h2, h3⟩ => ⟨v, h1, h2, h3⟩)
    refine AllGo.cons rfl (fun E W hb hc hf hE hV => ⟨rfl, ?_⟩) ?_
    · have e1 : Means W (.wrow (max (ds m).length (ds n).length + 1) (m + n)) (E (.tmp 28)) := hV 4 28 (by kernel_rfl) (by kernel_rfl) (by kernel_rfl)
      clear hE hV
      exact Does.call (w' := W) (by go_simp) ((ofWords_want W _ _ _ (by omega) e1).mono fun e w' ⟨v, h1, h2, h3⟩ => ⟨v, h1, h2, h3⟩)
    exact AllGo.nil
  · intro f W hf hb
    have e29 : Means W (.num (m + n)) (f 29) := hf (5, 29) (by simp)
    obtain ⟨s1, p1, l1, c1, ev, hx⟩ := e29
    have HX := Lib.hid hx
    have f0 := wfree hb r0 f0; have f1 := wfree hb r1 f1
    have r0 := wcell hb r0; have r1 := wcell hb r1
    have HW := Lib.hid (below_step HB hb)
    clear hf hb hx
    simp only [fillSlots]
    refine wpAny_ready (rs := [6]) (by kernel_rfl) (by simp) ?_
    refine AllReady.cons rfl (fun K hK => ?_) AllReady.nil
    go_simp
    refine hK _ _ ?_; clear hK K
    refine wpAny_done (by kernel_rfl) ?_ _
    go_wp2
    have hgw := HG.out
    refine bodyPost_ret (v := .agg #[.int .u64 s1, .slice p1 l1 c1]) (by simp [results, Tryz.results40, go_sem, r0, r1]) rfl ⟨s1, p1, l1, c1, rfl, HX.out.box r1, ?_⟩
    exact (HW.out.setCell (by show w.heap.size ≤ g + 1 + 1; omega) _).setCell (by show w.heap.size ≤ g + 1 + 1; omega) _

set_option maxRecDepth 100000 in
set_option maxHeartbeats 1000000 in
theorem add_sl (s t : Int) (p q : Option Addr) (c k d m n : Nat) (w : World) (hlong : 0 < k) (hm : (ds m).length ≤ 1000000) (hn : (ds n).length ≤ 1000000)
    (h1 : IsN w s p 0 c m) (h2 : IsN w t q k d n) :
    Calls Tryz.prog 40 #[.agg #[.int .u64 s, .slice p 0 c], .agg #[.int .u64 t, .slice q k d]] w (RetN w (m + n)) := by
  have H1 := Lib.hid h1; have H2 := Lib.hid h2; clear h1 h2
  go_enter Tryz.func40, Tryz.ntmps40
  go_wp2_with fail
  refine (short_yes _ _ _ _).mono ?_
  rintro e w1 ⟨rfl, hb⟩
  obtain ⟨hc, hf⟩ := bcell hb
  have hz : w.heap.size + 1 < w1.heap.size := by have := hb.size; simp at this; omega
  go_wp2_with fail
  refine (short_no _ _ _ _ hlong _).mono ?_
  rintro e w2 ⟨rfl, hb2⟩
  replace hb2 := below_step hb hb2
  obtain ⟨hc2, hf2⟩ := bcell hb2
  clear hc hf hb
  go_wp2_with fail
  have HB : Below w.heap.size w w2 := (by repeat' first | exact Below.refl _ _ | refine below_alloc ?_ _ | refine below_step ?_ (by assumption))
  obtain ⟨g, hg⟩ : ∃ g, g = w.heap.size := ⟨_, rfl⟩
  have q0 : w2.cell? ⟨g, 0, none⟩ = some (.int .u64 s) := by simp [hg, hc2, go_sem]
  have q1 : w2.cell? ⟨g, 1, none⟩ = some (.slice p 0 c) := by simp [hg, hc2, go_sem]
  have q2 : w2.cell? ⟨g + 1, 0, none⟩ = some (.int .u64 t) := by simp [hg, hc2, go_sem]
  have q3 : w2.cell? ⟨g + 1, 1, none⟩ = some (.slice q k d) := by simp [hg, hc2, go_sem]
  have r0 : w2.cell? ⟨g + 1 + 1, 0, none⟩ = some (.int .u64 0) := by simp [hg, hc2, go_sem]
  have r1 : w2.cell? ⟨g + 1 + 1, 1, none⟩ = some (.slice none 0 0) := by simp [hg, hc2, go_sem]
  have f0 : w2.frozen? ⟨g + 1 + 1, 0, none⟩ = false := by simp [hg, hf2, go_sem]
  have f1 : w2.frozen? ⟨g + 1 + 1, 1, none⟩ = false := by simp [hg, hf2, go_sem]
  have HG := Lib.hid hg
  have hM := Lib.hid (H1.out.mono HB); have hN := Lib.hid (H2.out.mono HB)
  rw [← hg]
  clear hc2 hf2 hb2 hg
  refine region_phase (T := [0, 1, 2, 3, 4, 5]) (slots := [24, 25, 26, 27, 28, 29]) (fuel := 1) (n := 6) (deps := [0, 1, 0, 6, 10, 16, 63]) (Tm := 63) (Lm := 63)
      (L := #[true, true, true, true, true, true, false])
      (V := Tab [.is (.agg #[.int .u64 s, .slice p 0 c]), .row .u64 (ds m), .is (.agg #[.int .u64 t, .slice q k d]), .row .u64 (ds n), .wrow (max (ds m).length (ds n).length + 1) (m + n), .num (m + n)] 0)
      (by kernel_rfl) rfl Tab.stable (by kernel_rfl) (by kernel_rfl) (by kernel_rfl) (by kernel_rfl) (by kernel_rfl) (by kernel_rfl) (by kernel_rfl) ?_ ?_
  · skip
    refine AllGo.cons rfl (fun E W hb hc hf hE hV => ⟨rfl, ?_⟩) ?_
    · have e1 : E (.tmp 2) = .pointer (some ⟨g, 0, none⟩) := hE 2 (by kernel_rfl)
      have q := wcell hb q0
      have q' := wcell hb q1
      clear hE hV
      exact Does.value (w' := W) (by go_simp) ⟨rfl, Below.refl _ _⟩
    refine AllGo.cons rfl (fun E W hb hc hf hE hV => ⟨rfl, ?_⟩) ?_
    · have e1 : E (.tmp 24) = _ := hV 0 24 (by kernel_rfl) (by kernel_rfl) (by kernel_rfl)
      clear hE hV
      exact Does.call (w' := W) (by go_simp) ((list_want W _ m ⟨_, _, _, _, rfl, hM.out.mono hb⟩).mono fun e w' ⟨v, h1, h2, h3⟩ => ⟨v, h1, h2, h3⟩)
    refine AllGo.cons rfl (fun E W hb hc hf hE hV => ⟨rfl, ?_⟩) ?_
    · have e1 : E (.tmp 3) = .pointer (some ⟨g + 1, 0, none⟩) := hE 3 (by kernel_rfl)
      have q := wcell hb q2
      have q' := wcell hb q3
      clear hE hV
      exact Does.value (w' := W) (by go_simp) ⟨rfl, Below.refl _ _⟩
    refine AllGo.cons rfl (fun E W hb hc hf hE hV => ⟨rfl, ?_⟩) ?_
    · have e1 : E (.tmp 26) = _ := hV 2 26 (by kernel_rfl) (by kernel_rfl) (by kernel_rfl)
      clear hE hV
      exact Does.call (w' := W) (by go_simp) ((list_want W _ n ⟨_, _, _, _, rfl, hN.out.mono hb⟩).mono fun e w' ⟨v, h1, h2, h3⟩ => ⟨v, h1, h2, h3⟩)
    refine AllGo.cons rfl (fun E W hb hc hf hE hV => ⟨rfl, ?_⟩) ?_
    · have e1 : Means W (.row .u64 (ds m)) (E (.tmp 25)) := hV 1 25 (by kernel_rfl) (by kernel_rfl) (by kernel_rfl)
      have e2 : Means W (.row .u64 (ds n)) (E (.tmp 27)) := hV 3 27 (by kernel_rfl) (by kernel_rfl) (by kernel_rfl)
      clear hE hV
      exact Does.call (w' := W) (by go_simp) ((sum_want W _ _ m n hm hn e1 e2).mono fun e w' ⟨v, h1, h2, h3⟩ => ⟨v, h1, h2, h3⟩)
    refine AllGo.cons rfl (fun E W hb hc hf hE hV => ⟨rfl, ?_⟩) ?_
    · have e1 : Means W (.wrow (max (ds m).length (ds n).length + 1) (m + n)) (E (.tmp 28)) := hV 4 28 (by kernel_rfl) (by kernel_rfl) (by kernel_rfl)
      clear hE hV
      exact Does.call (w' := W) (by go_simp) ((ofWords_want W _ _ _ (by omega) e1).mono fun e w' ⟨v, h1, h2, h3⟩ => ⟨v, h1, h2, h3⟩)
    exact AllGo.nil
  · intro f W hf hb
    have e29 : Means W (.num (m + n)) (f 29) := hf (5, 29) (by simp)
    obtain ⟨s1, p1, l1, c1, ev, hx⟩ := e29
    have HX := Lib.hid hx
    have f0 := wfree hb r0 f0; have f1 := wfree hb r1 f1
    have r0 := wcell hb r0; have r1 := wcell hb r1
    have HW := Lib.hid (below_step HB hb)
    clear hf hb hx
    simp only [fillSlots]
    refine wpAny_ready (rs := [6]) (by kernel_rfl) (by simp) ?_
    refine AllReady.cons rfl (fun K hK => ?_) AllReady.nil
    go_simp
    refine hK _ _ ?_; clear hK K
    refine wpAny_done (by kernel_rfl) ?_ _
    go_wp2
    have hgw := HG.out
    refine bodyPost_ret (v := .agg #[.int .u64 s1, .slice p1 l1 c1]) (by simp [results, Tryz.results40, go_sem, r0, r1]) rfl ⟨s1, p1, l1, c1, rfl, HX.out.box r1, ?_⟩
    exact (HW.out.setCell (by show w.heap.size ≤ g + 1 + 1; omega) _).setCell (by show w.heap.size ≤ g + 1 + 1; omega) _

set_option maxRecDepth 100000 in
set_option maxHeartbeats 1000000 in
theorem mul_l (s t : Int) (p q : Option Addr) (l c k d m n : Nat) (w : World) (hlong : 0 < l) (hm : (ds m).length ≤ 1000000) (hn : (ds n).length ≤ 1000000) (h64 : (ds m).length < 64 ∨ (ds n).length < 64)
    (h1 : IsN w s p l c m) (h2 : IsN w t q k d n) :
    Calls Tryz.prog 39 #[.agg #[.int .u64 s, .slice p l c], .agg #[.int .u64 t, .slice q k d]] w (RetN w (m * n)) := by
  have H1 := Lib.hid h1; have H2 := Lib.hid h2; clear h1 h2
  go_enter Tryz.func39, Tryz.ntmps39
  go_wp2_with fail
  refine (short_no _ _ _ _ hlong _).mono ?_
  rintro e w2 ⟨rfl, hb2⟩
  obtain ⟨hc2, hf2⟩ := bcell hb2
  go_wp2_with fail
  have HB : Below w.heap.size w w2 := (by repeat' first | exact Below.refl _ _ | refine below_alloc ?_ _ | refine below_step ?_ (by assumption))
  obtain ⟨g, hg⟩ : ∃ g, g = w.heap.size := ⟨_, rfl⟩
  have q0 : w2.cell? ⟨g, 0, none⟩ = some (.int .u64 s) := by simp [hg, hc2, go_sem]
  have q1 : w2.cell? ⟨g, 1, none⟩ = some (.slice p l c) := by simp [hg, hc2, go_sem]
  have q2 : w2.cell? ⟨g + 1, 0, none⟩ = some (.int .u64 t) := by simp [hg, hc2, go_sem]
  have q3 : w2.cell? ⟨g + 1, 1, none⟩ = some (.slice q k d) := by simp [hg, hc2, go_sem]
  have r0 : w2.cell? ⟨g + 1 + 1, 0, none⟩ = some (.int .u64 0) := by simp [hg, hc2, go_sem]
  have r1 : w2.cell? ⟨g + 1 + 1, 1, none⟩ = some (.slice none 0 0) := by simp [hg, hc2, go_sem]
  have f0 : w2.frozen? ⟨g + 1 + 1, 0, none⟩ = false := by simp [hg, hf2, go_sem]
  have f1 : w2.frozen? ⟨g + 1 + 1, 1, none⟩ = false := by simp [hg, hf2, go_sem]
  have HG := Lib.hid hg
  have hM := Lib.hid (H1.out.mono HB); have hN := Lib.hid (H2.out.mono HB)
  rw [← hg]
  clear hc2 hf2 hb2 hg
  refine region_phase (T := [0, 1, 2, 3, 4, 5]) (slots := [19, 20, 21, 22, 23, 24]) (fuel := 1) (n := 6) (deps := [0, 1, 0, 6, 10, 16, 63]) (Tm := 63) (Lm := 63)
      (L := #[true, true, true, true, true, true, false])
      (V := Tab [.is (.agg #[.int .u64 s, .slice p l c]), .row .u64 (ds m), .is (.agg #[.int .u64 t, .slice q k d]), .row .u64 (ds n), .wrow ((ds m).length + (ds n).length) (m * n), .num (m * n)] 0)
      (by kernel_rfl) rfl Tab.stable (by kernel_rfl) (by kernel_rfl) (by kernel_rfl) (by kernel_rfl) (by kernel_rfl) (by kernel_rfl) (by kernel_rfl) ?_ ?_
  · skip
    refine AllGo.cons rfl (fun E W hb hc hf hE hV => ⟨rfl, ?_⟩) ?_
    · have e1 : E (.tmp 2) = .pointer (some ⟨g, 0, none⟩) := hE 2 (by kernel_rfl)
      have q := wcell hb q0
      have q' := wcell hb q1
      clear hE hV
      exact Does.value (w' := W) (by go_simp) ⟨rfl, Below.refl _ _⟩
    refine AllGo.cons rfl (fun E W hb hc hf hE hV => ⟨rfl, ?_⟩) ?_
    · have e1 : E (.tmp 19) = _ := hV 0 19 (by kernel_rfl) (by kernel_rfl) (by kernel_rfl)
      clear hE hV
      exact Does.call (w' := W) (by go_simp) ((list_want W _ m ⟨_, _, _, _, rfl, hM.out.mono hb⟩).mono fun e w' ⟨v, h1, h2, h3⟩ => ⟨v, h1, h2, h3⟩)
    refine AllGo.cons rfl (fun E W hb hc hf hE hV => ⟨rfl, ?_⟩) ?_
    · have e1 : E (.tmp 3) = .pointer (some ⟨g + 1, 0, none⟩) := hE 3 (by kernel_rfl)
      have q := wcell hb q2
      have q' := wcell hb q3
      clear hE hV
      exact Does.value (w' := W) (by go_simp) ⟨rfl, Below.refl _ _⟩
    refine AllGo.cons rfl (fun E W hb hc hf hE hV => ⟨rfl, ?_⟩) ?_
    · have e1 : E (.tmp 21) = _ := hV 2 21 (by kernel_rfl) (by kernel_rfl) (by kernel_rfl)
      clear hE hV
      exact Does.call (w' := W) (by go_simp) ((list_want W _ n ⟨_, _, _, _, rfl, hN.out.mono hb⟩).mono fun e w' ⟨v, h1, h2, h3⟩ => ⟨v, h1, h2, h3⟩)
    refine AllGo.cons rfl (fun E W hb hc hf hE hV => ⟨rfl, ?_⟩) ?_
    · have e1 : Means W (.row .u64 (ds m)) (E (.tmp 20)) := hV 1 20 (by kernel_rfl) (by kernel_rfl) (by kernel_rfl)
      have e2 : Means W (.row .u64 (ds n)) (E (.tmp 22)) := hV 3 22 (by kernel_rfl) (by kernel_rfl) (by kernel_rfl)
      clear hE hV
      exact Does.call (w' := W) (by go_simp) ((product_want W _ _ m n hm hn h64 e1 e2).mono fun e w' ⟨v, h1, h2, h3⟩ => ⟨v, h1, h2, h3⟩)
    refine AllGo.cons rfl (fun E W hb hc hf hE hV => ⟨rfl, ?_⟩) ?_
    · have e1 : Means W (.wrow ((ds m).length + (ds n).length) (m * n)) (E (.tmp 23)) := hV 4 23 (by kernel_rfl) (by kernel_rfl) (by kernel_rfl)
      clear hE hV
      exact Does.call (w' := W) (by go_simp) ((ofWords_want W _ _ _ (by omega) e1).mono fun e w' ⟨v, h1, h2, h3⟩ => ⟨v, h1, h2, h3⟩)
    exact AllGo.nil
  · intro f W hf hb
    have e24 : Means W (.num (m * n)) (f 24) := hf (5, 24) (by simp)
    obtain ⟨s1, p1, l1, c1, ev, hx⟩ := e24
    have HX := Lib.hid hx
    have f0 := wfree hb r0 f0; have f1 := wfree hb r1 f1
    have r0 := wcell hb r0; have r1 := wcell hb r1
    have HW := Lib.hid (below_step HB hb)
    clear hf hb hx
    simp only [fillSlots]
    refine wpAny_ready (rs := [6]) (by kernel_rfl) (by simp) ?_
    refine AllReady.cons rfl (fun K hK => ?_) AllReady.nil
    go_simp
    refine hK _ _ ?_; clear hK K
    refine wpAny_done (by kernel_rfl) ?_ _
    go_wp2
    have hgw := HG.out
    refine bodyPost_ret (v := .agg #[.int .u64 s1, .slice p1 l1 c1]) (by simp [results, Tryz.results39, go_sem, r0, r1]) rfl ⟨s1, p1, l1, c1, rfl, HX.out.box r1, ?_⟩
    exact (HW.out.setCell (by show w.heap.size ≤ g + 1 + 1; omega) _).setCell (by show w.heap.size ≤ g + 1 + 1; omega) _

set_option maxRecDepth 100000 in
set_option maxHeartbeats 1000000 in
theorem mul_sl (s t : Int) (p q : Option Addr) (c k d m n : Nat) (w : World) (hlong : 0 < k) (hm : (ds m).length ≤ 1000000) (hn : (ds n).length ≤ 1000000) (h64 : (ds m).length < 64 ∨ (ds n).length < 64)
    (h1 : IsN w s p 0 c m) (h2 : IsN w t q k d n) :
    Calls Tryz.prog 39 #[.agg #[.int .u64 s, .slice p 0 c], .agg #[.int .u64 t, .slice q k d]] w (RetN w (m * n)) := by
  have H1 := Lib.hid h1; have H2 := Lib.hid h2; clear h1 h2
  go_enter Tryz.func39, Tryz.ntmps39
  go_wp2_with fail
  refine (short_yes _ _ _ _).mono ?_
  rintro e w1 ⟨rfl, hb⟩
  obtain ⟨hc, hf⟩ := bcell hb
  have hz : w.heap.size + 1 < w1.heap.size := by have := hb.size; simp at this; omega
  go_wp2_with fail
  refine (short_no _ _ _ _ hlong _).mono ?_
  rintro e w2 ⟨rfl, hb2⟩
  replace hb2 := below_step hb hb2
  obtain ⟨hc2, hf2⟩ := bcell hb2
  clear hc hf hb
  go_wp2_with fail
  have HB : Below w.heap.size w w2 := (by repeat' first | exact Below.refl _ _ | refine below_alloc ?_ _ | refine below_step ?_ (by assumption))
  obtain ⟨g, hg⟩ : ∃ g, g = w.heap.size := ⟨_, rfl⟩
  have q0 : w2.cell? ⟨g, 0, none⟩ = some (.int .u64 s) := by simp [hg, hc2, go_sem]
  have q1 : w2.cell? ⟨g, 1, none⟩ = some (.slice p 0 c) := by simp [hg, hc2, go_sem]
  have q2 : w2.cell? ⟨g + 1, 0, none⟩ = some (.int .u64 t) := by simp [hg, hc2, go_sem]
  have q3 : w2.cell? ⟨g + 1, 1, none⟩ = some (.slice q k d) := by simp [hg, hc2, go_sem]
  have r0 : w2.cell? ⟨g + 1 + 1, 0, none⟩ = some (.int .u64 0) := by simp [hg, hc2, go_sem]
  have r1 : w2.cell? ⟨g + 1 + 1, 1, none⟩ = some (.slice none 0 0) := by simp [hg, hc2, go_sem]
  have f0 : w2.frozen? ⟨g + 1 + 1, 0, none⟩ = false := by simp [hg, hf2, go_sem]
  have f1 : w2.frozen? ⟨g + 1 + 1, 1, none⟩ = false := by simp [hg, hf2, go_sem]
  have HG := Lib.hid hg
  have hM := Lib.hid (H1.out.mono HB); have hN := Lib.hid (H2.out.mono HB)
  rw [← hg]
  clear hc2 hf2 hb2 hg
  refine region_phase (T := [0, 1, 2, 3, 4, 5]) (slots := [19, 20, 21, 22, 23, 24]) (fuel := 1) (n := 6) (deps := [0, 1, 0, 6, 10, 16, 63]) (Tm := 63) (Lm := 63)
      (L := #[true, true, true, true, true, true, false])
      (V := Tab [.is (.agg #[.int .u64 s, .slice p 0 c]), .row .u64 (ds m), .is (.agg #[.int .u64 t, .slice q k d]), .row .u64 (ds n), .wrow ((ds m).length + (ds n).length) (m * n), .num (m * n)] 0)
      (by kernel_rfl) rfl Tab.stable (by kernel_rfl) (by kernel_rfl) (by kernel_rfl) (by kernel_rfl) (by kernel_rfl) (by kernel_rfl) (by kernel_rfl) ?_ ?_
  · skip
    refine AllGo.cons rfl (fun E W hb hc hf hE hV => ⟨rfl, ?_⟩) ?_
    · have e1 : E (.tmp 2) = .pointer (some ⟨g, 0, none⟩) := hE 2 (by kernel_rfl)
      have q := wcell hb q0
      have q' := wcell hb q1
      clear hE hV
      exact Does.value (w' := W) (by go_simp) ⟨rfl, Below.refl _ _⟩
    refine AllGo.cons rfl (fun E W hb hc hf hE hV => ⟨rfl, ?_⟩) ?_
    · have e1 : E (.tmp 19) = _ := hV 0 19 (by kernel_rfl) (by kernel_rfl) (by kernel_rfl)
      clear hE hV
      exact Does.call (w' := W) (by go_simp) ((list_want W _ m ⟨_, _, _, _, rfl, hM.out.mono hb⟩).mono fun e w' ⟨v, h1, h2, h3⟩ => ⟨v, h1, h2, h3⟩)
    refine AllGo.cons rfl (fun E W hb hc hf hE hV => ⟨rfl, ?_⟩) ?_
    · have e1 : E (.tmp 3) = .pointer (some ⟨g + 1, 0, none⟩) := hE 3 (by kernel_rfl)
      have q := wcell hb q2
      have q' := wcell hb q3
      clear hE hV
      exact Does.value (w' := W) (by go_simp) ⟨rfl, Below.refl _ _⟩
    refine AllGo.cons rfl (fun E W hb hc hf hE hV => ⟨rfl, ?_⟩) ?_
    · have e1 : E (.tmp 21) = _ := hV 2 21 (by kernel_rfl) (by kernel_rfl) (by kernel_rfl)
      clear hE hV
      exact Does.call (w' := W) (by go_simp) ((list_want W _ n ⟨_, _, _, _, rfl, hN.out.mono hb⟩).mono fun e w' ⟨v, h1, h2, h3⟩ => ⟨v, h1, h2, h3⟩)
    refine AllGo.cons rfl (fun E W hb hc hf hE hV => ⟨rfl, ?_⟩) ?_
    · have e1 : Means W (.row .u64 (ds m)) (E (.tmp 20)) := hV 1 20 (by kernel_rfl) (by kernel_rfl) (by kernel_rfl)
      have e2 : Means W (.row .u64 (ds n)) (E (.tmp 22)) := hV 3 22 (by kernel_rfl) (by kernel_rfl) (by kernel_rfl)
      clear hE hV
      exact Does.call (w' := W) (by go_simp) ((product_want W _ _ m n hm hn h64 e1 e2).mono fun e w' ⟨v, h1, h2, h3⟩ => ⟨v, h1, h2, h3⟩)
    refine AllGo.cons rfl (fun E W hb hc hf hE hV => ⟨rfl, ?_⟩) ?_
    · have e1 : Means W (.wrow ((ds m).length + (ds n).length) (m * n)) (E (.tmp 23)) := hV 4 23 (by kernel_rfl) (by kernel_rfl) (by kernel_rfl)
      clear hE hV
      exact Does.call (w' := W) (by go_simp) ((ofWords_want W _ _ _ (by omega) e1).mono fun e w' ⟨v, h1, h2, h3⟩ => ⟨v, h1, h2, h3⟩)
    exact AllGo.nil
  · intro f W hf hb
    have e24 : Means W (.num (m * n)) (f 24) := hf (5, 24) (by simp)
    obtain ⟨s1, p1, l1, c1, ev, hx⟩ := e24
    have HX := Lib.hid hx
    have f0 := wfree hb r0 f0; have f1 := wfree hb r1 f1
    have r0 := wcell hb r0; have r1 := wcell hb r1
    have HW := Lib.hid (below_step HB hb)
    clear hf hb hx
    simp only [fillSlots]
    refine wpAny_ready (rs := [6]) (by kernel_rfl) (by simp) ?_
    refine AllReady.cons rfl (fun K hK => ?_) AllReady.nil
    go_simp
    refine hK _ _ ?_; clear hK K
    refine wpAny_done (by kernel_rfl) ?_ _
    go_wp2
    have hgw := HG.out
    refine bodyPost_ret (v := .agg #[.int .u64 s1, .slice p1 l1 c1]) (by simp [results, Tryz.results39, go_sem, r0, r1]) rfl ⟨s1, p1, l1, c1, rfl, HX.out.box r1, ?_⟩
    exact (HW.out.setCell (by show w.heap.size ≤ g + 1 + 1; omega) _).setCell (by show w.heap.size ≤ g + 1 + 1; omega) _

theorem IsN.pos {w : World} {s : Int} {p : Option Addr} {l c n : Nat} (h : IsN w s p l c n) : (l = 0 ∧ n < 2 ^ 64 ∧ s = (n : Int) ∧ p = none ∧ c = 0) ∨ 0 < l := by
  rcases h with ⟨h1, h2, h3, h4, h5⟩ | ⟨h1, _, b, off, _, h4, _⟩
  · exact Or.inl ⟨h4, h1, h2, h3, h5⟩
  · have := ds_pos n; exact Or.inr (by omega)

theorem add_any (s t : Int) (p q : Option Addr) (l c k d m n : Nat) (w : World) (hm : (ds m).length ≤ 1000000) (hn : (ds n).length ≤ 1000000) (h1 : IsN w s p l c m) (h2 : IsN w t q k d n) :
    Calls Tryz.prog 40 #[.agg #[.int .u64 s, .slice p l c], .agg #[.int .u64 t, .slice q k d]] w (RetN w (m + n)) := by
  rcases h1.pos with ⟨rfl, a1, rfl, rfl, rfl⟩ | hl
  · rcases h2.pos with ⟨rfl, b1, rfl, rfl, rfl⟩ | hk
    · exact add_ss m n a1 b1 w
    · exact add_sl _ _ _ _ _ _ _ m n w hk hm hn h1 h2
  · exact add_l _ _ _ _ _ _ _ _ m n w hl hm hn h1 h2

set_option maxHeartbeats 400000 in
theorem mul_ss (m n : Nat) (hm : m < 2 ^ 64) (hn : n < 2 ^ 64) (w : World) :
    Calls Tryz.prog 39 #[.agg #[.int .u64 (m : Int), .slice none 0 0], .agg #[.int .u64 (n : Int), .slice none 0 0]] w (RetN w (m * n)) := by
  have hml := Nat.mod_lt (m * n) (by omega : 0 < 2 ^ 64)
  have hmd := Nat.mod_add_div (m * n) (2 ^ 64)
  have hd : m * n / 2 ^ 64 < 2 ^ 64 := by have := mul_step_bound hm hn (by omega : 0 < 2 ^ 64) (by omega : 0 < 2 ^ 64); simpa using this
  have HM := Lib.hid (mul64_any m n _ _ hm hn hmd.symm hml)
  have HT := Lib.hid (ofTwo_any (m * n / 2 ^ 64) (m * n % 2 ^ 64) hd hml)
  have HE := Lib.hid hmd
  clear hml hmd hd hm hn
  generalize m * n / 2 ^ 64 = hi at *
  generalize m * n % 2 ^ 64 = lo at *
  go_enter Tryz.func39, Tryz.ntmps39
  go_wp2_with fail
  refine (short_yes _ _ _ _).mono ?_
  rintro e w1 ⟨rfl, hb⟩
  obtain ⟨hc, hf⟩ := bcell hb
  have hz : w.heap.size + 1 < w1.heap.size := by have := hb.size; simp at this; omega
  go_wp2_with fail
  refine (short_yes _ _ _ _).mono ?_
  rintro e w2 ⟨rfl, hb2⟩
  replace hb2 := below_step hb hb2
  obtain ⟨hc2, hf2⟩ := bcell hb2
  clear hc hf
  go_wp2_with fail
  refine (HM.out _).mono ?_
  rintro e w2' ⟨rfl, rfl⟩
  go_wp2_with fail
  refine (HT.out _).mono ?_
  rintro e w3 ⟨s, p, l, c, rfl, hN, hb3⟩
  rw [HE.out] at hN
  replace hb3 := below_step hb2 hb3
  obtain ⟨hc3, hf3⟩ := bcell hb3
  have hz3 : w.heap.size + 2 < w3.heap.size := by have := hb3.size; simp at this; omega
  have HN := Lib.hid hN; clear hN
  go_wp2
  refine bodyPost_ret (v := .agg #[.int .u64 s, .slice p l c]) (by simp [results, Tryz.results39, go_sem, hc3]) rfl ⟨s, p, l, c, rfl, HN.out.box (q := none) (k := 0) (d := 0) (by simp [hc3, go_sem]), ?_⟩
  exact (by repeat' first | exact Below.refl _ _ | refine below_alloc ?_ _ | (refine Below.setCell ?_ (by simp; omega) _) | refine below_step ?_ (by assumption))

theorem mul_any (s t : Int) (p q : Option Addr) (l c k d m n : Nat) (w : World) (hm : (ds m).length ≤ 1000000) (hn : (ds n).length ≤ 1000000) (h64 : (ds m).length < 64 ∨ (ds n).length < 64) (h1 : IsN w s p l c m) (h2 : IsN w t q k d n) :
    Calls Tryz.prog 39 #[.agg #[.int .u64 s, .slice p l c], .agg #[.int .u64 t, .slice q k d]] w (RetN w (m * n)) := by
  rcases h1.pos with ⟨rfl, a1, rfl, rfl, rfl⟩ | hl
  · rcases h2.pos with ⟨rfl, b1, rfl, rfl, rfl⟩ | hk
    · exact mul_ss m n a1 b1 w
    · exact mul_sl _ _ _ _ _ _ _ m n w hk hm hn h64 h1 h2
  · exact mul_l _ _ _ _ _ _ _ _ m n w hl hm hn h64 h1 h2
end Go.Proofs.YtfjjmhbffbhhdaaGreatDoor
