/- Rows of integers: as values, in boxes. -/
import Derived.Test.YtfjjmhbffbhhdaaGreatDoorIntDiv
namespace Go.Proofs.YtfjjmhbffbhhdaaGreatDoor
open Go.RowKit

theorem setCell_id {w : World} {a : Addr} {v : Value} (h : w.cell? a = some v) : w.setCell a v = w := by
  have hh : (w.setCell a v).heap = w.heap := by
    apply Array.ext_getElem?
    intro j
    simp only [World.setCell, Array.getElem?_modify]
    unfold World.cell? at h
    split
    · rename_i e
      subst e
      split at h
      · rename_i c e f hb
        rw [hb]
        simp only [Option.map_some, Option.some.injEq]
        cases hs : a.spot.isSome with
        | true => simp
        | false =>
          rw [hs] at h
          simp only [Bool.false_eq_true, if_false] at h ⊢
          congr 1
          apply Array.ext_getElem?
          intro i
          by_cases hi : a.off = i
          · subst hi
            rw [h]
            obtain ⟨h1, h2⟩ := Array.getElem?_eq_some_iff.1 h
            rw [Array.getElem?_setIfInBounds_self_of_lt h1]
          · rw [Array.getElem?_setIfInBounds_ne hi]
      · cases h
    · rfl
  cases w
  simp only [World.setCell] at hh ⊢
  rw [hh]

def IsInts (w : World) : List Int → List Value → Prop
  | [], cs => cs = []
  | z :: zs, cs => ∃ g s p l c cs', cs = .bool g :: .int .u64 s :: .slice p l c :: cs' ∧ IsI w g s p l c z ∧ IsInts w zs cs'
theorem IsInts.mono {w w' : World} (hb : Below w.heap.size w w') : ∀ {zs : List Int} {cs : List Value}, IsInts w zs cs → IsInts w' zs cs
  | [], _, h => h
  | _ :: _, _, ⟨g, s, p, l, c, cs', h1, h2, h3⟩ => ⟨g, s, p, l, c, cs', h1, h2.mono hb, IsInts.mono hb h3⟩
theorem IsInts.stored {w w' : World} {b : Nat} {k : BK} {u x : Value} (hb : BoxHas w b k u) (hs : Stored w w' b k x) : ∀ {zs : List Int} {cs : List Value}, IsInts w zs cs → IsInts w' zs cs
  | [], _, h => h
  | _ :: _, _, ⟨g, s, p, l, c, cs', h1, h2, h3⟩ => ⟨g, s, p, l, c, cs', h1, ⟨h2.1, h2.2.stored hb hs⟩, IsInts.stored hb hs h3⟩
theorem IsInts.fits {w : World} : ∀ {zs : List Int} {cs : List Value}, IsInts w zs cs → Fits (intCells zs.length) cs
  | [], _, h => by subst h; trivial
  | _ :: _, _, ⟨g, s, p, l, c, cs', h1, _, h3⟩ => by subst h1; exact ⟨⟨_, rfl⟩, ⟨_, rfl⟩, ⟨_, _, _, rfl⟩, IsInts.fits h3⟩
def ints (zs : List Int) : Stable where
  says w v := ∃ cs, v = .agg cs.toArray ∧ IsInts w zs cs
  mono := by
    rintro w w' v hb ⟨cs, h1, h2⟩
    exact ⟨cs, h1, IsInts.mono hb h2⟩
  stored := by
    rintro w w' v b k u x hb hs ⟨cs, h1, h2⟩
    exact ⟨cs, h1, IsInts.stored hb hs h2⟩

theorem BoxHas.cell {w : World} {b : Nat} {k : BK} {cs : List Value} (h : BoxHas w b k (.agg cs.toArray)) (i : Nat) (x : Value) (hx : cs[i]? = some x) : w.cell? ⟨b, i, none⟩ = some x := by
  obtain ⟨cs', he, _, h3⟩ := h
  injection he with he
  have : cs = cs' := by simpa using he
  subst this
  exact h3 i x hx

theorem BoxHas.mk2 {w : World} {b : Nat} {g1 g2 : Bool} {s1 s2 : Int} {p1 p2 : Option Addr} {l1 c1 l2 c2 : Nat} (h0 : w.cell? ⟨b, 0, none⟩ = some (.bool g1)) (h1 : w.cell? ⟨b, 1, none⟩ = some (.int .u64 s1)) (h2 : w.cell? ⟨b, 2, none⟩ = some (.slice p1 l1 c1))
    (h3 : w.cell? ⟨b, 3, none⟩ = some (.bool g2)) (h4 : w.cell? ⟨b, 4, none⟩ = some (.int .u64 s2)) (h5 : w.cell? ⟨b, 5, none⟩ = some (.slice p2 l2 c2)) : BoxHas w b (.ints 2) (.agg #[.bool g1, .int .u64 s1, .slice p1 l1 c1, .bool g2, .int .u64 s2, .slice p2 l2 c2]) := by
  refine ⟨[_, _, _, _, _, _], rfl, ⟨⟨_, rfl⟩, ⟨_, rfl⟩, ⟨_, _, _, rfl⟩, ⟨_, rfl⟩, ⟨_, rfl⟩, ⟨_, _, _, rfl⟩, trivial⟩, fun i x hx => ?_⟩
  rcases i with _ | _ | _ | _ | _ | _ | i
  · injection hx with hx; subst hx; exact h0
  · injection hx with hx; subst hx; exact h1
  · injection hx with hx; subst hx; exact h2
  · injection hx with hx; subst hx; exact h3
  · injection hx with hx; subst hx; exact h4
  · injection hx with hx; subst hx; exact h5
  · cases hx
theorem stored_lo {W : World} {a : Nat} {u v y : Value} {g g2 : Bool} {s s2 : Int} {p p2 : Option Addr} {l c l2 c2 : Nat} (h : BoxHas W a (.ints 2) (.agg #[u, v, y, .bool g2, .int .u64 s2, .slice p2 l2 c2])) :
    Stored W (((W.setCell ⟨a, 0, none⟩ (.bool g)).setCell ⟨a, 1, none⟩ (.int .u64 s)).setCell ⟨a, 2, none⟩ (.slice p l c)) a (.ints 2) (.agg #[.bool g, .int .u64 s, .slice p l c, .bool g2, .int .u64 s2, .slice p2 l2 c2]) := by
  refine ⟨[_, _, _, _, _, _], rfl, ⟨⟨_, rfl⟩, ⟨_, rfl⟩, ⟨_, _, _, rfl⟩, ⟨_, rfl⟩, ⟨_, rfl⟩, ⟨_, _, _, rfl⟩, trivial⟩, ?_⟩
  have h3 := h.cell 3 _ rfl; have h4 := h.cell 4 _ rfl; have h5 := h.cell 5 _ rfl
  simp only [setAll]
  have k : ∀ (o : Nat) (z : Value), 2 < o → W.cell? ⟨a, o, none⟩ = some z → (((W.setCell ⟨a, 0, none⟩ (.bool g)).setCell ⟨a, 1, none⟩ (.int .u64 s)).setCell ⟨a, 2, none⟩ (.slice p l c)).cell? ⟨a, o, none⟩ = some z := by
    intro o z ho hz
    rw [World.cell?_setCell_other _ _ _ _ (by intro e; injection e with _ e; omega), World.cell?_setCell_other _ _ _ _ (by intro e; injection e with _ e; omega), World.cell?_setCell_other _ _ _ _ (by intro e; injection e with _ e; omega)]
    exact hz
  rw [setCell_id (k 3 _ (by omega) h3), setCell_id (k 4 _ (by omega) h4), setCell_id (k 5 _ (by omega) h5)]
theorem stored_hi {W : World} {a : Nat} {u v y : Value} {g g2 : Bool} {s s2 : Int} {p p2 : Option Addr} {l c l2 c2 : Nat} (h : BoxHas W a (.ints 2) (.agg #[.bool g, .int .u64 s, .slice p l c, u, v, y])) :
    Stored W (((W.setCell ⟨a, 3, none⟩ (.bool g2)).setCell ⟨a, 4, none⟩ (.int .u64 s2)).setCell ⟨a, 5, none⟩ (.slice p2 l2 c2)) a (.ints 2) (.agg #[.bool g, .int .u64 s, .slice p l c, .bool g2, .int .u64 s2, .slice p2 l2 c2]) := by
  refine ⟨[_, _, _, _, _, _], rfl, ⟨⟨_, rfl⟩, ⟨_, rfl⟩, ⟨_, _, _, rfl⟩, ⟨_, rfl⟩, ⟨_, rfl⟩, ⟨_, _, _, rfl⟩, trivial⟩, ?_⟩
  simp only [setAll]
  rw [setCell_id (h.cell 0 _ rfl), setCell_id (h.cell 1 _ rfl), setCell_id (h.cell 2 _ rfl)]
theorem free6 {w : World} {b : Nat} (h : ∀ o, o < 6 → w.frozen? ⟨b, o, none⟩ = false) : BoxFree w b (.ints 2) := fun o ho => h o (by simpa [BK.cells, BK.shape, intCells] using ho)
end Go.Proofs.YtfjjmhbffbhhdaaGreatDoor

/- A row of two integers less a multiple of another row. -/
namespace Go.Proofs.YtfjjmhbffbhhdaaGreatDoor
open Go.RowKit

def RetRow (W : World) (x y : Int) : Ending → World → Prop := fun e w' =>
  ∃ g1 s1 p1 l1 c1 g2 s2 p2 l2 c2, e = .returned (.agg #[.bool g1, .int .u64 s1, .slice p1 l1 c1, .bool g2, .int .u64 s2, .slice p2 l2 c2]) ∧ IsI w' g1 s1 p1 l1 c1 x ∧ IsI w' g2 s2 p2 l2 c2 y ∧ Below W.heap.size W w'

theorem ds_natAbs_mul (x y : Int) : (ds (x * y).natAbs).length ≤ (ds x.natAbs).length + (ds y.natAbs).length := by
  rw [Int.natAbs_mul]; exact ds_mul _ _

set_option maxRecDepth 100000 in
set_option maxHeartbeats 4000000 in
theorem less_any (x0 x1 q y0 y1 : Int) (g1 g2 g3 g4 g5 : Bool) (s1 s2 s3 s4 s5 : Int) (p1 p2 p3 p4 p5 : Option Addr) (l1 c1 l2 c2 l3 c3 l4 c4 l5 c5 : Nat) (w : World)
    (d0 : (ds x0.natAbs).length ≤ 20) (d1 : (ds x1.natAbs).length ≤ 20) (dq : (ds q.natAbs).length ≤ 20) (e0 : (ds y0.natAbs).length ≤ 20) (e1 : (ds y1.natAbs).length ≤ 20)
    (h1 : IsI w g1 s1 p1 l1 c1 x0) (h2 : IsI w g2 s2 p2 l2 c2 x1) (h3 : IsI w g3 s3 p3 l3 c3 q) (h4 : IsI w g4 s4 p4 l4 c4 y0) (h5 : IsI w g5 s5 p5 l5 c5 y1) :
    Calls Tryz.prog 48 #[.agg #[.bool g1, .int .u64 s1, .slice p1 l1 c1, .bool g2, .int .u64 s2, .slice p2 l2 c2], .agg #[.bool g3, .int .u64 s3, .slice p3 l3 c3], .agg #[.bool g4, .int .u64 s4, .slice p4 l4 c4, .bool g5, .int .u64 s5, .slice p5 l5 c5]] w (RetRow w (x0 - q * y0) (x1 - q * y1)) := by
  have m0 := ds_natAbs_mul q y0; have m1 := ds_natAbs_mul q y1
  have H1 := Lib.hid h1; have H2 := Lib.hid h2; have H3 := Lib.hid h3; have H4 := Lib.hid h4; have H5 := Lib.hid h5
  have DD := Lib.hid (And.intro d0 (And.intro d1 (And.intro dq (And.intro e0 e1))))
  have MM := Lib.hid (And.intro m0 m1)
  clear h1 h2 h3 h4 h5 d0 d1 dq e0 e1 m0 m1
  go_enter Tryz.func48, Tryz.ntmps48
  go_wp2
  obtain ⟨W, hW⟩ : ∃ W, W = (((w.alloc (.cells #[.bool g1, .int .u64 s1, .slice p1 l1 c1, .bool g2, .int .u64 s2, .slice p2 l2 c2] 87)).alloc (.cells #[.bool g3, .int .u64 s3, .slice p3 l3 c3] 28)).alloc (.cells #[.bool g4, .int .u64 s4, .slice p4 l4 c4, .bool g5, .int .u64 s5, .slice p5 l5 c5] 87)).alloc (.cells #[.bool false, .int .u64 0, .slice none 0 0, .bool false, .int .u64 0, .slice none 0 0] 87) := ⟨_, rfl⟩
  obtain ⟨r, hr⟩ : ∃ r, r = w.heap.size + 1 + 1 + 1 := ⟨_, rfl⟩
  obtain ⟨c, hc⟩ : ∃ c, c = w.heap.size + 1 + 1 := ⟨_, rfl⟩
  obtain ⟨b, hbb⟩ : ∃ b, b = w.heap.size + 1 := ⟨_, rfl⟩
  obtain ⟨a, ha⟩ : ∃ a, a = w.heap.size := ⟨_, rfl⟩
  have HB : Below w.heap.size w W := by rw [hW]; exact below_alloc (below_alloc (below_alloc (below_alloc (Below.refl _ _) _) _) _) _
  have A : W.cell? ⟨a, 0, none⟩ = some (.bool g1) ∧ W.cell? ⟨a, 1, none⟩ = some (.int .u64 s1) ∧ W.cell? ⟨a, 2, none⟩ = some (.slice p1 l1 c1) ∧ W.cell? ⟨a, 3, none⟩ = some (.bool g2) ∧ W.cell? ⟨a, 4, none⟩ = some (.int .u64 s2) ∧ W.cell? ⟨a, 5, none⟩ = some (.slice p2 l2 c2) := by refine ⟨?_, ?_, ?_, ?_, ?_, ?_⟩ <;> simp [hW, ha, go_sem]
  have B : W.cell? ⟨b, 0, none⟩ = some (.bool g3) ∧ W.cell? ⟨b, 1, none⟩ = some (.int .u64 s3) ∧ W.cell? ⟨b, 2, none⟩ = some (.slice p3 l3 c3) := by refine ⟨?_, ?_, ?_⟩ <;> simp [hW, hbb, go_sem]
  have C : W.cell? ⟨c, 0, none⟩ = some (.bool g4) ∧ W.cell? ⟨c, 1, none⟩ = some (.int .u64 s4) ∧ W.cell? ⟨c, 2, none⟩ = some (.slice p4 l4 c4) ∧ W.cell? ⟨c, 3, none⟩ = some (.bool g5) ∧ W.cell? ⟨c, 4, none⟩ = some (.int .u64 s5) ∧ W.cell? ⟨c, 5, none⟩ = some (.slice p5 l5 c5) := by refine ⟨?_, ?_, ?_, ?_, ?_, ?_⟩ <;> simp [hW, hc, go_sem]
  have R : W.cell? ⟨r, 0, none⟩ = some (.bool false) ∧ W.cell? ⟨r, 1, none⟩ = some (.int .u64 0) ∧ W.cell? ⟨r, 2, none⟩ = some (.slice none 0 0) ∧ W.cell? ⟨r, 3, none⟩ = some (.bool false) ∧ W.cell? ⟨r, 4, none⟩ = some (.int .u64 0) ∧ W.cell? ⟨r, 5, none⟩ = some (.slice none 0 0) := by refine ⟨?_, ?_, ?_, ?_, ?_, ?_⟩ <;> simp [hW, hr, go_sem]
  have FA : ∀ o, o < 6 → W.frozen? ⟨a, o, none⟩ = false := by intro o _; simp [hW, ha, go_sem]
  have FR : ∀ o, o < 6 → W.frozen? ⟨r, o, none⟩ = false := by intro o _; simp [hW, hr, go_sem]
  have NN := Lib.hid (show w.heap.size ≤ a ∧ a < b ∧ b < c ∧ c < r by omega)
  rw [← hW, ← hr, ← hc, ← hbb, ← ha]
  have FA := Lib.hid FA; have FR := Lib.hid FR
  have K1 := Lib.hid (H1.out.mono HB); have K2 := Lib.hid (H2.out.mono HB); have K3 := Lib.hid (H3.out.mono HB); have K4 := Lib.hid (H4.out.mono HB); have K5 := Lib.hid (H5.out.mono HB)
  have HB := Lib.hid HB; have A := Lib.hid A; have B := Lib.hid B; have C := Lib.hid C; have R := Lib.hid R
  clear hW hr hc hbb ha H1 H2 H3 H4 H5
  go_loopw [8] (fun i wr => ∃ k : Nat, k ≤ 2 ∧ i = .int .i64 k ∧ ∃ g6 s6 p6 l6 c6 g7 s7 p7 l7 c7, Hid (wr.cell? ⟨a, 0, none⟩ = some (.bool g6) ∧ wr.cell? ⟨a, 1, none⟩ = some (.int .u64 s6) ∧ wr.cell? ⟨a, 2, none⟩ = some (.slice p6 l6 c6) ∧ wr.cell? ⟨a, 3, none⟩ = some (.bool g7) ∧ wr.cell? ⟨a, 4, none⟩ = some (.int .u64 s7) ∧ wr.cell? ⟨a, 5, none⟩ = some (.slice p7 l7 c7)) ∧ Hid (wr.cell? ⟨b, 0, none⟩ = some (.bool g3) ∧ wr.cell? ⟨b, 1, none⟩ = some (.int .u64 s3) ∧ wr.cell? ⟨b, 2, none⟩ = some (.slice p3 l3 c3)) ∧ Hid (wr.cell? ⟨c, 0, none⟩ = some (.bool g4) ∧ wr.cell? ⟨c, 1, none⟩ = some (.int .u64 s4) ∧ wr.cell? ⟨c, 2, none⟩ = some (.slice p4 l4 c4) ∧ wr.cell? ⟨c, 3, none⟩ = some (.bool g5) ∧ wr.cell? ⟨c, 4, none⟩ = some (.int .u64 s5) ∧ wr.cell? ⟨c, 5, none⟩ = some (.slice p5 l5 c5)) ∧ Hid (wr.cell? ⟨r, 0, none⟩ = some (.bool false) ∧ wr.cell? ⟨r, 1, none⟩ = some (.int .u64 0) ∧ wr.cell? ⟨r, 2, none⟩ = some (.slice none 0 0) ∧ wr.cell? ⟨r, 3, none⟩ = some (.bool false) ∧ wr.cell? ⟨r, 4, none⟩ = some (.int .u64 0) ∧ wr.cell? ⟨r, 5, none⟩ = some (.slice none 0 0)) ∧
    Hid (∀ o, o < 6 → wr.frozen? ⟨a, o, none⟩ = false) ∧ Hid (∀ o, o < 6 → wr.frozen? ⟨r, o, none⟩ = false) ∧ Hid (IsI wr g6 s6 p6 l6 c6 (if 0 < k then x0 - q * y0 else x0)) ∧ Hid (IsI wr g7 s7 p7 l7 c7 (if 1 < k then x1 - q * y1 else x1)) ∧ Hid (IsI wr g3 s3 p3 l3 c3 q) ∧ Hid (IsI wr g4 s4 p4 l4 c4 y0) ∧ Hid (IsI wr g5 s5 p5 l5 c5 y1) ∧ Hid (Below w.heap.size w wr)) (fun i _ => 2 - (intOf i).toNat)
  case atStart => exact ⟨0, by omega, rfl, g1, s1, p1, l1, c1, g2, s2, p2, l2, c2, A, B, C, R, FA, FR, K1, K2, K3, K4, K5, HB⟩
  case round =>
    clear A B C R FA FR K1 K2 K3 K4 K5 HB
    obtain ⟨k, hk, rfl, g6, s6, p6, l6, c6, g7, s7, p7, l7, c7, A, B, C, R, FA, FR, K6, K7, K3, K4, K5, HB⟩ := hrel
    have : k = 0 ∨ k = 1 ∨ k = 2 := by omega
    rcases this with rfl | rfl | rfl
    · have i0 : ((0 : Nat) : Int) = 0 := rfl
      rw [if_neg (by omega)] at K6 K7
      obtain ⟨A0, A1, A2, A3, A4, A5⟩ := A.out
      obtain ⟨B0, B1, B2⟩ := B.out
      obtain ⟨C0, C1, C2, C3, C4, C5⟩ := C.out
      have OLD_a : BoxHas wr a (.ints 2) (.agg #[.bool g6, .int .u64 s6, .slice p6 l6 c6, .bool g7, .int .u64 s7, .slice p7 l7 c7]) ∧ BoxFree wr a (.ints 2) := ⟨.mk2 A0 A1 A2 A3 A4 A5, free6 FA.out⟩
      have n1 := NN.out.1; have n2 := NN.out.2.1; have n3 := NN.out.2.2.1; have n4 := NN.out.2.2.2
      have ir : b ∉ [a] ∧ c ∉ [a] ∧ r ∉ [a] := by simp; omega
      have dd := DD.out; have mm := MM.out
      go_wp2
      refine region_told (T := [0, 1, 2, 3, 4, 5, 6, 7, 8, 9, 10]) (slots := [11, 12, 13, 14, 15, 16, 17, 18, 19, 20, 21])
          (tab := [.is (.int .i64 0), .is (.int .i64 0), .is (.pointer (some ⟨a, 0, none⟩)), .int x0, .int q, .is (.int .i64 0), .is (.pointer (some ⟨c, 0, none⟩)), .int y0, .int (q * y0), .int (x0 - q * y0), .is (.pointer (some ⟨a, 0, none⟩)), .any])
          (D := [⟨a, (.ints 2), none, 11, (.that (ints [x0 - q * y0, x1])), (.agg #[.bool g6, .int .u64 s6, .slice p6 l6 c6, .bool g7, .int .u64 s7, .slice p7 l7 c7])⟩])
          (F := [(.agg #[.bool g6, .int .u64 s6, .slice p6 l6 c6], .int x0), (.agg #[.bool g3, .int .u64 s3, .slice p3 l3 c3], .int q), (.agg #[.bool g4, .int .u64 s4, .slice p4 l4 c4], .int y0), (.agg #[.bool g7, .int .u64 s7, .slice p7 l7 c7], .int (x1)), (.agg #[.bool g5, .int .u64 s5, .slice p5 l5 c5], .int y1)])
          (by kernel_rfl) (by kernel_rfl) (by kernel_rfl) (by kernel_rfl) (by kernel_rfl) (by kernel_rfl) (by kernel_rfl) ?_ ?_ ?_ ?_ ?_
      · skip
        refine List.Pairwise.cons (fun y hy => ?_) ?_
        · cases hy
        exact List.Pairwise.nil
      · intro f hf; simp only [List.mem_cons, List.not_mem_nil, or_false] at hf; rcases hf with rfl | rfl | rfl | rfl | rfl
        · exact ⟨_, _, _, _, _, rfl, K6.out⟩
        · exact ⟨_, _, _, _, _, rfl, K3.out⟩
        · exact ⟨_, _, _, _, _, rfl, K4.out⟩
        · exact ⟨_, _, _, _, _, rfl, K7.out⟩
        · exact ⟨_, _, _, _, _, rfl, K5.out⟩
      · intro x hx hal; simp only [List.mem_cons, List.not_mem_nil, or_false] at hx; rcases hx with rfl
        · exact ⟨OLD_a.1, OLD_a.2, OLD_a.1.lt rfl⟩
      · skip
        refine AllTold.cons rfl (fun β E W hA hF hc hf hE hV hP hB hS => Or.inl ⟨rfl, (by kernel_rfl), ?_⟩) ?_
        · have e1 : E (.tmp 7) = .int .i64 0 := hE 7 (by kernel_rfl)
          clear hE hV hP hB hS
          exact Does.value (w' := W) (by go_simp) ⟨rfl, Below.refl _ _⟩
        refine AllTold.cons rfl (fun β E W hA hF hc hf hE hV hP hB hS => Or.inl ⟨rfl, (by kernel_rfl), ?_⟩) ?_
        · have e1 : E (.tmp 7) = .int .i64 0 := hE 7 (by kernel_rfl)
          clear hE hV hP hB hS
          exact Does.value (w' := W) (by go_simp) ⟨rfl, Below.refl _ _⟩
        refine AllTold.cons rfl (fun β E W hA hF hc hf hE hV hP hB hS => Or.inl ⟨rfl, (by kernel_rfl), ?_⟩) ?_
        · have e1 : E (.tmp 3) = .pointer (some ⟨a, 0, none⟩) := hE 3 (by kernel_rfl)
          have e2 : E (.tmp 12) = (.int .i64 0) := hV 1 12 (by kernel_rfl) rfl
          clear hE hV hP hB hS
          exact Does.value (w' := W) (by go_simp) ⟨rfl, Below.refl _ _⟩
        refine AllTold.cons rfl (fun β E W hA hF hc hf hE hV hP hB hS => Or.inl ⟨rfl, (by kernel_rfl), ?_⟩) ?_
        · have e1 : E (.tmp 13) = (.pointer (some ⟨a, 0, none⟩)) := hV 2 13 (by kernel_rfl) rfl
          have hbx : BoxHas W a (.ints 2) (.agg #[.bool g6, .int .u64 s6, .slice p6 l6 c6, .bool g7, .int .u64 s7, .slice p7 l7 c7]) := (hB _ mb0 (by kernel_rfl) (by kernel_rfl)).1
          have q0 := hbx.cell 0 _ rfl
          have q1 := hbx.cell 1 _ rfl
          have q2 := hbx.cell 2 _ rfl
          clear hE hV hP hB hS
          exact Does.value (v := .agg #[.bool g6, .int .u64 s6, .slice p6 l6 c6]) (w' := W) (by go_simp) ⟨hF (_, _) mb0, Below.refl _ _⟩
        refine AllTold.cons rfl (fun β E W hA hF hc hf hE hV hP hB hS => Or.inl ⟨rfl, (by kernel_rfl), ?_⟩) ?_
        · have e1 : E (.tmp 4) = .pointer (some ⟨b, 0, none⟩) := hE 4 (by kernel_rfl)
          have q0 := hA.cell B0 ir.1
          have q1 := hA.cell B1 ir.1
          have q2 := hA.cell B2 ir.1
          clear hE hV hP hB hS
          exact Does.value (v := .agg #[.bool g3, .int .u64 s3, .slice p3 l3 c3]) (w' := W) (by go_simp) ⟨hF (_, _) mb1, Below.refl _ _⟩
        refine AllTold.cons rfl (fun β E W hA hF hc hf hE hV hP hB hS => Or.inl ⟨rfl, (by kernel_rfl), ?_⟩) ?_
        · have e1 : E (.tmp 7) = .int .i64 0 := hE 7 (by kernel_rfl)
          clear hE hV hP hB hS
          exact Does.value (w' := W) (by go_simp) ⟨rfl, Below.refl _ _⟩
        refine AllTold.cons rfl (fun β E W hA hF hc hf hE hV hP hB hS => Or.inl ⟨rfl, (by kernel_rfl), ?_⟩) ?_
        · have e1 : E (.tmp 5) = .pointer (some ⟨c, 0, none⟩) := hE 5 (by kernel_rfl)
          have e2 : E (.tmp 16) = (.int .i64 0) := hV 5 16 (by kernel_rfl) rfl
          clear hE hV hP hB hS
          exact Does.value (w' := W) (by go_simp) ⟨rfl, Below.refl _ _⟩
        refine AllTold.cons rfl (fun β E W hA hF hc hf hE hV hP hB hS => Or.inl ⟨rfl, (by kernel_rfl), ?_⟩) ?_
        · have e1 : E (.tmp 17) = (.pointer (some ⟨c, 0, none⟩)) := hV 6 17 (by kernel_rfl) rfl
          have q0 := hA.cell C0 ir.2.1
          have q1 := hA.cell C1 ir.2.1
          have q2 := hA.cell C2 ir.2.1
          clear hE hV hP hB hS
          exact Does.value (v := .agg #[.bool g4, .int .u64 s4, .slice p4 l4 c4]) (w' := W) (by go_simp) ⟨hF (_, _) mb2, Below.refl _ _⟩
        refine AllTold.cons rfl (fun β E W hA hF hc hf hE hV hP hB hS => Or.inl ⟨rfl, (by kernel_rfl), ?_⟩) ?_
        · have e1 : Means W (.int q) (E (.tmp 15)) := hV 4 15 (by kernel_rfl) rfl
          have e2 : Means W (.int y0) (E (.tmp 18)) := hV 7 18 (by kernel_rfl) rfl
          clear hE hV hP hB hS
          exact Does.call (w' := W) (by go_simp) ((iMul_want W _ _ q y0 (by omega) (by omega) e1 e2).mono fun e w' ⟨v, h1, h2, h3⟩ => ⟨v, h1, h2, h3⟩)
        refine AllTold.cons rfl (fun β E W hA hF hc hf hE hV hP hB hS => Or.inl ⟨rfl, (by kernel_rfl), ?_⟩) ?_
        · have e1 : Means W (.int x0) (E (.tmp 14)) := hV 3 14 (by kernel_rfl) rfl
          have e2 : Means W (.int (q * y0)) (E (.tmp 19)) := hV 8 19 (by kernel_rfl) rfl
          clear hE hV hP hB hS
          exact Does.call (w' := W) (by go_simp) ((iSub_want W _ _ x0 (q * y0) (by omega) (by omega) e1 e2).mono fun e w' ⟨v, h1, h2, h3⟩ => ⟨v, h1, h2, h3⟩)
        refine AllTold.cons rfl (fun β E W hA hF hc hf hE hV hP hB hS => Or.inl ⟨rfl, (by kernel_rfl), ?_⟩) ?_
        · have e1 : E (.tmp 3) = .pointer (some ⟨a, 0, none⟩) := hE 3 (by kernel_rfl)
          have e2 : E (.tmp 11) = (.int .i64 0) := hV 0 11 (by kernel_rfl) rfl
          clear hE hV hP hB hS
          exact Does.value (w' := W) (by go_simp) ⟨rfl, Below.refl _ _⟩
        refine AllTold.cons rfl (fun β E W hA hF hc hf hE hV hP hB hS => Or.inr (Or.inl ⟨rfl, ⟨_, mb0, rfl, (by kernel_rfl), rfl, ?_⟩⟩)) ?_
        · have e1 : E (.tmp 21) = (.pointer (some ⟨a, 0, none⟩)) := hV 10 21 (by kernel_rfl) rfl
          have e2 : Means W (.int (x0 - q * y0)) (E (.tmp 20)) := hV 9 20 (by kernel_rfl) rfl
          obtain ⟨hbx, hfr⟩ := hB _ mb0 (by kernel_rfl) (by kernel_rfl)
          replace hbx : BoxHas W a (.ints 2) (.agg #[.bool g6, .int .u64 s6, .slice p6 l6 c6, .bool g7, .int .u64 s7, .slice p7 l7 c7]) := hbx
          replace hfr : BoxFree W a (.ints 2) := hfr
          have q0 := hbx.cell 0 _ rfl
          have q1 := hbx.cell 1 _ rfl
          have q2 := hbx.cell 2 _ rfl
          have t0 := hfr 0 (by show 0 < 6; decide)
          have t1 := hfr 1 (by show 1 < 6; decide)
          have t2 := hfr 2 (by show 2 < 6; decide)
          obtain ⟨g, s, p, l, c', e2', hI⟩ := e2
          have hk := (hF (_, _) mb3).isI
          clear hE hV hP hB hS
          exact Does.skip (by go_simp) ⟨_, stored_lo (a := a) hbx, ⟨_, rfl, ⟨_, _, _, _, _, _, rfl, hI, ⟨_, _, _, _, _, _, rfl, hk, rfl⟩⟩⟩⟩
        exact AllTold.nil
      · intro β f W' hf hS hN hA _ _ _ _
        obtain ⟨⟨v, hbx, cs, hv, hcs⟩, hfr⟩ := hS _ mb0
        replace hbx : BoxHas W' a (.ints 2) v := hbx
        replace hfr : BoxFree W' a (.ints 2) := hfr
        obtain ⟨ga, sa, pa, la, ca, cs', rfl, ia, gb, sb, pb, lb, cb, cs2, rfl, ib, rfl⟩ := hcs
        subst hv
        have AN := Lib.hid (And.intro (hbx.cell 0 _ rfl) (And.intro (hbx.cell 1 _ rfl) (And.intro (hbx.cell 2 _ rfl) (And.intro (hbx.cell 3 _ rfl) (And.intro (hbx.cell 4 _ rfl) (hbx.cell 5 _ rfl))))))
        obtain ⟨R0, R1, R2, R3, R4, R5⟩ := R.out
        have BN := Lib.hid (And.intro (hA.cell B0 ir.1) (And.intro (hA.cell B1 ir.1) (hA.cell B2 ir.1)))
        have CN := Lib.hid (And.intro (hA.cell C0 ir.2.1) (And.intro (hA.cell C1 ir.2.1) (And.intro (hA.cell C2 ir.2.1) (And.intro (hA.cell C3 ir.2.1) (And.intro (hA.cell C4 ir.2.1) (hA.cell C5 ir.2.1))))))
        have RN := Lib.hid (And.intro (hA.cell R0 ir.2.2) (And.intro (hA.cell R1 ir.2.2) (And.intro (hA.cell R2 ir.2.2) (And.intro (hA.cell R3 ir.2.2) (And.intro (hA.cell R4 ir.2.2) (hA.cell R5 ir.2.2))))))
        have FAN : Hid (∀ o, o < 6 → W'.frozen? ⟨a, o, none⟩ = false) := Lib.hid (fun o ho => hfr o (by show o < 6; exact ho))
        have FRN : Hid (∀ o, o < 6 → W'.frozen? ⟨r, o, none⟩ = false) := Lib.hid (fun o ho => (hA.frozen (World.block_lt_of_cell? _ _ R0) ir.2.2).trans (FR.out o ho))
        have IA := Lib.hid ia; have IB := Lib.hid ib
        have J3 := Lib.hid (hN (_, _) mb1).isI; have J4 := Lib.hid (hN (_, _) mb2).isI; have J5 := Lib.hid (hN (_, _) mb4).isI
        have HBN := Lib.hid (HB.out.trans (hA.below (B := w.heap.size) (by simp [oldBlocks]; omega) HB.out.size))
        clear hf hS hN hA hbx hfr ia ib A0 A1 A2 A3 A4 A5 B0 B1 B2 C0 C1 C2 C3 C4 C5 R0 R1 R2 R3 R4 R5 OLD_a
        simp only [fillSlots]
        go_wp2
        go_roundw
        case rel => exact ⟨1, by omega, rfl, _, _, _, _, _, _, _, _, _, _, AN, BN, CN, RN, FAN, FRN, by rw [if_pos (by omega)]; exact IA, by rw [if_neg (by omega)]; exact IB, J3, J4, J5, HBN⟩
        case measure => simp [intOf]
    · have i0 : ((1 : Nat) : Int) = 1 := rfl
      rw [if_pos (by omega)] at K6
      rw [if_neg (by omega)] at K7
      obtain ⟨A0, A1, A2, A3, A4, A5⟩ := A.out
      obtain ⟨B0, B1, B2⟩ := B.out
      obtain ⟨C0, C1, C2, C3, C4, C5⟩ := C.out
      have OLD_a : BoxHas wr a (.ints 2) (.agg #[.bool g6, .int .u64 s6, .slice p6 l6 c6, .bool g7, .int .u64 s7, .slice p7 l7 c7]) ∧ BoxFree wr a (.ints 2) := ⟨.mk2 A0 A1 A2 A3 A4 A5, free6 FA.out⟩
      have n1 := NN.out.1; have n2 := NN.out.2.1; have n3 := NN.out.2.2.1; have n4 := NN.out.2.2.2
      have ir : b ∉ [a] ∧ c ∉ [a] ∧ r ∉ [a] := by simp; omega
      have dd := DD.out; have mm := MM.out
      go_wp2
      refine region_told (T := [0, 1, 2, 3, 4, 5, 6, 7, 8, 9, 10]) (slots := [11, 12, 13, 14, 15, 16, 17, 18, 19, 20, 21])
          (tab := [.is (.int .i64 1), .is (.int .i64 1), .is (.pointer (some ⟨a, 3, none⟩)), .int x1, .int q, .is (.int .i64 1), .is (.pointer (some ⟨c, 3, none⟩)), .int y1, .int (q * y1), .int (x1 - q * y1), .is (.pointer (some ⟨a, 3, none⟩)), .any])
          (D := [⟨a, (.ints 2), none, 11, (.that (ints [x0 - q * y0, x1 - q * y1])), (.agg #[.bool g6, .int .u64 s6, .slice p6 l6 c6, .bool g7, .int .u64 s7, .slice p7 l7 c7])⟩])
          (F := [(.agg #[.bool g7, .int .u64 s7, .slice p7 l7 c7], .int x1), (.agg #[.bool g3, .int .u64 s3, .slice p3 l3 c3], .int q), (.agg #[.bool g5, .int .u64 s5, .slice p5 l5 c5], .int y1), (.agg #[.bool g6, .int .u64 s6, .slice p6 l6 c6], .int (x0 - q * y0)), (.agg #[.bool g4, .int .u64 s4, .slice p4 l4 c4], .int y0)])
          (by kernel_rfl) (by kernel_rfl) (by kernel_rfl) (by kernel_rfl) (by kernel_rfl) (by kernel_rfl) (by kernel_rfl) ?_ ?_ ?_ ?_ ?_
      · skip
        refine List.Pairwise.cons (fun y hy => ?_) ?_
        · cases hy
        exact List.Pairwise.nil
      · intro f hf; simp only [List.mem_cons, List.not_mem_nil, or_false] at hf; rcases hf with rfl | rfl | rfl | rfl | rfl
        · exact ⟨_, _, _, _, _, rfl, K7.out⟩
        · exact ⟨_, _, _, _, _, rfl, K3.out⟩
        · exact ⟨_, _, _, _, _, rfl, K5.out⟩
        · exact ⟨_, _, _, _, _, rfl, K6.out⟩
        · exact ⟨_, _, _, _, _, rfl, K4.out⟩
      · intro x hx hal; simp only [List.mem_cons, List.not_mem_nil, or_false] at hx; rcases hx with rfl
        · exact ⟨OLD_a.1, OLD_a.2, OLD_a.1.lt rfl⟩
      · skip
        refine AllTold.cons rfl (fun β E W hA hF hc hf hE hV hP hB hS => Or.inl ⟨rfl, (by kernel_rfl), ?_⟩) ?_
        · have e1 : E (.tmp 7) = .int .i64 1 := hE 7 (by kernel_rfl)
          clear hE hV hP hB hS
          exact Does.value (w' := W) (by go_simp) ⟨rfl, Below.refl _ _⟩
        refine AllTold.cons rfl (fun β E W hA hF hc hf hE hV hP hB hS => Or.inl ⟨rfl, (by kernel_rfl), ?_⟩) ?_
        · have e1 : E (.tmp 7) = .int .i64 1 := hE 7 (by kernel_rfl)
          clear hE hV hP hB hS
          exact Does.value (w' := W) (by go_simp) ⟨rfl, Below.refl _ _⟩
        refine AllTold.cons rfl (fun β E W hA hF hc hf hE hV hP hB hS => Or.inl ⟨rfl, (by kernel_rfl), ?_⟩) ?_
        · have e1 : E (.tmp 3) = .pointer (some ⟨a, 0, none⟩) := hE 3 (by kernel_rfl)
          have e2 : E (.tmp 12) = (.int .i64 1) := hV 1 12 (by kernel_rfl) rfl
          clear hE hV hP hB hS
          exact Does.value (w' := W) (by go_simp) ⟨rfl, Below.refl _ _⟩
        refine AllTold.cons rfl (fun β E W hA hF hc hf hE hV hP hB hS => Or.inl ⟨rfl, (by kernel_rfl), ?_⟩) ?_
        · have e1 : E (.tmp 13) = (.pointer (some ⟨a, 3, none⟩)) := hV 2 13 (by kernel_rfl) rfl
          have hbx : BoxHas W a (.ints 2) (.agg #[.bool g6, .int .u64 s6, .slice p6 l6 c6, .bool g7, .int .u64 s7, .slice p7 l7 c7]) := (hB _ mb0 (by kernel_rfl) (by kernel_rfl)).1
          have q0 := hbx.cell 3 _ rfl
          have q1 := hbx.cell 4 _ rfl
          have q2 := hbx.cell 5 _ rfl
          clear hE hV hP hB hS
          exact Does.value (v := .agg #[.bool g7, .int .u64 s7, .slice p7 l7 c7]) (w' := W) (by go_simp) ⟨hF (_, _) mb0, Below.refl _ _⟩
        refine AllTold.cons rfl (fun β E W hA hF hc hf hE hV hP hB hS => Or.inl ⟨rfl, (by kernel_rfl), ?_⟩) ?_
        · have e1 : E (.tmp 4) = .pointer (some ⟨b, 0, none⟩) := hE 4 (by kernel_rfl)
          have q0 := hA.cell B0 ir.1
          have q1 := hA.cell B1 ir.1
          have q2 := hA.cell B2 ir.1
          clear hE hV hP hB hS
          exact Does.value (v := .agg #[.bool g3, .int .u64 s3, .slice p3 l3 c3]) (w' := W) (by go_simp) ⟨hF (_, _) mb1, Below.refl _ _⟩
        refine AllTold.cons rfl (fun β E W hA hF hc hf hE hV hP hB hS => Or.inl ⟨rfl, (by kernel_rfl), ?_⟩) ?_
        · have e1 : E (.tmp 7) = .int .i64 1 := hE 7 (by kernel_rfl)
          clear hE hV hP hB hS
          exact Does.value (w' := W) (by go_simp) ⟨rfl, Below.refl _ _⟩
        refine AllTold.cons rfl (fun β E W hA hF hc hf hE hV hP hB hS => Or.inl ⟨rfl, (by kernel_rfl), ?_⟩) ?_
        · have e1 : E (.tmp 5) = .pointer (some ⟨c, 0, none⟩) := hE 5 (by kernel_rfl)
          have e2 : E (.tmp 16) = (.int .i64 1) := hV 5 16 (by kernel_rfl) rfl
          clear hE hV hP hB hS
          exact Does.value (w' := W) (by go_simp) ⟨rfl, Below.refl _ _⟩
        refine AllTold.cons rfl (fun β E W hA hF hc hf hE hV hP hB hS => Or.inl ⟨rfl, (by kernel_rfl), ?_⟩) ?_
        · have e1 : E (.tmp 17) = (.pointer (some ⟨c, 3, none⟩)) := hV 6 17 (by kernel_rfl) rfl
          have q0 := hA.cell C3 ir.2.1
          have q1 := hA.cell C4 ir.2.1
          have q2 := hA.cell C5 ir.2.1
          clear hE hV hP hB hS
          exact Does.value (v := .agg #[.bool g5, .int .u64 s5, .slice p5 l5 c5]) (w' := W) (by go_simp) ⟨hF (_, _) mb2, Below.refl _ _⟩
        refine AllTold.cons rfl (fun β E W hA hF hc hf hE hV hP hB hS => Or.inl ⟨rfl, (by kernel_rfl), ?_⟩) ?_
        · have e1 : Means W (.int q) (E (.tmp 15)) := hV 4 15 (by kernel_rfl) rfl
          have e2 : Means W (.int y1) (E (.tmp 18)) := hV 7 18 (by kernel_rfl) rfl
          clear hE hV hP hB hS
          exact Does.call (w' := W) (by go_simp) ((iMul_want W _ _ q y1 (by omega) (by omega) e1 e2).mono fun e w' ⟨v, h1, h2, h3⟩ => ⟨v, h1, h2, h3⟩)
        refine AllTold.cons rfl (fun β E W hA hF hc hf hE hV hP hB hS => Or.inl ⟨rfl, (by kernel_rfl), ?_⟩) ?_
        · have e1 : Means W (.int x1) (E (.tmp 14)) := hV 3 14 (by kernel_rfl) rfl
          have e2 : Means W (.int (q * y1)) (E (.tmp 19)) := hV 8 19 (by kernel_rfl) rfl
          clear hE hV hP hB hS
          exact Does.call (w' := W) (by go_simp) ((iSub_want W _ _ x1 (q * y1) (by omega) (by omega) e1 e2).mono fun e w' ⟨v, h1, h2, h3⟩ => ⟨v, h1, h2, h3⟩)
        refine AllTold.cons rfl (fun β E W hA hF hc hf hE hV hP hB hS => Or.inl ⟨rfl, (by kernel_rfl), ?_⟩) ?_
        · have e1 : E (.tmp 3) = .pointer (some ⟨a, 0, none⟩) := hE 3 (by kernel_rfl)
          have e2 : E (.tmp 11) = (.int .i64 1) := hV 0 11 (by kernel_rfl) rfl
          clear hE hV hP hB hS
          exact Does.value (w' := W) (by go_simp) ⟨rfl, Below.refl _ _⟩
        refine AllTold.cons rfl (fun β E W hA hF hc hf hE hV hP hB hS => Or.inr (Or.inl ⟨rfl, ⟨_, mb0, rfl, (by kernel_rfl), rfl, ?_⟩⟩)) ?_
        · have e1 : E (.tmp 21) = (.pointer (some ⟨a, 3, none⟩)) := hV 10 21 (by kernel_rfl) rfl
          have e2 : Means W (.int (x1 - q * y1)) (E (.tmp 20)) := hV 9 20 (by kernel_rfl) rfl
          obtain ⟨hbx, hfr⟩ := hB _ mb0 (by kernel_rfl) (by kernel_rfl)
          replace hbx : BoxHas W a (.ints 2) (.agg #[.bool g6, .int .u64 s6, .slice p6 l6 c6, .bool g7, .int .u64 s7, .slice p7 l7 c7]) := hbx
          replace hfr : BoxFree W a (.ints 2) := hfr
          have q3 := hbx.cell 3 _ rfl
          have q4 := hbx.cell 4 _ rfl
          have q5 := hbx.cell 5 _ rfl
          have t3 := hfr 3 (by show 3 < 6; decide)
          have t4 := hfr 4 (by show 4 < 6; decide)
          have t5 := hfr 5 (by show 5 < 6; decide)
          obtain ⟨g, s, p, l, c', e2', hI⟩ := e2
          have hk := (hF (_, _) mb3).isI
          clear hE hV hP hB hS
          exact Does.skip (by go_simp) ⟨_, stored_hi (a := a) hbx, ⟨_, rfl, ⟨_, _, _, _, _, _, rfl, hk, ⟨_, _, _, _, _, _, rfl, hI, rfl⟩⟩⟩⟩
        exact AllTold.nil
      · intro β f W' hf hS hN hA _ _ _ _
        obtain ⟨⟨v, hbx, cs, hv, hcs⟩, hfr⟩ := hS _ mb0
        replace hbx : BoxHas W' a (.ints 2) v := hbx
        replace hfr : BoxFree W' a (.ints 2) := hfr
        obtain ⟨ga, sa, pa, la, ca, cs', rfl, ia, gb, sb, pb, lb, cb, cs2, rfl, ib, rfl⟩ := hcs
        subst hv
        have AN := Lib.hid (And.intro (hbx.cell 0 _ rfl) (And.intro (hbx.cell 1 _ rfl) (And.intro (hbx.cell 2 _ rfl) (And.intro (hbx.cell 3 _ rfl) (And.intro (hbx.cell 4 _ rfl) (hbx.cell 5 _ rfl))))))
        obtain ⟨R0, R1, R2, R3, R4, R5⟩ := R.out
        have BN := Lib.hid (And.intro (hA.cell B0 ir.1) (And.intro (hA.cell B1 ir.1) (hA.cell B2 ir.1)))
        have CN := Lib.hid (And.intro (hA.cell C0 ir.2.1) (And.intro (hA.cell C1 ir.2.1) (And.intro (hA.cell C2 ir.2.1) (And.intro (hA.cell C3 ir.2.1) (And.intro (hA.cell C4 ir.2.1) (hA.cell C5 ir.2.1))))))
        have RN := Lib.hid (And.intro (hA.cell R0 ir.2.2) (And.intro (hA.cell R1 ir.2.2) (And.intro (hA.cell R2 ir.2.2) (And.intro (hA.cell R3 ir.2.2) (And.intro (hA.cell R4 ir.2.2) (hA.cell R5 ir.2.2))))))
        have FAN : Hid (∀ o, o < 6 → W'.frozen? ⟨a, o, none⟩ = false) := Lib.hid (fun o ho => hfr o (by show o < 6; exact ho))
        have FRN : Hid (∀ o, o < 6 → W'.frozen? ⟨r, o, none⟩ = false) := Lib.hid (fun o ho => (hA.frozen (World.block_lt_of_cell? _ _ R0) ir.2.2).trans (FR.out o ho))
        have IA := Lib.hid ia; have IB := Lib.hid ib
        have J3 := Lib.hid (hN (_, _) mb1).isI; have J4 := Lib.hid (hN (_, _) mb4).isI; have J5 := Lib.hid (hN (_, _) mb2).isI
        have HBN := Lib.hid (HB.out.trans (hA.below (B := w.heap.size) (by simp [oldBlocks]; omega) HB.out.size))
        clear hf hS hN hA hbx hfr ia ib A0 A1 A2 A3 A4 A5 B0 B1 B2 C0 C1 C2 C3 C4 C5 R0 R1 R2 R3 R4 R5 OLD_a
        simp only [fillSlots]
        go_wp2
        go_roundw
        case rel => exact ⟨2, by omega, rfl, _, _, _, _, _, _, _, _, _, _, AN, BN, CN, RN, FAN, FRN, by rw [if_pos (by omega)]; exact IA, by rw [if_pos (by omega)]; exact IB, J3, J4, J5, HBN⟩
        case measure => simp [intOf]
    · rw [if_pos (by omega)] at K6 K7
      obtain ⟨A0, A1, A2, A3, A4, A5⟩ := A.out
      obtain ⟨R0, R1, R2, R3, R4, R5⟩ := R.out
      have f0 := FR.out 0 (by omega); have f1 := FR.out 1 (by omega); have f2 := FR.out 2 (by omega); have f3 := FR.out 3 (by omega); have f4 := FR.out 4 (by omega); have f5 := FR.out 5 (by omega)
      go_wp2
      have n1 := NN.out
      have hs : Stored wr ((((((wr.setCell ⟨r, 0, none⟩ (.bool g6)).setCell ⟨r, 1, none⟩ (.int .u64 s6)).setCell ⟨r, 2, none⟩ (.slice p6 l6 c6)).setCell ⟨r, 3, none⟩ (.bool g7)).setCell ⟨r, 4, none⟩ (.int .u64 s7)).setCell ⟨r, 5, none⟩ (.slice p7 l7 c7)) r (.ints 2) (.agg #[.bool g6, .int .u64 s6, .slice p6 l6 c6, .bool g7, .int .u64 s7, .slice p7 l7 c7]) := ⟨[_, _, _, _, _, _], rfl, ⟨⟨_, rfl⟩, ⟨_, rfl⟩, ⟨_, _, _, rfl⟩, ⟨_, rfl⟩, ⟨_, rfl⟩, ⟨_, _, _, rfl⟩, trivial⟩, rfl⟩
      have hbx := BoxHas.mk2 R0 R1 R2 R3 R4 R5
      exact bodyPost_ret (v := .agg #[.bool g6, .int .u64 s6, .slice p6 l6 c6, .bool g7, .int .u64 s7, .slice p7 l7 c7]) (by simp [results, Tryz.results48, go_sem, R0, R1, R2, R3, R4, R5]) rfl ⟨_, _, _, _, _, _, _, _, _, _, rfl, ⟨K6.out.1, K6.out.2.stored hbx hs⟩, ⟨K7.out.1, K7.out.2.stored hbx hs⟩, (((((HB.out.setCell (p := ⟨r, 0, none⟩) (by show w.heap.size ≤ r; omega) _).setCell (p := ⟨r, 1, none⟩) (by show w.heap.size ≤ r; omega) _).setCell (p := ⟨r, 2, none⟩) (by show w.heap.size ≤ r; omega) _).setCell (p := ⟨r, 3, none⟩) (by show w.heap.size ≤ r; omega) _).setCell (p := ⟨r, 4, none⟩) (by show w.heap.size ≤ r; omega) _).setCell (p := ⟨r, 5, none⟩) (by show w.heap.size ≤ r; omega) _⟩
end Go.Proofs.YtfjjmhbffbhhdaaGreatDoor
