/- Rows of integers: as values, in boxes. -/
import Derived.Test.YthenfejgnjdkjaaGreatDoorIntDiv
namespace Go.Proofs.YthenfejgnjdkjaaGreatDoor
open Go.RowKit

theorem setCell_id {w : World} {a : Addr} {v : Value} (h : w.cell? a = some v) : w.setCell a v = w := by
  have hh : (w.setCell a v).heap = w.heap := by
    apply Array.ext_getElem?
    intro j
    simp only [World.setCell, Array.getElem?_modify]
    unfold World.cell? at h
    split
    · rename_i e
      subst e
      split at h
      · rename_i c e f hb
        rw [hb]
        simp only [Option.map_some, Option.some.injEq]
        cases hs : a.spot.isSome with
        | true => simp
        | false =>
          rw [hs] at h
          simp only [Bool.false_eq_true, if_false] at h ⊢
          congr 1
          apply Array.ext_getElem?
          intro i
          by_cases hi : a.off = i
          · subst hi
            rw [h]
            obtain ⟨h1, h2⟩ := Array.getElem?_eq_some_iff.1 h
            rw [Array.getElem?_setIfInBounds_self_of_lt h1]
          · rw [Array.getElem?_setIfInBounds_ne hi]
      · cases h
    · rfl
  cases w
  simp only [World.setCell] at hh ⊢
  rw [hh]

def IsInts (w : World) : List Int → List Value → Prop
  | [], cs => cs = []
  | z :: zs, cs => ∃ g s p l c cs', cs = .bool g :: .int .u64 s :: .slice p l c :: cs' ∧ IsI w g s p l c z ∧ IsInts w zs cs'
theorem IsInts.mono {w w' : World} (hb : Below w.heap.size w w') : ∀ {zs : List Int} {cs : List Value}, IsInts w zs cs → IsInts w' zs cs
  | [], _, h => h
  | _ :: _, _, ⟨g, s, p, l, c, cs', h1, h2, h3⟩ => ⟨g, s, p, l, c, cs', h1, h2.mono hb, IsInts.mono hb h3⟩
theorem IsInts.stored {w w' : World} {b : Nat} {k : BK} {u x : Value} (hb : BoxHas w b k u) (hs : Stored w w' b k x) : ∀ {zs : List Int} {cs : List Value}, IsInts w zs cs → IsInts w' zs cs
  | [], _, h => h
  | _ :: _, _, ⟨g, s, p, l, c, cs', h1, h2, h3⟩ => ⟨g, s, p, l, c, cs', h1, ⟨h2.1, h2.2.stored hb hs⟩, IsInts.stored hb hs h3⟩
def ints (zs : List Int) : Stable where
  says w v := ∃ cs, v = .agg cs.toArray ∧ IsInts w zs cs
  mono := by
    rintro w w' v hb ⟨cs, h1, h2⟩
    exact ⟨cs, h1, IsInts.mono hb h2⟩
  stored := by
    rintro w w' v b k u x hb hs ⟨cs, h1, h2⟩
    exact ⟨cs, h1, IsInts.stored hb hs h2⟩

theorem BoxHas.cell {w : World} {b : Nat} {k : BK} {cs : List Value} (h : BoxHas w b k (.agg cs.toArray)) (i : Nat) (x : Value) (hx : cs[i]? = some x) : w.cell? ⟨b, i, none⟩ = some x := by
  obtain ⟨cs', he, _, h3⟩ := h
  injection he with he
  have : cs = cs' := by simpa using he
  subst this
  exact h3 i x hx

theorem BoxHas.mk2 {w : World} {b : Nat} {g1 g2 : Bool} {s1 s2 : Int} {p1 p2 : Option Addr} {l1 c1 l2 c2 : Nat} (h0 : w.cell? ⟨b, 0, none⟩ = some (.bool g1)) (h1 : w.cell? ⟨b, 1, none⟩ = some (.int .u64 s1)) (h2 : w.cell? ⟨b, 2, none⟩ = some (.slice p1 l1 c1))
    (h3 : w.cell? ⟨b, 3, none⟩ = some (.bool g2)) (h4 : w.cell? ⟨b, 4, none⟩ = some (.int .u64 s2)) (h5 : w.cell? ⟨b, 5, none⟩ = some (.slice p2 l2 c2)) : BoxHas w b (.ints 2) (.agg #[.bool g1, .int .u64 s1, .slice p1 l1 c1, .bool g2, .int .u64 s2, .slice p2 l2 c2]) := by
  refine ⟨[_, _, _, _, _, _], rfl, ⟨⟨_, rfl⟩, ⟨_, rfl⟩, ⟨_, _, _, rfl⟩, ⟨_, rfl⟩, ⟨_, rfl⟩, ⟨_, _, _, rfl⟩, trivial⟩, fun i x hx => ?_⟩
  rcases i with _ | _ | _ | _ | _ | _ | i
  · injection hx with hx; subst hx; exact h0
  · injection hx with hx; subst hx; exact h1
  · injection hx with hx; subst hx; exact h2
  · injection hx with hx; subst hx; exact h3
  · injection hx with hx; subst hx; exact h4
  · injection hx with hx; subst hx; exact h5
  · cases hx
theorem stored_lo {W : World} {a : Nat} {u v y : Value} {g g2 : Bool} {s s2 : Int} {p p2 : Option Addr} {l c l2 c2 : Nat} (h : BoxHas W a (.ints 2) (.agg #[u, v, y, .bool g2, .int .u64 s2, .slice p2 l2 c2])) :
    Stored W (((W.setCell ⟨a, 0, none⟩ (.bool g)).setCell ⟨a, 1, none⟩ (.int .u64 s)).setCell ⟨a, 2, none⟩ (.slice p l c)) a (.ints 2) (.agg #[.bool g, .int .u64 s, .slice p l c, .bool g2, .int .u64 s2, .slice p2 l2 c2]) := by
  refine ⟨[_, _, _, _, _, _], rfl, ⟨⟨_, rfl⟩, ⟨_, rfl⟩, ⟨_, _, _, rfl⟩, ⟨_, rfl⟩, ⟨_, rfl⟩, ⟨_, _, _, rfl⟩, trivial⟩, ?_⟩
  have h3 := h.cell 3 _ rfl; have h4 := h.cell 4 _ rfl; have h5 := h.cell 5 _ rfl
  simp only [setAll]
  have k : ∀ (o : Nat) (z : Value), 2 < o → W.cell? ⟨a, o, none⟩ = some z → (((W.setCell ⟨a, 0, none⟩ (.bool g)).setCell ⟨a, 1, none⟩ (.int .u64 s)).setCell ⟨a, 2, none⟩ (.slice p l c)).cell? ⟨a, o, none⟩ = some z := by
    intro o z ho hz
    rw [World.cell?_setCell_other _ _ _ _ (by intro e; injection e with _ e; omega), World.cell?_setCell_other _ _ _ _ (by intro e; injection e with _ e; omega), World.cell?_setCell_other _ _ _ _ (by intro e; injection e with _ e; omega)]
    exact hz
  rw [setCell_id (k 3 _ (by omega) h3), setCell_id (k 4 _ (by omega) h4), setCell_id (k 5 _ (by omega) h5)]
theorem stored_hi {W : World} {a : Nat} {u v y : Value} {g g2 : Bool} {s s2 : Int} {p p2 : Option Addr} {l c l2 c2 : Nat} (h : BoxHas W a (.ints 2) (.agg #[.bool g, .int .u64 s, .slice p l c, u, v, y])) :
    Stored W (((W.setCell ⟨a, 3, none⟩ (.bool g2)).setCell ⟨a, 4, none⟩ (.int .u64 s2)).setCell ⟨a, 5, none⟩ (.slice p2 l2 c2)) a (.ints 2) (.agg #[.bool g, .int .u64 s, .slice p l c, .bool g2, .int .u64 s2, .slice p2 l2 c2]) := by
  refine ⟨[_, _, _, _, _, _], rfl, ⟨⟨_, rfl⟩, ⟨_, rfl⟩, ⟨_, _, _, rfl⟩, ⟨_, rfl⟩, ⟨_, rfl⟩, ⟨_, _, _, rfl⟩, trivial⟩, ?_⟩
  simp only [setAll]
  rw [setCell_id (h.cell 0 _ rfl), setCell_id (h.cell 1 _ rfl), setCell_id (h.cell 2 _ rfl)]
theorem free6 {w : World} {b : Nat} (h : ∀ o, o < 6 → w.frozen? ⟨b, o, none⟩ = false) : BoxFree w b (.ints 2) := fun o ho => h o (by simpa [BK.cells, BK.shape, intCells] using ho)
end Go.Proofs.YthenfejgnjdkjaaGreatDoor
