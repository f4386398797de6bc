/- Boxes of the call's own: what kinds of cells they have, what a store to one leaves as it was. -/
import Derived.Test.YtfjjmhbffbhhdaaDoorRefCmp
namespace Go.Proofs.YtfjjmhbffbhhdaaDoor
open Go.RowKit

theorem wcell {W w1 : World} (hb : Below W.heap.size W w1) {a : Addr} {v : Value} (h : W.cell? a = some v) : w1.cell? a = some v := by
  rw [hb.cell (World.block_lt_of_cell? _ _ h)]; exact h
theorem wfree {W w1 : World} (hb : Below W.heap.size W w1) {a : Addr} {v : Value} (h : W.cell? a = some v) (hf : W.frozen? a = false) : w1.frozen? a = false := by
  rw [hb.frozen (World.block_lt_of_cell? _ _ h)]; exact hf

inductive CT where
  | b
  | u
  | s
  | num
  | txt
  | ptr
def CT.ok : CT → Value → Prop
  | .b, v => ∃ x, v = .bool x
  | .u, v => ∃ n, v = .int .u64 n
  | .s, v => ∃ p l c, v = .slice p l c
  | .num, v => ∃ n, v = .int .i64 n
  | .txt, v => ∃ s, v = .string s
  | .ptr, v => ∃ a, v = .pointer a
def wordsApart : List CT → Bool
  | [] => true
  | [t] => match t with
    | .u => false
    | _ => true
  | .u :: .u :: _ => false
  | _ :: ts => wordsApart ts
inductive BK where
  | nat
  | int
  | rint
  | frac
  | rfrac
  | ints (n : Nat)
  | gen (ts : List CT) (hw : wordsApart ts = true)
def intCells : Nat → List CT
  | 0 => []
  | n + 1 => .b :: .u :: .s :: intCells n
def BK.shape : BK → List CT
  | .nat => [.u, .s]
  | .int => [.b, .u, .s]
  | .rint => [.b, .s]
  | .frac => [.b, .u, .s, .u, .s]
  | .rfrac => [.b, .s, .s]
  | .ints n => intCells n
  | .gen ts _ => ts
def BK.cells (k : BK) : Nat := k.shape.length
def Fits : List CT → List Value → Prop
  | [], [] => True
  | t :: ts, v :: vs => t.ok v ∧ Fits ts vs
  | _, _ => False
theorem Fits.length : ∀ {ts : List CT} {vs : List Value}, Fits ts vs → vs.length = ts.length
  | [], [], _ => rfl
  | _ :: _, _ :: _, h => by simp [Fits.length h.2]
  | [], _ :: _, h => h.elim
  | _ :: _, [], h => h.elim
theorem Fits.get : ∀ {ts : List CT} {vs : List Value}, Fits ts vs → ∀ (i : Nat) (t : CT), ts[i]? = some t → ∃ v, vs[i]? = some v ∧ t.ok v
  | _ :: _, v :: _, h, 0, _, ht => by injection ht with ht; subst ht; exact ⟨v, rfl, h.1⟩
  | _ :: _, _ :: _, h, i + 1, t, ht => Fits.get h.2 i t ht
  | [], _, _, _, _, ht => by simp at ht
  | _ :: _, [], h, _, _, _ => h.elim

def BoxHas (w : World) (b : Nat) (k : BK) (v : Value) : Prop := ∃ cs : List Value, v = .agg cs.toArray ∧ Fits k.shape cs ∧ ∀ i x, cs[i]? = some x → w.cell? ⟨b, i, none⟩ = some x
def BoxFree (w : World) (b : Nat) (k : BK) : Prop := ∀ o, o < k.cells → w.frozen? ⟨b, o, none⟩ = false
def setAll (w : World) (b : Nat) : Nat → List Value → World
  | _, [] => w
  | i, v :: vs => setAll (w.setCell ⟨b, i, none⟩ v) b (i + 1) vs
def Stored (w w' : World) (b : Nat) (k : BK) (v : Value) : Prop := ∃ cs : List Value, v = .agg cs.toArray ∧ Fits k.shape cs ∧ w' = setAll w b 0 cs

theorem BoxHas.mkNat {w : World} {b : Nat} {s : Int} {p : Option Addr} {l c : Nat} (h0 : w.cell? ⟨b, 0, none⟩ = some (.int .u64 s)) (h1 : w.cell? ⟨b, 1, none⟩ = some (.slice p l c)) : BoxHas w b .nat (.agg #[.int .u64 s, .slice p l c]) := by
  refine ⟨[_, _], rfl, ⟨⟨_, rfl⟩, ⟨_, _, _, rfl⟩, trivial⟩, fun i x hx => ?_⟩
  rcases i with _ | _ | i
  · injection hx with hx; subst hx; exact h0
  · injection hx with hx; subst hx; exact h1
  · cases hx
theorem BoxHas.nat {w : World} {b : Nat} {v : Value} (h : BoxHas w b .nat v) : ∃ s p l c, v = .agg #[.int .u64 s, .slice p l c] ∧ w.cell? ⟨b, 0, none⟩ = some (.int .u64 s) ∧ w.cell? ⟨b, 1, none⟩ = some (.slice p l c) := by
  obtain ⟨cs, rfl, hf, hc⟩ := h
  match cs, hf with
  | [_, _], ⟨⟨s, hs⟩, ⟨p, l, c, hp⟩, _⟩ => subst hs hp; exact ⟨s, p, l, c, rfl, hc 0 _ rfl, hc 1 _ rfl⟩
theorem BoxHas.int {w : World} {b : Nat} {v : Value} (h : BoxHas w b .int v) : ∃ g s p l c, v = .agg #[.bool g, .int .u64 s, .slice p l c] ∧ w.cell? ⟨b, 0, none⟩ = some (.bool g) ∧ w.cell? ⟨b, 1, none⟩ = some (.int .u64 s) ∧ w.cell? ⟨b, 2, none⟩ = some (.slice p l c) := by
  obtain ⟨cs, rfl, hf, hc⟩ := h
  match cs, hf with
  | [_, _, _], ⟨⟨g, hg⟩, ⟨s, hs⟩, ⟨p, l, c, hp⟩, _⟩ => subst hg hs hp; exact ⟨g, s, p, l, c, rfl, hc 0 _ rfl, hc 1 _ rfl, hc 2 _ rfl⟩
theorem BoxHas.rint {w : World} {b : Nat} {v : Value} (h : BoxHas w b .rint v) : ∃ g p l c, v = .agg #[.bool g, .slice p l c] ∧ w.cell? ⟨b, 0, none⟩ = some (.bool g) ∧ w.cell? ⟨b, 1, none⟩ = some (.slice p l c) := by
  obtain ⟨cs, rfl, hf, hc⟩ := h
  match cs, hf with
  | [_, _], ⟨⟨s, hs⟩, ⟨p, l, c, hp⟩, _⟩ => subst hs hp; exact ⟨s, p, l, c, rfl, hc 0 _ rfl, hc 1 _ rfl⟩
theorem Stored.mkNat {w : World} {b : Nat} {s : Int} {p : Option Addr} {l c : Nat} : Stored w ((w.setCell ⟨b, 0, none⟩ (.int .u64 s)).setCell ⟨b, 1, none⟩ (.slice p l c)) b .nat (.agg #[.int .u64 s, .slice p l c]) :=
  ⟨[_, _], rfl, ⟨⟨_, rfl⟩, ⟨_, _, _, rfl⟩, trivial⟩, rfl⟩
theorem wordsApart_ints : ∀ n, wordsApart (intCells n) = true
  | 0 => rfl
  | 1 => rfl
  | n + 2 => by have := wordsApart_ints (n + 1); simpa [intCells, wordsApart] using this
theorem wordsApart_shape (k : BK) : wordsApart k.shape = true := by
  cases k with
  | ints n => exact wordsApart_ints n
  | gen _ h => exact h
  | _ => rfl
theorem wordsApart_spec : ∀ {ts : List CT}, wordsApart ts = true → ∀ i, ts[i]? = some .u → ∃ t, ts[i + 1]? = some t ∧ t ≠ .u
  | [], _, _, h => by simp at h
  | [t], hw, 0, h => by injection h with h; subst h; cases hw
  | [t], _, i + 1, h => by simp at h
  | .u :: .u :: _, hw, _, _ => by cases hw
  | .u :: .b :: ts, hw, 0, _ => ⟨.b, rfl, by intro h; cases h⟩
  | .u :: .s :: ts, hw, 0, _ => ⟨.s, rfl, by intro h; cases h⟩
  | .u :: .num :: ts, hw, 0, _ => ⟨.num, rfl, by intro h; cases h⟩
  | .u :: .txt :: ts, hw, 0, _ => ⟨.txt, rfl, by intro h; cases h⟩
  | .u :: .ptr :: ts, hw, 0, _ => ⟨.ptr, rfl, by intro h; cases h⟩
  | .b :: _ :: _, _, 0, h => by injection h with h; cases h
  | .s :: _ :: _, _, 0, h => by injection h with h; cases h
  | .num :: _ :: _, _, 0, h => by injection h with h; cases h
  | .txt :: _ :: _, _, 0, h => by injection h with h; cases h
  | .ptr :: _ :: _, _, 0, h => by injection h with h; cases h
  | .u :: .b :: ts, hw, i + 1, h => wordsApart_spec (ts := .b :: ts) hw i h
  | .u :: .s :: ts, hw, i + 1, h => wordsApart_spec (ts := .s :: ts) hw i h
  | .u :: .num :: ts, hw, i + 1, h => wordsApart_spec (ts := .num :: ts) hw i h
  | .u :: .txt :: ts, hw, i + 1, h => wordsApart_spec (ts := .txt :: ts) hw i h
  | .u :: .ptr :: ts, hw, i + 1, h => wordsApart_spec (ts := .ptr :: ts) hw i h
  | .b :: t :: ts, hw, i + 1, h => wordsApart_spec (ts := t :: ts) (by simpa [wordsApart] using hw) i h
  | .s :: t :: ts, hw, i + 1, h => wordsApart_spec (ts := t :: ts) (by simpa [wordsApart] using hw) i h
  | .num :: t :: ts, hw, i + 1, h => wordsApart_spec (ts := t :: ts) (by simpa [wordsApart] using hw) i h
  | .txt :: t :: ts, hw, i + 1, h => wordsApart_spec (ts := t :: ts) (by simpa [wordsApart] using hw) i h
  | .ptr :: t :: ts, hw, i + 1, h => wordsApart_spec (ts := t :: ts) (by simpa [wordsApart] using hw) i h

theorem setAll_cell_other {b : Nat} {a q : Nat} (h : a ≠ b) : ∀ (w : World) (i : Nat) (vs : List Value), (setAll w b i vs).cell? ⟨a, q, none⟩ = w.cell? ⟨a, q, none⟩
  | _, _, [] => rfl
  | w, i, v :: vs => by
    rw [setAll, setAll_cell_other h]
    exact World.cell?_setCell_other _ _ _ _ (by intro e; injection e with e; exact h e.symm)
theorem setAll_cell_out {b q : Nat} : ∀ (w : World) (i : Nat) (vs : List Value), (q < i ∨ i + vs.length ≤ q) → (setAll w b i vs).cell? ⟨b, q, none⟩ = w.cell? ⟨b, q, none⟩
  | _, _, [], _ => rfl
  | w, i, v :: vs, h => by
    simp only [List.length_cons] at h
    rw [setAll, setAll_cell_out _ _ _ (by omega)]
    exact World.cell?_setCell_other _ _ _ _ (by intro e; injection e with _ e; omega)
theorem setAll_cell_in {b : Nat} : ∀ (w : World) (i : Nat) (vs : List Value), (∀ j, j < vs.length → ∃ x, w.cell? ⟨b, i + j, none⟩ = some x) → ∀ j x, vs[j]? = some x → (setAll w b i vs).cell? ⟨b, i + j, none⟩ = some x
  | _, _, [], _, _, _, h => by simp at h
  | w, i, v :: vs, hw, 0, x, h => by
    injection h with h
    subst h
    rw [setAll, setAll_cell_out _ _ _ (by omega)]
    obtain ⟨y, hy⟩ := hw 0 (by simp)
    exact World.cell?_setCell_same _ _ _ hy
  | w, i, v :: vs, hw, j + 1, x, h => by
    rw [setAll, show i + (j + 1) = i + 1 + j from by omega]
    refine setAll_cell_in _ _ _ (fun m hm => ?_) j x h
    obtain ⟨y, hy⟩ := hw (m + 1) (by simp; omega)
    refine ⟨y, ?_⟩
    rw [World.cell?_setCell_other _ _ _ _ (by intro e; injection e with _ e; omega), show i + 1 + m = i + (m + 1) from by omega]
    exact hy
theorem setAll_frozen {b : Nat} (a : Addr) : ∀ (w : World) (i : Nat) (vs : List Value), (setAll w b i vs).frozen? a = w.frozen? a
  | _, _, [] => rfl
  | w, i, v :: vs => by rw [setAll, setAll_frozen a]; exact World.frozen?_setCell _ _ _ _
theorem setAll_heap {b j : Nat} (h : j ≠ b) : ∀ (w : World) (i : Nat) (vs : List Value), (setAll w b i vs).heap[j]? = w.heap[j]?
  | _, _, [] => rfl
  | w, i, v :: vs => by rw [setAll, setAll_heap h]; exact Below.heap_setCell _ _ _ _ h
theorem setAll_rest {b : Nat} : ∀ (w : World) (i : Nat) (vs : List Value), (setAll w b i vs).os = w.os ∧ (setAll w b i vs).tape = w.tape ∧ (setAll w b i vs).output = w.output ∧ (setAll w b i vs).heap.size = w.heap.size
  | _, _, [] => ⟨rfl, rfl, rfl, rfl⟩
  | w, i, v :: vs => by
    obtain ⟨h1, h2, h3, h4⟩ := setAll_rest (b := b) (w.setCell ⟨b, i, none⟩ v) (i + 1) vs
    exact ⟨h1, h2, h3, h4.trans (by simp [World.setCell])⟩

theorem BoxHas.cellAt {w : World} {b : Nat} {k : BK} {v : Value} (h : BoxHas w b k v) {i : Nat} {t : CT} (ht : k.shape[i]? = some t) : ∃ x, w.cell? ⟨b, i, none⟩ = some x ∧ t.ok x := by
  obtain ⟨cs, _, hf, hc⟩ := h
  obtain ⟨x, hx, ho⟩ := hf.get i t ht
  exact ⟨x, hc i x hx, ho⟩
theorem BoxHas.mono {w w' : World} {b : Nat} {k : BK} {v : Value} (h : BoxHas w b k v) (hb : Below w.heap.size w w') : BoxHas w' b k v := by
  obtain ⟨cs, h1, h2, h3⟩ := h
  exact ⟨cs, h1, h2, fun i x hx => wcell hb (h3 i x hx)⟩
theorem BoxHas.lt {w : World} {b : Nat} {k : BK} {v : Value} (h : BoxHas w b k v) (h0 : k.shape.isEmpty = false) : b < w.heap.size := by
  cases hs : k.shape with
  | nil => rw [hs] at h0; cases h0
  | cons t ts =>
    obtain ⟨x, hx, _⟩ := h.cellAt (i := 0) (t := t) (by rw [hs]; rfl)
    exact World.block_lt_of_cell? _ _ hx
theorem BoxFree.mono {w w' : World} {b : Nat} {k : BK} {v : Value} (h : BoxFree w b k) (hv : BoxHas w b k v) (hb : Below w.heap.size w w') : BoxFree w' b k := fun o ho => by
  obtain ⟨t, ht⟩ : ∃ t, k.shape[o]? = some t := ⟨_, List.getElem?_eq_getElem ho⟩
  obtain ⟨x, hx, _⟩ := hv.cellAt ht
  rw [hb.frozen (p := ⟨b, o, none⟩) (World.block_lt_of_cell? _ _ hx)]; exact h o ho

theorem Stored.has {w w' : World} {b : Nat} {k : BK} {u v : Value} (h : BoxHas w b k u) (hs : Stored w w' b k v) : BoxHas w' b k v := by
  obtain ⟨cs, h1, h2, rfl⟩ := hs
  refine ⟨cs, h1, h2, fun i x hx => ?_⟩
  have := setAll_cell_in (b := b) w 0 cs (fun j hj => ?_) i x hx
  · rwa [Nat.zero_add] at this
  · obtain ⟨t, ht⟩ : ∃ t, k.shape[j]? = some t := ⟨_, List.getElem?_eq_getElem (by rw [← h2.length]; exact hj)⟩
    obtain ⟨y, hy, _⟩ := h.cellAt ht
    exact ⟨y, by rw [Nat.zero_add]; exact hy⟩
theorem Stored.cell {w w' : World} {b : Nat} {k : BK} {v : Value} (hs : Stored w w' b k v) {a q : Nat} (h : a ≠ b) : w'.cell? ⟨a, q, none⟩ = w.cell? ⟨a, q, none⟩ := by
  obtain ⟨cs, h1, h2, rfl⟩ := hs
  exact setAll_cell_other h _ _ _
theorem Stored.frozen {w w' : World} {b : Nat} {k : BK} {v : Value} (hs : Stored w w' b k v) (a : Addr) : w'.frozen? a = w.frozen? a := by
  obtain ⟨cs, h1, h2, rfl⟩ := hs
  exact setAll_frozen _ _ _ _
theorem BoxHas.stored {w w' : World} {a b : Nat} {k j : BK} {u v : Value} (h : BoxHas w a j u) (hs : Stored w w' b k v) (hn : a ≠ b) : BoxHas w' a j u := by
  obtain ⟨cs, h1, h2, h3⟩ := h
  exact ⟨cs, h1, h2, fun i x hx => by rw [hs.cell hn]; exact h3 i x hx⟩

theorem IsN.stored {w w' : World} {s : Int} {p : Option Addr} {l c n b : Nat} {k : BK} {u v : Value} (h : IsN w s p l c n) (hb : BoxHas w b k u) (hs : Stored w w' b k v) : IsN w' s p l c n := by
  rcases h with h | ⟨a1, a2, d, off, a3, a4, a5, a6⟩
  · exact Or.inl h
  · refine Or.inr ⟨a1, a2, d, off, a3, a4, a5, fun i hi => ?_⟩
    obtain ⟨cs, h1, h2, rfl⟩ := hs
    by_cases e : d = b
    · subst e
      rw [setAll_cell_out]
      · exact a6 i hi
      · right
        rw [Nat.zero_add, h2.length]
        rcases Nat.lt_or_ge (off + i) k.shape.length with hlt | hge
        · exfalso
          have h4 := ds_two a1
          -- its first cell lies in the box
          have hoff : off < k.shape.length := by omega
          obtain ⟨x, hx, ho⟩ := hb.cellAt (i := off) (List.getElem?_eq_getElem hoff)
          have e0 := a6 0 (by omega)
          rw [Nat.add_zero, hx] at e0
          have hu : k.shape[off]? = some .u := by
            rw [List.getElem?_eq_getElem hoff]
            generalize k.shape[off] = t at *
            cases t with
            | u => rfl
            | b => obtain ⟨y, rfl⟩ := ho; cases e0
            | s => obtain ⟨y1, y2, y3, rfl⟩ := ho; cases e0
            | num => obtain ⟨y, rfl⟩ := ho; cases e0
            | txt => obtain ⟨y, rfl⟩ := ho; cases e0
            | ptr => obtain ⟨y, rfl⟩ := ho; cases e0
          obtain ⟨t, ht, hne⟩ := wordsApart_spec (wordsApart_shape k) off hu
          obtain ⟨y, hy, ho2⟩ := hb.cellAt (i := off + 1) ht
          have e1 := a6 1 (by omega)
          rw [hy] at e1
          cases t with
          | u => exact hne rfl
          | b => obtain ⟨y', rfl⟩ := ho2; cases e1
          | s => obtain ⟨y1, y2, y3, rfl⟩ := ho2; cases e1
          | num => obtain ⟨y', rfl⟩ := ho2; cases e1
          | txt => obtain ⟨y', rfl⟩ := ho2; cases e1
          | ptr => obtain ⟨y', rfl⟩ := ho2; cases e1
        · exact hge
    · rw [setAll_cell_other e]; exact a6 i hi
theorem IsR.stored {w w' : World} {p : Option Addr} {l c n b : Nat} {k : BK} {u v : Value} (h : IsR w p l c n) (hb : BoxHas w b k u) (hs : Stored w w' b k v) : IsR w' p l c n := by
  obtain ⟨a1, a2, a3⟩ := h
  refine ⟨a1, a2, fun hn => ?_⟩
  obtain ⟨d, off, a4, a5⟩ := a3 hn
  refine ⟨d, off, a4, fun i hi => ?_⟩
  obtain ⟨cs, h1, h2, rfl⟩ := hs
  by_cases e : d = b
  · subst e
    rw [setAll_cell_out]
    · exact a5 i hi
    · right
      rw [Nat.zero_add, h2.length]
      rcases Nat.lt_or_ge (off + i) k.shape.length with hlt | hge
      · exfalso
        obtain ⟨x, hx, ho⟩ := hb.cellAt (i := off + i) (List.getElem?_eq_getElem hlt)
        have e0 := a5 i hi
        rw [hx] at e0
        generalize k.shape[off + i] = t at *
        cases t with
        | u => obtain ⟨y, rfl⟩ := ho; cases e0
        | b => obtain ⟨y, rfl⟩ := ho; cases e0
        | s => obtain ⟨y1, y2, y3, rfl⟩ := ho; cases e0
        | num => obtain ⟨y, rfl⟩ := ho; cases e0
        | txt => obtain ⟨y, rfl⟩ := ho; cases e0
        | ptr => obtain ⟨y, rfl⟩ := ho; cases e0
      · exact hge
  · rw [setAll_cell_other e]; exact a5 i hi

structure Stable where
  says : World → Value → Prop
  mono : ∀ w w' v, Below w.heap.size w w' → says w v → says w' v
  stored : ∀ w w' v b k u x, BoxHas w b k u → Stored w w' b k x → says w v → says w' v
end Go.Proofs.YtfjjmhbffbhhdaaDoor
