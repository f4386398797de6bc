/- Boxes of the call's own: what kinds of cells they have, what a store to one leaves as it was. -/
import Derived.Test.YtfjjmhbffbhhdaaGreatDoorRefCmp
import Derived.Test.YtfjjmhbffbhhdaaGreatDoorRegion
import Derived.Test.YtfjjmhbffbhhdaaGreatDoorShiftS
import Derived.Deep.RegionWith
import Derived.Deep.RegionHeld3
import Derived.Test.YtfjjmhbffbhhdaaGreatDoorDiv64
namespace Go.Proofs.YtfjjmhbffbhhdaaGreatDoor
open Go.RowKit

theorem wcell {W w1 : World} (hb : Below W.heap.size W w1) {a : Addr} {v : Value} (h : W.cell? a = some v) : w1.cell? a = some v := by
  rw [hb.cell (World.block_lt_of_cell? _ _ h)]; exact h
theorem wfree {W w1 : World} (hb : Below W.heap.size W w1) {a : Addr} {v : Value} (h : W.cell? a = some v) (hf : W.frozen? a = false) : w1.frozen? a = false := by
  rw [hb.frozen (World.block_lt_of_cell? _ _ h)]; exact hf

inductive CT where
  | b
  | u
  | s
  | num
  | txt
  | ptr
def CT.ok : CT → Value → Prop
  | .b, v => ∃ x, v = .bool x
  | .u, v => ∃ n, v = .int .u64 n
  | .s, v => ∃ p l c, v = .slice p l c
  | .num, v => ∃ n, v = .int .i64 n
  | .txt, v => ∃ s, v = .string s
  | .ptr, v => ∃ a, v = .pointer a
def wordsApart : List CT → Bool
  | [] => true
  | [t] => match t with
    | .u => false
    | _ => true
  | .u :: .u :: _ => false
  | _ :: ts => wordsApart ts
inductive BK where
  | nat
  | int
  | rint
  | frac
  | rfrac
  | ints (n : Nat)
  | gen (ts : List CT) (hw : wordsApart ts = true)
def intCells : Nat → List CT
  | 0 => []
  | n + 1 => .b :: .u :: .s :: intCells n
def BK.shape : BK → List CT
  | .nat => [.u, .s]
  | .int => [.b, .u, .s]
  | .rint => [.b, .s]
  | .frac => [.b, .u, .s, .u, .s]
  | .rfrac => [.b, .s, .s]
  | .ints n => intCells n
  | .gen ts _ => ts
def BK.cells (k : BK) : Nat := k.shape.length
def Fits : List CT → List Value → Prop
  | [], [] => True
  | t :: ts, v :: vs => t.ok v ∧ Fits ts vs
  | _, _ => False
theorem Fits.length : ∀ {ts : List CT} {vs : List Value}, Fits ts vs → vs.length = ts.length
  | [], [], _ => rfl
  | _ :: _, _ :: _, h => by simp [Fits.length h.2]
  | [], _ :: _, h => h.elim
  | _ :: _, [], h => h.elim
theorem Fits.get : ∀ {ts : List CT} {vs : List Value}, Fits ts vs → ∀ (i : Nat) (t : CT), ts[i]? = some t → ∃ v, vs[i]? = some v ∧ t.ok v
  | _ :: _, v :: _, h, 0, _, ht => by injection ht with ht; subst ht; exact ⟨v, rfl, h.1⟩
  | _ :: _, _ :: _, h, i + 1, t, ht => Fits.get h.2 i t ht
  | [], _, _, _, _, ht => by simp at ht
  | _ :: _, [], h, _, _, _ => h.elim

def BoxHas (w : World) (b : Nat) (k : BK) (v : Value) : Prop := ∃ cs : List Value, v = .agg cs.toArray ∧ Fits k.shape cs ∧ ∀ i x, cs[i]? = some x → w.cell? ⟨b, i, none⟩ = some x
def BoxFree (w : World) (b : Nat) (k : BK) : Prop := ∀ o, o < k.cells → w.frozen? ⟨b, o, none⟩ = false
def setAll (w : World) (b : Nat) : Nat → List Value → World
  | _, [] => w
  | i, v :: vs => setAll (w.setCell ⟨b, i, none⟩ v) b (i + 1) vs
def Stored (w w' : World) (b : Nat) (k : BK) (v : Value) : Prop := ∃ cs : List Value, v = .agg cs.toArray ∧ Fits k.shape cs ∧ w' = setAll w b 0 cs

theorem BoxHas.mkNat {w : World} {b : Nat} {s : Int} {p : Option Addr} {l c : Nat} (h0 : w.cell? ⟨b, 0, none⟩ = some (.int .u64 s)) (h1 : w.cell? ⟨b, 1, none⟩ = some (.slice p l c)) : BoxHas w b .nat (.agg #[.int .u64 s, .slice p l c]) := by
  refine ⟨[_, _], rfl, ⟨⟨_, rfl⟩, ⟨_, _, _, rfl⟩, trivial⟩, fun i x hx => ?_⟩
  rcases i with _ | _ | i
  · injection hx with hx; subst hx; exact h0
  · injection hx with hx; subst hx; exact h1
  · cases hx
theorem BoxHas.mkInt {w : World} {b : Nat} {g : Bool} {s : Int} {p : Option Addr} {l c : Nat} (h0 : w.cell? ⟨b, 0, none⟩ = some (.bool g)) (h1 : w.cell? ⟨b, 1, none⟩ = some (.int .u64 s)) (h2 : w.cell? ⟨b, 2, none⟩ = some (.slice p l c)) : BoxHas w b .int (.agg #[.bool g, .int .u64 s, .slice p l c]) := by
  refine ⟨[_, _, _], rfl, ⟨⟨_, rfl⟩, ⟨_, rfl⟩, ⟨_, _, _, rfl⟩, trivial⟩, fun i x hx => ?_⟩
  rcases i with _ | _ | _ | i
  · injection hx with hx; subst hx; exact h0
  · injection hx with hx; subst hx; exact h1
  · injection hx with hx; subst hx; exact h2
  · cases hx
theorem BoxHas.mkRint {w : World} {b : Nat} {g : Bool} {p : Option Addr} {l c : Nat} (h0 : w.cell? ⟨b, 0, none⟩ = some (.bool g)) (h1 : w.cell? ⟨b, 1, none⟩ = some (.slice p l c)) : BoxHas w b .rint (.agg #[.bool g, .slice p l c]) := by
  refine ⟨[_, _], rfl, ⟨⟨_, rfl⟩, ⟨_, _, _, rfl⟩, trivial⟩, fun i x hx => ?_⟩
  rcases i with _ | _ | i
  · injection hx with hx; subst hx; exact h0
  · injection hx with hx; subst hx; exact h1
  · cases hx
theorem BoxHas.nat {w : World} {b : Nat} {v : Value} (h : BoxHas w b .nat v) : ∃ s p l c, v = .agg #[.int .u64 s, .slice p l c] ∧ w.cell? ⟨b, 0, none⟩ = some (.int .u64 s) ∧ w.cell? ⟨b, 1, none⟩ = some (.slice p l c) := by
  obtain ⟨cs, rfl, hf, hc⟩ := h
  match cs, hf with
  | [_, _], ⟨⟨s, hs⟩, ⟨p, l, c, hp⟩, _⟩ => subst hs hp; exact ⟨s, p, l, c, rfl, hc 0 _ rfl, hc 1 _ rfl⟩
theorem BoxHas.int {w : World} {b : Nat} {v : Value} (h : BoxHas w b .int v) : ∃ g s p l c, v = .agg #[.bool g, .int .u64 s, .slice p l c] ∧ w.cell? ⟨b, 0, none⟩ = some (.bool g) ∧ w.cell? ⟨b, 1, none⟩ = some (.int .u64 s) ∧ w.cell? ⟨b, 2, none⟩ = some (.slice p l c) := by
  obtain ⟨cs, rfl, hf, hc⟩ := h
  match cs, hf with
  | [_, _, _], ⟨⟨g, hg⟩, ⟨s, hs⟩, ⟨p, l, c, hp⟩, _⟩ => subst hg hs hp; exact ⟨g, s, p, l, c, rfl, hc 0 _ rfl, hc 1 _ rfl, hc 2 _ rfl⟩
theorem BoxHas.rint {w : World} {b : Nat} {v : Value} (h : BoxHas w b .rint v) : ∃ g p l c, v = .agg #[.bool g, .slice p l c] ∧ w.cell? ⟨b, 0, none⟩ = some (.bool g) ∧ w.cell? ⟨b, 1, none⟩ = some (.slice p l c) := by
  obtain ⟨cs, rfl, hf, hc⟩ := h
  match cs, hf with
  | [_, _], ⟨⟨s, hs⟩, ⟨p, l, c, hp⟩, _⟩ => subst hs hp; exact ⟨s, p, l, c, rfl, hc 0 _ rfl, hc 1 _ rfl⟩
theorem Stored.mkNat {w : World} {b : Nat} {s : Int} {p : Option Addr} {l c : Nat} : Stored w ((w.setCell ⟨b, 0, none⟩ (.int .u64 s)).setCell ⟨b, 1, none⟩ (.slice p l c)) b .nat (.agg #[.int .u64 s, .slice p l c]) :=
  ⟨[_, _], rfl, ⟨⟨_, rfl⟩, ⟨_, _, _, rfl⟩, trivial⟩, rfl⟩
theorem Stored.mkInt {w : World} {b : Nat} {g : Bool} {s : Int} {p : Option Addr} {l c : Nat} : Stored w (((w.setCell ⟨b, 0, none⟩ (.bool g)).setCell ⟨b, 1, none⟩ (.int .u64 s)).setCell ⟨b, 2, none⟩ (.slice p l c)) b .int (.agg #[.bool g, .int .u64 s, .slice p l c]) :=
  ⟨[_, _, _], rfl, ⟨⟨_, rfl⟩, ⟨_, rfl⟩, ⟨_, _, _, rfl⟩, trivial⟩, rfl⟩
theorem Stored.mkRint {w : World} {b : Nat} {g : Bool} {p : Option Addr} {l c : Nat} : Stored w ((w.setCell ⟨b, 0, none⟩ (.bool g)).setCell ⟨b, 1, none⟩ (.slice p l c)) b .rint (.agg #[.bool g, .slice p l c]) :=
  ⟨[_, _], rfl, ⟨⟨_, rfl⟩, ⟨_, _, _, rfl⟩, trivial⟩, rfl⟩

theorem wordsApart_ints : ∀ n, wordsApart (intCells n) = true
  | 0 => rfl
  | 1 => rfl
  | n + 2 => by have := wordsApart_ints (n + 1); simpa [intCells, wordsApart] using this
theorem wordsApart_shape (k : BK) : wordsApart k.shape = true := by
  cases k with
  | ints n => exact wordsApart_ints n
  | gen _ h => exact h
  | _ => rfl
theorem wordsApart_spec : ∀ {ts : List CT}, wordsApart ts = true → ∀ i, ts[i]? = some .u → ∃ t, ts[i + 1]? = some t ∧ t ≠ .u
  | [], _, _, h => by simp at h
  | [t], hw, 0, h => by injection h with h; subst h; cases hw
  | [t], _, i + 1, h => by simp at h
  | .u :: .u :: _, hw, _, _ => by cases hw
  | .u :: .b :: ts, hw, 0, _ => ⟨.b, rfl, by intro h; cases h⟩
  | .u :: .s :: ts, hw, 0, _ => ⟨.s, rfl, by intro h; cases h⟩
  | .u :: .num :: ts, hw, 0, _ => ⟨.num, rfl, by intro h; cases h⟩
  | .u :: .txt :: ts, hw, 0, _ => ⟨.txt, rfl, by intro h; cases h⟩
  | .u :: .ptr :: ts, hw, 0, _ => ⟨.ptr, rfl, by intro h; cases h⟩
  | .b :: _ :: _, _, 0, h => by injection h with h; cases h
  | .s :: _ :: _, _, 0, h => by injection h with h; cases h
  | .num :: _ :: _, _, 0, h => by injection h with h; cases h
  | .txt :: _ :: _, _, 0, h => by injection h with h; cases h
  | .ptr :: _ :: _, _, 0, h => by injection h with h; cases h
  | .u :: .b :: ts, hw, i + 1, h => wordsApart_spec (ts := .b :: ts) hw i h
  | .u :: .s :: ts, hw, i + 1, h => wordsApart_spec (ts := .s :: ts) hw i h
  | .u :: .num :: ts, hw, i + 1, h => wordsApart_spec (ts := .num :: ts) hw i h
  | .u :: .txt :: ts, hw, i + 1, h => wordsApart_spec (ts := .txt :: ts) hw i h
  | .u :: .ptr :: ts, hw, i + 1, h => wordsApart_spec (ts := .ptr :: ts) hw i h
  | .b :: t :: ts, hw, i + 1, h => wordsApart_spec (ts := t :: ts) (by simpa [wordsApart] using hw) i h
  | .s :: t :: ts, hw, i + 1, h => wordsApart_spec (ts := t :: ts) (by simpa [wordsApart] using hw) i h
  | .num :: t :: ts, hw, i + 1, h => wordsApart_spec (ts := t :: ts) (by simpa [wordsApart] using hw) i h
  | .txt :: t :: ts, hw, i + 1, h => wordsApart_spec (ts := t :: ts) (by simpa [wordsApart] using hw) i h
  | .ptr :: t :: ts, hw, i + 1, h => wordsApart_spec (ts := t :: ts) (by simpa [wordsApart] using hw) i h

theorem setAll_cell_other {b : Nat} {a q : Nat} (h : a ≠ b) : ∀ (w : World) (i : Nat) (vs : List Value), (setAll w b i vs).cell? ⟨a, q, none⟩ = w.cell? ⟨a, q, none⟩
  | _, _, [] => rfl
  | w, i, v :: vs => by
    rw [setAll, setAll_cell_other h]
    exact World.cell?_setCell_other _ _ _ _ (by intro e; injection e with e; exact h e.symm)
theorem setAll_cell_out {b q : Nat} : ∀ (w : World) (i : Nat) (vs : List Value), (q < i ∨ i + vs.length ≤ q) → (setAll w b i vs).cell? ⟨b, q, none⟩ = w.cell? ⟨b, q, none⟩
  | _, _, [], _ => rfl
  | w, i, v :: vs, h => by
    simp only [List.length_cons] at h
    rw [setAll, setAll_cell_out _ _ _ (by omega)]
    exact World.cell?_setCell_other _ _ _ _ (by intro e; injection e with _ e; omega)
theorem setAll_cell_in {b : Nat} : ∀ (w : World) (i : Nat) (vs : List Value), (∀ j, j < vs.length → ∃ x, w.cell? ⟨b, i + j, none⟩ = some x) → ∀ j x, vs[j]? = some x → (setAll w b i vs).cell? ⟨b, i + j, none⟩ = some x
  | _, _, [], _, _, _, h => by simp at h
  | w, i, v :: vs, hw, 0, x, h => by
    injection h with h
    subst h
    rw [setAll, setAll_cell_out _ _ _ (by omega)]
    obtain ⟨y, hy⟩ := hw 0 (by simp)
    exact World.cell?_setCell_same _ _ _ hy
  | w, i, v :: vs, hw, j + 1, x, h => by
    rw [setAll, show i + (j + 1) = i + 1 + j from by omega]
    refine setAll_cell_in _ _ _ (fun m hm => ?_) j x h
    obtain ⟨y, hy⟩ := hw (m + 1) (by simp; omega)
    refine ⟨y, ?_⟩
    rw [World.cell?_setCell_other _ _ _ _ (by intro e; injection e with _ e; omega), show i + 1 + m = i + (m + 1) from by omega]
    exact hy
theorem setAll_frozen {b : Nat} (a : Addr) : ∀ (w : World) (i : Nat) (vs : List Value), (setAll w b i vs).frozen? a = w.frozen? a
  | _, _, [] => rfl
  | w, i, v :: vs => by rw [setAll, setAll_frozen a]; exact World.frozen?_setCell _ _ _ _
theorem setAll_heap {b j : Nat} (h : j ≠ b) : ∀ (w : World) (i : Nat) (vs : List Value), (setAll w b i vs).heap[j]? = w.heap[j]?
  | _, _, [] => rfl
  | w, i, v :: vs => by rw [setAll, setAll_heap h]; exact Below.heap_setCell _ _ _ _ h
theorem setAll_rest {b : Nat} : ∀ (w : World) (i : Nat) (vs : List Value), (setAll w b i vs).os = w.os ∧ (setAll w b i vs).tape = w.tape ∧ (setAll w b i vs).output = w.output ∧ (setAll w b i vs).heap.size = w.heap.size
  | _, _, [] => ⟨rfl, rfl, rfl, rfl⟩
  | w, i, v :: vs => by
    obtain ⟨h1, h2, h3, h4⟩ := setAll_rest (b := b) (w.setCell ⟨b, i, none⟩ v) (i + 1) vs
    exact ⟨h1, h2, h3, h4.trans (by simp [World.setCell])⟩

theorem BoxHas.cellAt {w : World} {b : Nat} {k : BK} {v : Value} (h : BoxHas w b k v) {i : Nat} {t : CT} (ht : k.shape[i]? = some t) : ∃ x, w.cell? ⟨b, i, none⟩ = some x ∧ t.ok x := by
  obtain ⟨cs, _, hf, hc⟩ := h
  obtain ⟨x, hx, ho⟩ := hf.get i t ht
  exact ⟨x, hc i x hx, ho⟩
theorem BoxHas.mono {w w' : World} {b : Nat} {k : BK} {v : Value} (h : BoxHas w b k v) (hb : Below w.heap.size w w') : BoxHas w' b k v := by
  obtain ⟨cs, h1, h2, h3⟩ := h
  exact ⟨cs, h1, h2, fun i x hx => wcell hb (h3 i x hx)⟩
theorem BoxHas.lt {w : World} {b : Nat} {k : BK} {v : Value} (h : BoxHas w b k v) (h0 : k.shape.isEmpty = false) : b < w.heap.size := by
  cases hs : k.shape with
  | nil => rw [hs] at h0; cases h0
  | cons t ts =>
    obtain ⟨x, hx, _⟩ := h.cellAt (i := 0) (t := t) (by rw [hs]; rfl)
    exact World.block_lt_of_cell? _ _ hx
theorem BoxFree.mono {w w' : World} {b : Nat} {k : BK} {v : Value} (h : BoxFree w b k) (hv : BoxHas w b k v) (hb : Below w.heap.size w w') : BoxFree w' b k := fun o ho => by
  obtain ⟨t, ht⟩ : ∃ t, k.shape[o]? = some t := ⟨_, List.getElem?_eq_getElem ho⟩
  obtain ⟨x, hx, _⟩ := hv.cellAt ht
  rw [hb.frozen (p := ⟨b, o, none⟩) (World.block_lt_of_cell? _ _ hx)]; exact h o ho

theorem Stored.has {w w' : World} {b : Nat} {k : BK} {u v : Value} (h : BoxHas w b k u) (hs : Stored w w' b k v) : BoxHas w' b k v := by
  obtain ⟨cs, h1, h2, rfl⟩ := hs
  refine ⟨cs, h1, h2, fun i x hx => ?_⟩
  have := setAll_cell_in (b := b) w 0 cs (fun j hj => ?_) i x hx
  · rwa [Nat.zero_add] at this
  · obtain ⟨t, ht⟩ : ∃ t, k.shape[j]? = some t := ⟨_, List.getElem?_eq_getElem (by rw [← h2.length]; exact hj)⟩
    obtain ⟨y, hy, _⟩ := h.cellAt ht
    exact ⟨y, by rw [Nat.zero_add]; exact hy⟩
theorem Stored.cell {w w' : World} {b : Nat} {k : BK} {v : Value} (hs : Stored w w' b k v) {a q : Nat} (h : a ≠ b) : w'.cell? ⟨a, q, none⟩ = w.cell? ⟨a, q, none⟩ := by
  obtain ⟨cs, h1, h2, rfl⟩ := hs
  exact setAll_cell_other h _ _ _
theorem Stored.frozen {w w' : World} {b : Nat} {k : BK} {v : Value} (hs : Stored w w' b k v) (a : Addr) : w'.frozen? a = w.frozen? a := by
  obtain ⟨cs, h1, h2, rfl⟩ := hs
  exact setAll_frozen _ _ _ _
theorem BoxHas.stored {w w' : World} {a b : Nat} {k j : BK} {u v : Value} (h : BoxHas w a j u) (hs : Stored w w' b k v) (hn : a ≠ b) : BoxHas w' a j u := by
  obtain ⟨cs, h1, h2, h3⟩ := h
  exact ⟨cs, h1, h2, fun i x hx => by rw [hs.cell hn]; exact h3 i x hx⟩

theorem IsN.stored {w w' : World} {s : Int} {p : Option Addr} {l c n b : Nat} {k : BK} {u v : Value} (h : IsN w s p l c n) (hb : BoxHas w b k u) (hs : Stored w w' b k v) : IsN w' s p l c n := by
  rcases h with h | ⟨a1, a2, d, off, a3, a4, a5, a6⟩
  · exact Or.inl h
  · refine Or.inr ⟨a1, a2, d, off, a3, a4, a5, fun i hi => ?_⟩
    obtain ⟨cs, h1, h2, rfl⟩ := hs
    by_cases e : d = b
    · subst e
      rw [setAll_cell_out]
      · exact a6 i hi
      · right
        rw [Nat.zero_add, h2.length]
        rcases Nat.lt_or_ge (off + i) k.shape.length with hlt | hge
        · exfalso
          have h4 := ds_two a1
          -- its first cell lies in the box
          have hoff : off < k.shape.length := by omega
          obtain ⟨x, hx, ho⟩ := hb.cellAt (i := off) (List.getElem?_eq_getElem hoff)
          have e0 := a6 0 (by omega)
          rw [Nat.add_zero, hx] at e0
          have hu : k.shape[off]? = some .u := by
            rw [List.getElem?_eq_getElem hoff]
            generalize k.shape[off] = t at *
            cases t with
            | u => rfl
            | b => obtain ⟨y, rfl⟩ := ho; cases e0
            | s => obtain ⟨y1, y2, y3, rfl⟩ := ho; cases e0
            | num => obtain ⟨y, rfl⟩ := ho; cases e0
            | txt => obtain ⟨y, rfl⟩ := ho; cases e0
            | ptr => obtain ⟨y, rfl⟩ := ho; cases e0
          obtain ⟨t, ht, hne⟩ := wordsApart_spec (wordsApart_shape k) off hu
          obtain ⟨y, hy, ho2⟩ := hb.cellAt (i := off + 1) ht
          have e1 := a6 1 (by omega)
          rw [hy] at e1
          cases t with
          | u => exact hne rfl
          | b => obtain ⟨y', rfl⟩ := ho2; cases e1
          | s => obtain ⟨y1, y2, y3, rfl⟩ := ho2; cases e1
          | num => obtain ⟨y', rfl⟩ := ho2; cases e1
          | txt => obtain ⟨y', rfl⟩ := ho2; cases e1
          | ptr => obtain ⟨y', rfl⟩ := ho2; cases e1
        · exact hge
    · rw [setAll_cell_other e]; exact a6 i hi
theorem IsR.stored {w w' : World} {p : Option Addr} {l c n b : Nat} {k : BK} {u v : Value} (h : IsR w p l c n) (hb : BoxHas w b k u) (hs : Stored w w' b k v) : IsR w' p l c n := by
  obtain ⟨a1, a2, a3⟩ := h
  refine ⟨a1, a2, fun hn => ?_⟩
  obtain ⟨d, off, a4, a5⟩ := a3 hn
  refine ⟨d, off, a4, fun i hi => ?_⟩
  obtain ⟨cs, h1, h2, rfl⟩ := hs
  by_cases e : d = b
  · subst e
    rw [setAll_cell_out]
    · exact a5 i hi
    · right
      rw [Nat.zero_add, h2.length]
      rcases Nat.lt_or_ge (off + i) k.shape.length with hlt | hge
      · exfalso
        obtain ⟨x, hx, ho⟩ := hb.cellAt (i := off + i) (List.getElem?_eq_getElem hlt)
        have e0 := a5 i hi
        rw [hx] at e0
        generalize k.shape[off + i] = t at *
        cases t with
        | u => obtain ⟨y, rfl⟩ := ho; cases e0
        | b => obtain ⟨y, rfl⟩ := ho; cases e0
        | s => obtain ⟨y1, y2, y3, rfl⟩ := ho; cases e0
        | num => obtain ⟨y, rfl⟩ := ho; cases e0
        | txt => obtain ⟨y, rfl⟩ := ho; cases e0
        | ptr => obtain ⟨y, rfl⟩ := ho; cases e0
      · exact hge
  · rw [setAll_cell_other e]; exact a5 i hi

structure Stable where
  says : World → Value → Prop
  mono : ∀ w w' v, Below w.heap.size w w' → says w v → says w' v
  stored : ∀ w w' v b k u x, BoxHas w b k u → Stored w w' b k x → says w v → says w' v
end Go.Proofs.YtfjjmhbffbhhdaaGreatDoor

/- What an operation of a statement yields, in words of the program's numbers. -/
namespace Go.Proofs.YtfjjmhbffbhhdaaGreatDoor
open Go.RowKit

def Num (w : World) (v : Value) (n : Nat) : Prop := ∃ s p l c, v = .agg #[.int .u64 s, .slice p l c] ∧ IsN w s p l c n
def RNum (w : World) (v : Value) (n : Nat) : Prop := ∃ p l c, v = .slice p l c ∧ IsR w p l c n
def RowOf (w : World) (v : Value) (k : IntKind) (xs : List Nat) : Prop := ∃ b off c, v = .slice (some ⟨b, off, none⟩) xs.length c ∧ xs.length ≤ c ∧ At w k b off xs

def WRow (w : World) (v : Value) (l n : Nat) : Prop := ∃ b off c xs, v = .slice (some ⟨b, off, none⟩) l c ∧ xs.length = l ∧ l ≤ c ∧ (∀ x ∈ xs, x < 2 ^ 64) ∧ val (2 ^ 64) xs = n ∧ At w .u64 b off xs
theorem WRow.mono {w w' : World} {v : Value} {l n : Nat} (h : WRow w v l n) (hb : Below w.heap.size w w') : WRow w' v l n := by
  obtain ⟨b, off, c, xs, h1, h2, h3, h4, h5, h6⟩ := h
  exact ⟨b, off, c, xs, h1, h2, h3, h4, h5, h6.mono hb⟩

theorem Num.mono {w w' : World} {v : Value} {n : Nat} (h : Num w v n) (hb : Below w.heap.size w w') : Num w' v n := by
  obtain ⟨s, p, l, c, h1, h2⟩ := h
  exact ⟨s, p, l, c, h1, h2.mono hb⟩
theorem RNum.mono {w w' : World} {v : Value} {n : Nat} (h : RNum w v n) (hb : Below w.heap.size w w') : RNum w' v n := by
  obtain ⟨p, l, c, h1, h2⟩ := h
  exact ⟨p, l, c, h1, h2.mono hb⟩
theorem RowOf.mono {w w' : World} {v : Value} {k : IntKind} {xs : List Nat} (h : RowOf w v k xs) (hb : Below w.heap.size w w') : RowOf w' v k xs := by
  obtain ⟨b, off, c, h1, h2, h3⟩ := h
  exact ⟨b, off, c, h1, h2, h3.mono hb⟩

def IsI (w : World) (g : Bool) (s : Int) (p : Option Addr) (l c : Nat) (z : Int) : Prop := g = decide (z < 0) ∧ IsN w s p l c z.natAbs
theorem IsI.mono {w w' : World} {g : Bool} {s : Int} {p : Option Addr} {l c : Nat} {z : Int} (h : IsI w g s p l c z) (hb : Below w.heap.size w w') : IsI w' g s p l c z := ⟨h.1, h.2.mono hb⟩
def INum (w : World) (v : Value) (z : Int) : Prop := ∃ g s p l c, v = .agg #[.bool g, .int .u64 s, .slice p l c] ∧ IsI w g s p l c z
theorem INum.mono {w w' : World} {v : Value} {z : Int} (h : INum w v z) (hb : Below w.heap.size w w') : INum w' v z := by
  obtain ⟨g, s, p, l, c, h1, h2⟩ := h
  exact ⟨g, s, p, l, c, h1, h2.mono hb⟩
def IsRI (w : World) (g : Bool) (p : Option Addr) (l c : Nat) (z : Int) : Prop := g = decide (z < 0) ∧ IsR w p l c z.natAbs
theorem IsRI.mono {w w' : World} {g : Bool} {p : Option Addr} {l c : Nat} {z : Int} (h : IsRI w g p l c z) (hb : Below w.heap.size w w') : IsRI w' g p l c z := ⟨h.1, h.2.mono hb⟩
def RINum (w : World) (v : Value) (z : Int) : Prop := ∃ g p l c, v = .agg #[.bool g, .slice p l c] ∧ IsRI w g p l c z
theorem RINum.mono {w w' : World} {v : Value} {z : Int} (h : RINum w v z) (hb : Below w.heap.size w w') : RINum w' v z := by
  obtain ⟨g, p, l, c, h1, h2⟩ := h
  exact ⟨g, p, l, c, h1, h2.mono hb⟩

inductive Want where
  | is (v : Value)
  | num (n : Nat)
  | rnum (n : Nat)
  | row (k : IntKind) (xs : List Nat)
  | two (x y : Want)
  | three (x y z : Want)
  | newbox (base : Nat)
  | wrow (l n : Nat)
  | int (z : Int)
  | rint (z : Int)
  | that (p : Stable)
  | any

def NewBox (base : Nat) (w : World) (v : Value) : Prop := ∃ b, v = .pointer (some ⟨b, 0, none⟩) ∧ base ≤ b ∧ w.cell? ⟨b, 0, none⟩ = some (.int .u64 0) ∧ w.cell? ⟨b, 1, none⟩ = some (.slice none 0 0) ∧ w.frozen? ⟨b, 0, none⟩ = false ∧ w.frozen? ⟨b, 1, none⟩ = false

def Means (w : World) : Want → Value → Prop
  | .is x, v => v = x
  | .num n, v => Num w v n
  | .rnum n, v => RNum w v n
  | .row k xs, v => RowOf w v k xs
  | .two x y, v => ∃ a b, v = .tuple #[a, b] ∧ Means w x a ∧ Means w y b
  | .three x y z, v => ∃ a b c, v = .tuple #[a, b, c] ∧ Means w x a ∧ Means w y b ∧ Means w z c
  | .newbox base, v => NewBox base w v
  | .wrow l n, v => WRow w v l n
  | .int z, v => INum w v z
  | .rint z, v => RINum w v z
  | .that p, v => p.says w v
  | .any, _ => True

theorem Means.mono {w w' : World} {x : Want} {v : Value} (h : Means w x v) (hb : Below w.heap.size w w') : Means w' x v := by
  induction x generalizing v with
  | is x => exact h
  | num n => exact Num.mono h hb
  | rnum n => exact RNum.mono h hb
  | row k xs => exact RowOf.mono h hb
  | two x y hx hy =>
    obtain ⟨a, b, h1, h2, h3⟩ := h
    exact ⟨a, b, h1, hx h2, hy h3⟩
  | three x y z hx hy hz =>
    obtain ⟨a, b, c, h1, h2, h3, h4⟩ := h
    exact ⟨a, b, c, h1, hx h2, hy h3, hz h4⟩
  | newbox base =>
    obtain ⟨b, h1, h2, h3, h4, h5, h6⟩ := h
    exact ⟨b, h1, h2, wcell hb h3, wcell hb h4, wfree hb h3 h5, wfree hb h4 h6⟩
  | wrow l n => exact WRow.mono h hb
  | int z => exact INum.mono h hb
  | rint z => exact RINum.mono h hb
  | that p => exact p.mono _ _ _ hb h
  | any => trivial

def Tab (t : List Want) (off : Nat) (i : Nat) (v : Value) (w : World) : Prop := Means w (t.getD (i - off) .any) v
theorem Tab.stable {t : List Want} {off : Nat} : ∀ i v w w', Below w.heap.size w w' → Tab t off i v w → Tab t off i v w' := fun _ _ _ _ hb h => Means.mono h hb

end Go.Proofs.YtfjjmhbffbhhdaaGreatDoor

/- Quotients of two short numbers. -/
namespace Go.Proofs.YtfjjmhbffbhhdaaGreatDoor
open Go.RowKit

def RetD (W : World) (m r : Nat) : Ending → World → Prop := fun e w' =>
  ∃ s p l c t q k d, e = .returned (.tuple #[.agg #[.int .u64 s, .slice p l c], .agg #[.int .u64 t, .slice q k d], .bool true]) ∧ IsN w' s p l c m ∧ IsN w' t q k d r ∧ Below W.heap.size W w'

set_option maxRecDepth 100000 in
set_option maxHeartbeats 1000000 in
theorem div_ss (m n : Nat) (hm : m < 2 ^ 64) (hn : n < 2 ^ 64) (h0 : 0 < n) (w : World) :
    Calls Tryz.prog 45 #[.agg #[.int .u64 (m : Int), .slice none 0 0], .agg #[.int .u64 (n : Int), .slice none 0 0]] w (RetD w (m / n) (m % n)) := by
  have HM := Lib.hid hm; have HN := Lib.hid hn
  have d0 : ((n : Int) == 0) = false := beq_eq_false_iff_ne.2 (by omega)
  have n0 : ¬ n = 0 := by omega
  have wq : IntKind.u64.wrap ((m : Int) / n) = (m : Int) / n := by
    have h1 : m / n < 2 ^ 64 := Nat.lt_of_le_of_lt (Nat.div_le_self m n) hm
    rw [← Int.natCast_ediv, IntKind.wrap_u64]
    generalize m / n = q at *
    omega
  have wr : ((m : Int)).tmod n = (m : Int) % n := Int.tmod_eq_emod_of_nonneg (by omega)
  clear hm hn
  go_enter Tryz.func45, Tryz.ntmps45
  go_wp2_with fail
  refine (short_yes _ _ _ _).mono ?_
  rintro e w1 ⟨rfl, hb⟩
  obtain ⟨hc, hf⟩ := bcell hb
  go_wp2_with fail
  refine (short_yes _ _ _ _).mono ?_
  rintro e w2 ⟨rfl, hb2⟩
  replace hb2 := below_step hb hb2
  obtain ⟨hc2, hf2⟩ := bcell hb2
  clear hc hf
  go_wp2_with fail
  refine (short_yes _ _ _ _).mono ?_
  rintro e w3 ⟨rfl, hb3⟩
  replace hb3 := below_step hb2 hb3
  obtain ⟨hc3, hf3⟩ := bcell hb3
  clear hc2 hf2 hb hb2
  go_wp2_with fail
  have HBW : Below w.heap.size w w3 := (by repeat' first | exact Below.refl _ _ | refine below_alloc ?_ _ | refine Below.drew ?_ | refine below_step ?_ (by assumption))
  have hN : w.heap.size + 1 + 1 + 1 + 1 ≤ w3.heap.size := by have := hb3.size; simp at this; omega
  obtain ⟨g, hg⟩ : ∃ g, g = w.heap.size := ⟨_, rfl⟩
  have q1 : w3.cell? ⟨g, 0, none⟩ = some (.int .u64 (m : Int)) := by simp [hg, hc3, go_sem]
  have q2 : w3.cell? ⟨g + 1, 0, none⟩ = some (.int .u64 (n : Int)) := by simp [hg, hc3, go_sem]
  have r0 : w3.cell? ⟨g + 1 + 1, 0, none⟩ = some (.int .u64 0) := by simp [hg, hc3, go_sem]
  have r1 : w3.cell? ⟨g + 1 + 1, 1, none⟩ = some (.slice none 0 0) := by simp [hg, hc3, go_sem]
  have r2 : w3.cell? ⟨g + 1 + 1 + 1, 0, none⟩ = some (.int .u64 0) := by simp [hg, hc3, go_sem]
  have r3 : w3.cell? ⟨g + 1 + 1 + 1, 1, none⟩ = some (.slice none 0 0) := by simp [hg, hc3, go_sem]
  have f0 : w3.frozen? ⟨g + 1 + 1, 0, none⟩ = false := by simp [hg, hf3, go_sem]
  have f1 : w3.frozen? ⟨g + 1 + 1, 1, none⟩ = false := by simp [hg, hf3, go_sem]
  have f2 : w3.frozen? ⟨g + 1 + 1 + 1, 0, none⟩ = false := by simp [hg, hf3, go_sem]
  have f3 : w3.frozen? ⟨g + 1 + 1 + 1, 1, none⟩ = false := by simp [hg, hf3, go_sem]
  have HG := Lib.hid hg
  rw [← hg] at hN ⊢
  clear hc3 hf3 hb3 hg
  have l0 : g < g + 1 + 1 + 1 + 1 := by omega
  have l1 : g + 1 < g + 1 + 1 + 1 + 1 := by omega
  have l2 : g + 1 + 1 < g + 1 + 1 + 1 + 1 := by omega
  have l3 : g + 1 + 1 + 1 < g + 1 + 1 + 1 + 1 := by omega
  refine region_phase (T := [0, 1, 2, 3, 4, 5, 6, 7, 8, 9, 10, 11]) (slots := [28, 29, 30, 31, 32, 33, 34, 35, 36, 37, 38, 39]) (fuel := 3) (n := 12) (deps := [0, 1, 0, 4, 10, 16, 0, 64, 0, 256, 640, 1056, 2111, 8191, 16383]) (Tm := 4095) (Lm := 4095)
      (L := #[true, true, true, true, true, true, true, true, true, true, true, true, false, false, false])
      (V := Tab [.is (.pointer (some ⟨g, 0, none⟩)), .is (.int .u64 m), .is (.pointer (some ⟨g + 1, 0, none⟩)), .is (.int .u64 n), .is (.int .u64 ((m / n : Nat) : Int)), .is (.agg #[.int .u64 ((m / n : Nat) : Int), .slice none 0 0]), .is (.pointer (some ⟨g, 0, none⟩)), .is (.int .u64 m), .is (.pointer (some ⟨g + 1, 0, none⟩)), .is (.int .u64 n), .is (.int .u64 ((m % n : Nat) : Int)), .is (.agg #[.int .u64 ((m % n : Nat) : Int), .slice none 0 0])] 0)
      (by kernel_rfl) rfl Tab.stable (by kernel_rfl) (by kernel_rfl) (by kernel_rfl) (by kernel_rfl) (by kernel_rfl) (by kernel_rfl) (by kernel_rfl) ?_ ?_
  · skip
    refine AllGo.cons rfl (fun E W hb hc hf hE hV => ⟨rfl, ?_⟩) ?_
    · have e1 : E (.tmp 2) = .pointer (some ⟨g, 0, none⟩) := hE 2 (by kernel_rfl)
      clear hE hV
      exact Does.value (w' := W) (by go_simp) ⟨rfl, Below.refl _ _⟩
    refine AllGo.cons rfl (fun E W hb hc hf hE hV => ⟨rfl, ?_⟩) ?_
    · have e1 : E (.tmp 28) = _ := hV 0 28 (by kernel_rfl) (by kernel_rfl) (by kernel_rfl)
      have q := wcell hb q1
      clear hE hV
      exact Does.value (w' := W) (by go_simp) ⟨rfl, Below.refl _ _⟩
    refine AllGo.cons rfl (fun E W hb hc hf hE hV => ⟨rfl, ?_⟩) ?_
    · have e1 : E (.tmp 3) = .pointer (some ⟨g + 1, 0, none⟩) := hE 3 (by kernel_rfl)
      clear hE hV
      exact Does.value (w' := W) (by go_simp) ⟨rfl, Below.refl _ _⟩
    refine AllGo.cons rfl (fun E W hb hc hf hE hV => ⟨rfl, ?_⟩) ?_
    · have e1 : E (.tmp 30) = _ := hV 2 30 (by kernel_rfl) (by kernel_rfl) (by kernel_rfl)
      have q := wcell hb q2
      clear hE hV
      exact Does.value (w' := W) (by go_simp) ⟨rfl, Below.refl _ _⟩
    refine AllGo.cons rfl (fun E W hb hc hf hE hV => ⟨rfl, ?_⟩) ?_
    · have e1 : E (.tmp 29) = _ := hV 1 29 (by kernel_rfl) (by kernel_rfl) (by kernel_rfl)
      have e2 : E (.tmp 31) = _ := hV 3 31 (by kernel_rfl) (by kernel_rfl) (by kernel_rfl)
      clear hE hV
      exact Does.value (w' := W) (by go_simp) ⟨rfl, Below.refl _ _⟩
    refine AllGo.cons rfl (fun E W hb hc hf hE hV => ⟨rfl, ?_⟩) ?_
    · have e1 : E (.tmp 32) = _ := hV 4 32 (by kernel_rfl) (by kernel_rfl) (by kernel_rfl)
      clear hE hV
      exact Does.call (w' := W) (by go_simp) ((of_any _ _).mono fun e w' ⟨h1, h2⟩ => ⟨_, h1, rfl, h2⟩)
    refine AllGo.cons rfl (fun E W hb hc hf hE hV => ⟨rfl, ?_⟩) ?_
    · have e1 : E (.tmp 2) = .pointer (some ⟨g, 0, none⟩) := hE 2 (by kernel_rfl)
      clear hE hV
      exact Does.value (w' := W) (by go_simp) ⟨rfl, Below.refl _ _⟩
    refine AllGo.cons rfl (fun E W hb hc hf hE hV => ⟨rfl, ?_⟩) ?_
    · have e1 : E (.tmp 34) = _ := hV 6 34 (by kernel_rfl) (by kernel_rfl) (by kernel_rfl)
      have q := wcell hb q1
      clear hE hV
      exact Does.value (w' := W) (by go_simp) ⟨rfl, Below.refl _ _⟩
    refine AllGo.cons rfl (fun E W hb hc hf hE hV => ⟨rfl, ?_⟩) ?_
    · have e1 : E (.tmp 3) = .pointer (some ⟨g + 1, 0, none⟩) := hE 3 (by kernel_rfl)
      clear hE hV
      exact Does.value (w' := W) (by go_simp) ⟨rfl, Below.refl _ _⟩
    refine AllGo.cons rfl (fun E W hb hc hf hE hV => ⟨rfl, ?_⟩) ?_
    · have e1 : E (.tmp 36) = _ := hV 8 36 (by kernel_rfl) (by kernel_rfl) (by kernel_rfl)
      have q := wcell hb q2
      clear hE hV
      exact Does.value (w' := W) (by go_simp) ⟨rfl, Below.refl _ _⟩
    refine AllGo.cons rfl (fun E W hb hc hf hE hV => ⟨rfl, ?_⟩) ?_
    · have e1 : E (.tmp 35) = _ := hV 7 35 (by kernel_rfl) (by kernel_rfl) (by kernel_rfl)
      have e2 : E (.tmp 37) = _ := hV 9 37 (by kernel_rfl) (by kernel_rfl) (by kernel_rfl)
      clear hE hV
      exact Does.value (w' := W) (by go_simp) ⟨rfl, Below.refl _ _⟩
    refine AllGo.cons rfl (fun E W hb hc hf hE hV => ⟨rfl, ?_⟩) ?_
    · have e1 : E (.tmp 38) = _ := hV 10 38 (by kernel_rfl) (by kernel_rfl) (by kernel_rfl)
      clear hE hV
      exact Does.call (w' := W) (by go_simp) ((of_any _ _).mono fun e w' ⟨h1, h2⟩ => ⟨_, h1, rfl, h2⟩)
    exact AllGo.nil
  · intro f W hf hb
    have e33 : f 33 = .agg #[.int .u64 ((m / n : Nat) : Int), .slice none 0 0] := hf (5, 33) (by simp)
    have e39 : f 39 = .agg #[.int .u64 ((m % n : Nat) : Int), .slice none 0 0] := hf (11, 39) (by simp)
    have r0 := wcell hb r0; have r1 := wcell hb r1; have r2 := wcell hb r2; have r3 := wcell hb r3
    have f0 := wfree hb (by assumption) f0; have f1 := wfree hb (by assumption) f1; have f2 := wfree hb (by assumption) f2; have f3 := wfree hb (by assumption) f3
    have HB : Below w.heap.size w W := below_step HBW hb
    clear hf hb
    simp only [fillSlots]
    refine wpAny_ready (rs := [12]) (by kernel_rfl) (by simp) ?_
    refine AllReady.cons rfl (fun K hK => ?_) AllReady.nil
    go_simp
    refine hK _ _ ?_; clear hK K
    refine wpAny_ready (rs := [13]) (by kernel_rfl) (by simp) ?_
    refine AllReady.cons rfl (fun K hK => ?_) AllReady.nil
    go_simp
    refine hK _ _ ?_; clear hK K
    refine wpAny_ready (rs := [14]) (by kernel_rfl) (by simp) ?_
    refine AllReady.cons rfl (fun K hK => ?_) AllReady.nil
    go_simp
    refine hK _ _ ?_; clear hK K
    refine wpAny_done (by kernel_rfl) ?_ _
    go_wp2
    refine bodyPost_ret (v := .tuple #[.agg #[.int .u64 ((m / n : Nat) : Int), .slice none 0 0], .agg #[.int .u64 ((m % n : Nat) : Int), .slice none 0 0], .bool true]) (by simp [results, Tryz.results45, go_sem, r0, r1, r2, r3]) rfl ?_
    have hm := HM.out
    have h1 : m / n < 2 ^ 64 := Nat.lt_of_le_of_lt (Nat.div_le_self m n) hm
    have h2 : m % n < 2 ^ 64 := Nat.lt_of_le_of_lt (Nat.mod_le m n) hm
    have hg := HG.out
    exact ⟨_, _, _, _, _, _, _, _, rfl, .short h1, .short h2, (by repeat' first | exact HB | (refine Below.setCell ?_ (by simp; omega) _))⟩
end Go.Proofs.YtfjjmhbffbhhdaaGreatDoor

/- A row divided by one digit, in place. -/
namespace Go.Proofs.YtfjjmhbffbhhdaaGreatDoor
open Go.RowKit

def RetWord (w : World) (b off l : Nat) (v d : Nat) : Ending → World → Prop := fun e w' =>
  ∃ (ws : List Nat) (r : Nat), e = .returned (.int .u64 (r : Int)) ∧ r = v % d ∧ ws.length = l ∧ (∀ x ∈ ws, x < 2 ^ 64) ∧ val (2 ^ 64) ws = v / d ∧ At w' .u64 b off ws ∧ Only w w' b off l

theorem WordInv.done {b d : Nat} {ws ws' : List Nat} {r : Nat} (h : WordInv b d ws ws' 0 r) : val b ws' = val b ws / d ∧ r = val b ws % d := by
  have h1 := h.sum
  have h2 := h.rest
  rw [List.drop_zero, List.drop_zero] at h1
  have h3 : val b ws / d = val b ws' := Nat.div_eq_of_lt_le (by omega) (by rw [Nat.add_mul]; omega)
  refine ⟨h3.symm, ?_⟩
  have h4 := Nat.div_add_mod (val b ws) d
  rw [h3, Nat.mul_comm] at h4
  omega

set_option maxRecDepth 100000 in
set_option maxHeartbeats 2000000 in
theorem divByWord_any (b off c l d : Nat) (ws : List Nat) (w : World) (hl : ws.length = l) (h0 : 0 < l) (hl2 : l ≤ 1000000) (hd : 0 < d) (hd2 : d < 2 ^ 64) (h : At w .u64 b off ws) (hF : Fr w b off l) (hW : ∀ x ∈ ws, x < 2 ^ 64) :
    Calls Tryz.prog 54 #[.slice (some ⟨b, off, none⟩) l c, .int .u64 (d : Int)] w (RetWord w b off l (val (2 ^ 64) ws) d) := by
  have hb := h.lt (by omega)
  have HA := Lib.hid h; have HF := Lib.hid hF; have HW := Lib.hid hW; have HL := Lib.hid hl; have HD := Lib.hid hd; have HD2 := Lib.hid hd2; have HB := Lib.hid hb
  clear h hF hW hl hd hd2 hb
  go_enter Tryz.func54, Tryz.ntmps54
  go_wp2
  go_loopw [5, 6] (fun r i wr => ∃ k r' : Nat, k ≤ l ∧ i = .int .i64 ((k : Int) - 1) ∧ r = .int .u64 (r' : Int) ∧ ∃ ws', Hid (WordInv (2 ^ 64) d ws ws' k r') ∧ At wr .u64 b off ws' ∧ Only w wr b off l) (fun _ i _ => (intOf i + 1).toNat)
  case atStart => exact ⟨l, 0, Nat.le_refl _, rfl, rfl, ws, Lib.hid (by have := WordInv.start (ws := ws) HD.out HW.out; rwa [HL.out] at this), HA.out, Only.refl _ _ _ _⟩
  case round =>
    obtain ⟨k, r, hk, rfl, rfl, ws', HI, hA, hO⟩ := hrel
    rcases Nat.eq_zero_or_pos k with hk0 | hk0
    · subst hk0
      have HFIN := Lib.hid HI.out.done
      have HLT := Lib.hid HI.out.lt
      have HLN : Hid (ws'.length = l) := Lib.hid (by rw [HI.out.len, HL.out])
      clear HI
      go_wp2
      go_ret
      exact ⟨ws', r, rfl, HFIN.out.2, HLN.out, HLT.out, HFIN.out.1, hA, hO⟩
    · obtain ⟨j, rfl⟩ : ∃ j, k = j + 1 := ⟨k - 1, by omega⟩
      have hlen : ws'.length = l := by rw [HI.out.len, HL.out]
      have c1 := hA j (by omega)
      have hx := getD_lt HI.out.lt (by omega) j
      have hq := word_digit HI.out.rest hx
      have HT := Lib.hid (div64_any r (ws'.getD j 0) d HI.out.rest HD2.out hx)
      have HS := Lib.hid (HI.out.step (by rw [HL.out]; omega) hq (Nat.mod_lt _ HD.out) (by rw [Nat.mul_comm]; exact Nat.div_add_mod _ _))
      generalize (r * 2 ^ 64 + ws'.getD j 0) / d = q at *
      generalize (r * 2 ^ 64 + ws'.getD j 0) % d = s at *
      generalize ws'.getD j 0 = x at *
      have HLN := Lib.hid hlen
      have i0 : ((j + 1 : Nat) : Int) - 1 = (j : Int) := by omega
      rw [i0]
      have i1 : (0 : Int) ≤ j := by omega
      have i2 : (j : Int) < l := by omega
      clear hx hq HI hlen
      go_wp2_with fail
      refine (HT.out _).mono ?_
      rintro e w1 ⟨rfl, hb⟩
      have hbl := Nat.lt_of_lt_of_le HB.out hO.size
      have f1 := (HF.out.only hO) j (by omega)
      have c2 := wcell hb c1
      have f2 := wfree hb c1 f1
      have hA2 := Lib.hid ((hA.mono hb).set j q (by rw [HLN.out]; omega))
      have hO2 := Lib.hid ((hO.trans (Only.of_below hb hbl)).setCell (off + j) (by omega) (by omega) (.int .u64 (q : Int)))
      clear hA hO c1 f1 hbl hb
      go_wp2
      go_roundw
      case rel => exact ⟨j, s, by omega, by go_num, rfl, _, HS, hA2.out, hO2.out⟩
      case measure => simp [intOf]
end Go.Proofs.YtfjjmhbffbhhdaaGreatDoor

/- Lengths of the document's numbers. -/
namespace Go.Proofs.YtfjjmhbffbhhdaaGreatDoor
open Go.RowKit

theorem dr_ds (n : Nat) : (dr n).length ≤ 2 * (ds n).length := by
  refine digs_length_le (by omega) ?_
  have := lt_ds n
  rw [show (2 : Nat) ^ 64 = (2 ^ 32) ^ 2 from by omega, ← Nat.pow_mul] at this
  exact this
theorem IsR.short {w : World} {p : Option Addr} {l c n k : Nat} (h : IsR w p l c n) (hk : (ds n).length ≤ k) : l ≤ 2 * k := by
  have h1 := h.1; have h2 := dr_ds n; omega
theorem dr_mul (m n : Nat) : (dr (m * n)).length ≤ (dr m).length + (dr n).length := by
  refine digs_length_le (by omega) ?_
  rw [Nat.pow_add]
  exact Nat.mul_lt_mul'' (lt_pow_digs (by omega) m) (lt_pow_digs (by omega) n)
end Go.Proofs.YtfjjmhbffbhhdaaGreatDoor

/- Is one of the program's numbers the document's? -/
namespace Go.Proofs.YtfjjmhbffbhhdaaGreatDoor
open Go.RowKit

end Go.Proofs.YtfjjmhbffbhhdaaGreatDoor

/- Is a number the document's, in the words of an open statement. -/
namespace Go.Proofs.YtfjjmhbffbhhdaaGreatDoor
open Go.RowKit

end Go.Proofs.YtfjjmhbffbhhdaaGreatDoor
