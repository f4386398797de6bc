/- A statement whose order of evaluation is open, with the stores that end it: told operation by operation, in whatever order they come up. A store goes to a box of the call's own, of which it is known what kind of cells it has; so no number's memory is written. -/
import Derived.Test.YtfjjmhbffbhhdaaGreatDoorQNum
import Derived.Test.YtfjjmhbffbhhdaaGreatDoorInv
/- Boxes of the call's own, what a store to one of them leaves as it was; an open statement told by a table of what its operations yield, and by its boxes. -/
namespace Go.Proofs.YtfjjmhbffbhhdaaGreatDoor
open Go.RowKit

def Want.safe : Want → Bool
  | .is _ => true
  | .num _ => true
  | .rnum _ => true
  | .int _ => true
  | .rint _ => true
  | .that _ => true
  | .two x y => x.safe && y.safe
  | .three x y z => x.safe && y.safe && z.safe
  | .any => true
  | _ => false
theorem Means.stored {w w' : World} {x : Want} {t : Value} {b : Nat} {k : BK} {u v : Value} (hx : x.safe = true) (h : Means w x t) (hb : BoxHas w b k u) (hs : Stored w w' b k v) : Means w' x t := by
  induction x generalizing t with
  | is x => exact h
  | num n => obtain ⟨s, p, l, c, h1, h2⟩ := h; exact ⟨s, p, l, c, h1, h2.stored hb hs⟩
  | rnum n => obtain ⟨p, l, c, h1, h2⟩ := h; exact ⟨p, l, c, h1, h2.stored hb hs⟩
  | row k xs => cases hx
  | two x y ihx ihy =>
    simp only [Want.safe, Bool.and_eq_true] at hx
    obtain ⟨a, c, h1, h2, h3⟩ := h
    exact ⟨a, c, h1, ihx hx.1 h2, ihy hx.2 h3⟩
  | three x y z ihx ihy ihz =>
    simp only [Want.safe, Bool.and_eq_true] at hx
    obtain ⟨a, c, d, h1, h2, h3, h4⟩ := h
    exact ⟨a, c, d, h1, ihx hx.1.1 h2, ihy hx.1.2 h3, ihz hx.2 h4⟩
  | newbox base => cases hx
  | wrow l n => cases hx
  | int z => obtain ⟨g, s, p, l, c, h1, h2, h3⟩ := h; exact ⟨g, s, p, l, c, h1, h2, h3.stored hb hs⟩
  | rint z => obtain ⟨g, p, l, c, h1, h2, h3⟩ := h; exact ⟨g, p, l, c, h1, h2, h3.stored hb hs⟩
  | that p => exact p.stored _ _ _ _ _ _ _ hb hs h
  | any => trivial

structure Away (bs : List Nat) (w w' : World) : Prop where
  os : w'.os = w.os
  tape : w'.tape = w.tape
  output : w'.output = w.output
  size : w.heap.size ≤ w'.heap.size
  block : ∀ k, k < w.heap.size → k ∉ bs → w'.heap[k]? = w.heap[k]?
theorem Away.drew (bs : List Nat) (w : World) : Away bs w w.drew := ⟨rfl, rfl, rfl, Nat.le_refl _, fun _ _ _ => rfl⟩
theorem Away.step {bs : List Nat} {w w1 w2 : World} (h : Away bs w w1) (hb : Below w1.heap.size w1 w2) : Away bs w w2 :=
  ⟨hb.os.trans h.os, hb.tape.trans h.tape, hb.output.trans h.output, Nat.le_trans h.size hb.size, fun k hk hn => (hb.block k (Nat.lt_of_lt_of_le hk h.size)).trans (h.block k hk hn)⟩
theorem Away.cell {bs : List Nat} {w w' : World} (h : Away bs w w') {a o : Nat} {v : Value} (hc : w.cell? ⟨a, o, none⟩ = some v) (hn : a ∉ bs) : w'.cell? ⟨a, o, none⟩ = some v := by
  rw [← hc]; exact World.cell?_of_block (w := w) (h.block a (World.block_lt_of_cell? _ _ hc) hn)
theorem Away.frozen {bs : List Nat} {w w' : World} (h : Away bs w w') {a o : Nat} (hc : a < w.heap.size) (hn : a ∉ bs) : w'.frozen? ⟨a, o, none⟩ = w.frozen? ⟨a, o, none⟩ :=
  World.frozen?_of_block (w := w) (h.block a hc hn)
theorem Away.below {bs : List Nat} {w w' : World} {B : Nat} (h : Away bs w w') (hB : ∀ b ∈ bs, B ≤ b) (hw : B ≤ w.heap.size) : Below B w w' :=
  ⟨h.os, h.tape, h.output, h.size, fun k hk => h.block k (by omega) (fun hm => by have := hB k hm; omega)⟩
theorem Away.stored {bs : List Nat} {w w1 w2 : World} {b : Nat} {k : BK} {v : Value} (h : Away bs w w1) (hs : Stored w1 w2 b k v) (hb : b ∈ bs ∨ w.heap.size ≤ b) : Away bs w w2 := by
  obtain ⟨cs, h1, h2, rfl⟩ := hs
  obtain ⟨r1, r2, r3, r4⟩ := setAll_rest (b := b) w1 0 cs
  refine ⟨r1.trans h.os, r2.trans h.tape, r3.trans h.output, by rw [r4]; exact h.size, fun j hj hn => ?_⟩
  rw [setAll_heap]
  · exact h.block j hj hn
  · rintro rfl
    rcases hb with hb | hb
    · exact hn hb
    · omega
end Go.Proofs.YtfjjmhbffbhhdaaGreatDoor

/- An open statement told by a table of what its operations yield, and by the boxes that it stores to: each operation once, in whatever order they come up. -/
namespace Go.Proofs.YtfjjmhbffbhhdaaGreatDoor
open Go.RowKit

structure DBox where
  blk : Nat
  kind : BK
  al : Option Nat
  at_ : Nat
  want : Want
  old : Value
def DBox.bk (β : Nat → Nat) (x : DBox) : Nat := match x.al with
  | none => x.blk
  | some _ => β x.at_

def DBox.liveAt (o : Oper) (x : DBox) : Bool := match x.al with
  | none => true
  | some j => waitsOn o j

section
variable {P : Program} {ops : Array Oper} {tab : List Want} {D : List DBox} {F : List (Value × Want)} {a0 : Act} {w0 : World} {Q : Exit → Act → World → Prop}

def Says (w : World) (b : Nat) (k : BK) (x : Want) : Prop := ∃ v, BoxHas w b k v ∧ Means w x v
def DBox.live (X : Array Bool) (x : DBox) : Prop := ∀ j, x.al = some j → X.getD j false = true
def oldBlocks (D : List DBox) : List Nat := (D.filter (·.al.isNone)).map (·.blk)
theorem mem_oldBlocks {x : DBox} (hx : x ∈ D) (h : x.al = none) : x.blk ∈ oldBlocks D := List.mem_map.2 ⟨x, List.mem_filter.2 ⟨hx, by rw [h]; rfl⟩, rfl⟩

structure Told (ops : Array Oper) (tab : List Want) (D : List DBox) (F : List (Value × Want)) (a0 : Act) (w0 : World) (β : Nat → Nat) (X : Array Bool) (a : Act) (w : World) : Prop where
  defers : a.defers = a0.defers
  size : a.tmps.size = a0.tmps.size
  other : ∀ t, (∀ j, X.getD j false = true → dstOf ops j ≠ some t) → a.tmps[t]? = a0.tmps[t]?
  vals : ∀ j d, X.getD j false = true → dstOf ops j = some d → Means w (tab.getD j .any) (a.tmps.getD d undef)
  ptr : ∀ x ∈ D, ∀ j d, x.al = some j → X.getD j false = true → dstOf ops j = some d → a.tmps.getD d undef = .pointer (some ⟨x.bk β, 0, none⟩)
  free : ∀ x ∈ D, x.live X → BoxFree w (x.bk β) x.kind
  old : ∀ x ∈ D, x.live X → X.getD x.at_ false = false → BoxHas w (x.bk β) x.kind x.old
  new : ∀ x ∈ D, x.live X → X.getD x.at_ false = true → Says w (x.bk β) x.kind x.want
  lt : ∀ x ∈ D, x.live X → x.bk β < w.heap.size
  low : ∀ x ∈ D, x.live X → x.al ≠ none → w0.heap.size ≤ x.bk β
  apart : ∀ x ∈ D, ∀ y ∈ D, x.live X → y.live X → x.at_ ≠ y.at_ → x.bk β ≠ y.bk β
  nums : ∀ f ∈ F, Means w f.2 f.1
  away : Away (oldBlocks D) w0 w

def OpDoes (P : Program) (ops : Array Oper) (tab : List Want) (D : List DBox) (β : Nat → Nat) (i : Nat) (o : Oper) (E : Operand → Value) (w : World) : Prop :=
  (wantedE ops o E = true ∧ (D.all fun x => x.at_ != i && x.al != some i) = true ∧ Does P o E w fun v w' => Means w' (tab.getD i .any) v ∧ Below w.heap.size w w') ∨
  (wantedE ops o E = true ∧ (∃ x ∈ D, x.at_ = i ∧ (D.all fun x => x.al != some i) = true ∧ o.dst = none ∧ Does P o E w fun _ w' => ∃ v, Stored w w' (x.bk β) x.kind v ∧ Means w x.want v)) ∨
  (wantedE ops o E = true ∧ (D.all fun x => x.at_ != i) = true ∧ tab.getD i .any = .any ∧ ∃ x ∈ D, x.al = some i ∧ Does P o E w fun v w' => v = .pointer (some ⟨w.heap.size, 0, none⟩) ∧ Below w.heap.size w w' ∧ w.heap.size < w'.heap.size ∧ BoxHas w' w.heap.size x.kind x.old ∧ BoxFree w' w.heap.size x.kind) ∨
  (wantedE ops o E = false ∧ (D.all fun x => x.at_ != i && x.al != some i) = true ∧ ∀ w, Means w (tab.getD i .any) undef)

def OpTold (P : Program) (ops : Array Oper) (tab : List Want) (D : List DBox) (F : List (Value × Want)) (a0 : Act) (w0 : World) (i : Nat) (o : Oper) : Prop :=
  ∀ (β : Nat → Nat) (E : Operand → Value) (w : World), Away (oldBlocks D) w0 w → (∀ f ∈ F, Means w f.2 f.1) →
    (∀ v, E (.const v) = v) → (∀ f, E (.func f) = .func (.func f) #[] #[]) → (∀ t, freeAt ops i t = true → E (.tmp t) = a0.tmps.getD t undef) →
    (∀ j d, waitsOn o j = true → dstOf ops j = some d → Means w (tab.getD j .any) (E (.tmp d))) →
    (∀ x ∈ D, ∀ j d, x.al = some j → waitsOn o j = true → dstOf ops j = some d → E (.tmp d) = .pointer (some ⟨x.bk β, 0, none⟩)) →
    (∀ x ∈ D, x.liveAt o = true → notYet ops i x.at_ = true → BoxHas w (x.bk β) x.kind x.old ∧ BoxFree w (x.bk β) x.kind) →
    (∀ x ∈ D, x.liveAt o = true → waitsOn o x.at_ = true → Says w (x.bk β) x.kind x.want) → OpDoes P ops tab D β i o E w

def AllTold (P : Program) (ops : Array Oper) (tab : List Want) (D : List DBox) (F : List (Value × Want)) (a0 : Act) (w0 : World) : List Nat → Prop
  | [] => True
  | i :: is => (∃ o, ops[i]? = some o ∧ OpTold P ops tab D F a0 w0 i o) ∧ AllTold P ops tab D F a0 w0 is
theorem AllTold.cons {i : Nat} {o : Oper} {is : List Nat} (ho : ops[i]? = some o) (h : OpTold P ops tab D F a0 w0 i o) (hs : AllTold P ops tab D F a0 w0 is) : AllTold P ops tab D F a0 w0 (i :: is) := ⟨⟨o, ho, h⟩, hs⟩
theorem AllTold.nil : AllTold P ops tab D F a0 w0 [] := trivial
theorem AllTold.get : ∀ is, AllTold P ops tab D F a0 w0 is → ∀ i ∈ is, ∃ o, ops[i]? = some o ∧ OpTold P ops tab D F a0 w0 i o
  | [], _, _, h => by cases h
  | _ :: is, ⟨h1, h2⟩, i, hi => by
    rcases List.mem_cons.1 hi with rfl | hi
    · exact h1
    · exact AllTold.get is h2 i hi

theorem region_told {id : Nat} {dr : Bool} {T slots : List Nat} (hm : P.follows .mixedOrders = true) (hb : depsBack ops = true)
    (hT : ((List.range ops.size).all fun j => T.contains j || (dstOf ops j).isNone) = true) (hs : T.map (dstOf ops) = slots.map some) (hnd : (decide slots.Nodup && slots.all (fun d => decide (d < a0.tmps.size))) = true)
    (hsafe : (tab.all Want.safe && D.all (·.want.safe) && F.all (·.2.safe)) = true) (hDn : (D.all fun x => decide (x.at_ < ops.size) && (match x.al with | none => true | some i => match ops[x.at_]? with | some o => waitsOn o i && decide (i < ops.size) | none => false)) = true)
    (hD : D.Pairwise fun x y => (x.al = none → y.al = none → x.blk ≠ y.blk) ∧ x.at_ ≠ y.at_ ∧ (x.al ≠ none → x.al ≠ y.al))
    (hF : ∀ f ∈ F, Means w0 f.2 f.1) (hold : ∀ x ∈ D, x.al = none → BoxHas w0 x.blk x.kind x.old ∧ BoxFree w0 x.blk x.kind ∧ x.blk < w0.heap.size)
    (hok : AllTold P ops tab D F a0 w0 (List.range ops.size))
    (hend : ∀ (β : Nat → Nat) (f : Nat → Value) (w : World), (∀ p ∈ T.zip slots, Means w (tab.getD p.1 .any) (f p.2)) → (∀ x ∈ D, Says w (x.bk β) x.kind x.want ∧ BoxFree w (x.bk β) x.kind) → (∀ f ∈ F, Means w f.2 f.1) → Away (oldBlocks D) w0 w →
      (∀ x ∈ D, ∀ p ∈ T.zip slots, x.al = some p.1 → f p.2 = .pointer (some ⟨x.bk β, 0, none⟩)) → (∀ x ∈ D, x.al ≠ none → w0.heap.size ≤ x.bk β) → (∀ x ∈ D, x.bk β < w.heap.size) → (∀ x ∈ D, ∀ y ∈ D, x.at_ ≠ y.at_ → x.bk β ≠ y.bk β) →
      Q .normal { tmps := fillSlots f slots a0.tmps, defers := a0.defers } w) :
    (Code.region id ops dr).wp P Q a0 w0 := by
  simp only [Bool.and_eq_true, List.all_eq_true, decide_eq_true_eq] at hnd hsafe hDn
  obtain ⟨⟨hst, hsd⟩, hsf⟩ := hsafe
  have htab : ∀ j, (tab.getD j .any).safe = true := by
    intro j
    rw [List.getD_eq_getElem?_getD]
    cases h : tab[j]? with
    | none => rfl
    | some x => exact hst x (List.mem_of_getElem? h)
  have hlen : T.length = slots.length := by simpa using congrArg List.length hs
  have hget : ∀ k (hk : k < T.length), dstOf ops T[k] = some (slots[k]'(by omega)) := by
    intro k hk
    have h1 : (T.map (dstOf ops))[k]? = (slots.map some)[k]? := by rw [hs]
    rw [List.getElem?_map, List.getElem?_map, List.getElem?_eq_getElem hk, List.getElem?_eq_getElem (by omega : k < slots.length)] at h1
    simpa using h1
  have hdl : ∀ j d, dstOf ops j = some d → j < ops.size := by
    intro j d hd
    unfold dstOf at hd
    cases ho : ops[j]? with
    | none => rw [ho] at hd; cases hd
    | some o => exact (Array.getElem?_eq_some_iff.1 ho).1
  have hdT : ∀ j d, dstOf ops j = some d → ∃ k, ∃ hk : k < T.length, T[k] = j ∧ slots[k]'(by omega) = d := by
    intro j d hd
    have h1 := List.all_eq_true.1 hT j (List.mem_range.2 (hdl j d hd))
    rw [Bool.or_eq_true, hd] at h1
    rcases h1 with h1 | h1
    · have h2 : j ∈ T := by simpa using h1
      obtain ⟨k, hk, rfl⟩ := List.mem_iff_getElem.1 h2
      refine ⟨k, hk, rfl, ?_⟩
      have := hget k hk
      rw [hd] at this
      exact (Option.some.inj this).symm
    · cases h1
  have hinj : ∀ i j d, dstOf ops i = some d → dstOf ops j = some d → i = j := by
    intro i j d h1 h2
    obtain ⟨k, hk, rfl, e1⟩ := hdT i d h1
    obtain ⟨l, hl, rfl, e2⟩ := hdT j d h2
    have : k = l := (List.getElem_inj hnd.1).1 (e1.trans e2.symm)
    subst this
    rfl
  have hlt : ∀ j d, dstOf ops j = some d → d < a0.tmps.size := by
    intro j d h
    obtain ⟨k, hk, _, rfl⟩ := hdT j d h
    exact hnd.2 _ (List.getElem_mem _)
  have hDb : ∀ x ∈ D, ∀ y ∈ D, x.at_ ≠ y.at_ → (x.al = none → y.al = none → x.blk ≠ y.blk) ∧ (x.al ≠ none → x.al ≠ y.al) := by
    intro x hx y hy hne
    obtain ⟨i, hi, rfl⟩ := List.mem_iff_getElem.1 hx
    obtain ⟨j, hj, rfl⟩ := List.mem_iff_getElem.1 hy
    rcases Nat.lt_trichotomy i j with h | h | h
    · have := List.pairwise_iff_getElem.1 hD i j hi hj h; exact ⟨this.1, this.2.2⟩
    · subst h; exact absurd rfl hne
    · have := List.pairwise_iff_getElem.1 hD j i hj hi h
      exact ⟨fun h1 h2 e => this.1 h2 h1 e.symm, fun h1 e => this.2.2 (by rw [← e]; exact h1) e.symm⟩
  have hDa : ∀ x ∈ D, ∀ y ∈ D, x.at_ = y.at_ → x = y := by
    intro x hx y hy he
    obtain ⟨i, hi, rfl⟩ := List.mem_iff_getElem.1 hx
    obtain ⟨j, hj, rfl⟩ := List.mem_iff_getElem.1 hy
    rcases Nat.lt_trichotomy i j with h | h | h
    · exact absurd he (List.pairwise_iff_getElem.1 hD i j hi hj h).2.1
    · subst h; rfl
    · exact absurd he.symm (List.pairwise_iff_getElem.1 hD j i hj hi h).2.1
  have hf0 : ∀ i, (Array.replicate ops.size false).getD i false = false := by
    intro i
    rw [Array.getD_eq_getD_getElem?, Array.getElem?_replicate]
    split <;> rfl
  have hlive0 : ∀ x : DBox, x.live (Array.replicate ops.size false) → x.al = none := by
    intro x hx
    cases h : x.al with
    | none => rfl
    | some j => have := hx j h; rw [hf0] at this; cases this
  refine region_inv2 (I := fun X a w => ∃ β, Told ops tab D F a0 w0 β X a w) hm hb ?_ ?_ ?_
  · intro w1 hw1
    have hb1 : Below w0.heap.size w0 w1 := by
      rcases hw1 with rfl | rfl
      · exact Below.refl _ _
      · exact (Below.refl _ _).drew
    have hA1 : Away (oldBlocks D) w0 w1 := by
      rcases hw1 with rfl | rfl
      · exact ⟨rfl, rfl, rfl, Nat.le_refl _, fun _ _ _ => rfl⟩
      · exact Away.drew _ _
    refine ⟨fun _ => 0, rfl, rfl, fun _ _ => rfl, fun j d hx _ => (by rw [hf0] at hx; cases hx), fun x _ j d _ hx _ => (by rw [hf0] at hx; cases hx), fun x hx hl => ?_, fun x hx hl _ => ?_, fun x _ _ hx2 => (by rw [hf0] at hx2; cases hx2), fun x hx hl => ?_, fun x hx hl hn => absurd (hlive0 x hl) hn, fun x hx y hy hl hl2 hne => ?_, fun f hf => (hF f hf).mono hb1, hA1⟩
    · have hn := hlive0 x hl
      obtain ⟨h1, h2, _⟩ := hold x hx hn
      have e : x.bk (fun _ => 0) = x.blk := by unfold DBox.bk; rw [hn]
      rw [e]; exact h2.mono h1 hb1
    · have hn := hlive0 x hl
      have e : x.bk (fun _ => 0) = x.blk := by unfold DBox.bk; rw [hn]
      rw [e]; exact (hold x hx hn).1.mono hb1
    · have hn := hlive0 x hl
      have e : x.bk (fun _ => 0) = x.blk := by unfold DBox.bk; rw [hn]
      rw [e]; exact Nat.lt_of_lt_of_le (hold x hx hn).2.2 hb1.size
    · have h1 := hlive0 x hl; have h2 := hlive0 y hl2
      have e1 : x.bk (fun _ => 0) = x.blk := by unfold DBox.bk; rw [h1]
      have e2 : y.bk (fun _ => 0) = y.blk := by unfold DBox.bk; rw [h2]
      rw [e1, e2]; exact (hDb x hx y hy hne).1 h1 h2
  · rintro i o ho X a w hXs hxi hd hsh ⟨β, hI⟩
    obtain ⟨o', ho', hO⟩ := hok.get _ i (List.mem_range.2 (Array.getElem?_eq_some_iff.1 ho).1)
    rw [ho] at ho'
    injection ho' with ho'
    subst ho'
    have hwo : ∀ j, waitsOn o j = true → X.getD j false = true := by
      intro j hj
      obtain ⟨k, hk, he⟩ := Array.any_eq_true.1 hj
      simp only [Bool.and_eq_true, beq_iff_eq] at he
      rw [← he.1]
      exact hd _ (by simp) he.2
    have hlv : ∀ x : DBox, x.liveAt o = true → x.live X := by
      intro x hx j hj
      unfold DBox.liveAt at hx
      rw [hj] at hx
      exact hwo j hx
    have hk := hO β a.eval w hI.away hI.nums (fun _ => rfl) (fun _ => rfl)
      (fun t ht => by
        simp only [Act.eval, Array.getD_eq_getD_getElem?]
        rw [hI.other t]
        intro j hj e
        have h1 := List.all_eq_true.1 ht j (List.mem_range.2 (hdl j t e))
        rw [e, Bool.or_eq_true] at h1
        rcases h1 with h1 | h1
        · simp at h1
        · rw [not_yet hsh hxi h1] at hj; cases hj)
      (fun j d hj hd' => hI.vals j d (hwo j hj) hd')
      (fun x hx j d hj hj2 hd' => hI.ptr x hx j d hj (hwo j hj2) hd')
      (fun x hx hl hn => ⟨hI.old x hx (hlv x hl) (not_yet hsh hxi hn), hI.free x hx (hlv x hl)⟩)
      (fun x hx hl hn => hI.new x hx (hlv x hl) (hwo _ hn))
    have hil : i < X.size := by rw [hXs]; exact (Array.getElem?_eq_some_iff.1 ho).1
    have hdo : dstOf ops i = o.dst := by unfold dstOf; rw [ho]; rfl
    have hXi : ∀ j, X.getD j false = true → (X.setIfInBounds i true).getD j false = true := fun j hj => by rw [getD_set_bool _ _ _ hil]; split <;> first | rfl | exact hj
    have hother : ∀ v t, (∀ j, (X.setIfInBounds i true).getD j false = true → dstOf ops j ≠ some t) → (a.put o.dst v).tmps[t]? = a0.tmps[t]? := by
      intro v t ht
      have h1 : o.dst ≠ some t := by rw [← hdo]; exact ht i (by rw [getD_set_bool _ _ _ hil, if_pos rfl])
      rw [← hI.other t (fun j hj => ht j (hXi j hj))]
      cases h : o.dst with
      | none => rfl
      | some d =>
        simp only [Act.put]
        rw [Array.getElem?_setIfInBounds_ne (fun e => h1 (by rw [h, e]))]
    have hsame : ∀ v j d, j ≠ i → dstOf ops j = some d → (a.put o.dst v).tmps.getD d undef = a.tmps.getD d undef := by
      intro v j d hji hd'
      cases h : o.dst with
      | none => rfl
      | some d' =>
        have hne : d' ≠ d := fun e => hji (hinj j i d hd' (by rw [hdo, h, e]))
        simp only [Act.put]
        rw [Array.getD_eq_getD_getElem?, Array.getElem?_setIfInBounds_ne hne, ← Array.getD_eq_getD_getElem?]
    have hself : ∀ v d, dstOf ops i = some d → (a.put o.dst v).tmps.getD d undef = v := by
      intro v d hd'
      rw [hdo] at hd'
      rw [hd']
      simp only [Act.put]
      rw [Array.getD_eq_getD_getElem?, Array.getElem?_setIfInBounds_self_of_lt (by rw [hI.size]; exact hlt _ _ (hdo.trans hd'))]
      rfl
    have hpd : ∀ v, (a.put o.dst v).defers = a0.defers := fun v => by cases o.dst <;> exact hI.defers
    have hps : ∀ v, (a.put o.dst v).tmps.size = a0.tmps.size := fun v => by cases h : o.dst <;> simpa [Act.put] using hI.size
    have hback : ∀ j, j ≠ i → (X.setIfInBounds i true).getD j false = true → X.getD j false = true := fun j hj h => by rw [getD_set_bool _ _ _ hil, if_neg hj] at h; exact h
    have below : ∀ v w', (D.all fun x => x.at_ != i && x.al != some i) = true → Means w' (tab.getD i .any) v → Below w.heap.size w w' → ∃ β, Told ops tab D F a0 w0 β (X.setIfInBounds i true) (a.put o.dst v) w' := by
      intro v w' hni hv hbw
      have hn1 : ∀ x ∈ D, x.at_ ≠ i := fun x hx => by have := List.all_eq_true.1 hni x hx; simp only [Bool.and_eq_true, bne_iff_ne] at this; exact this.1
      have hn2 : ∀ x ∈ D, x.al ≠ some i := fun x hx => by have := List.all_eq_true.1 hni x hx; simp only [Bool.and_eq_true, bne_iff_ne] at this; exact this.2
      have hlb : ∀ x ∈ D, x.live (X.setIfInBounds i true) → x.live X := fun x hx hl j hj => hback j (fun e => hn2 x hx (by rw [hj, e])) (hl j hj)
      refine ⟨β, hpd v, hps v, hother v, ?_, ?_, fun x hx hl => ?_, fun x hx hl hx2 => ?_, fun x hx hl hx2 => ?_, fun x hx hl => Nat.lt_of_lt_of_le (hI.lt x hx (hlb x hx hl)) hbw.size, fun x hx hl => hI.low x hx (hlb x hx hl), fun x hx y hy hl hl2 => hI.apart x hx y hy (hlb x hx hl) (hlb y hy hl2), fun f hf => (hI.nums f hf).mono hbw, hI.away.step hbw⟩
      · intro j d hj hd'
        by_cases hji : j = i
        · subst hji; rw [hself v d hd']; exact hv
        · rw [hsame v j d hji hd']; exact (hI.vals j d (hback j hji hj) hd').mono hbw
      · intro x hx j d hal hj hd'
        have hji : j ≠ i := fun e => hn2 x hx (by rw [hal, e])
        rw [hsame v j d hji hd']; exact hI.ptr x hx j d hal (hback j hji hj) hd'
      · have hl' := hlb x hx hl
        cases hxx : X.getD x.at_ false with
        | false => exact (hI.free x hx hl').mono (hI.old x hx hl' hxx) hbw
        | true => obtain ⟨u, h1, _⟩ := hI.new x hx hl' hxx; exact (hI.free x hx hl').mono h1 hbw
      · rw [getD_set_bool _ _ _ hil, if_neg (hn1 x hx)] at hx2
        exact (hI.old x hx (hlb x hx hl) hx2).mono hbw
      · rw [getD_set_bool _ _ _ hil, if_neg (hn1 x hx)] at hx2
        obtain ⟨u, h1, h2⟩ := hI.new x hx (hlb x hx hl) hx2
        exact ⟨u, h1.mono hbw, h2.mono hbw⟩
    rcases hk with ⟨hw, hni, hdo'⟩ | ⟨hw, x, hx, hxa, hnal, hdn, hdo'⟩ | ⟨hw, hnat, hany, x, hx, hxal, hdo'⟩ | ⟨hw, hni, hany⟩
    · exact Or.inl ⟨hw, hdo'.wp fun v w' hv => below v w' hni hv.1 hv.2⟩
    · refine Or.inl ⟨hw, hdo'.wp fun u w' hv => ?_⟩
      obtain ⟨v, hst', hmv⟩ := hv
      subst hxa
      have hn2 : ∀ y ∈ D, y.al ≠ some x.at_ := fun y hy => by have := List.all_eq_true.1 hnal y hy; simpa only [bne_iff_ne] using this
      have hlb : ∀ y ∈ D, y.live (X.setIfInBounds x.at_ true) → y.live X := fun y hy hl j hj => hback j (fun e => hn2 y hy (by rw [hj, e])) (hl j hj)
      have hlx : x.live X := by
        intro j hj
        have := (hDn x hx).2
        rw [hj, ho] at this
        simp only [Bool.and_eq_true] at this
        exact hwo j this.1
      have hbx := hI.old x hx hlx hxi
      rw [hdn]
      have hput : a.put none u = a := rfl
      rw [hput]
      refine ⟨β, hI.defers, hI.size, ?_, ?_, ?_, fun y hy hl => ?_, fun y hy hl hy2 => ?_, fun y hy hl hy2 => ?_, fun y hy hl => ?_, fun y hy hl => hI.low y hy (hlb y hy hl), fun y hy z hz hl hl2 => hI.apart y hy z hz (hlb y hy hl) (hlb z hz hl2), fun f hf => (hI.nums f hf).stored (hsf f hf) hbx hst', hI.away.stored hst' ?_⟩
      · intro t ht
        exact hI.other t fun j hj => ht j (hXi j hj)
      · intro j d hj hd'
        have hji : j ≠ x.at_ := fun e => by subst e; rw [hdo, hdn] at hd'; cases hd'
        exact (hI.vals j d (hback j hji hj) hd').stored (htab j) hbx hst'
      · intro y hy j d hal hj hd'
        have hji : j ≠ x.at_ := fun e => by subst e; rw [hdo, hdn] at hd'; cases hd'
        exact hI.ptr y hy j d hal (hback j hji hj) hd'
      · intro o ho'
        rw [hst'.frozen]; exact hI.free y hy (hlb y hy hl) o ho'
      · rw [getD_set_bool _ _ _ hil] at hy2
        by_cases hya : y.at_ = x.at_
        · rw [if_pos hya] at hy2; cases hy2
        · rw [if_neg hya] at hy2
          exact (hI.old y hy (hlb y hy hl) hy2).stored hst' (hI.apart y hy x hx (hlb y hy hl) hlx hya)
      · by_cases hya : y.at_ = x.at_
        · have := hDa y hy x hx hya
          subst this
          exact ⟨v, hst'.has hbx, hmv.stored (hsd y hy) hbx hst'⟩
        · rw [getD_set_bool _ _ _ hil, if_neg hya] at hy2
          obtain ⟨u2, h1, h2⟩ := hI.new y hy (hlb y hy hl) hy2
          exact ⟨u2, h1.stored hst' (hI.apart y hy x hx (hlb y hy hl) hlx hya), h2.stored (hsd y hy) hbx hst'⟩
      · obtain ⟨cs, _, _, rfl⟩ := hst'
        rw [(setAll_rest (b := x.bk β) w 0 cs).2.2.2]; exact hI.lt y hy (hlb y hy hl)
      · cases hal : x.al with
        | none =>
          left
          have e : x.bk β = x.blk := by unfold DBox.bk; rw [hal]
          rw [e]; exact mem_oldBlocks hx hal
        | some j => exact Or.inr (hI.low x hx hlx (by rw [hal]; intro e; cases e))
    · refine Or.inl ⟨hw, hdo'.wp fun v w' hv => ?_⟩
      obtain ⟨rfl, hbw, hsz, hbox, hfree⟩ := hv
      have hn1 : ∀ y ∈ D, y.at_ ≠ i := fun y hy => by have := List.all_eq_true.1 hnat y hy; simpa only [bne_iff_ne] using this
      have hnx : ¬ x.live X := fun h => by rw [h i hxal] at hxi; cases hxi
      have hwx : X.getD x.at_ false = false := by
        cases h : X.getD x.at_ false with
        | false => rfl
        | true =>
          exfalso
          have := (hDn x hx)
          rw [hxal] at this
          cases ho2 : ops[x.at_]? with
          | none => rw [ho2] at this; simp at this
          | some o2 =>
            rw [ho2] at this
            simp only [Bool.and_eq_true] at this
            obtain ⟨k, hk, he⟩ := Array.any_eq_true.1 this.2.1
            simp only [Bool.and_eq_true, beq_iff_eq] at he
            have h3 := hsh _ o2 ho2 h o2.after[k] (by simp) he.2
            rw [he.1, hxi] at h3
            cases h3
      let β' : Nat → Nat := fun n => if n = x.at_ then w.heap.size else β n
      have hbx : x.bk β' = w.heap.size := by unfold DBox.bk; rw [hxal]; simp [β']
      have hby : ∀ y ∈ D, y.at_ ≠ x.at_ → y.bk β' = y.bk β := by
        intro y hy hne
        unfold DBox.bk
        cases y.al with
        | none => rfl
        | some j => simp [β', hne]
      have hlb : ∀ y ∈ D, y.at_ ≠ x.at_ → y.live (X.setIfInBounds i true) → y.live X := fun y hy hne hl j hj =>
        hback j (fun e => (hDb x hx y hy (fun h => hne h.symm)).2 (by rw [hxal]; intro h; cases h) (by rw [hxal, hj, e])) (hl j hj)
      have hxy : ∀ y ∈ D, y.at_ = x.at_ → y = x := fun y hy h => hDa y hy x hx h
      refine ⟨β', hpd _, hps _, hother _, ?_, ?_, fun y hy hl => ?_, fun y hy hl hy2 => ?_, fun y hy hl hy2 => ?_, fun y hy hl => ?_, fun y hy hl hnn => ?_, fun y hy z hz hl hl2 hne => ?_, fun f hf => (hI.nums f hf).mono hbw, hI.away.step hbw⟩
      · intro j d hj hd'
        by_cases hji : j = i
        · subst hji; rw [hany]; trivial
        · rw [hsame _ j d hji hd']; exact (hI.vals j d (hback j hji hj) hd').mono hbw
      · intro y hy j d hal hj hd'
        by_cases hji : j = i
        · subst hji
          rw [hself _ d hd']
          by_cases hyx : y.at_ = x.at_
          · rw [hxy y hy hyx, hbx]
          · exact absurd (hxal.trans hal.symm) ((hDb x hx y hy (fun h => hyx h.symm)).2 (by rw [hxal]; intro h; cases h))
        · have hyx : y.at_ ≠ x.at_ := fun h => hji (by have := hxy y hy h; subst this; rw [hxal] at hal; exact (Option.some.inj hal).symm)
          rw [hsame _ j d hji hd', hby y hy hyx]; exact hI.ptr y hy j d hal (hback j hji hj) hd'
      · by_cases hyx : y.at_ = x.at_
        · rw [hxy y hy hyx, hbx]; exact hfree
        · have hl' := hlb y hy hyx hl
          rw [hby y hy hyx]
          cases hxx : X.getD y.at_ false with
          | false => exact (hI.free y hy hl').mono (hI.old y hy hl' hxx) hbw
          | true => obtain ⟨u, h1, _⟩ := hI.new y hy hl' hxx; exact (hI.free y hy hl').mono h1 hbw
      · by_cases hyx : y.at_ = x.at_
        · rw [hxy y hy hyx, hbx]; exact hbox
        · rw [hby y hy hyx]
          rw [getD_set_bool _ _ _ hil, if_neg (hn1 y hy)] at hy2
          exact (hI.old y hy (hlb y hy hyx hl) hy2).mono hbw
      · rw [getD_set_bool _ _ _ hil, if_neg (hn1 y hy)] at hy2
        by_cases hyx : y.at_ = x.at_
        · rw [hxy y hy hyx, hwx] at hy2; cases hy2
        · rw [hby y hy hyx]
          obtain ⟨u, h1, h2⟩ := hI.new y hy (hlb y hy hyx hl) hy2
          exact ⟨u, h1.mono hbw, h2.mono hbw⟩
      · by_cases hyx : y.at_ = x.at_
        · rw [hxy y hy hyx, hbx]; exact hsz
        · rw [hby y hy hyx]; exact Nat.lt_of_lt_of_le (hI.lt y hy (hlb y hy hyx hl)) hbw.size
      · by_cases hyx : y.at_ = x.at_
        · rw [hxy y hy hyx, hbx]; exact hI.away.size
        · rw [hby y hy hyx]; exact hI.low y hy (hlb y hy hyx hl) hnn
      · by_cases hyx : y.at_ = x.at_
        · have hzx : z.at_ ≠ x.at_ := fun h => hne (hyx.trans h.symm)
          rw [hxy y hy hyx, hbx, hby z hz hzx]
          have := hI.lt z hz (hlb z hz hzx hl2)
          omega
        · rw [hby y hy hyx]
          by_cases hzx : z.at_ = x.at_
          · rw [hxy z hz hzx, hbx]
            have := hI.lt y hy (hlb y hy hyx hl)
            omega
          · rw [hby z hz hzx]; exact hI.apart y hy z hz (hlb y hy hyx hl) (hlb z hz hzx hl2) hne
    · exact Or.inr ⟨hw, below undef w hni (hany w) (Below.refl _ _)⟩
  · rintro X a w hall ⟨β, hI⟩
    have hXd : ∀ j d, dstOf ops j = some d → X.getD j false = true := fun j d hd => hall j (hdl j d hd)
    have hlive : ∀ x ∈ D, x.live X := by
      intro x hx j hj
      have := (hDn x hx).2
      rw [hj] at this
      cases ho : ops[x.at_]? with
      | none => rw [ho] at this; cases this
      | some o => rw [ho] at this; simp only [Bool.and_eq_true, decide_eq_true_eq] at this; exact hall j this.2
    have ea : a = { tmps := fillSlots (fun d => a.tmps.getD d undef) slots a0.tmps, defers := a0.defers } := by
      have e : a.tmps = fillSlots (fun d => a.tmps.getD d undef) slots a0.tmps := by
        apply Array.ext_getElem?
        intro j
        by_cases hj : j < a0.tmps.size
        · rw [get_fillSlots _ _ _ _ hj]
          split
          · rw [Array.getD_eq_getD_getElem?, Array.getElem?_eq_getElem (by rw [hI.size]; exact hj)]; rfl
          · rename_i hn
            refine hI.other j fun i hi e => hn ?_
            obtain ⟨k, hk, _, rfl⟩ := hdT i j e
            exact List.getElem_mem _
        · rw [Array.getElem?_eq_none (by rw [hI.size]; omega), Array.getElem?_eq_none (by rw [size_fillSlots]; omega)]
      cases a
      simp only at e
      rw [← e, ← hI.defers]
    rw [ea]
    have hzip : ∀ p ∈ T.zip slots, dstOf ops p.1 = some p.2 := by
      intro p hp
      obtain ⟨k, hk, rfl⟩ := List.mem_iff_getElem.1 hp
      rw [List.length_zip] at hk
      rw [List.getElem_zip]
      exact hget k (by omega)
    exact hend β _ w (fun p hp => hI.vals _ _ (hXd _ _ (hzip p hp)) (hzip p hp)) (fun x hx => ⟨hI.new x hx (hlive x hx) (hall _ (hDn x hx).1), hI.free x hx (hlive x hx)⟩) hI.nums hI.away
      (fun x hx p hp hal => hI.ptr x hx p.1 p.2 hal (hXd _ _ (hzip p hp)) (hzip p hp)) (fun x hx => hI.low x hx (hlive x hx)) (fun x hx => hI.lt x hx (hlive x hx)) (fun x hx y hy => hI.apart x hx y hy (hlive x hx) (hlive y hy))
end
theorem Says.int {w : World} {b : Nat} {z : Int} (h : Says w b .int (.int z)) : ∃ g s p l c, w.cell? ⟨b, 0, none⟩ = some (.bool g) ∧ w.cell? ⟨b, 1, none⟩ = some (.int .u64 s) ∧ w.cell? ⟨b, 2, none⟩ = some (.slice p l c) ∧ IsI w g s p l c z := by
  obtain ⟨v, hbx, g', s', p', l', c', he, hI⟩ := h
  obtain ⟨g, s, p, l, c, rfl, h1, h2, h3⟩ := hbx.int
  injection he with he
  simp only [Array.mk.injEq, List.cons.injEq, Value.bool.injEq, Value.int.injEq, Value.slice.injEq, and_true, true_and] at he
  obtain ⟨rfl, rfl, rfl, rfl, rfl⟩ := he
  exact ⟨_, _, _, _, _, h1, h2, h3, hI⟩
theorem Says.nat {w : World} {b n : Nat} (h : Says w b .nat (.num n)) : ∃ s p l c, w.cell? ⟨b, 0, none⟩ = some (.int .u64 s) ∧ w.cell? ⟨b, 1, none⟩ = some (.slice p l c) ∧ IsN w s p l c n := by
  obtain ⟨v, hbx, s', p', l', c', he, hI⟩ := h
  obtain ⟨s, p, l, c, rfl, h2, h3⟩ := hbx.nat
  injection he with he
  simp only [Array.mk.injEq, List.cons.injEq, Value.int.injEq, Value.slice.injEq, and_true, true_and] at he
  obtain ⟨rfl, rfl, rfl, rfl⟩ := he
  exact ⟨_, _, _, _, h2, h3, hI⟩
theorem Says.rint {w : World} {b : Nat} {z : Int} (h : Says w b .rint (.rint z)) : ∃ g p l c, w.cell? ⟨b, 0, none⟩ = some (.bool g) ∧ w.cell? ⟨b, 1, none⟩ = some (.slice p l c) ∧ IsRI w g p l c z := by
  obtain ⟨v, hbx, g', p', l', c', he, hI⟩ := h
  obtain ⟨g, p, l, c, rfl, h2, h3⟩ := hbx.rint
  injection he with he
  simp only [Array.mk.injEq, List.cons.injEq, Value.bool.injEq, Value.slice.injEq, and_true] at he
  obtain ⟨rfl, rfl, rfl, rfl⟩ := he
  exact ⟨_, _, _, _, h2, h3, hI⟩
theorem Means.isN {w : World} {s : Int} {p : Option Addr} {l c n : Nat} (h : Means w (.num n) (.agg #[.int .u64 s, .slice p l c])) : IsN w s p l c n := by
  obtain ⟨s', p', l', c', he, hI⟩ := h
  injection he with he
  simp only [Array.mk.injEq, List.cons.injEq, Value.int.injEq, Value.slice.injEq, and_true, true_and] at he
  obtain ⟨rfl, rfl, rfl, rfl⟩ := he
  exact hI
theorem Means.isI {w : World} {g : Bool} {s : Int} {p : Option Addr} {l c : Nat} {z : Int} (h : Means w (.int z) (.agg #[.bool g, .int .u64 s, .slice p l c])) : IsI w g s p l c z := by
  obtain ⟨g', s', p', l', c', he, hI⟩ := h
  injection he with he
  simp only [Array.mk.injEq, List.cons.injEq, Value.bool.injEq, Value.int.injEq, Value.slice.injEq, and_true, true_and] at he
  obtain ⟨rfl, rfl, rfl, rfl, rfl⟩ := he
  exact hI
theorem Means.isR {w : World} {p : Option Addr} {l c n : Nat} (h : Means w (.rnum n) (.slice p l c)) : IsR w p l c n := by
  obtain ⟨p', l', c', he, hI⟩ := h
  injection he with e1 e2 e3
  subst e1 e2 e3
  exact hI
theorem Means.isRI {w : World} {g : Bool} {p : Option Addr} {l c : Nat} {z : Int} (h : Means w (.rint z) (.agg #[.bool g, .slice p l c])) : IsRI w g p l c z := by
  obtain ⟨g', p', l', c', he, hI⟩ := h
  injection he with he
  simp only [Array.mk.injEq, List.cons.injEq, Value.bool.injEq, Value.slice.injEq, and_true] at he
  obtain ⟨rfl, rfl, rfl, rfl⟩ := he
  exact hI
theorem free3 {w : World} {b : Nat} (h0 : w.frozen? ⟨b, 0, none⟩ = false) (h1 : w.frozen? ⟨b, 1, none⟩ = false) (h2 : w.frozen? ⟨b, 2, none⟩ = false) : BoxFree w b .int := fun o ho => by
  have : o = 0 ∨ o = 1 ∨ o = 2 := by simp only [BK.cells, BK.shape, List.length_cons, List.length_nil] at ho; omega
  rcases this with rfl | rfl | rfl <;> assumption
theorem free2 {w : World} {b : Nat} {k : BK} (h0 : w.frozen? ⟨b, 0, none⟩ = false) (h1 : w.frozen? ⟨b, 1, none⟩ = false) (hk : k.cells = 2) : BoxFree w b k := fun o ho => by
  have : o = 0 ∨ o = 1 := by omega
  rcases this with rfl | rfl <;> assumption
end Go.Proofs.YtfjjmhbffbhhdaaGreatDoor
