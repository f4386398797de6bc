/- A statement whose order of evaluation is open, told operation by operation: what each operation yields is said once, in whatever world it is carried out; what was yielded before stays true, since each step leaves all older memory alone. So the orders need not be gone through. -/
import Derived.Test.YtfjjmhbffbhhdaaNum
import Derived.Orders
import Derived.RegionTactic
namespace Go.Proofs.Ytfjjmhbffbhhdaa
open Go.RowKit

/-- The place of a thing in a list. -/
theorem mb0 {α : Type _} {x0 : α} {l : List α} : x0 ∈ x0 :: l := by simp
theorem mb1 {α : Type _} {x0 x1 : α} {l : List α} : x1 ∈ x0 :: x1 :: l := by simp
theorem mb2 {α : Type _} {x0 x1 x2 : α} {l : List α} : x2 ∈ x0 :: x1 :: x2 :: l := by simp
theorem mb3 {α : Type _} {x0 x1 x2 x3 : α} {l : List α} : x3 ∈ x0 :: x1 :: x2 :: x3 :: l := by simp
theorem mb4 {α : Type _} {x0 x1 x2 x3 x4 : α} {l : List α} : x4 ∈ x0 :: x1 :: x2 :: x3 :: x4 :: l := by simp
theorem mb5 {α : Type _} {x0 x1 x2 x3 x4 x5 : α} {l : List α} : x5 ∈ x0 :: x1 :: x2 :: x3 :: x4 :: x5 :: l := by simp
theorem mb6 {α : Type _} {x0 x1 x2 x3 x4 x5 x6 : α} {l : List α} : x6 ∈ x0 :: x1 :: x2 :: x3 :: x4 :: x5 :: x6 :: l := by simp
theorem mb7 {α : Type _} {x0 x1 x2 x3 x4 x5 x6 x7 : α} {l : List α} : x7 ∈ x0 :: x1 :: x2 :: x3 :: x4 :: x5 :: x6 :: x7 :: l := by simp
theorem mb8 {α : Type _} {x0 x1 x2 x3 x4 x5 x6 x7 x8 : α} {l : List α} : x8 ∈ x0 :: x1 :: x2 :: x3 :: x4 :: x5 :: x6 :: x7 :: x8 :: l := by simp
theorem mb9 {α : Type _} {x0 x1 x2 x3 x4 x5 x6 x7 x8 x9 : α} {l : List α} : x9 ∈ x0 :: x1 :: x2 :: x3 :: x4 :: x5 :: x6 :: x7 :: x8 :: x9 :: l := by simp
theorem mb10 {α : Type _} {x0 x1 x2 x3 x4 x5 x6 x7 x8 x9 x10 : α} {l : List α} : x10 ∈ x0 :: x1 :: x2 :: x3 :: x4 :: x5 :: x6 :: x7 :: x8 :: x9 :: x10 :: l := by simp
theorem mb11 {α : Type _} {x0 x1 x2 x3 x4 x5 x6 x7 x8 x9 x10 x11 : α} {l : List α} : x11 ∈ x0 :: x1 :: x2 :: x3 :: x4 :: x5 :: x6 :: x7 :: x8 :: x9 :: x10 :: x11 :: l := by simp
theorem mb12 {α : Type _} {x0 x1 x2 x3 x4 x5 x6 x7 x8 x9 x10 x11 x12 : α} {l : List α} : x12 ∈ x0 :: x1 :: x2 :: x3 :: x4 :: x5 :: x6 :: x7 :: x8 :: x9 :: x10 :: x11 :: x12 :: l := by simp
theorem mb13 {α : Type _} {x0 x1 x2 x3 x4 x5 x6 x7 x8 x9 x10 x11 x12 x13 : α} {l : List α} : x13 ∈ x0 :: x1 :: x2 :: x3 :: x4 :: x5 :: x6 :: x7 :: x8 :: x9 :: x10 :: x11 :: x12 :: x13 :: l := by simp
theorem mb14 {α : Type _} {x0 x1 x2 x3 x4 x5 x6 x7 x8 x9 x10 x11 x12 x13 x14 : α} {l : List α} : x14 ∈ x0 :: x1 :: x2 :: x3 :: x4 :: x5 :: x6 :: x7 :: x8 :: x9 :: x10 :: x11 :: x12 :: x13 :: x14 :: l := by simp
theorem mb15 {α : Type _} {x0 x1 x2 x3 x4 x5 x6 x7 x8 x9 x10 x11 x12 x13 x14 x15 : α} {l : List α} : x15 ∈ x0 :: x1 :: x2 :: x3 :: x4 :: x5 :: x6 :: x7 :: x8 :: x9 :: x10 :: x11 :: x12 :: x13 :: x14 :: x15 :: l := by simp
theorem mb16 {α : Type _} {x0 x1 x2 x3 x4 x5 x6 x7 x8 x9 x10 x11 x12 x13 x14 x15 x16 : α} {l : List α} : x16 ∈ x0 :: x1 :: x2 :: x3 :: x4 :: x5 :: x6 :: x7 :: x8 :: x9 :: x10 :: x11 :: x12 :: x13 :: x14 :: x15 :: x16 :: l := by simp
theorem mb17 {α : Type _} {x0 x1 x2 x3 x4 x5 x6 x7 x8 x9 x10 x11 x12 x13 x14 x15 x16 x17 : α} {l : List α} : x17 ∈ x0 :: x1 :: x2 :: x3 :: x4 :: x5 :: x6 :: x7 :: x8 :: x9 :: x10 :: x11 :: x12 :: x13 :: x14 :: x15 :: x16 :: x17 :: l := by simp
theorem mb18 {α : Type _} {x0 x1 x2 x3 x4 x5 x6 x7 x8 x9 x10 x11 x12 x13 x14 x15 x16 x17 x18 : α} {l : List α} : x18 ∈ x0 :: x1 :: x2 :: x3 :: x4 :: x5 :: x6 :: x7 :: x8 :: x9 :: x10 :: x11 :: x12 :: x13 :: x14 :: x15 :: x16 :: x17 :: x18 :: l := by simp
theorem mb19 {α : Type _} {x0 x1 x2 x3 x4 x5 x6 x7 x8 x9 x10 x11 x12 x13 x14 x15 x16 x17 x18 x19 : α} {l : List α} : x19 ∈ x0 :: x1 :: x2 :: x3 :: x4 :: x5 :: x6 :: x7 :: x8 :: x9 :: x10 :: x11 :: x12 :: x13 :: x14 :: x15 :: x16 :: x17 :: x18 :: x19 :: l := by simp
theorem mb20 {α : Type _} {x0 x1 x2 x3 x4 x5 x6 x7 x8 x9 x10 x11 x12 x13 x14 x15 x16 x17 x18 x19 x20 : α} {l : List α} : x20 ∈ x0 :: x1 :: x2 :: x3 :: x4 :: x5 :: x6 :: x7 :: x8 :: x9 :: x10 :: x11 :: x12 :: x13 :: x14 :: x15 :: x16 :: x17 :: x18 :: x19 :: x20 :: l := by simp
theorem mb21 {α : Type _} {x0 x1 x2 x3 x4 x5 x6 x7 x8 x9 x10 x11 x12 x13 x14 x15 x16 x17 x18 x19 x20 x21 : α} {l : List α} : x21 ∈ x0 :: x1 :: x2 :: x3 :: x4 :: x5 :: x6 :: x7 :: x8 :: x9 :: x10 :: x11 :: x12 :: x13 :: x14 :: x15 :: x16 :: x17 :: x18 :: x19 :: x20 :: x21 :: l := by simp
theorem mb22 {α : Type _} {x0 x1 x2 x3 x4 x5 x6 x7 x8 x9 x10 x11 x12 x13 x14 x15 x16 x17 x18 x19 x20 x21 x22 : α} {l : List α} : x22 ∈ x0 :: x1 :: x2 :: x3 :: x4 :: x5 :: x6 :: x7 :: x8 :: x9 :: x10 :: x11 :: x12 :: x13 :: x14 :: x15 :: x16 :: x17 :: x18 :: x19 :: x20 :: x21 :: x22 :: l := by simp
theorem mb23 {α : Type _} {x0 x1 x2 x3 x4 x5 x6 x7 x8 x9 x10 x11 x12 x13 x14 x15 x16 x17 x18 x19 x20 x21 x22 x23 : α} {l : List α} : x23 ∈ x0 :: x1 :: x2 :: x3 :: x4 :: x5 :: x6 :: x7 :: x8 :: x9 :: x10 :: x11 :: x12 :: x13 :: x14 :: x15 :: x16 :: x17 :: x18 :: x19 :: x20 :: x21 :: x22 :: x23 :: l := by simp

/-- The slot that an operation writes. -/
def dstOf (ops : Array Oper) (i : Nat) : Option Tmp := (ops[i]?).bind (·.dst)

/-- Carried out in world w, its operands being what E says, the operation yields a value and a world of which R holds. -/
def Does (P : Program) (o : Oper) (E : Operand → Value) (w : World) (R : Value → World → Prop) : Prop :=
  match (execOp E o).run P w with
  | .ok (.value v) w' => R v w'
  | .ok .skip w' => R undef w'
  | .ok (.enter f args) w' => Calls P f args w' fun e w'' => ∃ v, e = .returned v ∧ R v w''
  | _ => False

theorem Does.wp {P : Program} {o : Oper} {a : Act} {w : World} {R : Value → World → Prop} {K : Act → World → Prop} {Q : Exit → Act → World → Prop}
    (h : Does P o a.eval w R) (hK : ∀ v w', R v w' → K (a.put o.dst v) w') : o.wp P a w K Q := by
  unfold Oper.wp
  unfold Does at h
  generalize (execOp a.eval o).run P w = r at *
  cases r with
  | ok n w' =>
    cases n with
    | value v => exact hK _ _ h
    | skip => exact hK _ _ h
    | enter f args =>
      refine Calls.mono h fun e w'' he => ?_
      obtain ⟨v, rfl, hr⟩ := he
      exact hK _ _ hr
    | _ => exact absurd h id
  | halt x w' => exact absurd h id

/-- Does its guard let it by? -/
def wantedE (ops : Array Oper) (o : Oper) (E : Operand → Value) : Bool :=
  match o.guard with
  | none => true
  | some (g, b) =>
    match dstOf ops g with
    | some d => match E (.tmp d) with
      | .bool c => c == b
      | _ => false
    | none => false

theorem wanted_of {ops : Array Oper} {o : Oper} {E : Operand → Value} {g d : Nat} {b : Bool} (hg : o.guard = some (g, b)) (hd : dstOf ops g = some d) (hE : E (.tmp d) = .bool b) : wantedE ops o E = true := by
  unfold wantedE
  rw [hg]
  simp only [hd, hE, beq_self_eq_true]

theorem wanted_not {ops : Array Oper} {o : Oper} {E : Operand → Value} {g d : Nat} {b : Bool} (hg : o.guard = some (g, b)) (hd : dstOf ops g = some d) (hE : E (.tmp d) = .bool (!b)) : wantedE ops o E = false := by
  unfold wantedE
  rw [hg]
  simp only [hd, hE]
  cases b <;> rfl
theorem wanted_undef {ops : Array Oper} {o : Oper} {E : Operand → Value} {g d : Nat} {b : Bool} (hg : o.guard = some (g, b)) (hd : dstOf ops g = some d) (hE : E (.tmp d) = undef) : wantedE ops o E = false := by
  unfold wantedE
  rw [hg]
  simp only [hd, hE]
  rfl

theorem wantedE_eval (ops : Array Oper) (o : Oper) (a : Act) : Region.wanted o (yielded ops a.tmps) = wantedE ops o a.eval := by
  unfold Region.wanted wantedE
  cases o.guard with
  | none => rfl
  | some p =>
    obtain ⟨g, b⟩ := p
    simp only [yielded, dstOf, Act.eval]
    cases hd : (ops[g]?).bind (·.dst) with
    | none => simp
    | some d =>
      simp only [Option.bind_some]
      cases ht : a.tmps[d]? with
      | none =>
        have : a.tmps.getD d undef = undef := by simp [Array.getD_eq_getD_getElem?, ht]
        rw [this]
        rfl
      | some v =>
        have : a.tmps.getD d undef = v := by simp [Array.getD_eq_getD_getElem?, ht]
        rw [this]
        cases v <;> simp

/-- What an operation waits for, as bits. -/
def waitsFor (md : Region.Mode) (o : Oper) : Nat := o.after.foldl (fun s e => if Region.binds md e then s ||| 2 ^ e.on else s) 0
def waitList (md : Region.Mode) (ops : Array Oper) : List Nat := ops.toList.map (waitsFor md)

/-- What may come up, the operations that are done being the bits of m. -/
def readyBits (m : Nat) : Nat → List Nat → List Nat
  | _, [] => []
  | i, d :: ds => if !m.testBit i && (m &&& d) == d then i :: readyBits m (i + 1) ds else readyBits m (i + 1) ds

def addBit (acc : List Nat) (x : Nat) : List Nat := if acc.contains x then acc else x :: acc
def nextBits (deps : List Nat) (ms : List Nat) : List Nat := (ms.flatMap fun m => (readyBits m 0 deps).map fun i => m ||| 2 ^ i).foldl addBit []

theorem mem_addBit (xs acc : List Nat) (x : Nat) (h : x ∈ xs ∨ x ∈ acc) : x ∈ xs.foldl addBit acc := by
  induction xs generalizing acc with
  | nil => exact h.resolve_left (by simp)
  | cons y ys ih =>
    simp only [List.foldl_cons]
    apply ih
    rcases h with h | h
    · rcases List.mem_cons.1 h with rfl | h
      · right; unfold addBit; split
        · rename_i hc; simpa using hc
        · exact List.mem_cons_self ..
      · exact Or.inl h
    · right; unfold addBit; split
      · exact h
      · exact List.mem_cons_of_mem _ h

/-- From these sets on, whatever comes up next is one of T, until L is done. -/
def phaseOk (deps : List Nat) (T L : Nat) : Nat → List Nat → Bool
  | 0, ms => ms.all (· == L)
  | n + 1, ms => ms.all (fun m => !(readyBits m 0 deps).isEmpty && (readyBits m 0 deps).all (T.testBit ·)) && phaseOk deps T L n (nextBits deps ms)

/-- The set as bits. -/
def SameBits (X : Array Bool) (m : Nat) : Prop := ∀ i, X.getD i false = m.testBit i

theorem testBit_waits (md : Region.Mode) (es : List Edge) (s j : Nat) :
    (es.foldl (fun s e => if Region.binds md e then s ||| 2 ^ e.on else s) s).testBit j = (s.testBit j || es.any fun e => e.on == j && Region.binds md e) := by
  induction es generalizing s with
  | nil => simp
  | cons e es ih =>
    simp only [List.foldl_cons, List.any_cons]
    rw [ih]
    cases Region.binds md e with
    | true =>
      simp only [if_true, Nat.testBit_or, Nat.testBit_two_pow, Bool.and_true]
      rw [Bool.or_assoc]
      congr 2
    | false => simp

theorem and_eq_iff (m d : Nat) : ((m &&& d) == d) = true ↔ ∀ j, d.testBit j = true → m.testBit j = true := by
  rw [beq_iff_eq]
  constructor
  · intro h j hj
    have : (m &&& d).testBit j = d.testBit j := by rw [h]
    rw [Nat.testBit_and, hj, Bool.and_true] at this
    exact this
  · intro h
    apply Nat.eq_of_testBit_eq
    intro j
    rw [Nat.testBit_and]
    cases hd : d.testBit j with
    | false => simp
    | true => rw [h j hd]; rfl

theorem mem_readyBits (m : Nat) (ds : List Nat) (k i : Nat) : i ∈ readyBits m k ds ↔ ∃ d, k ≤ i ∧ ds[i - k]? = some d ∧ m.testBit i = false ∧ ((m &&& d) == d) = true := by
  induction ds generalizing k with
  | nil => simp [readyBits]
  | cons x xs ih =>
    have hstep : (∃ d, k ≤ i ∧ (x :: xs)[i - k]? = some d ∧ m.testBit i = false ∧ ((m &&& d) == d) = true) ↔
        (i = k ∧ m.testBit i = false ∧ ((m &&& x) == x) = true) ∨ (∃ d, k + 1 ≤ i ∧ xs[i - (k + 1)]? = some d ∧ m.testBit i = false ∧ ((m &&& d) == d) = true) := by
      constructor
      · rintro ⟨d, h1, h2, h3, h4⟩
        by_cases e : i = k
        · subst e
          rw [Nat.sub_self] at h2
          simp only [List.getElem?_cons_zero, Option.some.injEq] at h2
          subst h2
          exact Or.inl ⟨rfl, h3, h4⟩
        · right
          refine ⟨d, by omega, ?_, h3, h4⟩
          rw [show i - k = (i - (k + 1)) + 1 from by omega, List.getElem?_cons_succ] at h2
          exact h2
      · rintro (⟨rfl, h3, h4⟩ | ⟨d, h1, h2, h3, h4⟩)
        · exact ⟨x, Nat.le_refl _, by simp, h3, h4⟩
        · refine ⟨d, by omega, ?_, h3, h4⟩
          rw [show i - k = (i - (k + 1)) + 1 from by omega, List.getElem?_cons_succ]
          exact h2
    rw [hstep, readyBits]
    split
    · rename_i hc
      simp only [Bool.and_eq_true, Bool.not_eq_true'] at hc
      rw [List.mem_cons, ih]
      constructor
      · rintro (rfl | h)
        · exact Or.inl ⟨rfl, hc.1, hc.2⟩
        · exact Or.inr h
      · rintro (⟨rfl, _⟩ | h)
        · exact Or.inl rfl
        · exact Or.inr h
    · rename_i hc
      rw [ih]
      constructor
      · exact Or.inr
      · rintro (⟨rfl, h3, h4⟩ | h)
        · exfalso; apply hc; simp [h3, h4]
        · exact h

theorem ready_bits {md : Region.Mode} {ops : Array Oper} {X : Array Bool} {m : Nat} (hX : SameBits X m) (hs : X.size = ops.size) (i : Nat) :
    i ∈ Region.ready md ops X ↔ i ∈ readyBits m 0 (waitList md ops) := by
  rw [mem_readyBits]
  simp only [Region.ready, List.mem_filter, List.mem_range, Bool.and_eq_true, Bool.not_eq_true', Nat.sub_zero, Nat.zero_le, true_and]
  unfold waitList
  constructor
  · rintro ⟨h1, h2, h3⟩
    have ho : ops[i]? = some ops[i] := Array.getElem?_eq_getElem h1
    rw [ho] at h3
    simp only [Option.map_some, Option.getD_some] at h3
    refine ⟨waitsFor md ops[i], by simp [h1], ?_, (and_eq_iff _ _).2 fun j hj => ?_⟩
    · rw [← hX i]
      rw [Array.getD_eq_getD_getElem?, Array.getElem?_eq_getElem (by omega)] at h2 ⊢
      exact h2
    · unfold waitsFor at hj
      rw [← Array.foldl_toList, testBit_waits] at hj
      simp only [Nat.zero_testBit, Bool.false_or] at hj
      obtain ⟨e, he, hej⟩ := List.any_eq_true.1 hj
      simp only [Bool.and_eq_true, beq_iff_eq] at hej
      obtain ⟨k, hk, rfl⟩ := List.mem_iff_getElem.1 he
      have := Array.all_eq_true.1 h3 k (by simpa using hk)
      simp only [Array.getElem_toList] at hej
      simp only [hej.2, Bool.not_true, Bool.false_or] at this
      rw [← hej.1, ← hX]; exact this
  · rintro ⟨d, h1, h2, h3⟩
    obtain ⟨h4, h5⟩ := List.getElem?_eq_some_iff.1 h1
    have h4' : i < ops.size := by simpa using h4
    have ho : ops[i]? = some ops[i] := Array.getElem?_eq_getElem h4'
    refine ⟨h4', ?_, ?_⟩
    · rw [← hX i] at h2
      rw [Array.getD_eq_getD_getElem?, Array.getElem?_eq_getElem (by omega)] at h2 ⊢
      exact h2
    · rw [ho]
      simp only [Option.map_some, Option.getD_some]
      apply Array.all_eq_true.2
      intro k hk
      have hd : d = waitsFor md ops[i] := by rw [← h5]; simp
      have := (and_eq_iff _ _).1 h3 (ops[i].after[k]).on
      by_cases hb : Region.binds md ops[i].after[k] = true
      · simp only [hb, Bool.not_true, Bool.false_or]
        rw [hX]
        apply this
        rw [hd]
        unfold waitsFor
        rw [← Array.foldl_toList, testBit_waits]
        simp only [Nat.zero_testBit, Bool.false_or]
        refine List.any_eq_true.2 ⟨ops[i].after[k], by simp, by simp [hb]⟩
      · simp [hb]

theorem SameBits.set {X : Array Bool} {m i : Nat} (h : SameBits X m) (hi : i < X.size) : SameBits (X.setIfInBounds i true) (m ||| 2 ^ i) := by
  intro j
  rw [Nat.testBit_or, Nat.testBit_two_pow]
  by_cases e : i = j
  · subst e
    rw [Array.getD_eq_getD_getElem?, Array.getElem?_setIfInBounds_self_of_lt hi]
    simp
  · rw [Array.getD_eq_getD_getElem?, Array.getElem?_setIfInBounds_ne e, ← Array.getD_eq_getD_getElem?, h j]
    simp [e]

section
variable {P : Program} {md : Region.Mode} {ops : Array Oper} {T : List Nat} {V : Nat → Value → World → Prop} {a0 : Act} {w0 : World} {Q : Exit → Act → World → Prop}

structure Inv (ops : Array Oper) (T : List Nat) (V : Nat → Value → World → Prop) (a0 : Act) (w0 : World) (X : Array Bool) (a : Act) (w : World) : Prop where
  defers : a.defers = a0.defers
  size : a.tmps.size = a0.tmps.size
  other : ∀ t, (∀ j ∈ T, dstOf ops j ≠ some t) → a.tmps[t]? = a0.tmps[t]?
  vals : ∀ j ∈ T, X.getD j false = true → ∀ d, dstOf ops j = some d → V j (a.tmps.getD d undef) w
  below : Below w0.heap.size w0 w

/-- What is to be shown of operation number i. -/
def OpOk (P : Program) (md : Region.Mode) (ops : Array Oper) (T : List Nat) (V : Nat → Value → World → Prop) (a0 : Act) (w0 : World) (i : Nat) : Prop :=
  ∀ o, ops[i]? = some o → ∀ (E : Operand → Value) (w : World), Below w0.heap.size w0 w →
    (∀ x, (∀ j ∈ T, ∀ d, dstOf ops j = some d → x ≠ .tmp d) → E x = a0.eval x) →
    (∀ j ∈ T, (o.after.any fun e => e.on == j && Region.binds md e) = true → ∀ d, dstOf ops j = some d → V j (E (.tmp d)) w) →
    (wantedE ops o E = true ∧ Does P o E w fun v w' => V i v w' ∧ Below w.heap.size w w') ∨ (wantedE ops o E = false ∧ V i undef w)

theorem Inv.put {X : Array Bool} {a : Act} {w w' : World} {i d : Nat} {v : Value} (h : Inv ops T V a0 w0 X a w)
    (hstable : ∀ i v w w', Below w.heap.size w w' → V i v w → V i v w') (hi : i ∈ T) (hd : dstOf ops i = some d) (hdl : d < a0.tmps.size)
    (hinj : ∀ j ∈ T, j ≠ i → dstOf ops j ≠ some d) (hv : V i v w') (hb : Below w.heap.size w w') :
    Inv ops T V a0 w0 (X.setIfInBounds i true) (a.put (some d) v) w' := by
  refine ⟨h.defers, by simpa [Act.put] using h.size, fun t ht => ?_, fun j hj hx d' hd' => ?_, ?_⟩
  · have hne : d ≠ t := fun e => ht i hi (by rw [hd, e])
    simp only [Act.put]
    rw [Array.getElem?_setIfInBounds_ne hne]
    exact h.other t ht
  · by_cases e : j = i
    · subst e
      rw [hd] at hd'
      injection hd' with hd'
      subst hd'
      have : (a.put (some d) v).tmps.getD d undef = v := by
        simp only [Act.put]
        rw [Array.getD_eq_getD_getElem?, Array.getElem?_setIfInBounds_self_of_lt (by rw [h.size]; exact hdl)]
        rfl
      rw [this]; exact hv
    · have hne : d ≠ d' := fun e' => hinj j hj e (by rw [hd', e'])
      have : (a.put (some d) v).tmps.getD d' undef = a.tmps.getD d' undef := by
        simp only [Act.put]
        rw [Array.getD_eq_getD_getElem?, Array.getElem?_setIfInBounds_ne hne, ← Array.getD_eq_getD_getElem?]
      rw [this]
      refine hstable j _ w w' hb (h.vals j hj ?_ d' hd')
      have hne2 : i ≠ j := fun e' => e e'.symm
      rw [Array.getD_eq_getD_getElem?, Array.getElem?_setIfInBounds_ne hne2, ← Array.getD_eq_getD_getElem?] at hx
      exact hx
  · exact h.below.trans (hb.mono h.below.size)

theorem phase_run (hstable : ∀ i v w w', Below w.heap.size w w' → V i v w → V i v w') (hok : ∀ i ∈ T, OpOk P md ops T V a0 w0 i)
    (hdst : ∀ i ∈ T, ∃ d, dstOf ops i = some d ∧ d < a0.tmps.size) (hinj : ∀ i ∈ T, ∀ j ∈ T, j ≠ i → dstOf ops j ≠ dstOf ops i) (L : Array Bool) (fuel : Nat)
    {deps : List Nat} {Tm Lm : Nat} (hdeps : waitList md ops = deps) (hTm : ∀ i, Tm.testBit i = true → i ∈ T) (hLs : L.size = ops.size) (hLm : SameBits L Lm)
    (rest : ∀ a w, Inv ops T V a0 w0 L a w → wpAny P md ops Q fuel L a w) :
    ∀ n ms, phaseOk deps Tm Lm n ms = true → ∀ m ∈ ms, ∀ X, SameBits X m → X.size = ops.size → ∀ a w, Inv ops T V a0 w0 X a w → wpAny P md ops Q (fuel + n) X a w := by
  intro n
  induction n with
  | zero =>
    intro ms hp m hm X hX hs a w hI
    have : m = Lm := by
      have := List.all_eq_true.1 hp m hm
      simpa using this
    subst this
    have : X = L := by
      apply Array.ext_getElem?
      intro i
      have h1 := hX i
      have h2 := hLm i
      by_cases hi : i < ops.size
      · rw [Array.getD_eq_getD_getElem?, Array.getElem?_eq_getElem (by omega)] at h1 h2
        rw [Array.getElem?_eq_getElem (by omega), Array.getElem?_eq_getElem (by omega)]
        simp only [Option.getD_some] at h1 h2
        rw [h1, h2]
      · rw [Array.getElem?_eq_none (by omega), Array.getElem?_eq_none (by omega)]
    subst this
    exact rest a w hI
  | succ n ih =>
    intro ms hp m hm X hX hs a w hI
    simp only [phaseOk, Bool.and_eq_true] at hp
    obtain ⟨hp1, hp2⟩ := hp
    have h1 := List.all_eq_true.1 hp1 m hm
    simp only [Bool.and_eq_true] at h1
    obtain ⟨h1, h2⟩ := h1
    refine ⟨fun hr => ?_, fun i hi => ?_⟩
    · exfalso
      cases hrb : readyBits m 0 deps with
      | nil => rw [hrb] at h1; simp at h1
      | cons k ks =>
        have : k ∈ Region.ready md ops X := (ready_bits hX hs k).2 (by rw [hdeps, hrb]; exact List.mem_cons_self ..)
        rw [hr] at this
        cases this
    have hib := (ready_bits hX hs i).1 hi
    rw [hdeps] at hib
    have hiT : i ∈ T := hTm i (List.all_eq_true.1 h2 i hib)
    obtain ⟨d, hd, hdl⟩ := hdst i hiT
    obtain ⟨o, ho, hod⟩ : ∃ o, ops[i]? = some o ∧ o.dst = some d := by
      unfold dstOf at hd
      cases ho : ops[i]? with
      | none => rw [ho] at hd; simp at hd
      | some o => rw [ho] at hd; exact ⟨o, rfl, by simpa using hd⟩
    have hil : i < ops.size := by
      obtain ⟨h, _⟩ := Array.getElem?_eq_some_iff.1 ho
      exact h
    have hinj' : ∀ j ∈ T, j ≠ i → dstOf ops j ≠ some d := fun j hj hne => by rw [← hd]; exact hinj i hiT j hj hne
    have hmem : (m ||| 2 ^ i) ∈ nextBits deps ms := by
      refine mem_addBit _ _ _ (Or.inl ?_)
      exact List.mem_flatMap.2 ⟨m, hm, List.mem_map.2 ⟨i, hib, rfl⟩⟩
    have hready : ∀ j, (o.after.any fun e => e.on == j && Region.binds md e) = true → X.getD j false = true := by
      intro j hj
      simp only [Region.ready, List.mem_filter, Bool.and_eq_true, ho, Option.map_some, Option.getD_some] at hi
      obtain ⟨_, _, hall⟩ := hi
      obtain ⟨k, hk, hke⟩ := Array.any_eq_true.1 hj
      have := Array.all_eq_true.1 hall k hk
      simp only [Bool.and_eq_true, beq_iff_eq] at hke
      obtain ⟨e1, e2⟩ := hke
      simp only [Bool.or_eq_true, Bool.not_eq_true', e2] at this
      rcases this with h | h
      · cases h
      · rw [← e1]; exact h
    have hk := hok i hiT o ho a.eval w hI.below
      (fun x hx => by
        cases x with
        | tmp t =>
          simp only [Act.eval, Array.getD_eq_getD_getElem?]
          rw [hI.other t (fun j hj e => hx j hj t e rfl)]
        | _ => rfl)
      (fun j hj he d' hd' => hI.vals j hj (hready j he) d' hd')
    have key : ∀ v w', V i v w' ∧ Below w.heap.size w w' → wpAny P md ops Q (fuel + n) (X.setIfInBounds i true) (a.put o.dst v) w' := by
      rintro v w' ⟨hv, hb⟩
      rw [hod]
      exact ih (nextBits deps ms) hp2 _ hmem _ (hX.set (by omega)) (by simpa using hs) _ _ (hI.put hstable hiT hd hdl hinj' hv hb)
    show wpOp P ops Q i (wpAny P md ops Q (fuel + n) (X.setIfInBounds i true)) a w
    unfold wpOp
    simp only [ho]
    rw [wantedE_eval]
    rcases hk with ⟨hw, hd1⟩ | ⟨hw, hv⟩
    · rw [hw]
      simp only [if_true]
      exact Or.inl (hd1.wp key)
    · rw [hw]
      simp only [Bool.false_eq_true, if_false]
      exact key _ _ ⟨hv, Below.refl _ _⟩

theorem bits_of {L : Array Bool} {n Lm : Nat} (hs : L.size = n) (h : ((List.range n).all fun i => L.getD i false == Lm.testBit i) = true) (hlt : Nat.ble (2 ^ n) Lm = false) : SameBits L Lm := by
  intro i
  by_cases hi : i < n
  · have := List.all_eq_true.1 h i (List.mem_range.2 hi)
    simpa using this
  · rw [Array.getD_eq_getD_getElem?, Array.getElem?_eq_none (by omega)]
    have h1 : Lm < 2 ^ n := by
      rcases Nat.lt_or_ge Lm (2 ^ n) with h | h
      · exact h
      · rw [Nat.ble_eq_true_of_le h] at hlt; cases hlt
    have : Lm < 2 ^ i := Nat.lt_of_lt_of_le h1 (Nat.pow_le_pow_right (by omega) (by omega))
    rw [Nat.testBit_lt_two_pow this]; rfl

theorem bits_mem {T : List Nat} {n Tm : Nat} (h : ((List.range n).all fun i => !Tm.testBit i || T.contains i) = true) (hlt : Nat.ble (2 ^ n) Tm = false) : ∀ i, Tm.testBit i = true → i ∈ T := by
  intro i hi
  by_cases hin : i < n
  · have := List.all_eq_true.1 h i (List.mem_range.2 hin)
    rw [hi] at this
    simpa using this
  · exfalso
    have h1 : Tm < 2 ^ n := by
      rcases Nat.lt_or_ge Tm (2 ^ n) with h | h
      · exact h
      · rw [Nat.ble_eq_true_of_le h] at hlt; cases hlt
    have : Tm < 2 ^ i := Nat.lt_of_lt_of_le h1 (Nat.pow_le_pow_right (by omega) (by omega))
    rw [Nat.testBit_lt_two_pow this] at hi; cases hi

/-- The frame, its new slots filled. -/
def fillSlots (f : Nat → Value) : List Nat → Array Value → Array Value
  | [], t => t
  | d :: ds, t => fillSlots f ds (t.setIfInBounds d (f d))

theorem size_fillSlots (f : Nat → Value) (ds : List Nat) (t : Array Value) : (fillSlots f ds t).size = t.size := by
  induction ds generalizing t with
  | nil => rfl
  | cons d ds ih => simp [fillSlots, ih]

theorem get_fillSlots (f : Nat → Value) (ds : List Nat) (t : Array Value) (j : Nat) (hj : j < t.size) : (fillSlots f ds t)[j]? = if j ∈ ds then some (f j) else t[j]? := by
  induction ds generalizing t with
  | nil => simp [fillSlots]
  | cons d ds ih =>
    simp only [fillSlots]
    rw [ih _ (by simpa using hj)]
    by_cases h : j ∈ ds
    · simp [h]
    · by_cases e : j = d
      · subst e
        rw [Array.getElem?_setIfInBounds_self_of_lt hj]
        simp [h]
      · have e' : d ≠ j := fun x => e x.symm
        rw [Array.getElem?_setIfInBounds_ne e']
        simp [h, e]

theorem Inv.act {X : Array Bool} {a : Act} {w : World} {slots : List Nat} (h : Inv ops T V a0 w0 X a w) (hs : T.map (dstOf ops) = slots.map some) :
    a = { tmps := fillSlots (fun d => a.tmps.getD d undef) slots a0.tmps, defers := a0.defers } := by
  have e : a.tmps = fillSlots (fun d => a.tmps.getD d undef) slots a0.tmps := by
    apply Array.ext_getElem?
    intro j
    by_cases hj : j < a0.tmps.size
    · rw [get_fillSlots _ _ _ _ hj]
      split
      · rw [Array.getD_eq_getD_getElem?, Array.getElem?_eq_getElem (by rw [h.size]; exact hj)]; rfl
      · rename_i hn
        refine h.other j fun i hi e => hn ?_
        have : some j ∈ T.map (dstOf ops) := List.mem_map.2 ⟨i, hi, e⟩
        rw [hs] at this
        obtain ⟨k, hk, hk2⟩ := List.mem_map.1 this
        injection hk2 with hk2
        rw [← hk2]; exact hk
    · rw [Array.getElem?_eq_none (by rw [h.size]; omega), Array.getElem?_eq_none (by rw [size_fillSlots]; omega)]
  cases a
  simp only at e
  rw [← e, ← h.defers]

/-- The operations of T, in whatever order they come up; then the rest. -/
theorem wpAny_phase {slots deps : List Nat} {L L0 : Array Bool} {fuel n Tm Lm Lm0 : Nat} {w1 : World} (hb0 : Below w0.heap.size w0 w1)
    (hstable : ∀ i v w w', Below w.heap.size w w' → V i v w → V i v w') (hdeps : waitList md ops = deps)
    (hp : phaseOk deps Tm Lm n [Lm0] = true)
    (hT : (((List.range ops.size).all fun i => !Tm.testBit i || T.contains i) && !Nat.ble (2 ^ ops.size) Tm) = true)
    (hL : (((List.range ops.size).all fun i => L.getD i false == Lm.testBit i) && !Nat.ble (2 ^ ops.size) Lm && L.size == ops.size) = true)
    (hL0 : (((List.range ops.size).all fun i => L0.getD i false == Lm0.testBit i) && !Nat.ble (2 ^ ops.size) Lm0 && L0.size == ops.size) = true)
    (hnew : T.all (fun j => !(L0.getD j false) && L.getD j false) = true)
    (hs : T.map (dstOf ops) = slots.map some) (hnd : (decide slots.Nodup && slots.all (fun d => decide (d < a0.tmps.size))) = true)
    (hok : ∀ i ∈ T, OpOk P md ops T V a0 w0 i)
    (rest : ∀ (f : Nat → Value) (w : World), (∀ p ∈ T.zip slots, V p.1 (f p.2) w) → Below w0.heap.size w0 w →
      wpAny P md ops Q fuel L { tmps := fillSlots f slots a0.tmps, defers := a0.defers } w) :
    wpAny P md ops Q (fuel + n) L0 a0 w1 := by
  simp only [Bool.and_eq_true, Bool.not_eq_true', beq_iff_eq] at hT hL hL0 hnd
  have hlen : T.length = slots.length := by simpa using congrArg List.length hs
  have hget : ∀ k (hk : k < T.length), dstOf ops T[k] = some (slots[k]'(by omega)) := by
    intro k hk
    have h1 : (T.map (dstOf ops))[k]? = (slots.map some)[k]? := by rw [hs]
    rw [List.getElem?_map, List.getElem?_map, List.getElem?_eq_getElem hk, List.getElem?_eq_getElem (by omega : k < slots.length)] at h1
    simpa using h1
  refine phase_run hstable hok (fun i hi => ?_) (fun i hi j hj hne e => ?_) L fuel hdeps (bits_mem hT.1 hT.2) hL.2 (bits_of hL.2 hL.1.1 hL.1.2) (fun a w hI => ?_) n [Lm0] hp Lm0 (by simp) L0 (bits_of hL0.2 hL0.1.1 hL0.1.2) hL0.2
    a0 w1 ⟨rfl, rfl, fun _ _ => rfl, fun j hj hx => ?_, hb0⟩
  · obtain ⟨k, hk, rfl⟩ := List.mem_iff_getElem.1 hi
    refine ⟨_, hget k hk, ?_⟩
    have := List.all_eq_true.1 hnd.2 (slots[k]'(by omega)) (List.getElem_mem _)
    simpa using this
  · obtain ⟨k, hk, rfl⟩ := List.mem_iff_getElem.1 hi
    obtain ⟨l, hl, rfl⟩ := List.mem_iff_getElem.1 hj
    rw [hget k hk, hget l hl] at e
    injection e with e
    have hn := of_decide_eq_true hnd.1
    have : l = k := (List.getElem_inj hn).1 e
    subst this
    exact hne rfl
  · rw [hI.act hs]
    refine rest _ w (fun p hp' => ?_) hI.below
    obtain ⟨k, hk, rfl⟩ := List.mem_iff_getElem.1 hp'
    rw [List.length_zip] at hk
    rw [List.getElem_zip]
    have hk' : k < T.length := by omega
    have hx := List.all_eq_true.1 hnew T[k] (List.getElem_mem _)
    simp only [Bool.and_eq_true] at hx
    exact hI.vals T[k] (List.getElem_mem _) hx.2 _ (hget k hk')
  · have := List.all_eq_true.1 hnew j hj
    simp only [Bool.and_eq_true, Bool.not_eq_true'] at this
    rw [hx] at this
    cases this.1

theorem ok_nil {p : Nat → Prop} : ∀ i ∈ ([] : List Nat), p i := fun _ h => by cases h
theorem ok_cons {p : Nat → Prop} {i : Nat} {is : List Nat} (h : p i) (hs : ∀ j ∈ is, p j) : ∀ j ∈ i :: is, p j := fun j hj => by
  rcases List.mem_cons.1 hj with rfl | hj
  · exact h
  · exact hs j hj

theorem OpOk.mk {i : Nat} {o : Oper} (ho : ops[i]? = some o) (h : ∀ (E : Operand → Value) (w : World), Below w0.heap.size w0 w →
    (∀ x, (∀ j ∈ T, ∀ d, dstOf ops j = some d → x ≠ .tmp d) → E x = a0.eval x) →
    (∀ j ∈ T, (o.after.any fun e => e.on == j && Region.binds md e) = true → ∀ d, dstOf ops j = some d → V j (E (.tmp d)) w) →
    (wantedE ops o E = true ∧ Does P o E w fun v w' => V i v w' ∧ Below w.heap.size w w') ∨ (wantedE ops o E = false ∧ V i undef w)) :
    OpOk P md ops T V a0 w0 i := by
  intro o' ho'
  rw [ho] at ho'
  injection ho' with ho'
  subst ho'
  exact h

theorem Does.value {o : Oper} {E : Operand → Value} {w w' : World} {R : Value → World → Prop} {v : Value} (h : (execOp E o).run P w = .ok (.value v) w') (hR : R v w') : Does P o E w R := by
  unfold Does; rw [h]; exact hR
theorem Does.skip {o : Oper} {E : Operand → Value} {w w' : World} {R : Value → World → Prop} (h : (execOp E o).run P w = .ok .skip w') (hR : R undef w') : Does P o E w R := by
  unfold Does; rw [h]; exact hR
theorem Does.call {o : Oper} {E : Operand → Value} {w w' : World} {R : Value → World → Prop} {f : FuncId} {args : Array Value} (h : (execOp E o).run P w = .ok (.enter f args) w')
    (hC : Calls P f args w' fun e w'' => ∃ v, e = .returned v ∧ R v w'') : Does P o E w R := by
  unfold Does; rw [h]; exact hC

/-- What is to be shown of an operation whose guard lets it by, its operands by their slots. -/
def OpGo (P : Program) (md : Region.Mode) (ops : Array Oper) (T slots : List Nat) (V : Nat → Value → World → Prop) (a0 : Act) (w0 : World) (i : Nat) (o : Oper) : Prop :=
  ∀ (E : Operand → Value) (w : World), Below w0.heap.size w0 w →
    (∀ v, E (.const v) = v) → (∀ f, E (.func f) = .func (.func f) #[] #[]) → (∀ t, slots.contains t = false → E (.tmp t) = a0.tmps.getD t undef) →
    (∀ j d, T.contains j = true → (o.after.any fun e => e.on == j && Region.binds md e) = true → dstOf ops j = some d → V j (E (.tmp d)) w) →
    wantedE ops o E = true ∧ Does P o E w fun v w' => V i v w' ∧ Below w.heap.size w w'

theorem OpGo.ok {i : Nat} {o : Oper} {slots : List Nat} (hs : T.map (dstOf ops) = slots.map some) (ho : ops[i]? = some o) (h : OpGo P md ops T slots V a0 w0 i o) :
    OpOk P md ops T V a0 w0 i := by
  refine OpOk.mk ho fun E w hb hE hV => Or.inl (h E w hb (fun v => ?_) (fun f => ?_) (fun t ht => ?_) fun j d hj he hd => hV j (by simpa using hj) he d hd)
  · rw [hE _ (by intro j _ d _ e; cases e)]; rfl
  · rw [hE _ (by intro j _ d _ e; cases e)]; rfl
  · rw [hE]; · rfl
    intro j hj d hd e
    injection e with e
    subst e
    have : some t ∈ T.map (dstOf ops) := List.mem_map.2 ⟨j, hj, hd⟩
    rw [hs] at this
    obtain ⟨k, hk, hk2⟩ := List.mem_map.1 this
    injection hk2 with hk2
    subst hk2
    simp only [List.contains_eq_mem, decide_eq_false_iff_not] at ht
    exact ht hk

/-- The same of a list of them. -/
def AllGo (P : Program) (md : Region.Mode) (ops : Array Oper) (T slots : List Nat) (V : Nat → Value → World → Prop) (a0 : Act) (w0 : World) : List Nat → Prop
  | [] => True
  | i :: is => (∃ o, ops[i]? = some o ∧ OpGo P md ops T slots V a0 w0 i o) ∧ AllGo P md ops T slots V a0 w0 is

theorem AllGo.cons {i : Nat} {o : Oper} {slots is : List Nat} (ho : ops[i]? = some o) (h : OpGo P md ops T slots V a0 w0 i o) (hs : AllGo P md ops T slots V a0 w0 is) :
    AllGo P md ops T slots V a0 w0 (i :: is) := ⟨⟨o, ho, h⟩, hs⟩
theorem AllGo.nil {slots : List Nat} : AllGo P md ops T slots V a0 w0 [] := trivial

theorem AllGo.ok {slots : List Nat} (hs : T.map (dstOf ops) = slots.map some) : ∀ is, AllGo P md ops T slots V a0 w0 is → ∀ i ∈ is, OpOk P md ops T V a0 w0 i
  | [], _ => ok_nil
  | _ :: is, ⟨⟨_, ho, h⟩, h2⟩ => ok_cons (h.ok hs ho) (AllGo.ok hs is h2)

theorem region_phase {id : Nat} {slots deps : List Nat} {L : Array Bool} {fuel n Tm Lm : Nat} (hm : P.follows .mixedOrders = true) (hfn : ops.size = fuel + n)
    (hstable : ∀ i v w w', Below w.heap.size w w' → V i v w → V i v w') (hdeps : waitList .any ops = deps)
    (hp : phaseOk deps Tm Lm n [0] = true)
    (hT : (((List.range ops.size).all fun i => !Tm.testBit i || T.contains i) && !Nat.ble (2 ^ ops.size) Tm) = true)
    (hL : (((List.range ops.size).all fun i => L.getD i false == Lm.testBit i) && !Nat.ble (2 ^ ops.size) Lm && L.size == ops.size) = true)
    (hnew : T.all (fun j => L.getD j false) = true)
    (hs : T.map (dstOf ops) = slots.map some) (hnd : (decide slots.Nodup && slots.all (fun d => decide (d < a0.tmps.size))) = true)
    (hok : AllGo P .any ops T slots V a0 w0 T)
    (rest : ∀ (f : Nat → Value) (w : World), (∀ p ∈ T.zip slots, V p.1 (f p.2) w) → Below w0.heap.size w0 w →
      wpAny P .any ops Q fuel L { tmps := fillSlots f slots a0.tmps, defers := a0.defers } w) :
    (Code.region id ops true).wp P Q a0 w0 := by
  refine wp_region_any hm ?_
  have h0 : ∀ i, (Array.replicate ops.size false).getD i false = false := by
    intro i
    rw [Array.getD_eq_getD_getElem?]
    by_cases hi : i < ops.size
    · rw [Array.getElem?_replicate, if_pos hi]; rfl
    · rw [Array.getElem?_replicate, if_neg hi]; rfl
  have : wpAny P .any ops Q (fuel + n) (Array.replicate ops.size false) a0 { w0 with drawn := w0.drawn + 1 } := by
    refine wpAny_phase (w1 := w0.drew) (Lm0 := 0) (Below.refl _ _).drew hstable hdeps hp hT hL ?_ ?_ hs hnd (hok.ok hs T) rest
    · simp only [Bool.and_eq_true, Bool.not_eq_true', beq_iff_eq]
      refine ⟨⟨List.all_eq_true.2 fun i _ => by rw [h0]; simp, ?_⟩, by simp⟩
      have h : ¬ 2 ^ ops.size ≤ 0 := by have := Nat.two_pow_pos ops.size; omega
      cases hb : Nat.ble (2 ^ ops.size) 0 with
      | false => rfl
      | true => exact absurd (Nat.le_of_ble_eq_true hb) h
    · refine List.all_eq_true.2 fun j hj => ?_
      rw [h0]
      simpa using List.all_eq_true.1 hnew j hj
  rw [hfn] at this
  rw [hfn]
  exact this

end
end Go.Proofs.Ytfjjmhbffbhhdaa
