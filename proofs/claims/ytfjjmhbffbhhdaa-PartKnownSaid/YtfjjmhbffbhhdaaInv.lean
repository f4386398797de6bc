/- An open statement by an invariant over the operations that are done; the law for one that stores nothing. -/
import Derived.Test.YtfjjmhbffbhhdaaRegion
namespace Go.Proofs.Ytfjjmhbffbhhdaa
open Go.RowKit

/-- Every operation waits only for ones that stand before it. -/
def depsBack (ops : Array Oper) : Bool := (List.range ops.size).all fun i => match ops[i]? with
  | some o => o.after.all fun e => !Region.binds .any e || decide (e.on < i)
  | none => true

def DoneAll (_ops : Array Oper) (X : Array Bool) (o : Oper) : Prop := ∀ e ∈ o.after, Region.binds .any e = true → X.getD e.on false = true
def Shut (ops : Array Oper) (X : Array Bool) : Prop := ∀ i o, ops[i]? = some o → X.getD i false = true → DoneAll ops X o

section
variable {P : Program} {ops : Array Oper} {a0 : Act} {w0 : World} {Q : Exit → Act → World → Prop}

theorem getD_set_bool (X : Array Bool) (i j : Nat) (hi : i < X.size) : (X.setIfInBounds i true).getD j false = if j = i then true else X.getD j false := by
  by_cases e : j = i
  · subst e
    rw [if_pos rfl, Array.getD_eq_getD_getElem?, Array.getElem?_setIfInBounds_self_of_lt hi]; rfl
  · rw [if_neg e, Array.getD_eq_getD_getElem?, Array.getElem?_setIfInBounds_ne (fun h => e h.symm), ← Array.getD_eq_getD_getElem?]

theorem getD_tf {X : Array Bool} {i : Nat} (h : i < X.size) : X.getD i true = X.getD i false := by
  rw [Array.getD_eq_getD_getElem?, Array.getD_eq_getD_getElem?, Array.getElem?_eq_getElem h]; rfl

theorem ready_all {X : Array Bool} (hb : depsBack ops = true) (hs : X.size = ops.size) (hr : Region.ready .any ops X = []) : ∀ i, i < ops.size → X.getD i false = true := by
  intro i
  induction i using Nat.strongRecOn with
  | ind i ih =>
    intro hi
    cases hx : X.getD i false with
    | true => rfl
    | false =>
      exfalso
      have ho : ops[i]? = some ops[i] := Array.getElem?_eq_getElem hi
      have hmem : i ∈ Region.ready .any ops X := by
        simp only [Region.ready, List.mem_filter, List.mem_range, Bool.and_eq_true, Bool.not_eq_true', ho, Option.map_some, Option.getD_some]
        refine ⟨hi, by rw [getD_tf (by omega)]; exact hx, ?_⟩
        apply Array.all_eq_true.2
        intro k hk
        have h1 := List.all_eq_true.1 hb i (List.mem_range.2 hi)
        simp only [ho] at h1
        have h2 := Array.all_eq_true.1 h1 k hk
        simp only [Bool.or_eq_true, Bool.not_eq_true', decide_eq_true_eq] at h2 ⊢
        rcases h2 with h2 | h2
        · exact Or.inl h2
        · exact Or.inr (ih _ h2 (by omega))
      rw [hr] at hmem
      cases hmem

/-- An open statement by an invariant over the operations that are done. -/
theorem region_inv {id : Nat} {I : Array Bool → Act → World → Prop} (hm : P.follows .mixedOrders = true) (hb : depsBack ops = true)
    (hstart : I (Array.replicate ops.size false) a0 w0.drew)
    (hstep : ∀ i o, ops[i]? = some o → ∀ X a w, X.size = ops.size → X.getD i false = false → DoneAll ops X o → Shut ops X → I X a w →
      (wantedE ops o a.eval = true ∧ o.wp P a w (fun a' w' => I (X.setIfInBounds i true) a' w') Q) ∨ (wantedE ops o a.eval = false ∧ I (X.setIfInBounds i true) (a.put o.dst undef) w))
    (hend : ∀ X a w, (∀ i, i < ops.size → X.getD i false = true) → I X a w → Q .normal a w) : (Code.region id ops true).wp P Q a0 w0 := by
  refine wp_region_any hm ?_
  have key : ∀ fuel X a w, X.size = ops.size → Shut ops X → I X a w → ((List.range ops.size).countP fun i => !(X.getD i false)) ≤ fuel → wpAny P .any ops Q fuel X a w := by
    intro fuel
    induction fuel with
    | zero =>
      intro X a w hs _ hI hc
      have hall : ∀ i, i < ops.size → X.getD i false = true := by
        intro i hi
        have h0 : ((List.range ops.size).countP fun i => !(X.getD i false)) = 0 := by omega
        have := List.countP_eq_zero.1 h0 i (List.mem_range.2 hi)
        simpa using this
      refine ⟨?_, hend X a w hall hI⟩
      simp only [Region.ready]
      rw [List.filter_eq_nil_iff]
      intro i hi
      have hil := List.mem_range.1 hi
      rw [getD_tf (by omega), hall i hil]
      simp
    | succ fuel ih =>
      intro X a w hs hsh hI hc
      refine ⟨fun hr => hend X a w (ready_all hb hs hr) hI, fun i hi => ?_⟩
      simp only [Region.ready, List.mem_filter, List.mem_range, Bool.and_eq_true, Bool.not_eq_true'] at hi
      obtain ⟨hil, hxi, hall⟩ := hi
      rw [getD_tf (by omega)] at hxi
      have ho : ops[i]? = some ops[i] := Array.getElem?_eq_getElem hil
      rw [ho] at hall
      simp only [Option.map_some, Option.getD_some] at hall
      have hd : DoneAll ops X ops[i] := by
        intro e he hbe
        obtain ⟨k, hk, rfl⟩ := Array.getElem_of_mem he
        have h1 := Array.all_eq_true.1 hall k hk
        simpa [hbe] using h1
      have hsz : (X.setIfInBounds i true).size = ops.size := by simpa using hs
      have hsh' : Shut ops (X.setIfInBounds i true) := by
        intro j o hj hx e he hbe
        rw [getD_set_bool _ _ _ (by omega)] at hx ⊢
        split
        · rfl
        · by_cases hji : j = i
          · subst hji
            rw [ho] at hj
            injection hj with hj
            subst hj
            exact hd e he hbe
          · rw [if_neg hji] at hx
            exact hsh j o hj hx e he hbe
      have hcnt : ((List.range ops.size).countP fun j => !((X.setIfInBounds i true).getD j false)) ≤ fuel := by
        have hlt : ((List.range ops.size).countP fun j => !((X.setIfInBounds i true).getD j false)) < ((List.range ops.size).countP fun j => !(X.getD j false)) := by
          have hmi : i ∈ List.range ops.size := List.mem_range.2 hil
          have hsub : ∀ l : List Nat, i ∈ l → (l.countP fun j => !((X.setIfInBounds i true).getD j false)) < (l.countP fun j => !(X.getD j false)) := by
            intro l
            induction l with
            | nil => intro h; cases h
            | cons k l ihl =>
              intro h
              have hle : ∀ l : List Nat, (l.countP fun j => !((X.setIfInBounds i true).getD j false)) ≤ (l.countP fun j => !(X.getD j false)) := fun l => List.countP_mono_left fun j _ hj => by
                rw [getD_set_bool _ _ _ (by omega)] at hj
                by_cases hji : j = i
                · rw [if_pos hji] at hj; cases hj
                · rw [if_neg hji] at hj; exact hj
              rw [List.countP_cons, List.countP_cons]
              by_cases hk : k = i
              · subst hk
                have h1 : (!((X.setIfInBounds k true).getD k false)) = false := by rw [getD_set_bool _ _ _ (by omega), if_pos rfl]; rfl
                have h2 : (!(X.getD k false)) = true := by rw [hxi]; rfl
                rw [if_neg (by rw [h1]; simp), if_pos h2]
                have := hle l
                omega
              · have h1 : (X.setIfInBounds i true).getD k false = X.getD k false := by rw [getD_set_bool _ _ _ (by omega), if_neg hk]
                rw [h1]
                have := ihl ((List.mem_cons.1 h).resolve_left (fun e => hk e.symm))
                omega
          exact hsub _ hmi
        omega
      show wpOp P ops Q i (wpAny P .any ops Q fuel (X.setIfInBounds i true)) a w
      unfold wpOp
      simp only [ho]
      rw [wantedE_eval]
      rcases hstep i ops[i] ho X a w hs hxi hd hsh hI with ⟨hw, h1⟩ | ⟨hw, h1⟩
      · rw [hw]
        simp only [if_true]
        exact Or.inl (Oper.wp_mono (fun a' w' h => ih _ _ _ hsz hsh' h hcnt) h1)
      · rw [hw]
        simp only [Bool.false_eq_true, if_false]
        exact ih _ _ _ hsz hsh' h1 hcnt
  refine key _ _ _ _ (by simp) ?_ hstart ?_
  · intro i o _ hx
    rw [Array.getD_eq_getD_getElem?, Array.getElem?_replicate] at hx
    split at hx <;> cases hx
  · refine Nat.le_trans (List.countP_le_length) ?_
    simp
/-- The same for a statement in the text's order. -/
theorem region_inv_seq {id : Nat} {I : Array Bool → Act → World → Prop} (hb : depsBack ops = true)
    (hstart : I (Array.replicate ops.size false) a0 w0)
    (hstep : ∀ i o, ops[i]? = some o → ∀ X a w, X.size = ops.size → X.getD i false = false → DoneAll ops X o → Shut ops X → I X a w →
      (wantedE ops o a.eval = true ∧ o.wp P a w (fun a' w' => I (X.setIfInBounds i true) a' w') Q) ∨ (wantedE ops o a.eval = false ∧ I (X.setIfInBounds i true) (a.put o.dst undef) w))
    (hend : ∀ X a w, (∀ i, i < ops.size → X.getD i false = true) → I X a w → Q .normal a w) : (Code.region id ops false).wp P Q a0 w0 := by
  refine wp_region ?_
  rw [List.range_eq_range']
  have hdep : ∀ i o, ops[i]? = some o → ∀ e ∈ o.after, Region.binds .any e = true → e.on < i := by
    intro i o ho e he hbe
    have hil := (Array.getElem?_eq_some_iff.1 ho).1
    have h1 := List.all_eq_true.1 hb i (List.mem_range.2 hil)
    simp only [ho] at h1
    obtain ⟨k, hk, rfl⟩ := Array.getElem_of_mem he
    have h2 := Array.all_eq_true.1 h1 k hk
    simp only [Bool.or_eq_true, Bool.not_eq_true', decide_eq_true_eq] at h2
    rcases h2 with h2 | h2
    · rw [h2] at hbe; cases hbe
    · exact h2
  have key : ∀ n k X a w, k + n = ops.size → X.size = ops.size → (∀ i, X.getD i false = decide (i < k)) → I X a w → wpOps P ops Q (List.range' k n) a w := by
    intro n
    induction n with
    | zero =>
      intro k X a w hk _ hX hI
      exact hend X a w (fun i hi => by rw [hX]; exact decide_eq_true (by omega)) hI
    | succ n ih =>
      intro k X a w hk hs hX hI
      have hkl : k < ops.size := by omega
      have ho : ops[k]? = some ops[k] := Array.getElem?_eq_getElem hkl
      rw [List.range'_succ]
      unfold wpOps
      simp only [ho]
      rw [wantedE_eval]
      have hd : DoneAll ops X ops[k] := fun e he hbe => by rw [hX]; exact decide_eq_true (hdep k _ ho e he hbe)
      have hsh : Shut ops X := fun i o hi hx e he hbe => by
        rw [hX] at hx ⊢
        have h1 := of_decide_eq_true hx
        have h2 := hdep i o hi e he hbe
        exact decide_eq_true (by omega)
      have hX' : ∀ i, (X.setIfInBounds k true).getD i false = decide (i < k + 1) := by
        intro i
        rw [getD_set_bool _ _ _ (by omega), hX]
        by_cases e : i = k
        · rw [if_pos e]; exact (decide_eq_true (by omega)).symm
        · rw [if_neg e]
          by_cases h : i < k
          · rw [decide_eq_true h, decide_eq_true (by omega)]
          · rw [decide_eq_false h, decide_eq_false (by omega)]
      rcases hstep k ops[k] ho X a w hs (by rw [hX]; exact decide_eq_false (by omega)) hd hsh hI with ⟨hw, h1⟩ | ⟨hw, h1⟩
      · rw [hw]
        simp only [if_true]
        exact Or.inl (Oper.wp_mono (fun a' w' h => ih _ _ _ _ (by omega) (by simpa using hs) hX' h) h1)
      · rw [hw]
        simp only [Bool.false_eq_true, if_false]
        exact ih _ _ _ _ (by omega) (by simpa using hs) hX' h1
  refine key _ 0 _ _ _ (by omega) (by simp) (fun i => ?_) hstart
  rw [Array.getD_eq_getD_getElem?, Array.getElem?_replicate]
  split <;> simp
/-- Both. -/
theorem region_inv2 {id : Nat} {dr : Bool} {I : Array Bool → Act → World → Prop} (hm : P.follows .mixedOrders = true) (hb : depsBack ops = true)
    (hstart : ∀ w, w = w0 ∨ w = w0.drew → I (Array.replicate ops.size false) a0 w)
    (hstep : ∀ i o, ops[i]? = some o → ∀ X a w, X.size = ops.size → X.getD i false = false → DoneAll ops X o → Shut ops X → I X a w →
      (wantedE ops o a.eval = true ∧ o.wp P a w (fun a' w' => I (X.setIfInBounds i true) a' w') Q) ∨ (wantedE ops o a.eval = false ∧ I (X.setIfInBounds i true) (a.put o.dst undef) w))
    (hend : ∀ X a w, (∀ i, i < ops.size → X.getD i false = true) → I X a w → Q .normal a w) : (Code.region id ops dr).wp P Q a0 w0 := by
  cases dr with
  | false => exact region_inv_seq hb (hstart _ (Or.inl rfl)) hstep hend
  | true => exact region_inv hm hb (hstart _ (Or.inr rfl)) hstep hend
end
def notYet (ops : Array Oper) (i k : Nat) : Bool := k == i || (match ops[k]? with | some o => o.after.any fun e => e.on == i && Region.binds .any e | none => false)
def waitsOn (o : Oper) (k : Nat) : Bool := o.after.any fun e => e.on == k && Region.binds .any e
def freeAt (ops : Array Oper) (i t : Nat) : Bool := (List.range ops.size).all fun j => dstOf ops j != some t || notYet ops i j
theorem not_yet {ops : Array Oper} {X : Array Bool} (hsh : Shut ops X) {i k : Nat} (hi : X.getD i false = false) (h : notYet ops i k = true) : X.getD k false = false := by
  unfold notYet at h
  rw [Bool.or_eq_true, beq_iff_eq] at h
  rcases h with rfl | h
  · exact hi
  · cases hk : X.getD k false with
    | false => rfl
    | true =>
      exfalso
      cases ho : ops[k]? with
      | none => rw [ho] at h; cases h
      | some o =>
        rw [ho] at h
        obtain ⟨j, hj, he⟩ := Array.any_eq_true.1 h
        simp only [Bool.and_eq_true, beq_iff_eq] at he
        have := hsh k o ho hk o.after[j] (by simp) he.2
        rw [he.1, hi] at this
        cases this


/-- Values told so far. -/
structure ToldV (ops : Array Oper) (V : Nat → Value → World → Prop) (a0 : Act) (w0 : World) (X : Array Bool) (a : Act) (w : World) : Prop where
  defers : a.defers = a0.defers
  size : a.tmps.size = a0.tmps.size
  other : ∀ t, (∀ j, X.getD j false = true → dstOf ops j ≠ some t) → a.tmps[t]? = a0.tmps[t]?
  vals : ∀ j d, X.getD j false = true → dstOf ops j = some d → V j (a.tmps.getD d undef) w
  below : Below w0.heap.size w0 w

/-- What is to be shown of an operation. -/
def OpV (P : Program) (ops : Array Oper) (V : Nat → Value → World → Prop) (a0 : Act) (w0 : World) (i : Nat) (o : Oper) : Prop :=
  ∀ (E : Operand → Value) (w : World), Below w0.heap.size w0 w →
    (∀ v, E (.const v) = v) → (∀ f, E (.func f) = .func (.func f) #[] #[]) → (∀ t, freeAt ops i t = true → E (.tmp t) = a0.tmps.getD t undef) →
    (∀ j d, waitsOn o j = true → dstOf ops j = some d → V j (E (.tmp d)) w) →
    (wantedE ops o E = true ∧ Does P o E w fun v w' => V i v w' ∧ Below w.heap.size w w') ∨ (wantedE ops o E = false ∧ V i undef w)
def AllV (P : Program) (ops : Array Oper) (V : Nat → Value → World → Prop) (a0 : Act) (w0 : World) : List Nat → Prop
  | [] => True
  | i :: is => (∃ o, ops[i]? = some o ∧ OpV P ops V a0 w0 i o) ∧ AllV P ops V a0 w0 is
theorem AllV.cons {P : Program} {ops : Array Oper} {V : Nat → Value → World → Prop} {a0 : Act} {w0 : World} {i : Nat} {o : Oper} {is : List Nat} (ho : ops[i]? = some o) (h : OpV P ops V a0 w0 i o) (hs : AllV P ops V a0 w0 is) : AllV P ops V a0 w0 (i :: is) := ⟨⟨o, ho, h⟩, hs⟩
theorem AllV.nil {P : Program} {ops : Array Oper} {V : Nat → Value → World → Prop} {a0 : Act} {w0 : World} : AllV P ops V a0 w0 [] := trivial
theorem AllV.get {P : Program} {ops : Array Oper} {V : Nat → Value → World → Prop} {a0 : Act} {w0 : World} : ∀ is, AllV P ops V a0 w0 is → ∀ i ∈ is, ∃ o, ops[i]? = some o ∧ OpV P ops V a0 w0 i o
  | [], _, _, h => by cases h
  | _ :: is, ⟨h1, h2⟩, i, hi => by
    rcases List.mem_cons.1 hi with rfl | hi
    · exact h1
    · exact AllV.get is h2 i hi

/-- All of an open statement that stores nothing: each operation once. -/
theorem region_v {P : Program} {ops : Array Oper} {V : Nat → Value → World → Prop} {a0 : Act} {w0 : World} {Q : Exit → Act → World → Prop} {id : Nat} {slots : List Nat} (hm : P.follows .mixedOrders = true) (hb : depsBack ops = true)
    (hstable : ∀ i v w w', Below w.heap.size w w' → V i v w → V i v w')
    (hs : (List.range ops.size).map (dstOf ops) = slots.map some) (hnd : (decide slots.Nodup && slots.all (fun d => decide (d < a0.tmps.size))) = true)
    (hok : AllV P ops V a0 w0 (List.range ops.size))
    (hend : ∀ (f : Nat → Value) (w : World), (∀ p ∈ (List.range ops.size).zip slots, V p.1 (f p.2) w) → Below w0.heap.size w0 w → Q .normal { tmps := fillSlots f slots a0.tmps, defers := a0.defers } w) :
    (Code.region id ops true).wp P Q a0 w0 := by
  simp only [Bool.and_eq_true, List.all_eq_true, decide_eq_true_eq] at hnd
  have hlen : ops.size = slots.length := by simpa using congrArg List.length hs
  have hget : ∀ j (hj : j < ops.size), dstOf ops j = some (slots[j]'(by omega)) := by
    intro j hj
    have h1 : ((List.range ops.size).map (dstOf ops))[j]? = (slots.map some)[j]? := by rw [hs]
    rw [List.getElem?_map, List.getElem?_map, List.getElem?_range hj, List.getElem?_eq_getElem (by omega : j < slots.length)] at h1
    simpa using h1
  have hdl : ∀ j d, dstOf ops j = some d → j < ops.size := by
    intro j d hd
    unfold dstOf at hd
    cases ho : ops[j]? with
    | none => rw [ho] at hd; cases hd
    | some o => exact (Array.getElem?_eq_some_iff.1 ho).1
  have hinj : ∀ i j d, dstOf ops i = some d → dstOf ops j = some d → i = j := by
    intro i j d h1 h2
    have e1 := hget i (hdl i d h1); have e2 := hget j (hdl j d h2)
    rw [h1] at e1; rw [h2] at e2
    exact (List.getElem_inj hnd.1).1 (Option.some.inj (e1.symm.trans e2))
  have hlt : ∀ j d, dstOf ops j = some d → d < a0.tmps.size := by
    intro j d h
    have e1 := hget j (hdl j d h)
    rw [h] at e1
    rw [Option.some.inj e1]
    exact hnd.2 _ (List.getElem_mem _)
  have hf0 : ∀ i, (Array.replicate ops.size false).getD i false = false := by
    intro i
    rw [Array.getD_eq_getD_getElem?, Array.getElem?_replicate]
    split <;> rfl
  refine region_inv (I := fun X a w => ToldV ops V a0 w0 X a w) hm hb ?_ ?_ ?_
  · exact ⟨rfl, rfl, fun _ _ => rfl, fun j d hx _ => (by rw [hf0] at hx; cases hx), (Below.refl _ _).drew⟩
  · intro i o ho X a w hXs hxi hd hsh hI
    obtain ⟨o', ho', hO⟩ := hok.get _ i (List.mem_range.2 (Array.getElem?_eq_some_iff.1 ho).1)
    rw [ho] at ho'
    injection ho' with ho'
    subst ho'
    have hwo : ∀ j, waitsOn o j = true → X.getD j false = true := by
      intro j hj
      obtain ⟨k, hk, he⟩ := Array.any_eq_true.1 hj
      simp only [Bool.and_eq_true, beq_iff_eq] at he
      rw [← he.1]
      exact hd _ (by simp) he.2
    have hk := hO a.eval w hI.below (fun _ => rfl) (fun _ => rfl)
      (fun t ht => by
        simp only [Act.eval, Array.getD_eq_getD_getElem?]
        rw [hI.other t]
        intro j hj e
        have h1 := List.all_eq_true.1 ht j (List.mem_range.2 (hdl j t e))
        rw [e, Bool.or_eq_true] at h1
        rcases h1 with h1 | h1
        · simp at h1
        · rw [not_yet hsh hxi h1] at hj; cases hj)
      (fun j d hj hd' => hI.vals j d (hwo j hj) hd')
    have hil : i < X.size := by rw [hXs]; exact (Array.getElem?_eq_some_iff.1 ho).1
    have hdo : dstOf ops i = o.dst := by unfold dstOf; rw [ho]; rfl
    have hXi : ∀ j, X.getD j false = true → (X.setIfInBounds i true).getD j false = true := fun j hj => by rw [getD_set_bool _ _ _ hil]; split <;> first | rfl | exact hj
    have hback : ∀ j, j ≠ i → (X.setIfInBounds i true).getD j false = true → X.getD j false = true := fun j hj h => by rw [getD_set_bool _ _ _ hil, if_neg hj] at h; exact h
    have below : ∀ v w', V i v w' → Below w.heap.size w w' → ToldV ops V a0 w0 (X.setIfInBounds i true) (a.put o.dst v) w' := by
      intro v w' hv hbw
      refine ⟨by cases o.dst <;> exact hI.defers, by cases h : o.dst <;> simpa [Act.put] using hI.size, ?_, ?_, hI.below.trans (hbw.mono hI.below.size)⟩
      · intro t ht
        have h1 : o.dst ≠ some t := by rw [← hdo]; exact ht i (by rw [getD_set_bool _ _ _ hil, if_pos rfl])
        rw [← hI.other t (fun j hj => ht j (hXi j hj))]
        cases h : o.dst with
        | none => rfl
        | some d =>
          simp only [Act.put]
          rw [Array.getElem?_setIfInBounds_ne (fun e => h1 (by rw [h, e]))]
      · intro j d hj hd'
        by_cases hji : j = i
        · subst hji
          rw [hdo] at hd'
          rw [hd']
          simp only [Act.put]
          rw [Array.getD_eq_getD_getElem?, Array.getElem?_setIfInBounds_self_of_lt (by rw [hI.size]; exact hlt _ _ (hdo.trans hd'))]
          exact hv
        · have e : (a.put o.dst v).tmps.getD d undef = a.tmps.getD d undef := by
            cases h : o.dst with
            | none => rfl
            | some d' =>
              have hne : d' ≠ d := fun e => hji (hinj j i d hd' (by rw [hdo, h, e]))
              simp only [Act.put]
              rw [Array.getD_eq_getD_getElem?, Array.getElem?_setIfInBounds_ne hne, ← Array.getD_eq_getD_getElem?]
          rw [e]
          exact hstable j _ w w' hbw (hI.vals j d (hback j hji hj) hd')
    rcases hk with ⟨hw, hdo'⟩ | ⟨hw, hv⟩
    · exact Or.inl ⟨hw, hdo'.wp fun v w' hv => below v w' hv.1 hv.2⟩
    · exact Or.inr ⟨hw, below undef w hv (Below.refl _ _)⟩
  · intro X a w hall hI
    have ea : a = { tmps := fillSlots (fun d => a.tmps.getD d undef) slots a0.tmps, defers := a0.defers } := by
      have e : a.tmps = fillSlots (fun d => a.tmps.getD d undef) slots a0.tmps := by
        apply Array.ext_getElem?
        intro j
        by_cases hj : j < a0.tmps.size
        · rw [get_fillSlots _ _ _ _ hj]
          split
          · rw [Array.getD_eq_getD_getElem?, Array.getElem?_eq_getElem (by rw [hI.size]; exact hj)]; rfl
          · rename_i hn
            refine hI.other j fun i hi e => hn ?_
            have e1 := hget i (hdl i j e)
            rw [e] at e1
            rw [Option.some.inj e1]
            exact List.getElem_mem _
        · rw [Array.getElem?_eq_none (by rw [hI.size]; omega), Array.getElem?_eq_none (by rw [size_fillSlots]; omega)]
      cases a
      simp only at e
      rw [← e, ← hI.defers]
    rw [ea]
    refine hend _ w (fun p hp => ?_) hI.below
    obtain ⟨k, hk, rfl⟩ := List.mem_iff_getElem.1 hp
    rw [List.length_zip, List.length_range] at hk
    rw [List.getElem_zip]
    simp only [List.getElem_range]
    exact hI.vals k _ (hall k (by omega)) (hget k (by omega))
end Go.Proofs.Ytfjjmhbffbhhdaa
