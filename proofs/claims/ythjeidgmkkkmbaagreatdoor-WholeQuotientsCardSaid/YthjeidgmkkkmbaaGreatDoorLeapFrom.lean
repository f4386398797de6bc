/- An open statement by an invariant over the operations that are done; the law for one that stores nothing. -/
import Derived.Test.YthjeidgmkkkmbaaGreatDoorRegion
import Derived.Test.YthjeidgmkkkmbaaGreatDoorCut
import Derived.Test.YthjeidgmkkkmbaaGreatDoorShiftS
namespace Go.Proofs.YthjeidgmkkkmbaaGreatDoor
open Go.RowKit

/-- Every operation waits only for ones that stand before it. -/
def depsBack (ops : Array Oper) : Bool := (List.range ops.size).all fun i => match ops[i]? with
  | some o => o.after.all fun e => !Region.binds .any e || decide (e.on < i)
  | none => true

def DoneAll (_ops : Array Oper) (X : Array Bool) (o : Oper) : Prop := ∀ e ∈ o.after, Region.binds .any e = true → X.getD e.on false = true
def Shut (ops : Array Oper) (X : Array Bool) : Prop := ∀ i o, ops[i]? = some o → X.getD i false = true → DoneAll ops X o

section
variable {P : Program} {ops : Array Oper} {a0 : Act} {w0 : World} {Q : Exit → Act → World → Prop}

theorem getD_set_bool (X : Array Bool) (i j : Nat) (hi : i < X.size) : (X.setIfInBounds i true).getD j false = if j = i then true else X.getD j false := by
  by_cases e : j = i
  · subst e
    rw [if_pos rfl, Array.getD_eq_getD_getElem?, Array.getElem?_setIfInBounds_self_of_lt hi]; rfl
  · rw [if_neg e, Array.getD_eq_getD_getElem?, Array.getElem?_setIfInBounds_ne (fun h => e h.symm), ← Array.getD_eq_getD_getElem?]

theorem getD_tf {X : Array Bool} {i : Nat} (h : i < X.size) : X.getD i true = X.getD i false := by
  rw [Array.getD_eq_getD_getElem?, Array.getD_eq_getD_getElem?, Array.getElem?_eq_getElem h]; rfl

theorem ready_all {X : Array Bool} (hb : depsBack ops = true) (hs : X.size = ops.size) (hr : Region.ready .any ops X = []) : ∀ i, i < ops.size → X.getD i false = true := by
  intro i
  induction i using Nat.strongRecOn with
  | ind i ih =>
    intro hi
    cases hx : X.getD i false with
    | true => rfl
    | false =>
      exfalso
      have ho : ops[i]? = some ops[i] := Array.getElem?_eq_getElem hi
      have hmem : i ∈ Region.ready .any ops X := by
        simp only [Region.ready, List.mem_filter, List.mem_range, Bool.and_eq_true, Bool.not_eq_true', ho, Option.map_some, Option.getD_some]
        refine ⟨hi, by rw [getD_tf (by omega)]; exact hx, ?_⟩
        apply Array.all_eq_true.2
        intro k hk
        have h1 := List.all_eq_true.1 hb i (List.mem_range.2 hi)
        simp only [ho] at h1
        have h2 := Array.all_eq_true.1 h1 k hk
        simp only [Bool.or_eq_true, Bool.not_eq_true', decide_eq_true_eq] at h2 ⊢
        rcases h2 with h2 | h2
        · exact Or.inl h2
        · exact Or.inr (ih _ h2 (by omega))
      rw [hr] at hmem
      cases hmem

/-- An open statement by an invariant over the operations that are done. -/
theorem region_inv {id : Nat} {I : Array Bool → Act → World → Prop} (hm : P.follows .mixedOrders = true) (hb : depsBack ops = true)
    (hstart : I (Array.replicate ops.size false) a0 w0.drew)
    (hstep : ∀ i o, ops[i]? = some o → ∀ X a w, X.size = ops.size → X.getD i false = false → DoneAll ops X o → Shut ops X → I X a w →
      (wantedE ops o a.eval = true ∧ o.wp P a w (fun a' w' => I (X.setIfInBounds i true) a' w') Q) ∨ (wantedE ops o a.eval = false ∧ I (X.setIfInBounds i true) (a.put o.dst undef) w))
    (hend : ∀ X a w, (∀ i, i < ops.size → X.getD i false = true) → I X a w → Q .normal a w) : (Code.region id ops true).wp P Q a0 w0 := by
  refine wp_region_any hm ?_
  have key : ∀ fuel X a w, X.size = ops.size → Shut ops X → I X a w → ((List.range ops.size).countP fun i => !(X.getD i false)) ≤ fuel → wpAny P .any ops Q fuel X a w := by
    intro fuel
    induction fuel with
    | zero =>
      intro X a w hs _ hI hc
      have hall : ∀ i, i < ops.size → X.getD i false = true := by
        intro i hi
        have h0 : ((List.range ops.size).countP fun i => !(X.getD i false)) = 0 := by omega
        have := List.countP_eq_zero.1 h0 i (List.mem_range.2 hi)
        simpa using this
      refine ⟨?_, hend X a w hall hI⟩
      simp only [Region.ready]
      rw [List.filter_eq_nil_iff]
      intro i hi
      have hil := List.mem_range.1 hi
      rw [getD_tf (by omega), hall i hil]
      simp
    | succ fuel ih =>
      intro X a w hs hsh hI hc
      refine ⟨fun hr => hend X a w (ready_all hb hs hr) hI, fun i hi => ?_⟩
      simp only [Region.ready, List.mem_filter, List.mem_range, Bool.and_eq_true, Bool.not_eq_true'] at hi
      obtain ⟨hil, hxi, hall⟩ := hi
      rw [getD_tf (by omega)] at hxi
      have ho : ops[i]? = some ops[i] := Array.getElem?_eq_getElem hil
      rw [ho] at hall
      simp only [Option.map_some, Option.getD_some] at hall
      have hd : DoneAll ops X ops[i] := by
        intro e he hbe
        obtain ⟨k, hk, rfl⟩ := Array.getElem_of_mem he
        have h1 := Array.all_eq_true.1 hall k hk
        simpa [hbe] using h1
      have hsz : (X.setIfInBounds i true).size = ops.size := by simpa using hs
      have hsh' : Shut ops (X.setIfInBounds i true) := by
        intro j o hj hx e he hbe
        rw [getD_set_bool _ _ _ (by omega)] at hx ⊢
        split
        · rfl
        · by_cases hji : j = i
          · subst hji
            rw [ho] at hj
            injection hj with hj
            subst hj
            exact hd e he hbe
          · rw [if_neg hji] at hx
            exact hsh j o hj hx e he hbe
      have hcnt : ((List.range ops.size).countP fun j => !((X.setIfInBounds i true).getD j false)) ≤ fuel := by
        have hlt : ((List.range ops.size).countP fun j => !((X.setIfInBounds i true).getD j false)) < ((List.range ops.size).countP fun j => !(X.getD j false)) := by
          have hmi : i ∈ List.range ops.size := List.mem_range.2 hil
          have hsub : ∀ l : List Nat, i ∈ l → (l.countP fun j => !((X.setIfInBounds i true).getD j false)) < (l.countP fun j => !(X.getD j false)) := by
            intro l
            induction l with
            | nil => intro h; cases h
            | cons k l ihl =>
              intro h
              have hle : ∀ l : List Nat, (l.countP fun j => !((X.setIfInBounds i true).getD j false)) ≤ (l.countP fun j => !(X.getD j false)) := fun l => List.countP_mono_left fun j _ hj => by
                rw [getD_set_bool _ _ _ (by omega)] at hj
                by_cases hji : j = i
                · rw [if_pos hji] at hj; cases hj
                · rw [if_neg hji] at hj; exact hj
              rw [List.countP_cons, List.countP_cons]
              by_cases hk : k = i
              · subst hk
                have h1 : (!((X.setIfInBounds k true).getD k false)) = false := by rw [getD_set_bool _ _ _ (by omega), if_pos rfl]; rfl
                have h2 : (!(X.getD k false)) = true := by rw [hxi]; rfl
                rw [if_neg (by rw [h1]; simp), if_pos h2]
                have := hle l
                omega
              · have h1 : (X.setIfInBounds i true).getD k false = X.getD k false := by rw [getD_set_bool _ _ _ (by omega), if_neg hk]
                rw [h1]
                have := ihl ((List.mem_cons.1 h).resolve_left (fun e => hk e.symm))
                omega
          exact hsub _ hmi
        omega
      show wpOp P ops Q i (wpAny P .any ops Q fuel (X.setIfInBounds i true)) a w
      unfold wpOp
      simp only [ho]
      rw [wantedE_eval]
      rcases hstep i ops[i] ho X a w hs hxi hd hsh hI with ⟨hw, h1⟩ | ⟨hw, h1⟩
      · rw [hw]
        simp only [if_true]
        exact Or.inl (Oper.wp_mono (fun a' w' h => ih _ _ _ hsz hsh' h hcnt) h1)
      · rw [hw]
        simp only [Bool.false_eq_true, if_false]
        exact ih _ _ _ hsz hsh' h1 hcnt
  refine key _ _ _ _ (by simp) ?_ hstart ?_
  · intro i o _ hx
    rw [Array.getD_eq_getD_getElem?, Array.getElem?_replicate] at hx
    split at hx <;> cases hx
  · refine Nat.le_trans (List.countP_le_length) ?_
    simp
/-- The same for a statement in the text's order. -/
theorem region_inv_seq {id : Nat} {I : Array Bool → Act → World → Prop} (hb : depsBack ops = true)
    (hstart : I (Array.replicate ops.size false) a0 w0)
    (hstep : ∀ i o, ops[i]? = some o → ∀ X a w, X.size = ops.size → X.getD i false = false → DoneAll ops X o → Shut ops X → I X a w →
      (wantedE ops o a.eval = true ∧ o.wp P a w (fun a' w' => I (X.setIfInBounds i true) a' w') Q) ∨ (wantedE ops o a.eval = false ∧ I (X.setIfInBounds i true) (a.put o.dst undef) w))
    (hend : ∀ X a w, (∀ i, i < ops.size → X.getD i false = true) → I X a w → Q .normal a w) : (Code.region id ops false).wp P Q a0 w0 := by
  refine wp_region ?_
  rw [List.range_eq_range']
  have hdep : ∀ i o, ops[i]? = some o → ∀ e ∈ o.after, Region.binds .any e = true → e.on < i := by
    intro i o ho e he hbe
    have hil := (Array.getElem?_eq_some_iff.1 ho).1
    have h1 := List.all_eq_true.1 hb i (List.mem_range.2 hil)
    simp only [ho] at h1
    obtain ⟨k, hk, rfl⟩ := Array.getElem_of_mem he
    have h2 := Array.all_eq_true.1 h1 k hk
    simp only [Bool.or_eq_true, Bool.not_eq_true', decide_eq_true_eq] at h2
    rcases h2 with h2 | h2
    · rw [h2] at hbe; cases hbe
    · exact h2
  have key : ∀ n k X a w, k + n = ops.size → X.size = ops.size → (∀ i, X.getD i false = decide (i < k)) → I X a w → wpOps P ops Q (List.range' k n) a w := by
    intro n
    induction n with
    | zero =>
      intro k X a w hk _ hX hI
      exact hend X a w (fun i hi => by rw [hX]; exact decide_eq_true (by omega)) hI
    | succ n ih =>
      intro k X a w hk hs hX hI
      have hkl : k < ops.size := by omega
      have ho : ops[k]? = some ops[k] := Array.getElem?_eq_getElem hkl
      rw [List.range'_succ]
      unfold wpOps
      simp only [ho]
      rw [wantedE_eval]
      have hd : DoneAll ops X ops[k] := fun e he hbe => by rw [hX]; exact decide_eq_true (hdep k _ ho e he hbe)
      have hsh : Shut ops X := fun i o hi hx e he hbe => by
        rw [hX] at hx ⊢
        have h1 := of_decide_eq_true hx
        have h2 := hdep i o hi e he hbe
        exact decide_eq_true (by omega)
      have hX' : ∀ i, (X.setIfInBounds k true).getD i false = decide (i < k + 1) := by
        intro i
        rw [getD_set_bool _ _ _ (by omega), hX]
        by_cases e : i = k
        · rw [if_pos e]; exact (decide_eq_true (by omega)).symm
        · rw [if_neg e]
          by_cases h : i < k
          · rw [decide_eq_true h, decide_eq_true (by omega)]
          · rw [decide_eq_false h, decide_eq_false (by omega)]
      rcases hstep k ops[k] ho X a w hs (by rw [hX]; exact decide_eq_false (by omega)) hd hsh hI with ⟨hw, h1⟩ | ⟨hw, h1⟩
      · rw [hw]
        simp only [if_true]
        exact Or.inl (Oper.wp_mono (fun a' w' h => ih _ _ _ _ (by omega) (by simpa using hs) hX' h) h1)
      · rw [hw]
        simp only [Bool.false_eq_true, if_false]
        exact ih _ _ _ _ (by omega) (by simpa using hs) hX' h1
  refine key _ 0 _ _ _ (by omega) (by simp) (fun i => ?_) hstart
  rw [Array.getD_eq_getD_getElem?, Array.getElem?_replicate]
  split <;> simp
/-- Both. -/
theorem region_inv2 {id : Nat} {dr : Bool} {I : Array Bool → Act → World → Prop} (hm : P.follows .mixedOrders = true) (hb : depsBack ops = true)
    (hstart : ∀ w, w = w0 ∨ w = w0.drew → I (Array.replicate ops.size false) a0 w)
    (hstep : ∀ i o, ops[i]? = some o → ∀ X a w, X.size = ops.size → X.getD i false = false → DoneAll ops X o → Shut ops X → I X a w →
      (wantedE ops o a.eval = true ∧ o.wp P a w (fun a' w' => I (X.setIfInBounds i true) a' w') Q) ∨ (wantedE ops o a.eval = false ∧ I (X.setIfInBounds i true) (a.put o.dst undef) w))
    (hend : ∀ X a w, (∀ i, i < ops.size → X.getD i false = true) → I X a w → Q .normal a w) : (Code.region id ops dr).wp P Q a0 w0 := by
  cases dr with
  | false => exact region_inv_seq hb (hstart _ (Or.inl rfl)) hstep hend
  | true => exact region_inv hm hb (hstart _ (Or.inr rfl)) hstep hend
end
def notYet (ops : Array Oper) (i k : Nat) : Bool := k == i || (match ops[k]? with | some o => o.after.any fun e => e.on == i && Region.binds .any e | none => false)
def waitsOn (o : Oper) (k : Nat) : Bool := o.after.any fun e => e.on == k && Region.binds .any e
def freeAt (ops : Array Oper) (i t : Nat) : Bool := (List.range ops.size).all fun j => dstOf ops j != some t || notYet ops i j
theorem not_yet {ops : Array Oper} {X : Array Bool} (hsh : Shut ops X) {i k : Nat} (hi : X.getD i false = false) (h : notYet ops i k = true) : X.getD k false = false := by
  unfold notYet at h
  rw [Bool.or_eq_true, beq_iff_eq] at h
  rcases h with rfl | h
  · exact hi
  · cases hk : X.getD k false with
    | false => rfl
    | true =>
      exfalso
      cases ho : ops[k]? with
      | none => rw [ho] at h; cases h
      | some o =>
        rw [ho] at h
        obtain ⟨j, hj, he⟩ := Array.any_eq_true.1 h
        simp only [Bool.and_eq_true, beq_iff_eq] at he
        have := hsh k o ho hk o.after[j] (by simp) he.2
        rw [he.1, hi] at this
        cases this


/-- Values told so far. -/
structure ToldV (ops : Array Oper) (V : Nat → Value → World → Prop) (a0 : Act) (w0 : World) (X : Array Bool) (a : Act) (w : World) : Prop where
  defers : a.defers = a0.defers
  size : a.tmps.size = a0.tmps.size
  other : ∀ t, (∀ j, X.getD j false = true → dstOf ops j ≠ some t) → a.tmps[t]? = a0.tmps[t]?
  vals : ∀ j d, X.getD j false = true → dstOf ops j = some d → V j (a.tmps.getD d undef) w
  below : Below w0.heap.size w0 w

/-- What is to be shown of an operation. -/
def OpV (P : Program) (ops : Array Oper) (V : Nat → Value → World → Prop) (a0 : Act) (w0 : World) (i : Nat) (o : Oper) : Prop :=
  ∀ (E : Operand → Value) (w : World), Below w0.heap.size w0 w →
    (∀ v, E (.const v) = v) → (∀ f, E (.func f) = .func (.func f) #[] #[]) → (∀ t, freeAt ops i t = true → E (.tmp t) = a0.tmps.getD t undef) →
    (∀ j d, waitsOn o j = true → dstOf ops j = some d → V j (E (.tmp d)) w) →
    (wantedE ops o E = true ∧ Does P o E w fun v w' => V i v w' ∧ Below w.heap.size w w') ∨ (wantedE ops o E = false ∧ V i undef w)
def AllV (P : Program) (ops : Array Oper) (V : Nat → Value → World → Prop) (a0 : Act) (w0 : World) : List Nat → Prop
  | [] => True
  | i :: is => (∃ o, ops[i]? = some o ∧ OpV P ops V a0 w0 i o) ∧ AllV P ops V a0 w0 is
theorem AllV.cons {P : Program} {ops : Array Oper} {V : Nat → Value → World → Prop} {a0 : Act} {w0 : World} {i : Nat} {o : Oper} {is : List Nat} (ho : ops[i]? = some o) (h : OpV P ops V a0 w0 i o) (hs : AllV P ops V a0 w0 is) : AllV P ops V a0 w0 (i :: is) := ⟨⟨o, ho, h⟩, hs⟩
theorem AllV.nil {P : Program} {ops : Array Oper} {V : Nat → Value → World → Prop} {a0 : Act} {w0 : World} : AllV P ops V a0 w0 [] := trivial
theorem AllV.get {P : Program} {ops : Array Oper} {V : Nat → Value → World → Prop} {a0 : Act} {w0 : World} : ∀ is, AllV P ops V a0 w0 is → ∀ i ∈ is, ∃ o, ops[i]? = some o ∧ OpV P ops V a0 w0 i o
  | [], _, _, h => by cases h
  | _ :: is, ⟨h1, h2⟩, i, hi => by
    rcases List.mem_cons.1 hi with rfl | hi
    · exact h1
    · exact AllV.get is h2 i hi

/-- All of an open statement that stores nothing: each operation once. -/
theorem region_v {P : Program} {ops : Array Oper} {V : Nat → Value → World → Prop} {a0 : Act} {w0 : World} {Q : Exit → Act → World → Prop} {id : Nat} {slots : List Nat} (hm : P.follows .mixedOrders = true) (hb : depsBack ops = true)
    (hstable : ∀ i v w w', Below w.heap.size w w' → V i v w → V i v w')
    (hs : (List.range ops.size).map (dstOf ops) = slots.map some) (hnd : (decide slots.Nodup && slots.all (fun d => decide (d < a0.tmps.size))) = true)
    (hok : AllV P ops V a0 w0 (List.range ops.size))
    (hend : ∀ (f : Nat → Value) (w : World), (∀ p ∈ (List.range ops.size).zip slots, V p.1 (f p.2) w) → Below w0.heap.size w0 w → Q .normal { tmps := fillSlots f slots a0.tmps, defers := a0.defers } w) :
    (Code.region id ops true).wp P Q a0 w0 := by
  simp only [Bool.and_eq_true, List.all_eq_true, decide_eq_true_eq] at hnd
  have hlen : ops.size = slots.length := by simpa using congrArg List.length hs
  have hget : ∀ j (hj : j < ops.size), dstOf ops j = some (slots[j]'(by omega)) := by
    intro j hj
    have h1 : ((List.range ops.size).map (dstOf ops))[j]? = (slots.map some)[j]? := by rw [hs]
    rw [List.getElem?_map, List.getElem?_map, List.getElem?_range hj, List.getElem?_eq_getElem (by omega : j < slots.length)] at h1
    simpa using h1
  have hdl : ∀ j d, dstOf ops j = some d → j < ops.size := by
    intro j d hd
    unfold dstOf at hd
    cases ho : ops[j]? with
    | none => rw [ho] at hd; cases hd
    | some o => exact (Array.getElem?_eq_some_iff.1 ho).1
  have hinj : ∀ i j d, dstOf ops i = some d → dstOf ops j = some d → i = j := by
    intro i j d h1 h2
    have e1 := hget i (hdl i d h1); have e2 := hget j (hdl j d h2)
    rw [h1] at e1; rw [h2] at e2
    exact (List.getElem_inj hnd.1).1 (Option.some.inj (e1.symm.trans e2))
  have hlt : ∀ j d, dstOf ops j = some d → d < a0.tmps.size := by
    intro j d h
    have e1 := hget j (hdl j d h)
    rw [h] at e1
    rw [Option.some.inj e1]
    exact hnd.2 _ (List.getElem_mem _)
  have hf0 : ∀ i, (Array.replicate ops.size false).getD i false = false := by
    intro i
    rw [Array.getD_eq_getD_getElem?, Array.getElem?_replicate]
    split <;> rfl
  refine region_inv (I := fun X a w => ToldV ops V a0 w0 X a w) hm hb ?_ ?_ ?_
  · exact ⟨rfl, rfl, fun _ _ => rfl, fun j d hx _ => (by rw [hf0] at hx; cases hx), (Below.refl _ _).drew⟩
  · intro i o ho X a w hXs hxi hd hsh hI
    obtain ⟨o', ho', hO⟩ := hok.get _ i (List.mem_range.2 (Array.getElem?_eq_some_iff.1 ho).1)
    rw [ho] at ho'
    injection ho' with ho'
    subst ho'
    have hwo : ∀ j, waitsOn o j = true → X.getD j false = true := by
      intro j hj
      obtain ⟨k, hk, he⟩ := Array.any_eq_true.1 hj
      simp only [Bool.and_eq_true, beq_iff_eq] at he
      rw [← he.1]
      exact hd _ (by simp) he.2
    have hk := hO a.eval w hI.below (fun _ => rfl) (fun _ => rfl)
      (fun t ht => by
        simp only [Act.eval, Array.getD_eq_getD_getElem?]
        rw [hI.other t]
        intro j hj e
        have h1 := List.all_eq_true.1 ht j (List.mem_range.2 (hdl j t e))
        rw [e, Bool.or_eq_true] at h1
        rcases h1 with h1 | h1
        · simp at h1
        · rw [not_yet hsh hxi h1] at hj; cases hj)
      (fun j d hj hd' => hI.vals j d (hwo j hj) hd')
    have hil : i < X.size := by rw [hXs]; exact (Array.getElem?_eq_some_iff.1 ho).1
    have hdo : dstOf ops i = o.dst := by unfold dstOf; rw [ho]; rfl
    have hXi : ∀ j, X.getD j false = true → (X.setIfInBounds i true).getD j false = true := fun j hj => by rw [getD_set_bool _ _ _ hil]; split <;> first | rfl | exact hj
    have hback : ∀ j, j ≠ i → (X.setIfInBounds i true).getD j false = true → X.getD j false = true := fun j hj h => by rw [getD_set_bool _ _ _ hil, if_neg hj] at h; exact h
    have below : ∀ v w', V i v w' → Below w.heap.size w w' → ToldV ops V a0 w0 (X.setIfInBounds i true) (a.put o.dst v) w' := by
      intro v w' hv hbw
      refine ⟨by cases o.dst <;> exact hI.defers, by cases h : o.dst <;> simpa [Act.put] using hI.size, ?_, ?_, hI.below.trans (hbw.mono hI.below.size)⟩
      · intro t ht
        have h1 : o.dst ≠ some t := by rw [← hdo]; exact ht i (by rw [getD_set_bool _ _ _ hil, if_pos rfl])
        rw [← hI.other t (fun j hj => ht j (hXi j hj))]
        cases h : o.dst with
        | none => rfl
        | some d =>
          simp only [Act.put]
          rw [Array.getElem?_setIfInBounds_ne (fun e => h1 (by rw [h, e]))]
      · intro j d hj hd'
        by_cases hji : j = i
        · subst hji
          rw [hdo] at hd'
          rw [hd']
          simp only [Act.put]
          rw [Array.getD_eq_getD_getElem?, Array.getElem?_setIfInBounds_self_of_lt (by rw [hI.size]; exact hlt _ _ (hdo.trans hd'))]
          exact hv
        · have e : (a.put o.dst v).tmps.getD d undef = a.tmps.getD d undef := by
            cases h : o.dst with
            | none => rfl
            | some d' =>
              have hne : d' ≠ d := fun e => hji (hinj j i d hd' (by rw [hdo, h, e]))
              simp only [Act.put]
              rw [Array.getD_eq_getD_getElem?, Array.getElem?_setIfInBounds_ne hne, ← Array.getD_eq_getD_getElem?]
          rw [e]
          exact hstable j _ w w' hbw (hI.vals j d (hback j hji hj) hd')
    rcases hk with ⟨hw, hdo'⟩ | ⟨hw, hv⟩
    · exact Or.inl ⟨hw, hdo'.wp fun v w' hv => below v w' hv.1 hv.2⟩
    · exact Or.inr ⟨hw, below undef w hv (Below.refl _ _)⟩
  · intro X a w hall hI
    have ea : a = { tmps := fillSlots (fun d => a.tmps.getD d undef) slots a0.tmps, defers := a0.defers } := by
      have e : a.tmps = fillSlots (fun d => a.tmps.getD d undef) slots a0.tmps := by
        apply Array.ext_getElem?
        intro j
        by_cases hj : j < a0.tmps.size
        · rw [get_fillSlots _ _ _ _ hj]
          split
          · rw [Array.getD_eq_getD_getElem?, Array.getElem?_eq_getElem (by rw [hI.size]; exact hj)]; rfl
          · rename_i hn
            refine hI.other j fun i hi e => hn ?_
            have e1 := hget i (hdl i j e)
            rw [e] at e1
            rw [Option.some.inj e1]
            exact List.getElem_mem _
        · rw [Array.getElem?_eq_none (by rw [hI.size]; omega), Array.getElem?_eq_none (by rw [size_fillSlots]; omega)]
      cases a
      simp only at e
      rw [← e, ← hI.defers]
    rw [ea]
    refine hend _ w (fun p hp => ?_) hI.below
    obtain ⟨k, hk, rfl⟩ := List.mem_iff_getElem.1 hp
    rw [List.length_zip, List.length_range] at hk
    rw [List.getElem_zip]
    simp only [List.getElem_range]
    exact hI.vals k _ (hall k (by omega)) (hget k (by omega))
end Go.Proofs.YthjeidgmkkkmbaaGreatDoor

/- Lehmer's leaps: the leading words of two numbers determine steps of Euclid's algorithm (numbers alone). -/
namespace Go.Proofs.YthjeidgmkkkmbaaGreatDoor

/-- A leap under way, a step or more after its start: the leading words A, B; the factors of three successive numbers; the numbers P, Q of the algorithm that the first two belong to. -/
structure Run (X Y K a b A B u0 u1 u2 v0 v1 v2 P Q q : Nat) (odd : Bool) : Prop where
  e1 : v2 * A + v1 * B = a
  e2 : u2 * A + u1 * B = b
  f1 : v1 * P + v0 * Q = X
  f2 : u1 * P + u0 * Q = Y
  r1 : v2 = v0 + q * v1
  r2 : u2 = u0 + q * u1
  d1 : odd = true → u1 * v0 = u0 * v1 + 1
  d0 : odd = false → u0 * v1 = u1 * v0 + 1
  lt : Q < P
  qy : Q ≤ Y
  py : v0 ≠ 0 → P ≤ Y
  yx : Y < X
  uv1 : u1 ≤ v1
  uv2 : u2 ≤ v2
  ba : B < A
  q1 : 1 ≤ q

/-- The first step. -/
theorem Run.start {X Y K a b : Nat} (ha : a = X / K) (hb : b = Y / K) (h1 : 1 ≤ b) (h2 : 1 ≤ a - b) :
    Run X Y K a b b (a % b) 1 0 (1 + a / b * 0) 0 1 (0 + a / b * 1) X Y (a / b) false := by
  have hYX : Y < X := by
    rcases Nat.lt_or_ge Y X with h | h
    · exact h
    · have : a ≤ b := by rw [ha, hb]; exact Nat.div_le_div_right h
      omega
  have hm := Nat.div_add_mod a b
  have hq : 1 ≤ a / b := by rw [Nat.le_div_iff_mul_le (by omega)]; omega
  refine ⟨?_, by simp, by simp, by simp, by simp, by simp, by simp, by simp, hYX, Nat.le_refl _, fun h => absurd rfl h, hYX, by omega, by omega, Nat.mod_lt _ (by omega), hq⟩
  rw [Nat.zero_add, Nat.mul_one, Nat.one_mul, Nat.mul_comm (a / b) b]
  exact hm

section
variable {X Y K a b A B u0 u1 u2 v0 v1 v2 P Q q : Nat} {odd : Bool}

theorem Run.vpos (h : Run X Y K a b A B u0 u1 u2 v0 v1 v2 P Q q odd) : 1 ≤ v1 := by
  rcases Nat.eq_zero_or_pos v1 with h0 | h0
  · have h1 := h.uv1
    have h2 := h.d1; have h3 := h.d0
    obtain rfl : u1 = 0 := by omega
    subst h0
    cases odd
    · have := h3 rfl; omega
    · have := h2 rfl; omega
  · exact h0

theorem ring1 (v0 v1 q Q R : Nat) : (v0 + q * v1) * Q + v1 * R = v1 * (q * Q + R) + v0 * Q := by grind
/-- One more step. -/
theorem Run.step (h : Run X Y K a b A B u0 u1 u2 v0 v1 v2 P Q q odd) (hK : 0 < K) (ha : a = X / K) (hb : b = Y / K) (c1 : v2 ≤ B) (c2 : v1 + v2 ≤ A - B) :
    Run X Y K a b B (A % B) u1 u2 (u1 + A / B * u2) v1 v2 (v1 + A / B * v2) Q (P - q * Q) (A / B) (!odd) ∧ q * Q ≤ P := by
  have hv := h.vpos
  obtain ⟨e1, e2, f1, f2, r1, r2, d1, d0, lt, qy, py, yx, uv1, uv2, ba, _⟩ := h
  have hv2 : 1 ≤ v2 := by
    rcases Nat.eq_zero_or_pos v2 with h0 | h0
    · exfalso
      have hu2 : u2 = 0 := by omega
      have hv0 : v0 = 0 := by omega
      have hq1 : q * v1 = 0 := by omega
      have hq0 : q = 0 := by rcases Nat.mul_eq_zero.1 hq1 with h | h <;> omega
      subst hq0
      have hu0 : u0 = 0 := by omega
      subst hu0; subst hv0
      cases odd
      · have := d0 rfl; omega
      · have := d1 rfl; omega
    · exact h0
  have hB : 0 < B := by omega
  obtain ⟨α, hα⟩ : ∃ α, α = X % K := ⟨_, rfl⟩
  obtain ⟨β, hβ⟩ : ∃ β, β = Y % K := ⟨_, rfl⟩
  have hαK : α < K := by rw [hα]; exact Nat.mod_lt _ hK
  have hβK : β < K := by rw [hβ]; exact Nat.mod_lt _ hK
  have hX : a * K + α = X := by rw [ha, hα, Nat.mul_comm]; exact Nat.div_add_mod X K
  have hY : b * K + β = Y := by rw [hb, hβ, Nat.mul_comm]; exact Nat.div_add_mod Y K
  have hm := Nat.div_add_mod A B
  have hmB : A % B < B := Nat.mod_lt _ hB
  have ht1 : 1 ≤ A / B := by rw [Nat.le_div_iff_mul_le hB]; omega
  have key : q * Q ≤ P ∧ P < q * Q + Q := by
    have m1 : u2 * α ≤ u2 * K := Nat.mul_le_mul_left _ (by omega)
    have m2 : u2 * K ≤ B * K := Nat.mul_le_mul_right _ (by omega)
    have m3 : v2 * β ≤ v2 * K := Nat.mul_le_mul_left _ (by omega)
    have m4 : v2 * K ≤ B * K := Nat.mul_le_mul_right _ c1
    have m5 : (v1 + v2) * β < (v1 + v2) * K := Nat.mul_lt_mul_of_pos_left hβK (by omega)
    have m6 : (v1 + v2) * K ≤ (A - B) * K := Nat.mul_le_mul_right _ c2
    have m7 : (u1 + u2) * α ≤ (v1 + v2) * α := Nat.mul_le_mul_right _ (by omega)
    have m8 : (v1 + v2) * α < (v1 + v2) * K := Nat.mul_lt_mul_of_pos_left hαK (by omega)
    obtain ⟨C, hC⟩ : ∃ C, A = B + C := ⟨A - B, by omega⟩
    have hAB : A - B = C := by omega
    rw [hAB] at m6
    clear hm hmB ht1 c1 c2 lt qy py yx ba hα hβ ha hb hAB
    subst hC
    cases odd with
    | true =>
      have d := d1 rfl
      clear d1 d0
      have k1 : P + u2 * α = q * Q + (B * K + v2 * β) := by grind
      have k2 : Q + (q * Q + (v1 + v2) * β) = P + (C * K + (u1 + u2) * α) := by grind
      constructor
      · omega
      · omega
    | false =>
      have d := d0 rfl
      clear d1 d0
      have k1 : P + v2 * β = q * Q + (B * K + u2 * α) := by grind
      have k2 : Q + (q * Q + (u1 + u2) * α) = P + (C * K + (v1 + v2) * β) := by grind
      constructor
      · omega
      · omega
  refine ⟨⟨?_, ?_, ?_, ?_, rfl, rfl, ?_, ?_, by omega, by omega, fun _ => qy, yx, uv2, ?_, hmB, ht1⟩, key.1⟩
  · grind
  · grind
  · obtain ⟨R, hR⟩ : ∃ R, P = q * Q + R := ⟨P - q * Q, by have := key.1; omega⟩
    rw [show P - q * Q = R by omega, ← f1, r1, hR]
    exact ring1 v0 v1 q Q R
  · obtain ⟨R, hR⟩ : ∃ R, P = q * Q + R := ⟨P - q * Q, by have := key.1; omega⟩
    rw [show P - q * Q = R by omega, ← f2, r2, hR]
    exact ring1 u0 u1 q Q R
  · intro ho
    have d := d0 (by cases odd <;> simp_all)
    grind
  · intro ho
    have d := d1 (by cases odd <;> simp_all)
    grind
  · have : A / B * u2 ≤ A / B * v2 := Nat.mul_le_mul_left _ uv2
    omega

/-- The numbers that a leap leads to. -/
theorem Run.odd_eqs (h : Run X Y K a b A B u0 u1 u2 v0 v1 v2 P Q q true) : P + u0 * X = v0 * Y ∧ Q + v1 * Y = u1 * X := by
  obtain ⟨e1, e2, f1, f2, r1, r2, d1, d0, lt, qy, py, yx, uv1, uv2, ba, _⟩ := h
  have d := d1 rfl
  subst f1; subst f2
  constructor <;> grind
theorem Run.even_eqs (h : Run X Y K a b A B u0 u1 u2 v0 v1 v2 P Q q false) : P + v0 * Y = u0 * X ∧ Q + u1 * X = v1 * Y := by
  obtain ⟨e1, e2, f1, f2, r1, r2, d1, d0, lt, qy, py, yx, uv1, uv2, ba, _⟩ := h
  have d := d0 rfl
  subst f1; subst f2
  constructor <;> grind
theorem dvd_of_add {g m n k : Nat} (h : m + n = k) (h1 : g ∣ n) (h2 : g ∣ k) : g ∣ m := (Nat.dvd_add_left h1).1 (by rw [h]; exact h2)
/-- The greatest divisor stays. -/
theorem Run.gcd (h : Run X Y K a b A B u0 u1 u2 v0 v1 v2 P Q q odd) : Nat.gcd P Q = Nat.gcd X Y := by
  refine Nat.dvd_antisymm (Nat.dvd_gcd ?_ ?_) (Nat.dvd_gcd ?_ ?_)
  · rw [← h.f1]; exact Nat.dvd_add (Nat.dvd_trans (Nat.gcd_dvd_left _ _) (Nat.dvd_mul_left _ _)) (Nat.dvd_trans (Nat.gcd_dvd_right _ _) (Nat.dvd_mul_left _ _))
  · rw [← h.f2]; exact Nat.dvd_add (Nat.dvd_trans (Nat.gcd_dvd_left _ _) (Nat.dvd_mul_left _ _)) (Nat.dvd_trans (Nat.gcd_dvd_right _ _) (Nat.dvd_mul_left _ _))
  · cases odd
    · exact dvd_of_add h.even_eqs.1 (Nat.dvd_trans (Nat.gcd_dvd_right _ _) (Nat.dvd_mul_left _ _)) (Nat.dvd_trans (Nat.gcd_dvd_left _ _) (Nat.dvd_mul_left _ _))
    · exact dvd_of_add h.odd_eqs.1 (Nat.dvd_trans (Nat.gcd_dvd_left _ _) (Nat.dvd_mul_left _ _)) (Nat.dvd_trans (Nat.gcd_dvd_right _ _) (Nat.dvd_mul_left _ _))
  · cases odd
    · exact dvd_of_add h.even_eqs.2 (Nat.dvd_trans (Nat.gcd_dvd_left _ _) (Nat.dvd_mul_left _ _)) (Nat.dvd_trans (Nat.gcd_dvd_right _ _) (Nat.dvd_mul_left _ _))
    · exact dvd_of_add h.odd_eqs.2 (Nat.dvd_trans (Nat.gcd_dvd_right _ _) (Nat.dvd_mul_left _ _)) (Nat.dvd_trans (Nat.gcd_dvd_left _ _) (Nat.dvd_mul_left _ _))
/-- The factors of the next number are no longer than the leading words. -/
theorem Run.short (h : Run X Y K a b A B u0 u1 u2 v0 v1 v2 P Q q odd) : v2 ≤ a ∧ u2 ≤ b := by
  have hA : 0 < A := by have := h.ba; omega
  have h1 := h.e1; have h2 := h.e2
  have h3 : v2 * 1 ≤ v2 * A := Nat.mul_le_mul_left _ hA
  have h4 : u2 * 1 ≤ u2 * A := Nat.mul_le_mul_left _ hA
  omega
/-- All factors go into words. -/
theorem Run.words (h : Run X Y K a b A B u0 u1 u2 v0 v1 v2 P Q q odd) : u0 ≤ b ∧ u1 ≤ b ∧ v0 ≤ a ∧ v1 ≤ a := by
  have h1 := h.short; have h2 := h.r1; have h3 := h.r2
  have h4 : 1 * v1 ≤ q * v1 := Nat.mul_le_mul_right _ h.q1
  have h5 : 1 * u1 ≤ q * u1 := Nat.mul_le_mul_right _ h.q1
  omega
end
end Go.Proofs.YthjeidgmkkkmbaaGreatDoor

/- The leap that two leading words determine: the program's. -/
namespace Go.Proofs.YthjeidgmkkkmbaaGreatDoor
open Go.RowKit

/-- Where a leap is: at its start, or under way. -/
def LeapSt (X Y K a b A B u0 u1 u2 v0 v1 v2 : Nat) (odd : Bool) : Prop :=
  (A = a ∧ B = b ∧ u0 = 0 ∧ u1 = 1 ∧ u2 = 0 ∧ v0 = 0 ∧ v1 = 0 ∧ v2 = 1 ∧ odd = true) ∨ ∃ P Q q, Run X Y K a b A B u0 u1 u2 v0 v1 v2 P Q q odd

section
variable {X Y K a b A B u0 u1 u2 v0 v1 v2 : Nat} {odd : Bool}
theorem LeapSt.le (h : LeapSt X Y K a b A B u0 u1 u2 v0 v1 v2 odd) (hba : b ≤ a) : B ≤ A ∧ A ≤ a ∧ 1 ≤ v2 := by
  rcases h with ⟨rfl, rfl, _, _, _, _, _, rfl, _⟩ | ⟨P, Q, q, h⟩
  · omega
  · have h1 := h.ba; have h2 := h.e1; have h3 := h.vpos; have h4 := h.r1; have h5 := h.uv2
    have hv2 : 1 ≤ v2 := by
      rcases Nat.eq_zero_or_pos v2 with h0 | h0
      · exfalso
        have hu2 : u2 = 0 := by omega
        have hv0 : v0 = 0 := by omega
        have hq1 : q * v1 = 0 := by omega
        have hq0 : q = 0 := by rcases Nat.mul_eq_zero.1 hq1 with h | h <;> omega
        have h6 := h.r2
        subst hq0
        have hu0 : u0 = 0 := by omega
        subst hu0; subst hv0
        have h7 := h.d1; have h8 := h.d0
        cases odd
        · have := h8 rfl; omega
        · have := h7 rfl; omega
      · exact h0
    have : 1 * A ≤ v2 * A := Nat.mul_le_mul_right _ hv2
    omega
/-- What is reckoned on the way goes into a word. -/
theorem LeapSt.short (h : LeapSt X Y K a b A B u0 u1 u2 v0 v1 v2 odd) (ha : 1 ≤ a) : u2 ≤ b ∧ v2 ≤ a := by
  rcases h with ⟨rfl, rfl, _, _, rfl, _, _, rfl, _⟩ | ⟨P, Q, q, h⟩
  · omega
  · have := h.short; omega
theorem LeapSt.sum (h : LeapSt X Y K a b A B u0 u1 u2 v0 v1 v2 odd) (ha : 1 ≤ a) (hB : 1 ≤ B) : v1 + v2 ≤ a := by
  rcases h with ⟨rfl, rfl, _, _, _, _, rfl, rfl, _⟩ | ⟨P, Q, q, h⟩
  · omega
  · have h1 := h.e1; have h2 := h.ba
    have h3 : v2 * 1 ≤ v2 * A := Nat.mul_le_mul_left _ (by omega)
    have h4 : v1 * 1 ≤ v1 * B := Nat.mul_le_mul_left _ hB
    omega
theorem LeapSt.step (h : LeapSt X Y K a b A B u0 u1 u2 v0 v1 v2 odd) (hK : 0 < K) (ha : a = X / K) (hb : b = Y / K) (c1 : v2 ≤ B) (c2 : v1 + v2 ≤ A - B) :
    LeapSt X Y K a b B (A % B) u1 u2 (u1 + A / B * u2) v1 v2 (v1 + A / B * v2) (!odd) := by
  rcases h with ⟨rfl, rfl, rfl, rfl, rfl, rfl, rfl, rfl, rfl⟩ | ⟨P, Q, q, h⟩
  · exact Or.inr ⟨_, _, _, Run.start ha hb (by omega) (by omega)⟩
  · exact Or.inr ⟨_, _, _, (h.step hK ha hb c1 c2).1⟩
end

inductive VWant where
  | is (v : Value)
  | any
def VMeans (_ : World) : VWant → Value → Prop
  | .is x, v => v = x
  | .any, _ => True
def VTab (t : List VWant) (off : Nat) (i : Nat) (v : Value) (w : World) : Prop := VMeans w (t.getD (i - off) .any) v
theorem VTab.stable {t : List VWant} {off : Nat} : ∀ i v w w', Below w.heap.size w w' → VTab t off i v w → VTab t off i v w' := fun _ _ _ _ _ h => h
/-- The box of the leap that is returned, as it was made. -/
structure LBox (b : Nat) (w : World) : Prop where
  c0 : w.cell? ⟨b, 0, none⟩ = some (.int .u64 0)
  c1 : w.cell? ⟨b, 1, none⟩ = some (.int .u64 0)
  c2 : w.cell? ⟨b, 2, none⟩ = some (.int .u64 0)
  c3 : w.cell? ⟨b, 3, none⟩ = some (.int .u64 0)
  c4 : w.cell? ⟨b, 4, none⟩ = some (.bool false)
  f0 : w.frozen? ⟨b, 0, none⟩ = false
  f1 : w.frozen? ⟨b, 1, none⟩ = false
  f2 : w.frozen? ⟨b, 2, none⟩ = false
  f3 : w.frozen? ⟨b, 3, none⟩ = false
  f4 : w.frozen? ⟨b, 4, none⟩ = false
theorem LBox.below {b : Nat} {w w' : World} (h : LBox b w) (hb : Below w.heap.size w w') : LBox b w' :=
  have hl : b < w.heap.size := World.block_lt_of_cell? _ _ h.c0
  ⟨by rw [hb.cell hl]; exact h.c0, by rw [hb.cell hl]; exact h.c1, by rw [hb.cell hl]; exact h.c2, by rw [hb.cell hl]; exact h.c3, by rw [hb.cell hl]; exact h.c4,
    by rw [hb.frozen hl]; exact h.f0, by rw [hb.frozen hl]; exact h.f1, by rw [hb.frozen hl]; exact h.f2, by rw [hb.frozen hl]; exact h.f3, by rw [hb.frozen hl]; exact h.f4⟩

def RetLeap (w : World) (X Y K a b : Nat) : Ending → World → Prop := fun e w' =>
  ∃ A B u0 u1 u2 v0 v1 v2 odd, e = .returned (.tuple #[.agg #[.int .u64 ((u0 : Nat) : Int), .int .u64 ((v0 : Nat) : Int), .int .u64 ((u1 : Nat) : Int), .int .u64 ((v1 : Nat) : Int), .bool odd], .bool (((v0 : Nat) : Int) != 0)]) ∧ LeapSt X Y K a b A B u0 u1 u2 v0 v1 v2 odd ∧ Below w.heap.size w w'

set_option maxRecDepth 100000 in
set_option maxHeartbeats 2000000 in
theorem leapFrom_any (X Y K a b : Nat) (w : World) (hK : 0 < K) (ha : a = X / K) (hb : b = Y / K) (hba : b ≤ a) (ha1 : 1 ≤ a) (ha2 : a < 2 ^ 64) :
    Calls Tryz.prog 107 #[.int .u64 (a : Int), .int .u64 (b : Int)] w (RetLeap w X Y K a b) := by
  have HA := Lib.hid ha; have HB := Lib.hid hb; have HA2 := Lib.hid ha2
  clear ha hb ha2
  go_enter Tryz.func107, Tryz.ntmps107
  go_wp2
  go_loopw [6, 7, 8, 9, 10, 11, 12, 0, 1] (fun x6 x7 x8 x9 x10 x11 x12 x0 x1 wr => ∃ A B u0 u1 u2 v0 v1 v2 odd, x0 = .int .u64 ((A : Nat) : Int) ∧ x1 = .int .u64 ((B : Nat) : Int) ∧ x6 = .int .u64 ((u0 : Nat) : Int) ∧ x7 = .int .u64 ((u1 : Nat) : Int) ∧ x8 = .int .u64 ((u2 : Nat) : Int) ∧ x9 = .int .u64 ((v0 : Nat) : Int) ∧ x10 = .int .u64 ((v1 : Nat) : Int) ∧ x11 = .int .u64 ((v2 : Nat) : Int) ∧ x12 = .bool odd ∧ Hid (LeapSt X Y K a b A B u0 u1 u2 v0 v1 v2 odd) ∧ Hid (LBox w.heap.size wr) ∧ Hid (Below w.heap.size w wr)) (fun _ _ _ _ _ _ _ _ x1 _ => (intOf x1).toNat)
  case atStart => exact ⟨a, b, 0, 1, 0, 0, 0, 1, true, rfl, rfl, rfl, rfl, rfl, rfl, rfl, rfl, rfl, Lib.hid (Or.inl ⟨rfl, rfl, rfl, rfl, rfl, rfl, rfl, rfl, rfl⟩), Lib.hid ⟨by simp [go_sem], by simp [go_sem], by simp [go_sem], by simp [go_sem], by simp [go_sem], by simp [go_sem], by simp [go_sem], by simp [go_sem], by simp [go_sem], by simp [go_sem]⟩, Lib.hid (below_alloc (Below.refl _ _) _)⟩
  case round =>
    obtain ⟨A, B, u0, u1, u2, v0, v1, v2, odd, rfl, rfl, rfl, rfl, rfl, rfl, rfl, rfl, rfl, HI, HL, HW⟩ := hrel
    have hle := HI.out.le hba
    have hsh := HI.out.short ha1
    have ha2 := HA2.out
    by_cases c1 : v2 ≤ B
    · have hsum := HI.out.sum ha1 (by omega)
      have hw1 : IntKind.u64.wrap ((v1 : Int) + (v2 : Int)) = ((v1 + v2 : Nat) : Int) := by rw [IntKind.wrap_u64]; omega
      have hw2 : IntKind.u64.wrap ((A : Int) - (B : Int)) = ((A - B : Nat) : Int) := by rw [IntKind.wrap_u64]; omega
      by_cases c2 : v1 + v2 ≤ A - B
      · have hn := HI.out.step hK HA.out HB.out c1 c2
        have hn2 := hn.short ha1
        have HN := Lib.hid hn
        have hr : A % B < B := Nat.mod_lt _ (by omega)
        have hw3 : IntKind.u64.wrap ((A : Int) / (B : Int)) = ((A / B : Nat) : Int) := by
          rw [← Int.natCast_ediv, IntKind.wrap_u64]
          have := Nat.div_le_self A B
          generalize A / B = t at *
          omega
        have hw4 : IntKind.u64.wrap ((A : Int) % (B : Int)) = ((A % B : Nat) : Int) := by
          rw [← Int.natCast_emod, IntKind.wrap_u64]
          omega
        have hw5 : IntKind.u64.wrap (((A / B : Nat) : Int) * (u2 : Int)) = ((A / B * u2 : Nat) : Int) := by
          rw [← Int.natCast_mul, IntKind.wrap_u64]
          omega
        have hw6 : IntKind.u64.wrap ((u1 : Int) + ((A / B * u2 : Nat) : Int)) = ((u1 + A / B * u2 : Nat) : Int) := by rw [IntKind.wrap_u64]; omega
        have hw7 : IntKind.u64.wrap (((A / B : Nat) : Int) * (v2 : Int)) = ((A / B * v2 : Nat) : Int) := by
          rw [← Int.natCast_mul, IntKind.wrap_u64]
          omega
        have hw8 : IntKind.u64.wrap ((v1 : Int) + ((A / B * v2 : Nat) : Int)) = ((v1 + A / B * v2 : Nat) : Int) := by rw [IntKind.wrap_u64]; omega
        have hw9 : (A : Int).tmod (B : Int) = ((A % B : Nat) : Int) := by rw [Int.tmod_eq_emod_of_nonneg (by omega)]; exact (Int.natCast_emod A B).symm
        have hBn : B ≠ 0 := by omega
        obtain ⟨n2, e2⟩ : ∃ n2, n2 = v1 + A / B * v2 := ⟨_, rfl⟩
        obtain ⟨n1, e1⟩ : ∃ n1, n1 = u1 + A / B * u2 := ⟨_, rfl⟩
        obtain ⟨m2, e4⟩ : ∃ n2, n2 = A / B * v2 := ⟨_, rfl⟩
        obtain ⟨m1, e3⟩ : ∃ n1, n1 = A / B * u2 := ⟨_, rfl⟩
        obtain ⟨t, e5⟩ : ∃ t, t = A / B := ⟨_, rfl⟩
        obtain ⟨r, e6⟩ : ∃ t, t = A % B := ⟨_, rfl⟩
        rw [← e1, ← e2, ← e6] at HN
        rw [← e2] at hw8; rw [← e1] at hw6; rw [← e4] at hw7 hw8; rw [← e3] at hw5 hw6; rw [← e5] at hw3 hw5 hw7; rw [← e6] at hw4 hw9 hr
        obtain ⟨s, es⟩ : ∃ s, s = v1 + v2 := ⟨_, rfl⟩
        obtain ⟨d, ed⟩ : ∃ d, d = A - B := ⟨_, rfl⟩
        rw [← es] at hw1 c2; rw [← ed] at hw2 c2
        have hB0 : (B : Int) ≠ 0 := by omega
        clear e1 e2 e3 e4 e5 e6 es ed hn hn2 hsum hsh hle HI ha2
        go_wp2
--REGION5
        refine region_v (slots := [29, 30, 31, 32, 0, 1]) (V := VTab [.is (.int .u64 ((B : Nat) : Int)), .is (.int .u64 ((A : Nat) : Int)), .is (.int .u64 ((B : Nat) : Int)), .is (.int .u64 ((r : Nat) : Int)), .is (.int .u64 ((B : Nat) : Int)), .is (.int .u64 ((r : Nat) : Int))] 0) (by kernel_rfl) (by kernel_rfl) VTab.stable (by kernel_rfl) (by kernel_rfl) ?_ ?_
        · skip
          refine AllV.cons rfl (fun E W hb hc hf hE hV => Or.inl ⟨rfl, ?_⟩) ?_
          · have e1 : E (.tmp 1) = .int .u64 ((B : Nat) : Int) := hE 1 (by kernel_rfl)
            clear hE hV
            exact Does.value (w' := W) (by go_simp) ⟨rfl, Below.refl _ _⟩
          refine AllV.cons rfl (fun E W hb hc hf hE hV => Or.inl ⟨rfl, ?_⟩) ?_
          · have e1 : E (.tmp 0) = .int .u64 ((A : Nat) : Int) := hE 0 (by kernel_rfl)
            clear hE hV
            exact Does.value (w' := W) (by go_simp) ⟨rfl, Below.refl _ _⟩
          refine AllV.cons rfl (fun E W hb hc hf hE hV => Or.inl ⟨rfl, ?_⟩) ?_
          · have e1 : E (.tmp 1) = .int .u64 ((B : Nat) : Int) := hE 1 (by kernel_rfl)
            clear hE hV
            exact Does.value (w' := W) (by go_simp) ⟨rfl, Below.refl _ _⟩
          refine AllV.cons rfl (fun E W hb hc hf hE hV => Or.inl ⟨rfl, ?_⟩) ?_
          · have e1 : E (.tmp 30) = _ := hV 1 30 (by kernel_rfl) (by kernel_rfl)
            have e2 : E (.tmp 31) = _ := hV 2 31 (by kernel_rfl) (by kernel_rfl)
            clear hE hV
            exact Does.value (w' := W) (by go_simp) ⟨rfl, Below.refl _ _⟩
          refine AllV.cons rfl (fun E W hb hc hf hE hV => Or.inl ⟨rfl, ?_⟩) ?_
          · have e1 : E (.tmp 29) = _ := hV 0 29 (by kernel_rfl) (by kernel_rfl)
            clear hE hV
            exact Does.value (w' := W) (by go_simp) ⟨rfl, Below.refl _ _⟩
          refine AllV.cons rfl (fun E W hb hc hf hE hV => Or.inl ⟨rfl, ?_⟩) ?_
          · have e1 : E (.tmp 32) = _ := hV 3 32 (by kernel_rfl) (by kernel_rfl)
            clear hE hV
            exact Does.value (w' := W) (by go_simp) ⟨rfl, Below.refl _ _⟩
          exact AllV.nil
--END5
        intro f W hf hb
        have g0 : f 29 = .int .u64 ((B : Nat) : Int) := hf (0, 29) (by decide)
        have g1 : f 30 = .int .u64 ((A : Nat) : Int) := hf (1, 30) (by decide)
        have g2 : f 31 = .int .u64 ((B : Nat) : Int) := hf (2, 31) (by decide)
        have g3 : f 32 = .int .u64 ((r : Nat) : Int) := hf (3, 32) (by decide)
        have g4 : f 0 = .int .u64 ((B : Nat) : Int) := hf (4, 0) (by decide)
        have g5 : f 1 = .int .u64 ((r : Nat) : Int) := hf (5, 1) (by decide)
        have HL2 := Lib.hid (HL.out.below hb)
        have HW2 := Lib.hid (below_step HW.out hb)
        clear hf hb HL HW
        simp only [fillSlots, List.setIfInBounds_toArray, List.set_cons_succ, List.set_cons_zero, g0, g1, g2, g3, g4, g5]
        clear g0 g1 g2 g3 g4 g5
        go_wp2
        go_roundw
        case rel => exact ⟨B, r, u1, u2, n1, v1, v2, n2, !odd, rfl, rfl, rfl, rfl, rfl, rfl, rfl, rfl, rfl, HN, HL2, HW2⟩
        case measure => simp [intOf]; omega
      · obtain ⟨s, es⟩ : ∃ s, s = v1 + v2 := ⟨_, rfl⟩
        obtain ⟨d, ed⟩ : ∃ d, d = A - B := ⟨_, rfl⟩
        rw [← es] at hw1 c2; rw [← ed] at hw2 c2
        clear es ed hsum hsh hle ha2
        obtain ⟨k0, k1, k2, k3, k4, f0, f1, f2, f3, f4⟩ := HL.out
        go_wp2
        exact bodyPost_ret (v := .tuple #[.agg #[.int .u64 (u0 : Int), .int .u64 (v0 : Int), .int .u64 (u1 : Int), .int .u64 (v1 : Int), .bool odd], .bool ((v0 : Int) != 0)]) (by simp [results, Tryz.results107, go_sem, k0, k1, k2, k3, k4]) rfl ⟨A, B, u0, u1, u2, v0, v1, v2, odd, rfl, HI.out, ((((HW.out.setCell (Nat.le_refl _) _).setCell (Nat.le_refl _) _).setCell (Nat.le_refl _) _).setCell (Nat.le_refl _) _).setCell (Nat.le_refl _) _⟩
    · clear hsh hle ha2
      obtain ⟨k0, k1, k2, k3, k4, f0, f1, f2, f3, f4⟩ := HL.out
      go_wp2
      exact bodyPost_ret (v := .tuple #[.agg #[.int .u64 (u0 : Int), .int .u64 (v0 : Int), .int .u64 (u1 : Int), .int .u64 (v1 : Int), .bool odd], .bool ((v0 : Int) != 0)]) (by simp [results, Tryz.results107, go_sem, k0, k1, k2, k3, k4]) rfl ⟨A, B, u0, u1, u2, v0, v1, v2, odd, rfl, HI.out, ((((HW.out.setCell (Nat.le_refl _) _).setCell (Nat.le_refl _) _).setCell (Nat.le_refl _) _).setCell (Nat.le_refl _) _).setCell (Nat.le_refl _) _⟩
end Go.Proofs.YthjeidgmkkkmbaaGreatDoor
