/- A phase of an open statement some of whose operations their guards pass over. -/
import Derived.Test.YtmhpaadanpianaaDoorRegion
namespace Go.Proofs.YtmhpaadanpianaaDoor
open Go.RowKit

section
variable {P : Program} {md : Region.Mode} {ops : Array Oper} {T : List Nat} {V : Nat → Value → World → Prop} {a0 : Act} {w0 : World} {Q : Exit → Act → World → Prop}

def lets (b : Bool) : Value → Bool
  | .bool c => c == b
  | _ => false
theorem unwanted_of {o : Oper} {E : Operand → Value} {g d : Nat} {b : Bool} {v : Value} (hg : o.guard = some (g, b)) (hd : dstOf ops g = some d) (hE : E (.tmp d) = v) (hv : lets b v = false) : wantedE ops o E = false := by
  unfold wantedE
  rw [hg]
  simp only [hd, hE]
  cases v <;> first | rfl | exact hv

/-- What is to be shown of an operation that its guard passes over. -/
def OpPass (md : Region.Mode) (ops : Array Oper) (T slots : List Nat) (V : Nat → Value → World → Prop) (a0 : Act) (w0 : World) (i : Nat) (o : Oper) : Prop :=
  ∀ (E : Operand → Value) (w : World), Below w0.heap.size w0 w →
    (∀ v, E (.const v) = v) → (∀ f, E (.func f) = .func (.func f) #[] #[]) → (∀ t, slots.contains t = false → E (.tmp t) = a0.tmps.getD t undef) →
    (∀ j d, T.contains j = true → (o.after.any fun e => e.on == j && Region.binds md e) = true → dstOf ops j = some d → V j (E (.tmp d)) w) →
    wantedE ops o E = false ∧ V i undef w

theorem OpPass.ok {i : Nat} {o : Oper} {slots : List Nat} (hs : T.map (dstOf ops) = slots.map some) (ho : ops[i]? = some o) (h : OpPass md ops T slots V a0 w0 i o) :
    OpOk P md ops T V a0 w0 i := by
  refine OpOk.mk ho fun E w hb hE hV => Or.inr (h E w hb (fun v => ?_) (fun f => ?_) (fun t ht => ?_) fun j d hj he hd => hV j (by simpa using hj) he d hd)
  · rw [hE _ (by intro j _ d _ e; cases e)]; rfl
  · rw [hE _ (by intro j _ d _ e; cases e)]; rfl
  · rw [hE]; · rfl
    intro j hj d hd e
    injection e with e
    subst e
    have : some t ∈ T.map (dstOf ops) := List.mem_map.2 ⟨j, hj, hd⟩
    rw [hs] at this
    obtain ⟨k, hk, hk2⟩ := List.mem_map.1 this
    injection hk2 with hk2
    subst hk2
    simp at ht
    exact ht hk

def AllWay (P : Program) (md : Region.Mode) (ops : Array Oper) (T slots : List Nat) (V : Nat → Value → World → Prop) (a0 : Act) (w0 : World) : List Nat → Prop
  | [] => True
  | i :: is => (∃ o, ops[i]? = some o ∧ (OpGo P md ops T slots V a0 w0 i o ∨ OpPass md ops T slots V a0 w0 i o)) ∧ AllWay P md ops T slots V a0 w0 is
theorem AllWay.cons {i : Nat} {o : Oper} {slots is : List Nat} (ho : ops[i]? = some o) (h : OpGo P md ops T slots V a0 w0 i o) (hs : AllWay P md ops T slots V a0 w0 is) :
    AllWay P md ops T slots V a0 w0 (i :: is) := ⟨⟨o, ho, Or.inl h⟩, hs⟩
theorem AllWay.pass {i : Nat} {o : Oper} {slots is : List Nat} (ho : ops[i]? = some o) (h : OpPass md ops T slots V a0 w0 i o) (hs : AllWay P md ops T slots V a0 w0 is) :
    AllWay P md ops T slots V a0 w0 (i :: is) := ⟨⟨o, ho, Or.inr h⟩, hs⟩
theorem AllWay.nil {slots : List Nat} : AllWay P md ops T slots V a0 w0 [] := trivial
theorem AllWay.ok {slots : List Nat} (hs : T.map (dstOf ops) = slots.map some) : ∀ is, AllWay P md ops T slots V a0 w0 is → ∀ i ∈ is, OpOk P md ops T V a0 w0 i
  | [], _ => ok_nil
  | _ :: is, ⟨⟨_, ho, h⟩, h2⟩ => ok_cons (h.elim (fun h => h.ok hs ho) (fun h => h.ok hs ho)) (AllWay.ok hs is h2)

theorem region_phase2 {id : Nat} {slots deps : List Nat} {L : Array Bool} {fuel n Tm Lm : Nat} (hm : P.follows .mixedOrders = true) (hfn : ops.size = fuel + n)
    (hstable : ∀ i v w w', Below w.heap.size w w' → V i v w → V i v w') (hdeps : waitList .any ops = deps)
    (hp : phaseOk deps Tm Lm n [0] = true)
    (hT : (((List.range ops.size).all fun i => !Tm.testBit i || T.contains i) && !Nat.ble (2 ^ ops.size) Tm) = true)
    (hL : (((List.range ops.size).all fun i => L.getD i false == Lm.testBit i) && !Nat.ble (2 ^ ops.size) Lm && L.size == ops.size) = true)
    (hnew : T.all (fun j => L.getD j false) = true)
    (hs : T.map (dstOf ops) = slots.map some) (hnd : (decide slots.Nodup && slots.all (fun d => decide (d < a0.tmps.size))) = true)
    (hok : AllWay P .any ops T slots V a0 w0 T)
    (rest : ∀ (f : Nat → Value) (w : World), (∀ p ∈ T.zip slots, V p.1 (f p.2) w) → Below w0.heap.size w0 w →
      wpAny P .any ops Q fuel L { tmps := fillSlots f slots a0.tmps, defers := a0.defers } w) :
    (Code.region id ops true).wp P Q a0 w0 := by
  refine wp_region_any hm ?_
  have h0 : ∀ i, (Array.replicate ops.size false).getD i false = false := by
    intro i
    rw [Array.getD_eq_getD_getElem?]
    by_cases hi : i < ops.size
    · rw [Array.getElem?_replicate, if_pos hi]; rfl
    · rw [Array.getElem?_replicate, if_neg hi]; rfl
  have : wpAny P .any ops Q (fuel + n) (Array.replicate ops.size false) a0 { w0 with drawn := w0.drawn + 1 } := by
    refine wpAny_phase (w1 := w0.drew) (Lm0 := 0) (Below.refl _ _).drew hstable hdeps hp hT hL ?_ ?_ hs hnd (hok.ok hs T) rest
    · simp only [Bool.and_eq_true, Bool.not_eq_true', beq_iff_eq]
      refine ⟨⟨List.all_eq_true.2 fun i _ => by rw [h0]; simp, ?_⟩, by simp⟩
      have h : ¬ 2 ^ ops.size ≤ 0 := by have := Nat.two_pow_pos ops.size; omega
      cases hb : Nat.ble (2 ^ ops.size) 0 with
      | false => rfl
      | true => exact absurd (Nat.le_of_ble_eq_true hb) h
    · refine List.all_eq_true.2 fun j hj => ?_
      rw [h0]
      simpa using List.all_eq_true.1 hnew j hj
  rw [hfn] at this
  rw [hfn]
  exact this
end
end Go.Proofs.YtmhpaadanpianaaDoor
