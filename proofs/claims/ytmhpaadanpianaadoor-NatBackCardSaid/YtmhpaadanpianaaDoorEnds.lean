/- An open statement's phase that ends in several ways: so many operations are done, but not always the same ones. -/
import Derived.Test.YtmhpaadanpianaaDoorRegion
namespace Go.Proofs.YtmhpaadanpianaaDoor
open Go.RowKit

def phaseTo (deps : List Nat) (T : Nat) : Nat → List Nat → Bool
  | 0, _ => true
  | n + 1, ms => ms.all (fun m => !(readyBits m 0 deps).isEmpty && (readyBits m 0 deps).all (T.testBit ·)) && phaseTo deps T n (nextBits deps ms)
def endsOf (deps : List Nat) : Nat → List Nat → List Nat
  | 0, ms => ms
  | n + 1, ms => endsOf deps n (nextBits deps ms)
def bitsArr (n m : Nat) : Array Bool := ((List.range n).map fun i => m.testBit i).toArray

section
variable {P : Program} {md : Region.Mode} {ops : Array Oper} {T : List Nat} {V : Nat → Value → World → Prop} {a0 : Act} {w0 : World} {Q : Exit → Act → World → Prop}

theorem bitsArr_of {X : Array Bool} {n m : Nat} (h : SameBits X m) (hs : X.size = n) : X = bitsArr n m := by
  apply Array.ext
  · simp [bitsArr, hs]
  · intro i h1 h2
    have h3 := h i
    rw [Array.getD_eq_getD_getElem?, Array.getElem?_eq_getElem h1, Option.getD_some] at h3
    rw [h3]
    simp [bitsArr]

theorem phase_runs (hstable : ∀ i v w w', Below w.heap.size w w' → V i v w → V i v w') (hok : ∀ i ∈ T, OpOk P md ops T V a0 w0 i)
    (hdst : ∀ i ∈ T, ∃ d, dstOf ops i = some d ∧ d < a0.tmps.size) (hinj : ∀ i ∈ T, ∀ j ∈ T, j ≠ i → dstOf ops j ≠ dstOf ops i) (fuel : Nat)
    {deps : List Nat} {Tm : Nat} (hdeps : waitList md ops = deps) (hTm : ∀ i, Tm.testBit i = true → i ∈ T) :
    ∀ n ms, phaseTo deps Tm n ms = true →
      (∀ m ∈ endsOf deps n ms, ∀ X, SameBits X m → X.size = ops.size → ∀ a w, Inv ops T V a0 w0 X a w → wpAny P md ops Q fuel X a w) →
      ∀ m ∈ ms, ∀ X, SameBits X m → X.size = ops.size → ∀ a w, Inv ops T V a0 w0 X a w → wpAny P md ops Q (fuel + n) X a w := by
  intro n
  induction n with
  | zero =>
    intro ms hp rest m hm X hX hs a w hI
    exact rest m hm X hX hs a w hI
  | succ n ih =>
    intro ms hp rest m hm X hX hs a w hI
    simp only [phaseTo, Bool.and_eq_true] at hp
    obtain ⟨hp1, hp2⟩ := hp
    have h1 := List.all_eq_true.1 hp1 m hm
    simp only [Bool.and_eq_true] at h1
    obtain ⟨h1, h2⟩ := h1
    refine ⟨fun hr => ?_, fun i hi => ?_⟩
    · exfalso
      cases hrb : readyBits m 0 deps with
      | nil => rw [hrb] at h1; simp at h1
      | cons k ks =>
        have : k ∈ Region.ready md ops X := (ready_bits hX hs k).2 (by rw [hdeps, hrb]; exact List.mem_cons_self ..)
        rw [hr] at this
        cases this
    have hib := (ready_bits hX hs i).1 hi
    rw [hdeps] at hib
    have hiT : i ∈ T := hTm i (List.all_eq_true.1 h2 i hib)
    obtain ⟨d, hd, hdl⟩ := hdst i hiT
    obtain ⟨o, ho, hod⟩ : ∃ o, ops[i]? = some o ∧ o.dst = some d := by
      unfold dstOf at hd
      cases ho : ops[i]? with
      | none => rw [ho] at hd; simp at hd
      | some o => rw [ho] at hd; exact ⟨o, rfl, by simpa using hd⟩
    have hil : i < ops.size := by
      obtain ⟨h, _⟩ := Array.getElem?_eq_some_iff.1 ho
      exact h
    have hinj' : ∀ j ∈ T, j ≠ i → dstOf ops j ≠ some d := fun j hj hne => by rw [← hd]; exact hinj i hiT j hj hne
    have hmem : (m ||| 2 ^ i) ∈ nextBits deps ms := by
      refine mem_addBit _ _ _ (Or.inl ?_)
      exact List.mem_flatMap.2 ⟨m, hm, List.mem_map.2 ⟨i, hib, rfl⟩⟩
    have hready : ∀ j, (o.after.any fun e => e.on == j && Region.binds md e) = true → X.getD j false = true := by
      intro j hj
      simp only [Region.ready, List.mem_filter, Bool.and_eq_true, ho, Option.map_some, Option.getD_some] at hi
      obtain ⟨_, _, hall⟩ := hi
      obtain ⟨k, hk, hke⟩ := Array.any_eq_true.1 hj
      have := Array.all_eq_true.1 hall k hk
      simp only [Bool.and_eq_true, beq_iff_eq] at hke
      obtain ⟨e1, e2⟩ := hke
      simp only [Bool.or_eq_true, Bool.not_eq_true', e2] at this
      rcases this with h | h
      · cases h
      · rw [← e1]; exact h
    have hk := hok i hiT o ho a.eval w hI.below
      (fun x hx => by
        cases x with
        | tmp t =>
          simp only [Act.eval, Array.getD_eq_getD_getElem?]
          rw [hI.other t (fun j hj e => hx j hj t e rfl)]
        | _ => rfl)
      (fun j hj he d' hd' => hI.vals j hj (hready j he) d' hd')
    have key : ∀ v w', V i v w' ∧ Below w.heap.size w w' → wpAny P md ops Q (fuel + n) (X.setIfInBounds i true) (a.put o.dst v) w' := by
      rintro v w' ⟨hv, hb⟩
      rw [hod]
      exact ih (nextBits deps ms) hp2 rest _ hmem _ (hX.set (by omega)) (by simpa using hs) _ _ (hI.put hstable hiT hd hdl hinj' hv hb)
    show wpOp P ops Q i (wpAny P md ops Q (fuel + n) (X.setIfInBounds i true)) a w
    unfold wpOp
    simp only [ho]
    rw [wantedE_eval]
    rcases hk with ⟨hw, hd1⟩ | ⟨hw, hv⟩
    · rw [hw]
      simp only [if_true]
      exact Or.inl (hd1.wp key)
    · rw [hw]
      simp only [Bool.false_eq_true, if_false]
      exact key _ _ ⟨hv, Below.refl _ _⟩


/-- What an end leaves to do. -/
def AtEnd (P : Program) (ops : Array Oper) (Q : Exit → Act → World → Prop) (T slots : List Nat) (V : Nat → Value → World → Prop) (a0 : Act) (w0 : World) (fuel m : Nat) : Prop :=
  ∀ (f : Nat → Value) (w : World), (∀ p ∈ T.zip slots, m.testBit p.1 = true → V p.1 (f p.2) w) → Below w0.heap.size w0 w →
      wpAny P .any ops Q fuel (bitsArr ops.size m) { tmps := fillSlots f slots a0.tmps, defers := a0.defers } w
def AllEnds (P : Program) (ops : Array Oper) (Q : Exit → Act → World → Prop) (T slots : List Nat) (V : Nat → Value → World → Prop) (a0 : Act) (w0 : World) (fuel : Nat) : List Nat → Prop
  | [] => True
  | m :: ms => AtEnd P ops Q T slots V a0 w0 fuel m ∧ AllEnds P ops Q T slots V a0 w0 fuel ms
theorem AllEnds.get {slots : List Nat} {fuel : Nat} : ∀ ms, AllEnds P ops Q T slots V a0 w0 fuel ms → ∀ m ∈ ms, AtEnd P ops Q T slots V a0 w0 fuel m
  | [], _, _, h => by cases h
  | _ :: ms, ⟨h1, h2⟩, m, hm => by
    rcases List.mem_cons.1 hm with rfl | hm
    · exact h1
    · exact AllEnds.get ms h2 m hm

/-- The first n operations, all of T, in whatever order they come up; then from each set of them that may be done, the rest. -/
theorem region_ends {id : Nat} {slots deps ends : List Nat} {fuel n Tm : Nat} (hm : P.follows .mixedOrders = true) (hfn : ops.size = fuel + n)
    (hstable : ∀ i v w w', Below w.heap.size w w' → V i v w → V i v w') (hdeps : waitList .any ops = deps)
    (hp : phaseTo deps Tm n [0] = true) (hends : endsOf deps n [0] = ends)
    (hT : (((List.range ops.size).all fun i => !Tm.testBit i || T.contains i) && !Nat.ble (2 ^ ops.size) Tm) = true)
    (hs : T.map (dstOf ops) = slots.map some) (hnd : (decide slots.Nodup && slots.all (fun d => decide (d < a0.tmps.size))) = true)
    (hok : AllGo P .any ops T slots V a0 w0 T) (rest : AllEnds P ops Q T slots V a0 w0 fuel ends) :
    (Code.region id ops true).wp P Q a0 w0 := by
  refine wp_region_any hm ?_
  simp only [Bool.and_eq_true, Bool.not_eq_true'] at hT hnd
  have hlen : T.length = slots.length := by simpa using congrArg List.length hs
  have hget : ∀ k (hk : k < T.length), dstOf ops T[k] = some (slots[k]'(by omega)) := by
    intro k hk
    have h1 : (T.map (dstOf ops))[k]? = (slots.map some)[k]? := by rw [hs]
    rw [List.getElem?_map, List.getElem?_map, List.getElem?_eq_getElem hk, List.getElem?_eq_getElem (by omega : k < slots.length)] at h1
    simpa using h1
  have h0 : ∀ i, (Array.replicate ops.size false).getD i false = false := by
    intro i
    rw [Array.getD_eq_getD_getElem?]
    by_cases hi : i < ops.size
    · rw [Array.getElem?_replicate, if_pos hi]; rfl
    · rw [Array.getElem?_replicate, if_neg hi]; rfl
  have : wpAny P .any ops Q (fuel + n) (Array.replicate ops.size false) a0 { w0 with drawn := w0.drawn + 1 } := by
    refine phase_runs hstable (hok.ok hs T) (fun i hi => ?_) (fun i hi j hj hne e => ?_) fuel hdeps (bits_mem hT.1 hT.2) n [0] hp (fun m hmm X hX hXs a w hI => ?_) 0 (by simp) _ (fun i => by rw [h0]; simp) (by simp)
      a0 w0.drew ⟨rfl, rfl, fun _ _ => rfl, fun j _ hx => ?_, (Below.refl _ _).drew⟩
    · obtain ⟨k, hk, rfl⟩ := List.mem_iff_getElem.1 hi
      refine ⟨_, hget k hk, ?_⟩
      have := List.all_eq_true.1 hnd.2 (slots[k]'(by omega)) (List.getElem_mem _)
      simpa using this
    · obtain ⟨k, hk, rfl⟩ := List.mem_iff_getElem.1 hi
      obtain ⟨l, hl, rfl⟩ := List.mem_iff_getElem.1 hj
      rw [hget k hk, hget l hl] at e
      injection e with e
      have hn := of_decide_eq_true hnd.1
      have : l = k := (List.getElem_inj hn).1 e
      subst this
      exact hne rfl
    · rw [hends] at hmm
      rw [bitsArr_of hX hXs, hI.act hs]
      refine AllEnds.get ends rest m hmm _ w (fun p hp' hb => ?_) hI.below
      obtain ⟨k, hk, rfl⟩ := List.mem_iff_getElem.1 hp'
      rw [List.length_zip] at hk
      rw [List.getElem_zip] at hb ⊢
      have hk' : k < T.length := by omega
      exact hI.vals T[k] (List.getElem_mem _) (by rw [hX]; exact hb) _ (hget k hk')
    · rw [h0] at hx
      cases hx
  rw [hfn] at this
  rw [hfn]
  exact this
end
end Go.Proofs.YtmhpaadanpianaaDoor
