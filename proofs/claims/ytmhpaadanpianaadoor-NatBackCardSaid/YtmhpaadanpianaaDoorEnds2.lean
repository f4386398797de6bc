/- A phase in which two boxes are made, in either order: they are two. -/
import Derived.Test.YtmhpaadanpianaaDoorEnds
namespace Go.Proofs.YtmhpaadanpianaaDoor
open Go.RowKit

/-- The value points to a block that was made by the step. -/
def NewP (w w' : World) (v : Value) : Prop := ∃ b, v = .pointer (some ⟨b, 0, none⟩) ∧ w.heap.size ≤ b ∧ b < w'.heap.size

structure Fresh2 (i1 i2 d1 d2 : Nat) (X : Array Bool) (a : Act) (w : World) : Prop where
  one : X.getD i1 false = true → ∃ b, a.tmps.getD d1 undef = .pointer (some ⟨b, 0, none⟩) ∧ b < w.heap.size
  two : X.getD i2 false = true → ∃ b, a.tmps.getD d2 undef = .pointer (some ⟨b, 0, none⟩) ∧ b < w.heap.size
  ne : X.getD i1 false = true → X.getD i2 false = true → a.tmps.getD d1 undef ≠ a.tmps.getD d2 undef

theorem put_self {a : Act} {d : Nat} {v : Value} (h : d < a.tmps.size) : (a.put (some d) v).tmps.getD d undef = v := by
  simp only [Act.put]
  rw [Array.getD_eq_getD_getElem?, Array.getElem?_setIfInBounds_self_of_lt h]
  rfl
theorem put_ne {a : Act} {d d' : Nat} {v : Value} (h : d ≠ d') : (a.put (some d) v).tmps.getD d' undef = a.tmps.getD d' undef := by
  simp only [Act.put]
  rw [Array.getD_eq_getD_getElem?, Array.getElem?_setIfInBounds_ne h, ← Array.getD_eq_getD_getElem?]
theorem setb_ne {X : Array Bool} {i j : Nat} (h : i ≠ j) : (X.setIfInBounds i true).getD j false = X.getD j false := by
  rw [Array.getD_eq_getD_getElem?, Array.getElem?_setIfInBounds_ne h, ← Array.getD_eq_getD_getElem?]

theorem Fresh2.put {i1 i2 d1 d2 i d : Nat} {X : Array Bool} {a : Act} {w w' : World} {v : Value} (h : Fresh2 i1 i2 d1 d2 X a w) (hi : i1 ≠ i2) (hd : d < a.tmps.size)
    (h1 : i = i1 → d = d1 ∧ NewP w w' v) (h2 : i = i2 → d = d2 ∧ NewP w w' v) (n1 : i ≠ i1 → d ≠ d1) (n2 : i ≠ i2 → d ≠ d2) (hw : w.heap.size ≤ w'.heap.size) :
    Fresh2 i1 i2 d1 d2 (X.setIfInBounds i true) (a.put (some d) v) w' := by
  by_cases e1 : i = i1
  · obtain ⟨rfl, b, rfl, hb1, hb2⟩ := h1 e1
    subst e1
    refine ⟨fun _ => ⟨b, put_self hd, hb2⟩, fun hx => ?_, fun _ hx => ?_⟩
    · rw [setb_ne hi] at hx
      rw [put_ne (n2 hi)]
      obtain ⟨b', e, hb'⟩ := h.two hx
      exact ⟨b', e, by omega⟩
    · rw [setb_ne hi] at hx
      rw [put_self hd, put_ne (n2 hi)]
      obtain ⟨b', e, hb'⟩ := h.two hx
      rw [e]
      intro e'
      injection e' with e'
      injection e' with e'
      injection e' with e'
      omega
  · by_cases e2 : i = i2
    · obtain ⟨rfl, b, rfl, hb1, hb2⟩ := h2 e2
      subst e2
      refine ⟨fun hx => ?_, fun _ => ⟨b, put_self hd, hb2⟩, fun hx _ => ?_⟩
      · rw [setb_ne e1] at hx
        rw [put_ne (n1 e1)]
        obtain ⟨b', e, hb'⟩ := h.one hx
        exact ⟨b', e, by omega⟩
      · rw [setb_ne e1] at hx
        rw [put_self hd, put_ne (n1 e1)]
        obtain ⟨b', e, hb'⟩ := h.one hx
        rw [e]
        intro e'
        injection e' with e'
        injection e' with e'
        injection e' with e'
        omega
    · refine ⟨fun hx => ?_, fun hx => ?_, fun hx hy => ?_⟩
      · rw [setb_ne e1] at hx
        rw [put_ne (n1 e1)]
        obtain ⟨b', e, hb'⟩ := h.one hx
        exact ⟨b', e, by omega⟩
      · rw [setb_ne e2] at hx
        rw [put_ne (n2 e2)]
        obtain ⟨b', e, hb'⟩ := h.two hx
        exact ⟨b', e, by omega⟩
      · rw [setb_ne e1] at hx
        rw [setb_ne e2] at hy
        rw [put_ne (n1 e1), put_ne (n2 e2)]
        exact h.ne hx hy

/-- The operation makes a box. -/
def Makes (P : Program) (o : Oper) : Prop := o.guard = none ∧ ∀ E w, ∃ obj, (execOp E o).run P w = .ok (.value (.pointer (some ⟨w.heap.size, 0, none⟩))) (w.alloc obj)

theorem Does.fresh {P : Program} {o : Oper} {E : Operand → Value} {w : World} {R : Value → World → Prop} {c : Prop} (h : Does P o E w R) (hc : c → Makes P o) :
    Does P o E w fun v w' => R v w' ∧ (c → NewP w w' v) := by
  by_cases h0 : c
  · obtain ⟨obj, hr⟩ := (hc h0).2 E w
    unfold Does at h ⊢
    rw [hr] at h ⊢
    exact ⟨h, fun _ => ⟨w.heap.size, rfl, Nat.le_refl _, by simp⟩⟩
  · unfold Does at h ⊢
    generalize (execOp E o).run P w = r at *
    cases r with
    | ok n w' =>
      cases n with
      | value v => exact ⟨h, fun hh => absurd hh h0⟩
      | skip => exact ⟨h, fun hh => absurd hh h0⟩
      | enter f args =>
        refine Calls.mono h fun e w'' he => ?_
        obtain ⟨v, rfl, hr⟩ := he
        exact ⟨v, rfl, hr, fun hh => absurd hh h0⟩
      | _ => exact absurd h id
    | halt x w' => exact absurd h id

section
variable {P : Program} {md : Region.Mode} {ops : Array Oper} {T : List Nat} {V : Nat → Value → World → Prop} {a0 : Act} {w0 : World} {Q : Exit → Act → World → Prop} {i1 i2 d1 d2 : Nat}

theorem phase_runs2 (hstable : ∀ i v w w', Below w.heap.size w w' → V i v w → V i v w') (hok : ∀ i ∈ T, OpOk P md ops T V a0 w0 i)
    (hdst : ∀ i ∈ T, ∃ d, dstOf ops i = some d ∧ d < a0.tmps.size) (hinj : ∀ i ∈ T, ∀ j ∈ T, j ≠ i → dstOf ops j ≠ dstOf ops i) (fuel : Nat)
    {deps : List Nat} {Tm : Nat} (hdeps : waitList md ops = deps) (hTm : ∀ i, Tm.testBit i = true → i ∈ T)
    (hi : i1 ≠ i2) (hi1 : i1 ∈ T) (hi2 : i2 ∈ T) (hd1 : dstOf ops i1 = some d1) (hd2 : dstOf ops i2 = some d2) (hmk : ∀ i, (i = i1 ∨ i = i2) → ∀ o, ops[i]? = some o → Makes P o) :
    ∀ n ms, phaseTo deps Tm n ms = true →
      (∀ m ∈ endsOf deps n ms, ∀ X, SameBits X m → X.size = ops.size → ∀ a w, Inv ops T V a0 w0 X a w → Fresh2 i1 i2 d1 d2 X a w → wpAny P md ops Q fuel X a w) →
      ∀ m ∈ ms, ∀ X, SameBits X m → X.size = ops.size → ∀ a w, Inv ops T V a0 w0 X a w → Fresh2 i1 i2 d1 d2 X a w → wpAny P md ops Q (fuel + n) X a w := by
  intro n
  induction n with
  | zero =>
    intro ms hp rest m hm X hX hs a w hI hF
    exact rest m hm X hX hs a w hI hF
  | succ n ih =>
    intro ms hp rest m hm X hX hs a w hI hF
    simp only [phaseTo, Bool.and_eq_true] at hp
    obtain ⟨hp1, hp2⟩ := hp
    have h1 := List.all_eq_true.1 hp1 m hm
    simp only [Bool.and_eq_true] at h1
    obtain ⟨h1, h2⟩ := h1
    refine ⟨fun hr => ?_, fun i hi' => ?_⟩
    · exfalso
      cases hrb : readyBits m 0 deps with
      | nil => rw [hrb] at h1; simp at h1
      | cons k ks =>
        have : k ∈ Region.ready md ops X := (ready_bits hX hs k).2 (by rw [hdeps, hrb]; exact List.mem_cons_self ..)
        rw [hr] at this
        cases this
    have hib := (ready_bits hX hs i).1 hi'
    rw [hdeps] at hib
    have hiT : i ∈ T := hTm i (List.all_eq_true.1 h2 i hib)
    obtain ⟨d, hd, hdl⟩ := hdst i hiT
    obtain ⟨o, ho, hod⟩ : ∃ o, ops[i]? = some o ∧ o.dst = some d := by
      unfold dstOf at hd
      cases ho : ops[i]? with
      | none => rw [ho] at hd; simp at hd
      | some o => rw [ho] at hd; exact ⟨o, rfl, by simpa using hd⟩
    have hil : i < ops.size := by
      obtain ⟨h, _⟩ := Array.getElem?_eq_some_iff.1 ho
      exact h
    have hinj' : ∀ j ∈ T, j ≠ i → dstOf ops j ≠ some d := fun j hj hne => by rw [← hd]; exact hinj i hiT j hj hne
    have hmem : (m ||| 2 ^ i) ∈ nextBits deps ms := by
      refine mem_addBit _ _ _ (Or.inl ?_)
      exact List.mem_flatMap.2 ⟨m, hm, List.mem_map.2 ⟨i, hib, rfl⟩⟩
    have hready : ∀ j, (o.after.any fun e => e.on == j && Region.binds md e) = true → X.getD j false = true := by
      intro j hj
      simp only [Region.ready, List.mem_filter, Bool.and_eq_true, ho, Option.map_some, Option.getD_some] at hi'
      obtain ⟨_, _, hall⟩ := hi'
      obtain ⟨k, hk, hke⟩ := Array.any_eq_true.1 hj
      have := Array.all_eq_true.1 hall k hk
      simp only [Bool.and_eq_true, beq_iff_eq] at hke
      obtain ⟨e1, e2⟩ := hke
      simp only [Bool.or_eq_true, Bool.not_eq_true', e2] at this
      rcases this with h | h
      · cases h
      · rw [← e1]; exact h
    have hk := hok i hiT o ho a.eval w hI.below
      (fun x hx => by
        cases x with
        | tmp t =>
          simp only [Act.eval, Array.getD_eq_getD_getElem?]
          rw [hI.other t (fun j hj e => hx j hj t e rfl)]
        | _ => rfl)
      (fun j hj he d' hd' => hI.vals j hj (hready j he) d' hd')
    have key : ∀ v w', (V i v w' ∧ Below w.heap.size w w') ∧ ((i = i1 ∨ i = i2) → NewP w w' v) → wpAny P md ops Q (fuel + n) (X.setIfInBounds i true) (a.put o.dst v) w' := by
      rintro v w' ⟨⟨hv, hb⟩, hn⟩
      rw [hod]
      refine ih (nextBits deps ms) hp2 rest _ hmem _ (hX.set (by omega)) (by simpa using hs) _ _ (hI.put hstable hiT hd hdl hinj' hv hb) (hF.put hi (by rw [hI.size]; exact hdl) ?_ ?_ ?_ ?_ hb.size)
      · rintro rfl
        rw [hd1] at hd
        injection hd with hd
        exact ⟨hd.symm, hn (Or.inl rfl)⟩
      · rintro rfl
        rw [hd2] at hd
        injection hd with hd
        exact ⟨hd.symm, hn (Or.inr rfl)⟩
      · intro hne e
        exact hinj' i1 hi1 (fun h => hne h.symm) (by rw [hd1, e])
      · intro hne e
        exact hinj' i2 hi2 (fun h => hne h.symm) (by rw [hd2, e])
    show wpOp P ops Q i (wpAny P md ops Q (fuel + n) (X.setIfInBounds i true)) a w
    unfold wpOp
    simp only [ho]
    rw [wantedE_eval]
    rcases hk with ⟨hw, hd1⟩ | ⟨hw, hv⟩
    · rw [hw]
      simp only [if_true]
      exact Or.inl ((hd1.fresh (fun hc => hmk i hc o ho)).wp key)
    · rw [hw]
      simp only [Bool.false_eq_true, if_false]
      refine key _ _ ⟨⟨hv, Below.refl _ _⟩, fun hc => ?_⟩
      have hg := (hmk i hc o ho).1
      unfold wantedE at hw
      rw [hg] at hw
      cases hw

/-- What an end leaves to do. -/
def AtEnd2 (P : Program) (ops : Array Oper) (Q : Exit → Act → World → Prop) (T slots : List Nat) (V : Nat → Value → World → Prop) (a0 : Act) (w0 : World) (fuel i1 i2 d1 d2 m : Nat) : Prop :=
  ∀ (f : Nat → Value) (w : World), (∀ p ∈ T.zip slots, m.testBit p.1 = true → V p.1 (f p.2) w) → (m.testBit i1 = true → m.testBit i2 = true → f d1 ≠ f d2) → Below w0.heap.size w0 w →
      wpAny P .any ops Q fuel (bitsArr ops.size m) { tmps := fillSlots f slots a0.tmps, defers := a0.defers } w
def AllEnds2 (P : Program) (ops : Array Oper) (Q : Exit → Act → World → Prop) (T slots : List Nat) (V : Nat → Value → World → Prop) (a0 : Act) (w0 : World) (fuel i1 i2 d1 d2 : Nat) : List Nat → Prop
  | [] => True
  | m :: ms => AtEnd2 P ops Q T slots V a0 w0 fuel i1 i2 d1 d2 m ∧ AllEnds2 P ops Q T slots V a0 w0 fuel i1 i2 d1 d2 ms
theorem AllEnds2.get {slots : List Nat} {fuel : Nat} : ∀ ms, AllEnds2 P ops Q T slots V a0 w0 fuel i1 i2 d1 d2 ms → ∀ m ∈ ms, AtEnd2 P ops Q T slots V a0 w0 fuel i1 i2 d1 d2 m
  | [], _, _, h => by cases h
  | _ :: ms, ⟨h1, h2⟩, m, hm => by
    rcases List.mem_cons.1 hm with rfl | hm
    · exact h1
    · exact AllEnds2.get ms h2 m hm

theorem region_ends2 {id : Nat} {slots deps ends : List Nat} {fuel n Tm : Nat} (hm : P.follows .mixedOrders = true) (hfn : ops.size = fuel + n)
    (hstable : ∀ i v w w', Below w.heap.size w w' → V i v w → V i v w') (hdeps : waitList .any ops = deps)
    (hp : phaseTo deps Tm n [0] = true) (hends : endsOf deps n [0] = ends)
    (hT : (((List.range ops.size).all fun i => !Tm.testBit i || T.contains i) && !Nat.ble (2 ^ ops.size) Tm) = true)
    (hs : T.map (dstOf ops) = slots.map some) (hnd : (decide slots.Nodup && slots.all (fun d => decide (d < a0.tmps.size))) = true)
    (hi : i1 ≠ i2) (hi12 : (T.contains i1 && T.contains i2) = true) (hd1 : dstOf ops i1 = some d1) (hd2 : dstOf ops i2 = some d2) (hmk : ∀ i, (i = i1 ∨ i = i2) → ∀ o, ops[i]? = some o → Makes P o)
    (hok : AllGo P .any ops T slots V a0 w0 T) (rest : AllEnds2 P ops Q T slots V a0 w0 fuel i1 i2 d1 d2 ends) :
    (Code.region id ops true).wp P Q a0 w0 := by
  refine wp_region_any hm ?_
  simp only [Bool.and_eq_true, Bool.not_eq_true', List.contains_iff_mem] at hT hnd hi12
  have hlen : T.length = slots.length := by simpa using congrArg List.length hs
  have hget : ∀ k (hk : k < T.length), dstOf ops T[k] = some (slots[k]'(by omega)) := by
    intro k hk
    have h1 : (T.map (dstOf ops))[k]? = (slots.map some)[k]? := by rw [hs]
    rw [List.getElem?_map, List.getElem?_map, List.getElem?_eq_getElem hk, List.getElem?_eq_getElem (by omega : k < slots.length)] at h1
    simpa using h1
  have h0 : ∀ i, (Array.replicate ops.size false).getD i false = false := by
    intro i
    rw [Array.getD_eq_getD_getElem?]
    by_cases hi : i < ops.size
    · rw [Array.getElem?_replicate, if_pos hi]; rfl
    · rw [Array.getElem?_replicate, if_neg hi]; rfl
  have : wpAny P .any ops Q (fuel + n) (Array.replicate ops.size false) a0 { w0 with drawn := w0.drawn + 1 } := by
    refine phase_runs2 hstable (hok.ok hs T) (fun i hi => ?_) (fun i hi j hj hne e => ?_) fuel hdeps (bits_mem (by simpa using hT.1) hT.2) hi hi12.1 hi12.2 hd1 hd2 hmk n [0] hp (fun m hmm X hX hXs a w hI hF => ?_) 0 (by simp) _ (fun i => by rw [h0]; simp) (by simp)
      a0 w0.drew ⟨rfl, rfl, fun _ _ => rfl, fun j _ hx => ?_, (Below.refl _ _).drew⟩ ⟨fun hx => ?_, fun hx => ?_, fun hx => ?_⟩
    · obtain ⟨k, hk, rfl⟩ := List.mem_iff_getElem.1 hi
      refine ⟨_, hget k hk, ?_⟩
      have := List.all_eq_true.1 hnd.2 (slots[k]'(by omega)) (List.getElem_mem _)
      simpa using this
    · obtain ⟨k, hk, rfl⟩ := List.mem_iff_getElem.1 hi
      obtain ⟨l, hl, rfl⟩ := List.mem_iff_getElem.1 hj
      rw [hget k hk, hget l hl] at e
      injection e with e
      have hn := of_decide_eq_true hnd.1
      have : l = k := (List.getElem_inj hn).1 e
      subst this
      exact hne rfl
    · rw [hends] at hmm
      rw [bitsArr_of hX hXs, hI.act hs]
      refine AllEnds2.get ends rest m hmm _ w (fun p hp' hb => ?_) (fun x1 x2 => hF.ne (by rw [hX]; exact x1) (by rw [hX]; exact x2)) hI.below
      obtain ⟨k, hk, rfl⟩ := List.mem_iff_getElem.1 hp'
      rw [List.length_zip] at hk
      rw [List.getElem_zip] at hb ⊢
      have hk' : k < T.length := by omega
      exact hI.vals T[k] (List.getElem_mem _) (by rw [hX]; exact hb) _ (hget k hk')
    all_goals
      rw [h0] at hx
      cases hx
  rw [hfn] at this
  rw [hfn]
  exact this
end
end Go.Proofs.YtmhpaadanpianaaDoor
