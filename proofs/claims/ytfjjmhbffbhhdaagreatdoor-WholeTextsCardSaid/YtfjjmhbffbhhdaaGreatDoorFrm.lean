/- The boxes and values of a call in one fact; statements told upon it. -/
import Derived.Test.YtfjjmhbffbhhdaaGreatDoorSem
namespace Go.Proofs.YtfjjmhbffbhhdaaGreatDoor
open Go.RowKit

structure Bx where
  b : Nat
  k : BK
  x : Want
structure Frm (w W : World) (L : List Bx) (V : List (Value × Want)) : Prop where
  h : ∀ x ∈ L, Holds W x.b x.k x.x
  ne : ∀ x ∈ L, x.k.shape.isEmpty = false
  ap : (L.map Bx.b).Nodup
  lo : ∀ x ∈ L, w.heap.size ≤ x.b
  v : ∀ p ∈ V, Means W p.2 p.1
  be : Below w.heap.size w W
theorem Frm.lt {w W : World} {L : List Bx} {V : List (Value × Want)} (h : Frm w W L V) : ∀ x ∈ L, x.b < W.heap.size := fun x hx => by
  obtain ⟨_, _, _, _, hl⟩ := (h.h x hx).op (h.ne x hx)
  exact hl
theorem Frm.get {w W : World} {L : List Bx} {V : List (Value × Want)} (h : Frm w W L V) (j : Nat) {b : Nat} {k : BK} {x : Want} (hx : L[j]? = some ⟨b, k, x⟩) : Says W b k x := (h.h _ (List.mem_of_getElem? hx)).1
theorem Frm.val {w W : World} {L : List Bx} {V : List (Value × Want)} (h : Frm w W L V) (j : Nat) {u : Value} {x : Want} (hx : V[j]? = some (u, x)) : Means W x u := h.v _ (List.mem_of_getElem? hx)
theorem Frm.mono {w W W' : World} {L : List Bx} {V : List (Value × Want)} (h : Frm w W L V) (hb : Below W.heap.size W W') : Frm w W' L V :=
  ⟨fun x hx => (h.h x hx).mono hb, h.ne, h.ap, h.lo, fun p hp => (h.v p hp).mono hb, below_step h.be hb⟩
theorem Frm.start {w : World} {V : List (Value × Want)} (h : ∀ p ∈ V, Means w p.2 p.1) : Hid (Frm w w [] V) :=
  Lib.hid (show Frm w w [] V from ⟨fun _ h => (List.not_mem_nil h).elim, fun _ h => (List.not_mem_nil h).elim, List.nodup_nil, fun _ h => (List.not_mem_nil h).elim, h, Below.refl _ _⟩)
theorem Frm.put {w W : World} {L : List Bx} {V : List (Value × Want)} (X : Hid (Frm w W L V)) {m : Nat} (hm : W.heap.size = m) {k : BK} {x : Want} {cs : List Value} (t : TypeId) (hf : Fits k.shape cs) (hk : k.shape.isEmpty = false) (hv : Means W x (.agg cs.toArray)) :
    ∃ W' b, W' = W.alloc (.cells cs.toArray t) ∧ b = m ∧ W'.heap.size = m + 1 ∧ Hid (Frm w W' (L ++ [⟨b, k, x⟩]) V) := by
  subst hm
  have X := X.out
  have hb : Below W.heap.size W (W.alloc (.cells cs.toArray t)) := below_alloc (Below.refl _ _) _
  have Y := X.mono hb
  have hh : Holds (W.alloc (.cells cs.toArray t)) W.heap.size k x := .mk (BoxHas.made' W k cs t hf) (BoxFree.made' W k _ t) (hv.mono hb)
  refine ⟨_, _, rfl, rfl, by simp [go_sem], Lib.hid ⟨?_, ?_, ?_, ?_, Y.v, Y.be⟩⟩
  · intro y hy
    rcases List.mem_append.1 hy with hy | hy
    · exact Y.h y hy
    · cases List.mem_singleton.1 hy; exact hh
  · intro y hy
    rcases List.mem_append.1 hy with hy | hy
    · exact Y.ne y hy
    · cases List.mem_singleton.1 hy; exact hk
  · rw [List.map_append, List.nodup_append]
    refine ⟨Y.ap, by simp, ?_⟩
    intro a ha b hb e
    obtain ⟨y, hy, rfl⟩ := List.mem_map.1 ha
    simp only [List.map_cons, List.map_nil, List.mem_singleton] at hb
    have := X.lt y hy
    omega
  · intro y hy
    rcases List.mem_append.1 hy with hy | hy
    · exact Y.lo y hy
    · cases List.mem_singleton.1 hy; exact X.be.size
theorem Frm.putI {w W : World} {L : List Bx} {V : List (Value × Want)} (J : Hid (Frm w W L V)) {m : Nat} (hm : W.heap.size = m) {g : Bool} {s : Int} {p : Option Addr} {l c : Nat} {z : Int} (h : IsI w g s p l c z) :
    ∃ W' b, W' = W.alloc (.cells #[.bool g, .int .u64 s, .slice p l c] 28) ∧ b = m ∧ W'.heap.size = m + 1 ∧ Hid (Frm w W' (L ++ [⟨b, .int, .int z⟩]) V) :=
  Frm.put J hm (x := .int z) (cs := [_, _, _]) _ ⟨⟨_, rfl⟩, ⟨_, rfl⟩, ⟨_, _, _, rfl⟩, trivial⟩ rfl (Means.mono (x := .int z) ⟨_, _, _, _, _, rfl, h⟩ J.out.be)
theorem Frm.putI0 {w W : World} {L : List Bx} {V : List (Value × Want)} (J : Hid (Frm w W L V)) {m : Nat} (hm : W.heap.size = m) :
    ∃ W' b, W' = W.alloc (.cells #[.bool false, .int .u64 0, .slice none 0 0] 28) ∧ b = m ∧ W'.heap.size = m + 1 ∧ Hid (Frm w W' (L ++ [⟨b, .int, .int 0⟩]) V) :=
  Frm.putI J hm (Or.inl ⟨by omega, rfl, rfl, rfl, rfl⟩ |> fun h => ⟨rfl, h⟩)
theorem Frm.putN {w W : World} {L : List Bx} {V : List (Value × Want)} (J : Hid (Frm w W L V)) {m : Nat} (hm : W.heap.size = m) {s : Int} {p : Option Addr} {l c n : Nat} (h : IsN w s p l c n) :
    ∃ W' b, W' = W.alloc (.cells #[.int .u64 s, .slice p l c] 26) ∧ b = m ∧ W'.heap.size = m + 1 ∧ Hid (Frm w W' (L ++ [⟨b, .nat, .num n⟩]) V) :=
  Frm.put J hm (x := .num n) (cs := [_, _]) _ ⟨⟨_, rfl⟩, ⟨_, _, _, rfl⟩, trivial⟩ rfl (Means.mono (x := .num n) ⟨_, _, _, _, rfl, h⟩ J.out.be)
theorem Frm.putN0 {w W : World} {L : List Bx} {V : List (Value × Want)} (J : Hid (Frm w W L V)) {m : Nat} (hm : W.heap.size = m) :
    ∃ W' b, W' = W.alloc (.cells #[.int .u64 0, .slice none 0 0] 26) ∧ b = m ∧ W'.heap.size = m + 1 ∧ Hid (Frm w W' (L ++ [⟨b, .nat, .num 0⟩]) V) :=
  Frm.putN J hm (Or.inl ⟨by omega, rfl, rfl, rfl, rfl⟩)
theorem Frm.putR {w W : World} {L : List Bx} {V : List (Value × Want)} (J : Hid (Frm w W L V)) {m : Nat} (hm : W.heap.size = m) {g : Bool} {p : Option Addr} {l c : Nat} {z : Int} (h : IsRI w g p l c z) :
    ∃ W' b, W' = W.alloc (.cells #[.bool g, .slice p l c] 32) ∧ b = m ∧ W'.heap.size = m + 1 ∧ Hid (Frm w W' (L ++ [⟨b, .rint, .rint z⟩]) V) :=
  Frm.put J hm (x := .rint z) (cs := [_, _]) _ ⟨⟨_, rfl⟩, ⟨_, _, _, rfl⟩, trivial⟩ rfl (Means.mono (x := .rint z) ⟨_, _, _, _, rfl, h⟩ J.out.be)
theorem Frm.putR0 {w W : World} {L : List Bx} {V : List (Value × Want)} (J : Hid (Frm w W L V)) {m : Nat} (hm : W.heap.size = m) :
    ∃ W' b, W' = W.alloc (.cells #[.bool false, .slice none 0 0] 32) ∧ b = m ∧ W'.heap.size = m + 1 ∧ Hid (Frm w W' (L ++ [⟨b, .rint, .rint 0⟩]) V) :=
  Frm.putR J hm ⟨rfl, by simp [dr_zero], Nat.le_refl _, fun h => absurd rfl h⟩
theorem Frm.vals {w W : World} {L : List Bx} {V V' : List (Value × Want)} (h : Frm w W L V) (hV : ∀ p ∈ V', Means W p.2 p.1) : Frm w W L V' := ⟨h.h, h.ne, h.ap, h.lo, hV, h.be⟩
structure Nw where
  k : BK
  al : Nat
  at_ : Nat
  x : Want
  old : Value
def upd : List (Option (Nat × Want)) → List Bx → List Bx
  | [], L => L
  | _ :: _, [] => []
  | none :: U, x :: L => x :: upd U L
  | some u :: U, x :: L => ⟨x.b, x.k, u.2⟩ :: upd U L
def ups (vs : Bx → Value) : List (Option (Nat × Want)) → List Bx → List DBox
  | [], _ => []
  | _ :: _, [] => []
  | none :: U, _ :: L => ups vs U L
  | some u :: U, x :: L => ⟨x.b, x.k, none, u.1, u.2, vs x⟩ :: ups vs U L
def news (N : List Nw) : List DBox := N.map fun n => ⟨0, n.k, some n.al, n.at_, n.x, n.old⟩
def mkD (vs : Bx → Value) (L : List Bx) (U : List (Option (Nat × Want))) (N : List Nw) : List DBox := ups vs U L ++ news N
def mkF (vs : Bx → Value) (L : List Bx) (V : List (Value × Want)) : List (Value × Want) := L.map (fun x => (vs x, x.x)) ++ V
def tsl : Nat → List Nat → List (Nat × Nat)
  | _, [] => []
  | i, 0 :: S => tsl (i + 1) S
  | i, (d + 1) :: S => (i, d) :: tsl (i + 1) S
def Want.pick : Want → Value → Value
  | .is v, _ => v
  | .num _, u => u
  | .rnum _, u => u
  | .row _ _, u => u
  | .two _ _, u => u
  | .three _ _ _, u => u
  | .newbox _, u => u
  | .wrow _ _, u => u
  | .int _, u => u
  | .rint _, u => u
  | .that _, u => u
  | .any, u => u
def fillT (f : Nat → Value) : List Want → List Nat → Array Value → Array Value
  | _, [], t => t
  | [], _ :: _, t => t
  | _ :: tab, 0 :: S, t => fillT f tab S t
  | X :: tab, (d + 1) :: S, t => fillT f tab S (t.setIfInBounds d (X.pick (f d)))
def setN (β : Nat → Nat) : List Nw → List Want → List Want
  | [], tab => tab
  | n :: N, tab => setN β N (tab.set n.al (.is (.pointer (some ⟨β n.at_, 0, none⟩))))
def addV (f : Nat → Value) (tab : List Want) : List (Nat × Nat) → List (Value × Want) → List (Value × Want)
  | [], V => V
  | p :: ps, V => (f p.2, tab.getD p.1 .any) :: addV f tab ps V

theorem Want.pick_eq {w : World} {X : Want} {u : Value} (h : Means w X u) : X.pick u = u := by
  cases X <;> first | rfl | exact h.symm
theorem fill_eq {w : World} (f : Nat → Value) : ∀ (S : List Nat) (tab : List Want) (i : Nat) (t : Array Value), S.length ≤ tab.length → (∀ p ∈ tsl i S, Means w (tab.getD (p.1 - i) .any) (f p.2)) → fillSlots f ((tsl i S).map (·.2)) t = fillT f tab S t
  | [], _, _, _, _, _ => by cases ‹List Want› <;> rfl
  | 0 :: S, [], _, _, h, _ => by simp at h
  | (d + 1) :: S, [], _, _, h, _ => by simp at h
  | 0 :: S, X :: tab, i, t, h, hf => by
    refine fill_eq (w := w) f S tab (i + 1) t (by simpa using h) fun p hp => ?_
    have h1 := hf p hp
    have h2 := tsl_le (i + 1) S p hp
    rwa [show p.1 - i = (p.1 - (i + 1)) + 1 by omega, List.getD_cons_succ] at h1
  | (d + 1) :: S, X :: tab, i, t, h, hf => by
    have h0 := hf (i, d) (List.mem_cons_self ..)
    simp only [Nat.sub_self, List.getD_cons_zero] at h0
    show fillSlots f ((tsl (i + 1) S).map (·.2)) (t.setIfInBounds d (f d)) = fillT f tab S (t.setIfInBounds d (X.pick (f d)))
    rw [Want.pick_eq h0]
    refine fill_eq (w := w) f S tab (i + 1) _ (by simpa using h) fun p hp => ?_
    have h1 := hf p (List.mem_cons_of_mem _ hp)
    have h2 := tsl_le (i + 1) S p hp
    rwa [show p.1 - i = (p.1 - (i + 1)) + 1 by omega, List.getD_cons_succ] at h1
  where
  tsl_le : ∀ (i : Nat) (S : List Nat) (p : Nat × Nat), p ∈ tsl i S → i ≤ p.1
    | _, [], _, h => by cases h
    | i, 0 :: S, p, h => by have := tsl_le (i + 1) S p h; omega
    | i, (d + 1) :: S, p, h => by
      rcases List.mem_cons.1 h with rfl | h
      · exact Nat.le_refl _
      · have := tsl_le (i + 1) S p h; omega
theorem setN_means {w : World} (β : Nat → Nat) (f : Nat → Value) (p : Nat × Nat) : ∀ (N : List Nw) (tab : List Want), Means w (tab.getD p.1 .any) (f p.2) → (∀ n ∈ N, n.al = p.1 → f p.2 = .pointer (some ⟨β n.at_, 0, none⟩)) → Means w ((setN β N tab).getD p.1 .any) (f p.2)
  | [], _, h, _ => h
  | n :: N, tab, h, hp => by
    refine setN_means β f p N _ ?_ fun m hm => hp m (List.mem_cons_of_mem _ hm)
    rw [List.getD_eq_getElem?_getD, List.getElem?_set]
    split
    · rename_i e
      split
      · exact hp n (List.mem_cons_self ..) e
      · trivial
    · rw [← List.getD_eq_getElem?_getD]; exact h
theorem setN_length (β : Nat → Nat) : ∀ (N : List Nw) (tab : List Want), (setN β N tab).length = tab.length
  | [], _ => rfl
  | n :: N, tab => by rw [setN, setN_length β N]; simp
theorem addV_means {w : World} {f : Nat → Value} {tab : List Want} {V : List (Value × Want)} (hV : ∀ p ∈ V, Means w p.2 p.1) : ∀ (ps : List (Nat × Nat)), (∀ p ∈ ps, Means w (tab.getD p.1 .any) (f p.2)) → ∀ p ∈ addV f tab ps V, Means w p.2 p.1
  | [], _ => hV
  | q :: ps, h => fun p hp => by
    rcases List.mem_cons.1 hp with rfl | hp
    · exact h q (List.mem_cons_self ..)
    · exact addV_means hV ps (fun p hp => h p (List.mem_cons_of_mem _ hp)) p hp
theorem ups_of {vs : Bx → Value} : ∀ {U : List (Option (Nat × Want))} {L : List Bx} {d : DBox}, d ∈ ups vs U L → ∃ x ∈ L, ∃ u, some u ∈ U ∧ d = ⟨x.b, x.k, none, u.1, u.2, vs x⟩
  | [], _, _, h => by cases h
  | _ :: _, [], _, h => by cases h
  | none :: U, x :: L, d, h => by
    obtain ⟨y, hy, u, hu, e⟩ := ups_of (U := U) (L := L) h
    exact ⟨y, List.mem_cons_of_mem _ hy, u, List.mem_cons_of_mem _ hu, e⟩
  | some u :: U, x :: L, d, h => by
    rcases List.mem_cons.1 h with rfl | h
    · exact ⟨x, List.mem_cons_self .., u, List.mem_cons_self .., rfl⟩
    · obtain ⟨y, hy, u, hu, e⟩ := ups_of (U := U) (L := L) h
      exact ⟨y, List.mem_cons_of_mem _ hy, u, List.mem_cons_of_mem _ hu, e⟩
theorem ups_mem {vs : Bx → Value} : ∀ {U : List (Option (Nat × Want))} {L : List Bx} (j : Nat) {u : Nat × Want} {x : Bx}, U[j]? = some (some u) → L[j]? = some x → (⟨x.b, x.k, none, u.1, u.2, vs x⟩ : DBox) ∈ ups vs U L
  | [], _, _, _, _, h, _ => by simp at h
  | _ :: _, [], _, _, _, _, h => by simp at h
  | none :: U, y :: L, 0, _, _, h, _ => by simp at h
  | some v :: U, y :: L, 0, _, _, h, h' => by
    simp only [List.getElem?_cons_zero, Option.some.injEq] at h h'
    subst h h'
    exact List.mem_cons_self ..
  | none :: U, y :: L, j + 1, _, _, h, h' => ups_mem (U := U) (L := L) j (by simpa using h) (by simpa using h')
  | some v :: U, y :: L, j + 1, _, _, h, h' => List.mem_cons_of_mem _ (ups_mem (U := U) (L := L) j (by simpa using h) (by simpa using h'))
theorem ups_blk {vs : Bx → Value} {U : List (Option (Nat × Want))} {L : List Bx} {d : DBox} (h : d ∈ ups vs U L) : d.blk ∈ L.map Bx.b := by
  obtain ⟨x, hx, u, -, rfl⟩ := ups_of h
  exact List.mem_map.2 ⟨x, hx, rfl⟩
theorem ups_far {vs : Bx → Value} : ∀ {U : List (Option (Nat × Want))} {L : List Bx} (j : Nat) {x : Bx}, (L.map Bx.b).Nodup → L[j]? = some x → U.getD j none = none → ∀ d ∈ ups vs U L, d.blk ≠ x.b
  | [], _, _, _, _, _, _ => fun _ h => by cases h
  | _ :: _, [], _, _, _, h, _ => by simp at h
  | none :: U, y :: L, 0, x, hn, h, _ => fun d hd e => by
    simp only [List.getElem?_cons_zero, Option.some.injEq] at h
    subst h
    rw [List.map_cons, List.nodup_cons] at hn
    exact hn.1 (e ▸ ups_blk (vs := vs) (U := U) (L := L) hd)
  | some v :: U, y :: L, 0, x, _, _, h => by simp at h
  | none :: U, y :: L, j + 1, x, hn, h, h' => fun d hd => by
    rw [List.map_cons, List.nodup_cons] at hn
    exact ups_far (U := U) (L := L) j hn.2 (by simpa using h) (by simpa using h') d hd
  | some v :: U, y :: L, j + 1, x, hn, h, h' => fun d hd => by
    rw [List.map_cons, List.nodup_cons] at hn
    rcases List.mem_cons.1 hd with rfl | hd
    · intro e
      exact hn.1 (List.mem_map.2 ⟨x, List.mem_of_getElem? (by simpa using h), e.symm⟩)
    · exact ups_far (U := U) (L := L) j hn.2 (by simpa using h) (by simpa using h') d hd
theorem upd_map : ∀ (U : List (Option (Nat × Want))) (L : List Bx), (upd U L).map Bx.b = L.map Bx.b
  | [], _ => rfl
  | _ :: _, [] => rfl
  | none :: U, x :: L => by simp only [upd, List.map_cons, upd_map U L]
  | some u :: U, x :: L => by simp only [upd, List.map_cons, upd_map U L]
theorem upd_of {vs : Bx → Value} : ∀ {U : List (Option (Nat × Want))} {L : List Bx} {y : Bx}, (L.map Bx.b).Nodup → y ∈ upd U L → (∃ d ∈ ups vs U L, y = ⟨d.blk, d.kind, d.want⟩) ∨ (y ∈ L ∧ ∀ d ∈ ups vs U L, d.blk ≠ y.b)
  | [], _, _, _, h => Or.inr ⟨h, fun _ h => by cases h⟩
  | _ :: _, [], _, _, h => by cases h
  | none :: U, x :: L, y, hn, h => by
    rw [List.map_cons, List.nodup_cons] at hn
    rcases List.mem_cons.1 h with rfl | h
    · exact Or.inr ⟨List.mem_cons_self .., fun d hd e => hn.1 (e ▸ ups_blk (vs := vs) (U := U) (L := L) hd)⟩
    · rcases upd_of (vs := vs) hn.2 h with h | ⟨h1, h2⟩
      · exact Or.inl h
      · exact Or.inr ⟨List.mem_cons_of_mem _ h1, h2⟩
  | some u :: U, x :: L, y, hn, h => by
    rw [List.map_cons, List.nodup_cons] at hn
    rcases List.mem_cons.1 h with rfl | h
    · exact Or.inl ⟨_, List.mem_cons_self .., rfl⟩
    · rcases upd_of (vs := vs) hn.2 h with ⟨d, h1, h2⟩ | ⟨h1, h2⟩
      · exact Or.inl ⟨d, List.mem_cons_of_mem _ h1, h2⟩
      · refine Or.inr ⟨List.mem_cons_of_mem _ h1, fun d hd => ?_⟩
        rcases List.mem_cons.1 hd with rfl | hd
        · intro e; exact hn.1 (List.mem_map.2 ⟨y, h1, e.symm⟩)
        · exact h2 d hd
theorem upd_kinds : ∀ (U : List (Option (Nat × Want))) (L : List Bx), (∀ x ∈ L, x.k.shape.isEmpty = false) → ∀ x ∈ upd U L, x.k.shape.isEmpty = false
  | [], _, h => h
  | _ :: _, [], _ => fun _ h => by cases h
  | none :: U, y :: L, h => fun x hx => by
    rcases List.mem_cons.1 hx with rfl | hx
    · exact h x (List.mem_cons_self ..)
    · exact upd_kinds U L (fun x hx => h x (List.mem_cons_of_mem _ hx)) x hx
  | some u :: U, y :: L, h => fun x hx => by
    rcases List.mem_cons.1 hx with rfl | hx
    · exact h y (List.mem_cons_self ..)
    · exact upd_kinds U L (fun x hx => h x (List.mem_cons_of_mem _ hx)) x hx
theorem ups_pair {vs : Bx → Value} : ∀ {U : List (Option (Nat × Want))} {L : List Bx}, (L.map Bx.b).Nodup → (ups vs U L).Pairwise fun x y => x.blk ≠ y.blk
  | [], _, _ => List.Pairwise.nil
  | _ :: _, [], _ => List.Pairwise.nil
  | none :: U, x :: L, hn => by
    rw [List.map_cons, List.nodup_cons] at hn
    exact ups_pair (U := U) (L := L) hn.2
  | some u :: U, x :: L, hn => by
    rw [List.map_cons, List.nodup_cons] at hn
    exact List.Pairwise.cons (fun d hd e => hn.1 (by rw [show x.b = d.blk from e]; exact ups_blk (vs := vs) (U := U) (L := L) hd)) (ups_pair hn.2)
theorem news_of {N : List Nw} {d : DBox} (h : d ∈ news N) : ∃ n ∈ N, d = ⟨0, n.k, some n.al, n.at_, n.x, n.old⟩ := by
  obtain ⟨n, hn, e⟩ := List.mem_map.1 h
  exact ⟨n, hn, e.symm⟩
theorem news_mem {N : List Nw} (j : Nat) {n : Nw} (h : N[j]? = some n) : (⟨0, n.k, some n.al, n.at_, n.x, n.old⟩ : DBox) ∈ news N := List.mem_map.2 ⟨n, List.mem_of_getElem? h, rfl⟩
theorem olds_mkD {vs : Bx → Value} {L : List Bx} {U : List (Option (Nat × Want))} {N : List Nw} : (mkD vs L U N).filter (·.al.isNone) = ups vs U L := by
  rw [mkD, List.filter_append, List.filter_eq_self.2 fun d hd => by obtain ⟨x, -, u, -, rfl⟩ := ups_of hd; rfl, List.filter_eq_nil_iff.2 fun d hd => by obtain ⟨n, -, rfl⟩ := news_of hd; simp, List.append_nil]
theorem not_old {vs : Bx → Value} {L : List Bx} {U : List (Option (Nat × Want))} {N : List Nw} {b : Nat} (h : ∀ d ∈ ups vs U L, d.blk ≠ b) : b ∉ oldBlocks (mkD vs L U N) := by
  rw [oldBlocks, olds_mkD]
  intro hb
  obtain ⟨d, hd, e⟩ := List.mem_map.1 hb
  exact h d hd e
def Known (W : World) (L : List Bx) (vs : Bx → Value) : Prop := ∀ x ∈ L, BoxHas W x.b x.k (vs x) ∧ Means W x.x (vs x) ∧ BoxFree W x.b x.k ∧ x.b < W.heap.size
theorem Frm.known {w W : World} {L : List Bx} {V : List (Value × Want)} (X : Frm w W L V) : ∃ vs, Known W L vs := by
  have : ∀ x : Bx, ∃ v, x ∈ L → BoxHas W x.b x.k v ∧ Means W x.x v ∧ BoxFree W x.b x.k ∧ x.b < W.heap.size := fun x => by
    by_cases hx : x ∈ L
    · obtain ⟨v, h⟩ := (X.h x hx).op (X.ne x hx)
      exact ⟨v, fun _ => h⟩
    · exact ⟨undef, fun h => absurd h hx⟩
  exact ⟨fun x => (this x).choose, fun x hx => (this x).choose_spec hx⟩
structure EnvF (ops : Array Oper) (tab : List Want) (L : List Bx) (U : List (Option (Nat × Want))) (N : List Nw) (V : List (Value × Want)) (a0 : Act) (w W0 : World) (i : Nat) (o : Oper) (β : Nat → Nat) (E : Operand → Value) (W : World) : Prop where
  ex : ∃ vs, Known W0 L vs ∧ Env ops tab (mkD vs L U N) (mkF vs L V) a0 W0 i o β E W
  fr : Frm w W0 L V
section
variable {P : Program} {ops : Array Oper} {tab : List Want} {L : List Bx} {U : List (Option (Nat × Want))} {N : List Nw} {V : List (Value × Want)} {a0 : Act} {v0 W0 : World} {i : Nat} {o : Oper} {is : List Nat} {β : Nat → Nat} {E : Operand → Value} {W : World} {b : Nat} {kd : BK} {X Y : Want}
theorem EnvF.c (h : EnvF ops tab L U N V a0 v0 W0 i o β E W) : ∀ v, E (.const v) = v := by obtain ⟨_, _, e⟩ := h.ex; exact e.c
theorem EnvF.f (h : EnvF ops tab L U N V a0 v0 W0 i o β E W) : ∀ f, E (.func f) = .func (.func f) #[] #[] := by obtain ⟨_, _, e⟩ := h.ex; exact e.f
theorem EnvF.s {t : Nat} {u : Value} (h : EnvF ops tab L U N V a0 v0 W0 i o β E W) (hx : a0.tmps.getD t undef = u) (he : freeAt ops i t = true := by kernel_rfl) : E (.tmp t) = u := by obtain ⟨_, _, e⟩ := h.ex; exact e.s hx he
theorem EnvF.v {u : Value} (h : EnvF ops tab L U N V a0 v0 W0 i o β E W) (j : Nat) (hm : V[j]? = some (u, X)) : Means W X u := by
  obtain ⟨_, _, e⟩ := h.ex
  exact e.F _ (List.mem_append_right _ (List.mem_of_getElem? hm))
theorem EnvF.m {t : Nat} {u : Value} (h : EnvF ops tab L U N V a0 v0 W0 i o β E W) (j : Nat) (hx : a0.tmps.getD t undef = u) (hm : V[j]? = some (u, X)) (he : freeAt ops i t = true := by kernel_rfl) : Means W X (E (.tmp t)) := by rw [h.s hx he]; exact h.v j hm
theorem EnvF.w {d : Nat} (h : EnvF ops tab L U N V a0 v0 W0 i o β E W) (j : Nat) (hX : tab.getD j .any = X) (hw : waitsOn o j = true := by kernel_rfl) (hd : dstOf ops j = some d := by kernel_rfl) : Means W X (E (.tmp d)) := by obtain ⟨_, _, e⟩ := h.ex; exact e.w j hX hw hd
theorem EnvF.k {d : Nat} {u : Value} (h : EnvF ops tab L U N V a0 v0 W0 i o β E W) (j : Nat) (hX : tab.getD j .any = .is u) (hw : waitsOn o j = true := by kernel_rfl) (hd : dstOf ops j = some d := by kernel_rfl) : E (.tmp d) = u := h.w j hX hw hd
theorem EnvF.l (h : EnvF ops tab L U N V a0 v0 W0 i o β E W) (j : Nat) (hx : L[j]? = some ⟨b, kd, X⟩) (hj : U.getD j none = none := by rfl) : Says W b kd X := by
  obtain ⟨vs, hv, e⟩ := h.ex
  have hL := List.mem_of_getElem? hx
  exact ⟨_, (hv _ hL).1.far e.A (not_old (ups_far j h.fr.ap hx hj)), e.F _ (List.mem_append_left _ (List.mem_map.2 ⟨_, hL, rfl⟩))⟩
theorem EnvF.u {a : Nat} (h : EnvF ops tab L U N V a0 v0 W0 i o β E W) (j : Nat) (hu : U[j]? = some (some (a, Y))) (hx : L[j]? = some ⟨b, kd, X⟩) (h2 : notYet ops i a = true := by kernel_rfl) : Holds W b kd X := by
  obtain ⟨vs, hv, e⟩ := h.ex
  have hL := List.mem_of_getElem? hx
  obtain ⟨h3, h4⟩ := e.B _ (List.mem_append_left _ (ups_mem (vs := vs) j hu hx)) rfl h2
  exact ⟨⟨_, h3, e.F _ (List.mem_append_left _ (List.mem_map.2 ⟨_, hL, rfl⟩))⟩, h4⟩
theorem EnvF.r {a : Nat} (h : EnvF ops tab L U N V a0 v0 W0 i o β E W) (j : Nat) (hu : U[j]? = some (some (a, Y))) (hx : L[j]? = some ⟨b, kd, X⟩) (h2 : waitsOn o a = true := by kernel_rfl) : Says W b kd Y := by
  obtain ⟨vs, hv, e⟩ := h.ex
  exact e.S _ (List.mem_append_left _ (ups_mem (vs := vs) j hu hx)) rfl h2
theorem EnvF.un {al a : Nat} {z : Value} (h : EnvF ops tab L U N V a0 v0 W0 i o β E W) (j : Nat) (hu : N[j]? = some ⟨kd, al, a, Y, z⟩) (h1 : waitsOn o al = true := by kernel_rfl) (h2 : notYet ops i a = true := by kernel_rfl) : Holds W (β a) kd .any := by
  obtain ⟨vs, hv, e⟩ := h.ex
  obtain ⟨h3, h4⟩ := e.B _ (List.mem_append_right _ (news_mem j hu)) h1 h2
  exact ⟨⟨_, h3, trivial⟩, h4⟩
theorem EnvF.q {al a d : Nat} {z : Value} (h : EnvF ops tab L U N V a0 v0 W0 i o β E W) (j : Nat) (hu : N[j]? = some ⟨kd, al, a, Y, z⟩) (hw : waitsOn o al = true := by kernel_rfl) (hd : dstOf ops al = some d := by kernel_rfl) : E (.tmp d) = .pointer (some ⟨β a, 0, none⟩) := by
  obtain ⟨vs, hv, e⟩ := h.ex
  exact e.p _ (List.mem_append_right _ (news_mem j hu)) al d rfl hw hd
theorem EnvF.be (h : EnvF ops tab L U N V a0 v0 W0 i o β E W) : Below v0.heap.size v0 W := by
  obtain ⟨vs, hv, e⟩ := h.ex
  refine h.fr.be.trans (e.A.below (fun b hb => ?_) h.fr.be.size)
  rw [oldBlocks, olds_mkD] at hb
  obtain ⟨d, hd, rfl⟩ := List.mem_map.1 hb
  obtain ⟨x, hx, _, -, rfl⟩ := ups_of hd
  exact h.fr.lo x hx
def AllF (P : Program) (ops : Array Oper) (tab : List Want) (L : List Bx) (U : List (Option (Nat × Want))) (N : List Nw) (V : List (Value × Want)) (a0 : Act) (v0 W0 : World) (is : List Nat) : Prop :=
  ∀ vs, Known W0 L vs → Frm v0 W0 L V → AllTold P ops tab (mkD vs L U N) (mkF vs L V) a0 W0 is
theorem AllF.nil : AllF P ops tab L U N V a0 v0 W0 [] := fun _ _ _ => .nil
def plainAt (U : List (Option (Nat × Want))) (N : List Nw) (i : Nat) : Bool := (U.all fun u => match u with | none => true | some u => u.1 != i) && N.all fun n => n.at_ != i && n.al != i
theorem plain_all {vs : Bx → Value} (h : plainAt U N i = true) : ((mkD vs L U N).all fun x => x.at_ != i && x.al != some i) = true := by
  simp only [plainAt, Bool.and_eq_true, List.all_eq_true] at h
  simp only [List.all_eq_true]
  intro d hd
  rcases List.mem_append.1 hd with hd | hd
  · obtain ⟨x, -, u, hu, rfl⟩ := ups_of hd
    have := h.1 _ hu
    simp only [Bool.and_eq_true]
    exact ⟨this, rfl⟩
  · obtain ⟨n, hn, rfl⟩ := news_of hd
    have := h.2 n hn
    simp only [Bool.and_eq_true, bne_iff_ne, ne_eq, Option.some.injEq] at this ⊢
    exact this
theorem AllF.pl (ho : ops[i]? = some o) (h : ∀ β E W, EnvF ops tab L U N V a0 v0 W0 i o β E W → Does P o E W fun v w' => Means w' (tab.getD i .any) v ∧ Below W.heap.size W w') (hs : AllF P ops tab L U N V a0 v0 W0 is) (hk : (o.guard.isNone && plainAt U N i) = true := by kernel_rfl) : AllF P ops tab L U N V a0 v0 W0 (i :: is) := fun vs hv hf => by
  rw [Bool.and_eq_true, Option.isNone_iff_eq_none] at hk
  exact .mkA ho (fun β E W e => Or.inl ⟨wanted_none hk.1, plain_all hk.2, h β E W ⟨⟨vs, hv, e⟩, hf⟩⟩) (hs vs hv hf)
theorem AllF.gu {g d : Nat} {b : Bool} (ho : ops[i]? = some o) (hg : o.guard = some (g, b)) (ht : tab.getD g .any = .is (.bool b)) (hd : dstOf ops g = some d) (h : ∀ β E W, EnvF ops tab L U N V a0 v0 W0 i o β E W → Does P o E W fun v w' => Means w' (tab.getD i .any) v ∧ Below W.heap.size W w') (hs : AllF P ops tab L U N V a0 v0 W0 is) (hw : waitsOn o g = true := by kernel_rfl) (hk : plainAt U N i = true := by kernel_rfl) : AllF P ops tab L U N V a0 v0 W0 (i :: is) := fun vs hv hf =>
  .mkA ho (fun β E W e => Or.inl ⟨wanted_of hg hd (e.k g ht hw hd), plain_all hk, h β E W ⟨⟨vs, hv, e⟩, hf⟩⟩) (hs vs hv hf)
theorem AllF.off {g d : Nat} {b : Bool} (ho : ops[i]? = some o) (hg : o.guard = some (g, b)) (ht : tab.getD g .any = .is (.bool (!b))) (hd : dstOf ops g = some d) (hs : AllF P ops tab L U N V a0 v0 W0 is) (hu : tab.getD i .any = .is undef := by kernel_rfl) (hw : waitsOn o g = true := by kernel_rfl) (hk : plainAt U N i = true := by kernel_rfl) : AllF P ops tab L U N V a0 v0 W0 (i :: is) := fun vs hv hf =>
  .mkA ho (fun β E W e => Or.inr (Or.inr (Or.inr ⟨wanted_not hg hd (e.k g ht hw hd), plain_all hk, fun _ => by rw [hu]; rfl⟩))) (hs vs hv hf)
theorem AllF.offu {g d : Nat} {b : Bool} (ho : ops[i]? = some o) (hg : o.guard = some (g, b)) (ht : tab.getD g .any = .is undef) (hd : dstOf ops g = some d) (hs : AllF P ops tab L U N V a0 v0 W0 is) (hu : tab.getD i .any = .is undef := by kernel_rfl) (hw : waitsOn o g = true := by kernel_rfl) (hk : plainAt U N i = true := by kernel_rfl) : AllF P ops tab L U N V a0 v0 W0 (i :: is) := fun vs hv hf =>
  .mkA ho (fun β E W e => Or.inr (Or.inr (Or.inr ⟨wanted_undef hg hd (e.k g ht hw hd), plain_all hk, fun _ => by rw [hu]; rfl⟩))) (hs vs hv hf)
theorem AllF.st (j : Nat) (ho : ops[i]? = some o) (hu : U[j]? = some (some (i, Y))) (hx : L[j]? = some ⟨b, kd, X⟩) (h : ∀ β E W, EnvF ops tab L U N V a0 v0 W0 i o β E W → Does P o E W fun _ w' => ∃ v, Stored W w' b kd v ∧ Means W Y v) (hs : AllF P ops tab L U N V a0 v0 W0 is) (hk : (o.guard.isNone && o.dst.isNone && N.all fun n => n.al != i) = true := by kernel_rfl) : AllF P ops tab L U N V a0 v0 W0 (i :: is) := fun vs hv hf => by
  simp only [Bool.and_eq_true, Option.isNone_iff_eq_none] at hk
  refine .mkA ho (fun β E W e => Or.inr (Or.inl ⟨wanted_none hk.1.1, _, List.mem_append_left _ (ups_mem (vs := vs) j hu hx), rfl, ?_, hk.1.2, h β E W ⟨⟨vs, hv, e⟩, hf⟩⟩)) (hs vs hv hf)
  simp only [List.all_eq_true]
  intro d hd
  rcases List.mem_append.1 hd with hd | hd
  · obtain ⟨x, -, u, -, rfl⟩ := ups_of hd; rfl
  · obtain ⟨n, hn, rfl⟩ := news_of hd
    have := List.all_eq_true.1 hk.2 n hn
    simpa using this
theorem AllF.sn {al : Nat} {z : Value} (j : Nat) (ho : ops[i]? = some o) (hu : N[j]? = some ⟨kd, al, i, Y, z⟩) (h : ∀ β E W, EnvF ops tab L U N V a0 v0 W0 i o β E W → Does P o E W fun _ w' => ∃ v, Stored W w' (β i) kd v ∧ Means W Y v) (hs : AllF P ops tab L U N V a0 v0 W0 is) (hk : (o.guard.isNone && o.dst.isNone && N.all fun n => n.al != i) = true := by kernel_rfl) : AllF P ops tab L U N V a0 v0 W0 (i :: is) := fun vs hv hf => by
  simp only [Bool.and_eq_true, Option.isNone_iff_eq_none] at hk
  refine .mkA ho (fun β E W e => Or.inr (Or.inl ⟨wanted_none hk.1.1, _, List.mem_append_right _ (news_mem j hu), rfl, ?_, hk.1.2, h β E W ⟨⟨vs, hv, e⟩, hf⟩⟩)) (hs vs hv hf)
  simp only [List.all_eq_true]
  intro d hd
  rcases List.mem_append.1 hd with hd | hd
  · obtain ⟨x, -, u, -, rfl⟩ := ups_of hd; rfl
  · obtain ⟨n, hn, rfl⟩ := news_of hd
    have := List.all_eq_true.1 hk.2 n hn
    simpa using this
theorem AllF.al {a : Nat} {z : Value} (j : Nat) (ho : ops[i]? = some o) (hu : N[j]? = some ⟨kd, i, a, Y, z⟩) (h : ∀ E W, Does P o E W fun v w' => v = .pointer (some ⟨W.heap.size, 0, none⟩) ∧ Below W.heap.size W w' ∧ W.heap.size < w'.heap.size ∧ BoxHas w' W.heap.size kd z ∧ BoxFree w' W.heap.size kd) (hs : AllF P ops tab L U N V a0 v0 W0 is) (hk : (o.guard.isNone && (U.all fun u => match u with | none => true | some u => u.1 != i) && N.all fun n => n.at_ != i) = true := by kernel_rfl) (ha : tab.getD i .any = .any := by kernel_rfl) : AllF P ops tab L U N V a0 v0 W0 (i :: is) := fun vs hv hf => by
  simp only [Bool.and_eq_true, Option.isNone_iff_eq_none, List.all_eq_true] at hk
  refine .mkA ho (fun β E W e => Or.inr (Or.inr (Or.inl ⟨wanted_none hk.1.1, ?_, ha, _, List.mem_append_right _ (news_mem j hu), rfl, h E W⟩))) (hs vs hv hf)
  simp only [List.all_eq_true]
  intro d hd
  rcases List.mem_append.1 hd with hd | hd
  · obtain ⟨x, -, u, hu, rfl⟩ := ups_of hd; exact hk.1.2 _ hu
  · obtain ⟨n, hn, rfl⟩ := news_of hd; exact hk.2 n hn
def ats (U : List (Option (Nat × Want))) (N : List Nw) : List Nat := (U.filterMap fun u => u.map (·.1)) ++ N.map (·.at_)
theorem ats_mkD {vs : Bx → Value} : ∀ (U : List (Option (Nat × Want))) (L : List Bx), ((ups vs U L).map (·.at_)).Sublist (U.filterMap fun u => u.map (·.1))
  | [], _ => List.nil_sublist _
  | _ :: _, [] => List.nil_sublist _
  | none :: U, _ :: L => ats_mkD U L
  | some _ :: U, _ :: L => (ats_mkD U L).cons_cons _
theorem region_f {id : Nat} {dr : Bool} {Q : Exit → Act → World → Prop} (S : List Nat) (tab : List Want) (U : List (Option (Nat × Want))) (N : List Nw) (Vn : List (Nat × Nat)) (H : Hid (Frm v0 W0 L V))
    (hok : AllF P ops tab L U N V a0 v0 W0 (List.range ops.size))
    (hend : ∀ (β : Nat → Nat) (f : Nat → Value) (W' : World), Hid (Frm v0 W' (upd U L ++ N.map fun n => ⟨β n.at_, n.k, n.x⟩) (addV f tab Vn V)) → Q .normal { tmps := fillT f (setN β N tab) S a0.tmps, defers := a0.defers } W')
    (hm : P.follows .mixedOrders = true := by kernel_rfl) (hb : depsBack ops = true := by kernel_rfl)
    (hT : ((List.range ops.size).all fun j => ((tsl 0 S).map (·.1)).contains j || (dstOf ops j).isNone) = true := by kernel_rfl) (hs : ((tsl 0 S).map (·.1)).map (dstOf ops) = ((tsl 0 S).map (·.2)).map some := by kernel_rfl) (hnd : (decide ((tsl 0 S).map (·.2)).Nodup && ((tsl 0 S).map (·.2)).all (fun d => decide (d < a0.tmps.size))) = true := by kernel_rfl)
    (hsafe : (tab.all Want.safe && L.all (·.x.safe) && V.all (·.2.safe) && (U.all fun u => match u with | none => true | some u => u.2.safe && decide (u.1 < ops.size)) && N.all fun n => n.x.safe && decide (n.at_ < ops.size) && decide (n.al < ops.size) && !n.k.shape.isEmpty && (match ops[n.at_]? with | some o => waitsOn o n.al | none => false)) = true := by kernel_rfl)
    (hap : (decide (ats U N).Nodup && decide (N.map (·.al)).Nodup && decide (S.length ≤ tab.length) && Vn.all fun p => (tsl 0 S).contains p) = true := by kernel_rfl) :
    (Code.region id ops dr).wp P Q a0 W0 := by
  have H := H.out
  obtain ⟨vs, hv⟩ := H.known
  simp only [Bool.and_eq_true, decide_eq_true_eq, List.all_eq_true] at hsafe hap
  obtain ⟨⟨⟨⟨s1, s2⟩, s3⟩, s4⟩, s5⟩ := hsafe
  obtain ⟨⟨⟨a1, a2⟩, a3⟩, a4⟩ := hap
  have hzip : ∀ l : List (Nat × Nat), (l.map (·.1)).zip (l.map (·.2)) = l := fun l => by induction l with
    | nil => rfl
    | cons x l ih => simp only [List.map_cons, List.zip_cons_cons, ih]
  have hDs : ∀ d ∈ mkD vs L U N, d.want.safe = true ∧ (decide (d.at_ < ops.size) && (match d.al with | none => true | some i => match ops[d.at_]? with | some o => waitsOn o i && decide (i < ops.size) | none => false)) = true := by
    intro d hd
    rcases List.mem_append.1 hd with hd | hd
    · obtain ⟨x, -, u, hu, rfl⟩ := ups_of hd
      have := s4 _ hu
      simp only [Bool.and_eq_true, decide_eq_true_eq] at this ⊢
      exact ⟨this.1, this.2, trivial⟩
    · obtain ⟨n, hn, rfl⟩ := news_of hd
      obtain ⟨⟨⟨⟨e1, e2⟩, e3⟩, -⟩, e4⟩ := s5 n hn
      refine ⟨e1, ?_⟩
      show (decide (n.at_ < ops.size) && (match ops[n.at_]? with | some o => waitsOn o n.al && decide (n.al < ops.size) | none => false)) = true
      revert e4
      cases ops[n.at_]? with
      | none => intro e; cases e
      | some o => intro e; simp [e, e2, e3]
  have hats : ((mkD vs L U N).map (·.at_)).Nodup := by
    refine a1.sublist ?_
    rw [mkD, List.map_append, ats]
    refine (ats_mkD U L).append ?_
    rw [news, List.map_map]
    exact List.Sublist.refl _
  have hals : (mkD vs L U N).Pairwise fun x y => x.al ≠ none → x.al ≠ y.al := by
    rw [mkD, List.pairwise_append]
    refine ⟨?_, ?_, ?_⟩
    · exact (List.pairwise_of_forall_mem_list fun x hx y _ h => by obtain ⟨_, _, _, _, rfl⟩ := ups_of hx; exact absurd rfl h)
    · rw [news, List.pairwise_map]
      exact (List.pairwise_map.1 a2).imp fun h _ e => h (by simpa using e)
    · intro x hx y _ h
      obtain ⟨_, _, _, _, rfl⟩ := ups_of hx
      exact absurd rfl h
  have hpair : (mkD vs L U N).Pairwise fun x y => (x.al = none → y.al = none → x.blk ≠ y.blk) := by
    rw [mkD, List.pairwise_append]
    refine ⟨(ups_pair H.ap).imp fun h _ _ => h, List.pairwise_of_forall_mem_list fun x hx y _ h => (by obtain ⟨_, _, rfl⟩ := news_of hx; cases h), fun x _ y hy _ h => (by obtain ⟨_, _, rfl⟩ := news_of hy; cases h)⟩
  refine region_told hm hb hT hs hnd ?_ (List.all_eq_true.2 fun d hd => (hDs d hd).2) ?_ ?_ ?_ (hok vs hv H) ?_
  · simp only [Bool.and_eq_true, List.all_eq_true]
    refine ⟨⟨s1, fun d hd => (hDs d hd).1⟩, fun f hf => ?_⟩
    rcases List.mem_append.1 hf with hf | hf
    · obtain ⟨x, hx, rfl⟩ := List.mem_map.1 hf; exact s2 x hx
    · exact s3 f hf
  · exact (hpair.and ((List.pairwise_map.1 hats).and hals))
  · intro f hf
    rcases List.mem_append.1 hf with hf | hf
    · obtain ⟨x, hx, rfl⟩ := List.mem_map.1 hf; exact (hv x hx).2.1
    · exact H.v f hf
  · intro d hd hn
    rcases List.mem_append.1 hd with hd | hd
    · obtain ⟨x, hx, u, -, rfl⟩ := ups_of hd
      obtain ⟨e1, -, e2, e3⟩ := hv x hx
      exact ⟨e1, e2, e3⟩
    · obtain ⟨_, _, rfl⟩ := news_of hd; cases hn
  · intro β f W' hf hS hN hA hP hlo hlt hne
    rw [hzip] at hf hP
    rw [fill_eq (w := W') f S (setN β N tab) 0 a0.tmps (by rw [setN_length]; exact a3)]
    · refine hend β f W' (Lib.hid ⟨?_, ?_, ?_, ?_, ?_, ?_⟩)
      · intro y hy
        rcases List.mem_append.1 hy with hy | hy
        · rcases upd_of (vs := vs) H.ap hy with ⟨d, hd, rfl⟩ | ⟨h1, h2⟩
          · have := hS d (List.mem_append_left _ hd)
            obtain ⟨_, _, _, _, rfl⟩ := ups_of hd
            exact this
          · obtain ⟨e1, -, e2, e3⟩ := hv y h1
            exact Says.keep e1 e2 e3 (hN (_, _) (List.mem_append_left _ (List.mem_map.2 ⟨y, h1, rfl⟩))) hA (not_old h2)
        · obtain ⟨n, hn, rfl⟩ := List.mem_map.1 hy
          exact hS _ (List.mem_append_right _ (List.mem_map.2 ⟨n, hn, rfl⟩))
      · intro y hy
        rcases List.mem_append.1 hy with hy | hy
        · exact upd_kinds U L H.ne y hy
        · obtain ⟨n, hn, rfl⟩ := List.mem_map.1 hy
          have := (s5 n hn).1.2
          simpa using this
      · rw [List.map_append, upd_map, List.nodup_append]
        refine ⟨H.ap, ?_, ?_⟩
        · rw [List.map_map]
          refine List.pairwise_map.2 ?_
          have h1 : N.Pairwise fun x y => x.at_ ≠ y.at_ := List.pairwise_map.1 ((List.nodup_append.1 a1).2.1)
          refine h1.imp_of_mem fun {x y} hx hy h => ?_
          exact hne _ (List.mem_append_right _ (List.mem_map.2 ⟨x, hx, rfl⟩)) _ (List.mem_append_right _ (List.mem_map.2 ⟨y, hy, rfl⟩)) h
        · intro a ha b hb
          obtain ⟨x, hx, rfl⟩ := List.mem_map.1 ha
          obtain ⟨y, hy, rfl⟩ := List.mem_map.1 hb
          obtain ⟨n, hn, rfl⟩ := List.mem_map.1 hy
          have h1 := H.lt x hx
          have h2 : W0.heap.size ≤ β n.at_ := hlo _ (List.mem_append_right _ (List.mem_map.2 ⟨n, hn, rfl⟩)) (by intro h; cases h)
          show x.b ≠ β n.at_
          omega
      · intro y hy
        rcases List.mem_append.1 hy with hy | hy
        · have : y.b ∈ L.map Bx.b := by rw [← upd_map U L]; exact List.mem_map.2 ⟨y, hy, rfl⟩
          obtain ⟨x, hx, e⟩ := List.mem_map.1 this
          rw [← e]; exact H.lo x hx
        · obtain ⟨n, hn, rfl⟩ := List.mem_map.1 hy
          exact Nat.le_trans H.be.size (hlo _ (List.mem_append_right _ (List.mem_map.2 ⟨n, hn, rfl⟩)) (by intro h; cases h))
      · exact addV_means (fun p hp => hN p (List.mem_append_right _ hp)) Vn fun p hp => hf p (List.contains_iff_mem.1 (a4 p hp))
      · refine H.be.trans (hA.below (fun b hb => ?_) H.be.size)
        rw [oldBlocks, olds_mkD] at hb
        obtain ⟨d, hd, rfl⟩ := List.mem_map.1 hb
        obtain ⟨x, hx, _, -, rfl⟩ := ups_of hd
        exact H.lo x hx
    · intro p hp
      exact setN_means β f p N tab (hf p hp) fun n hn e => hP _ (List.mem_append_right _ (List.mem_map.2 ⟨n, hn, rfl⟩)) p hp (by rw [e])
theorem region_c {id : Nat} {dr : Bool} {Q : Exit → Act → World → Prop} {c : Code} (S : List Nat) (tab : List Want) (U : List (Option (Nat × Want))) (N : List Nw) (Vn : List (Nat × Nat)) (H : Hid (Frm v0 W0 L V))
    (hok : AllF P ops tab L U N V a0 v0 W0 (List.range ops.size))
    (hend : ∀ K : Act → World → Prop, Hid (∀ a w, c.wp P Q a w → K a w) → ∀ (β : Nat → Nat) (f : Nat → Value) (W' : World), Hid (Frm v0 W' (upd U L ++ N.map fun n => ⟨β n.at_, n.k, n.x⟩) (addV f tab Vn V)) → K { tmps := fillT f (setN β N tab) S a0.tmps, defers := a0.defers } W')
    (hm : P.follows .mixedOrders = true := by kernel_rfl) (hb : depsBack ops = true := by kernel_rfl)
    (hT : ((List.range ops.size).all fun j => ((tsl 0 S).map (·.1)).contains j || (dstOf ops j).isNone) = true := by kernel_rfl) (hs : ((tsl 0 S).map (·.1)).map (dstOf ops) = ((tsl 0 S).map (·.2)).map some := by kernel_rfl) (hnd : (decide ((tsl 0 S).map (·.2)).Nodup && ((tsl 0 S).map (·.2)).all (fun d => decide (d < a0.tmps.size))) = true := by kernel_rfl)
    (hsafe : (tab.all Want.safe && L.all (·.x.safe) && V.all (·.2.safe) && (U.all fun u => match u with | none => true | some u => u.2.safe && decide (u.1 < ops.size)) && N.all fun n => n.x.safe && decide (n.at_ < ops.size) && decide (n.al < ops.size) && !n.k.shape.isEmpty && (match ops[n.at_]? with | some o => waitsOn o n.al | none => false)) = true := by kernel_rfl)
    (hap : (decide (ats U N).Nodup && decide (N.map (·.al)).Nodup && decide (S.length ≤ tab.length) && Vn.all fun p => (tsl 0 S).contains p) = true := by kernel_rfl) :
    (Code.seq (Code.region id ops dr) c).wp P Q a0 W0 := wp_seq (region_f S tab U N Vn H hok (hend _ (Lib.hid fun _ _ h => h)) hm hb hT hs hnd hsafe hap)
theorem wp_seq_h {c d : Code} {Q : Exit → Act → World → Prop} (h : ∀ K : Act → World → Prop, Hid (∀ a w, d.wp P Q a w → K a w) → c.wp P (Exit.then K Q) a0 W0) : (Code.seq c d).wp P Q a0 W0 := wp_seq_k fun K hK => h K (Lib.hid hK)
end
theorem fx : (∀ (f : Nat → Value) (tab : List Want) (t : Array Value), fillT f tab [] t = t) ∧ (∀ (f : Nat → Value) (X : Want) (tab : List Want) (S : List Nat) (t : Array Value), fillT f (X :: tab) (0 :: S) t = fillT f tab S t) ∧
    (∀ (f : Nat → Value) (X : Want) (tab : List Want) (d : Nat) (S : List Nat) (t : Array Value), fillT f (X :: tab) ((d + 1) :: S) t = fillT f tab S (t.setIfInBounds d (X.pick (f d)))) ∧
    (∀ v u, (Want.is v).pick u = v) ∧ (∀ x u, (Want.num x).pick u = u) ∧ (∀ x u, (Want.rnum x).pick u = u) ∧ (∀ x y u, (Want.row x y).pick u = u) ∧ (∀ x y u, (Want.two x y).pick u = u) ∧ (∀ x y z u, (Want.three x y z).pick u = u) ∧ (∀ x u, (Want.int x).pick u = u) ∧ (∀ x u, (Want.rint x).pick u = u) ∧ (∀ x u, (Want.that x).pick u = u) ∧ (∀ u, Want.any.pick u = u) ∧
    (∀ β tab, setN β [] tab = tab) ∧ (∀ β n N tab, setN β (n :: N) tab = setN β N (tab.set n.al (.is (.pointer (some ⟨β n.at_, 0, none⟩))))) ∧ (∀ f tab V, addV f tab [] V = V) ∧ (∀ f tab p ps V, addV f tab (p :: ps) V = (f p.2, tab.getD p.1 .any) :: addV f tab ps V) ∧
    (∀ L, upd [] L = L) ∧ (∀ x L U, upd (none :: U) (x :: L) = x :: upd U L) ∧ (∀ u x L U, upd (some u :: U) (x :: L) = ⟨x.b, x.k, u.2⟩ :: upd U L) ∧
    (∀ (l : List Value) i a, l.toArray.setIfInBounds i a = (l.set i a).toArray) ∧ (∀ (x : Value) l a, (x :: l).set 0 a = a :: l) ∧ (∀ (x : Value) l n a, (x :: l).set (n + 1) a = x :: l.set n a) ∧ (∀ (x : Want) l a, (x :: l).set 0 a = a :: l) ∧ (∀ (x : Want) l n a, (x :: l).set (n + 1) a = x :: l.set n a) ∧
    (∀ (x : Want) l d, (x :: l).getD 0 d = x) ∧ (∀ (x : Want) l n d, (x :: l).getD (n + 1) d = l.getD n d) ∧ (∀ l : List Bx, [] ++ l = l) ∧ (∀ l : List Bx, l ++ [] = l) ∧ (∀ (x : Bx) l m, (x :: l) ++ m = x :: (l ++ m)) ∧ (∀ g : Nw → Bx, [].map g = []) ∧ ∀ (g : Nw → Bx) n N, (n :: N).map g = g n :: N.map g :=
  ⟨fun _ tab _ => by cases tab <;> rfl, fun _ _ _ _ _ => rfl, fun _ _ _ _ _ _ => rfl, fun _ _ => rfl, fun _ _ => rfl, fun _ _ => rfl, fun _ _ _ => rfl, fun _ _ _ => rfl, fun _ _ _ _ => rfl, fun _ _ => rfl, fun _ _ => rfl, fun _ _ => rfl, fun _ => rfl,
    fun _ _ => rfl, fun _ _ _ _ => rfl, fun _ _ _ => rfl, fun _ _ _ _ _ => rfl, fun _ => rfl, fun _ _ _ => rfl, fun _ _ _ _ => rfl, fun l i a => by simp, fun _ _ _ => rfl, fun _ _ _ _ => rfl, fun _ _ _ => rfl, fun _ _ _ _ => rfl, fun _ _ _ => rfl, fun _ _ _ _ => rfl, fun _ => rfl, fun l => List.append_nil l, fun _ _ _ => rfl, fun _ => rfl, fun _ _ _ => rfl⟩
end Go.Proofs.YtfjjmhbffbhhdaaGreatDoor
