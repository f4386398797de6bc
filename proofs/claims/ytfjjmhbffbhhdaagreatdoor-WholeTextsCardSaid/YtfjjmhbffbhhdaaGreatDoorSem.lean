/- A drawn or plain statement, told shortly. -/
import Derived.Test.YtfjjmhbffbhhdaaGreatDoorReg
import Derived.Test.YtfjjmhbffbhhdaaGreatDoorLaw2
import Derived.Deep.LoopGhost
namespace Go.Proofs.YtfjjmhbffbhhdaaGreatDoor
open Go.RowKit

structure Env (ops : Array Oper) (tab : List Want) (D : List DBox) (F : List (Value × Want)) (a0 : Act) (w0 : World) (i : Nat) (o : Oper) (β : Nat → Nat) (E : Operand → Value) (W : World) : Prop where
  A : Away (oldBlocks D) w0 W
  F : ∀ f ∈ F, Means W f.2 f.1
  c : ∀ v, E (.const v) = v
  f : ∀ f, E (.func f) = .func (.func f) #[] #[]
  e : ∀ t, freeAt ops i t = true → E (.tmp t) = a0.tmps.getD t undef
  v : ∀ j d, waitsOn o j = true → dstOf ops j = some d → Means W (tab.getD j .any) (E (.tmp d))
  p : ∀ x ∈ D, ∀ j d, x.al = some j → waitsOn o j = true → dstOf ops j = some d → E (.tmp d) = .pointer (some ⟨x.bk β, 0, none⟩)
  B : ∀ x ∈ D, x.liveAt o = true → notYet ops i x.at_ = true → BoxHas W (x.bk β) x.kind x.old ∧ BoxFree W (x.bk β) x.kind
  S : ∀ x ∈ D, x.liveAt o = true → waitsOn o x.at_ = true → Says W (x.bk β) x.kind x.want
section
variable {P : Program} {ops : Array Oper} {tab : List Want} {D : List DBox} {F : List (Value × Want)} {a0 : Act} {w0 : World} {i : Nat} {o : Oper} {is : List Nat} {β : Nat → Nat} {E : Operand → Value} {W : World} {x : DBox}
theorem Env.s {t : Nat} {u : Value} (h : Env ops tab D F a0 w0 i o β E W) (hx : a0.tmps.getD t undef = u) (he : freeAt ops i t = true := by kernel_rfl) : E (.tmp t) = u := (h.e t he).trans hx
theorem Env.m {t : Nat} {u : Value} {X : Want} (h : Env ops tab D F a0 w0 i o β E W) (hx : a0.tmps.getD t undef = u) (hm : (u, X) ∈ F) (he : freeAt ops i t = true := by kernel_rfl) : Means W X (E (.tmp t)) := by rw [h.s hx he]; exact h.F _ hm
theorem Env.w {d : Nat} {X : Want} (h : Env ops tab D F a0 w0 i o β E W) (j : Nat) (hX : tab.getD j .any = X) (hw : waitsOn o j = true := by kernel_rfl) (hd : dstOf ops j = some d := by kernel_rfl) : Means W X (E (.tmp d)) := hX ▸ h.v j d hw hd
theorem Env.k {d : Nat} {u : Value} (h : Env ops tab D F a0 w0 i o β E W) (j : Nat) (hX : tab.getD j .any = .is u) (hw : waitsOn o j = true := by kernel_rfl) (hd : dstOf ops j = some d := by kernel_rfl) : E (.tmp d) = u := h.w j hX hw hd
theorem Env.q {d j : Nat} (h : Env ops tab D F a0 w0 i o β E W) (hx : x ∈ D) (hal : x.al = some j) (hw : waitsOn o j = true := by kernel_rfl) (hd : dstOf ops j = some d := by kernel_rfl) : E (.tmp d) = .pointer (some ⟨x.bk β, 0, none⟩) := h.p x hx j d hal hw hd
theorem Env.b1 (h : Env ops tab D F a0 w0 i o β E W) (hx : x ∈ D) (h1 : x.liveAt o = true := by kernel_rfl) (h2 : notYet ops i x.at_ = true := by kernel_rfl) : BoxHas W (x.bk β) x.kind x.old := (h.B x hx h1 h2).1
theorem Env.b2 (h : Env ops tab D F a0 w0 i o β E W) (hx : x ∈ D) (h1 : x.liveAt o = true := by kernel_rfl) (h2 : notYet ops i x.at_ = true := by kernel_rfl) : BoxFree W (x.bk β) x.kind := (h.B x hx h1 h2).2
theorem Env.r (h : Env ops tab D F a0 w0 i o β E W) (hx : x ∈ D) (h1 : x.liveAt o = true := by kernel_rfl) (h2 : waitsOn o x.at_ = true := by kernel_rfl) : ∃ v, BoxHas W (x.bk β) x.kind v ∧ Means W x.want v := h.S x hx h1 h2
theorem wanted_none (h : o.guard = none) : wantedE ops o E = true := by unfold wantedE; rw [h]
theorem AllTold.mkA (ho : ops[i]? = some o) (h : ∀ β E W, Env ops tab D F a0 w0 i o β E W → OpDoes P ops tab D β i o E W) (hs : AllTold P ops tab D F a0 w0 is) : AllTold P ops tab D F a0 w0 (i :: is) :=
  AllTold.cons ho (fun β E W a b c d e f g h1 h2 => h β E W ⟨a, b, c, d, e, f, g, h1, h2⟩) hs
theorem AllTold.pl (ho : ops[i]? = some o) (h : ∀ β E W, Env ops tab D F a0 w0 i o β E W → Does P o E W fun v w' => Means w' (tab.getD i .any) v ∧ Below W.heap.size W w') (hs : AllTold P ops tab D F a0 w0 is) (hk : (o.guard.isNone && D.all fun x => x.at_ != i && x.al != some i) = true := by kernel_rfl) : AllTold P ops tab D F a0 w0 (i :: is) := by
  rw [Bool.and_eq_true, Option.isNone_iff_eq_none] at hk
  exact .mkA ho (fun β E W e => Or.inl ⟨wanted_none hk.1, hk.2, h β E W e⟩) hs
theorem AllTold.gu {g d : Nat} {b : Bool} (ho : ops[i]? = some o) (hg : o.guard = some (g, b)) (ht : tab.getD g .any = .is (.bool b)) (hd : dstOf ops g = some d) (h : ∀ β E W, Env ops tab D F a0 w0 i o β E W → Does P o E W fun v w' => Means w' (tab.getD i .any) v ∧ Below W.heap.size W w') (hs : AllTold P ops tab D F a0 w0 is) (hw : waitsOn o g = true := by kernel_rfl) (hk : (D.all fun x => x.at_ != i && x.al != some i) = true := by kernel_rfl) : AllTold P ops tab D F a0 w0 (i :: is) :=
  .mkA ho (fun β E W e => Or.inl ⟨wanted_of hg hd (e.k g ht hw hd), hk, h β E W e⟩) hs
theorem AllTold.off {g d : Nat} {b : Bool} (ho : ops[i]? = some o) (hg : o.guard = some (g, b)) (ht : tab.getD g .any = .is (.bool (!b))) (hd : dstOf ops g = some d) (hs : AllTold P ops tab D F a0 w0 is) (hu : tab.getD i .any = .is undef := by kernel_rfl) (hw : waitsOn o g = true := by kernel_rfl) (hk : (D.all fun x => x.at_ != i && x.al != some i) = true := by kernel_rfl) : AllTold P ops tab D F a0 w0 (i :: is) :=
  .mkA ho (fun β E W e => Or.inr (Or.inr (Or.inr ⟨wanted_not hg hd (e.k g ht hw hd), hk, fun _ => by rw [hu]; rfl⟩))) hs
theorem AllTold.offu {g d : Nat} {b : Bool} (ho : ops[i]? = some o) (hg : o.guard = some (g, b)) (ht : tab.getD g .any = .is undef) (hd : dstOf ops g = some d) (hs : AllTold P ops tab D F a0 w0 is) (hu : tab.getD i .any = .is undef := by kernel_rfl) (hw : waitsOn o g = true := by kernel_rfl) (hk : (D.all fun x => x.at_ != i && x.al != some i) = true := by kernel_rfl) : AllTold P ops tab D F a0 w0 (i :: is) :=
  .mkA ho (fun β E W e => Or.inr (Or.inr (Or.inr ⟨wanted_undef hg hd (e.k g ht hw hd), hk, fun _ => by rw [hu]; rfl⟩))) hs
theorem AllTold.st (ho : ops[i]? = some o) (hx : x ∈ D) (h : ∀ β E W, Env ops tab D F a0 w0 i o β E W → Does P o E W fun _ w' => ∃ v, Stored W w' (x.bk β) x.kind v ∧ Means W x.want v) (hs : AllTold P ops tab D F a0 w0 is) (hk : (o.guard.isNone && o.dst.isNone && x.at_ == i && D.all fun x => x.al != some i) = true := by kernel_rfl) : AllTold P ops tab D F a0 w0 (i :: is) := by
  rw [Bool.and_eq_true, Bool.and_eq_true, Bool.and_eq_true, Option.isNone_iff_eq_none, Option.isNone_iff_eq_none, beq_iff_eq] at hk
  exact .mkA ho (fun β E W e => Or.inr (Or.inl ⟨wanted_none hk.1.1.1, x, hx, hk.1.2, hk.2, hk.1.1.2, h β E W e⟩)) hs
theorem AllTold.al (ho : ops[i]? = some o) (hx : x ∈ D) (h : ∀ E W, Does P o E W fun v w' => v = .pointer (some ⟨W.heap.size, 0, none⟩) ∧ Below W.heap.size W w' ∧ W.heap.size < w'.heap.size ∧ BoxHas w' W.heap.size x.kind x.old ∧ BoxFree w' W.heap.size x.kind) (hs : AllTold P ops tab D F a0 w0 is) (hk : (o.guard.isNone && x.al == some i && D.all fun x => x.at_ != i) = true := by kernel_rfl) (ha : tab.getD i .any = .any := by kernel_rfl) : AllTold P ops tab D F a0 w0 (i :: is) := by
  rw [Bool.and_eq_true, Bool.and_eq_true, Option.isNone_iff_eq_none, beq_iff_eq] at hk
  exact .mkA ho (fun β E W e => Or.inr (Or.inr (Or.inl ⟨wanted_none hk.1.1, hk.2, ha, x, hx, hk.1.2, h E W⟩))) hs
theorem fn {w : World} : ∀ f ∈ ([] : List (Value × Want)), Means w f.2 f.1 := fun _ h => by cases h
def Held (w0 : World) (D : List DBox) : Prop := ∀ x ∈ D, x.al = none → BoxHas w0 x.blk x.kind x.old ∧ BoxFree w0 x.blk x.kind ∧ x.blk < w0.heap.size
theorem hn {w : World} : Held w [] := fun _ h => by cases h
theorem ha {w : World} {D : List DBox} {b j a : Nat} {k : BK} {X : Want} {v : Value} (hs : Held w D) : Held w (⟨b, k, some j, a, X, v⟩ :: D) := fun x hx hal => by
  rcases List.mem_cons.1 hx with rfl | hx
  · cases hal
  · exact hs x hx hal
theorem ho {w : World} {D : List DBox} {b a : Nat} {k : BK} {X : Want} {v : Value} (h1 : BoxHas w b k v) (h2 : BoxFree w b k) (h3 : b < w.heap.size) (hs : Held w D) : Held w (⟨b, k, none, a, X, v⟩ :: D) := fun x hx hal => by
  rcases List.mem_cons.1 hx with rfl | hx
  · exact ⟨h1, h2, h3⟩
  · exact hs x hx hal
end
end Go.Proofs.YtfjjmhbffbhhdaaGreatDoor

/- Boxes by what they hold; single operations on them; what a call gives. -/
namespace Go.Proofs.YtfjjmhbffbhhdaaGreatDoor
open Go.RowKit

def Gives (W : World) (x : Want) : Ending → World → Prop := fun e w' => ∃ v, e = .returned v ∧ Means w' x v ∧ Below W.heap.size W w'
def Holds (w : World) (b : Nat) (k : BK) (x : Want) : Prop := Says w b k x ∧ BoxFree w b k
theorem Holds.mk {w : World} {b : Nat} {k : BK} {x : Want} {v : Value} (h1 : BoxHas w b k v) (h2 : BoxFree w b k) (h3 : Means w x v) : Holds w b k x := ⟨⟨v, h1, h3⟩, h2⟩
theorem Holds.mono {w w' : World} {b : Nat} {k : BK} {x : Want} (h : Holds w b k x) (hb : Below w.heap.size w w') : Holds w' b k x := by
  obtain ⟨⟨v, h1, h2⟩, h3⟩ := h
  exact ⟨⟨v, h1.mono hb, h2.mono hb⟩, h3.mono h1 hb⟩
theorem Holds.op {w : World} {b : Nat} {k : BK} {x : Want} (h : Holds w b k x) (h0 : k.shape.isEmpty = false) : ∃ v, BoxHas w b k v ∧ Means w x v ∧ BoxFree w b k ∧ b < w.heap.size := by
  obtain ⟨⟨v, h1, h2⟩, h3⟩ := h
  exact ⟨v, h1, h2, h3, h1.lt h0⟩
theorem Says.keep {w w' : World} {b : Nat} {k : BK} {x : Want} {v : Value} {bs : List Nat} (h1 : BoxHas w b k v) (h2 : BoxFree w b k) (hl : b < w.heap.size) (h3 : Means w' x v) (hA : Away bs w w') (hn : b ∉ bs) : Holds w' b k x := by
  obtain ⟨cs, a1, a2, a3⟩ := h1
  exact ⟨⟨v, ⟨cs, a1, a2, fun i y hy => hA.cell (a3 i y hy) hn⟩, h3⟩, fun o ho => (hA.frozen hl hn).trans (h2 o ho)⟩
theorem BoxHas.far {w w' : World} {b : Nat} {k : BK} {v : Value} {bs : List Nat} (h : BoxHas w b k v) (hA : Away bs w w') (hn : b ∉ bs) : BoxHas w' b k v := by
  obtain ⟨cs, a1, a2, a3⟩ := h
  exact ⟨cs, a1, a2, fun i y hy => hA.cell (a3 i y hy) hn⟩
theorem BoxHas.made' (w : World) (k : BK) (cs : List Value) (t : TypeId) (hf : Fits k.shape cs) : BoxHas (w.alloc (.cells cs.toArray t)) w.heap.size k (.agg cs.toArray) :=
  ⟨cs, rfl, hf, fun i x hx => by rw [World.cell?_alloc_at _ _ _ _ rfl]; simpa using hx⟩
theorem BoxFree.made' (w : World) (k : BK) (o : Array Value) (t : TypeId) : BoxFree (w.alloc (.cells o t)) w.heap.size k := fun i _ => by simp [go_sem]

def lenS (n : Nat) : Stable where
  says _ v := ∃ l : Int, v = .int .i64 l ∧ 0 ≤ l ∧ (l = 0 ↔ n = 0)
  mono _ _ _ _ h := h
  stored _ _ _ _ _ _ _ _ _ h := h

section
variable {P : Program} {E : Operand → Value} {w : World} {d : Option Tmp} {ty : TypeId} {pos : String} {af : Array Edge} {gd : Option (Nat × Bool)}
set_option maxRecDepth 100000 in
theorem ev_faI0 {x : Operand} {b : Nat} (h : E x = .pointer (some ⟨b, 0, none⟩)) : Does Tryz.prog ⟨d, .fieldAddr 28 x 0, ty, pos, af, gd⟩ E w fun v' w' => Means w' (.is (.pointer (some ⟨b, 0, none⟩))) v' ∧ Below w.heap.size w w' := by
  exact Does.value (v := .pointer (some ⟨b, 0, none⟩)) (w' := w) (by go_simp) ⟨rfl, Below.refl _ _⟩
set_option maxRecDepth 100000 in
theorem ev_faI1 {x : Operand} {b : Nat} (h : E x = .pointer (some ⟨b, 0, none⟩)) : Does Tryz.prog ⟨d, .fieldAddr 28 x 1, ty, pos, af, gd⟩ E w fun v' w' => Means w' (.is (.pointer (some ⟨b, 1, none⟩))) v' ∧ Below w.heap.size w w' := by
  exact Does.value (v := .pointer (some ⟨b, 1, none⟩)) (w' := w) (by go_simp) ⟨rfl, Below.refl _ _⟩
set_option maxRecDepth 100000 in
theorem ev_faR0 {x : Operand} {b : Nat} (h : E x = .pointer (some ⟨b, 0, none⟩)) : Does Tryz.prog ⟨d, .fieldAddr 32 x 0, ty, pos, af, gd⟩ E w fun v' w' => Means w' (.is (.pointer (some ⟨b, 0, none⟩))) v' ∧ Below w.heap.size w w' := by
  exact Does.value (v := .pointer (some ⟨b, 0, none⟩)) (w' := w) (by go_simp) ⟨rfl, Below.refl _ _⟩
set_option maxRecDepth 100000 in
theorem ev_faR1 {x : Operand} {b : Nat} (h : E x = .pointer (some ⟨b, 0, none⟩)) : Does Tryz.prog ⟨d, .fieldAddr 32 x 1, ty, pos, af, gd⟩ E w fun v' w' => Means w' (.is (.pointer (some ⟨b, 1, none⟩))) v' ∧ Below w.heap.size w w' := by
  exact Does.value (v := .pointer (some ⟨b, 1, none⟩)) (w' := w) (by go_simp) ⟨rfl, Below.refl _ _⟩
theorem ev_ldI {x : Operand} {b : Nat} {X : Want} (h : E x = .pointer (some ⟨b, 0, none⟩)) (hs : Says w b .int X) : Does Tryz.prog ⟨d, .load 28 x, ty, pos, af, gd⟩ E w fun v' w' => Means w' X v' ∧ Below w.heap.size w w' := by
  obtain ⟨v, hb, hm⟩ := hs
  obtain ⟨g, s, p, l, c, rfl, q0, q1, q2⟩ := hb.int
  exact Does.value (w' := w) (by go_simp) ⟨hm, Below.refl _ _⟩
theorem ev_ldI0 {x : Operand} {b : Nat} {z : Int} {g' : Bool} (h : E x = .pointer (some ⟨b, 0, none⟩)) (hs : Says w b .int (.int z)) (hg : decide (z < 0) = g') : Does Tryz.prog ⟨d, .load 4 x, ty, pos, af, gd⟩ E w fun v' w' => Means w' (.is (.bool g')) v' ∧ Below w.heap.size w w' := by
  obtain ⟨v, hb, hm⟩ := hs
  obtain ⟨g, s, p, l, c, rfl, q0, q1, q2⟩ := hb.int
  have := hm.isI.1
  rw [hg] at this
  subst this
  exact Does.value (w' := w) (by go_simp) ⟨rfl, Below.refl _ _⟩
theorem ev_ldI1 {x : Operand} {b : Nat} {z : Int} {n : Nat} (h : E x = .pointer (some ⟨b, 1, none⟩)) (hs : Says w b .int (.int z)) (hn : z.natAbs = n) : Does Tryz.prog ⟨d, .load 26 x, ty, pos, af, gd⟩ E w fun v' w' => Means w' (.num n) v' ∧ Below w.heap.size w w' := by
  obtain ⟨v, hb, hm⟩ := hs
  obtain ⟨g, s, p, l, c, rfl, q0, q1, q2⟩ := hb.int
  have := hm.isI.2
  rw [hn] at this
  exact Does.value (v := .agg #[.int .u64 s, .slice p l c]) (w' := w) (by go_simp) ⟨⟨_, _, _, _, rfl, this⟩, Below.refl _ _⟩
theorem ev_ldN {x : Operand} {b : Nat} {X : Want} (h : E x = .pointer (some ⟨b, 0, none⟩)) (hs : Says w b .nat X) : Does Tryz.prog ⟨d, .load 26 x, ty, pos, af, gd⟩ E w fun v' w' => Means w' X v' ∧ Below w.heap.size w w' := by
  obtain ⟨v, hb, hm⟩ := hs
  obtain ⟨s, p, l, c, rfl, q0, q1⟩ := hb.nat
  exact Does.value (w' := w) (by go_simp) ⟨hm, Below.refl _ _⟩
theorem ev_ldR {x : Operand} {b : Nat} {X : Want} (h : E x = .pointer (some ⟨b, 0, none⟩)) (hs : Says w b .rint X) : Does Tryz.prog ⟨d, .load 32 x, ty, pos, af, gd⟩ E w fun v' w' => Means w' X v' ∧ Below w.heap.size w w' := by
  obtain ⟨v, hb, hm⟩ := hs
  obtain ⟨g, p, l, c, rfl, q0, q1⟩ := hb.rint
  exact Does.value (w' := w) (by go_simp) ⟨hm, Below.refl _ _⟩
theorem ev_ldR0 {x : Operand} {b : Nat} {z : Int} {g' : Bool} (h : E x = .pointer (some ⟨b, 0, none⟩)) (hs : Says w b .rint (.rint z)) (hg : decide (z < 0) = g') : Does Tryz.prog ⟨d, .load 4 x, ty, pos, af, gd⟩ E w fun v' w' => Means w' (.is (.bool g')) v' ∧ Below w.heap.size w w' := by
  obtain ⟨v, hb, hm⟩ := hs
  obtain ⟨g, p, l, c, rfl, q0, q1⟩ := hb.rint
  have := hm.isRI.1
  rw [hg] at this
  subst this
  exact Does.value (w' := w) (by go_simp) ⟨rfl, Below.refl _ _⟩
theorem ev_ldR1 {x : Operand} {b : Nat} {z : Int} {n : Nat} (h : E x = .pointer (some ⟨b, 1, none⟩)) (hs : Says w b .rint (.rint z)) (hn : z.natAbs = n) : Does Tryz.prog ⟨d, .load 30 x, ty, pos, af, gd⟩ E w fun v' w' => Means w' (.rnum n) v' ∧ Below w.heap.size w w' := by
  obtain ⟨v, hb, hm⟩ := hs
  obtain ⟨g, p, l, c, rfl, q0, q1⟩ := hb.rint
  have := hm.isRI.2
  rw [hn] at this
  exact Does.value (v := .slice p l c) (w' := w) (by go_simp) ⟨⟨_, _, _, rfl, this⟩, Below.refl _ _⟩
theorem ev_stI {x y : Operand} {b : Nat} {z : Int} (h : E x = .pointer (some ⟨b, 0, none⟩)) {X0 : Want} (hh : Holds w b .int X0) (hm : Means w (.int z) (E y)) : Does Tryz.prog ⟨none, .store 28 x y, ty, pos, af, gd⟩ E w fun _ w' => ∃ v, Stored w w' b .int v ∧ Means w (.int z) v := by
  obtain ⟨⟨u, hb, -⟩, hf⟩ := hh
  obtain ⟨g0, s0, p0, l0, c0, rfl, q0, q1, q2⟩ := hb.int
  have t0 := hf 0 (by show 0 < 3; decide); have t1 := hf 1 (by show 1 < 3; decide); have t2 := hf 2 (by show 2 < 3; decide)
  obtain ⟨g, s, p, l, c, e2, hI⟩ := hm
  exact Does.skip (by go_simp) ⟨_, Stored.mkInt (b := b), ⟨g, s, p, l, c, rfl, hI⟩⟩
theorem ev_stN {x y : Operand} {b : Nat} {z : Nat} (h : E x = .pointer (some ⟨b, 0, none⟩)) {X0 : Want} (hh : Holds w b .nat X0) (hm : Means w (.num z) (E y)) : Does Tryz.prog ⟨none, .store 26 x y, ty, pos, af, gd⟩ E w fun _ w' => ∃ v, Stored w w' b .nat v ∧ Means w (.num z) v := by
  obtain ⟨⟨u, hb, -⟩, hf⟩ := hh
  obtain ⟨s0, p0, l0, c0, rfl, q0, q1⟩ := hb.nat
  have t0 := hf 0 (by show 0 < 2; decide); have t1 := hf 1 (by show 1 < 2; decide)
  obtain ⟨s, p, l, c, e2, hI⟩ := hm
  exact Does.skip (by go_simp) ⟨_, Stored.mkNat (b := b), ⟨s, p, l, c, rfl, hI⟩⟩
theorem ev_stR {x y : Operand} {b : Nat} {z : Int} (h : E x = .pointer (some ⟨b, 0, none⟩)) {X0 : Want} (hh : Holds w b .rint X0) (hm : Means w (.rint z) (E y)) : Does Tryz.prog ⟨none, .store 32 x y, ty, pos, af, gd⟩ E w fun _ w' => ∃ v, Stored w w' b .rint v ∧ Means w (.rint z) v := by
  obtain ⟨⟨u, hb, -⟩, hf⟩ := hh
  obtain ⟨g0, p0, l0, c0, rfl, q0, q1⟩ := hb.rint
  have t0 := hf 0 (by show 0 < 2; decide); have t1 := hf 1 (by show 1 < 2; decide)
  obtain ⟨g, p, l, c, e2, hI⟩ := hm
  exact Does.skip (by go_simp) ⟨_, Stored.mkRint (b := b), ⟨g, p, l, c, rfl, hI⟩⟩
set_option maxRecDepth 100000 in
theorem ev_alI : Does Tryz.prog ⟨d, .alloc 28, ty, pos, af, gd⟩ E w fun v w' => v = .pointer (some ⟨w.heap.size, 0, none⟩) ∧ Below w.heap.size w w' ∧ w.heap.size < w'.heap.size ∧ BoxHas w' w.heap.size .int (.agg #[.bool false, .int .u64 0, .slice none 0 0]) ∧ BoxFree w' w.heap.size .int :=
  Does.value (w' := w.alloc (.cells #[.bool false, .int .u64 0, .slice none 0 0] 28)) (by go_simp) ⟨rfl, below_alloc (Below.refl _ _) _, by simp, BoxHas.made' w .int [.bool false, .int .u64 0, .slice none 0 0] 28 ⟨⟨_, rfl⟩, ⟨_, rfl⟩, ⟨_, _, _, rfl⟩, trivial⟩, BoxFree.made' w .int _ _⟩
set_option maxRecDepth 100000 in
theorem ev_alN : Does Tryz.prog ⟨d, .alloc 26, ty, pos, af, gd⟩ E w fun v w' => v = .pointer (some ⟨w.heap.size, 0, none⟩) ∧ Below w.heap.size w w' ∧ w.heap.size < w'.heap.size ∧ BoxHas w' w.heap.size .nat (.agg #[.int .u64 0, .slice none 0 0]) ∧ BoxFree w' w.heap.size .nat :=
  Does.value (w' := w.alloc (.cells #[.int .u64 0, .slice none 0 0] 26)) (by go_simp) ⟨rfl, below_alloc (Below.refl _ _) _, by simp, BoxHas.made' w .nat [.int .u64 0, .slice none 0 0] 26 ⟨⟨_, rfl⟩, ⟨_, _, _, rfl⟩, trivial⟩, BoxFree.made' w .nat _ _⟩
set_option maxRecDepth 100000 in
theorem ev_alR : Does Tryz.prog ⟨d, .alloc 32, ty, pos, af, gd⟩ E w fun v w' => v = .pointer (some ⟨w.heap.size, 0, none⟩) ∧ Below w.heap.size w w' ∧ w.heap.size < w'.heap.size ∧ BoxHas w' w.heap.size .rint (.agg #[.bool false, .slice none 0 0]) ∧ BoxFree w' w.heap.size .rint :=
  Does.value (w' := w.alloc (.cells #[.bool false, .slice none 0 0] 32)) (by go_simp) ⟨rfl, below_alloc (Below.refl _ _) _, by simp, BoxHas.made' w .rint [.bool false, .slice none 0 0] 32 ⟨⟨_, rfl⟩, ⟨_, _, _, rfl⟩, trivial⟩, BoxFree.made' w .rint _ _⟩
theorem ev_call4 {f : FuncId} {x y z u : Operand} {ts : Array TypeId} {R : Value → World → Prop} (hf : E (.func f) = .func (.func f) #[] #[]) (hr : RowKit.Hid (∀ (a : Array Value) (w : World), Sem.run Tryz.prog (callFunc f a) w = .ok (.enter f a) w)) (h : Calls Tryz.prog f #[E x, E y, E z, E u] w fun e w' => ∃ v, e = .returned v ∧ R v w') : Does Tryz.prog ⟨d, .call ⟨.value (.func f), #[x, y, z, u], ts⟩, ty, pos, af, gd⟩ E w R :=
  Does.call (w' := w) (by go_simp; exact hr.out _ _) h
theorem ev_moveM {x : Operand} {X : Want} (h : Means w X (E x)) : Does P ⟨d, .move x, ty, pos, af, gd⟩ E w fun v' w' => Means w' X v' ∧ Below w.heap.size w w' := Does.value (w' := w) (by go_simp) ⟨h, Below.refl _ _⟩
theorem ev_assignM {x : Operand} {X : Want} (h : Means w X (E x)) : Does P ⟨d, .assign x, ty, pos, af, gd⟩ E w fun v' w' => Means w' X v' ∧ Below w.heap.size w w' := Does.value (w' := w) (by go_simp) ⟨h, Below.refl _ _⟩
theorem ev_ex20 {x : Operand} {X Y : Want} (h : Means w (.two X Y) (E x)) : Does P ⟨d, .extract x 0, ty, pos, af, gd⟩ E w fun v' w' => Means w' X v' ∧ Below w.heap.size w w' := by
  obtain ⟨a, b, e, h1, h2⟩ := h
  exact Does.value (v := a) (w' := w) (by go_simp) ⟨h1, Below.refl _ _⟩
theorem ev_ex21 {x : Operand} {X Y : Want} (h : Means w (.two X Y) (E x)) : Does P ⟨d, .extract x 1, ty, pos, af, gd⟩ E w fun v' w' => Means w' Y v' ∧ Below w.heap.size w w' := by
  obtain ⟨a, b, e, h1, h2⟩ := h
  exact Does.value (v := b) (w' := w) (by go_simp) ⟨h2, Below.refl _ _⟩
theorem ev_len {x : Operand} {n : Nat} (h : Means w (.rnum n) (E x)) : Does Tryz.prog ⟨d, .call ⟨.builtin .len, #[x], #[30]⟩, 3, pos, af, gd⟩ E w fun v' w' => Means w' (.that (lenS n)) v' ∧ Below w.heap.size w w' := by
  obtain ⟨p, l, c, e, hI⟩ := h
  exact Does.value (v := .int .i64 (l : Int)) (w' := w) (by go_simp) ⟨⟨_, rfl, by omega, by have := hI.zero_iff; omega⟩, Below.refl _ _⟩
theorem ev_lenEql {x : Operand} {n : Nat} {b : Bool} (h : Means w (.that (lenS n)) (E x)) (hb : decide (n = 0) = b) (hc : ∀ v, E (.const v) = v) : Does Tryz.prog ⟨d, .binOp .eql 3 x (.const (.int .i64 0)) 3, ty, pos, af, gd⟩ E w fun v' w' => Means w' (.is (.bool b)) v' ∧ Below w.heap.size w w' := by
  obtain ⟨l, e, h0, hl⟩ := h
  refine Does.value (v := .bool (l == 0)) (w' := w) (by go_simp) ⟨?_, Below.refl _ _⟩
  show Value.bool _ = Value.bool b
  rw [← hb]
  by_cases hn : n = 0
  · rw [decide_eq_true (by omega), hl.2 hn]; rfl
  · rw [decide_eq_false (by omega), beq_eq_false_iff_ne.2 (fun e => hn (hl.1 e))]
set_option maxRecDepth 100000 in
theorem ev_zeroR : Does Tryz.prog ⟨d, .build 32 #[], ty, pos, af, gd⟩ E w fun v' w' => Means w' (.rint 0) v' ∧ Below w.heap.size w w' :=
  Does.value (v := .agg #[.bool false, .slice none 0 0]) (w' := w) (by go_simp) ⟨⟨_, _, _, _, rfl, rfl, by simp [dr_zero], Nat.le_refl _, fun h => absurd rfl h⟩, Below.refl _ _⟩
end
end Go.Proofs.YtfjjmhbffbhhdaaGreatDoor
