/- A Writer: its bytes lie in a row of its own; copies; the checksum's bytes. -/
import Derived.Test.YtdmoiagliflecaaO1
import Derived.RangeFuncBox
namespace Go.Proofs.Ytdmoiagliflecaa
open Go.RowKit

theorem ownsRow_pos {W : World} {base : Nat} {e : TypeId} {size : Nat} {v : Value} {k : Nat} {xs : List Value} (h : W.ownsRow base e size v k xs) (hk : 0 < k) : ∃ g cap, v = .slice (some ⟨g, 0, none⟩) k cap := by
  rcases h.2 with ⟨_, h0⟩ | ⟨g, cap, _, rfl, _⟩
  · omega
  · exact ⟨g, cap, rfl⟩

theorem ownsRow_at {W : World} {base : Nat} {k : IntKind} {g n cap : Nat} {xs : List Nat} {e : TypeId} (h : W.ownsRow base e 1 (.slice (some ⟨g, 0, none⟩) n cap) n (cellsOfRow k xs)) (hn : xs.length = n) :
    base ≤ g ∧ n ≤ cap ∧ At W k g 0 xs ∧ Fr W g 0 n := by
  obtain ⟨h1, ⟨h2, _⟩ | ⟨g', cap', cur, h2, h3, h4, h5, _⟩⟩ := id h
  · cases h2
  · simp only [Value.slice.injEq, Option.some.injEq, Addr.mk.injEq, and_true, true_and] at h2
    obtain ⟨rfl, rfl⟩ := h2
    refine ⟨h3, h5, fun i hi => ?_, fun i _ => ?_⟩
    · rw [Nat.zero_add, World.ownsRow.cellAt h i (by omega)]
      simp [cellsOfRow, List.getD, hi]
    · rw [Nat.zero_add]; exact World.ownsRow.frozenAt h i

theorem cells_at {W : World} {k : IntKind} {b off : Nat} {xs : List Nat} (h : At W k b off xs) : ∀ j u, (cellsOfRow k xs)[j]? = some u → W.cell? ((⟨b, off, none⟩ : Addr).add j) = some u := by
  intro j u hj
  have hjl : j < xs.length := by
    rcases Nat.lt_or_ge j xs.length with h | h
    · exact h
    · rw [List.getElem?_eq_none (by simpa [cellsOfRow] using h)] at hj; cases hj
  rw [Go.WideShapes.add_plain]
  show W.cell? ⟨b, off + j, none⟩ = some u
  rw [h j hjl, ← hj]
  simp [cellsOfRow, List.getD, hjl]
theorem cells_one (k : IntKind) (xs : List Nat) : ∀ u ∈ cellsOfRow k xs, u.oneCell' = true := by
  intro u hu
  simp only [cellsOfRow, List.mem_map] at hu
  obtain ⟨x, _, rfl⟩ := hu
  rfl
theorem cells_len (k : IntKind) (xs : List Nat) : (cellsOfRow k xs).length = xs.length := by simp [cellsOfRow]
theorem cells_app (k : IntKind) (xs ys : List Nat) : cellsOfRow k (xs ++ ys) = cellsOfRow k xs ++ cellsOfRow k ys := by simp [cellsOfRow]

/-- Bytes are appended to a row of one's own: what comes is the same row, or a new one. -/
theorem wpList_append_wr (w : World) {ops : Array Oper} {rest : List Oper} {o : Oper} {a : Act} {Q : Exit → Act → World → Prop} (hgd : o.guard = none) (s x : Operand)
    (ho : o.op = .call { callee := .builtin .append, args := #[s, x], argTypes := #[22, 22] })
    (base : Nat) (v : Value) (n : Nat) (xs ys : List Nat) (hs : a.eval s = v) (hxn : xs.length = n) (hown : w.ownsRow base 5 1 v n (cellsOfRow .u8 xs))
    (b off m c : Nat) (hx : a.eval x = .slice (some ⟨b, off, none⟩) m c) (hl : ys.length = m) (hy : At w .u8 b off ys)
    (hmax : n + m ≤ 4611686018427) (hpos : 0 < n + m) (hbase : base ≤ w.heap.size)
    (h : ∀ g cap w', w'.ownsRow base 5 1 (.slice (some ⟨g, 0, none⟩) (n + m) cap) (n + m) (cellsOfRow .u8 (xs ++ ys)) → w.grownBy w' v.ownBlock →
      (g < w.heap.size → v.ownBlock = some g) → wpList Try.prog ops Q rest (a.put o.dst (.slice (some ⟨g, 0, none⟩) (n + m) cap)) w') : wpList Try.prog ops Q (o :: rest) a w := by
  obtain ⟨i0, hi, hz0, hz1, hz2⟩ := info_parts Try.infoU8
  have e1 : (cellsOfRow .u8 ys).length = m * 1 := by rw [cells_len, hl, Nat.mul_one]
  rcases id hown with ⟨_, ⟨rfl, rfl⟩ | ⟨g, cap, cur, rfl, hg1, hg2, hg3, hg4, _⟩⟩
  · refine wpList_append_own w hgd s x 22 ho w.heap.size 5 i0 (.int .u8 0) 1 1 Try.underlying22 hi hz0 hz1 hz2 rfl (by decide) (.slice none 0 0) 0 [] hs (World.ownsRow_nil _ _ _ _) ⟨b, off, none⟩ m c (cellsOfRow .u8 ys) hx e1 (cells_at hy) (cells_one _ _) (by unfold maxLen; omega) (by omega) (Nat.le_refl _) ?_
    intro v' w' h1 h2 _
    obtain rfl : xs = [] := List.eq_nil_of_length_eq_zero hxn
    obtain ⟨g, cap, rfl⟩ := ownsRow_pos h1 hpos
    have hge : w.heap.size ≤ g := (h1.lt g rfl).1
    refine h g cap w' ⟨?_, ?_⟩ h2 (fun hlt => ?_)
    · rw [cells_len]; simpa using hl
    · rcases h1.2 with ⟨h3, _⟩ | ⟨g', cap', cur, h3, h4, h5⟩
      · cases h3
      · exact .inr ⟨g', cap', cur, h3, by omega, by simpa using h5⟩
    · omega
  · by_cases hr : n + m ≤ cap
    · refine wpList_append_fits w hgd s x 22 ho base 5 i0 1 Try.underlying22 hi hz1 g n cap (cellsOfRow .u8 xs) hs hown ⟨b, off, none⟩ m c (cellsOfRow .u8 ys) hx e1 (cells_at hy) (cells_one _ _) hr ?_
      intro w' h1 h2
      rw [← cells_app] at h1
      exact h g cap w' h1 h2 (fun _ => rfl)
    · refine wpList_append_grows w hgd s x 22 ho 5 i0 (.int .u8 0) 1 1 Try.underlying22 hi hz0 hz1 hz2 rfl (by decide) (some ⟨g, 0, none⟩) n cap (cellsOfRow .u8 xs) hs (fun e => by cases e) (by rw [cells_len, hxn, Nat.mul_one])
        (fun b' hb' => by cases hb'; exact World.ownsRow.cells hown rfl) ⟨b, off, none⟩ m c (cellsOfRow .u8 ys) hx e1 (cells_at hy) (cells_one _ _) (by omega) (by unfold maxLen; omega) (by omega) ?_
      intro v' w' h1 h2
      obtain ⟨g', cap', rfl⟩ := ownsRow_pos h1 hpos
      have hge : w.heap.size ≤ g' := (h1.lt g' rfl).1
      rw [← cells_app] at h1
      refine h g' cap' w' ⟨h1.1, ?_⟩ ⟨h2.os, h2.tape, h2.output, h2.size, fun k hk _ => h2.block k hk (by simp)⟩ (fun hlt => ?_)
      · rcases h1.2 with ⟨h3, _⟩ | ⟨g2, cap2, cur2, h3, h4, h5⟩
        · cases h3
        · exact .inr ⟨g2, cap2, cur2, h3, by omega, h5⟩
      · omega

/-- What a copy leaves: nil for nothing; else a row of its own, without room behind it. -/
def RetC (W : World) (bs : List Nat) : Ending → World → Prop := fun e w' =>
  ((bs = [] ∧ e = .returned (.slice none 0 0)) ∨ ∃ g, 0 < bs.length ∧ e = .returned (.slice (some ⟨g, 0, none⟩) bs.length bs.length) ∧ W.heap.size ≤ g ∧ At w' .u8 g 0 bs ∧ Fr w' g 0 bs.length) ∧ Below W.heap.size W w'

set_option maxHeartbeats 400000 in
theorem exact_at (b off l c : Nat) (bs : List Nat) (w : World) (hl : bs.length = l) (h0 : 0 < l) (hm : l ≤ 4611686018427) (h : At w .u8 b off bs) :
    Calls Try.prog 29 #[.slice (some ⟨b, off, none⟩) l c] w (RetC w bs) := by
  obtain ⟨i0, hi, hz0, hz1, hz2⟩ := info_parts Try.infoU8
  have HX := Lib.hid h
  have HL := Lib.hid hl
  clear h hl
  go_enter Try.func29, Try.ntmps29
  go_wp2_with (at_builtin; go_loud (refine wpList_append_own _ rfl (.const (.slice none 0 0)) (.tmp 4) 22 rfl w.heap.size 5 i0 (.int .u8 0) 1 1 Try.underlying22 hi hz0 hz1 hz2 rfl (by decide) (.slice none 0 0) 0 [] rfl (World.ownsRow_nil _ _ _ _) ⟨b, off, none⟩ l c (cellsOfRow .u8 bs) rfl ?c1 (cells_at HX.out) (cells_one _ _) ?c4 ?c5 ?c6 ?_))
  case c1 => rw [cells_len, HL.out, Nat.mul_one]
  case c4 => unfold maxLen; omega
  case c5 => omega
  case c6 => exact Nat.le_refl _
  intro v' w2 hown hg hnil
  have hb : Below w.heap.size w w2 := (Below.refl w.heap.size w).grown hg (Nat.le_refl _) (fun k hk => by simp [Value.ownBlock] at hk)
  obtain ⟨g, cap, rfl⟩ := ownsRow_pos hown h0
  obtain ⟨hg1, hg2, hg3, hg4⟩ := ownsRow_at hown HL.out
  have H3 := Lib.hid hg3; have H4 := Lib.hid hg4; have HB := Lib.hid hb; have HG1 := Lib.hid hg1
  clear hown hg hnil hb hg3 hg4 hg1
  go_wp2
  go_ret
  refine ⟨Or.inr ⟨g, ?_, ?_, HG1.out, H3.out, ?_⟩, HB.out⟩
  · rw [HL.out]; exact h0
  · rw [HL.out]; rfl
  · rw [HL.out]; exact H4.out

set_option maxHeartbeats 400000 in
theorem exact_nil (w : World) : Calls Try.prog 29 #[.slice none 0 0] w (RetC w []) := by
  obtain ⟨i0, hi, hz0, hz1, hz2⟩ := info_parts Try.infoU8
  go_enter Try.func29, Try.ntmps29
  go_wp2_with (at_builtin; go_loud (refine wpList_append_own_none rfl (.const (.slice none 0 0)) (.tmp 4) 22 rfl w.heap.size 5 i0 1 Try.underlying22 hi (.slice none 0 0) 0 [] rfl (World.ownsRow_nil _ _ _ _) rfl ?_))
  go_wp2
  go_ret
  exact ⟨Or.inl ⟨rfl, rfl⟩, Below.refl _ _⟩

set_option maxHeartbeats 400000 in
theorem exact_empty (a : Addr) (c : Nat) (w : World) : Calls Try.prog 29 #[.slice (some a) 0 c] w (RetC w []) := by
  obtain ⟨i0, hi, hz0, hz1, hz2⟩ := info_parts Try.infoU8
  go_enter Try.func29, Try.ntmps29
  go_wp2_with (at_builtin; go_loud (refine wpList_append_own _ rfl (.const (.slice none 0 0)) (.tmp 4) 22 rfl w.heap.size 5 i0 (.int .u8 0) 1 1 Try.underlying22 hi hz0 hz1 hz2 rfl (by decide) (.slice none 0 0) 0 [] rfl (World.ownsRow_nil _ _ _ _) a 0 c [] rfl rfl (fun j u h => by simp at h) (fun u h => by simp at h) (by decide) (by decide) (Nat.le_refl _) ?_))
  intro v' w2 hown hg hnil
  have hb : Below w.heap.size w w2 := (Below.refl w.heap.size w).grown hg (Nat.le_refl _) (fun k hk => by simp [Value.ownBlock] at hk)
  obtain rfl : v' = .slice none 0 0 := hnil
  have HB := Lib.hid hb
  clear hown hg hb
  go_wp2
  go_ret
  exact ⟨Or.inl ⟨rfl, rfl⟩, HB.out⟩

/-- A copy. -/
theorem exact_any (p : Option Addr) (l c : Nat) (bs : List Nat) (w : World) (hm : l ≤ 4611686018427) (h : IsB w p l c bs) : Calls Try.prog 29 #[.slice p l c] w (RetC w bs) := by
  rcases h.cases with ⟨rfl, rfl⟩ | ⟨b, off, rfl, h1, h2, _, h4, _⟩
  · obtain ⟨_, _, ⟨rfl, _, rfl⟩ | ⟨b, off, sp, rfl, _, _⟩⟩ := h
    · exact exact_nil w
    · exact exact_empty _ c w
  · exact exact_at b off l c bs w h2 h1 hm h4

/-- A Writer in block b, whose slice is v: it holds bs in a row of its own. -/
structure WrV (n0 : Nat) (w : World) (b : Nat) (v : Value) (bs : List Nat) : Prop where
  box : Boxed w b 54 v
  row : w.ownsRow n0 5 1 v bs.length (cellsOfRow .u8 bs)
  le : n0 ≤ b
  lt : ∀ x ∈ bs, x < 256

/-- What a Writer's call has turned: its own blocks. -/
structure WStep (w w' : World) (b : Nat) (v v' : Value) : Prop where
  os : w'.os = w.os
  tape : w'.tape = w.tape
  output : w'.output = w.output
  size : w.heap.size ≤ w'.heap.size
  block : ∀ k, k < w.heap.size → k ≠ b → some k ≠ v.ownBlock → w'.heap[k]? = w.heap[k]?
  own : ∀ k, v'.ownBlock = some k → k < w.heap.size → v.ownBlock = some k

theorem WStep.refl (w : World) (b : Nat) (v : Value) : WStep w w b v v := ⟨rfl, rfl, rfl, Nat.le_refl _, fun _ _ _ _ => rfl, fun _ h _ => h⟩
theorem WStep.trans {w w1 w2 : World} {b : Nat} {v v1 v2 : Value} (h : WStep w w1 b v v1) (h' : WStep w1 w2 b v1 v2) : WStep w w2 b v v2 :=
  ⟨h'.os.trans h.os, h'.tape.trans h.tape, h'.output.trans h.output, Nat.le_trans h.size h'.size,
    fun k hk hb hv => (h'.block k (Nat.lt_of_lt_of_le hk h.size) hb (fun e => hv (h.own k e.symm hk).symm)).trans (h.block k hk hb hv),
    fun k e hk => h.own k (h'.own k e (Nat.lt_of_lt_of_le hk h.size)) hk⟩
theorem WStep.below {n0 : Nat} {w w' : World} {b : Nat} {v v' : Value} {bs : List Nat} (h : WStep w w' b v v') (hw : WrV n0 w b v bs) (hn : n0 ≤ w.heap.size) : Below n0 w w' :=
  ⟨h.os, h.tape, h.output, h.size, fun k hk => h.block k (by omega) (fun e => by have := hw.le; omega) (fun e => by have := (hw.row.lt k e.symm).1; omega)⟩
/-- A row that is none of the Writer's stays. -/
theorem WStep.at {w w' : World} {b : Nat} {v v' : Value} {k : IntKind} {g off : Nat} {xs : List Nat} (h : WStep w w' b v v') (hg : g ≠ b) (hv : some g ≠ v.ownBlock) (hx : At w k g off xs) : At w' k g off xs := by
  intro i hi
  have h1 := hx i hi
  rw [← h1]
  exact World.cell?_of_block (w := w) (h.block g (World.block_lt_of_cell? _ _ h1) hg hv)
theorem WStep.alloc {w : World} {b : Nat} {v : Value} (o : Obj) : WStep w (w.alloc o) b v v :=
  ⟨rfl, rfl, rfl, by simp, fun k hk _ _ => Below.heap_alloc _ _ _ hk, fun _ h _ => h⟩
theorem WrV.alloc {n0 : Nat} {w : World} {b : Nat} {v : Value} {bs : List Nat} (h : WrV n0 w b v bs) (o : Obj) : WrV n0 (w.alloc o) b v bs := ⟨h.box.alloc o, h.row.alloc o, h.le, h.lt⟩
/-- What a call that makes memory of its own leaves of a Writer. -/
theorem WrV.below {n0 : Nat} {w w' : World} {b : Nat} {v : Value} {bs : List Nat} (h : WrV n0 w b v bs) (hb : Below w.heap.size w w') : WrV n0 w' b v bs := by
  refine ⟨(hb.block b h.box.lt).trans h.box, ⟨h.row.1, ?_⟩, h.le, h.lt⟩
  rcases h.row.2 with hn | ⟨g, cap, cur, rfl, h1, h2, h3⟩
  · exact .inl hn
  · exact .inr ⟨g, cap, cur, rfl, h1, (hb.block g (Array.getElem?_eq_some_iff.1 h2).1).trans h2, h3⟩
theorem WStep.of_below {w w' : World} {b : Nat} {v : Value} (h : Below w.heap.size w w') : WStep w w' b v v :=
  ⟨h.os, h.tape, h.output, h.size, fun k hk _ _ => h.block k hk, fun _ h _ => h⟩

/-- What a Writer's call leaves. -/
def RetWr (n0 : Nat) (W : World) (b : Nat) (v : Value) (bs : List Nat) : Ending → World → Prop := fun e w' =>
  ∃ g cap, e = .returned (.tuple #[]) ∧ WrV n0 w' b (.slice (some ⟨g, 0, none⟩) bs.length cap) bs ∧ WStep W w' b v (.slice (some ⟨g, 0, none⟩) bs.length cap)

theorem wr_stored {n0 : Nat} {w w2 : World} {b : Nat} {v v' : Value} {bs ys : List Nat} (h : WrV n0 w b v bs) (hown : w2.ownsRow n0 5 1 v' ys.length (cellsOfRow .u8 ys)) (hg : w.grownBy w2 v.ownBlock)
    (hv : ∀ k, v'.ownBlock = some k → k < w.heap.size → v.ownBlock = some k) (hy : ∀ x ∈ ys, x < 256) :
    WrV n0 (w2.setCell ⟨b, 0, none⟩ v') b v' ys ∧ WStep w (w2.setCell ⟨b, 0, none⟩ v') b v v' := by
  have hb2 : Boxed w2 b 54 v := h.box.kept hg (h.box.not_row (by decide) h.row)
  refine ⟨⟨hb2.set v', hown.kept (grownBy_setCell' w2 b v') (.inr (hb2.not_row (by decide) hown).symm), h.le, hy⟩, ?_⟩
  refine ⟨hg.os, hg.tape, hg.output, Nat.le_trans hg.size (by simp [World.setCell]), fun k hk hkb hkv => ?_, hv⟩
  rw [← hg.block k hk hkv]
  exact Below.heap_setCell _ _ _ _ hkb
end Go.Proofs.Ytdmoiagliflecaa
