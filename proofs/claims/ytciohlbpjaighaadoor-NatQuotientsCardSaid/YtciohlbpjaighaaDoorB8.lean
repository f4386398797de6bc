/- Rows of bytes: a slice that says bytes; the first bytes of an argument. -/
import Derived.Test.YtciohlbpjaighaaDoorMem
import Derived.WalkSpells
import Derived.WalkLawsBesides
import Derived.BigQuiet
import Derived.BigRegion
import Derived.Laws.BitsAllLaws
import Derived.Lib.Hide
import Derived.OwnWalk
import Derived.Laws.AppendOwnNone
import Derived.Laws.MakeOwn
namespace Go.Proofs.YtciohlbpjaighaaDoor
open Go.RowKit

theorem Tryd.infoU8 : (Tryd.prog.info? 5).map (fun i => (i.zero, i.size, i.bytes)) = some (some (.int .u8 0), 1, 1) := by kernel_rfl
theorem Tryd.cellsU8 : Tryd.prog.cellsOf 5 = 1 := by kernel_rfl

theorem run_make_one {P : Program} (t e : TypeId) (k : IntKind) (by_ n : Nat) (ht : P.underlying t = some (.slice e)) (hi : (P.info? e).map (fun i => (i.zero, i.size, i.bytes)) = some (some (.int k 0), 1, by_))
    (hb : by_ ≤ 8) (hn : n ≤ 1099511627776) (w : World) :
    (Instr.makeSlice t (.int .i64 (n : Int)) (.int .i64 (n : Int))).run P w = .ok (.slice (some ⟨w.heap.size, 0, none⟩) n n) (w.alloc (.cells (madeCells #[.int k 0] n) e)) := by
  obtain ⟨i0, h1, h2, h3, h4⟩ := info_parts hi
  have hbb : i0.bytes * n ≤ 8 * n := Nat.mul_le_mul_right n (by omega)
  have hb' : (i0.bytes : Int) * (n : Int) ≤ 281474976710656 := by
    have h : ((i0.bytes * n : Nat) : Int) ≤ 281474976710656 := by omega
    rwa [Int.natCast_mul] at h
  have hr := run_make (P := P) w t e i0 _ ht h1 h2 .i64 .i64 n n (by omega) (by omega) hb' (by omega)
  simp only [Int.toNat_natCast, h3, Nat.mul_one] at hr
  exact hr

theorem make_u8 (n : Nat) (hn : n ≤ 1099511627776) (w : World) : (Instr.makeSlice 22 (.int .i64 (n : Int)) (.int .i64 (n : Int))).run Tryd.prog w = .ok (.slice (some ⟨w.heap.size, 0, none⟩) n n) (w.alloc (.cells (madeCells #[.int .u8 0] n) 5)) :=
  run_make_one _ _ _ 1 n Tryd.underlying22 Tryd.infoU8 (by omega) hn w
theorem At.made (w : World) (k : IntKind) (n : Nat) (t : TypeId) : At (w.alloc (.cells (madeCells #[.int k 0] n) t)) k w.heap.size 0 (List.replicate n 0) := by
  intro i hi
  have hi' : i < n := by simpa using hi
  rw [World.cell?_alloc_at _ _ _ _ rfl]
  simp [madeCells, hi', Nat.mod_one]

theorem Fr.made (w : World) (k : IntKind) (n m : Nat) (t : TypeId) : Fr (w.alloc (.cells (madeCells #[.int k 0] n) t)) w.heap.size 0 m :=
  fun _ _ => World.frozen?_alloc_at _ _ _ _ rfl

/-- The cells of a row. -/
def cellsOfRow (k : IntKind) (xs : List Nat) : List Value := xs.map fun (x : Nat) => Value.int k (x : Int)

/-- The parts of a slice say the bytes bs. -/
def IsB (w : World) (p : Option Addr) (l c : Nat) (bs : List Nat) : Prop :=
  bs.length = l ∧ (∀ x ∈ bs, x < 256) ∧ ((p = none ∧ l = 0 ∧ c = 0) ∨ ∃ b off sp, p = some ⟨b, off, sp⟩ ∧ l ≤ c ∧ ∀ i, i < bs.length → w.cell? ((⟨b, off, sp⟩ : Addr).add i) = some (.int .u8 ((bs.getD i 0 : Nat) : Int)))

theorem IsB.mono {w w' : World} {p : Option Addr} {l c : Nat} {bs : List Nat} (h : IsB w p l c bs) (hb : Below w.heap.size w w') : IsB w' p l c bs := by
  obtain ⟨h1, h2, h3 | ⟨b, off, sp, h3, h4, h5⟩⟩ := h
  · exact ⟨h1, h2, Or.inl h3⟩
  · exact ⟨h1, h2, Or.inr ⟨b, off, sp, h3, h4, fun i hi => by have h6 := h5 i hi; rw [hb.cell (World.block_lt_of_cell? _ _ h6)]; exact h6⟩⟩

theorem ret_own {W w2 : World} {k : IntKind} {t : TypeId} {v : Value} {bs : List Nat} (h : w2.ownsRow W.heap.size t 1 v bs.length (cellsOfRow k bs)) (hn : v ≠ .slice none 0 0) (hb : Below W.heap.size W w2) :
    RetW W k bs (.returned v) w2 := by
  rcases h.2 with ⟨h1, _⟩ | ⟨g, cap, cur, rfl, hg, _, hcap, _, _, _⟩
  · exact absurd h1 hn
  · refine ⟨g, 0, cap, rfl, hcap, hg, fun i hi => ?_, fun i _ => ?_, hb⟩
    · rw [Nat.zero_add, World.ownsRow.cellAt h i (by omega)]
      simp [cellsOfRow, List.getD, hi]
    · rw [Nat.zero_add]; exact World.ownsRow.frozenAt h i

set_option maxHeartbeats 1000000 in
theorem few_some (b off c l n : Nat) (sp : Option Nat) (bs : List Nat) (w : World) (hl : bs.length = l) (hlc : l ≤ c) (hl2 : n ≤ 1000000000) (h : ∀ i, i < bs.length → w.cell? ((⟨b, off, sp⟩ : Addr).add i) = some (.int .u8 ((bs.getD i 0 : Nat) : Int))) :
    Calls Tryd.prog 12 #[.slice (some ⟨b, off, sp⟩) l c, .int .i64 (n : Int)] w (RetW w .u8 (bs.take n)) := by
  obtain ⟨i0, hi, hz0, hz1, hz2⟩ := info_parts Tryd.infoU8
  obtain ⟨m, hmm⟩ : ∃ m, m = min l n := ⟨_, rfl⟩
  have hm : (bs.take n).length = m := by rw [List.length_take]; omega
  have hmin : min (l : Int) (n : Int) = (m : Int) := by omega
  have hite : (if n < l then (n : Int) else (l : Int)) = (m : Int) := by split <;> omega
  have hnews : ∀ j u, (cellsOfRow .u8 (bs.take n))[j]? = some u → (w.alloc (.cells #[] 5)).cell? ((⟨b, off, sp⟩ : Addr).add j) = some u := by
    intro j u hj
    have hjl : j < (bs.take n).length := by
      rcases Nat.lt_or_ge j (bs.take n).length with h | h
      · exact h
      · rw [List.getElem?_eq_none (by simpa [cellsOfRow] using h)] at hj; cases hj
    have hjb : j < bs.length := by rw [List.length_take] at hjl; omega
    have h1 := h j hjb
    have h2 : (w.alloc (.cells #[] 5)).cell? ((⟨b, off, sp⟩ : Addr).add j) = w.cell? ((⟨b, off, sp⟩ : Addr).add j) := (below_alloc (Below.refl w.heap.size w) (.cells #[] 5)).cell (World.block_lt_of_cell? _ _ h1)
    have h3 : bs.getD j 0 = (bs.take n).getD j 0 := by
      rw [List.length_take] at hjl
      simp [List.getD, show j < n by omega]
    rw [h2, h1, h3, ← hj]
    generalize bs.take n = bt at *
    simp [cellsOfRow, List.getD, hjl]
  have hm2 : m ≤ c := by omega
  have hm3 : m ≤ 1000000000 := by omega
  have HM := Lib.hid hm
  have HN := Lib.hid hnews
  clear hnews hm h hmm
  go_enter Tryd.func12, Tryd.ntmps12
  go_wp2_with (at_builtin; go_loud (refine wpList_append_own _ rfl (.tmp 5) (.tmp 11) 22 rfl w.heap.size 5 i0 (.int .u8 0) 1 1 Tryd.underlying22 hi hz0 hz1 hz2 rfl (by decide) (.slice (some ⟨w.heap.size, 0, none⟩) 0 0) 0 [] rfl ?own ⟨b, off, sp⟩ m c (cellsOfRow .u8 (bs.take n)) rfl ?c1 HN.out ?c3 ?c4 ?c5 ?c6 ?_))
  case own => exact World.ownsRow_made w #[] 0 (Nat.le_refl _) (by simp [maxLen]) (by simp)
  case c1 => rw [cellsOfRow, List.length_map, HM.out, Nat.mul_one]
  case c3 =>
    intro u hu
    simp only [cellsOfRow, List.mem_map] at hu
    obtain ⟨x, _, rfl⟩ := hu
    rfl
  case c4 => unfold maxLen; omega
  case c5 => omega
  case c6 => simp
  intro v' w2 hown hg hnil
  have hb : Below w.heap.size w w2 := (below_alloc (Below.refl w.heap.size w) (.cells #[] 5)).grown hg (by simp) (fun k hk => by simp [Value.ownBlock] at hk; omega)
  have HO := Lib.hid hown; have HNN := Lib.hid hnil; have HB := Lib.hid hb
  clear hown hg hnil hb
  go_wp2
  go_ret
  have ho := HO.out
  rw [← HM.out] at ho
  exact ret_own ho HNN.out HB.out

set_option maxHeartbeats 1000000 in
theorem few_none (n : Nat) (w : World) (hl2 : n ≤ 1000000000) :
    Calls Tryd.prog 12 #[.slice none 0 0, .int .i64 (n : Int)] w (RetW w .u8 []) := by
  obtain ⟨i0, hi, hz0, hz1, hz2⟩ := info_parts Tryd.infoU8
  go_enter Tryd.func12, Tryd.ntmps12
  go_wp2_with (at_builtin; go_loud (refine wpList_append_own_none rfl (.tmp 5) (.tmp 11) 22 rfl w.heap.size 5 i0 1 Tryd.underlying22 hi (.slice (some ⟨w.heap.size, 0, none⟩) 0 0) 0 [] rfl ?own rfl ?_))
  case own => exact World.ownsRow_made w #[] 0 (Nat.le_refl _) (by simp [maxLen]) (by simp)
  go_wp2
  go_ret
  exact ⟨w.heap.size, 0, 0, rfl, Nat.le_refl _, Nat.le_refl _, At.nil _ _ _ _, fun i hi => by simp at hi, below_alloc (Below.refl _ _) _⟩

theorem few_any (p : Option Addr) (l c n : Nat) (bs : List Nat) (w : World) (hl2 : n ≤ 1000000000) (h : IsB w p l c bs) :
    Calls Tryd.prog 12 #[.slice p l c, .int .i64 (n : Int)] w (RetW w .u8 (bs.take n)) := by
  obtain ⟨h1, h2, ⟨rfl, rfl, rfl⟩ | ⟨b, off, sp, rfl, h4, h5⟩⟩ := h
  · have : bs = [] := List.eq_nil_of_length_eq_zero h1
    subst this
    rw [List.take_nil]
    exact few_none n w hl2
  · exact few_some b off c l n sp bs w h1 h4 hl2 h5
end Go.Proofs.YtciohlbpjaighaaDoor
