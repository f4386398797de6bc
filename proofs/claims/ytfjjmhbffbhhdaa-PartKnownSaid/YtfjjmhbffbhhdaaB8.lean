/- Rows of bytes: a slice that says bytes; the first bytes of an argument. -/
import Derived.Test.YtfjjmhbffbhhdaaMem
import Derived.WalkSpells
import Derived.WalkLawsBesides
import Derived.BigQuiet
import Derived.BigRegion
import Derived.Laws.BitsAllLaws
import Derived.Lib.Hide
import Derived.OwnWalk
import Derived.Laws.AppendOwnNone
import Derived.Laws.MakeOwn
namespace Go.Proofs.Ytfjjmhbffbhhdaa
open Go.RowKit

theorem Try.infoU8 : (Try.prog.info? 5).map (fun i => (i.zero, i.size, i.bytes)) = some (some (.int .u8 0), 1, 1) := by kernel_rfl
theorem Try.cellsU8 : Try.prog.cellsOf 5 = 1 := by kernel_rfl

theorem run_make_one {P : Program} (t e : TypeId) (k : IntKind) (by_ n : Nat) (ht : P.underlying t = some (.slice e)) (hi : (P.info? e).map (fun i => (i.zero, i.size, i.bytes)) = some (some (.int k 0), 1, by_))
    (hb : by_ ≤ 8) (hn : n ≤ 1099511627776) (w : World) :
    (Instr.makeSlice t (.int .i64 (n : Int)) (.int .i64 (n : Int))).run P w = .ok (.slice (some ⟨w.heap.size, 0, none⟩) n n) (w.alloc (.cells (madeCells #[.int k 0] n) e)) := by
  obtain ⟨i0, h1, h2, h3, h4⟩ := info_parts hi
  have hbb : i0.bytes * n ≤ 8 * n := Nat.mul_le_mul_right n (by omega)
  have hb' : (i0.bytes : Int) * (n : Int) ≤ 281474976710656 := by
    have h : ((i0.bytes * n : Nat) : Int) ≤ 281474976710656 := by omega
    rwa [Int.natCast_mul] at h
  have hr := run_make (P := P) w t e i0 _ ht h1 h2 .i64 .i64 n n (by omega) (by omega) hb' (by omega)
  simp only [Int.toNat_natCast, h3, Nat.mul_one] at hr
  exact hr

theorem At.made (w : World) (k : IntKind) (n : Nat) (t : TypeId) : At (w.alloc (.cells (madeCells #[.int k 0] n) t)) k w.heap.size 0 (List.replicate n 0) := by
  intro i hi
  have hi' : i < n := by simpa using hi
  rw [World.cell?_alloc_at _ _ _ _ rfl]
  simp [madeCells, hi', Nat.mod_one]

theorem Fr.made (w : World) (k : IntKind) (n m : Nat) (t : TypeId) : Fr (w.alloc (.cells (madeCells #[.int k 0] n) t)) w.heap.size 0 m :=
  fun _ _ => World.frozen?_alloc_at _ _ _ _ rfl

/-- The cells of a row. -/
def cellsOfRow (k : IntKind) (xs : List Nat) : List Value := xs.map fun (x : Nat) => Value.int k (x : Int)

/-- The parts of a slice say the bytes bs. -/
def IsB (w : World) (p : Option Addr) (l c : Nat) (bs : List Nat) : Prop :=
  bs.length = l ∧ (∀ x ∈ bs, x < 256) ∧ ((p = none ∧ l = 0 ∧ c = 0) ∨ ∃ b off sp, p = some ⟨b, off, sp⟩ ∧ l ≤ c ∧ ∀ i, i < bs.length → w.cell? ((⟨b, off, sp⟩ : Addr).add i) = some (.int .u8 ((bs.getD i 0 : Nat) : Int)))

theorem IsB.mono {w w' : World} {p : Option Addr} {l c : Nat} {bs : List Nat} (h : IsB w p l c bs) (hb : Below w.heap.size w w') : IsB w' p l c bs := by
  obtain ⟨h1, h2, h3 | ⟨b, off, sp, h3, h4, h5⟩⟩ := h
  · exact ⟨h1, h2, Or.inl h3⟩
  · exact ⟨h1, h2, Or.inr ⟨b, off, sp, h3, h4, fun i hi => by have h6 := h5 i hi; rw [hb.cell (World.block_lt_of_cell? _ _ h6)]; exact h6⟩⟩

theorem ret_own {W w2 : World} {k : IntKind} {t : TypeId} {v : Value} {bs : List Nat} (h : w2.ownsRow W.heap.size t 1 v bs.length (cellsOfRow k bs)) (hn : v ≠ .slice none 0 0) (hb : Below W.heap.size W w2) :
    RetW W k bs (.returned v) w2 := by
  rcases h.2 with ⟨h1, _⟩ | ⟨g, cap, cur, rfl, hg, _, hcap, _, _, _⟩
  · exact absurd h1 hn
  · refine ⟨g, 0, cap, rfl, hcap, hg, fun i hi => ?_, fun i _ => ?_, hb⟩
    · rw [Nat.zero_add, World.ownsRow.cellAt h i (by omega)]
      simp [cellsOfRow, List.getD, hi]
    · rw [Nat.zero_add]; exact World.ownsRow.frozenAt h i

end Go.Proofs.Ytfjjmhbffbhhdaa
