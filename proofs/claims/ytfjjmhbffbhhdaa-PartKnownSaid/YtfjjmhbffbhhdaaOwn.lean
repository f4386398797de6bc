/- Rows of one's own: their cells. -/
import Derived.Test.YtfjjmhbffbhhdaaB8
import Derived.Laws.AppendOwn
namespace Go.Proofs.Ytfjjmhbffbhhdaa
open Go.RowKit

theorem ownsRow_pos {W : World} {base : Nat} {e : TypeId} {size : Nat} {v : Value} {k : Nat} {xs : List Value} (h : W.ownsRow base e size v k xs) (hk : 0 < k) : ∃ g cap, v = .slice (some ⟨g, 0, none⟩) k cap := by
  rcases h.2 with ⟨_, h0⟩ | ⟨g, cap, _, rfl, _⟩
  · omega
  · exact ⟨g, cap, rfl⟩

theorem ownsRow_at {W : World} {base : Nat} {k : IntKind} {g n cap : Nat} {xs : List Nat} {e : TypeId} (h : W.ownsRow base e 1 (.slice (some ⟨g, 0, none⟩) n cap) n (cellsOfRow k xs)) (hn : xs.length = n) :
    base ≤ g ∧ n ≤ cap ∧ At W k g 0 xs ∧ Fr W g 0 n := by
  obtain ⟨h1, ⟨h2, _⟩ | ⟨g', cap', cur, h2, h3, h4, h5, _⟩⟩ := id h
  · cases h2
  · simp only [Value.slice.injEq, Option.some.injEq, Addr.mk.injEq, and_true, true_and] at h2
    obtain ⟨rfl, rfl⟩ := h2
    refine ⟨h3, h5, fun i hi => ?_, fun i _ => ?_⟩
    · rw [Nat.zero_add, World.ownsRow.cellAt h i (by omega)]
      simp [cellsOfRow, List.getD, hi]
    · rw [Nat.zero_add]; exact World.ownsRow.frozenAt h i

theorem cells_at {W : World} {k : IntKind} {b off : Nat} {xs : List Nat} (h : At W k b off xs) : ∀ j u, (cellsOfRow k xs)[j]? = some u → W.cell? ((⟨b, off, none⟩ : Addr).add j) = some u := by
  intro j u hj
  have hjl : j < xs.length := by
    rcases Nat.lt_or_ge j xs.length with h | h
    · exact h
    · rw [List.getElem?_eq_none (by simpa [cellsOfRow] using h)] at hj; cases hj
  rw [Go.WideShapes.add_plain]
  show W.cell? ⟨b, off + j, none⟩ = some u
  rw [h j hjl, ← hj]
  simp [cellsOfRow, List.getD, hjl]
theorem cells_one (k : IntKind) (xs : List Nat) : ∀ u ∈ cellsOfRow k xs, u.oneCell' = true := by
  intro u hu
  simp only [cellsOfRow, List.mem_map] at hu
  obtain ⟨x, _, rfl⟩ := hu
  rfl
theorem cells_len (k : IntKind) (xs : List Nat) : (cellsOfRow k xs).length = xs.length := by simp [cellsOfRow]
theorem cells_app (k : IntKind) (xs ys : List Nat) : cellsOfRow k (xs ++ ys) = cellsOfRow k xs ++ cellsOfRow k ys := by simp [cellsOfRow]

end Go.Proofs.Ytfjjmhbffbhhdaa
