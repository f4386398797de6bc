/- A slice of bytes that came in, where the arguments' bulk is bounded: its length is within the bound. -/
import Derived.Test.YtdmoiagliflecaaOpenBytes
namespace Go.Proofs.Ytdmoiagliflecaa
open Go.ChangeShapes Go.WideShapes Go.ChangeAt Go.RowKit

section
variable {H : Type} {enc : TypeId × Value → H}

theorem ubulk_pos (d : DataW H) : 0 < Rows.uptoBulk d := by
  cases d with
  | lit l => cases l <;> simp [Rows.uptoBulk]
  | _ => simp [Rows.uptoBulk]
theorem ubulk_many : ∀ l : List (DataW H), l.length ≤ Rows.uptoBulkAll l
  | [] => Nat.zero_le _
  | d :: l => by
    have h1 := ubulk_pos d
    have h2 := ubulk_many l
    simp only [Rows.uptoBulkAll, List.length_cons]
    omega
theorem bulk_all {l : List (DataW H)} (hk : Rows.uptoSmall H l = true) : Rows.uptoBulkAll l ≤ 1048576 := of_decide_eq_true hk

set_option maxRecDepth 100000 in
theorem open_bytes_upto {W : World} {base : Nat} {v : Value} {d : DataW H} {ps : List MemPlace} (hval : Value.okWide Try.prog W .any base 22 v) (h : DataW.Trod enc Try.prog W 0 (fun _ => true) true 22 v d ps) :
    ∃ p l c bs, v = .slice p l c ∧ IsB W p l c bs ∧ l ≤ Rows.uptoBulk d := by
  obtain ⟨p, l, c, bs, rfl, hI⟩ := open_bytes hval h
  refine ⟨p, l, c, bs, rfl, hI, ?_⟩
  obtain ⟨fuel, hf⟩ := h
  rcases open_ints Try.underlying22 Try.underlying5 Try.cellsU8 hf with ⟨hcs, hx⟩ | ⟨a, len', cap', zs, hcs, _, hl, hm, hz, hx, hcell, hwz⟩
  · simp [Value.cells] at hcs
    omega
  · simp [Value.cells] at hcs
    obtain ⟨rfl, rfl, rfl⟩ := hcs
    simp only [if_true] at hz
    injection hx with hd _
    rw [hd]
    simp only [Rows.uptoBulk]
    have h1 := ubulk_many (H := H) (lits .u8 (zs.take l))
    have h2 : (lits (H := H) .u8 (zs.take l)).length = l := by simp [lits]; omega
    omega
end
end Go.Proofs.Ytdmoiagliflecaa
