/- A slice of bytes that came in: its bytes; it reads as it did wherever what was there is as it was. -/
import Derived.Test.YtciohlbpjaighaaDoorPost
import Derived.Test.YtciohlbpjaighaaDoorB8
namespace Go.Proofs.YtciohlbpjaighaaDoor
open Go.ChangeShapes Go.WideShapes Go.ChangeAt Go.RowKit


section
variable {H : Type} {enc : TypeId × Value → H}

set_option maxRecDepth 100000 in
theorem open_bytes {W : World} {base : Nat} {v : Value} {d : DataW H} {ps : List MemPlace} (hval : Value.okWide Tryd.prog W .any base 22 v) (h : DataW.Trod enc Tryd.prog W 0 (fun _ => true) true 22 v d ps) :
    ∃ p l c bs, v = .slice p l c ∧ IsB W p l c bs := by
  obtain ⟨a1, len, cap, rfl⟩ := okWide_slice Tryd.underlying22 hval
  obtain ⟨fuel, hf⟩ := h
  rcases open_ints Tryd.underlying22 Tryd.underlying5 Tryd.cellsU8 hf with ⟨hcs, hx⟩ | ⟨a, len', cap', zs, hcs, _, hl, hm, hz, hx, hcell, hwz⟩
  · simp [Value.cells] at hcs
    obtain ⟨rfl, rfl, rfl⟩ := hcs
    exact ⟨none, 0, 0, [], rfl, ⟨rfl, fun x hx => by simp at hx, Or.inl ⟨rfl, rfl, rfl⟩⟩⟩
  · simp [Value.cells] at hcs
    obtain ⟨rfl, rfl, rfl⟩ := hcs
    simp only [if_true] at hz
    have hlen : ((zs.take len).map Int.toNat).length = len := by rw [List.length_map, List.length_take]; omega
    refine ⟨_, _, _, (zs.take len).map Int.toNat, rfl, ⟨hlen, fun x hx => ?_, Or.inr ⟨a.block, a.off, a.spot, rfl, hl, fun i hi => ?_⟩⟩⟩
    · obtain ⟨y, hy, rfl⟩ := List.mem_map.1 hx
      obtain ⟨j, hj, rfl⟩ := List.getElem_of_mem (List.mem_of_mem_take hy)
      have := range_u8 hwz j
      rw [List.getElem?_eq_getElem hj, Option.getD_some] at this
      omega
    · rw [hlen] at hi
      have h1 := hcell i (by omega)
      have h2 := range_u8 hwz i
      have hi2 : i < zs.length := by omega
      rw [List.getElem?_eq_getElem hi2, Option.getD_some] at h2
      have e1 : zs.getD i 0 = zs[i] := by simp [List.getD, hi2]
      have e2 : ((((zs.take len).map Int.toNat).getD i 0 : Nat) : Int) = zs[i] := by
        simp [List.getD, hi, hi2]
        omega
      rw [e2, ← e1]
      exact h1

set_option maxRecDepth 100000 in
theorem shut_bytes {W W' : World} {v : Value} {d : DataW H} {ps : List MemPlace} {sp : Nat → Bool} (h : DataW.Trod enc Tryd.prog W 0 (fun _ => true) true 22 v d ps) (hb : Below W.heap.size W W') (hlt : ∀ x ∈ ps, x.block < W.heap.size) (hs : ∀ x ∈ ps, sp x.block = true) :
    DataW.Trod enc Tryd.prog W' 0 sp true 22 v d ps :=
  WideElems.Trod_stays laidOut (by kernel_rfl) (of_decide_eq_true (by kernel_rfl)) h (fun x hx => hb.same (hlt x hx)) hs
end
end Go.Proofs.YtciohlbpjaighaaDoor
