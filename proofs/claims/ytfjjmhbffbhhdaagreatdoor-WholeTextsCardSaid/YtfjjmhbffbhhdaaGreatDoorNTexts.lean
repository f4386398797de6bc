/- The law NatTexts: texts and bytes of numbers, there and back. -/
import Derived.Test.YtfjjmhbffbhhdaaGreatDoorParse
import Derived.Test.YtfjjmhbffbhhdaaGreatDoorNTxt
import Derived.Test.YtfjjmhbffbhhdaaGreatDoorRefQuot2
import Derived.Test.YtfjjmhbffbhhdaaGreatDoorRPar
import Derived.Test.YtfjjmhbffbhhdaaGreatDoorFill
import Derived.Test.YtfjjmhbffbhhdaaGreatDoorQNum
import Derived.Test.YtfjjmhbffbhhdaaGreatDoorRefCmp
import Derived.Deep.RegionWith
import Derived.Test.YtfjjmhbffbhhdaaGreatDoorDivS
import Derived.Test.YtfjjmhbffbhhdaaGreatDoorQuot
import Derived.Test.YtfjjmhbffbhhdaaGreatDoorShiftS
import Derived.Lib.Hide
import Derived.Test.YtfjjmhbffbhhdaaGreatDoorByt
namespace Go.Proofs.YtfjjmhbffbhhdaaGreatDoor
open Go.RowKit

theorem run_Parse : RowKit.Hid (∀ (a : Array Value) (w : World), Sem.run Tryz.prog (callFunc 21 a) w = .ok (.enter 21 a) w) := fun a w => by go_simp
theorem run_rParse : RowKit.Hid (∀ (a : Array Value) (w : World), Sem.run Tryz.prog (callFunc 23 a) w = .ok (.enter 23 a) w) := fun a w => by go_simp
theorem run_rText : RowKit.Hid (∀ (a : Array Value) (w : World), Sem.run Tryz.prog (callFunc 32 a) w = .ok (.enter 32 a) w) := fun a w => by go_simp
section
variable {E : Operand → Value} {w : World} {d : Option Tmp} {ty : TypeId} {pos : String} {af : Array Edge} {gd : Option (Nat × Bool)}
theorem ev_neqS {x y : Operand} {s : ByteArray} (h1 : E x = .string s) (h2 : E y = .string s) (_ : True) : Does Tryz.prog ⟨d, .binOp .neq 9 x y 9, ty, pos, af, gd⟩ E w fun v' w' => v' = .bool false ∧ Below w.heap.size w w' :=
  Does.value (v := .bool false) (w' := w) (by go_simp) ⟨rfl, Below.refl _ _⟩
end
theorem six_words {m : Nat} (h : (ds m).length ≤ 6) : m < 10 ^ 200 := by
  have h4 : m < (2 ^ 64) ^ 6 := by
    by_cases h0 : m = 0
    · subst h0; exact Nat.pow_pos (by omega)
    · rw [ds_big h0] at h
      exact Nat.lt_of_lt_of_le (lt_pow_digs (by omega) m) (Nat.pow_le_pow_right (by omega) h)
  have : (2 ^ 64) ^ 6 ≤ 10 ^ 200 := by decide +kernel
  omega
theorem dec_SB (m : Nat) : SB ⟨(Lib.decDigits m).toArray⟩ ((Lib.decDigits m).map fun b => b.toNat) := by
  refine ⟨by rw [List.length_map]; exact List.size_toArray.symm, fun k hk => ?_⟩
  have hk' : k < (Lib.decDigits m).length := by rw [← List.size_toArray]; exact hk
  rw [List.getD_eq_getElem?_getD, List.getElem?_map, List.getElem?_eq_getElem hk']
  rfl
theorem dec_DecText {m : Nat} (h : m < 10 ^ 200) : DecText ((Lib.decDigits m).map fun b => b.toNat) := by
  have hl := dec_len_le 199 m h
  refine ⟨by rw [List.length_map]; exact dec_len_pos m, by rw [List.length_map]; exact hl, ?_, fun i hi => ?_⟩
  · by_cases h0 : m = 0
    · right; subst h0; rw [Lib.decDigits_one (by omega)]; rfl
    · left
      obtain ⟨b, t, e, hb⟩ := dec_first m h0
      rw [e]
      exact hb
  · rw [List.length_map] at hi
    rw [List.getD_eq_getElem?_getD, List.getElem?_map, List.getElem?_eq_getElem hi]
    exact dec_bytes m _ (List.getElem_mem hi)
theorem dec_decv (m : Nat) : decv (((Lib.decDigits m).map fun b => b.toNat).map (· - 48)) = m := by
  rw [List.map_map]; exact dec_value m
theorem parse_back (m : Nat) (h : (ds m).length ≤ 6) (W : World) : Calls Tryz.prog 21 #[.string ⟨(Lib.decDigits m).toArray⟩] W (Gives W (.two (.num m) (.is (.bool true)))) := by
  have h6 := six_words h
  have hl := dec_len_le 199 m h6
  have h1 := (parse_text W ⟨(Lib.decDigits m).toArray⟩ _ (dec_SB m) (by show (Lib.decDigits m).toArray.size ≤ _; rw [List.size_toArray]; omega)).1 (dec_DecText h6)
  rw [dec_decv] at h1
  exact h1
theorem ntext_gives (w : World) (u : Value) (n : Nat) (hn : (ds n).length ≤ 6) (ht : TabP w) (h : Num w u n) : Calls Tryz.prog 31 #[u] w (Gives w (.is (.string ⟨(Lib.decDigits n).toArray⟩))) := by
  obtain ⟨s, p, l, c, rfl, h⟩ := h
  exact (text_any n s p l c w h (by omega) ht).mono fun _ _ ⟨h, hb⟩ => ⟨_, h, rfl, hb⟩
theorem rtext_gives (w : World) (u : Value) (n : Nat) (hn : (ds n).length ≤ 6) (h : RNum w u n) : Calls Tryz.prog 32 #[u] w (Gives w (.is (.string ⟨(Lib.decDigits n).toArray⟩))) := by
  obtain ⟨p, l, c, rfl, h⟩ := h
  have := h.short hn
  exact (rText_any p l c n w (by omega) h).mono fun _ _ ⟨h, hb⟩ => ⟨_, h, rfl, hb⟩
end Go.Proofs.YtfjjmhbffbhhdaaGreatDoor
