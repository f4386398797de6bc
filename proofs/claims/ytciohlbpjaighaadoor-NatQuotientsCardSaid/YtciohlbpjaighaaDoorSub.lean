/- Differences of the program's numbers. -/
import Derived.Test.YtciohlbpjaighaaDoorArith
import Derived.Test.YtciohlbpjaighaaDoorSubFrom
import Derived.Test.YtciohlbpjaighaaDoorCmp
namespace Go.Proofs.YtciohlbpjaighaaDoor
open Go.RowKit

theorem clone_any (b off c l : Nat) (xs : List Nat) (w : World) (hl : xs.length = l) (hl2 : l ≤ 1000000) (h : At w .u64 b off xs) :
    Calls Tryd.prog 17 #[.slice (some ⟨b, off, none⟩) l c] w (RetW w .u64 xs) := by
  obtain ⟨i0, hi, hz0, hz1, hz2⟩ := info_parts Tryd.infoU64
  have hn : l ≤ maxLen := by unfold maxLen; omega
  refine (Tryd.slices_Clone i0 _ 1 8 hi hz0 hz1 hz2 rfl (by omega) Tryd.sizeOf23 b off l c (cellsOfRow .u64 xs) w (by simp [cellsOfRow, hl]) hn (by omega) (fun j u hj => ?_) (fun u hu => ?_)).mono ?_
  · have hjl : j < xs.length := by
      rcases Nat.lt_or_ge j xs.length with h | h
      · exact h
      · rw [List.getElem?_eq_none (by simpa [cellsOfRow] using h)] at hj; cases hj
    rw [h j hjl, ← hj]
    simp [cellsOfRow, List.getD, hjl]
  · simp only [cellsOfRow, List.mem_map] at hu
    obtain ⟨x, _, rfl⟩ := hu
    rfl
  · rintro e w' ⟨v, rfl, hown, hnn, hb⟩
    have h1 := hown.2
    rcases h1 with ⟨h1, _⟩ | ⟨g, cap, cur, rfl, hg, _, hcap, _, _, _⟩
    · exact absurd h1 hnn
    · refine ⟨g, 0, cap, by rw [hl], by omega, hg, fun i hi => ?_, fun i _ => ?_, hb⟩
      · rw [Nat.zero_add, World.ownsRow.cellAt hown i (by omega)]
        simp [cellsOfRow, List.getD, hi]
      · rw [Nat.zero_add]; exact World.ownsRow.frozenAt hown i

/-- 'list', and where its row lies: in new memory, or where the number's own row lies. -/
def RetL2 (W : World) (p : Option Addr) (xs : List Nat) : Ending → World → Prop := fun e w' =>
  ∃ b off c, e = .returned (.slice (some ⟨b, off, none⟩) xs.length c) ∧ xs.length ≤ c ∧ At w' .u64 b off xs ∧ (W.heap.size ≤ b ∨ p = some ⟨b, off, none⟩) ∧ Below W.heap.size W w'

set_option maxHeartbeats 400000 in
theorem list2_any (n : Nat) (s : Int) (p : Option Addr) (l c : Nat) (w : World) (h : IsN w s p l c n) :
    Calls Tryd.prog 24 #[.agg #[.int .u64 s, .slice p l c]] w (RetL2 w p (ds n)) := by
  rcases h with ⟨h1, rfl, rfl, rfl, rfl⟩ | ⟨h1, rfl, b, off, rfl, h4, h5, h6⟩
  · have H := Lib.hid (ds_small h1)
    clear h1
    go_enter Tryd.func24, Tryd.ntmps24
    go_wp2_with (go_at_call 14; refine (short_yes _ _ _ _).mono ?_; rintro e w1 ⟨rfl, hb⟩; obtain ⟨hc, hf⟩ := bcell hb)
    go_ret
    rw [H.out]
    have hz := hb.size
    rw [World.size_alloc] at hz
    exact ⟨_, _, _, rfl, by simp, At.new1 _ _ _ _, Or.inl (by omega), (by repeat' first | exact Below.refl _ _ | refine below_alloc ?_ _ | refine below_step ?_ (by assumption))⟩
  · have h0 : 0 < l := by rw [h4]; exact ds_pos n
    have H := Lib.hid h4
    have H6 := Lib.hid h6
    clear h4 h6 h1
    go_enter Tryd.func24, Tryd.ntmps24
    go_wp2_with (go_at_call 14; refine (short_no _ _ _ _ h0 _).mono ?_; rintro e w1 ⟨rfl, hb⟩; obtain ⟨hc, hf⟩ := bcell hb)
    go_ret
    have HB : Below w.heap.size w w1 := (by repeat' first | exact Below.refl _ _ | refine below_alloc ?_ _ | refine below_step ?_ (by assumption))
    exact ⟨b, off, c, ret_slice H.out, by rw [← H.out]; exact h5, H6.out.mono HB, Or.inr rfl, HB⟩

/-- What a difference leaves. -/
def RetSubN (W : World) (m n : Nat) : Ending → World → Prop := fun e w' =>
  (m < n ∧ e = .returned (.tuple #[.agg #[.int .u64 0, .slice none 0 0], .bool false]) ∧ Below W.heap.size W w') ∨
  (n ≤ m ∧ ∃ s p l c, e = .returned (.tuple #[.agg #[.int .u64 s, .slice p l c], .bool true]) ∧ IsN w' s p l c (m - n) ∧ Below W.heap.size W w')

theorem RetSubN.lt {W w' : World} {m n : Nat} {e : Ending} (h : RetSubN W m n e w') (hlt : m < n) : e = .returned (.tuple #[.agg #[.int .u64 0, .slice none 0 0], .bool false]) ∧ Below W.heap.size W w' := by
  rcases h with ⟨_, h1, h2⟩ | ⟨h1, _⟩
  · exact ⟨h1, h2⟩
  · omega
theorem RetSubN.ge {W w' : World} {m n : Nat} {e : Ending} (h : RetSubN W m n e w') (hle : n ≤ m) : ∃ s p l c, e = .returned (.tuple #[.agg #[.int .u64 s, .slice p l c], .bool true]) ∧ IsN w' s p l c (m - n) ∧ Below W.heap.size W w' := by
  rcases h with ⟨h1, _⟩ | ⟨_, h⟩
  · omega
  · exact h
end Go.Proofs.YtciohlbpjaighaaDoor
