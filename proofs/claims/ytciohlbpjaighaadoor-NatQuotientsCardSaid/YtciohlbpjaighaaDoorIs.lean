/- Is one of the program's numbers the document's? -/
import Derived.Test.YtciohlbpjaighaaDoorRef
import Derived.Deep.RegionWith
namespace Go.Proofs.YtciohlbpjaighaaDoor
open Go.RowKit

/-- The bytes of a number as a string. -/
def bstr (n : Nat) : ByteArray := strOfNums ((be n).map fun x => ((x : Nat) : Int))

/-- What a call leaves whose bytes are made a string next. -/
def RetS (W : World) (n : Nat) : Ending → World → Prop := fun e w' =>
  ∃ b off l c, e = .returned (.slice (some ⟨b, off, none⟩) l c) ∧ (∀ w'', Below w'.heap.size w' w'' → (convert 22 9 (.slice (some ⟨b, off, none⟩) l c)).run Tryd.prog w'' = .ok (.string (bstr n)) w'') ∧ Below W.heap.size W w'

theorem RetW.str {W w' : World} {n : Nat} {e : Ending} (h : RetW W .u8 (be n) e w') : RetS W n e w' := by
  obtain ⟨b, off, c, h1, _, _, h4, _, h6⟩ := h
  refine ⟨b, off, _, c, h1, fun w'' hb => ?_, h6⟩
  refine run_convert_bytes_arg w'' 22 5 Tryd.underlying22 Tryd.underlying5 b off _ c ((be n).map fun x => ((x : Nat) : Int)) (by simp) (fun i hi => ?_) 9 Tryd.underlying9
  rw [h4.mono hb i hi]
  simp [List.getD, List.getElem?_map, List.getElem?_eq_getElem hi]

set_option maxHeartbeats 1000000 in
theorem is_yes (n : Nat) (s : Int) (p q : Option Addr) (l c k d : Nat) (w : World) (h1 : IsN w s p l c n) (h2 : IsR w q k d n) (hl : (ds n).length ≤ 1000000) (hk : k ≤ 1000000) :
    Calls Tryd.prog 10 #[.agg #[.int .u64 s, .slice p l c], .slice q k d] w fun e w' => e = .returned (.bool true) ∧ Below w.heap.size w w' := by
  have H1 := Lib.hid h1; have H2 := Lib.hid h2; clear h1 h2
  have hrefl : ∀ (B : Nat) (w : World), Below B w w := fun _ _ => Below.refl _ _
  go_enter Tryd.func10, Tryd.ntmps10
  go_wp2
  go_region_with (first
    | (go_at_call 32; refine ((nbytes_any n s p l c _ (H1.out.mono (by repeat' first | exact Below.refl _ _ | refine below_alloc ?_ _ | refine Below.drew ?_ | refine below_step ?_ (by assumption))) hl).mono fun _ _ h => RetW.str h).mono ?_; rintro e w1 ⟨b, off, l1, c1, rfl, hcv, hb⟩; obtain ⟨hc, hf⟩ := bcell hb)
    | (go_at_call 33; refine ((rbytes_any n q k d _ (H2.out.mono (by repeat' first | exact Below.refl _ _ | refine below_alloc ?_ _ | refine Below.drew ?_ | refine below_step ?_ (by assumption))) hk).mono fun _ _ h => RetW.str h).mono ?_; rintro e w1 ⟨b, off, l1, c1, rfl, hcv, hb⟩; obtain ⟨hc, hf⟩ := bcell hb))
  all_goals
    go_wp2
    go_ret
    exact ⟨rfl, (by repeat' first | exact Below.refl _ _ | refine below_alloc ?_ _ | refine Below.drew ?_ | refine below_step ?_ (by assumption))⟩
end Go.Proofs.YtciohlbpjaighaaDoor
