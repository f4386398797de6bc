/- The carrying sums and differences of math/bits, as the model has them; sums of two short numbers. -/
import Derived.Test.YtciohlbpjaighaaDoorBits
import Derived.Laws.Externs
namespace Go.Proofs.YtciohlbpjaighaaDoor
open Go.RowKit

def sub64Entry : Array Value → Sem Value := fun args => do
  let (x, y, b) ← Extern.MathBitsCarry.three "Sub64" args
  pure (Extern.MathBitsCarry.pair ((x + Extern.MathBitsCarry.m64 - y - b) % Extern.MathBitsCarry.m64) (if x < y + b then 1 else 0))

theorem run_sub64 {P : Program} (x y b : Nat) (hb : b ≤ 1) (w : World) :
    (sub64Entry #[.int .u64 x, .int .u64 y, .int .u64 b]).run P w =
      .ok (.tuple #[.int .u64 (((x + 18446744073709551616 - y - b) % 18446744073709551616 : Nat) : Int), .int .u64 ((if x < y + b then 1 else 0 : Nat) : Int)]) w := by
  have : b = 0 ∨ b = 1 := by omega
  rcases this with rfl | rfl <;> rfl

theorem call_add64 (x y c : Nat) (hc : c ≤ 1) (w : World) :
    (callFunc 58 #[.int .u64 x, .int .u64 y, .int .u64 c]).run Tryd.prog w =
      .ok (.value (.tuple #[.int .u64 (((x + y + c) % 18446744073709551616 : Nat) : Int), .int .u64 (((x + y + c) / 18446744073709551616 : Nat) : Int)])) w := by
  rw [run_callFunc_extern Tryd.func58 (by kernel_rfl) (by kernel_rfl) (by kernel_rfl) (e := add64Entry) (by kernel_rfl), run_add64 x y c (by omega) (by omega) (by omega) (by omega)]
  simp only [Result.andThen]
  congr 5 <;> omega

theorem call_sub64 (x y b : Nat) (hb : b ≤ 1) (w : World) :
    (callFunc 59 #[.int .u64 x, .int .u64 y, .int .u64 b]).run Tryd.prog w =
      .ok (.value (.tuple #[.int .u64 (((x + 18446744073709551616 - y - b) % 18446744073709551616 : Nat) : Int), .int .u64 ((if x < y + b then 1 else 0 : Nat) : Int)])) w := by
  rw [run_callFunc_extern Tryd.func59 (by kernel_rfl) (by kernel_rfl) (by kernel_rfl) (e := sub64Entry) (by kernel_rfl), run_sub64 x y b hb]
  rfl

/-- The same, the results under names. -/
theorem call_add64' (x y c z d : Nat) (hc : c ≤ 1) (hz : x + y + c = z + 2 ^ 64 * d) (hz2 : z < 2 ^ 64) (w : World) :
    (callFunc 58 #[.int .u64 x, .int .u64 y, .int .u64 c]).run Tryd.prog w = .ok (.value (.tuple #[.int .u64 (z : Int), .int .u64 (d : Int)])) w := by
  rw [call_add64 x y c hc]
  have h1 : (x + y + c) % 18446744073709551616 = z := by omega
  have h2 : (x + y + c) / 18446744073709551616 = d := by omega
  rw [h1, h2]

theorem call_sub64' (x y b z d : Nat) (hb : b ≤ 1) (hx : x < 2 ^ 64) (hy : y < 2 ^ 64) (hz : x + 2 ^ 64 * d = z + y + b) (hz2 : z < 2 ^ 64) (w : World) :
    (callFunc 59 #[.int .u64 x, .int .u64 y, .int .u64 b]).run Tryd.prog w = .ok (.value (.tuple #[.int .u64 (z : Int), .int .u64 (d : Int)])) w := by
  rw [call_sub64 x y b hb]
  have h1 : (x + 18446744073709551616 - y - b) % 18446744073709551616 = z := by omega
  have h2 : (if x < y + b then 1 else 0 : Nat) = d := by split <;> omega
  rw [h1, h2]

/-- A number stays what it is when it is laid into the result's own block. -/
theorem IsN.box {w : World} {s : Int} {p q : Option Addr} {l c k d n g : Nat} {u v : Value} (h : IsN w s p l c n) (h1 : w.cell? ⟨g, 1, none⟩ = some (.slice q k d)) :
    IsN ((w.setCell ⟨g, 0, none⟩ u).setCell ⟨g, 1, none⟩ v) s p l c n := by
  rcases h with h | ⟨a1, a2, b, off, a3, a4, a5, a6⟩
  · exact Or.inl h
  · refine Or.inr ⟨a1, a2, b, off, a3, a4, a5, fun i hi => ?_⟩
    have h2 := ds_two a1
    have h3 : ∀ o, (o = 0 ∨ o = 1) → (⟨g, o, none⟩ : Addr) ≠ ⟨b, off + i, none⟩ := by
      intro o ho e
      injection e with e1 e2
      subst e1
      have h4 := a6 (1 - off) (by omega)
      rw [show off + (1 - off) = 1 from by omega, h1] at h4
      cases h4
    rw [World.cell?_setCell_other _ _ _ _ (h3 1 (Or.inr rfl)), World.cell?_setCell_other _ _ _ _ (h3 0 (Or.inl rfl))]
    exact a6 i hi

theorem ofTwo_any (m n : Nat) (hm : m < 2 ^ 64) (hn : n < 2 ^ 64) (w : World) : Calls Tryd.prog 60 #[.int .u64 (m : Int), .int .u64 (n : Int)] w (RetN w (n + 2 ^ 64 * m)) := by
  by_cases h : m = 0
  · subst h; simpa using ofTwo_zero n hn w
  · have := ofTwo_more m n hm hn (by omega) w
    rwa [show m * 2 ^ 64 + n = n + 2 ^ 64 * m from by omega] at this

set_option maxHeartbeats 400000 in
theorem add_ss (m n : Nat) (hm : m < 2 ^ 64) (hn : n < 2 ^ 64) (w : World) :
    Calls Tryd.prog 47 #[.agg #[.int .u64 (m : Int), .slice none 0 0], .agg #[.int .u64 (n : Int), .slice none 0 0]] w (RetN w (m + n)) := by
  obtain ⟨z, d, hz, hz2, hd⟩ : ∃ z d, m + n + 0 = z + 2 ^ 64 * d ∧ z < 2 ^ 64 ∧ d < 2 ^ 64 := ⟨(m + n) % 2 ^ 64, (m + n) / 2 ^ 64, by omega, by omega, by omega⟩
  have hadd := call_add64' m n 0 z d (by omega) hz hz2
  rw [Int.natCast_zero] at hadd
  have HT := Lib.hid (ofTwo_any d z hd hz2)
  have HE := Lib.hid (show z + 2 ^ 64 * d = m + n by omega)
  clear hz hz2 hd hm hn
  go_enter Tryd.func47, Tryd.ntmps47
  go_wp2_with fail
  refine (short_yes _ _ _ _).mono ?_
  rintro e w1 ⟨rfl, hb⟩
  obtain ⟨hc, hf⟩ := bcell hb
  have hz : w.heap.size + 1 < w1.heap.size := by have := hb.size; simp at this; omega
  go_wp2_with fail
  refine (short_yes _ _ _ _).mono ?_
  rintro e w2 ⟨rfl, hb2⟩
  replace hb2 := below_step hb hb2
  obtain ⟨hc2, hf2⟩ := bcell hb2
  clear hc hf
  go_wp2_with fail
  refine (HT.out _).mono ?_
  rintro e w3 ⟨s, p, l, c, rfl, hN, hb3⟩
  rw [HE.out] at hN
  replace hb3 := below_step hb2 hb3
  obtain ⟨hc3, hf3⟩ := bcell hb3
  have hz3 : w.heap.size + 2 < w3.heap.size := by have := hb3.size; simp at this; omega
  go_wp2
  refine bodyPost_ret (v := .agg #[.int .u64 s, .slice p l c]) (by simp [results, Tryd.results47, go_sem, hc3]) rfl ⟨s, p, l, c, rfl, hN.box (q := none) (k := 0) (d := 0) (by simp [hc3, go_sem]), ?_⟩
  exact (by repeat' first | exact Below.refl _ _ | refine below_alloc ?_ _ | (refine Below.setCell ?_ (by simp; omega) _) | refine below_step ?_ (by assumption))
end Go.Proofs.YtciohlbpjaighaaDoor
