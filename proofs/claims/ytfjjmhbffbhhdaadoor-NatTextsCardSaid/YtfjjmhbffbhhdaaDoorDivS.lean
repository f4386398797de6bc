/- What an operation of a statement yields, in words of the program's numbers. -/
import Derived.Test.YtfjjmhbffbhhdaaDoorBox
import Derived.Test.YtfjjmhbffbhhdaaDoorRegion
import Derived.Test.YtfjjmhbffbhhdaaDoorShiftS
import Derived.Deep.RegionWith
import Derived.Deep.RegionHeld3
import Derived.Test.YtfjjmhbffbhhdaaDoorDiv64
import Derived.Test.YtfjjmhbffbhhdaaDoorRefCmp
namespace Go.Proofs.YtfjjmhbffbhhdaaDoor
open Go.RowKit

def Num (w : World) (v : Value) (n : Nat) : Prop := ∃ s p l c, v = .agg #[.int .u64 s, .slice p l c] ∧ IsN w s p l c n
def RNum (w : World) (v : Value) (n : Nat) : Prop := ∃ p l c, v = .slice p l c ∧ IsR w p l c n
def RowOf (w : World) (v : Value) (k : IntKind) (xs : List Nat) : Prop := ∃ b off c, v = .slice (some ⟨b, off, none⟩) xs.length c ∧ xs.length ≤ c ∧ At w k b off xs

def WRow (w : World) (v : Value) (l n : Nat) : Prop := ∃ b off c xs, v = .slice (some ⟨b, off, none⟩) l c ∧ xs.length = l ∧ l ≤ c ∧ (∀ x ∈ xs, x < 2 ^ 64) ∧ val (2 ^ 64) xs = n ∧ At w .u64 b off xs
theorem WRow.mono {w w' : World} {v : Value} {l n : Nat} (h : WRow w v l n) (hb : Below w.heap.size w w') : WRow w' v l n := by
  obtain ⟨b, off, c, xs, h1, h2, h3, h4, h5, h6⟩ := h
  exact ⟨b, off, c, xs, h1, h2, h3, h4, h5, h6.mono hb⟩

theorem Num.mono {w w' : World} {v : Value} {n : Nat} (h : Num w v n) (hb : Below w.heap.size w w') : Num w' v n := by
  obtain ⟨s, p, l, c, h1, h2⟩ := h
  exact ⟨s, p, l, c, h1, h2.mono hb⟩
theorem RNum.mono {w w' : World} {v : Value} {n : Nat} (h : RNum w v n) (hb : Below w.heap.size w w') : RNum w' v n := by
  obtain ⟨p, l, c, h1, h2⟩ := h
  exact ⟨p, l, c, h1, h2.mono hb⟩
theorem RowOf.mono {w w' : World} {v : Value} {k : IntKind} {xs : List Nat} (h : RowOf w v k xs) (hb : Below w.heap.size w w') : RowOf w' v k xs := by
  obtain ⟨b, off, c, h1, h2, h3⟩ := h
  exact ⟨b, off, c, h1, h2, h3.mono hb⟩

def IsI (w : World) (g : Bool) (s : Int) (p : Option Addr) (l c : Nat) (z : Int) : Prop := g = decide (z < 0) ∧ IsN w s p l c z.natAbs
theorem IsI.mono {w w' : World} {g : Bool} {s : Int} {p : Option Addr} {l c : Nat} {z : Int} (h : IsI w g s p l c z) (hb : Below w.heap.size w w') : IsI w' g s p l c z := ⟨h.1, h.2.mono hb⟩
def INum (w : World) (v : Value) (z : Int) : Prop := ∃ g s p l c, v = .agg #[.bool g, .int .u64 s, .slice p l c] ∧ IsI w g s p l c z
theorem INum.mono {w w' : World} {v : Value} {z : Int} (h : INum w v z) (hb : Below w.heap.size w w') : INum w' v z := by
  obtain ⟨g, s, p, l, c, h1, h2⟩ := h
  exact ⟨g, s, p, l, c, h1, h2.mono hb⟩
def IsRI (w : World) (g : Bool) (p : Option Addr) (l c : Nat) (z : Int) : Prop := g = decide (z < 0) ∧ IsR w p l c z.natAbs
theorem IsRI.mono {w w' : World} {g : Bool} {p : Option Addr} {l c : Nat} {z : Int} (h : IsRI w g p l c z) (hb : Below w.heap.size w w') : IsRI w' g p l c z := ⟨h.1, h.2.mono hb⟩
def RINum (w : World) (v : Value) (z : Int) : Prop := ∃ g p l c, v = .agg #[.bool g, .slice p l c] ∧ IsRI w g p l c z
theorem RINum.mono {w w' : World} {v : Value} {z : Int} (h : RINum w v z) (hb : Below w.heap.size w w') : RINum w' v z := by
  obtain ⟨g, p, l, c, h1, h2⟩ := h
  exact ⟨g, p, l, c, h1, h2.mono hb⟩

inductive Want where
  | is (v : Value)
  | num (n : Nat)
  | rnum (n : Nat)
  | row (k : IntKind) (xs : List Nat)
  | two (x y : Want)
  | three (x y z : Want)
  | newbox (base : Nat)
  | wrow (l n : Nat)
  | int (z : Int)
  | rint (z : Int)
  | that (p : Stable)
  | any

def NewBox (base : Nat) (w : World) (v : Value) : Prop := ∃ b, v = .pointer (some ⟨b, 0, none⟩) ∧ base ≤ b ∧ w.cell? ⟨b, 0, none⟩ = some (.int .u64 0) ∧ w.cell? ⟨b, 1, none⟩ = some (.slice none 0 0) ∧ w.frozen? ⟨b, 0, none⟩ = false ∧ w.frozen? ⟨b, 1, none⟩ = false

def Means (w : World) : Want → Value → Prop
  | .is x, v => v = x
  | .num n, v => Num w v n
  | .rnum n, v => RNum w v n
  | .row k xs, v => RowOf w v k xs
  | .two x y, v => ∃ a b, v = .tuple #[a, b] ∧ Means w x a ∧ Means w y b
  | .three x y z, v => ∃ a b c, v = .tuple #[a, b, c] ∧ Means w x a ∧ Means w y b ∧ Means w z c
  | .newbox base, v => NewBox base w v
  | .wrow l n, v => WRow w v l n
  | .int z, v => INum w v z
  | .rint z, v => RINum w v z
  | .that p, v => p.says w v
  | .any, _ => True

theorem Means.mono {w w' : World} {x : Want} {v : Value} (h : Means w x v) (hb : Below w.heap.size w w') : Means w' x v := by
  induction x generalizing v with
  | is x => exact h
  | num n => exact Num.mono h hb
  | rnum n => exact RNum.mono h hb
  | row k xs => exact RowOf.mono h hb
  | two x y hx hy =>
    obtain ⟨a, b, h1, h2, h3⟩ := h
    exact ⟨a, b, h1, hx h2, hy h3⟩
  | three x y z hx hy hz =>
    obtain ⟨a, b, c, h1, h2, h3, h4⟩ := h
    exact ⟨a, b, c, h1, hx h2, hy h3, hz h4⟩
  | newbox base =>
    obtain ⟨b, h1, h2, h3, h4, h5, h6⟩ := h
    exact ⟨b, h1, h2, wcell hb h3, wcell hb h4, wfree hb h3 h5, wfree hb h4 h6⟩
  | wrow l n => exact WRow.mono h hb
  | int z => exact INum.mono h hb
  | rint z => exact RINum.mono h hb
  | that p => exact p.mono _ _ _ hb h
  | any => trivial

def Tab (t : List Want) (off : Nat) (i : Nat) (v : Value) (w : World) : Prop := Means w (t.getD (i - off) .any) v
theorem Tab.stable {t : List Want} {off : Nat} : ∀ i v w w', Below w.heap.size w w' → Tab t off i v w → Tab t off i v w' := fun _ _ _ _ hb h => Means.mono h hb

end Go.Proofs.YtfjjmhbffbhhdaaDoor

/- Quotients of two short numbers. -/
namespace Go.Proofs.YtfjjmhbffbhhdaaDoor
open Go.RowKit

def RetD (W : World) (m r : Nat) : Ending → World → Prop := fun e w' =>
  ∃ s p l c t q k d, e = .returned (.tuple #[.agg #[.int .u64 s, .slice p l c], .agg #[.int .u64 t, .slice q k d], .bool true]) ∧ IsN w' s p l c m ∧ IsN w' t q k d r ∧ Below W.heap.size W w'

set_option maxRecDepth 100000 in
set_option maxHeartbeats 1000000 in
theorem div_ss (m n : Nat) (hm : m < 2 ^ 64) (hn : n < 2 ^ 64) (h0 : 0 < n) (w : World) :
    Calls Tryd.prog 8 #[.agg #[.int .u64 (m : Int), .slice none 0 0], .agg #[.int .u64 (n : Int), .slice none 0 0]] w (RetD w (m / n) (m % n)) := by
  have HM := Lib.hid hm; have HN := Lib.hid hn
  have d0 : ((n : Int) == 0) = false := beq_eq_false_iff_ne.2 (by omega)
  have n0 : ¬ n = 0 := by omega
  have wq : IntKind.u64.wrap ((m : Int) / n) = (m : Int) / n := by
    have h1 : m / n < 2 ^ 64 := Nat.lt_of_le_of_lt (Nat.div_le_self m n) hm
    rw [← Int.natCast_ediv, IntKind.wrap_u64]
    generalize m / n = q at *
    omega
  have wr : ((m : Int)).tmod n = (m : Int) % n := Int.tmod_eq_emod_of_nonneg (by omega)
  clear hm hn
  go_enter Tryd.func8, Tryd.ntmps8
  go_wp2_with fail
  refine (short_yes _ _ _ _).mono ?_
  rintro e w1 ⟨rfl, hb⟩
  obtain ⟨hc, hf⟩ := bcell hb
  go_wp2_with fail
  refine (short_yes _ _ _ _).mono ?_
  rintro e w2 ⟨rfl, hb2⟩
  replace hb2 := below_step hb hb2
  obtain ⟨hc2, hf2⟩ := bcell hb2
  clear hc hf
  go_wp2_with fail
  refine (short_yes _ _ _ _).mono ?_
  rintro e w3 ⟨rfl, hb3⟩
  replace hb3 := below_step hb2 hb3
  obtain ⟨hc3, hf3⟩ := bcell hb3
  clear hc2 hf2 hb hb2
  go_wp2_with fail
  have HBW : Below w.heap.size w w3 := (by repeat' first | exact Below.refl _ _ | refine below_alloc ?_ _ | refine Below.drew ?_ | refine below_step ?_ (by assumption))
  have hN : w.heap.size + 1 + 1 + 1 + 1 ≤ w3.heap.size := by have := hb3.size; simp at this; omega
  obtain ⟨g, hg⟩ : ∃ g, g = w.heap.size := ⟨_, rfl⟩
  have q1 : w3.cell? ⟨g, 0, none⟩ = some (.int .u64 (m : Int)) := by simp [hg, hc3, go_sem]
  have q2 : w3.cell? ⟨g + 1, 0, none⟩ = some (.int .u64 (n : Int)) := by simp [hg, hc3, go_sem]
  have r0 : w3.cell? ⟨g + 1 + 1, 0, none⟩ = some (.int .u64 0) := by simp [hg, hc3, go_sem]
  have r1 : w3.cell? ⟨g + 1 + 1, 1, none⟩ = some (.slice none 0 0) := by simp [hg, hc3, go_sem]
  have r2 : w3.cell? ⟨g + 1 + 1 + 1, 0, none⟩ = some (.int .u64 0) := by simp [hg, hc3, go_sem]
  have r3 : w3.cell? ⟨g + 1 + 1 + 1, 1, none⟩ = some (.slice none 0 0) := by simp [hg, hc3, go_sem]
  have f0 : w3.frozen? ⟨g + 1 + 1, 0, none⟩ = false := by simp [hg, hf3, go_sem]
  have f1 : w3.frozen? ⟨g + 1 + 1, 1, none⟩ = false := by simp [hg, hf3, go_sem]
  have f2 : w3.frozen? ⟨g + 1 + 1 + 1, 0, none⟩ = false := by simp [hg, hf3, go_sem]
  have f3 : w3.frozen? ⟨g + 1 + 1 + 1, 1, none⟩ = false := by simp [hg, hf3, go_sem]
  have HG := Lib.hid hg
  rw [← hg] at hN ⊢
  clear hc3 hf3 hb3 hg
  have l0 : g < g + 1 + 1 + 1 + 1 := by omega
  have l1 : g + 1 < g + 1 + 1 + 1 + 1 := by omega
  have l2 : g + 1 + 1 < g + 1 + 1 + 1 + 1 := by omega
  have l3 : g + 1 + 1 + 1 < g + 1 + 1 + 1 + 1 := by omega
  refine region_phase (T := [0, 1, 2, 3, 4, 5, 6, 7, 8, 9, 10, 11]) (slots := [28, 29, 30, 31, 32, 33, 34, 35, 36, 37, 38, 39]) (fuel := 3) (n := 12) (deps := [0, 1, 0, 4, 10, 16, 0, 64, 0, 256, 640, 1056, 2111, 8191, 16383]) (Tm := 4095) (Lm := 4095)
      (L := #[true, true, true, true, true, true, true, true, true, true, true, true, false, false, false])
      (V := Tab [.is (.pointer (some ⟨g, 0, none⟩)), .is (.int .u64 m), .is (.pointer (some ⟨g + 1, 0, none⟩)), .is (.int .u64 n), .is (.int .u64 ((m / n : Nat) : Int)), .is (.agg #[.int .u64 ((m / n : Nat) : Int), .slice none 0 0]), .is (.pointer (some ⟨g, 0, none⟩)), .is (.int .u64 m), .is (.pointer (some ⟨g + 1, 0, none⟩)), .is (.int .u64 n), .is (.int .u64 ((m % n : Nat) : Int)), .is (.agg #[.int .u64 ((m % n : Nat) : Int), .slice none 0 0])] 0)
      (by kernel_rfl) rfl Tab.stable (by kernel_rfl) (by kernel_rfl) (by kernel_rfl) (by kernel_rfl) (by kernel_rfl) (by kernel_rfl) (by kernel_rfl) ?_ ?_
  · skip
    refine AllGo.cons rfl (fun E W hb hc hf hE hV => ⟨rfl, ?_⟩) ?_
    · have e1 : E (.tmp 2) = .pointer (some ⟨g, 0, none⟩) := hE 2 (by kernel_rfl)
      clear hE hV
      exact Does.value (w' := W) (by go_simp) ⟨rfl, Below.refl _ _⟩
    refine AllGo.cons rfl (fun E W hb hc hf hE hV => ⟨rfl, ?_⟩) ?_
    · have e1 : E (.tmp 28) = _ := hV 0 28 (by kernel_rfl) (by kernel_rfl) (by kernel_rfl)
      have q := wcell hb q1
      clear hE hV
      exact Does.value (w' := W) (by go_simp) ⟨rfl, Below.refl _ _⟩
    refine AllGo.cons rfl (fun E W hb hc hf hE hV => ⟨rfl, ?_⟩) ?_
    · have e1 : E (.tmp 3) = .pointer (some ⟨g + 1, 0, none⟩) := hE 3 (by kernel_rfl)
      clear hE hV
      exact Does.value (w' := W) (by go_simp) ⟨rfl, Below.refl _ _⟩
    refine AllGo.cons rfl (fun E W hb hc hf hE hV => ⟨rfl, ?_⟩) ?_
    · have e1 : E (.tmp 30) = _ := hV 2 30 (by kernel_rfl) (by kernel_rfl) (by kernel_rfl)
      have q := wcell hb q2
      clear hE hV
      exact Does.value (w' := W) (by go_simp) ⟨rfl, Below.refl _ _⟩
    refine AllGo.cons rfl (fun E W hb hc hf hE hV => ⟨rfl, ?_⟩) ?_
    · have e1 : E (.tmp 29) = _ := hV 1 29 (by kernel_rfl) (by kernel_rfl) (by kernel_rfl)
      have e2 : E (.tmp 31) = _ := hV 3 31 (by kernel_rfl) (by kernel_rfl) (by kernel_rfl)
      clear hE hV
      exact Does.value (w' := W) (by go_simp) ⟨rfl, Below.refl _ _⟩
    refine AllGo.cons rfl (fun E W hb hc hf hE hV => ⟨rfl, ?_⟩) ?_
    · have e1 : E (.tmp 32) = _ := hV 4 32 (by kernel_rfl) (by kernel_rfl) (by kernel_rfl)
      clear hE hV
      exact Does.call (w' := W) (by go_simp) ((of_any _ _).mono fun e w' ⟨h1, h2⟩ => ⟨_, h1, rfl, h2⟩)
    refine AllGo.cons rfl (fun E W hb hc hf hE hV => ⟨rfl, ?_⟩) ?_
    · have e1 : E (.tmp 2) = .pointer (some ⟨g, 0, none⟩) := hE 2 (by kernel_rfl)
      clear hE hV
      exact Does.value (w' := W) (by go_simp) ⟨rfl, Below.refl _ _⟩
    refine AllGo.cons rfl (fun E W hb hc hf hE hV => ⟨rfl, ?_⟩) ?_
    · have e1 : E (.tmp 34) = _ := hV 6 34 (by kernel_rfl) (by kernel_rfl) (by kernel_rfl)
      have q := wcell hb q1
      clear hE hV
      exact Does.value (w' := W) (by go_simp) ⟨rfl, Below.refl _ _⟩
    refine AllGo.cons rfl (fun E W hb hc hf hE hV => ⟨rfl, ?_⟩) ?_
    · have e1 : E (.tmp 3) = .pointer (some ⟨g + 1, 0, none⟩) := hE 3 (by kernel_rfl)
      clear hE hV
      exact Does.value (w' := W) (by go_simp) ⟨rfl, Below.refl _ _⟩
    refine AllGo.cons rfl (fun E W hb hc hf hE hV => ⟨rfl, ?_⟩) ?_
    · have e1 : E (.tmp 36) = _ := hV 8 36 (by kernel_rfl) (by kernel_rfl) (by kernel_rfl)
      have q := wcell hb q2
      clear hE hV
      exact Does.value (w' := W) (by go_simp) ⟨rfl, Below.refl _ _⟩
    refine AllGo.cons rfl (fun E W hb hc hf hE hV => ⟨rfl, ?_⟩) ?_
    · have e1 : E (.tmp 35) = _ := hV 7 35 (by kernel_rfl) (by kernel_rfl) (by kernel_rfl)
      have e2 : E (.tmp 37) = _ := hV 9 37 (by kernel_rfl) (by kernel_rfl) (by kernel_rfl)
      clear hE hV
      exact Does.value (w' := W) (by go_simp) ⟨rfl, Below.refl _ _⟩
    refine AllGo.cons rfl (fun E W hb hc hf hE hV => ⟨rfl, ?_⟩) ?_
    · have e1 : E (.tmp 38) = _ := hV 10 38 (by kernel_rfl) (by kernel_rfl) (by kernel_rfl)
      clear hE hV
      exact Does.call (w' := W) (by go_simp) ((of_any _ _).mono fun e w' ⟨h1, h2⟩ => ⟨_, h1, rfl, h2⟩)
    exact AllGo.nil
  · intro f W hf hb
    have e33 : f 33 = .agg #[.int .u64 ((m / n : Nat) : Int), .slice none 0 0] := hf (5, 33) (by simp)
    have e39 : f 39 = .agg #[.int .u64 ((m % n : Nat) : Int), .slice none 0 0] := hf (11, 39) (by simp)
    have r0 := wcell hb r0; have r1 := wcell hb r1; have r2 := wcell hb r2; have r3 := wcell hb r3
    have f0 := wfree hb (by assumption) f0; have f1 := wfree hb (by assumption) f1; have f2 := wfree hb (by assumption) f2; have f3 := wfree hb (by assumption) f3
    have HB : Below w.heap.size w W := below_step HBW hb
    clear hf hb
    simp only [fillSlots]
    refine wpAny_ready (rs := [12]) (by kernel_rfl) (by simp) ?_
    refine AllReady.cons rfl (fun K hK => ?_) AllReady.nil
    go_simp
    refine hK _ _ ?_; clear hK K
    refine wpAny_ready (rs := [13]) (by kernel_rfl) (by simp) ?_
    refine AllReady.cons rfl (fun K hK => ?_) AllReady.nil
    go_simp
    refine hK _ _ ?_; clear hK K
    refine wpAny_ready (rs := [14]) (by kernel_rfl) (by simp) ?_
    refine AllReady.cons rfl (fun K hK => ?_) AllReady.nil
    go_simp
    refine hK _ _ ?_; clear hK K
    refine wpAny_done (by kernel_rfl) ?_ _
    go_wp2
    refine bodyPost_ret (v := .tuple #[.agg #[.int .u64 ((m / n : Nat) : Int), .slice none 0 0], .agg #[.int .u64 ((m % n : Nat) : Int), .slice none 0 0], .bool true]) (by simp [results, Tryd.results8, go_sem, r0, r1, r2, r3]) rfl ?_
    have hm := HM.out
    have h1 : m / n < 2 ^ 64 := Nat.lt_of_le_of_lt (Nat.div_le_self m n) hm
    have h2 : m % n < 2 ^ 64 := Nat.lt_of_le_of_lt (Nat.mod_le m n) hm
    have hg := HG.out
    exact ⟨_, _, _, _, _, _, _, _, rfl, .short h1, .short h2, (by repeat' first | exact HB | (refine Below.setCell ?_ (by simp; omega) _))⟩
end Go.Proofs.YtfjjmhbffbhhdaaDoor

/- A row divided by one digit, in place. -/
namespace Go.Proofs.YtfjjmhbffbhhdaaDoor
open Go.RowKit

def RetWord (w : World) (b off l : Nat) (v d : Nat) : Ending → World → Prop := fun e w' =>
  ∃ (ws : List Nat) (r : Nat), e = .returned (.int .u64 (r : Int)) ∧ r = v % d ∧ ws.length = l ∧ (∀ x ∈ ws, x < 2 ^ 64) ∧ val (2 ^ 64) ws = v / d ∧ At w' .u64 b off ws ∧ Only w w' b off l

theorem WordInv.done {b d : Nat} {ws ws' : List Nat} {r : Nat} (h : WordInv b d ws ws' 0 r) : val b ws' = val b ws / d ∧ r = val b ws % d := by
  have h1 := h.sum
  have h2 := h.rest
  rw [List.drop_zero, List.drop_zero] at h1
  have h3 : val b ws / d = val b ws' := Nat.div_eq_of_lt_le (by omega) (by rw [Nat.add_mul]; omega)
  refine ⟨h3.symm, ?_⟩
  have h4 := Nat.div_add_mod (val b ws) d
  rw [h3, Nat.mul_comm] at h4
  omega

set_option maxRecDepth 100000 in
set_option maxHeartbeats 2000000 in
theorem divByWord_any (b off c l d : Nat) (ws : List Nat) (w : World) (hl : ws.length = l) (h0 : 0 < l) (hl2 : l ≤ 1000000) (hd : 0 < d) (hd2 : d < 2 ^ 64) (h : At w .u64 b off ws) (hF : Fr w b off l) (hW : ∀ x ∈ ws, x < 2 ^ 64) :
    Calls Tryd.prog 33 #[.slice (some ⟨b, off, none⟩) l c, .int .u64 (d : Int)] w (RetWord w b off l (val (2 ^ 64) ws) d) := by
  have hb := h.lt (by omega)
  have HA := Lib.hid h; have HF := Lib.hid hF; have HW := Lib.hid hW; have HL := Lib.hid hl; have HD := Lib.hid hd; have HD2 := Lib.hid hd2; have HB := Lib.hid hb
  clear h hF hW hl hd hd2 hb
  go_enter Tryd.func33, Tryd.ntmps33
  go_wp2
  go_loopw [5, 6] (fun r i wr => ∃ k r' : Nat, k ≤ l ∧ i = .int .i64 ((k : Int) - 1) ∧ r = .int .u64 (r' : Int) ∧ ∃ ws', Hid (WordInv (2 ^ 64) d ws ws' k r') ∧ At wr .u64 b off ws' ∧ Only w wr b off l) (fun _ i _ => (intOf i + 1).toNat)
  case atStart => exact ⟨l, 0, Nat.le_refl _, rfl, rfl, ws, Lib.hid (by have := WordInv.start (ws := ws) HD.out HW.out; rwa [HL.out] at this), HA.out, Only.refl _ _ _ _⟩
  case round =>
    obtain ⟨k, r, hk, rfl, rfl, ws', HI, hA, hO⟩ := hrel
    rcases Nat.eq_zero_or_pos k with hk0 | hk0
    · subst hk0
      have HFIN := Lib.hid HI.out.done
      have HLT := Lib.hid HI.out.lt
      have HLN : Hid (ws'.length = l) := Lib.hid (by rw [HI.out.len, HL.out])
      clear HI
      go_wp2
      go_ret
      exact ⟨ws', r, rfl, HFIN.out.2, HLN.out, HLT.out, HFIN.out.1, hA, hO⟩
    · obtain ⟨j, rfl⟩ : ∃ j, k = j + 1 := ⟨k - 1, by omega⟩
      have hlen : ws'.length = l := by rw [HI.out.len, HL.out]
      have c1 := hA j (by omega)
      have hx := getD_lt HI.out.lt (by omega) j
      have hq := word_digit HI.out.rest hx
      have HT := Lib.hid (div64_any r (ws'.getD j 0) d HI.out.rest HD2.out hx)
      have HS := Lib.hid (HI.out.step (by rw [HL.out]; omega) hq (Nat.mod_lt _ HD.out) (by rw [Nat.mul_comm]; exact Nat.div_add_mod _ _))
      generalize (r * 2 ^ 64 + ws'.getD j 0) / d = q at *
      generalize (r * 2 ^ 64 + ws'.getD j 0) % d = s at *
      generalize ws'.getD j 0 = x at *
      have HLN := Lib.hid hlen
      have i0 : ((j + 1 : Nat) : Int) - 1 = (j : Int) := by omega
      rw [i0]
      have i1 : (0 : Int) ≤ j := by omega
      have i2 : (j : Int) < l := by omega
      clear hx hq HI hlen
      go_wp2_with fail
      refine (HT.out _).mono ?_
      rintro e w1 ⟨rfl, hb⟩
      have hbl := Nat.lt_of_lt_of_le HB.out hO.size
      have f1 := (HF.out.only hO) j (by omega)
      have c2 := wcell hb c1
      have f2 := wfree hb c1 f1
      have hA2 := Lib.hid ((hA.mono hb).set j q (by rw [HLN.out]; omega))
      have hO2 := Lib.hid ((hO.trans (Only.of_below hb hbl)).setCell (off + j) (by omega) (by omega) (.int .u64 (q : Int)))
      clear hA hO c1 f1 hbl hb
      go_wp2
      go_roundw
      case rel => exact ⟨j, s, by omega, by go_num, rfl, _, HS, hA2.out, hO2.out⟩
      case measure => simp [intOf]
end Go.Proofs.YtfjjmhbffbhhdaaDoor

/- Lengths of the document's numbers. -/
namespace Go.Proofs.YtfjjmhbffbhhdaaDoor
open Go.RowKit

theorem dr_ds (n : Nat) : (dr n).length ≤ 2 * (ds n).length := by
  refine digs_length_le (by omega) ?_
  have := lt_ds n
  rw [show (2 : Nat) ^ 64 = (2 ^ 32) ^ 2 from by omega, ← Nat.pow_mul] at this
  exact this
theorem IsR.short {w : World} {p : Option Addr} {l c n k : Nat} (h : IsR w p l c n) (hk : (ds n).length ≤ k) : l ≤ 2 * k := by
  have h1 := h.1; have h2 := dr_ds n; omega
theorem dr_mul (m n : Nat) : (dr (m * n)).length ≤ (dr m).length + (dr n).length := by
  refine digs_length_le (by omega) ?_
  rw [Nat.pow_add]
  exact Nat.mul_lt_mul'' (lt_pow_digs (by omega) m) (lt_pow_digs (by omega) n)
end Go.Proofs.YtfjjmhbffbhhdaaDoor

/- Is one of the program's numbers the document's? -/
namespace Go.Proofs.YtfjjmhbffbhhdaaDoor
open Go.RowKit

def bstr (n : Nat) : ByteArray := strOfNums ((be n).map fun x => ((x : Nat) : Int))

def RetS (W : World) (n : Nat) : Ending → World → Prop := fun e w' =>
  ∃ b off l c, e = .returned (.slice (some ⟨b, off, none⟩) l c) ∧ (∀ w'', Below w'.heap.size w' w'' → (convert 40 9 (.slice (some ⟨b, off, none⟩) l c)).run Tryd.prog w'' = .ok (.string (bstr n)) w'') ∧ Below W.heap.size W w'

theorem RetW.str {W w' : World} {n : Nat} {e : Ending} (h : RetW W .u8 (be n) e w') : RetS W n e w' := by
  obtain ⟨b, off, c, h1, _, _, h4, _, h6⟩ := h
  refine ⟨b, off, _, c, h1, fun w'' hb => ?_, h6⟩
  refine run_convert_bytes_arg w'' 40 5 Tryd.underlying40 Tryd.underlying5 b off _ c ((be n).map fun x => ((x : Nat) : Int)) (by simp) (fun i hi => ?_) 9 Tryd.underlying9
  rw [h4.mono hb i hi]
  simp [List.getD, List.getElem?_map, List.getElem?_eq_getElem hi]

set_option maxHeartbeats 1000000 in
theorem is_yes (n : Nat) (s : Int) (p q : Option Addr) (l c k d : Nat) (w : World) (h1 : IsN w s p l c n) (h2 : IsR w q k d n) (hl : (ds n).length ≤ 1000000) (hk : k ≤ 1000000) :
    Calls Tryd.prog 20 #[.agg #[.int .u64 s, .slice p l c], .slice q k d] w fun e w' => e = .returned (.bool true) ∧ Below w.heap.size w w' := by
  have H1 := Lib.hid h1; have H2 := Lib.hid h2; clear h1 h2
  have hrefl : ∀ (B : Nat) (w : World), Below B w w := fun _ _ => Below.refl _ _
  go_enter Tryd.func20, Tryd.ntmps20
  go_wp2
  go_region_with (first
    | (go_at_call 16; refine ((nbytes_any n s p l c _ (H1.out.mono (by repeat' first | exact Below.refl _ _ | refine below_alloc ?_ _ | refine Below.drew ?_ | refine below_step ?_ (by assumption))) hl).mono fun _ _ h => RetW.str h).mono ?_; rintro e w1 ⟨b, off, l1, c1, rfl, hcv, hb⟩; obtain ⟨hc, hf⟩ := bcell hb)
    | (go_at_call 52; refine ((rbytes_any n q k d _ (H2.out.mono (by repeat' first | exact Below.refl _ _ | refine below_alloc ?_ _ | refine Below.drew ?_ | refine below_step ?_ (by assumption))) hk).mono fun _ _ h => RetW.str h).mono ?_; rintro e w1 ⟨b, off, l1, c1, rfl, hcv, hb⟩; obtain ⟨hc, hf⟩ := bcell hb))
  all_goals
    go_wp2
    go_ret
    exact ⟨rfl, (by repeat' first | exact Below.refl _ _ | refine below_alloc ?_ _ | refine Below.drew ?_ | refine below_step ?_ (by assumption))⟩
end Go.Proofs.YtfjjmhbffbhhdaaDoor

/- Is a number the document's, in the words of an open statement. -/
namespace Go.Proofs.YtfjjmhbffbhhdaaDoor
open Go.RowKit

theorem is_want (w : World) (u v : Value) (n : Nat) (hn : (ds n).length ≤ 400) (h1 : Num w u n) (h2 : RNum w v n) :
    Calls Tryd.prog 20 #[u, v] w fun e w' => ∃ v', e = .returned v' ∧ v' = .bool true ∧ Below w.heap.size w w' := by
  obtain ⟨s, p, l, c, rfl, h1⟩ := h1
  obtain ⟨q, k, d, rfl, h2⟩ := h2
  have := h2.short hn
  exact (is_yes n s p q l c k d w h1 h2 (by omega) (by omega)).mono fun _ _ ⟨h, hb⟩ => ⟨_, h, rfl, hb⟩
end Go.Proofs.YtfjjmhbffbhhdaaDoor
