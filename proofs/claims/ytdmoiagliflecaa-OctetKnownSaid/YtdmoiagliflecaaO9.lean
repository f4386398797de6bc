/- Bytes as strings; are two rows alike. -/
import Derived.Test.YtdmoiagliflecaaO4
import Derived.Laws.BytesArg
namespace Go.Proofs.Ytdmoiagliflecaa
open Go.RowKit

/-- The string of these bytes. -/
def bstr (bs : List Nat) : ByteArray := strOfNums (bs.map fun (n : Nat) => (n : Int))
theorem bstr_inj {xs ys : List Nat} (hx : ∀ x ∈ xs, x < 256) (hy : ∀ y ∈ ys, y < 256) (h : bstr xs = bstr ys) : xs = ys := by
  have h1 : (bstr xs).data.toList = (bstr ys).data.toList := by rw [h]
  unfold bstr at h1
  rw [strOfNums_data, strOfNums_data, List.map_map, List.map_map] at h1
  induction xs generalizing ys with
  | nil =>
    cases ys with
    | nil => rfl
    | cons y ys => simp at h1
  | cons x xs ih =>
    cases ys with
    | nil => simp at h1
    | cons y ys =>
      simp only [List.map_cons, List.cons.injEq, Function.comp] at h1
      have e1 : x = y := by
        have h2 := congrArg UInt8.toNat h1.1
        simp only [Int.toNat_natCast, UInt8.toNat_ofNat'] at h2
        have := hx x (List.mem_cons_self ..)
        have := hy y (List.mem_cons_self ..)
        omega
      have e2 := ih (ys := ys) (fun z hz => hx z (List.mem_cons_of_mem _ hz)) (fun z hz => hy z (List.mem_cons_of_mem _ hz)) (by
        show strOfNums _ = strOfNums _
        have : (strOfNums (xs.map fun (n : Nat) => (n : Int))).data = (strOfNums (ys.map fun (n : Nat) => (n : Int))).data := by
          apply Array.toList_inj.1
          rw [strOfNums_data, strOfNums_data, List.map_map, List.map_map]
          exact h1.2
        exact ByteArray.ext this) h1.2
      rw [e1, e2]
theorem bstr_beq {xs ys : List Nat} (hx : ∀ x ∈ xs, x < 256) (hy : ∀ y ∈ ys, y < 256) : ((bstr xs).toList == (bstr ys).toList) = decide (xs = ys) := by
  by_cases h : xs = ys
  · rw [h, decide_eq_true rfl]; exact beq_self_eq_true _
  · rw [decide_eq_false h]
    refine beq_eq_false_iff_ne.2 (fun e => h (bstr_inj hx hy ?_))
    rw [ByteArray.toList_eq, ByteArray.toList_eq] at e
    exact Go.WideShapes.bytes_inj e

/-- The parts of a slice say the bytes bs: nil, or a row. -/
def IsS (w : World) (p : Option Addr) (l c : Nat) (bs : List Nat) : Prop :=
  bs.length = l ∧ (∀ x ∈ bs, x < 256) ∧ ((p = none ∧ l = 0 ∧ c = 0) ∨ ∃ b off, p = some ⟨b, off, none⟩ ∧ l ≤ c ∧ At w .u8 b off bs)
theorem IsS.isB {w : World} {p : Option Addr} {l c : Nat} {bs : List Nat} (h : IsS w p l c bs) : IsB w p l c bs := by
  obtain ⟨h1, h2, h3 | ⟨b, off, h3, h4, h5⟩⟩ := h
  · exact ⟨h1, h2, Or.inl h3⟩
  · exact ⟨h1, h2, Or.inr ⟨b, off, none, h3, h4, fun i hi => by rw [Go.WideShapes.add_plain]; exact h5 i hi⟩⟩
theorem IsS.mono {w w' : World} {p : Option Addr} {l c : Nat} {bs : List Nat} (h : IsS w p l c bs) (hb : Below w.heap.size w w') : IsS w' p l c bs := by
  obtain ⟨h1, h2, h3 | ⟨b, off, h3, h4, h5⟩⟩ := h
  · exact ⟨h1, h2, Or.inl h3⟩
  · exact ⟨h1, h2, Or.inr ⟨b, off, h3, h4, h5.mono hb⟩⟩

theorem run_str_at {w : World} {b off l c : Nat} {bs : List Nat} (hl : bs.length = l) (h : At w .u8 b off bs) :
    (convert 22 9 (.slice (some ⟨b, off, none⟩) l c)).run Try.prog w = .ok (.string (bstr bs)) w := by
  refine run_convert_bytes_arg w 22 5 Try.underlying22 Try.underlying5 b off l c (bs.map fun (n : Nat) => (n : Int)) (by rw [List.length_map, hl]) (fun i hi => ?_) 9 Try.underlying9
  rw [h i (by omega)]
  simp [List.getD, (by omega : i < bs.length)]
theorem run_str {w : World} {p : Option Addr} {l c : Nat} {bs : List Nat} (h : IsS w p l c bs) :
    (convert 22 9 (.slice p l c)).run Try.prog w = .ok (.string (bstr bs)) w := by
  obtain ⟨h1, h2, ⟨rfl, rfl, rfl⟩ | ⟨b, off, rfl, h4, h5⟩⟩ := h
  · obtain rfl : bs = [] := List.eq_nil_of_length_eq_zero h1
    exact run_convert_bytes_nil w 22 5 Try.underlying22 Try.underlying5 0 0 9 Try.underlying9
  · exact run_str_at h1 h5

set_option maxHeartbeats 400000 in
theorem equal_at (b1 o1 l1 c1 b2 o2 l2 c2 : Nat) (xs ys : List Nat) (w : World) (h1 : xs.length = l1) (h2 : ys.length = l2) (a1 : At w .u8 b1 o1 xs) (a2 : At w .u8 b2 o2 ys) (hx : ∀ x ∈ xs, x < 256) (hy : ∀ y ∈ ys, y < 256) :
    Calls Try.prog 28 #[.slice (some ⟨b1, o1, none⟩) l1 c1, .slice (some ⟨b2, o2, none⟩) l2 c2] w fun e w' => w = w' ∧ e = .returned (.bool (decide (xs = ys))) := by
  have r1 := run_str_at (c := c1) h1 a1
  have r2 := run_str_at (c := c2) h2 a2
  have hb := bstr_beq hx hy
  obtain ⟨s1, hs1⟩ : ∃ s, s = bstr xs := ⟨_, rfl⟩
  obtain ⟨s2, hs2⟩ : ∃ s, s = bstr ys := ⟨_, rfl⟩
  rw [← hs1] at r1 hb
  rw [← hs2] at r2 hb
  have HB := Lib.hid hb
  clear hb hs1 hs2 h1 h2 a1 a2 hx hy
  go_enter Try.func28, Try.ntmps28
  go_wp2
  go_ret
  exact ⟨rfl, ret_bool HB.out⟩
end Go.Proofs.Ytdmoiagliflecaa
