/- The checksum of any bytes, the program's and the document's. -/
import Derived.Test.YtagoabnagnhdlaaB8
import Derived.Test.YtagoabnagnhdlaaO0
namespace Go.Proofs.Ytagoabnagnhdlaa
open Go.RowKit

theorem IsB.cases {w : World} {p : Option Addr} {l c : Nat} {bs : List Nat} (h : IsB w p l c bs) :
    (bs = [] ∧ l = 0) ∨ (∃ b off, p = some ⟨b, off, none⟩ ∧ 0 < l ∧ bs.length = l ∧ l ≤ c ∧ At w .u8 b off bs ∧ ∀ x ∈ bs, x < 256) := by
  obtain ⟨h1, h2, ⟨rfl, rfl, rfl⟩ | ⟨b, off, sp, rfl, h4, h5⟩⟩ := h
  · exact Or.inl ⟨List.eq_nil_of_length_eq_zero h1, rfl⟩
  · by_cases h0 : l = 0
    · subst h0; exact Or.inl ⟨List.eq_nil_of_length_eq_zero h1, rfl⟩
    · have h6 := World.cell?_spot (h5 0 (by omega))
      have hsp : sp = none := by simpa [Addr.add] using h6
      subst hsp
      exact Or.inr ⟨b, off, rfl, by omega, h1, h4, fun i hi => by rw [← Go.WideShapes.add_plain]; exact h5 i hi, h2⟩

theorem step_wrap {f x : Nat} (hf : f < 2 ^ 64) (hx : x < 256) : IntKind.u64.wrap (bits .xor .u64 (f : Int) (x : Int) * 1099511628211) = ((fnvStep f x : Nat) : Int) := by
  rw [u64_xor_nat f x (by omega) (by omega), IntKind.wrap_u64]
  unfold fnvStep
  generalize f ^^^ x = t
  omega

set_option maxHeartbeats 400000 in
theorem sum_at (b off l c : Nat) (bs : List Nat) (w : World) (hl : bs.length = l) (hm : l ≤ 9223372036854775807) (hlt : ∀ x ∈ bs, x < 256) (h : At w .u8 b off bs) :
    Calls Try.prog 14 #[.slice (some ⟨b, off, none⟩) l c] w fun e w' => w = w' ∧ e = .returned (.int .u64 ((fnv bs : Nat) : Int)) := by
  have HX := Lib.hid h
  have HL := Lib.hid hl
  have HT := Lib.hid hlt
  clear h hl hlt
  go_enter Try.func14, Try.ntmps14
  go_wp2
  go_loop [3, 8] (fun s i => ∃ k : Nat, k ≤ l ∧ i = .int .i64 k ∧ s = .int .u64 ((fnv (bs.take k) : Nat) : Int)) (fun _ i => l - (intOf i).toNat)
  case atStart => exact ⟨0, Nat.zero_le _, rfl, rfl⟩
  case round =>
    obtain ⟨k, hk, rfl, rfl⟩ := hrel
    by_cases hlt : k < l
    · have hcell := HX.out k (by rw [HL.out]; exact hlt)
      have hx : bs.getD k 0 < 256 := getD_lt HT.out (by omega) k
      have hf := fnv_lt (bs.take k)
      have hsucc := fnv_take_succ bs k (by rw [HL.out]; exact hlt)
      obtain ⟨x, hxe⟩ : ∃ x, x = bs.getD k 0 := ⟨_, rfl⟩
      obtain ⟨f, hfe⟩ : ∃ f, f = fnv (bs.take k) := ⟨_, rfl⟩
      rw [← hfe] at hf hsucc ⊢
      rw [← hxe] at hx hsucc hcell
      have hstep := step_wrap hf hx
      rw [← hsucc] at hstep
      have HS := Lib.hid hstep
      clear hsucc hxe hfe hstep
      go_wp2
      go_round
      case rel => exact ⟨k + 1, by omega, by go_num, by rw [HS.out]⟩
      case measure => simp [intOf]; omega
    · obtain rfl : k = l := by omega
      have he : bs.take k = bs := List.take_of_length_le (by rw [HL.out]; omega)
      have HE := Lib.hid he
      clear he hlt
      go_wp2
      go_ret
      exact ⟨rfl, ret_int (by rw [HE.out])⟩

set_option maxHeartbeats 400000 in
theorem sum_nil (p : Option Addr) (c : Nat) (w : World) :
    Calls Try.prog 14 #[.slice p 0 c] w fun e w' => w = w' ∧ e = .returned (.int .u64 ((fnv [] : Nat) : Int)) := by
  go_enter Try.func14, Try.ntmps14
  go_wp2
  go_loop [3, 8] (fun s i => i = .int .i64 0 ∧ s = .int .u64 14695981039346656037) (fun _ _ => 0)
  case atStart => exact ⟨rfl, rfl⟩
  case round =>
    obtain ⟨rfl, rfl⟩ := hrel
    go_wp2
    go_ret
    exact ⟨rfl, rfl⟩

/-- The checksum. -/
theorem sum_any (p : Option Addr) (l c : Nat) (bs : List Nat) (w : World) (hm : l ≤ 9223372036854775807) (h : IsB w p l c bs) :
    Calls Try.prog 14 #[.slice p l c] w fun e w' => w = w' ∧ e = .returned (.int .u64 ((fnv bs : Nat) : Int)) := by
  rcases h.cases with ⟨rfl, rfl⟩ | ⟨b, off, rfl, _, h2, _, h4, h5⟩
  · exact sum_nil p c w
  · exact sum_at b off l c bs w h2 hm h5 h4

end Go.Proofs.Ytagoabnagnhdlaa
