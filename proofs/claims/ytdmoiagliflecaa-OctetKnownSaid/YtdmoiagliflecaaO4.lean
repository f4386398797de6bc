/- A Writer's beginning and end; the checksum's bytes; are two rows alike. -/
import Derived.Test.YtdmoiagliflecaaO3
namespace Go.Proofs.Ytdmoiagliflecaa
open Go.RowKit

theorem newWriter_any (w : World) : Calls Try.prog 22 #[] w fun e w' => w' = w.alloc (.cells #[.slice none 0 0] 54) ∧ e = .returned (.pointer (some ⟨w.heap.size, 0, none⟩)) := by
  go_enter Try.func22, Try.ntmps22
  go_wp2
  go_ret
  exact ⟨rfl, rfl⟩
theorem WrV.new (w : World) : WrV w.heap.size (w.alloc (.cells #[.slice none 0 0] 54)) w.heap.size (.slice none 0 0) [] :=
  ⟨Boxed.new w _ _, World.ownsRow_nil _ _ _ _, Nat.le_refl _, fun x hx => by simp at hx⟩

/-- The bytes of a Writer that holds some. -/
theorem WrV.isB {n0 : Nat} {w : World} {b g l c : Nat} {bs : List Nat} (h : WrV n0 w b (.slice (some ⟨g, 0, none⟩) l c) bs) (hl : bs.length = l) : n0 ≤ g ∧ l ≤ c ∧ At w .u8 g 0 bs := by
  have hr := h.row
  subst hl
  obtain ⟨h1, h2, h3, _⟩ := ownsRow_at hr rfl
  exact ⟨h1, h2, h3⟩

set_option maxHeartbeats 1000000 in
theorem wBytes_any (n0 b g l c : Nat) (bs : List Nat) (w : World) (hw : WrV n0 w b (.slice (some ⟨g, 0, none⟩) l c) bs) (hl : bs.length = l) (h0 : 0 < l) (hm : l ≤ 4611686018427) :
    Calls Try.prog 26 #[.pointer (some ⟨b, 0, none⟩)] w (RetC w bs) := by
  have hc := hw.box.cell
  have hf := hw.box.frozen
  have HA := Lib.hid (hw.isB hl).2.2
  have HL := Lib.hid hl
  clear hw hl
  go_enter Try.func26, Try.ntmps26
  go_wp2_with fail
  refine (exact_at g 0 l c bs w HL.out h0 hm HA.out).mono ?_
  rintro e w2 ⟨⟨rfl, rfl⟩ | ⟨g2, h1, rfl, h2, h3, h4⟩, hb⟩
  · have := HL.out; simp at this; omega
  · have H1 := Lib.hid h1; have H2 := Lib.hid h2; have H3 := Lib.hid h3; have H4 := Lib.hid h4; have HB := Lib.hid hb
    clear h1 h2 h3 h4 hb
    go_wp2
    go_ret
    exact ⟨Or.inr ⟨g2, H1.out, rfl, H2.out, H3.out, H4.out⟩, HB.out⟩

/-- The first k of eight bytes are written, from the last on. -/
def fillTo (h k : Nat) : List Nat := List.replicate (8 - k) 0 ++ (be8 h).drop (8 - k)
theorem fillTo_succ (h k : Nat) (hk : k < 8) : fillTo h (k + 1) = (fillTo h k).set (7 - k) (h / 2 ^ (8 * k) % 256) := by
  have e := be8_getD h (7 - k) (by omega)
  rw [show 7 - (7 - k) = k from by omega] at e
  rw [← e]
  match k, hk with
  | 0, _ | 1, _ | 2, _ | 3, _ | 4, _ | 5, _ | 6, _ | 7, _ => rfl
theorem fillTo_length (h k : Nat) (hk : k ≤ 8) : (fillTo h k).length = 8 := by
  unfold fillTo; rw [List.length_append, List.length_replicate, List.length_drop, be8_length]; omega

theorem emod_256 (r : Nat) : ((r % 256 : Nat) : Int) = (r : Int) % 256 := by omega
theorem At.set0 {w : World} {k : IntKind} {b : Nat} {xs : List Nat} (h : At w k b 0 xs) (j y : Nat) (hj : j < xs.length) : At (w.setCell ⟨b, j, none⟩ (.int k (y : Int))) k b 0 (xs.set j y) := by
  have := h.set j y hj
  rwa [Nat.zero_add] at this

set_option maxHeartbeats 1000000 in
theorem written_any (p : Option Addr) (l c : Nat) (bs : List Nat) (w : World) (hm : l ≤ 140737488351232) (h : IsB w p l c bs) :
    Calls Try.prog 25 #[.slice p l c] w (RetW w .u8 (be8 (fnv bs))) := by
  have HX := Lib.hid h
  have hlt := fnv_lt bs
  obtain ⟨f, hf⟩ : ∃ f, f = fnv bs := ⟨_, rfl⟩
  rw [← hf] at hlt ⊢
  have HF := Lib.hid hf
  clear h hf
  go_enter Try.func25, Try.ntmps25
  go_wp2_with fail
  refine (sum_any p l c bs _ hm HX.out).mono ?_
  rintro e w2 ⟨rfl, rfl⟩
  rw [← HF.out]
  have hmk : (Instr.makeSlice 22 (.int .i64 8) (.int .i64 8)).run Try.prog w = .ok (.slice (some ⟨w.heap.size, 0, none⟩) 8 8) (w.alloc (.cells (madeCells #[.int .u8 0] 8) 5)) := make_u8 8 (by omega) w
  have A0 := Lib.hid (At.made w .u8 8 5)
  have F0 := Lib.hid (Fr.made w .u8 8 8 5)
  obtain ⟨w1, hw1⟩ : ∃ w1, w1 = w.alloc (.cells (madeCells #[.int .u8 0] 8) 5) := ⟨_, rfl⟩
  rw [← hw1] at hmk A0 F0
  have B0 : Below w.heap.size w w1 := by rw [hw1]; exact below_alloc (Below.refl _ _) _
  have hlt1 : w.heap.size < w1.heap.size := by rw [hw1]; simp
  have HB0 := Lib.hid B0
  clear hw1 B0
  obtain ⟨g, hg⟩ : ∃ g, g = w.heap.size := ⟨_, rfl⟩
  rw [← hg] at hmk A0 F0 hlt1 HB0
  have HG := Lib.hid hg
  clear hg
  go_wp2
  go_loopw [3, 9] (fun r i wr => ∃ k : Nat, k ≤ 8 ∧ i = .int .i64 k ∧ r = .int .u64 ((f / 2 ^ (8 * k) : Nat) : Int) ∧ Hid (At wr .u8 g 0 (fillTo f k)) ∧ Hid (Fr wr g 0 8) ∧ Hid (Below g w wr)) (fun _ i _ => 8 - (intOf i).toNat)
  case atStart => exact ⟨0, Nat.zero_le _, rfl, by simp, A0, F0, HB0⟩
  case round =>
    obtain ⟨k, hk, rfl, rfl, HA, HFr, HB⟩ := hrel
    by_cases hk8 : k < 8
    · have hcell := HA.out (7 - k) (by rw [fillTo_length f k hk]; omega)
      have hfr := HFr.out (7 - k) (by omega)
      obtain ⟨r, hr⟩ : ∃ r, r = f / 2 ^ (8 * k) := ⟨_, rfl⟩
      have hsucc := fillTo_succ f k hk8
      have hnext : f / 2 ^ (8 * (k + 1)) = r / 256 := by rw [hr, Nat.div_div_eq_div_mul, show 8 * (k + 1) = 8 * k + 8 from by omega, Nat.pow_add]
      rw [← hr] at hsucc ⊢
      obtain ⟨j, hj⟩ : ∃ j, j = 7 - k := ⟨_, rfl⟩
      rw [← hj] at hsucc hcell hfr
      rw [Nat.zero_add] at hcell hfr
      have hjk : (7 : Int) - (k : Int) = (j : Int) := by omega
      have hj8 : j < 8 := by omega
      obtain ⟨d, hd⟩ : ∃ d, d = (fillTo f k).getD j 0 := ⟨_, rfl⟩
      rw [← hd] at hcell
      have HS := Lib.hid hsucc; have HN := Lib.hid hnext
      clear hsucc hnext hr hd hj
      go_wp2
      go_roundw
      case rel =>
        refine ⟨k + 1, by omega, by go_num, by rw [HN.out, Int.natCast_ediv]; rfl, ?_, HFr.out.setCell _ _, HB.out.setCell (Nat.le_refl _) _⟩
        rw [HS.out, ← emod_256 r]
        exact At.set0 HA.out j _ (by rw [fillTo_length f k hk]; exact hj8)
      case measure => simp [intOf]; omega
    · obtain rfl : k = 8 := by omega
      clear hk hk8
      go_wp2
      go_ret
      refine ⟨g, 0, 8, rfl, Nat.le_refl _, by rw [HG.out]; exact Nat.le_refl _, HA.out, HFr.out, ?_⟩
      rw [← HG.out]; exact HB.out
end Go.Proofs.Ytdmoiagliflecaa
