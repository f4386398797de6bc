/- The first bytes of an argument; the program's number of a document's. -/
import Derived.Test.YtciohlbpjaighaaDoorFill
import Derived.Test.YtciohlbpjaighaaDoorSum
import Derived.OwnWalk
import Derived.Laws.AppendOwnNone
namespace Go.Proofs.YtciohlbpjaighaaDoor
open Go.RowKit

theorem bitLen_dr (n : Nat) : bitLen n ≤ 32 * (dr n).length := by
  apply bitLen_lt_pow.1
  rw [Nat.pow_mul]
  exact lt_pow_digs (by omega) n
theorem nb_be (n : Nat) : nb (be n) = n := by unfold nb be; rw [List.reverse_reverse]; exact val_digs (by omega) n
theorem be_lt (n : Nat) : ∀ x ∈ be n, x < 256 := fun x hx => digs_lt (by omega) n x (List.mem_reverse.1 hx)

set_option maxHeartbeats 1000000 in
/-- The program's number of a document's. -/
theorem hNat_any (n : Nat) (p : Option Addr) (l c : Nat) (w : World) (h : IsR w p l c n) (hl : (dr n).length ≤ 200000) :
    Calls Tryd.prog 13 #[.slice p l c] w (RetN w n) := by
  have H := Lib.hid h
  have hbl : (be n).length ≤ 1000000 := by have := bitLen_dr n; rw [be_length]; omega
  have hll : l ≤ 1000000 := by have := h.1; omega
  clear h
  go_enter Tryd.func13, Tryd.ntmps13
  go_wp2_with fail
  refine (rbytes_any n p l c _ (H.out.mono (below_alloc (Below.refl _ _) _)) hll).mono ?_
  rintro e w1 ⟨g, og, cg, rfl, x1, x2, x3, x4, hb⟩
  obtain ⟨hc, hf⟩ := bcell hb
  have X3 := Lib.hid x3
  clear x3 x4
  go_wp2_with fail
  refine (fromBytes_any g og cg _ (be n) w1 rfl hbl X3.out (be_lt n)).mono ?_
  rintro e w2 ⟨s, q, k, d, rfl, h2, hb2⟩
  rw [nb_be] at h2
  have H2 := Lib.hid h2; clear h2
  replace hb2 := below_step hb hb2
  obtain ⟨hc2, hf2⟩ := bcell hb2
  have HB : Below w.heap.size w w2 := (by repeat' first | exact Below.refl _ _ | refine below_alloc ?_ _ | refine below_step ?_ (by assumption))
  go_wp2
  have r1 : w2.cell? ⟨w.heap.size, 1, none⟩ = some (.slice none 0 0) := by simp [hc2, go_sem]
  refine bodyPost_ret (v := .agg #[.int .u64 s, .slice q k d]) (by simp [results, Tryd.results13, go_sem, hc2]) rfl ⟨s, q, k, d, rfl, H2.out.box r1, ?_⟩
  exact (HB.setCell (by simp) _).setCell (by simp) _
end Go.Proofs.YtciohlbpjaighaaDoor
