/- The first bytes of an argument; the program's number of a document's. -/
import Derived.Test.YtadhmpkndnhebaaDoorFill
import Derived.Test.YtadhmpkndnhebaaDoorSum
import Derived.OwnWalk
import Derived.Laws.AppendOwnNone
namespace Go.Proofs.YtadhmpkndnhebaaDoor
open Go.RowKit

/-- The parts of a slice say the bytes bs. -/
def IsB (w : World) (p : Option Addr) (l c : Nat) (bs : List Nat) : Prop :=
  bs.length = l ∧ (∀ x ∈ bs, x < 256) ∧ ((p = none ∧ l = 0 ∧ c = 0) ∨ ∃ b off sp, p = some ⟨b, off, sp⟩ ∧ l ≤ c ∧ ∀ i, i < bs.length → w.cell? ((⟨b, off, sp⟩ : Addr).add i) = some (.int .u8 ((bs.getD i 0 : Nat) : Int)))

theorem IsB.mono {w w' : World} {p : Option Addr} {l c : Nat} {bs : List Nat} (h : IsB w p l c bs) (hb : Below w.heap.size w w') : IsB w' p l c bs := by
  obtain ⟨h1, h2, h3 | ⟨b, off, sp, h3, h4, h5⟩⟩ := h
  · exact ⟨h1, h2, Or.inl h3⟩
  · exact ⟨h1, h2, Or.inr ⟨b, off, sp, h3, h4, fun i hi => by have h6 := h5 i hi; rw [hb.cell (World.block_lt_of_cell? _ _ h6)]; exact h6⟩⟩

theorem ret_own {W w2 : World} {k : IntKind} {t : TypeId} {v : Value} {bs : List Nat} (h : w2.ownsRow W.heap.size t 1 v bs.length (cellsOfRow k bs)) (hn : v ≠ .slice none 0 0) (hb : Below W.heap.size W w2) :
    RetW W k bs (.returned v) w2 := by
  rcases h.2 with ⟨h1, _⟩ | ⟨g, cap, cur, rfl, hg, _, hcap, _, _, _⟩
  · exact absurd h1 hn
  · refine ⟨g, 0, cap, rfl, hcap, hg, fun i hi => ?_, fun i _ => ?_, hb⟩
    · rw [Nat.zero_add, World.ownsRow.cellAt h i (by omega)]
      simp [cellsOfRow, List.getD, hi]
    · rw [Nat.zero_add]; exact World.ownsRow.frozenAt h i

set_option maxHeartbeats 1000000 in
theorem few_some (b off c l n : Nat) (sp : Option Nat) (bs : List Nat) (w : World) (hl : bs.length = l) (hlc : l ≤ c) (hl2 : n ≤ 1000000) (h : ∀ i, i < bs.length → w.cell? ((⟨b, off, sp⟩ : Addr).add i) = some (.int .u8 ((bs.getD i 0 : Nat) : Int))) :
    Calls Tryd.prog 39 #[.slice (some ⟨b, off, sp⟩) l c, .int .i64 (n : Int)] w (RetW w .u8 (bs.take n)) := by
  obtain ⟨i0, hi, hz0, hz1, hz2⟩ := info_parts Tryd.infoU8
  obtain ⟨m, hmm⟩ : ∃ m, m = min l n := ⟨_, rfl⟩
  have hm : (bs.take n).length = m := by rw [List.length_take]; omega
  have hmin : min (l : Int) (n : Int) = (m : Int) := by omega
  have hnews : ∀ j u, (cellsOfRow .u8 (bs.take n))[j]? = some u → (w.alloc (.cells #[] 5)).cell? ((⟨b, off, sp⟩ : Addr).add j) = some u := by
    intro j u hj
    have hjl : j < (bs.take n).length := by
      rcases Nat.lt_or_ge j (bs.take n).length with h | h
      · exact h
      · rw [List.getElem?_eq_none (by simpa [cellsOfRow] using h)] at hj; cases hj
    have hjb : j < bs.length := by rw [List.length_take] at hjl; omega
    have h1 := h j hjb
    have h2 : (w.alloc (.cells #[] 5)).cell? ((⟨b, off, sp⟩ : Addr).add j) = w.cell? ((⟨b, off, sp⟩ : Addr).add j) := (below_alloc (Below.refl w.heap.size w) (.cells #[] 5)).cell (World.block_lt_of_cell? _ _ h1)
    have h3 : bs.getD j 0 = (bs.take n).getD j 0 := by
      rw [List.length_take] at hjl
      simp [List.getD, show j < n by omega]
    rw [h2, h1, h3, ← hj]
    generalize bs.take n = bt at *
    simp [cellsOfRow, List.getD, hjl]
  have hm2 : m ≤ c := by omega
  have hm3 : m ≤ 1000000 := by omega
  have HM := Lib.hid hm
  have HN := Lib.hid hnews
  clear hnews hm h hmm
  go_enter Tryd.func39, Tryd.ntmps39
  go_wp2_with (at_builtin; go_loud (refine wpList_append_own _ rfl (.tmp 5) (.tmp 11) 22 rfl w.heap.size 5 i0 (.int .u8 0) 1 1 Tryd.underlying22 hi hz0 hz1 hz2 rfl (by decide) (.slice (some ⟨w.heap.size, 0, none⟩) 0 0) 0 [] rfl ?own ⟨b, off, sp⟩ m c (cellsOfRow .u8 (bs.take n)) rfl ?c1 HN.out ?c3 ?c4 ?c5 ?c6 ?_))
  case own => exact World.ownsRow_made w #[] 0 (Nat.le_refl _) (by simp [maxLen]) (by simp)
  case c1 => rw [cellsOfRow, List.length_map, HM.out, Nat.mul_one]
  case c3 =>
    intro u hu
    simp only [cellsOfRow, List.mem_map] at hu
    obtain ⟨x, _, rfl⟩ := hu
    rfl
  case c4 => unfold maxLen; omega
  case c5 => omega
  case c6 => simp
  intro v' w2 hown hg hnil
  have hb : Below w.heap.size w w2 := (below_alloc (Below.refl w.heap.size w) (.cells #[] 5)).grown hg (by simp) (fun k hk => by simp [Value.ownBlock] at hk; omega)
  have HO := Lib.hid hown; have HNN := Lib.hid hnil; have HB := Lib.hid hb
  clear hown hg hnil hb
  go_wp2
  go_ret
  have ho := HO.out
  rw [← HM.out] at ho
  exact ret_own ho HNN.out HB.out

set_option maxHeartbeats 1000000 in
theorem few_none (n : Nat) (w : World) (hl2 : n ≤ 1000000) :
    Calls Tryd.prog 39 #[.slice none 0 0, .int .i64 (n : Int)] w (RetW w .u8 []) := by
  obtain ⟨i0, hi, hz0, hz1, hz2⟩ := info_parts Tryd.infoU8
  go_enter Tryd.func39, Tryd.ntmps39
  go_wp2_with (at_builtin; go_loud (refine wpList_append_own_none rfl (.tmp 5) (.tmp 11) 22 rfl w.heap.size 5 i0 1 Tryd.underlying22 hi (.slice (some ⟨w.heap.size, 0, none⟩) 0 0) 0 [] rfl ?own rfl ?_))
  case own => exact World.ownsRow_made w #[] 0 (Nat.le_refl _) (by simp [maxLen]) (by simp)
  go_wp2
  go_ret
  exact ⟨w.heap.size, 0, 0, rfl, Nat.le_refl _, Nat.le_refl _, At.nil _ _ _ _, fun i hi => by simp at hi, below_alloc (Below.refl _ _) _⟩

theorem few_any (p : Option Addr) (l c n : Nat) (bs : List Nat) (w : World) (hl2 : n ≤ 1000000) (h : IsB w p l c bs) :
    Calls Tryd.prog 39 #[.slice p l c, .int .i64 (n : Int)] w (RetW w .u8 (bs.take n)) := by
  obtain ⟨h1, h2, ⟨rfl, rfl, rfl⟩ | ⟨b, off, sp, rfl, h4, h5⟩⟩ := h
  · have : bs = [] := List.eq_nil_of_length_eq_zero h1
    subst this
    rw [List.take_nil]
    exact few_none n w hl2
  · exact few_some b off c l n sp bs w h1 h4 hl2 h5

theorem bitLen_dr (n : Nat) : bitLen n ≤ 32 * (dr n).length := by
  apply bitLen_lt_pow.1
  rw [Nat.pow_mul]
  exact lt_pow_digs (by omega) n
theorem nb_be (n : Nat) : nb (be n) = n := by unfold nb be; rw [List.reverse_reverse]; exact val_digs (by omega) n
theorem be_lt (n : Nat) : ∀ x ∈ be n, x < 256 := fun x hx => digs_lt (by omega) n x (List.mem_reverse.1 hx)

set_option maxHeartbeats 1000000 in
/-- The program's number of a document's. -/
theorem hNat_any (n : Nat) (p : Option Addr) (l c : Nat) (w : World) (h : IsR w p l c n) (hl : (dr n).length ≤ 200000) :
    Calls Tryd.prog 43 #[.slice p l c] w (RetN w n) := by
  have H := Lib.hid h
  have hbl : (be n).length ≤ 1000000 := by have := bitLen_dr n; rw [be_length]; omega
  have hll : l ≤ 1000000 := by have := h.1; omega
  clear h
  go_enter Tryd.func43, Tryd.ntmps43
  go_wp2_with fail
  refine (rbytes_any n p l c _ (H.out.mono (below_alloc (Below.refl _ _) _)) hll).mono ?_
  rintro e w1 ⟨g, og, cg, rfl, x1, x2, x3, x4, hb⟩
  obtain ⟨hc, hf⟩ := bcell hb
  have X3 := Lib.hid x3
  clear x3 x4
  go_wp2_with fail
  refine (fromBytes_any g og cg _ (be n) w1 rfl hbl X3.out (be_lt n)).mono ?_
  rintro e w2 ⟨s, q, k, d, rfl, h2, hb2⟩
  rw [nb_be] at h2
  have H2 := Lib.hid h2; clear h2
  replace hb2 := below_step hb hb2
  obtain ⟨hc2, hf2⟩ := bcell hb2
  have HB : Below w.heap.size w w2 := (by repeat' first | exact Below.refl _ _ | refine below_alloc ?_ _ | refine below_step ?_ (by assumption))
  go_wp2
  have r1 : w2.cell? ⟨w.heap.size, 1, none⟩ = some (.slice none 0 0) := by simp [hc2, go_sem]
  refine bodyPost_ret (v := .agg #[.int .u64 s, .slice q k d]) (by simp [results, Tryd.results43, go_sem, hc2]) rfl ⟨s, q, k, d, rfl, H2.out.box r1, ?_⟩
  exact (HB.setCell (by simp) _).setCell (by simp) _
end Go.Proofs.YtadhmpkndnhebaaDoor
