/- A Writer's calls. -/
import Derived.Test.YtdmoiagliflecaaO2
import Derived.Test.YtdmoiagliflecaaOBits
namespace Go.Proofs.Ytdmoiagliflecaa
open Go.RowKit

set_option maxHeartbeats 1000000 in
theorem add_at (n0 b b2 off2 l2 c2 : Nat) (v : Value) (bs ys : List Nat) (w : World) (hw : WrV n0 w b v bs) (hn : n0 ≤ w.heap.size) (hl : ys.length = l2) (hy : At w .u8 b2 off2 ys) (hlt : ∀ x ∈ ys, x < 256)
    (hpos : 0 < bs.length + l2) (hmax : bs.length + l2 ≤ 4611686018427) :
    Calls Try.prog 23 #[.pointer (some ⟨b, 0, none⟩), .slice (some ⟨b2, off2, none⟩) l2 c2] w (RetWr n0 w b v (bs ++ ys)) := by
  have hcell := hw.box.cell
  have hfr := hw.box.frozen
  have HW := Lib.hid hw; have HL := Lib.hid hl; have HY := Lib.hid hy; have HT := Lib.hid hlt
  obtain ⟨n, hnl⟩ : ∃ n, n = bs.length := ⟨_, rfl⟩
  rw [← hnl] at hpos hmax
  have HN := Lib.hid hnl
  clear hw hl hy hlt hnl
  go_enter Try.func23, Try.ntmps23
  go_wp2_with (at_builtin; go_loud (refine wpList_append_wr _ rfl (.tmp 8) (.tmp 9) rfl n0 v n bs ys rfl ?c1 ?own b2 off2 l2 c2 rfl HL.out HY.out (by omega) (by omega) hn ?_))
  case c1 => exact HN.out.symm
  case own => rw [HN.out]; exact HW.out.row
  intro g cap w2 hown hg hold
  obtain ⟨h1, h2⟩ := wr_stored (ys := bs ++ ys) HW.out (by rw [List.length_append, HL.out, ← HN.out]; exact hown) hg (fun k hk hlt => by cases hk; exact hold hlt) (fun x hx => (List.mem_append.1 hx).elim (HW.out.lt x) (HT.out x))
  have hb2 : Boxed w2 b 54 v := HW.out.box.kept hg (HW.out.box.not_row (by decide) HW.out.row)
  have hc2 := hb2.cell
  have hf2 := hb2.frozen
  have H1 := Lib.hid h1; have H2 := Lib.hid h2
  clear h1 h2 hown hg hold hb2
  go_wp2
  go_end0
  refine ⟨g, cap, rfl, ?_, ?_⟩
  · rw [List.length_append, HL.out, ← HN.out]; exact H1.out
  · rw [List.length_append, HL.out, ← HN.out]; exact H2.out

set_option maxHeartbeats 1000000 in
theorem count_any (n0 b n : Nat) (v : Value) (bs : List Nat) (w : World) (hw : WrV n0 w b v bs) (hn : n0 ≤ w.heap.size) (hmax : bs.length ≤ 4611686018) (hn2 : n ≤ 4611686018427387904) :
    Calls Try.prog 24 #[.pointer (some ⟨b, 0, none⟩), .int .i64 (n : Int)] w (RetWr n0 w b v (bs ++ varint n)) := by
  have HW := Lib.hid hw
  have hmaxn : max (n : Int) 0 = (n : Int) := by omega
  clear hw
  go_enter Try.func24, Try.ntmps24
  go_wp2
  go_loopw [1] (fun i wr => ∃ (m : Nat) (v' : Value) (xs : List Nat), m ≤ n ∧ i = .int .i64 m ∧ w.heap.size ≤ wr.heap.size ∧ Hid (xs ++ varint m = bs ++ varint n) ∧ Hid (WrV n0 wr b v' xs) ∧ Hid (WStep w wr b v v')) (fun i _ => (intOf i).toNat)
  case atStart => exact ⟨n, v, bs, Nat.le_refl _, rfl, Nat.le_refl _, rfl, HW.out, WStep.refl _ _ _⟩
  case round =>
    obtain ⟨m, v', xs, hm, rfl, hsz, HV, HR, HS⟩ := hrel
    have hnr : n0 ≤ wr.heap.size := by omega
    have hxl : xs.length ≤ 4611686018 + 9 := by
      have h1 := congrArg List.length HV.out
      have h2 := varint_length n 9 (by omega) (by omega)
      simp only [List.length_append] at h1
      omega
    by_cases h : 127 < m
    · obtain ⟨d, hd⟩ : ∃ d, d = m % 128 := ⟨_, rfl⟩
      have hd2 : d < 128 := by omega
      obtain ⟨y, hy⟩ : ∃ y, y = d + 128 := ⟨_, rfl⟩
      have hy2 : y < 256 := by omega
      have e1 : bits .and .i64 (m : Int) 127 = (d : Int) := by rw [i64_mask, hd]
      have e2 : bits .or .i64 (d : Int) 128 = (y : Int) := by rw [i64_more hd2, hy]
      have e3 : (y : Int) % 256 = (y : Int) := by omega
      have hvar : varint m = y :: varint (m / 128) := by rw [varint_big (by omega), hy, hd]
      have HV2 : Hid ((xs ++ [y]) ++ varint (m / 128) = bs ++ varint n) := by rw [List.append_assoc, List.singleton_append, ← hvar]; exact HV
      clear hvar HV hy hd hd2
      have A1 := Lib.hid (At.new1 wr .u8 y 5)
      go_wp2_with fail
      refine (add_at n0 b wr.heap.size 0 1 1 v' xs [y] _ (HR.out.alloc _) (by simp; omega) rfl A1.out (fun x hx => by simp at hx; omega) (by omega) (by omega)).mono ?_
      rintro e w2 ⟨g, cap, rfl, hw2, hs2⟩
      have hs3 := (WStep.alloc (b := b) (v := v') (w := wr) (.cells #[.int .u8 (y : Int)] 5)).trans hs2
      have hs4 := HS.out.trans hs3
      have HW2 := Lib.hid hw2
      have HS4 := Lib.hid hs4
      have hsz2 : w.heap.size ≤ w2.heap.size := hs4.size
      clear hw2 hs2 hs3 hs4 e1 e2 e3 A1
      go_wp2
      go_roundw
      case rel => exact ⟨m / 128, _, xs ++ [y], by omega, by rw [Int.natCast_ediv]; rfl, hsz2, HV2, HW2, HS4⟩
      case measure => simp [intOf]; omega
    · have e3 : (m : Int) % 256 = (m : Int) := by omega
      have hvar : varint m = [m] := varint_small (by omega)
      have HV2 : Hid (xs ++ [m] = bs ++ varint n) := by rw [← hvar]; exact HV
      clear hvar HV
      have A1 := Lib.hid (At.new1 wr .u8 m 5)
      go_wp2_with fail
      refine (add_at n0 b wr.heap.size 0 1 1 v' xs [m] _ (HR.out.alloc _) (by simp; omega) rfl A1.out (fun x hx => by simp at hx; omega) (by omega) (by omega)).mono ?_
      rintro e w2 ⟨g, cap, rfl, hw2, hs2⟩
      have hs3 := (WStep.alloc (b := b) (v := v') (w := wr) (.cells #[.int .u8 (m : Int)] 5)).trans hs2
      have hs4 := HS.out.trans hs3
      have HW2 := Lib.hid hw2
      have HS4 := Lib.hid hs4
      clear hw2 hs2 hs3 hs4 e3 A1
      go_wp2
      go_end0
      rw [← HV2.out]
      exact ⟨g, cap, rfl, HW2.out, HS4.out⟩
end Go.Proofs.Ytdmoiagliflecaa
