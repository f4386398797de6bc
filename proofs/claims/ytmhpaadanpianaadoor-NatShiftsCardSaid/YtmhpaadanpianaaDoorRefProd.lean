/- The document's products. -/
import Derived.Test.YtmhpaadanpianaaDoorRefDiff
import Derived.Test.YtmhpaadanpianaaDoorMulWords
namespace Go.Proofs.YtmhpaadanpianaaDoor
open Go.RowKit

/-- A product's row while a digit is multiplied in: before it, the window, behind it. -/
def midRow (L zs : List Nat) (i l : Nat) : List Nat := L.take i ++ zs ++ L.drop (i + l)
theorem midRow_start (L : List Nat) (i l : Nat) (_h : i + l ≤ L.length) : midRow L ((L.drop i).take l) i l = L := by
  unfold midRow
  rw [← List.drop_drop, List.append_assoc, List.take_append_drop, List.take_append_drop]
theorem midRow_length {L zs : List Nat} {i l : Nat} (h : i + l ≤ L.length) (hz : zs.length = l) : (midRow L zs i l).length = L.length := by
  unfold midRow
  simp only [List.length_append, List.length_take, List.length_drop]; omega
theorem midRow_getD {L zs : List Nat} {i l k : Nat} (h : i + l ≤ L.length) (hz : zs.length = l) (hk : k < l) : (midRow L zs i l).getD (i + k) 0 = zs.getD k 0 := by
  unfold midRow
  have h1 : (L.take i).length = i := by rw [List.length_take]; omega
  simp only [List.getD]
  rw [List.append_assoc, List.getElem?_append_right (by rw [h1]; omega), h1, Nat.add_sub_cancel_left, List.getElem?_append_left (by omega)]
theorem midRow_set {L zs : List Nat} {i l k v : Nat} (h : i + l ≤ L.length) (hz : zs.length = l) (hk : k < l) : (midRow L zs i l).set (i + k) v = midRow L (zs.set k v) i l := by
  unfold midRow
  have h1 : (L.take i).length = i := by rw [List.length_take]; omega
  rw [List.append_assoc, List.set_append_right _ _ (by rw [h1]; omega), h1, Nat.add_sub_cancel_left, List.set_append_left _ _ (by omega), List.append_assoc]

theorem mul_lt_bound {x y z c : Nat} (hx : x < 2 ^ 32) (hy : y < 2 ^ 32) (hz : z < 2 ^ 32) (hc : c < 2 ^ 32) : c + z + x * y < 2 ^ 64 := by
  have : x * y ≤ (2 ^ 32 - 1) * (2 ^ 32 - 1) := Nat.mul_le_mul (by omega) (by omega)
  omega

set_option maxHeartbeats 1000000 in
/-- The document's product of two numbers. -/
theorem rMul_any (p q : Option Addr) (l c k d m n : Nat) (w : World) (hl : l ≤ 100000) (hk : k ≤ 100000) (h1 : IsR w p l c m) (h2 : IsR w q k d n) :
    Calls Tryd.prog 30 #[.slice p l c, .slice q k d] w (RetR w (m * n)) := by
  have H1 := Lib.hid h1; have H2 := Lib.hid h2
  have e1 := Lib.hid h1.1; have e2 := Lib.hid h2.1
  obtain ⟨M, hM⟩ : ∃ M, M = l + k := ⟨_, rfl⟩
  have hmk := make_rn M (by omega)
  have hq : (l : Int) + k = (M : Int) := by omega
  have HM := Lib.hid hM
  clear h1 h2 hM
  go_enter Tryd.func30, Tryd.ntmps30
  go_wp2_with fail
  have A3 := At.made w .u32 M 100
  have F3 := Fr.made w .u32 M M 100
  have B3 : Below w.heap.size w (w.alloc (.cells (madeCells #[.int .u32 0] M) 100)) := below_alloc (Below.refl _ _) _
  have hz3 : (w.alloc (.cells (madeCells #[.int .u32 0] M) 100)).heap.size = w.heap.size + 1 := by simp
  obtain ⟨w3, hw3⟩ : ∃ w3, w3 = w.alloc (.cells (madeCells #[.int .u32 0] M) 100) := ⟨_, rfl⟩
  obtain ⟨g, hg⟩ : ∃ g, g = w.heap.size := ⟨_, rfl⟩
  rw [← hw3] at A3 F3 B3 hz3 ⊢
  rw [← hg] at A3 F3 hz3 ⊢
  have HG := Lib.hid hg; have HZ3 := Lib.hid hz3
  have HA3 := Lib.hid A3; have HF3 := Lib.hid F3
  have HB3 := Lib.hid B3
  clear A3 F3 B3 hw3 hg hmk hz3 hq
  go_loopw [6] (fun i wr => ∃ j : Nat, j ≤ l ∧ i = .int .i64 j ∧ ∃ L : List Nat, At wr .u32 g 0 L ∧ Hid (ProdInv (2 ^ 32) (dr n) (dr m) L j) ∧ Only w3 wr g 0 M) (fun i _ => l - (intOf i).toNat)
  case atStart => exact ⟨0, Nat.zero_le _, rfl, List.replicate M 0, HA3.out, Lib.hid (by have := ProdInv.start (b := 2 ^ 32) (by omega) (dr n) (dr m); rwa [← e1.out, ← e2.out, show k + l = M from by have := HM.out; omega] at this), Only.refl _ _ _ _⟩
  case round =>
    obtain ⟨j, hj, rfl, L, hA, HI, hO⟩ := hrel
    by_cases hlt : j < l
    · have hLM : L.length = M := by have := HI.out.len; rw [← e1.out, ← e2.out] at this; have := HM.out; omega
      have hMM := HM.out
      have hm0 : m ≠ 0 := fun e => by have := e1.out; subst e; rw [dr_zero] at this; simp at this; omega
      obtain ⟨b, off, rfl, y1⟩ := H1.out.2.2 hm0
      have hbg : b ≠ g := by have := y1.lt (dr_pos hm0); have := HG.out; omega
      have Y1 := Lib.hid (y1.mono HB3.out)
      have hx := getD_lt (dr_lt m) (by omega) j
      have hwl : ((L.drop j).take k).length = k := by rw [List.length_take, List.length_drop]; omega
      have hwlt : ∀ x ∈ (L.drop j).take k, x < 2 ^ 32 := fun x hx => HI.out.lt x (List.mem_of_mem_drop (List.mem_of_mem_take hx))
      have HWL := Lib.hid hwl; have HLM := Lib.hid hLM; have HX := Lib.hid hx
      have HST := Lib.hid (MulInv.start (b := 2 ^ 32) (by omega) ((L.drop j).take k) (dr n) ((dr m).getD j 0) hwlt)
      have hA' : At wr .u32 g 0 (midRow L ((L.drop j).take k) j k) := by rw [midRow_start _ _ _ (by omega)]; exact hA
      have HA' := Lib.hid hA'
      have HJK := Lib.hid (show j + k ≤ L.length by omega)
      clear hwlt hA' hwl hLM hMM y1 hx hA
      go_wp2_with fail
      go_loopw [7, 8] (fun c' i wq => ∃ t cc : Nat, t ≤ k ∧ i = .int .i64 t ∧ c' = .int .u64 (cc : Int) ∧ ∃ zs, Hid (MulInv (2 ^ 32) ((L.drop j).take k) (dr n) ((dr m).getD j 0) zs t cc) ∧ At wq .u32 g 0 (midRow L zs j k) ∧ Only w3 wq g 0 M) (fun _ i _ => k - (intOf i).toNat)
      case atStart => exact ⟨0, 0, Nat.zero_le _, rfl, rfl, _, HST, HA'.out, hO⟩
      case round =>
        obtain ⟨t, cc, ht, rfl, rfl, zs, HZ, hB, hOq⟩ := hrel
        have hzl : zs.length = k := by rw [HZ.out.len, HWL.out]
        have hjk := HJK.out
        have hlm := HLM.out
        by_cases htk : t < k
        · have hn0 : n ≠ 0 := fun e => by have := e2.out; subst e; rw [dr_zero] at this; simp at this; omega
          obtain ⟨b2, off2, rfl, y2⟩ := H2.out.2.2 hn0
          have hbg2 : b2 ≠ g := by have := y2.lt (dr_pos hn0); have := HG.out; omega
          have c1 := hB.zero (j + t) (by rw [midRow_length hjk hzl]; omega)
          rw [midRow_getD hjk hzl htk] at c1
          have c2 := (HF3.out.only hOq).zero (j + t) (by omega)
          have c3 := (Y1.out.only hOq hbg) j (by rw [← e1.out]; exact hlt)
          have c4 := ((y2.mono HB3.out).only hOq hbg2) t (by rw [← e2.out]; exact htk)
          have hz := getD_lt HZ.out.lt (by omega) t
          have hy := getD_lt (dr_lt n) (by omega) t
          have hx := HX.out
          have hcc := HZ.out.carry
          have hbound := mul_lt_bound hx hy hz hcc
          have hst := Lib.hid (fun s d h1 h2 h3 => HZ.out.step (s := s) (d := d) (by rw [HWL.out]; exact htk) h1 h2 h3)
          have HBB := Lib.hid hB
          have hjkM : (j : Int) + t < M := by omega
          generalize (dr m).getD j 0 = x at *
          generalize (dr n).getD t 0 = y at *
          generalize zs.getD t 0 = z at *
          have HBO := Lib.hid hbound
          clear y2 hB hbound hlm
          go_wp2_with fail
          go_quiet (fail)
          go_wp2
          have hbo := HBO.out
          have hw : IntKind.u64.wrap ((cc : Int) + z + IntKind.u64.wrap ((x : Int) * y)) = ((cc + z + x * y : Nat) : Int) := by
            rw [show (x : Int) * y = ((x * y : Nat) : Int) from by norm_cast]
            generalize x * y = pr at *
            rw [IntKind.wrap_u64, IntKind.wrap_u64]; omega
          rw [hw]
          have hyx : y * x + z + cc = (cc + z + x * y) % 4294967296 + 2 ^ 32 * ((cc + z + x * y) / 4294967296) := by
            rw [Nat.mul_comm y x]
            generalize x * y = pr at *
            omega
          have hs1 := hst.out ((cc + z + x * y) % 4294967296) ((cc + z + x * y) / 4294967296) (Nat.mod_lt _ (by omega)) (by generalize x * y = pr at *; omega) hyx
          generalize cc + z + x * y = S at *
          have hON := (hOq.trans (Only.drewN (Only.refl wr g 0 M) nq)).setCell (j + t) (by omega) (by omega) (.int .u32 ((S % 4294967296 : Nat) : Int))
          go_roundw
          case rel =>
            refine ⟨t + 1, S / 4294967296, by omega, by go_num, by rfl, zs.set t (S % 4294967296), Lib.hid hs1, ?_, hON⟩
            have h5 := (HBB.out.drewN nq).set (j + t) (S % 4294967296) (by rw [midRow_length hjk hzl, HLM.out]; omega)
            rw [Nat.zero_add, midRow_set hjk hzl htk] at h5
            exact h5
          case measure => simp [intOf]; omega
        · obtain rfl : t = k := by omega
          have hz2 : (dr n).length = t := e2.out.symm
          have c1 := hB.zero (j + t) (by rw [midRow_length hjk hzl, hlm]; have := HM.out; omega)
          have c2 := (HF3.out.only hOq).zero (j + t) (by have := HM.out; omega)
          have hcc := HZ.out.carry
          have hMM := HM.out
          have hjt : (j : Int) + t < M := by omega
          have hpi := HI.out.step (sub := zs) (c := cc) (by rw [← e1.out]; exact hlt) (by rw [hz2]; exact hzl) HZ.out.lt hcc (by
            have h6 := MulInv.done (zs := (L.drop j).take t) (by rw [HWL.out]; exact HZ.out) (by rw [HWL.out, hz2])
            rw [HWL.out] at h6
            rw [hz2]; exact h6)
          rw [hz2] at hpi
          have HPI := Lib.hid hpi; have HBB := Lib.hid hB
          have hON := hOq.setCell (j + t) (by omega) (by omega) (.int .u32 (cc : Int))
          generalize (midRow L zs j t).getD (j + t) 0 = v0 at *
          clear hpi hB hMM hlm
          go_wp2
          go_roundw
          case rel =>
            refine ⟨j + 1, by omega, by go_num, _, ?_, Lib.hid HPI.out, hON⟩
            have h5 := HBB.out.set (j + t) cc (by rw [midRow_length hjk hzl, HLM.out]; have := HM.out; omega)
            rw [Nat.zero_add] at h5
            exact h5
          case measure => simp [intOf]; omega
    · obtain rfl : j = l := by omega
      have hI := HI.out
      rw [e1.out] at hI
      have hdone := hI.done
      rw [val_dr, val_dr, Nat.mul_comm] at hdone
      have hLM : L.length = M := by have := hI.len; rw [← e1.out, ← e2.out] at this; have := HM.out; omega
      have HT := Lib.hid (rtrim_n g 0 M M L hLM wr hA hI.lt (by have := HM.out; omega) (Nat.le_refl _))
      rw [hdone] at HT
      have HBR := Lib.hid (HB3.out.trans (hO.below (show w.heap.size ≤ g by have := HG.out; omega) (by have := HZ3.out; have := HG.out; omega)))
      clear hdone hA HI hO hI
      go_wp2_with fail
      refine HT.out.mono ?_
      rintro e w6 ⟨p6, l6, c6, rfl, h6, hb6⟩
      have H6 := Lib.hid h6; clear h6
      have HB6 := Lib.hid (below_step HBR.out hb6)
      clear hb6
      go_wp2
      go_ret
      exact ⟨_, _, _, rfl, H6.out, HB6.out⟩
end Go.Proofs.YtmhpaadanpianaaDoor
