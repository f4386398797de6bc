/- OctetKnown: the law's walk. -/
import Derived.Test.YtdmoiagliflecaaO19
import Derived.Lib.SlBytesConst
namespace Go.Proofs.Ytdmoiagliflecaa
open Go.RowKit

theorem At.newRow (w : World) (k : IntKind) (xs : List Nat) (t : TypeId) (fr : Nat × Nat) : At (w.alloc (.cells (cellsOfRow k xs).toArray t fr)) k w.heap.size 0 xs := by
  intro i hi
  rw [World.cell?_alloc_mark]
  simp [cellsOfRow, List.getD, hi]

/-- Next, where it is known what it returns. -/
theorem next_is (p : Option Addr) (l c : Nat) (t : List Nat) (w : World) (hm : l ≤ 140737488351232) (h : IsB w p l c t) {k e n : Nat} {B : List Nat} (ki ei ni : Int) (hs : nextSpec t = (k, B, e, n))
    (hk : (k : Int) = ki) (he : (e : Int) = ei) (hn : (n : Int) = ni) :
    Calls Try.prog 7 #[.slice p l c] w fun x w' => ∃ q m d, x = .returned (.tuple #[.int .i64 ki, .slice q m d, .int .i64 ei, .int .i64 ni]) ∧ IsS w' q m d B ∧ Below w.heap.size w w' := by
  refine (next_any p l c t w hm h).mono ?_
  rw [hs]
  rintro x w' ⟨q, m, d, rfl, h1, h2⟩
  subst hk he hn
  exact ⟨q, m, d, rfl, h1, h2⟩
/-- Next of a row that is written out. -/
theorem next_row (n : Nat) (t : List Nat) (w : World) (hl : t.length = n) (hn0 : n ≤ 1000) (hx : ∀ x ∈ t, x < 256) {k e m : Nat} {B : List Nat} (ki ei ni : Int) (hs : nextSpec t = (k, B, e, m))
    (hk : (k : Int) = ki) (he : (e : Int) = ei) (hn : (m : Int) = ni) :
    Calls Try.prog 7 #[.slice (some ⟨w.heap.size, 0, none⟩) n n] (w.alloc (.cells (cellsOfRow .u8 t).toArray 5)) fun x w' => ∃ q m d, x = .returned (.tuple #[.int .i64 ki, .slice q m d, .int .i64 ei, .int .i64 ni]) ∧ Below w.heap.size w w' := by
  refine (next_is _ n n t _ (by omega) (IsB.of_at (At.newRow w .u8 t 5 (0, 0)) hl (by omega) hx) ki ei ni hs hk he hn).mono ?_
  rintro x w' ⟨q, m, d, rfl, _, h2⟩
  exact ⟨q, m, d, rfl, below_step (below_alloc (Below.refl _ _) _) h2⟩
theorem bstr_abc : bstr [97, 98, 99] = ⟨#[97, 98, 99]⟩ := rfl
theorem fnv_nil : fnv [] = 14695981039346656037 := rfl

set_option maxRecDepth 100000 in
set_option maxHeartbeats 4000000 in
theorem knownLaw (w : World) : Calls Try.prog 3 #[] w fun e w' => e = .returned (.bool true) ∧ Below w.heap.size w w' := by
  obtain ⟨S, hS⟩ : ∃ S, S = sealed 7 [97, 98, 99] := ⟨_, rfl⟩
  have hv3 : (varint 3).length = 1 := by rw [varint_small (by omega)]; rfl
  have hl13 : S.length = 13 := by rw [hS, sealed_length]; show 1 + (varint 3).length + 3 + 8 = 13; rw [hv3]
  have hx : ∀ x ∈ S, x < 256 := by rw [hS]; exact sealed_lt _ _ (by omega) (by decide)
  have hn1 : nextSpec (S ++ [9]) = (7, [97, 98, 99], 13, 0) := by rw [hS, nextSpec_sealed 7 _ _ (by omega) (by decide), ← hS, hl13]
  have hn2 : nextSpec (S.take 12) = (0, [], 0, 3) := by rw [hS]; exact nextSpec_cut 7 _ 12 (by omega) (by decide) (by show 1 + (varint 3).length ≤ 12; rw [hv3]; omega) (by rw [← hS, hl13]; omega)
  have HS := Lib.hid hS; have HL := Lib.hid hl13; have HX := Lib.hid hx; have HN1 := Lib.hid hn1; have HN2 := Lib.hid hn2
  clear hS hl13 hx hn1 hn2 hv3
  have A0 := Lib.hid (show At (w.alloc (.cells #[.int .u8 97, .int .u8 98, .int .u8 99] 5 (3, 4))) .u8 w.heap.size 0 [97, 98, 99] from At.newRow w .u8 [97, 98, 99] 5 _)
  have kc : (convert 22 22 (.slice (some ⟨w.heap.size, 0, none⟩) 3 3)).run Try.prog (w.alloc (.cells #[.int .u8 97, .int .u8 98, .int .u8 99] 5)) = .ok (.slice (some ⟨w.heap.size, 0, none⟩) 3 3) (w.alloc (.cells #[.int .u8 97, .int .u8 98, .int .u8 99] 5 (3, 4))) :=
    Lib.run_convert_bytes_const (P := Try.prog) w 22 5 _ 3 3 Try.underlying22 Try.underlying5
  obtain ⟨i0, hi, hz0, hz1, hz2⟩ := info_parts Try.infoU8
  go_enter Try.func3, Try.ntmps3
  go_wp2_with fail
  refine (seal_any 7 w.heap.size 0 3 3 [97, 98, 99] _ (by omega) (by omega) rfl (by omega) (by decide) A0.out).mono ?_
  rw [← HS.out]
  rintro e w1 ⟨g1, rfl, h1, h2, h3, hb⟩
  rw [HL.out]
  have A1 := Lib.hid h2
  have HB1 := Lib.hid ((below_alloc (Below.refl w.heap.size w) _).trans (hb.mono (by simp)))
  have HC1 := Lib.hid (cells_at h2)
  clear h1 h2 h3 hb A0 kc
  go_wp2_with (at_builtin; refine wpList_append_grows _ rfl (.tmp 41) (.tmp 42) 22 rfl 5 i0 (.int .u8 0) 1 1 Try.underlying22 hi hz0 hz1 hz2 rfl (by decide) (some ⟨g1, 0, none⟩) 13 13 (cellsOfRow .u8 S) rfl (fun e => by cases e) (by rw [cells_len, HL.out]) ?c0 ⟨w1.heap.size, 0, none⟩ 1 1 [.int .u8 9] rfl rfl ?c1 ?c2 (by omega) (by unfold maxLen; omega) (by omega) ?grow)
  case c0 => intro b hb; cases hb; intro j u hj; exact (ocell (below_alloc (Below.refl _ _) _) (HC1.out j u hj))
  case c1 => intro j u hj; match j, hj with | 0, hj => simp at hj; subst hj; simp [Addr.add]
  case c2 => intro u hu; simp at hu; subst hu; rfl
  case grow =>
    intro v2 w2 hown hgrow
    have hcat : cellsOfRow .u8 S ++ [Value.int .u8 9] = cellsOfRow .u8 (S ++ [9]) := by rw [cells_app]; rfl
    rw [hcat] at hown
    obtain ⟨g2, c2, rfl⟩ := ownsRow_pos hown (by omega)
    obtain ⟨hg2, hc2, a2, _⟩ := ownsRow_at hown (by rw [List.length_append, HL.out]; rfl)
    have hb12 : Below w1.heap.size w1 w2 := ((Below.refl _ _).alloc (Nat.le_refl _) _).grown hgrow (by simp) (fun k h => by cases h)
    have A2 := Lib.hid a2
    have A1b := Lib.hid (A1.out.mono hb12)
    have HB2 := Lib.hid (below_step HB1.out hb12)
    have HC2 := Lib.hid hc2
    have HX9 := Lib.hid (show ∀ x ∈ S ++ [9], x < 256 from fun x hx => (List.mem_append.1 hx).elim (HX.out x) (fun h => by simp at h; omega))
    have HL9 := Lib.hid (show (S ++ [9]).length = 14 by rw [List.length_append, HL.out]; rfl)
    clear a2 hb12 hown hgrow hcat hg2 hc2 HC1 A1
    go_wp2_with fail
    refine (next_is (some ⟨g2, 0, none⟩) 14 c2 (S ++ [9]) w2 (by omega) (IsB.of_at A2.out HL9.out HC2.out HX9.out) 7 13 0 HN1.out rfl rfl rfl).mono ?_
    rintro e w3 ⟨q1, m1, d1, rfl, hs, hb⟩
    have S3 := Lib.hid hs
    have A3 := Lib.hid (A1b.out.mono hb)
    have HB3 := Lib.hid (below_step HB2.out hb)
    clear hs hb A2 A1b HC2
    go_wp2_with fail
    refine (seal_arg 0 none 0 0 w3 (by decide)).mono ?_
    rintro e w4 ⟨rfl, rfl⟩
    go_wp2_with fail
    refine (next_is none 0 0 [] w3 (by omega) ⟨rfl, by simp, Or.inl ⟨rfl, rfl, rfl⟩⟩ 0 0 3 next_k0 rfl rfl rfl).mono ?_
    rintro e w4 ⟨q2, m2, d2, rfl, hs, hb⟩
    have S4 := Lib.hid (S3.out.mono hb)
    have A4 := Lib.hid (A3.out.mono hb)
    have HB4 := Lib.hid (below_step HB3.out hb)
    clear hs hb A3 S3
    go_wp2_with fail
    refine (next_row 1 [0] w4 rfl (by omega) (by decide) 0 0 2 next_k1 rfl rfl rfl).mono ?_
    rintro e w5 ⟨q3, m3, d3, rfl, hb⟩
    have S5 := Lib.hid (S4.out.mono hb)
    have A5 := Lib.hid (A4.out.mono hb)
    have HB5 := Lib.hid (below_step HB4.out hb)
    clear hb A4 S4
    go_wp2_with fail
    refine (next_row 3 [1, 128, 0] w5 rfl (by omega) (by decide) 0 0 2 next_k2 rfl rfl rfl).mono ?_
    rintro e w6 ⟨q4, m4, d4, rfl, hb⟩
    have S6 := Lib.hid (S5.out.mono hb)
    have A6 := Lib.hid (A5.out.mono hb)
    have HB6 := Lib.hid (below_step HB5.out hb)
    clear hb A5 S5
    go_wp2_with fail
    refine (next_row 5 [1, 255, 255, 255, 127] w6 rfl (by omega) (by decide) 0 0 4 next_k3 rfl rfl rfl).mono ?_
    rintro e w7 ⟨q5, m5, d5, rfl, hb⟩
    have S7 := Lib.hid (S6.out.mono hb)
    have A7 := Lib.hid (A6.out.mono hb)
    have HB7 := Lib.hid (below_step HB6.out hb)
    clear hb A6 S6
    go_wp2_with fail
    have hl12 : (S.take 12).length = 12 := by rw [List.length_take, HL.out]; rfl
    have ha12 := A7.out.take 12
    refine (next_is (some ⟨g1, 0, none⟩) 12 13 (S.take 12) w7 (by omega) (IsB.of_at ha12 hl12 (by omega) (fun x hx => HX.out x (List.mem_of_mem_take hx))) 0 0 3 HN2.out rfl rfl rfl).mono ?_
    rintro e w8 ⟨q6, m6, d6, rfl, _, hb⟩
    have S8 := Lib.hid (S7.out.mono hb)
    have HB8 := Lib.hid (below_step HB7.out hb)
    clear hb A7 S7 ha12 hl12
    go_wp2_with fail
    refine (oNewReader w8.heap.size 0 2 _ (At.newRow w8 .u8 [1, 5] 5 (0, 0))).mono ?_
    rintro e w9 ⟨rb, rg, rfl, hr, ha, hgr, hrb, hb⟩
    have hb' := below_step (below_alloc (Below.refl w8.heap.size w8) (.cells (cellsOfRow .u8 [1, 5]).toArray 5)) hb
    have D9 := Lib.hid hb'
    have R9 := Lib.hid hr
    have A9 := Lib.hid ha
    have HRB := Lib.hid (Nat.le_trans (by simp) hrb : w8.heap.size ≤ rb)
    clear hb hb' hr ha hrb
    go_wp2_with fail
    refine (oWholeBad rb rg w9 R9.out A9.out hgr).mono ?_
    rintro e w10 ⟨rfl, hr, ho⟩
    have D10 := Lib.hid (D9.out.trans (ho.below HRB.out D9.out.size))
    have R10 := Lib.hid hr
    clear hr ho
    go_wp2_with fail
    obtain ⟨w11, hw11⟩ : ∃ w11, w11 = w10.alloc (.cells #[.bool false, .int .u64 0, .slice none 0 0] 35) := ⟨_, rfl⟩
    have r0 : w11.cell? ⟨w10.heap.size, 0, none⟩ = some (.bool false) := by rw [hw11]; simp [go_sem]
    have r1 : w11.cell? ⟨w10.heap.size, 1, none⟩ = some (.int .u64 0) := by rw [hw11]; simp [go_sem]
    have r2 : w11.cell? ⟨w10.heap.size, 2, none⟩ = some (.slice none 0 0) := by rw [hw11]; simp [go_sem]
    have hb : Below w10.heap.size w10 w11 := by rw [hw11]; exact below_alloc (Below.refl _ _) _
    have R11 := Lib.hid (R10.out.below hb)
    have D11 := Lib.hid (D10.out.trans (hb.mono D10.out.size))
    rw [← hw11]
    clear hw11 hb
    refine (known4_any w11).mono ?_
    rintro e w12 ⟨rfl, hb⟩
    have r0 := ocell hb r0; have r1 := ocell hb r1; have r2 := ocell hb r2
    have R12 := Lib.hid (R11.out.below hb)
    have D12 := Lib.hid (D11.out.trans (hb.mono D11.out.size))
    have hs1 := run_str (S8.out.mono D12.out)
    rw [bstr_abc] at hs1
    clear hb
    go_wp2_with fail
    refine (sum_any none 0 0 [] w12 (by omega) ⟨rfl, by simp, Or.inl ⟨rfl, rfl, rfl⟩⟩).mono ?_
    rw [fnv_nil]
    rintro e w13 ⟨rfl, rfl⟩
    clear hs1
    go_wp2_with fail
    refine (oSign0 w12).mono ?_
    rintro e w13 ⟨rfl, hb⟩
    have R13 := Lib.hid (R12.out.below hb)
    have D13 := Lib.hid (D12.out.trans (hb.mono D12.out.size))
    clear r0 r1 r2
    clear hb
    go_wp2_with fail
    refine (oBad rb w13 R13.out).mono ?_
    rintro e w14 ⟨rfl, rfl⟩
    go_wp2_with fail
    refine (oLeft rb w13 R13.out).mono ?_
    rintro e w14 ⟨rfl, rfl⟩
    go_wp2_with fail
    refine (oBool rb w13 R13.out).mono ?_
    rintro e w14 ⟨rfl, hr, ho⟩
    have R14 := Lib.hid hr
    have D14 := Lib.hid (D13.out.trans (ho.below HRB.out D13.out.size))
    clear hr ho
    go_wp2_with fail
    refine (oText rb w14 R14.out).mono ?_
    rintro e w15 ⟨rfl, ho⟩
    have D15 := Lib.hid (D14.out.trans (ho.below HRB.out D14.out.size))
    clear ho
    go_wp2
    go_ret
    exact ⟨rfl, below_step HB8.out D15.out⟩
end Go.Proofs.Ytdmoiagliflecaa
