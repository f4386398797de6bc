/- The document's reading of a record: the walk. -/
import Derived.Test.YtdmoiagliflecaaO14
namespace Go.Proofs.Ytdmoiagliflecaa
open Go.RowKit

theorem u64_hi {h x : Nat} (hx : x < 256) (hh : h < 2 ^ 56) : bits .or .u64 ((h : Int) * 256) (x : Int) = ((h * 256 + x : Nat) : Int) := by
  have h1 := Nat.two_pow_add_eq_or_of_lt (i := 8) (b := x) (by omega) h
  rw [show (2 : Nat) ^ 8 = 256 from rfl, Nat.mul_comm 256 h] at h1
  have h2 := u64_or_nat (h * 256) x (by omega) (by omega)
  rw [← h1, Int.natCast_mul] at h2
  exact h2

/-- Bytes are appended to a row that was just made, without room. -/
theorem does_append {o : Oper} {E : Operand → Value} {w : World} {s x : Operand} {bs : List Nat} {g b off m c : Nat}
    (ho : o.op = .call { callee := .builtin .append, args := #[s, x], argTypes := #[22, 22] })
    (hs : E s = .slice (some ⟨g, 0, none⟩) 0 0) (hx : E x = .slice (some ⟨b, off, none⟩) m c) (_hg : w.heap[g]? = some (.cells #[] 5 (0, 0))) (hl : bs.length = m) (hm : m ≤ 4611686018427) (ha : At w .u8 b off bs) (ht : ∀ x ∈ bs, x < 256) :
    Does Try.prog o E w fun v w' => (∃ p l c, v = .slice p l c ∧ IsS w' p l c bs) ∧ Below w.heap.size w w' := by
  obtain ⟨i0, hi, hz0, hz1, hz2⟩ := info_parts Try.infoU8
  by_cases h0 : m = 0
  · subst h0
    obtain rfl : bs = [] := List.eq_nil_of_length_eq_zero hl
    have hrun : (Builtin.append_ #[22, 22] o.type #[.slice (some ⟨g, 0, none⟩) 0 0, .slice (some ⟨b, off, none⟩) 0 c]).run Try.prog w = .ok (.slice (some ⟨g, 0, none⟩) 0 0) w := by
      simp [Builtin.append_, run_underlying Try.underlying22, sizeOf, typeInfo, hi, Builtin.lenOf, Builtin.firstCells, storeCells, loadCells, loadCellsFrom]
    refine Does.value (v := .slice (some ⟨g, 0, none⟩) 0 0) (w' := w) ?_ ⟨⟨_, _, _, rfl, rfl, ht, Or.inr ⟨g, 0, rfl, Nat.le_refl _, At.nil _ _ _ _⟩⟩, Below.refl _ _⟩
    unfold execOp
    simp only [ho, resolve, invoke, builtin, Sem.run_bind, Sem.run_pure, Result.andThen_ok, List.map_toArray, List.map_cons, List.map_nil, hs, hx, hrun]
  · obtain ⟨v', w', hrun, h1, h2⟩ := run_append_arg_grows (P := Try.prog) w 22 o.type 5 i0 (.int .u8 0) 1 1 Try.underlying22 hi hz0 hz1 hz2 rfl (by decide) ⟨g, 0, none⟩ 0 0 [] rfl (fun j u h => by simp at h) ⟨b, off, none⟩ m c (cellsOfRow .u8 bs) (by rw [cells_len, hl, Nat.mul_one]) (cells_at ha) (by omega) (by unfold maxLen; omega) (by omega)
    rw [Nat.zero_add, List.nil_append] at h1
    obtain ⟨g', cap, rfl⟩ := ownsRow_pos h1 (by omega)
    obtain ⟨_, q2, q3, _⟩ := ownsRow_at h1 hl
    refine Does.value (v := .slice (some ⟨g', 0, none⟩) m cap) (w' := w') ?_ ⟨⟨_, _, _, rfl, hl, ht, Or.inr ⟨g', 0, rfl, q2, q3⟩⟩, (Below.refl w.heap.size w).grown h2 (Nat.le_refl _) (fun k hk => by cases hk)⟩
    unfold execOp
    simp only [ho, resolve, invoke, builtin, Sem.run_bind, Sem.run_pure, Result.andThen_ok, List.map_toArray, List.map_cons, List.map_nil, hs, hx, hrun]

set_option maxRecDepth 100000 in
set_option maxHeartbeats 1000000 in
theorem rNext_at (b off l c : Nat) (t : List Nat) (w : World) (hm : l ≤ 140737488351232) (hl : t.length = l) (h0 : 0 < l) (hlc : l ≤ c) (ht : ∀ x ∈ t, x < 256) (h : At w .u8 b off t) (hx0 : t.getD 0 0 ≠ 0) :
    Calls Try.prog 21 #[.slice (some ⟨b, off, none⟩) l c] w (RetNext w (nextSpec t)) := by
  have HX := Lib.hid h; have HL := Lib.hid hl; have HT := Lib.hid ht
  have hcell0 : w.cell? ⟨b, off, none⟩ = some (.int .u8 ((t.getD 0 0 : Nat) : Int)) := h 0 (by omega)
  have HZ := Lib.hid hx0
  obtain ⟨x0, hxe⟩ : ∃ x, x = t.getD 0 0 := ⟨_, rfl⟩
  rw [← hxe] at hx0 hcell0
  have hxb : ((x0 : Int) == 0) = false := by simpa using hx0
  have hx256 : x0 < 256 := by rw [hxe]; exact getD_lt ht (by omega) 0
  have HX0 := Lib.hid hxe
  obtain ⟨T, hT⟩ : ∃ T, T = t.drop 1 := ⟨_, rfl⟩
  have HTD := Lib.hid hT
  obtain ⟨r, hr⟩ : ∃ r, r = nextSpec t := ⟨_, rfl⟩
  rw [← hr]
  have HR := Lib.hid hr
  clear h hl ht hx0 hxe hT hr
  go_enter Try.func21, Try.ntmps21
  go_wp2
  go_loop [6, 7] (fun n i => ∃ (k j N : Nat), k < l ∧ i = .int .i64 ((j : Nat) : Int) ∧ n = .int .u64 ((N : Nat) : Int) ∧ Hid (j = 1 + k) ∧ Hid (k ≤ lastAt T) ∧ Hid (N = firsts T k)) (fun _ i => l + 2 - (intOf i).toNat)
  case atStart => exact ⟨0, 1, 0, by omega, rfl, rfl, rfl, Nat.zero_le _, by unfold Hid firsts; simp [groups, val]⟩
  case round =>
    obtain ⟨k, i, N, hk, rfl, rfl, HI, HK, HN⟩ := hrel
    have hi1 : 1 ≤ i := by have := HI.out; omega
    by_cases hlt : i < l
    · have hcell := HX.out i (by rw [HL.out]; exact hlt)
      obtain ⟨x, hxe⟩ : ∃ x, x = t.getD i 0 := ⟨_, rfl⟩
      have hx : x < 256 := by rw [hxe]; exact getD_lt HT.out (by omega) _
      rw [← hxe] at hcell
      have hTx : T.getD k 0 = x := by
        rw [HTD.out, List.getD_eq_getElem?_getD, List.getElem?_drop, ← List.getD_eq_getElem?_getD, ← HI.out, hxe]
      have hkT : k < T.length := by rw [HTD.out, List.length_drop, HL.out]; have := HI.out; omega
      have e1 : bits .and .u8 (x : Int) 127 = ((x % 128 : Nat) : Int) := u8_mask x hx
      obtain ⟨d, hd⟩ : ∃ d, d = x % 128 := ⟨_, rfl⟩
      rw [← hd] at e1
      have hd128 : d < 128 := by omega
      have HXE := Lib.hid hxe; have HTX := Lib.hid hTx; have HKT := Lib.hid hkT
      obtain ⟨D, hD⟩ : ∃ D, D = d * 2 ^ (7 * k) := ⟨_, rfl⟩
      have HD := Lib.hid hD
      -- the number behind this round
      obtain ⟨N2, hN2, hN2b, e2, e3⟩ : ∃ N2, Hid (N2 = firsts T (k + 1)) ∧ (i ≤ 9 → N2 ≤ 9223372036854775807) ∧ (i ≤ 9 → IntKind.u64.wrap ((d : Int) * 2 ^ (7 * (i - 1))) = (D : Int)) ∧ (i ≤ 9 → bits .or .u64 (N : Int) (D : Int) = (N2 : Int)) := by
        by_cases h9 : i ≤ 9
        · obtain ⟨h1, h2, h3, h4⟩ := firsts_succ hkT (by have := HI.out; omega) HN.out (by rw [hTx, hd]) hD
          refine ⟨N + D, h1.symm, fun _ => by omega, fun _ => ?_, fun _ => ?_⟩
          · rw [show i - 1 = k from by have := HI.out; omega, IntKind.wrap_u64]
            have : (d : Int) * 2 ^ (7 * k) = (D : Int) := by rw [hD, Int.natCast_mul, Int.natCast_pow]; rfl
            rw [this]; omega
          · rw [u64_or_nat N D (by omega) (by omega), h2]
        · exact ⟨firsts T (k + 1), rfl, fun h => absurd h h9, fun h => absurd h h9, fun h => absurd h h9⟩
      clear hd hxe hTx hkT hD
      by_cases h128 : x < 128
      · -- the last group
        have hlast : k = lastAt T := lastAt_eq HKT.out (by rw [HTX.out]; exact h128) HK.out
        have HLA := Lib.hid (show lastAt (t.drop 1) + 1 = i by rw [← HTD.out, ← hlast]; have := HI.out; omega)
        clear hlast
        by_cases hform : x = 0 ∧ 1 < i
        · obtain ⟨rfl, hi2⟩ := hform
          have hr := nextSpec_err (findSpec_form (by rw [HL.out]; exact h0) HZ.out HLA.out (by rw [HL.out]; exact hlt) hi2 HXE.out.symm) (by decide)
          rw [← HR.out] at hr
          have HRR := Lib.hid hr
          clear hr
          by_cases h9 : i ≤ 9
          · have e2 := e2 h9; have e3 := e3 h9
            go_wp2
            refine bodyPost_ret (v := .tuple #[.int .i64 0, .slice none 0 0, .int .i64 0, .int .i64 2]) (by simp [results, Try.results21, go_sem]) rfl ?_
            rw [HRR.out]; exact RetNext.err (n := 2) (Below.refl _ _)
          · clear e2 e3 hN2b
            go_wp2
            refine bodyPost_ret (v := .tuple #[.int .i64 0, .slice none 0 0, .int .i64 0, .int .i64 2]) (by simp [results, Try.results21, go_sem]) rfl ?_
            rw [HRR.out]; exact RetNext.err (n := 2) (Below.refl _ _)
        · by_cases h9 : i ≤ 9
--WAY
          · have hbN2 := hN2b h9; have e2 := e2 h9; have e3 := e3 h9
            clear hN2b
            obtain ⟨st, hste⟩ : ∃ st, st = i + 1 := ⟨_, rfl⟩
            have hst1 : (i : Int) + 1 = (st : Int) := by omega
            have hN2' := hN2.out
            rw [← HI.out.trans (Nat.add_comm 1 k) |> fun h => h] at hN2'
            have hfs := findSpec_num (N := N2) (by rw [HL.out]; exact h0) HZ.out HLA.out (by rw [HL.out]; exact hlt) h9 (by rw [← HTD.out]; exact hN2') (fun hh => hform ⟨by rw [HXE.out]; exact hh.2, hh.1⟩)
            have HFS := Lib.hid hfs
            have hcase : (((x : Int) == 0) = true ∧ (st : Int) ≤ 2) ∨ ((x : Int) == 0) = false := by
              by_cases hx0 : x = 0
              · left; exact ⟨by simpa using hx0, by have := fun hh => hform ⟨hx0, hh⟩; omega⟩
              · right; simpa using hx0
            have hst11 : st ≤ 10 := by omega
            have hst2 : 2 ≤ st := by omega
            have HSTE := Lib.hid hste
            clear hfs hform hN2' hste
            by_cases hbig : 4194304 < N2
            · have hr := HFS.out
              rw [if_pos hbig] at hr
              have hr := nextSpec_err hr (by decide)
              rw [← HR.out] at hr
              have HRR := Lib.hid hr
              clear hr
              rcases hcase with ⟨hxz, hst3⟩ | hxz
              all_goals
                go_wp2
                refine bodyPost_ret (v := .tuple #[.int .i64 0, .slice none 0 0, .int .i64 0, .int .i64 4]) (by simp [results, Try.results21, go_sem]) rfl ?_
                rw [HRR.out]; exact RetNext.err (n := 4) (Below.refl _ _)
            · obtain ⟨en, hen⟩ : ∃ en, en = st + N2 := ⟨_, rfl⟩
              obtain ⟨sz, hsz⟩ : ∃ sz, sz = en + 8 := ⟨_, rfl⟩
              have hs1 : (st : Int) + (N2 : Int) = (en : Int) := by omega
              have hs2 : (en : Int) + 8 = (sz : Int) := by omega
              have hs3 : (sz : Int) - 8 = (en : Int) := by omega
              have henb : en ≤ 10 + 4194304 := by omega
              have hr := nextSpec_find t
              rw [HFS.out, if_neg hbig, ← HR.out] at hr
              simp only at hr
              rw [show 1 + i = st from by have := HSTE.out; omega, ← hen, if_neg (fun h => h rfl), HL.out, ← hsz] at hr
              by_cases hshort : l < sz
              · rw [if_pos hshort] at hr
                have HRR := Lib.hid hr
                clear hr hen hsz
                rcases hcase with ⟨hxz, hst3⟩ | hxz
                all_goals
                  go_wp2
                  refine bodyPost_ret (v := .tuple #[.int .i64 0, .slice none 0 0, .int .i64 0, .int .i64 3]) (by simp [results, Try.results21, go_sem]) rfl ?_
                  rw [HRR.out]; exact RetNext.err (n := 3) (Below.refl _ _)
              · rw [if_neg hshort] at hr
                obtain ⟨DE, hDE⟩ : ∃ DE, DE = (t.drop en).take 8 := ⟨_, rfl⟩
                obtain ⟨BD, hBD⟩ : ∃ BD, BD = (t.drop st).take (en - st) := ⟨_, rfl⟩
                obtain ⟨TE, hTE⟩ : ∃ TE, TE = t.take en := ⟨_, rfl⟩
                rw [← hDE, ← hBD, ← hTE, ← HX0.out] at hr
                have hlen := HL.out
                have ADE := Lib.hid (show At w .u8 b (off + en) DE by rw [hDE]; exact (HX.out.drop en).take 8)
                have LDE := Lib.hid (show DE.length = 8 by rw [hDE, List.length_take, List.length_drop]; omega)
                have XDE := Lib.hid (show ∀ y ∈ DE, y < 256 by rw [hDE]; exact fun y hy => HT.out y (List.mem_of_mem_drop (List.mem_of_mem_take hy)))
                have ATE := Lib.hid (show At w .u8 b off TE by rw [hTE]; exact HX.out.take en)
                have LTE := Lib.hid (show TE.length = en by rw [hTE, List.length_take]; omega)
                have XTE := Lib.hid (show ∀ y ∈ TE, y < 256 by rw [hTE]; exact fun y hy => HT.out y (List.mem_of_mem_take hy))
                have ABD := Lib.hid (show At w .u8 b (off + st) BD by rw [hBD]; exact (HX.out.drop st).take (en - st))
                have HBL := Lib.hid (show BD.length = N2 by rw [hBD, List.length_take, List.length_drop]; omega)
                have HBX := Lib.hid (show ∀ y ∈ BD, y < 256 by rw [hBD]; exact fun y hy => HT.out y (List.mem_of_mem_drop (List.mem_of_mem_take hy)))
                have HSE := Lib.hid (show en - st = N2 by omega)
                have HRR := Lib.hid hr
                have hslz : sz ≤ l := by omega
                have hesz : en + 8 = sz := hsz.symm
                have HSZ := Lib.hid hesz
                have hw1 : IntKind.i64.wrap (x0 : Int) = (x0 : Int) := by rw [IntKind.wrap_i64]; omega
                have hw2 : IntKind.i64.wrap (N2 : Int) = (N2 : Int) := by rw [IntKind.wrap_i64]; omega
                have hw3 : IntKind.i64.wrap (en : Int) = (en : Int) := by rw [IntKind.wrap_i64]; omega
                have hstc : ¬ c = st := by omega
                have hste' : st ≤ en := by omega
                have henc : en ≤ c := by omega
                have hencc : ¬ c = en := by omega
                clear hr hDE hBD hTE hen hsz hlen hshort hesz
                rcases hcase with ⟨hxz, hst3⟩ | hxz
                all_goals
                  go_wp2
                  go_loop [10, 11] (fun hh ii => ∃ (j e v : Nat), j ≤ 8 ∧ ii = .int .i64 (e : Int) ∧ hh = .int .u64 (v : Int) ∧ Hid (e = en + j) ∧ Hid (v = beVal (DE.take j))) (fun _ ii => sz - (intOf ii).toNat)
                  case atStart => exact ⟨0, en, 0, by omega, rfl, rfl, rfl, rfl⟩
                  case round =>
                    obtain ⟨j, e, v, hj, rfl, rfl, HE, HV⟩ := hrel
                    by_cases hj8 : j < 8
                    · have hy := ADE.out j (by rw [LDE.out]; exact hj8)
                      rw [Nat.add_assoc, ← HE.out] at hy
                      have hsucc := beVal_take_succ DE j (by rw [LDE.out]; exact hj8)
                      have hvlt : v < 2 ^ 56 := by
                        have h1 := beVal_lt (DE.take j) (fun y hy => XDE.out y (List.mem_of_mem_take hy))
                        have h2 : 256 ^ (DE.take j).length ≤ 256 ^ 7 := Nat.pow_le_pow_right (by decide) (by rw [List.length_take]; omega)
                        rw [← HV.out] at h1
                        exact Nat.lt_of_lt_of_le h1 h2
                      obtain ⟨y, hye⟩ : ∃ y, y = DE.getD j 0 := ⟨_, rfl⟩
                      have hy256 : y < 256 := by rw [hye]; exact getD_lt XDE.out (by omega) j
                      rw [← hye] at hy hsucc
                      rw [← HV.out] at hsucc
                      have hor := u64_hi hy256 hvlt
                      rw [← hsucc] at hor
                      obtain ⟨v2, hv2⟩ : ∃ v2, v2 = beVal (DE.take (j + 1)) := ⟨_, rfl⟩
                      rw [← hv2] at hor
                      have hesz : e < sz := by have := HE.out; have := HSZ.out; omega
                      have hel : e < l := by omega
                      have hv56 : v ≤ 72057594037927935 := by have : (2 : Nat) ^ 56 = 72057594037927936 := by decide
                                                              omega
                      have HV2 := Lib.hid hv2
                      clear hsucc hv2 hye hvlt
                      go_wp2
                      go_round
                      case rel => exact ⟨j + 1, e + 1, v2, by omega, by go_num, rfl, by have := HE.out; unfold Hid; omega, HV2.out⟩
                      case measure => simp [intOf]; omega
                    · obtain rfl : j = 8 := by omega
                      have hee : e = sz := by have := HE.out; have := HSZ.out; omega
                      subst hee
                      have hfv : v = beVal DE := by rw [HV.out, List.take_of_length_le (by rw [LDE.out]; exact Nat.le_refl _)]
                      have hiff := beVal_be8 LDE.out XDE.out (fnv_lt TE)
                      rw [← hfv] at hiff
                      obtain ⟨F, hF⟩ : ∃ F, F = fnv TE := ⟨_, rfl⟩
                      rw [← hF] at hiff HRR
                      have HF := Lib.hid hF
                      have HIFF := Lib.hid hiff
                      clear hfv hiff hF hj8 hj
                      by_cases hvF : v = F
                      · have hr := HRR.out
                        rw [if_neg (fun hh => hh (HIFF.out.1 hvF))] at hr
                        have HRR := Lib.hid hr
                        have hbeq : ((v : Int) == (F : Int)) = true := beq_iff_eq.2 (by rw [hvF])
                        clear hr hvF
                        go_wp2_with fail
                        refine (rsum_at b off en c TE w LTE.out (by omega) XTE.out ATE.out).mono ?_
                        rintro e' w' ⟨rfl, rfl⟩
                        rw [← HF.out]
                        go_wp2_with fail
                        refine region_v (slots := [86, 87, 88, 89, 90, 91, 92, 93, 94, 95, 96, 97, 98, 99, 2, 3, 4, 5]) (V := OTab [.is (.slice (some ⟨b, off, none⟩) l c), .is (.pointer (some ⟨b, off, none⟩)), .is (.int .u8 (x0 : Int)), .is (.int .i64 (x0 : Int)), .made, .is (.slice (some ⟨b, off, none⟩) l c), .is (.int .i64 (st : Int)), .is (.int .i64 (st : Int)), .is (.int .u64 (N2 : Int)), .is (.int .i64 (N2 : Int)), .is (.int .i64 (en : Int)), .is (.slice (some ⟨b, off + st, none⟩) N2 (c - st)), .str BD, .is (.int .i64 (e : Int)), .is (.int .i64 (x0 : Int)), .str BD, .is (.int .i64 (e : Int)), .is (.int .i64 0)] 0) (by kernel_rfl) (by kernel_rfl) OTab.stable (by kernel_rfl) (by kernel_rfl) ?_ ?_
                        · skip
                          refine AllV.cons rfl (fun E W hb hc hf hE hV => Or.inl ⟨rfl, ?_⟩) ?_
                          · have e1 : E (.tmp 0) = .slice (some ⟨b, off, none⟩) l c := hE 0 (by kernel_rfl)
                            clear hE hV
                            exact Does.value (w' := W) (by go_simp) ⟨rfl, Below.refl _ _⟩
                          refine AllV.cons rfl (fun E W hb hc hf hE hV => Or.inl ⟨rfl, ?_⟩) ?_
                          · have e1 : E (.tmp 86) = _ := hV 0 86 (by kernel_rfl) (by kernel_rfl)
                            clear hE hV
                            exact Does.value (w' := W) (by go_simp) ⟨rfl, Below.refl _ _⟩
                          refine AllV.cons rfl (fun E W hb hc hf hE hV => Or.inl ⟨rfl, ?_⟩) ?_
                          · have e1 : E (.tmp 87) = _ := hV 1 87 (by kernel_rfl) (by kernel_rfl)
                            have q := ocell hb hcell0
                            clear hE hV
                            exact Does.value (w' := W) (by go_simp) ⟨rfl, Below.refl _ _⟩
                          refine AllV.cons rfl (fun E W hb hc hf hE hV => Or.inl ⟨rfl, ?_⟩) ?_
                          · have e1 : E (.tmp 88) = _ := hV 2 88 (by kernel_rfl) (by kernel_rfl)
                            clear hE hV
                            exact Does.value (w' := W) (by go_simp) ⟨rfl, Below.refl _ _⟩
                          refine AllV.cons rfl (fun E W hb hc hf hE hV => Or.inl ⟨rfl, ?_⟩) ?_
                          · clear hE hV
                            exact Does.value (v := .slice (some ⟨W.heap.size, 0, none⟩) 0 0) (w' := W.alloc (.cells #[] 5)) (by go_simp) ⟨⟨W.heap.size, rfl, heap_alloc_new W _⟩, below_alloc (Below.refl _ _) _⟩
                          refine AllV.cons rfl (fun E W hb hc hf hE hV => Or.inl ⟨rfl, ?_⟩) ?_
                          · have e1 : E (.tmp 0) = .slice (some ⟨b, off, none⟩) l c := hE 0 (by kernel_rfl)
                            clear hE hV
                            exact Does.value (w' := W) (by go_simp) ⟨rfl, Below.refl _ _⟩
                          refine AllV.cons rfl (fun E W hb hc hf hE hV => Or.inl ⟨rfl, ?_⟩) ?_
                          · have e1 : E (.tmp 7) = .int .i64 (st : Int) := hE 7 (by kernel_rfl)
                            clear hE hV
                            exact Does.value (w' := W) (by go_simp) ⟨rfl, Below.refl _ _⟩
                          refine AllV.cons rfl (fun E W hb hc hf hE hV => Or.inl ⟨rfl, ?_⟩) ?_
                          · have e1 : E (.tmp 7) = .int .i64 (st : Int) := hE 7 (by kernel_rfl)
                            clear hE hV
                            exact Does.value (w' := W) (by go_simp) ⟨rfl, Below.refl _ _⟩
                          refine AllV.cons rfl (fun E W hb hc hf hE hV => Or.inl ⟨rfl, ?_⟩) ?_
                          · have e1 : E (.tmp 6) = .int .u64 (N2 : Int) := hE 6 (by kernel_rfl)
                            clear hE hV
                            exact Does.value (w' := W) (by go_simp) ⟨rfl, Below.refl _ _⟩
                          refine AllV.cons rfl (fun E W hb hc hf hE hV => Or.inl ⟨rfl, ?_⟩) ?_
                          · have e1 : E (.tmp 94) = _ := hV 8 94 (by kernel_rfl) (by kernel_rfl)
                            clear hE hV
                            exact Does.value (w' := W) (by go_simp) ⟨rfl, Below.refl _ _⟩
                          refine AllV.cons rfl (fun E W hb hc hf hE hV => Or.inl ⟨rfl, ?_⟩) ?_
                          · have e1 : E (.tmp 93) = _ := hV 7 93 (by kernel_rfl) (by kernel_rfl)
                            have e2 : E (.tmp 95) = _ := hV 9 95 (by kernel_rfl) (by kernel_rfl)
                            clear hE hV
                            exact Does.value (w' := W) (by go_simp) ⟨rfl, Below.refl _ _⟩
                          refine AllV.cons rfl (fun E W hb hc hf hE hV => Or.inl ⟨rfl, ?_⟩) ?_
                          · have e1 : E (.tmp 91) = _ := hV 5 91 (by kernel_rfl) (by kernel_rfl)
                            have e2 : E (.tmp 92) = _ := hV 6 92 (by kernel_rfl) (by kernel_rfl)
                            have e3 : E (.tmp 96) = _ := hV 10 96 (by kernel_rfl) (by kernel_rfl)
                            clear hE hV
                            refine Does.value (w' := W) ?_ ⟨rfl, Below.refl _ _⟩
                            go_simp
                            rw [HSE.out]
                          refine AllV.cons rfl (fun E W hb hc hf hE hV => Or.inl ⟨rfl, ?_⟩) ?_
                          · have e1 : OMeans W (.made) (E (.tmp 90)) := hV 4 90 (by kernel_rfl) (by kernel_rfl)
                            have e2 : E (.tmp 97) = _ := hV 11 97 (by kernel_rfl) (by kernel_rfl)
                            clear hE hV
                            obtain ⟨g, e1, hg⟩ := e1
                            exact does_append rfl e1 e2 hg HBL.out (by omega) (ABD.out.mono hb) HBX.out
                          refine AllV.cons rfl (fun E W hb hc hf hE hV => Or.inl ⟨rfl, ?_⟩) ?_
                          · have e1 : E (.tmp 9) = .int .i64 (e : Int) := hE 9 (by kernel_rfl)
                            clear hE hV
                            exact Does.value (w' := W) (by go_simp) ⟨rfl, Below.refl _ _⟩
                          refine AllV.cons rfl (fun E W hb hc hf hE hV => Or.inl ⟨rfl, ?_⟩) ?_
                          · have e1 : E (.tmp 89) = _ := hV 3 89 (by kernel_rfl) (by kernel_rfl)
                            clear hE hV
                            exact Does.value (w' := W) (by go_simp) ⟨rfl, Below.refl _ _⟩
                          refine AllV.cons rfl (fun E W hb hc hf hE hV => Or.inl ⟨rfl, ?_⟩) ?_
                          · have e1 : OMeans W (.str BD) (E (.tmp 98)) := hV 12 98 (by kernel_rfl) (by kernel_rfl)
                            clear hE hV
                            obtain ⟨p1, l1, c1, e1, h1⟩ := e1
                            exact Does.value (w' := W) (by go_simp) ⟨⟨p1, l1, c1, rfl, h1⟩, Below.refl _ _⟩
                          refine AllV.cons rfl (fun E W hb hc hf hE hV => Or.inl ⟨rfl, ?_⟩) ?_
                          · have e1 : E (.tmp 99) = _ := hV 13 99 (by kernel_rfl) (by kernel_rfl)
                            clear hE hV
                            exact Does.value (w' := W) (by go_simp) ⟨rfl, Below.refl _ _⟩
                          refine AllV.cons rfl (fun E W hb hc hf hE hV => Or.inl ⟨rfl, ?_⟩) ?_
                          · clear hE hV
                            exact Does.value (w' := W) (by go_simp) ⟨rfl, Below.refl _ _⟩
                          exact AllV.nil
                        · intro f W hf hb
                          have e2 : f 2 = .int .i64 (x0 : Int) := hf (14, 2) (by decide)
                          have e3 : OMeans W (.str BD) (f 3) := hf (15, 3) (by decide)
                          have e4 : f 4 = .int .i64 (e : Int) := hf (16, 4) (by decide)
                          have e5 : f 5 = .int .i64 0 := hf (17, 5) (by decide)
                          obtain ⟨p1, l1, c1, e3, h1⟩ := e3
                          have H1 := Lib.hid h1
                          have HB := Lib.hid hb
                          clear hf hb h1
                          simp only [fillSlots, List.setIfInBounds_toArray, List.set_cons_succ, List.set_cons_zero, e2, e3, e4, e5]
                          go_wp2
                          refine bodyPost_ret (v := .tuple #[.int .i64 (x0 : Int), .slice p1 l1 c1, .int .i64 (e : Int), .int .i64 0]) (by simp [results, Try.results21, go_sem]) rfl ?_
                          rw [HRR.out]
                          exact ⟨p1, l1, c1, rfl, H1.out, HB.out⟩
                      · have hr := HRR.out
                        rw [if_pos (fun hh => hvF (HIFF.out.2 hh))] at hr
                        have HRR := Lib.hid hr
                        have hbeq : ((v : Int) == (F : Int)) = false := beq_eq_false_iff_ne.2 (by omega)
                        clear hr hvF
                        go_wp2_with fail
                        refine (rsum_at b off en c TE w LTE.out (by omega) XTE.out ATE.out).mono ?_
                        rintro e' w' ⟨rfl, rfl⟩
                        rw [← HF.out]
                        go_wp2
                        refine bodyPost_ret (v := .tuple #[.int .i64 0, .slice none 0 0, .int .i64 0, .int .i64 13]) (by simp [results, Try.results21, go_sem]) rfl ?_
                        rw [HRR.out]; exact RetNext.err (n := 13) (Below.refl _ _)
--END
          · -- too long
            have hxn : x ≠ 0 := fun e => hform ⟨e, by omega⟩
            have hxz : ((x : Int) == 0) = false := by simpa using hxn
            have hr := nextSpec_err (findSpec_long (by rw [HL.out]; exact h0) HZ.out HLA.out (by rw [HL.out]; exact hlt) (by omega) (by rw [← HXE.out]; exact hxn)) (by decide)
            rw [← HR.out] at hr
            have HRR := Lib.hid hr
            clear hr hform e2 e3 hN2b hxn
            go_wp2
            refine bodyPost_ret (v := .tuple #[.int .i64 0, .slice none 0 0, .int .i64 0, .int .i64 4]) (by simp [results, Try.results21, go_sem]) rfl ?_
            rw [HRR.out]; exact RetNext.err (n := 4) (Below.refl _ _)
      · -- more groups follow
        have hne := lastAt_ne HKT.out (by rw [HTX.out]; exact h128) HK.out
        have HNE := Lib.hid hne
        clear hne
        by_cases h9 : i ≤ 9
        · have e2 := e2 h9; have e3 := e3 h9
          go_wp2
          go_round
          case rel => exact ⟨k + 1, i + 1, N2, by have := HI.out; omega, by go_num, rfl, by have := HI.out; unfold Hid; omega, HNE.out, hN2.out⟩
          case measure => simp [intOf]; omega
        · clear e2 e3 hN2b
          go_wp2
          go_round
          case rel => exact ⟨k + 1, i + 1, N, by have := HI.out; omega, by go_num, rfl, by have := HI.out; unfold Hid; omega, HNE.out, by unfold Hid; rw [firsts_ge (by have := HI.out; omega)]; exact HN.out⟩
          case measure => simp [intOf]; omega
    · -- the bytes end
      have hlast : lastAt (t.drop 1) = t.length - 1 := by
        have h1 := lastAt_le (t.drop 1)
        rw [List.length_drop] at h1
        have := HK.out; rw [HTD.out] at this
        have := HI.out; have := HL.out
        omega
      have hr := nextSpec_err (findSpec_short (by rw [HL.out]; exact h0) HZ.out hlast) (by decide)
      rw [← HR.out] at hr
      have HRR := Lib.hid hr
      clear hr hlast
      go_wp2
      refine bodyPost_ret (v := .tuple #[.int .i64 0, .slice none 0 0, .int .i64 0, .int .i64 3]) (by simp [results, Try.results21, go_sem]) rfl ?_
      rw [HRR.out]; exact RetNext.err (n := 3) (Below.refl _ _)
end Go.Proofs.Ytdmoiagliflecaa
