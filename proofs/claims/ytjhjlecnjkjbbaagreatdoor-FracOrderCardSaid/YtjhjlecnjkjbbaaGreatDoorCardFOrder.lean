/-
  The order of fractions holds through sums and through products with what is not below 0; rounding to so many bits keeps the order, is at most half a step away, a multiple of the step, the same when it is done again, and odd: for every three raw fractions and every int.
  Conditions: none but the card's own (five tables of the library hold what its text lays).
-/
import Derived.Test.YtjhjlecnjkjbbaaGreatDoorOpenRaw3
import Derived.Test.YtjhjlecnjkjbbaaGreatDoorCards
import Derived.Test.YtjhjlecnjkjbbaaGreatDoorTie
import Derived.WalkKit
import Derived.ProofKit
import Derived.OpenShut
import Derived.ChangeSame
import Derived.Deep.DeepHandedRow
import Derived.Lib.LaidTab
import Derived.Test.YtjhjlecnjkjbbaaGreatDoorFOrder
import Derived.Lay
import Derived.Shelf.Vars
namespace Go.Proofs.YtjhjlecnjkjbbaaGreatDoor.fracOrder
open Go.ChangeShapes Go.WideShapes Go.ChangeAt Go.RowKit

theorem int_range {a : Int} (h : (Lit.int .i64 a).wf = true) : -9223372036854775808 ≤ a ∧ a ≤ 9223372036854775807 := by
  have h1 : IntKind.i64.min = -9223372036854775808 := rfl
  have h2 : IntKind.i64.max = 9223372036854775807 := rfl
  simp only [Lit.wf, Bool.and_eq_true, decide_eq_true_eq] at h
  omega
set_option maxRecDepth 100000 in
theorem contract (H : Type) (enc : TypeId × Value → H) (W : World) (base : Nat) (args : Array Value) (ds gs : List (DataW H)) (before : List MemPlace)
    (hval : ∀ (j : Nat) t v, Tryz.f5.params[j]? = some t → args[j]? = some v → Value.okWide Tryz.prog W .any base t v)
    (hW : DataW.Whole enc Tryz.prog Tryz.f5.params.toList Rows.fracOrderSpec.vars false W args.toList ds gs before) (hT : Tab64 W) (hsh : W.ShapedOpen Tryz.prog) :
    Calls Tryz.prog 5 args W fun e W' => ∃ v, e = .returned v ∧ Rows.fracOrderSpec.post enc Tryz.prog Tryz.f5 false true false false W args v W' := by
  obtain ⟨mx, hM⟩ : ∃ m, W.cell? ⟨4, 0, none⟩ = some (.int .i64 m) :=
    Go.Proofs.cell_of_shapedOpen_int (zero := #[.int .i64 0]) (t := 3) hsh (of_decide_eq_true (by kernel_rfl)) (by kernel_rfl) rfl (by kernel_rfl) (by kernel_rfl) Tryz.underlying3
  have hW' := hW
  obtain ⟨p, q, hA0, hV, rfl, hfz, hnd⟩ := hW
  have hA : DataW.TrodAll enc Tryz.prog W 0 (fun _ => true) true Tryz.f5.params.toList args.toList ds p := hA0
  rw [Tryz.params5] at hA hval
  obtain ⟨v0, vs0, d0, ds0, p0, q0, hargs, rfl, rfl, h0, r0⟩ := trodAll_cons hA
  obtain ⟨v1, vs1, d1, ds1, p1, q1, rfl, rfl, rfl, h1, r1⟩ := trodAll_cons r0
  obtain ⟨v2, vs2, d2, ds2, p2, q2, rfl, rfl, rfl, h2, r2⟩ := trodAll_cons r1
  obtain ⟨v3, vs3, d3, ds3, p3, q3, rfl, rfl, rfl, h3, r3⟩ := trodAll_cons r2
  obtain ⟨rfl, rfl, rfl⟩ := trodAll_nil r3
  obtain rfl : args = #[v0, v1, v2, v3] := by cases args; simp_all
  obtain ⟨rfl, rfl⟩ := trodVars_none hV
  obtain ⟨n0, a0, l0, c0, b0, k0, e0, g0, xs0, ys0, rfl, u0, i0, j0⟩ := open_raw3 (hval 0 24 v0 rfl rfl) h0
  obtain ⟨n1, a1, l1, c1, b1, k1, e1, g1, xs1, ys1, rfl, u1, i1, j1⟩ := open_raw3 (hval 1 24 v1 rfl rfl) h1
  obtain ⟨n2, a2, l2, c2, b2, k2, e2, g2, xs2, ys2, rfl, u2, i2, j2⟩ := open_raw3 (hval 2 24 v2 rfl rfl) h2
  obtain ⟨n3, rfl, rfl, rfl, w3⟩ := open_int Tryz.underlying3 (hval 3 3 v3 rfl rfl) h3
  have u3 := int_range w3
  clear hA0
  have hlt : ∀ x ∈ p0 ++ (p1 ++ (p2 ++ ([] ++ []))) ++ [], x.block < W.heap.size := fun x hx => hW'.lt x hx
  refine (forder_any a0 b0 l0 c0 k0 e0 n0 xs0 ys0 g0 a1 b1 l1 c1 k1 e1 n1 xs1 ys1 g1 a2 b2 l2 c2 k2 e2 n2 xs2 ys2 g2 n3 mx W u0 i0 j0 u1 i1 j1 u2 i2 j2 u3 hM hT).mono fun e W' ⟨v, he, hv, hg⟩ => ?_
  obtain rfl : v = .bool true := hv
  subst he
  exact ⟨_, rfl, post_of_below (pa := p0 ++ (p1 ++ (p2 ++ ([] ++ [])))) (pv := []) hW' (fun _ _ _ => (trodAll_cons_mk (shut_bool Tryz.underlying4 _) trodAll_mk0))
    (fun sp hs => trodAll_cons_mk (shut_raw3 h0 hg (fun x hx => hlt x (by simp [hx])) (fun x hx => hs x (by simp [hx]))) 
      (trodAll_cons_mk (shut_raw3 h1 hg (fun x hx => hlt x (by simp [hx])) (fun x hx => hs x (by simp [hx]))) 
      (trodAll_cons_mk (shut_raw3 h2 hg (fun x hx => hlt x (by simp [hx])) (fun x hx => hs x (by simp [hx]))) 
      (trodAll_cons_mk (shut_int Tryz.underlying3 w3) trodAll_mk0)))) (fun _ _ => rfl) rfl
    hg (ok_one (by kernel_rfl) rfl (okWide_bool_mk Tryz.underlying4 _))⟩

theorem reads (os : Os) {H : Type} (enc : TypeId × Value → H) : ∃ places, DataW.whole enc Tryz.prog ((World.laidAll Tryz.prog os Rows.fracOrderRow.laid).forCall (fun _ _ => 0) ⟨#[], #[.agg #[.int .i64 0, .slice none 0 0, .slice none 0 0, .bool false], .agg #[.int .i64 0, .slice none 0 0, .slice none 0 0, .bool false], .agg #[.int .i64 0, .slice none 0 0, .slice none 0 0, .bool false], .int .i64 0], []⟩).memory Tryz.f5.params.toList Rows.fracOrderSpec.vars false #[Value.agg #[.int .i64 0, .slice none 0 0, .slice none 0 0, .bool false], Value.agg #[.int .i64 0, .slice none 0 0, .slice none 0 0, .bool false], Value.agg #[.int .i64 0, .slice none 0 0, .slice none 0 0, .bool false], Value.int .i64 0].toList 8 = some ([.agg [.lit (.int .i64 0), .nil, .nil, .lit (.bool false)], .agg [.lit (.int .i64 0), .nil, .nil, .lit (.bool false)], .agg [.lit (.int .i64 0), .nil, .nil, .lit (.bool false)], .lit (.int .i64 0)], [], places) :=
  ⟨[], by kernel_rfl⟩
theorem ok_args (os : Os) : Input.okWideB Tryz.prog ((World.laidAll Tryz.prog os Rows.fracOrderRow.laid).forCall (fun _ _ => 0) ⟨#[], #[.agg #[.int .i64 0, .slice none 0 0, .slice none 0 0, .bool false], .agg #[.int .i64 0, .slice none 0 0, .slice none 0 0, .bool false], .agg #[.int .i64 0, .slice none 0 0, .slice none 0 0, .bool false], .int .i64 0], []⟩) 5 ⟨#[], #[.agg #[.int .i64 0, .slice none 0 0, .slice none 0 0, .bool false], .agg #[.int .i64 0, .slice none 0 0, .slice none 0 0, .bool false], .agg #[.int .i64 0, .slice none 0 0, .slice none 0 0, .bool false], .int .i64 0], []⟩ = true := by kernel_rfl
theorem laid_met (os : Os) : laidMetH Tryz.prog Rows.fracOrderRow.laid ((World.laidAll Tryz.prog os Rows.fracOrderRow.laid).forCall (fun _ _ => 0) ⟨#[], #[.agg #[.int .i64 0, .slice none 0 0, .slice none 0 0, .bool false], .agg #[.int .i64 0, .slice none 0 0, .slice none 0 0, .bool false], .agg #[.int .i64 0, .slice none 0 0, .slice none 0 0, .bool false], .int .i64 0], []⟩).memory := by
  rw [MakeChecks.laidMetH_plain _ _ _ (by kernel_rfl)]
  exact laidMet_laidAll _ (by kernel_rfl) (by kernel_rfl)
theorem tab_of {W : World} (h : laidMetH Tryz.prog Rows.fracOrderRow.laid W) : Tab64 W := by
  rw [MakeChecks.laidMetH_plain _ _ _ (by kernel_rfl)] at h
  exact tab64_of h

set_option maxRecDepth 100000 in
theorem lifted (os : Os) (started : os.Started) (H : Type) (enc : TypeId × Value → H) (F : Stop.Interp) :
    ReturnsInHanded {} Tryz.checked os 5 .any ((OpenSpec.ofChange Rows.fracOrderSpec).preRow enc Tryz.prog Tryz.f5 Rows.fracOrderRow.domain false Rows.fracOrderRow.laid) (((OpenSpec.ofChange Rows.fracOrderSpec).at F).post enc Tryz.prog Tryz.f5 false true false false) := by
  obtain ⟨places, hx⟩ := reads os enc
  refine returnsInHanded_of_row (C := Tryz.checked) (s := OpenSpec.ofChange Rows.fracOrderSpec) own started (by kernel_rfl) Tryz.func5
    ⟨World.laidAll Tryz.prog os Rows.fracOrderRow.laid, fun _ _ => 0, ⟨#[], #[.agg #[.int .i64 0, .slice none 0 0, .slice none 0 0, .bool false], .agg #[.int .i64 0, .slice none 0 0, .slice none 0 0, .bool false], .agg #[.int .i64 0, .slice none 0 0, .slice none 0 0, .bool false], .int .i64 0], []⟩, World.laidAll_os _ _ _, World.shaped_of_ZipB (by kernel_rfl) (by kernel_rfl),
      (Input.okWide_of_okWideB (base := 0) (ok_args os)).1, (Input.okWide_of_okWideB (ok_args os)).2,
      OpenSpec.preRow_of_cond 8 hx (by kernel_rfl) (fun k hk => by cases hk) (by kernel_rfl) (laid_met os), by
        simp only [Assume.holds]
        exact ⟨by simp, by simp, fun _ => Modest.zero, by simp, by simp⟩⟩ ?_
  intro W base args ds gs before hval hW _ _ _ x4 x5 _
  exact contract H enc W base args ds gs before hval hW (tab_of x4) x5

theorem said : Rows.FracOrderSaid :=
  OpenClaim.holds_of_cond 5 Tryz.f5 rfl rfl rfl rfl rfl rfl rfl ⟨rfl, rfl, rfl, rfl, rfl⟩ rfl rfl rfl rfl rfl (by kernel_rfl) Tryz.func5 (by kernel_rfl)
    (of_decide_eq_true (by kernel_rfl)) (by unfold Func.isWrapper; first | (rw [if_pos (by decide +kernel)]; kernel_rfl) | (rw [if_neg (by decide +kernel)]; exact ⟨rfl, rfl⟩))
    (fun os started H enc _ F => by rw [OpenClaim.pre_eq_preRow]; exact lifted os started H enc F)

theorem plain (f : FuncId) (fn : Func) (hf : Tryz.pinned.checked.prog.funcNamed "abaculus/abaculuslaw3.FracOrder" = some f) (hfn : Tryz.pinned.checked.prog.funcs[f]? = some fn) :
    false = Tryz.pinned.checked.prog.looks [] ∧ ∀ (j : Nat) t, fn.params[j]? = some t → Tryz.pinned.checked.prog.wantsStandIn t = false := by
  obtain rfl : f = 5 := Option.some.inj ((show Tryz.prog.funcNamed "abaculus/abaculuslaw3.FracOrder" = some 5 by kernel_rfl).symm.trans hf) |>.symm
  obtain rfl : fn = Tryz.f5 := (Option.some.inj (Tryz.func5.symm.trans hfn)).symm
  refine ⟨by kernel_rfl, fun j t ht => ?_⟩
  rw [Tryz.params5] at ht
  have hr : Tryz.prog.wantsStandIn 24 = false := by kernel_rfl
  have hi : Tryz.prog.wantsStandIn 3 = false := by kernel_rfl
  have h := Array.mem_of_getElem? ht
  simp only [List.mem_toArray, List.mem_cons, List.not_mem_nil, or_false] at h
  rcases h with h | h | h | h
  · rw [h]; exact hr
  · rw [h]; exact hr
  · rw [h]; exact hr
  · rw [h]; exact hi

theorem card : Rows.FracOrderCardSaid :=
  Claim7.holds_tied_plain_at .later [] _ _ _ _ said (fun _ h => by cases h) (by kernel_rfl) (fun _ h => by cases h) fracOrder_row_tie rfl ⟨rfl, rfl⟩ (by kernel_rfl) rfl plain (by kernel_rfl)
end Go.Proofs.YtjhjlecnjkjbbaaGreatDoor.fracOrder
