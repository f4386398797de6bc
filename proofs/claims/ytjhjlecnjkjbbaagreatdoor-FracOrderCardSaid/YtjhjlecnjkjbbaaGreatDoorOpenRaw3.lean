/- The last step of a row's proof where the call has made memory. -/
import Derived.Test.YtjhjlecnjkjbbaaGreatDoorRows
import Derived.WalkKit
import Derived.ProofKit
import Derived.OpenShut
import Derived.ChangeSame
import Derived.Test.YtjhjlecnjkjbbaaGreatDoorCards
import Derived.Test.YtjhjlecnjkjbbaaGreatDoorTie
import Derived.Deep.DeepHandedRow
import Derived.Lib.LaidTab
import Derived.Test.YtjhjlecnjkjbbaaGreatDoorCut
import Derived.Test.YtjhjlecnjkjbbaaGreatDoorTz
import Derived.Lib.SmallJoins
namespace Go.Proofs.YtjhjlecnjkjbbaaGreatDoor
open Go.ChangeShapes Go.WideShapes Go.ChangeAt Go.RowKit

theorem own : ownKnob Tryz.prog.godebug = none := by kernel_rfl
theorem laidOut : laidOutB Tryz.prog = true := by kernel_rfl

section
variable {H : Type} {enc : TypeId × Value → H} {P : Program}
theorem post_of_below {f : Func} {s : ChangeSpec} {apart fresh handsOn again : Bool} {W W' : World} {args : Array Value} {v : Value} {ds gs : List (DataW H)} {before pa pv : List MemPlace}
    (hW : DataW.Whole enc P f.params.toList s.vars apart W args.toList ds gs before)
    (hres : ∀ (b : Nat) (sp : Nat → Bool) (hd : Bool), DataW.TrodAll enc P W' b sp hd f.resultTypes.toList (v.resultList f.resultTypes.size) (s.fn H (ds ++ gs)).results [])
    (hargs : ∀ sp : Nat → Bool, (∀ p ∈ before, sp p.block = true) → DataW.TrodAll enc P W' 0 sp true f.params.toList args.toList (s.fn H (ds ++ gs)).args pa)
    (hvars : ∀ sp : Nat → Bool, (∀ p ∈ before, sp p.block = true) → DataW.TrodVars enc P W' sp s.vars (s.fn H (ds ++ gs)).vars pv)
    (hps : before = pa ++ pv) (hb : Below W.heap.size W W')
    (hok : ∀ (j : Nat) (t : TypeId) (r : Value), f.resultTypes[j]? = some t → (v.resultList f.resultTypes.size)[j]? = some r → Value.okWide P W' .any 0 t r) :
    s.post enc P f apart fresh handsOn again W args v W' := by
  have hlt : ∀ p ∈ before, p.block < W.heap.size := fun p hp => hW.lt p hp
  have hold : ∀ p ∈ before, (fun b => decide (b < W.heap.size)) p.block = true := fun p hp => by simpa using hlt p hp
  refine ⟨ds, gs, before, [], pa, pv, hW, hres _ _ _, hargs _ hold, hvars _ hold, World.keptBut_mono (fun p hp => ⟨hp, ?_⟩) (hb.frame (· ∈ before)), fun _ => ?_⟩
  · rw [hps, List.mem_append] at hp
    exact Or.inr hp
  · obtain ⟨_, _, _, _, _, hz, hn⟩ := hW
    refine ⟨hok, _, _, ([] ++ pa) ++ pv, ⟨[] ++ pa, pv, trodAll_append (hargs _ (fun _ _ => rfl)) (hres _ _ _), hvars _ (fun _ _ => rfl), rfl, ?_, ?_⟩, ?_⟩
    · intro b off hp
      have hin : MemPlace.cell b off ∈ before := by rw [hps]; simpa using hp
      rw [hb.frozen (hlt _ hin)]
      exact hz b off hin
    · intro ha
      have := hn ha
      rw [hps] at this
      simpa using this
    · intro p hp _
      rw [hps]
      simpa using hp
end
end Go.Proofs.YtjhjlecnjkjbbaaGreatDoor

/- What the rows' proofs share: the last step where the call has made memory; a world for the witness, in which the listed tables hold what the text lays. -/
namespace Go.Proofs.YtjhjlecnjkjbbaaGreatDoor
open Go.ChangeShapes Go.WideShapes Go.ChangeAt Go.RowKit

end Go.Proofs.YtjhjlecnjkjbbaaGreatDoor

/- A slice of bytes that came in: its bytes; it reads as it did wherever what was there is as it was. -/
namespace Go.Proofs.YtjhjlecnjkjbbaaGreatDoor
open Go.ChangeShapes Go.WideShapes Go.ChangeAt Go.RowKit


section
variable {H : Type} {enc : TypeId × Value → H}

end
end Go.Proofs.YtjhjlecnjkjbbaaGreatDoor

/- The card's table, in the words of the walks. -/
namespace Go.Proofs.YtjhjlecnjkjbbaaGreatDoor
open Go.RowKit

theorem tabIs_second {P : Program} {W : World} {n1 name : String} {d1 : DataW Unit} {k : IntKind} {zs : List Int} {rest : List (String × DataW Unit)} {g : Nat} {t e : TypeId} {n : Nat}
    (hg : P.globalNamed name = some g) (hty : (P.globals[g]?).map (·.type) = some t) (ht : P.underlying t = some (.array n e)) (he : P.underlying e = some (.int k)) (hce : P.cellsOf e = 1) (hct : P.cellsOf t = n)
    (h : laidMet P ((n1, d1) :: (name, Lib.tabData k zs) :: rest) W) : Lib.TabIs P W name k zs := by
  obtain ⟨ps, ⟨_, _, _, _, _, q, _, _, _, _, hr, _⟩, _⟩ := h
  obtain ⟨g', t', cs, fuel, p, q', hg', ht', hvar, hd, _, _⟩ := hr
  obtain rfl := Option.some.inj (hg.symm.trans hg')
  obtain rfl := Option.some.inj (hty.symm.trans ht')
  unfold Lib.TabIs
  rw [hvar, ← Lib.cells_of_tab ht he hce hct hd]
theorem getD_cast (xs : List Nat) (i : Nat) : (xs.map fun (n : Nat) => (n : Int)).getD i 0 = ((xs.getD i 0 : Nat) : Int) := by
  simp only [List.getD, List.getElem?_map]
  cases xs[i]? <;> simp
theorem tab64_of {W : World} {n1 : String} {d1 : DataW Unit} {rest : List (String × DataW Unit)} (h : laidMet Tryz.prog ((n1, d1) :: ("math/bits.deBruijn64tab", Rows.laid_math_bits_deBruijn64tab) :: rest) W) : Tab64 W := by
  have h2 : laidMet Tryz.prog ((n1, d1) :: ("math/bits.deBruijn64tab", Lib.tabData .u8 (Lib.deBruijn64tab.map fun (n : Nat) => (n : Int))) :: rest) W := h
  have h3 := tabIs_second (g := 0) (t := 183) (e := 5) (n := 64) (by kernel_rfl) (by kernel_rfl) (by kernel_rfl) Tryz.underlying5 (by kernel_rfl) (by kernel_rfl) h2
  intro j hj
  have h4 := h3.cell (g := 0) (by kernel_rfl) j (by rw [List.length_map]; exact hj)
  rw [getD_cast] at h4
  exact h4
end Go.Proofs.YtjhjlecnjkjbbaaGreatDoor

/- A raw fraction that came in (a struct of a number, two slices of bytes and a bool): its parts; it reads as it did wherever what was there is as it was. -/
namespace Go.Proofs.YtjhjlecnjkjbbaaGreatDoor
open Go.ChangeShapes Go.WideShapes Go.ChangeAt Go.RowKit

section
variable {H : Type} {enc : TypeId × Value → H}
set_option maxRecDepth 100000 in
theorem bytes_cells {W : World} {fuel : Nat} {cs : List Value} {x : DataW H × List MemPlace} (h : DataW.trod enc Tryz.prog W 0 (fun _ => true) true fuel 22 cs = some x) : ∃ p l c bs, cs = [.slice p l c] ∧ IsB W p l c bs := by
  rcases open_ints Tryz.underlying22 Tryz.underlying5 Tryz.cellsU8 h with ⟨hcs, hx⟩ | ⟨a, len', cap', zs, hcs, _, hl, hm, hz, hx, hcell, hwz⟩
  · exact ⟨none, 0, 0, [], hcs, ⟨rfl, fun x hx => by simp at hx, Or.inl ⟨rfl, rfl, rfl⟩⟩⟩
  · simp only [if_true] at hz
    have hlen : ((zs.take len').map Int.toNat).length = len' := by rw [List.length_map, List.length_take]; omega
    refine ⟨_, _, _, (zs.take len').map Int.toNat, hcs, ⟨hlen, fun x hx => ?_, Or.inr ⟨a.block, a.off, a.spot, rfl, hl, fun i hi => ?_⟩⟩⟩
    · obtain ⟨y, hy, rfl⟩ := List.mem_map.1 hx
      obtain ⟨j, hj, rfl⟩ := List.getElem_of_mem (List.mem_of_mem_take hy)
      have := range_u8 hwz j
      rw [List.getElem?_eq_getElem hj, Option.getD_some] at this
      omega
    · rw [hlen] at hi
      have h1 := hcell i (by omega)
      have h2 := range_u8 hwz i
      have hi2 : i < zs.length := by omega
      rw [List.getElem?_eq_getElem hi2, Option.getD_some] at h2
      have e1 : zs.getD i 0 = zs[i] := by simp [List.getD, hi2]
      have e2 : ((((zs.take len').map Int.toNat).getD i 0 : Nat) : Int) = zs[i] := by
        simp [List.getD, hi, hi2]
        omega
      rw [e2, ← e1]
      exact h1
set_option maxRecDepth 100000 in
theorem open_raw3 {W : World} {base : Nat} {v : Value} {d : DataW H} {ps : List MemPlace} (hval : Value.okWide Tryz.prog W .any base 24 v) (h : DataW.Trod enc Tryz.prog W 0 (fun _ => true) true 24 v d ps) :
    ∃ n p l c q k e g xs ys, v = .agg #[.int .i64 n, .slice p l c, .slice q k e, .bool g] ∧ (-9223372036854775808 ≤ n ∧ n ≤ 9223372036854775807) ∧ IsB W p l c xs ∧ IsB W q k e ys := by
  obtain ⟨v0, v1, v2, v3, y0, y1, y2, y3, m, rfl, -, -, t0, t1, t2, t3⟩ := Go.Joins.open_agg4 Tryz.underlying24 (by kernel_rfl) (by kernel_rfl) hval h
  obtain ⟨n, e0, -, w0⟩ := DataW.trod_int Tryz.underlying3 t0
  obtain ⟨p, l, c, xs, e1, i1⟩ := bytes_cells t1
  obtain ⟨q, k, e, ys, e2, i2⟩ := bytes_cells t2
  obtain ⟨g, e3, -⟩ := DataW.trod_bool Tryz.underlying4 t3
  simp only [List.cons.injEq, and_true] at e0 e1 e2 e3
  subst e0 e1 e2 e3
  refine ⟨n, p, l, c, q, k, e, g, xs, ys, rfl, ?_, i1, i2⟩
  exact Go.Joins.in64_of_wf w0
set_option maxRecDepth 100000 in
theorem shut_raw3 {W W' : World} {v : Value} {d : DataW H} {ps : List MemPlace} {sp : Nat → Bool} (h : DataW.Trod enc Tryz.prog W 0 (fun _ => true) true 24 v d ps) (hb : Below W.heap.size W W') (hlt : ∀ x ∈ ps, x.block < W.heap.size) (hs : ∀ x ∈ ps, sp x.block = true) :
    DataW.Trod enc Tryz.prog W' 0 sp true 24 v d ps :=
  WideElems.Trod_stays laidOut (by kernel_rfl) (of_decide_eq_true (by kernel_rfl)) h (fun x hx => hb.same (hlt x hx)) hs
end
end Go.Proofs.YtjhjlecnjkjbbaaGreatDoor
