/- The document's greatest common divisor with its factors: what stays while both numbers, with their signs, go down. -/
import Derived.Test.YtjhjlecnjkjbbaaGreatDoorBez
import Derived.Test.YtjhjlecnjkjbbaaGreatDoorRIntDiv
import Derived.Test.YtjhjlecnjkjbbaaGreatDoorQOps
namespace Go.Proofs.YtjhjlecnjkjbbaaGreatDoor
open Go.RowKit

structure SInv (a b r s x u : Int) : Prop where
  gcd : Nat.gcd r.natAbs s.natAbs = Nat.gcd a.natAbs b.natAbs
  c0 : ∃ k, r = a * x + b * k
  c1 : ∃ k, s = a * u + b * k
  bound : u.natAbs * r.natAbs + x.natAbs * s.natAbs ≤ b.natAbs
  signs : u = 0 ∨ 0 ≤ r * s
  m0 : x.natAbs ≤ b.natAbs
  m1 : u.natAbs ≤ b.natAbs
  k0 : r.natAbs ≤ a.natAbs + b.natAbs
  k1 : s.natAbs ≤ a.natAbs + b.natAbs
theorem SInv.start {a b : Int} (hb : b ≠ 0) : SInv a b a b 1 0 := by
  refine ⟨rfl, ⟨0, by omega⟩, ⟨1, by omega⟩, ?_, Or.inl rfl, ?_, ?_, ?_, ?_⟩ <;> simp <;> omega
theorem gcd_qmod (r s : Int) : Nat.gcd s.natAbs (qmod r s).natAbs = Nat.gcd r.natAbs s.natAbs := by
  have h : qmod r s = r + s * (-(qdiv r s)) := by unfold qmod; rw [Int.mul_neg, Int.mul_comm s, Int.sub_eq_add_neg]
  show Int.gcd s (qmod r s) = Int.gcd r s
  rw [h, Int.gcd_add_mul_left_right, Int.gcd_comm]
theorem quot_same {r s : Int} (hs : s ≠ 0) (h : 0 ≤ r * s) : r.natAbs = (qdiv r s).natAbs * s.natAbs + (qmod r s).natAbs := by
  obtain ⟨h1, h2⟩ := qdiv_parts (x := r) hs
  have hq : 0 ≤ qdiv r s := by
    unfold qdiv
    split
    · next h3 =>
      have : 0 ≤ r := Int.nonneg_of_mul_nonneg_left h h3
      exact Int.ediv_nonneg this (by omega)
    · next h3 =>
      have h5 : 0 ≤ (-r) * (-s) := by rw [Int.neg_mul_neg]; exact h
      have : 0 ≤ -r := Int.nonneg_of_mul_nonneg_left h5 (by omega)
      exact Int.ediv_nonneg this (by omega)
  rw [← Int.natAbs_mul]
  rcases h2 with ⟨h2, h3⟩ | ⟨h2, h3⟩
  · have h4 : 0 ≤ qdiv r s * s := Int.mul_nonneg hq (by omega)
    omega
  · have h4 : qdiv r s * s ≤ 0 := by
      have := Int.mul_nonneg hq (show 0 ≤ -s by omega)
      rw [Int.mul_neg] at this; omega
    omega
theorem SInv.step {a b r s x u : Int} (h : SInv a b r s x u) (hs : s ≠ 0) : SInv a b s (qmod r s) u (x - qdiv r s * u) := by
  obtain ⟨h1, h2⟩ := qdiv_parts (x := r) hs
  obtain ⟨k, hk⟩ := h.c0
  obtain ⟨j, hj⟩ := h.c1
  have hm : (qmod r s).natAbs < s.natAbs := by omega
  have hbd : (x - qdiv r s * u).natAbs * s.natAbs + u.natAbs * (qmod r s).natAbs ≤ b.natAbs := by
    rcases h.signs with h3 | h3
    · have := h.bound
      subst h3
      simp at this ⊢
      exact this
    · have h4 := quot_same hs h3
      have h5 : (x - qdiv r s * u).natAbs ≤ x.natAbs + (qdiv r s).natAbs * u.natAbs := by rw [← Int.natAbs_mul]; omega
      have h6 := Nat.mul_le_mul_right s.natAbs h5
      have h7 := h.bound
      rw [h4] at h7
      refine Nat.le_trans (Nat.add_le_add_right h6 _) (Nat.le_trans (Nat.le_of_eq ?_) h7)
      grind
  refine ⟨(gcd_qmod r s).trans h.gcd, h.c1, ⟨k - qdiv r s * j, ?_⟩, hbd, Or.inr ?_, h.m1, ?_, h.k1, ?_⟩
  · have h8 : qmod r s = r - qdiv r s * s := rfl
    rw [h8]
    generalize qdiv r s = q at *
    rw [hk, hj]
    clear h1 h2 hm hbd h8 hk hj h
    grind
  · rcases h2 with ⟨h2, h3⟩ | ⟨h2, h3⟩
    · exact Int.mul_nonneg (by omega) h2
    · have := Int.mul_nonneg (show 0 ≤ -s by omega) (show 0 ≤ -(qmod r s) by omega)
      rwa [Int.neg_mul_neg] at this
  · have h8 : 0 < s.natAbs := by omega
    have h9 := Nat.le_mul_of_pos_right (x - qdiv r s * u).natAbs h8
    omega
  · have := h.k1; omega
end Go.Proofs.YtjhjlecnjkjbbaaGreatDoor

/- The document's greatest common divisor, and how it is made of both numbers. -/
namespace Go.Proofs.YtjhjlecnjkjbbaaGreatDoor
open Go.RowKit


set_option maxRecDepth 100000 in
set_option maxHeartbeats 4000000 in
theorem rGcd_want (w : World) (u v : Value) (m n : Nat) (hm : (ds m).length ≤ 500) (hn : (ds n).length ≤ 500) (h1 : RNum w u m) (h2 : RNum w v n) :
    Calls Tryz.prog 94 #[u, v] w (Gives w (.rnum (Nat.gcd m n))) := by
  have H1 : Hid (Means w (.rnum m) u) := Lib.hid h1; have H2 : Hid (Means w (.rnum n) v) := Lib.hid h2; have HS := Lib.hid (And.intro hm hn)
  clear h1 h2 hm hn
  go_enter Tryz.func94, Tryz.ntmps94
  have J := Frm.start (w := w) (V := [(u, .rnum m), (v, .rnum n)]) (fc H1.out (fc H2.out fn))
  refine wp_seq_h ?_; intro K1 hK1; go_wp2
  refine hK1.out _ _ ?_; clear hK1
  refine wp_seq_h ?_; intro K2 hK2
  refine wp_block ?_
  go_loopg [0, 1] n (fun k a b wr => ∃ j, Hid (Nat.gcd j k = Nat.gcd m n) ∧ Hid ((ds j).length ≤ 500 ∧ (ds k).length ≤ 500) ∧ Hid (Frm w wr [] [(a, .rnum j), (b, .rnum k)]))
  case atStart => exact ⟨m, Lib.hid rfl, HS, J⟩
  case round =>
    clear J H1 H2 HS
    obtain ⟨j, HG, HS, J⟩ := hrel
    obtain ⟨k, hk⟩ : ∃ k, k = gk := ⟨_, rfl⟩
    rw [← hk] at HG HS J
    have HGK := Lib.hid hk
    clear hk
    rcases Nat.eq_zero_or_pos k with hk0 | hk0
    · have HK0 := Lib.hid hk0
      clear hk0
      refine wp_seq_h ?_; intro K3 hK3
      refine region_c [8, 9, 10] [.rnum k, .that (lenS k), .is (.bool false)] [] [] [] J ?_ ?_
      · refine .pl rfl (fun _ _ W Γ => ev_moveM (Γ.m 1 rfl rfl)) ?_
        refine .pl rfl (fun _ _ W Γ => ev_len (Γ.w 0 rfl)) ?_
        refine .pl rfl (fun _ _ W Γ => ev_lenGtr (Γ.w 1 rfl) (by simp [HK0.out]) Γ.c) ?_
        exact .nil
      clear J; intro K4 hK4; simp only [fx]; intro _ f4 W4 J; refine hK4.out _ _ ?_; clear hK4
      refine wp_cond_false rfl ?_
      refine wp_exit ?_
      simp only [Exit.then, Exit.inBlock, ↓reduceIte]
      refine hK2.out _ _ ?_; clear hK2
      refine region_c [19, 5] [.rnum j, .rnum j] [] [] [(1, 4)] J ?_ ?_
      · refine .pl rfl (fun _ _ W Γ => ev_moveM (Γ.m 0 rfl rfl)) ?_
        refine .pl rfl (fun _ _ W Γ => ev_assignM (Γ.w 0 rfl)) ?_
        exact .nil
      clear J; intro K5 hK5; simp only [fx]; intro _ f5 W5 J; refine hK5.out _ _ ?_; clear hK5
      refine wp_ret ?_
      have ej : j = Nat.gcd m n := by have h := HG.out; rw [HK0.out, Nat.gcd_zero_right] at h; exact h
      exact bodyPost_ret (v := (f5 4)) (by simp [results, Tryz.results94, go_sem]) rfl ⟨_, rfl, (by rw [← ej]; exact (J.out.val 0 rfl)), J.out.be⟩
    · have HK0 := Lib.hid hk0
      clear hk0
      refine wp_seq_h ?_; intro K6 hK6
      refine region_c [8, 9, 10] [.rnum k, .that (lenS k), .is (.bool true)] [] [] [] J ?_ ?_
      · refine .pl rfl (fun _ _ W Γ => ev_moveM (Γ.m 1 rfl rfl)) ?_
        refine .pl rfl (fun _ _ W Γ => ev_len (Γ.w 0 rfl)) ?_
        refine .pl rfl (fun _ _ W Γ => ev_lenGtr (Γ.w 1 rfl) (decide_eq_true (by have := HK0.out; omega)) Γ.c) ?_
        exact .nil
      clear J; intro K7 hK7; simp only [fx]; intro _ f7 W7 J; refine hK7.out _ _ ?_; clear hK7
      refine wp_cond_true rfl ?_
      refine wp_skip ?_
      refine hK6.out _ _ ?_; clear hK6
      refine wp_block ?_
      refine region_c [12, 13, 14, 11, 15, 16, 6, 7] [.rnum j, .rnum k, .two (.rnum (j / k)) (.rnum (j % k)), .two (.rnum (j / k)) (.rnum (j % k)), .rnum (j / k), .rnum (j % k), .rnum (j / k), .rnum (j % k)] [] [] [(7, 6)] J ?_ ?_
      · refine .pl rfl (fun _ _ W Γ => ev_moveM (Γ.m 0 rfl rfl)) ?_
        refine .pl rfl (fun _ _ W Γ => ev_moveM (Γ.m 1 rfl rfl)) ?_
        refine .pl rfl (fun _ _ W Γ => ev_call2 (Γ.f _) run_rDiv (rDiv_want W _ _ j k (by have := HS.out; omega) HK0.out (Γ.w (d := 11) 0 rfl) (Γ.w (d := 12) 1 rfl))) ?_
        refine .pl rfl (fun _ _ W Γ => ev_moveM (Γ.w 2 rfl)) ?_
        refine .pl rfl (fun _ _ W Γ => ev_ex20 (Γ.w 3 rfl)) ?_
        refine .pl rfl (fun _ _ W Γ => ev_ex21 (Γ.w 3 rfl)) ?_
        refine .pl rfl (fun _ _ W Γ => ev_assignM (Γ.w 4 rfl)) ?_
        refine .pl rfl (fun _ _ W Γ => ev_assignM (Γ.w 5 rfl)) ?_
        exact .nil
      clear J; intro K8 hK8; simp only [fx]; intro _ f8 W8 J; refine hK8.out _ _ ?_; clear hK8
      refine region_c [17, 1] [.rnum k, .rnum k] [] [] [(1, 0)] J ?_ ?_
      · refine .pl rfl (fun _ _ W Γ => ev_moveM (Γ.m 2 rfl rfl)) ?_
        refine .pl rfl (fun _ _ W Γ => ev_assignM (Γ.w 0 rfl)) ?_
        exact .nil
      clear J; intro K9 hK9; simp only [fx]; intro _ f9 W9 J; refine hK9.out _ _ ?_; clear hK9
      refine region_f [18, 2] [.rnum (j % k), .rnum (j % k)] [] [] [(1, 1)] J ?_ ?_
      · refine .pl rfl (fun _ _ W Γ => ev_moveM (Γ.m 1 rfl rfl)) ?_
        refine .pl rfl (fun _ _ W Γ => ev_assignM (Γ.w 0 rfl)) ?_
        exact .nil
      clear J; simp only [fx]; intro _ f10 W10 J
      simp only [Exit.then, Exit.inBlock]
      go_step
      go_roundg (j % k)
      case measure => have := HGK.out; have := Nat.mod_lt j HK0.out; omega
      case rel => exact ⟨k, Lib.hid (by rw [Nat.gcd_comm, ← Nat.gcd_rec, Nat.gcd_comm]; exact HG.out), Lib.hid (by have h := HS.out; have := ds_mono (Nat.mod_le j k); omega), Lib.hid (J.out.vals (fc (J.out.val 1 rfl) (fc (J.out.val 0 rfl) fn)))⟩
end Go.Proofs.YtjhjlecnjkjbbaaGreatDoor

/- The document's fractions: their records, boxes of them, single operations on them. -/
namespace Go.Proofs.YtjhjlecnjkjbbaaGreatDoor
open Go.RowKit

theorem IsRI.kept {w w' : World} {b : Nat} {k : BK} {u v : Value} {g : Bool} {p : Option Addr} {l c : Nat} {z : Int} (h : IsRI w g p l c z) (hb : BoxHas w b k u) (hs : Stored w w' b k v) : IsRI w' g p l c z := ⟨h.1, h.2.stored hb hs⟩
def rfracS (x : Rat) : Stable where
  says w v := ∃ g p l c q k d, v = .agg #[.bool g, .slice p l c, .slice q k d] ∧ IsRI w g p l c x.num ∧ IsR w q k d x.den
  mono _ _ _ hb := fun ⟨g, p, l, c, q, k, d, h, h1, h2⟩ => ⟨g, p, l, c, q, k, d, h, h1.mono hb, h2.mono hb⟩
  stored _ _ _ _ _ _ _ hb hs := fun ⟨g, p, l, c, q, k, d, h, h1, h2⟩ => ⟨g, p, l, c, q, k, d, h, h1.kept hb hs, h2.stored hb hs⟩
theorem BoxHas.rfrac {w : World} {b : Nat} {v : Value} (h : BoxHas w b .rfrac v) : ∃ g p l c q k d, v = .agg #[.bool g, .slice p l c, .slice q k d] ∧ w.cell? ⟨b, 0, none⟩ = some (.bool g) ∧ w.cell? ⟨b, 1, none⟩ = some (.slice p l c) ∧ w.cell? ⟨b, 2, none⟩ = some (.slice q k d) := by
  obtain ⟨cs, rfl, hf, hc⟩ := h
  match cs, hf with
  | [a, b', c'], hf =>
    obtain ⟨⟨g, rfl⟩, ⟨p, l, c, rfl⟩, ⟨q, k, d, rfl⟩, -⟩ := hf
    exact ⟨_, _, _, _, _, _, _, rfl, hc 0 _ rfl, hc 1 _ rfl, hc 2 _ rfl⟩
theorem Stored.mkRfrac {w : World} {b : Nat} {g : Bool} {p : Option Addr} {l c : Nat} {q : Option Addr} {k d : Nat} :
    Stored w (((w.setCell ⟨b, 0, none⟩ (.bool g)).setCell ⟨b, 1, none⟩ (.slice p l c)).setCell ⟨b, 2, none⟩ (.slice q k d)) b .rfrac (.agg #[.bool g, .slice p l c, .slice q k d]) :=
  ⟨[_, _, _], rfl, ⟨⟨_, rfl⟩, ⟨_, _, _, rfl⟩, ⟨_, _, _, rfl⟩, trivial⟩, rfl⟩
section
variable {P : Program} {E : Operand → Value} {w : World} {d : Option Tmp} {ty : TypeId} {pos : String} {af : Array Edge} {gd : Option (Nat × Bool)}
set_option maxRecDepth 100000 in
theorem ev_faP0 {x : Operand} {b : Nat} (h : E x = .pointer (some ⟨b, 0, none⟩)) : Does Tryz.prog ⟨d, .fieldAddr 30 x 0, ty, pos, af, gd⟩ E w fun v' w' => Means w' (.is (.pointer (some ⟨b, 0, none⟩))) v' ∧ Below w.heap.size w w' := by
  exact Does.value (v := .pointer (some ⟨b, 0, none⟩)) (w' := w) (by go_simp) ⟨rfl, Below.refl _ _⟩
set_option maxRecDepth 100000 in
theorem ev_faP1 {x : Operand} {b : Nat} (h : E x = .pointer (some ⟨b, 0, none⟩)) : Does Tryz.prog ⟨d, .fieldAddr 30 x 1, ty, pos, af, gd⟩ E w fun v' w' => Means w' (.is (.pointer (some ⟨b, 2, none⟩))) v' ∧ Below w.heap.size w w' := by
  exact Does.value (v := .pointer (some ⟨b, 2, none⟩)) (w' := w) (by go_simp) ⟨rfl, Below.refl _ _⟩
theorem ev_ldP0 {x : Operand} {b : Nat} {X : Rat} (h : E x = .pointer (some ⟨b, 0, none⟩)) (hs : Says w b .rfrac (.that (rfracS X))) : Does Tryz.prog ⟨d, .load 28 x, ty, pos, af, gd⟩ E w fun v' w' => Means w' (.rint X.num) v' ∧ Below w.heap.size w w' := by
  obtain ⟨v, hb, hm⟩ := hs
  obtain ⟨g, p, l, c, q, k, d, rfl, q0, q1, q2⟩ := hb.rfrac
  obtain ⟨_, _, _, _, _, _, _, e, h1, h2⟩ := hm
  cases e
  exact Does.value (v := .agg #[.bool g, .slice p l c]) (w' := w) (by go_simp) ⟨⟨_, _, _, _, rfl, h1⟩, Below.refl _ _⟩
theorem ev_ldP2 {x : Operand} {b : Nat} {X : Rat} (h : E x = .pointer (some ⟨b, 2, none⟩)) (hs : Says w b .rfrac (.that (rfracS X))) : Does Tryz.prog ⟨d, .load 26 x, ty, pos, af, gd⟩ E w fun v' w' => Means w' (.rnum X.den) v' ∧ Below w.heap.size w w' := by
  obtain ⟨v, hb, hm⟩ := hs
  obtain ⟨g, p, l, c, q, k, d, rfl, q0, q1, q2⟩ := hb.rfrac
  obtain ⟨_, _, _, _, _, _, _, e, h1, h2⟩ := hm
  cases e
  exact Does.value (v := .slice q k d) (w' := w) (by go_simp) ⟨⟨_, _, _, rfl, h2⟩, Below.refl _ _⟩
theorem ev_stP {x y : Operand} {b : Nat} {z : Rat} (h : E x = .pointer (some ⟨b, 0, none⟩)) {X0 : Want} (hh : Holds w b .rfrac X0) (hm : Means w (.that (rfracS z)) (E y)) : Does Tryz.prog ⟨none, .store 30 x y, ty, pos, af, gd⟩ E w fun _ w' => ∃ v, Stored w w' b .rfrac v ∧ Means w (.that (rfracS z)) v := by
  obtain ⟨⟨u, hb, -⟩, hf⟩ := hh
  obtain ⟨g0, p0, l0, c0, v0, x0, y0, rfl, q0, q1, q2⟩ := hb.rfrac
  have t0 := hf 0 (by show 0 < 3; decide); have t1 := hf 1 (by show 1 < 3; decide); have t2 := hf 2 (by show 2 < 3; decide)
  obtain ⟨g, p, l, c, q, k, d, e2, hI⟩ := hm
  exact Does.skip (by go_simp) ⟨_, Stored.mkRfrac (b := b), ⟨g, p, l, c, q, k, d, rfl, hI⟩⟩
set_option maxRecDepth 100000 in
theorem ev_mkP {x y : Operand} {n : Int} {m : Nat} {X : Rat} (hm : Means w (.rint n) (E x)) (hk : Means w (.rnum m) (E y)) (hn : X.num = n) (hd : X.den = m) : Does Tryz.prog ⟨d, .build 30 #[(0, x), (1, y)], ty, pos, af, gd⟩ E w fun v' w' => Means w' (.that (rfracS X)) v' ∧ Below w.heap.size w w' := by
  obtain ⟨g, p, l, c, e, hI⟩ := hm
  obtain ⟨q, k, d, e', hJ⟩ := hk
  subst hn; subst hd
  exact Does.value (v := .agg #[.bool g, .slice p l c, .slice q k d]) (w' := w) (by go_simp) ⟨⟨_, _, _, _, _, _, _, rfl, hI, hJ⟩, Below.refl _ _⟩
end
theorem Frm.putP {w W : World} {L : List Bx} {V : List (Value × Want)} (J : Hid (Frm w W L V)) {m : Nat} (hm : W.heap.size = m) {g : Bool} {p : Option Addr} {l c : Nat} {q : Option Addr} {k d : Nat} {X : Rat} (h : IsRI w g p l c X.num ∧ IsR w q k d X.den) :
    ∃ W' b, W' = W.alloc (.cells #[.bool g, .slice p l c, .slice q k d] 30) ∧ b = m ∧ W'.heap.size = m + 1 ∧ Hid (Frm w W' (L ++ [⟨b, .rfrac, .that (rfracS X)⟩]) V) :=
  Frm.put J hm (x := .that (rfracS X)) (cs := [_, _, _]) _ ⟨⟨_, rfl⟩, ⟨_, _, _, rfl⟩, ⟨_, _, _, rfl⟩, trivial⟩ rfl (Means.mono (x := .that (rfracS X)) ⟨_, _, _, _, _, _, _, rfl, h⟩ J.out.be)
theorem Frm.putP0 {w W : World} {L : List Bx} {V : List (Value × Want)} (J : Hid (Frm w W L V)) {m : Nat} (hm : W.heap.size = m) :
    ∃ W' b, W' = W.alloc (.cells #[.bool false, .slice none 0 0, .slice none 0 0] 30) ∧ b = m ∧ W'.heap.size = m + 1 ∧ Hid (Frm w W' (L ++ [⟨b, .rfrac, .any⟩]) V) :=
  Frm.put J hm (x := .any) (cs := [_, _, _]) _ ⟨⟨_, rfl⟩, ⟨_, _, _, rfl⟩, ⟨_, _, _, rfl⟩, trivial⟩ rfl trivial
end Go.Proofs.YtjhjlecnjkjbbaaGreatDoor
