/- Choices below a number, and rows of them. -/
import Derived.Test.YtfjjmhbffbhhdaaD2
namespace Go.Proofs.Ytfjjmhbffbhhdaa
open Go.RowKit

theorem dseek_lt {m s : Nat} (h : s < 18446744073709551616) : dseek m s < 18446744073709551616 := dfind_lt _ h
theorem dbelowS_def (n s : Nat) : dbelowS n s = dseek (dmost n) (dstep s) := rfl
theorem dbelowV_def (n s : Nat) : dbelowV n s = dmix (dbelowS n s) % n := rfl

set_option maxRecDepth 100000 in
set_option maxHeartbeats 1000000 in
theorem dBelow_any (b s n : Nat) (w : World) (h : IsD w b s) (hn : 0 < n) (hn2 : n ≤ 9223372036854775807) :
    Calls Try.prog 28 #[.pointer (some ⟨b, 0, none⟩), .int .i64 (n : Int)] w fun e w' => e = .returned (.int .i64 ((dbelowV n s : Nat) : Int)) ∧ Drawn w w' b (dbelowS n s) := by
  have wn : IntKind.u64.wrap (n : Int) = (n : Int) := by rw [IntKind.wrap_u64]; omega
  have wm : IntKind.u64.wrap (-(n : Int)) = ((18446744073709551616 - n : Nat) : Int) := by rw [IntKind.wrap_u64]; omega
  obtain ⟨m, hm⟩ : ∃ m, m = 18446744073709551616 - n := ⟨_, rfl⟩
  obtain ⟨p, hp⟩ : ∃ p, p = (18446744073709551616 - n) % n := ⟨_, rfl⟩
  have hpn : p < n := by rw [hp]; exact Nat.mod_lt _ hn
  obtain ⟨t, ht⟩ : ∃ t, t = dmost n := ⟨_, rfl⟩
  have htp : t = 18446744073709551615 - p := by rw [ht, hp]; rfl
  have wt : IntKind.u64.wrap (18446744073709551615 - (p : Int)) = (t : Int) := by rw [IntKind.wrap_u64]; omega
  have hr : Int.tmod (m : Int) (n : Int) = (p : Int) := by rw [hp, ← hm]; exact Int.ofNat_tmod m n
  rw [← hm] at wm
  have d0 : ((n : Int) == 0) = false := beq_eq_false_iff_ne.2 (by omega)
  have d1 : ¬ (n : Int) = 0 := by omega
  have d2 : ¬ (n : Int) < 1 := by omega
  obtain ⟨f, hf⟩ : ∃ f, f = dbelowS n s := ⟨_, rfl⟩
  have hfs : dseek t (dstep s) = f := by rw [hf, ht, dbelowS_def]
  have hv : Int.tmod ((dmix f : Nat) : Int) (n : Int) = ((dbelowV n s : Nat) : Int) := by rw [dbelowV_def, ← hf]; exact Int.ofNat_tmod _ _
  have hvl : dbelowV n s < n := dbelowV_lt s hn
  obtain ⟨v, hve⟩ : ∃ v, v = dbelowV n s := ⟨_, rfl⟩
  rw [← hve] at hv hvl ⊢
  rw [← hf]
  have wv : IntKind.i64.wrap (v : Int) = (v : Int) := by rw [IntKind.wrap_i64]; omega
  have H := Lib.hid h; have HFS := Lib.hid hfs; have HV := Lib.hid hv; have WV := Lib.hid wv
  clear h hm hp hpn ht htp hf hfs hv hve hvl wv
  go_enter Try.func28, Try.ntmps28
  go_wp2_with fail
  refine (dNext_any b s w H.out).mono ?_
  rintro e w1 ⟨rfl, hw1⟩
  have D1 : Drawn w w1 b (dstep s) := by rw [hw1]; exact ⟨H.out.put (dstep_lt s), (Only.refl w b 0 1).setCell 0 (Nat.le_refl _) (by omega) _⟩
  have HD1 := Lib.hid D1
  clear D1 hw1 wn wm hr
  go_wp2_with fail
  go_loopw [7] (fun u wr => ∃ s' : Nat, u = .int .u64 ((dmix s' : Nat) : Int) ∧ Hid (dseek t s' = f) ∧ Hid (Drawn w wr b s')) (fun _ wr => match wr.cell? ⟨b, 0, none⟩ with | some v => dleft (intOf v).toNat | none => 0)
  case atStart => exact ⟨_, rfl, HFS, HD1⟩
  case round =>
    clear HFS HD1
    obtain ⟨s', rfl, HS, HD⟩ := hrel
    by_cases hgt : t < dmix s'
    · have hmore := dseek_more HD.out.1.2.2 hgt
      have HN := Lib.hid (show dseek t (dstep s') = f from hmore.1.symm.trans HS.out)
      have HL := Lib.hid hmore.2
      have hgi : (t : Int) < ((dmix s' : Nat) : Int) := by omega
      clear hmore hgt
      go_wp2_with fail
      refine (dNext_any b s' wr HD.out.1).mono ?_
      rintro e w2 ⟨rfl, hw2⟩
      have D2 : Drawn wr w2 b (dstep s') := by rw [hw2]; exact ⟨HD.out.1.put (dstep_lt s'), (Only.refl wr b 0 1).setCell 0 (Nat.le_refl _) (by omega) _⟩
      have HD2 := Lib.hid D2
      clear hw2 D2
      go_wp2
      go_roundw
      case rel => exact ⟨_, rfl, HN, Lib.hid (HD.out.trans HD2.out)⟩
      case measure =>
        rw [HD2.out.1.1, HD.out.1.1]
        show dleft (Int.toNat ((dstep s' : Nat) : Int)) < dleft (Int.toNat ((s' : Nat) : Int))
        rw [Int.toNat_natCast, Int.toNat_natCast]
        exact HL.out
    · have he : s' = f := (dseek_end hgt).symm.trans HS.out
      have hgi : ¬ (t : Int) < ((dmix s' : Nat) : Int) := by omega
      subst he
      have hv := HV.out
      have wv := WV.out
      clear hgt
      go_wp2
      go_ret
      exact ⟨rfl, HD.out⟩
end Go.Proofs.Ytfjjmhbffbhhdaa
