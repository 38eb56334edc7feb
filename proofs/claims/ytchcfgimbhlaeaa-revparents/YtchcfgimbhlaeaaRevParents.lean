/- For every uint16 bucket, the law RevParents (a parent is below its bucket, and its key is, too; as often as it has bits set, 0 comes; what lies between is no parent's) returns true, and the argument reads afterwards as before. No conditions. -/
import Derived.Test.YtchcfgimbhlaeaaRows
import Derived.Test.YtchcfgimbhlaeaaRevR
import Derived.Test.YtchcfgimbhlaeaaLaw
import Derived.Lib.SmallJoins
import Derived.Deep.Cut
import Derived.Deep.RegionWith
namespace Go.Proofs.Ytchcfgimbhlaeaa
namespace RevParents
open Go.ChangeShapes Go.WideShapes Go.ChangeAt Go.RowKit
set_option linter.unusedVariables false

theorem own : ownKnob Try.prog.godebug = none := by kernel_rfl

set_option maxRecDepth 100000 in
theorem walk (b : Nat) (w : World) (hb : b < 65536) :
    Calls Try.prog 6 #[.int .u16 b] w fun e w' => e = .returned (.bool true) ∧ w = w' := by
  have e0 : ∀ w, Calls Try.prog 20 #[.int .i64 0] w fun e w' => e = .returned (.int .i64 0) ∧ w = w' := fun w => rpar_any 0 w
  go_enter Try.func6, Try.ntmps6
  go_wp2_with (first
    | (go_at_call 11; refine (shown10_any _).mono ?_; rintro e wk ⟨rfl, rfl⟩))
  go_loopw [4, 5] (fun n i wr => ∃ (j m : Nat), j ≤ 16 ∧ m < 2 ^ (16 - j) ∧ i = .int .i64 j ∧ n = .int .i64 m ∧ w = wr) (fun _ i _ => 17 - (intOf i).toNat)
  case atStart => exact ⟨0, b, by omega, hb, rfl, rfl, rfl⟩
  case round =>
    obtain ⟨j, m, hj, hm, rfl, rfl, rfl⟩ := hrel
    by_cases h0 : m = 0
    · subst h0
      clear hm
      go_wp2_with (first
        | (go_at_call 20; (with_reducible refine (e0 _).mono ?_); rintro e wk ⟨rfl, rfl⟩))
      go_ret
      exact ⟨rfl, rfl⟩
    · have hj2 : j < 16 := by
        rcases Nat.lt_or_ge j 16 with h | h
        · exact h
        · rw [show 16 - j = 0 by omega] at hm
          omega
      have hm2 : m < 65536 := Nat.lt_of_lt_of_le hm (pw_le (by omega))
      obtain ⟨t, p, ht, hp, e⟩ := top_of h0 hm2
      have htj : t < 16 - j := by
        rcases Nat.lt_or_ge t (16 - j) with h | h
        · exact h
        · have : 2 ^ (16 - j) ≤ 2 ^ t := Nat.pow_le_pow_right (by omega) h
          omega
      have hp2 : p < 2 ^ (16 - (j + 1)) := Nat.lt_of_lt_of_le hp (Nat.pow_le_pow_right (by omega) (by omega))
      have q1 : par (lw m) = p := by rw [lw_nat hm2, e]; exact par_top hp ht
      have q2 : pRev m = pRev p + 2 ^ (15 - t) := by
        unfold pRev
        rw [lw_nat hm2, lw_nat (by omega : p < 65536), e]
        exact rv_top hp ht
      have q3 : 0 < 2 ^ (15 - t) := Nat.pow_pos (by omega)
      have q4 : pRev p < pRev m := by omega
      have q5 := pRev_lt m
      have sm : ∀ w, Calls Try.prog 18 #[.int .i64 m] w fun e w' => e = .returned (.int .i64 (2 * (pRev m : Nat))) ∧ w = w' := fun w => sent_any m w
      have sp : ∀ w, Calls Try.prog 18 #[.int .i64 p] w fun e w' => e = .returned (.int .i64 (2 * (pRev p : Nat))) ∧ w = w' := fun w => sent_any p w
      have pp : ∀ w, Calls Try.prog 20 #[.int .i64 m] w fun e w' => e = .returned (.int .i64 p) ∧ w = w' := fun w => by
        have := rpar_any m w
        rw [q1] at this
        exact this
      clear q2 q1
      generalize pRev m = X at q4 q5 sm
      generalize pRev p = Y at q4 sp
      have pb := pw_lt ht
      obtain ⟨r, hr⟩ : ∃ r, Hid (r = 2 ^ t) := ⟨_, hid rfl⟩
      have e1 : (m : Int) - p = r := by rw [hr.out]; omega
      rw [← hr.out] at hp pb e
      have hmr : m = p + r := e
      clear q3 e hm
      have g1 : (p : Int) < m := by omega
      have g3 : (p : Int) < r := by omega
      have g5 : (0 : Int) < m := by omega
      have H : Hid (m = p + r) := hmr
      have H2 : Hid (p < 2 ^ (16 - (j + 1))) := hp2
      clear hmr hp2 htj
      go_wp2_with (first
        | (go_at_call 20; (with_reducible refine (pp _).mono ?_); rintro e wk ⟨rfl, rfl⟩)
        | (go_at_call 18; (with_reducible refine (sm _).mono ?_); rintro e wk ⟨rfl, rfl⟩)
        | (go_at_call 18; (with_reducible refine (sp _).mono ?_); rintro e wk ⟨rfl, rfl⟩))
      go_loopw [7] (fun x wr => ∃ l : Nat, l ≤ t ∧ x = .int .i64 (2 ^ l : Nat) ∧ w = wr) (fun x _ => (intOf x).toNat)
      case atStart => exact ⟨t, by omega, by rw [hr.out], rfl⟩
      case round =>
        obtain ⟨l, hl, rfl, rfl⟩ := hrel
        have pl : 2 ^ l ≤ 32768 := pw_lt (by omega)
        have pp : 0 < 2 ^ l := Nat.pow_pos (by omega)
        by_cases hl0 : l = 0
        · subst hl0
          have o1 : ((2 ^ 0 : Nat) : Int) = 1 := rfl
          rw [o1]
          clear o1 pl pp
          go_wp2
          go_roundw
          case rel => exact ⟨j + 1, p, by omega, H2.out, by go_num, rfl, by first | rfl | trivial⟩
          case measure => simp [intOf]; omega
        · obtain ⟨l2, rfl⟩ : ∃ l2, l = l2 + 1 := ⟨l - 1, by omega⟩
          have o1 : Hid (2 ^ (l2 + 1) = 2 * 2 ^ l2) := by rw [Nat.pow_succ, Nat.mul_comm]; exact hid rfl
          rw [o1.out] at pl pp ⊢
          obtain ⟨q, hq⟩ : ∃ q, Hid (q = 2 ^ l2) := ⟨_, hid rfl⟩
          rw [← hq.out] at pl pp ⊢
          have o2 : ((2 * q : Nat) : Int) = 2 * q := by omega
          rw [o2]
          clear o2
          have o3 : (2 * (q : Int)).tmod 2 = 0 := by rw [Int.tmod_eq_emod_of_nonneg (by omega)]; omega
          have o4 : (2 * (q : Int)) / 2 = q := by omega
          have o5 : (2 * (q : Int)) % 2 = 0 := by omega
          go_wp2
          go_roundw
          case rel => exact ⟨l2, by omega, by rw [hq.out], by first | rfl | trivial⟩
          case measure => simp [intOf]; omega

set_option maxRecDepth 100000 in
theorem lifted (os : Os) (started : os.Started) (H : Type) (enc : TypeId × Value → H) :
    ReturnsInHanded {} Try.checked os 6 .any (Rows.revParentsSpec.pre6 enc Try.prog Try.f6 Rows.revParentsRow.domain false) (Rows.revParentsSpec.post enc Try.prog Try.f6 false true false false) := by
  refine returnsInHanded_of_change (C := Try.checked) own started (by kernel_rfl) Try.func6
    (ChangeSpec.witness6 (enc := enc) (C := Try.checked) false ⟨#[], #[.int .u16 0], []⟩ 8 (by kernel_rfl) (by kernel_rfl) (by kernel_rfl) (by kernel_rfl)) ?_
  intro W base args ds gs before hval0 hW hcnd _
  have hval : ∀ (j : Nat) t v, Try.f6.params[j]? = some t → args[j]? = some v → Value.okWide Try.prog W .any base t v := hval0
  have hW' := hW
  obtain ⟨p, q, hA0, hV, rfl, hfz, hnd⟩ := hW
  have hA : DataW.TrodAll enc Try.prog W 0 (fun _ => true) true Try.f6.params.toList args.toList ds p := hA0
  rw [Try.params6] at hA hval
  obtain ⟨v0, vs0, d0, ds0, p0, q0, hargs, rfl, rfl, h0, r0⟩ := trodAll_cons hA
  obtain ⟨rfl, rfl, rfl⟩ := trodAll_nil r0
  obtain rfl : args = #[v0] := by cases args; simp_all
  obtain ⟨rfl, rfl⟩ := trodVars_none hV
  clear hA0 hval0
  obtain ⟨a0, rfl, rfl, rfl, w0⟩ := open_int Try.underlying28 (hval 0 28 v0 rfl rfl) h0
  have b0 := bounds_u16 w0
  obtain ⟨x, rfl⟩ : ∃ x : Nat, a0 = x := ⟨a0.toNat, by omega⟩
  refine (walk x W (by omega)).mono fun e W' ⟨he, hb⟩ => ?_
  replace hb : Below W.heap.size W W' := hb ▸ Below.refl _ _
  subst he
  exact ⟨_, rfl, law_post (tb := 4) (by kernel_rfl) (by kernel_rfl) (by kernel_rfl) Try.underlying4 rfl hW' rfl hb⟩

theorem over : Rows.revParentsRow.holds Try.pinned (OpenSpec.ofChange Rows.revParentsSpec) :=
  OpenClaim.holds_of_wide 6 Try.f6 rfl rfl rfl rfl rfl rfl rfl ⟨rfl, rfl, rfl, rfl, rfl⟩ rfl rfl rfl rfl rfl (by kernel_rfl) Try.func6 (by kernel_rfl)
    (of_decide_eq_true (by kernel_rfl)) (by unfold Func.isWrapper; first | (rw [if_pos (by decide +kernel)]; kernel_rfl) | (rw [if_neg (by decide +kernel)]; exact ⟨rfl, rfl⟩))
    (fun os started H enc _ => lifted os started H enc)
end RevParents

theorem revParents_holds : Rows.RevParentsSaid := RevParents.over
#print axioms revParents_holds
end Go.Proofs.Ytchcfgimbhlaeaa
