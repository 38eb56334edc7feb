/- For every int key, the law RevNames (of all keys just the odd ones up to 131071 are names'; a key's name has that key) returns true, and the argument reads afterwards as before. No conditions. -/
import Derived.Test.YtchcfgimbhlaeaaRows
import Derived.Test.YtchcfgimbhlaeaaRevR
import Derived.Test.YtchcfgimbhlaeaaLaw
import Derived.Lib.SmallJoins
import Derived.Deep.Cut
import Derived.Deep.RegionWith
namespace Go.Proofs.Ytchcfgimbhlaeaa
namespace RevNames
open Go.ChangeShapes Go.WideShapes Go.ChangeAt Go.RowKit
set_option linter.unusedVariables false

theorem own : ownKnob Try.prog.godebug = none := by kernel_rfl

set_option maxRecDepth 100000 in
theorem walk (key : Int) (w : World) (hk : -9223372036854775808 ≤ key ∧ key ≤ 9223372036854775807) :
    Calls Try.prog 8 #[.int .i64 key] w fun e w' => e = .returned (.bool true) ∧ w = w' := by
  by_cases hy : isKey key
  · have h1 := hy.1
    have h2 := hy.2.1
    have h3 : key.tmod 2 = 1 := by rw [Int.tmod_eq_emod_of_nonneg h1]; exact hy.2.2
    have h4 := pRev_lt (key / 2)
    have h5 : ((pRev (key / 2) : Nat) : Int) < 65536 := by omega
    obtain ⟨e1, e2⟩ := key_yes hy
    have e3 := ord_key key
    rw [e2, e1] at e3
    clear e1 e2
    go_enter Try.func8, Try.ntmps8
    go_wp2_with (first
      | (go_at_call 11; refine (shown10_any _).mono ?_; rintro e wk ⟨rfl, rfl⟩)
      | (go_at_call 16; refine (ord_any _ _).mono ?_; rintro e wk ⟨rfl, rfl⟩)
      | (go_at_call 12; (with_reducible refine (name_yes _ _ hy).mono ?_); rintro e wk ⟨rfl, rfl⟩))
    go_ret
    exact ⟨rfl, rfl⟩
  · have h : key < 0 ∨ 0 ≤ key ∧ 131071 < key ∨ 0 ≤ key ∧ key ≤ 131071 ∧ key.tmod 2 = 0 := by
      unfold isKey at hy
      by_cases h0 : 0 ≤ key
      · rw [Int.tmod_eq_emod_of_nonneg h0]
        omega
      · omega
    rcases h with h | ⟨h1, h⟩ | ⟨h1, h2, h⟩
    all_goals
      go_enter Try.func8, Try.ntmps8
      go_wp2_with (first
        | (go_at_call 11; refine (shown10_any _).mono ?_; rintro e wk ⟨rfl, rfl⟩)
        | (go_at_call 16; refine (ord_any _ _).mono ?_; rintro e wk ⟨rfl, rfl⟩)
        | (go_at_call 12; (with_reducible refine (name_no _ _ hy hk).mono ?_); rintro e wk ⟨rfl, rfl⟩))
      go_ret
      exact ⟨rfl, rfl⟩

set_option maxRecDepth 100000 in
theorem lifted (os : Os) (started : os.Started) (H : Type) (enc : TypeId × Value → H) :
    ReturnsInHanded {} Try.checked os 8 .any (Rows.revNamesSpec.pre6 enc Try.prog Try.f8 Rows.revNamesRow.domain false) (Rows.revNamesSpec.post enc Try.prog Try.f8 false true false false) := by
  refine returnsInHanded_of_change (C := Try.checked) own started (by kernel_rfl) Try.func8
    (ChangeSpec.witness6 (enc := enc) (C := Try.checked) false ⟨#[], #[.int .i64 0], []⟩ 8 (by kernel_rfl) (by kernel_rfl) (by kernel_rfl) (by kernel_rfl)) ?_
  intro W base args ds gs before hval0 hW hcnd _
  have hval : ∀ (j : Nat) t v, Try.f8.params[j]? = some t → args[j]? = some v → Value.okWide Try.prog W .any base t v := hval0
  have hW' := hW
  obtain ⟨p, q, hA0, hV, rfl, hfz, hnd⟩ := hW
  have hA : DataW.TrodAll enc Try.prog W 0 (fun _ => true) true Try.f8.params.toList args.toList ds p := hA0
  rw [Try.params8] at hA hval
  obtain ⟨v0, vs0, d0, ds0, p0, q0, hargs, rfl, rfl, h0, r0⟩ := trodAll_cons hA
  obtain ⟨rfl, rfl, rfl⟩ := trodAll_nil r0
  obtain rfl : args = #[v0] := by cases args; simp_all
  obtain ⟨rfl, rfl⟩ := trodVars_none hV
  clear hA0 hval0
  obtain ⟨a0, rfl, rfl, rfl, w0⟩ := open_int Try.underlying3 (hval 0 3 v0 rfl rfl) h0
  have b0 := bounds_i64 w0
  refine (walk a0 W ⟨b0.1, b0.2⟩).mono fun e W' ⟨he, hb⟩ => ?_
  replace hb : Below W.heap.size W W' := hb ▸ Below.refl _ _
  subst he
  exact ⟨_, rfl, law_post (tb := 4) (by kernel_rfl) (by kernel_rfl) (by kernel_rfl) Try.underlying4 rfl hW' rfl hb⟩

theorem over : Rows.revNamesRow.holds Try.pinned (OpenSpec.ofChange Rows.revNamesSpec) :=
  OpenClaim.holds_of_wide 8 Try.f8 rfl rfl rfl rfl rfl rfl rfl ⟨rfl, rfl, rfl, rfl, rfl⟩ rfl rfl rfl rfl rfl (by kernel_rfl) Try.func8 (by kernel_rfl)
    (of_decide_eq_true (by kernel_rfl)) (by unfold Func.isWrapper; first | (rw [if_pos (by decide +kernel)]; kernel_rfl) | (rw [if_neg (by decide +kernel)]; exact ⟨rfl, rfl⟩))
    (fun os started H enc _ => lifted os started H enc)
end RevNames

theorem revNames_holds : Rows.RevNamesSaid := RevNames.over
#print axioms revNames_holds
end Go.Proofs.Ytchcfgimbhlaeaa
