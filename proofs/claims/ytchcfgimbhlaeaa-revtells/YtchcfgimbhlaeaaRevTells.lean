/- For every three ints n, key and size, the law RevTells (bits in the other order, keys, names, parents and buckets are as the document says) returns true, and the arguments read afterwards as before. No conditions. -/
import Derived.Test.YtchcfgimbhlaeaaRows
import Derived.Test.YtchcfgimbhlaeaaRevR
import Derived.Test.YtchcfgimbhlaeaaLaw
import Derived.Lib.SmallJoins
import Derived.Deep.Cut
import Derived.Deep.RegionWith
namespace Go.Proofs.Ytchcfgimbhlaeaa
namespace RevTells
open Go.ChangeShapes Go.WideShapes Go.ChangeAt Go.RowKit
set_option linter.unusedVariables false

theorem own : ownKnob Try.prog.godebug = none := by kernel_rfl

theorem walk (n key size : Int) (w : World) (hk : -9223372036854775808 ≤ key ∧ key ≤ 9223372036854775807) :
    Calls Try.prog 3 #[.int .i64 n, .int .i64 key, .int .i64 size] w fun e w' => e = .returned (.bool true) ∧ w = w' := by
  have h := pRev_lt n
  by_cases hy : isKey key
  · go_enter Try.func3, Try.ntmps3
    go_wp2_with (first
      | (go_at_call 11; refine (shown10_any _).mono ?_; rintro e wk ⟨rfl, rfl⟩)
      | (go_at_call 14; refine (rev_any _ _).mono ?_; rintro e wk ⟨rfl, rfl⟩)
      | (go_at_call 16; refine (ord_any _ _).mono ?_; rintro e wk ⟨rfl, rfl⟩)
      | (go_at_call 18; refine (sent_any _ _).mono ?_; rintro e wk ⟨rfl, rfl⟩)
      | (go_at_call 20; refine (rpar_any _ _).mono ?_; rintro e wk ⟨rfl, rfl⟩)
      | (go_at_call 22; refine (buck_any _ _ _).mono ?_; rintro e wk ⟨rfl, rfl⟩)
      | (go_at_call 15; refine (rrev_any _ _).mono ?_; rintro e wk ⟨rfl, rfl⟩)
      | (go_at_call 17; refine (rord_any _ _).mono ?_; rintro e wk ⟨rfl, rfl⟩)
      | (go_at_call 19; refine (rsent_any _ _).mono ?_; rintro e wk ⟨rfl, rfl⟩)
      | (go_at_call 21; refine (rpar10_any _ _).mono ?_; rintro e wk ⟨rfl, rfl⟩)
      | (go_at_call 23; refine (rbuck_any _ _ _).mono ?_; rintro e wk ⟨rfl, rfl⟩)
      | (go_at_call 12; (with_reducible refine (name_yes _ _ hy).mono ?_); rintro e wk ⟨rfl, rfl⟩)
      | (go_at_call 13; (with_reducible refine (rname_yes _ _ hy).mono ?_); rintro e wk ⟨rfl, rfl⟩))
    go_ret
    exact ⟨rfl, rfl⟩
  · go_enter Try.func3, Try.ntmps3
    go_wp2_with (first
      | (go_at_call 11; refine (shown10_any _).mono ?_; rintro e wk ⟨rfl, rfl⟩)
      | (go_at_call 14; refine (rev_any _ _).mono ?_; rintro e wk ⟨rfl, rfl⟩)
      | (go_at_call 16; refine (ord_any _ _).mono ?_; rintro e wk ⟨rfl, rfl⟩)
      | (go_at_call 18; refine (sent_any _ _).mono ?_; rintro e wk ⟨rfl, rfl⟩)
      | (go_at_call 20; refine (rpar_any _ _).mono ?_; rintro e wk ⟨rfl, rfl⟩)
      | (go_at_call 22; refine (buck_any _ _ _).mono ?_; rintro e wk ⟨rfl, rfl⟩)
      | (go_at_call 15; refine (rrev_any _ _).mono ?_; rintro e wk ⟨rfl, rfl⟩)
      | (go_at_call 17; refine (rord_any _ _).mono ?_; rintro e wk ⟨rfl, rfl⟩)
      | (go_at_call 19; refine (rsent_any _ _).mono ?_; rintro e wk ⟨rfl, rfl⟩)
      | (go_at_call 21; refine (rpar10_any _ _).mono ?_; rintro e wk ⟨rfl, rfl⟩)
      | (go_at_call 23; refine (rbuck_any _ _ _).mono ?_; rintro e wk ⟨rfl, rfl⟩)
      | (go_at_call 12; (with_reducible refine (name_no _ _ hy hk).mono ?_); rintro e wk ⟨rfl, rfl⟩)
      | (go_at_call 13; (with_reducible refine (rname_no _ _ hy).mono ?_); rintro e wk ⟨rfl, rfl⟩))
    go_ret
    exact ⟨rfl, rfl⟩

set_option maxRecDepth 100000 in
theorem lifted (os : Os) (started : os.Started) (H : Type) (enc : TypeId × Value → H) :
    ReturnsInHanded {} Try.checked os 3 .any (Rows.revTellsSpec.pre6 enc Try.prog Try.f3 Rows.revTellsRow.domain false) (Rows.revTellsSpec.post enc Try.prog Try.f3 false true false false) := by
  refine returnsInHanded_of_change (C := Try.checked) own started (by kernel_rfl) Try.func3
    (ChangeSpec.witness6 (enc := enc) (C := Try.checked) false ⟨#[], #[.int .i64 0, .int .i64 0, .int .i64 0], []⟩ 8 (by kernel_rfl) (by kernel_rfl) (by kernel_rfl) (by kernel_rfl)) ?_
  intro W base args ds gs before hval0 hW hcnd _
  have hval : ∀ (j : Nat) t v, Try.f3.params[j]? = some t → args[j]? = some v → Value.okWide Try.prog W .any base t v := hval0
  have hW' := hW
  obtain ⟨p, q, hA0, hV, rfl, hfz, hnd⟩ := hW
  have hA : DataW.TrodAll enc Try.prog W 0 (fun _ => true) true Try.f3.params.toList args.toList ds p := hA0
  rw [Try.params3] at hA hval
  obtain ⟨v0, vs0, d0, ds0, p0, q0, hargs, rfl, rfl, h0, r0⟩ := trodAll_cons hA
  obtain ⟨v1, vs1, d1, ds1, p1, q1, rfl, rfl, rfl, h1, r1⟩ := trodAll_cons r0
  obtain ⟨v2, vs2, d2, ds2, p2, q2, rfl, rfl, rfl, h2, r2⟩ := trodAll_cons r1
  obtain ⟨rfl, rfl, rfl⟩ := trodAll_nil r2
  obtain rfl : args = #[v0, v1, v2] := by cases args; simp_all
  obtain ⟨rfl, rfl⟩ := trodVars_none hV
  clear hA0 hval0
  obtain ⟨a0, rfl, rfl, rfl, w0⟩ := open_int Try.underlying3 (hval 0 3 v0 rfl rfl) h0
  obtain ⟨a1, rfl, rfl, rfl, w1⟩ := open_int Try.underlying3 (hval 1 3 v1 rfl rfl) h1
  obtain ⟨a2, rfl, rfl, rfl, w2⟩ := open_int Try.underlying3 (hval 2 3 v2 rfl rfl) h2
  have b1 := bounds_i64 w1
  refine (walk a0 a1 a2 W ⟨b1.1, b1.2⟩).mono fun e W' ⟨he, hb⟩ => ?_
  replace hb : Below W.heap.size W W' := hb ▸ Below.refl _ _
  subst he
  exact ⟨_, rfl, law_post (tb := 4) (by kernel_rfl) (by kernel_rfl) (by kernel_rfl) Try.underlying4 rfl hW' rfl hb⟩

theorem over : Rows.revTellsRow.holds Try.pinned (OpenSpec.ofChange Rows.revTellsSpec) :=
  OpenClaim.holds_of_wide 3 Try.f3 rfl rfl rfl rfl rfl rfl rfl ⟨rfl, rfl, rfl, rfl, rfl⟩ rfl rfl rfl rfl rfl (by kernel_rfl) Try.func3 (by kernel_rfl)
    (of_decide_eq_true (by kernel_rfl)) (by unfold Func.isWrapper; first | (rw [if_pos (by decide +kernel)]; kernel_rfl) | (rw [if_neg (by decide +kernel)]; exact ⟨rfl, rfl⟩))
    (fun os started H enc _ => lifted os started H enc)
end RevTells

theorem revTells_holds : Rows.RevTellsSaid := RevTells.over
#print axioms revTells_holds
end Go.Proofs.Ytchcfgimbhlaeaa
