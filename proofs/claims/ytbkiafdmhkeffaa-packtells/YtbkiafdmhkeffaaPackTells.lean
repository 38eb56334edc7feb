/- For every four ints, the law PackTells (packed words, the parts of any word, and the next one, are as the document says) returns true, and the arguments read afterwards as before. No conditions. -/
import Derived.Test.YtbkiafdmhkeffaaRows
import Derived.Test.YtbkiafdmhkeffaaShown1
import Derived.Test.YtbkiafdmhkeffaaLaw
import Derived.Lib.SmallJoins
namespace Go.Proofs.Ytbkiafdmhkeffaa
namespace PackTells
open Go.ChangeShapes Go.WideShapes Go.ChangeAt Go.RowKit
set_option linter.unusedVariables false

theorem own : ownKnob Try.prog.godebug = none := by kernel_rfl

theorem walk (t i m a : Int) (w : World) :
    Calls Try.prog 3 #[.agg #[.int .i64 t, .int .i64 i, .int .i64 m, .int .i64 a]] w fun e w' => e = .returned (.bool true) ∧ Below w.heap.size w w' := by
  cases hok : pOk t i m
  · go_enter Try.func3, Try.ntmps3
    go_wp2_with (first
      | (go_at_call 11; refine (shown_any _).mono ?_; rintro e w1 ⟨rfl, hb⟩; replace hb := bstep (boxed _ _) hb)
      | (go_at_call 12; refine (of_no _ _ _ _ (by assumption)).mono ?_; rintro e w' ⟨rfl, rfl⟩)
      | (go_at_call 13; refine (rof_no _ _ _ _ (by assumption)).mono ?_; rintro e w' ⟨rfl, rfl⟩)
      | (go_at_call 16; refine (index_any _ _).mono ?_; rintro e wk ⟨rfl, hk⟩; replace hb := bstep hb hk; clear hk)
      | (go_at_call 18; refine (mark_any _ _).mono ?_; rintro e wk ⟨rfl, hk⟩; replace hb := bstep hb hk; clear hk)
      | (go_at_call 20; refine (tag_any _ _).mono ?_; rintro e wk ⟨rfl, hk⟩; replace hb := bstep hb hk; clear hk)
      | (go_at_call 22; refine (next_any _ _ _ _).mono ?_; rintro e wk ⟨rfl, hk⟩; replace hb := bstep hb hk; clear hk)
      | (go_at_call 14; refine (right_any _ _).mono ?_; rintro e w' ⟨rfl, rfl⟩)
      | (go_at_call 17; refine (rindex_any _ _).mono ?_; rintro e w' ⟨rfl, rfl⟩)
      | (go_at_call 19; refine (rmark_any _ _).mono ?_; rintro e w' ⟨rfl, rfl⟩)
      | (go_at_call 21; refine (rtag_any _ _).mono ?_; rintro e w' ⟨rfl, rfl⟩)
      | (go_at_call 23; refine (rnext_any _ _ _ _).mono ?_; rintro e w' ⟨rfl, rfl⟩)
      | (go_at_call 15; refine (rright_any _ _).mono ?_; rintro e w' ⟨rfl, rfl⟩))
    go_ret
    exact ⟨rfl, hb⟩
  · go_enter Try.func3, Try.ntmps3
    go_wp2_with (first
      | (go_at_call 11; refine (shown_any _).mono ?_; rintro e w1 ⟨rfl, hb⟩; replace hb := bstep (boxed _ _) hb)
      | (go_at_call 12; refine (of_yes _ _ _ _ (by assumption)).mono ?_; rintro e w' ⟨rfl, rfl⟩)
      | (go_at_call 13; refine (rof_yes _ _ _ _ (by assumption)).mono ?_; rintro e w' ⟨rfl, rfl⟩)
      | (go_at_call 16; refine (index_any _ _).mono ?_; rintro e wk ⟨rfl, hk⟩; replace hb := bstep hb hk; clear hk)
      | (go_at_call 18; refine (mark_any _ _).mono ?_; rintro e wk ⟨rfl, hk⟩; replace hb := bstep hb hk; clear hk)
      | (go_at_call 20; refine (tag_any _ _).mono ?_; rintro e wk ⟨rfl, hk⟩; replace hb := bstep hb hk; clear hk)
      | (go_at_call 22; refine (next_any _ _ _ _).mono ?_; rintro e wk ⟨rfl, hk⟩; replace hb := bstep hb hk; clear hk)
      | (go_at_call 14; refine (right_any _ _).mono ?_; rintro e w' ⟨rfl, rfl⟩)
      | (go_at_call 17; refine (rindex_any _ _).mono ?_; rintro e w' ⟨rfl, rfl⟩)
      | (go_at_call 19; refine (rmark_any _ _).mono ?_; rintro e w' ⟨rfl, rfl⟩)
      | (go_at_call 21; refine (rtag_any _ _).mono ?_; rintro e w' ⟨rfl, rfl⟩)
      | (go_at_call 23; refine (rnext_any _ _ _ _).mono ?_; rintro e w' ⟨rfl, rfl⟩)
      | (go_at_call 15; refine (rright_any _ _).mono ?_; rintro e w' ⟨rfl, rfl⟩))
    go_ret
    exact ⟨rfl, hb⟩

set_option maxRecDepth 100000 in
theorem lifted (os : Os) (started : os.Started) (H : Type) (enc : TypeId × Value → H) :
    ReturnsInHanded {} Try.checked os 3 .any (Rows.packTellsSpec.pre6 enc Try.prog Try.f3 Rows.packTellsRow.domain false) (Rows.packTellsSpec.post enc Try.prog Try.f3 false true false false) := by
  refine returnsInHanded_of_change (C := Try.checked) own started (by kernel_rfl) Try.func3
    (ChangeSpec.witness6 (enc := enc) (C := Try.checked) false ⟨#[], #[.agg #[.int .i64 0, .int .i64 0, .int .i64 0, .int .i64 0]], []⟩ 8 (by kernel_rfl) (by kernel_rfl) (by kernel_rfl) (by kernel_rfl)) ?_
  intro W base args ds gs before hval0 hW hcnd _
  have hval : ∀ (j : Nat) t v, Try.f3.params[j]? = some t → args[j]? = some v → Value.okWide Try.prog W .any base t v := hval0
  have hW' := hW
  obtain ⟨p, q, hA0, hV, rfl, hfz, hnd⟩ := hW
  have hA : DataW.TrodAll enc Try.prog W 0 (fun _ => true) true Try.f3.params.toList args.toList ds p := hA0
  rw [Try.params3] at hA hval
  obtain ⟨v0, vs0, d0, ds0, p0, q0, hargs, rfl, rfl, h0, r0⟩ := trodAll_cons hA
  obtain ⟨rfl, rfl, rfl⟩ := trodAll_nil r0
  obtain rfl : args = #[v0] := by cases args; simp_all
  obtain ⟨rfl, rfl⟩ := trodVars_none hV
  clear hA0 hval0
  obtain ⟨c0, c1, c2, c3, y0, y1, y2, y3, m, rfl, rfl, rfl, hy0, hy1, hy2, hy3⟩ := Go.Joins.open_agg4 Try.underlying23 (by kernel_rfl) (by kernel_rfl) (hval 0 23 v0 rfl rfl) h0
  obtain ⟨a0, e0, _, u0⟩ := DataW.trod_int Try.underlying3 hy0
  obtain ⟨a1, e1, _, u1⟩ := DataW.trod_int Try.underlying3 hy1
  obtain ⟨a2, e2, _, u2⟩ := DataW.trod_int Try.underlying3 hy2
  obtain ⟨a3, e3, _, u3⟩ := DataW.trod_int Try.underlying3 hy3
  simp only [List.cons.injEq, and_true] at e0 e1 e2 e3
  subst e0 e1 e2 e3
  refine (walk a0 a1 a2 a3 W).mono fun e W' ⟨he, hb⟩ => ?_
  subst he
  exact ⟨_, rfl, law_post (tb := 4) (by kernel_rfl) (by kernel_rfl) (by kernel_rfl) Try.underlying4 rfl hW' rfl hb⟩

theorem over : Rows.packTellsRow.holds Try.pinned (OpenSpec.ofChange Rows.packTellsSpec) :=
  OpenClaim.holds_of_wide 3 Try.f3 rfl rfl rfl rfl rfl rfl rfl ⟨rfl, rfl, rfl, rfl, rfl⟩ rfl rfl rfl rfl rfl (by kernel_rfl) Try.func3 (by kernel_rfl)
    (of_decide_eq_true (by kernel_rfl)) (by unfold Func.isWrapper; first | (rw [if_pos (by decide +kernel)]; kernel_rfl) | (rw [if_neg (by decide +kernel)]; exact ⟨rfl, rfl⟩))
    (fun os started H enc _ => lifted os started H enc)
end PackTells

theorem packTells_holds : Rows.PackTellsSaid := PackTells.over
#print axioms packTells_holds
end Go.Proofs.Ytbkiafdmhkeffaa
