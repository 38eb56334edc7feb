/- For every int w, the law PackParts (a word's parts lie within their widths, and a packed word is their sum, each times its weight) returns true, and the arguments read afterwards as before. No conditions. -/
import Derived.Test.YtbkiafdmhkeffaaRows
import Derived.Test.YtbkiafdmhkeffaaShown1
import Derived.Test.YtbkiafdmhkeffaaLaw
namespace Go.Proofs.Ytbkiafdmhkeffaa
namespace PackParts
open Go.ChangeShapes Go.WideShapes Go.ChangeAt Go.RowKit
set_option linter.unusedVariables false

theorem own : ownKnob Try.prog.godebug = none := by kernel_rfl

theorem sum_iff (a : Int) : (pRight a == (a == pTag a * 2097152 + pIdx a * 2 + pMark a)) = true := by
  rw [beq_iff_eq, Bool.eq_iff_iff, pRight_iff, beq_iff_eq]
  unfold pTag pIdx pMark
  omega

theorem walk (a : Int) (w : World) : Calls Try.prog 7 #[.int .i64 a] w fun e w' => e = .returned (.bool true) ∧ Below w.heap.size w w' := by
  obtain ⟨h1, h2⟩ := pIdx_bd a
  obtain ⟨h3, h4⟩ := pMark_bd a
  obtain ⟨h5, h6⟩ := pTag_bd a
  have hs := sum_iff a
  go_enter Try.func7, Try.ntmps7
  go_wp2_with (first
    | (go_at_call 11; refine (shown_any _).mono ?_; rintro e w1 ⟨rfl, hb⟩)
    | (go_at_call 16; refine (index_any _ _).mono ?_; rintro e wk ⟨rfl, hk⟩; replace hb := bstep hb hk; clear hk)
    | (go_at_call 18; refine (mark_any _ _).mono ?_; rintro e wk ⟨rfl, hk⟩; replace hb := bstep hb hk; clear hk)
    | (go_at_call 20; refine (tag_any _ _).mono ?_; rintro e wk ⟨rfl, hk⟩; replace hb := bstep hb hk; clear hk)
    | (go_at_call 22; refine (next_any _ _ _ _).mono ?_; rintro e wk ⟨rfl, hk⟩; replace hb := bstep hb hk; clear hk)
    | (go_at_call 14; refine (right_any _ _).mono ?_; rintro e w' ⟨rfl, rfl⟩))
  go_ret
  exact ⟨rfl, hb⟩

set_option maxRecDepth 100000 in
theorem lifted (os : Os) (started : os.Started) (H : Type) (enc : TypeId × Value → H) :
    ReturnsInHanded {} Try.checked os 7 .any (Rows.packPartsSpec.pre6 enc Try.prog Try.f7 Rows.packPartsRow.domain false) (Rows.packPartsSpec.post enc Try.prog Try.f7 false true false false) := by
  refine returnsInHanded_of_change (C := Try.checked) own started (by kernel_rfl) Try.func7
    (ChangeSpec.witness6 (enc := enc) (C := Try.checked) false ⟨#[], #[.int .i64 0], []⟩ 8 (by kernel_rfl) (by kernel_rfl) (by kernel_rfl) (by kernel_rfl)) ?_
  intro W base args ds gs before hval0 hW hcnd _
  have hval : ∀ (j : Nat) t v, Try.f7.params[j]? = some t → args[j]? = some v → Value.okWide Try.prog W .any base t v := hval0
  have hW' := hW
  obtain ⟨p, q, hA0, hV, rfl, hfz, hnd⟩ := hW
  have hA : DataW.TrodAll enc Try.prog W 0 (fun _ => true) true Try.f7.params.toList args.toList ds p := hA0
  rw [Try.params7] at hA hval
  obtain ⟨v0, vs0, d0, ds0, p0, q0, hargs, rfl, rfl, h0, r0⟩ := trodAll_cons hA
  obtain ⟨rfl, rfl, rfl⟩ := trodAll_nil r0
  obtain rfl : args = #[v0] := by cases args; simp_all
  obtain ⟨rfl, rfl⟩ := trodVars_none hV
  clear hA0 hval0
  obtain ⟨a0, rfl, rfl, rfl, w0⟩ := open_int Try.underlying3 (hval 0 3 v0 rfl rfl) h0
  refine (walk a0 W).mono fun e W' ⟨he, hb⟩ => ?_
  subst he
  exact ⟨_, rfl, law_post (tb := 4) (by kernel_rfl) (by kernel_rfl) (by kernel_rfl) Try.underlying4 rfl hW' rfl hb⟩

theorem over : Rows.packPartsRow.holds Try.pinned (OpenSpec.ofChange Rows.packPartsSpec) :=
  OpenClaim.holds_of_wide 7 Try.f7 rfl rfl rfl rfl rfl rfl rfl ⟨rfl, rfl, rfl, rfl, rfl⟩ rfl rfl rfl rfl rfl (by kernel_rfl) Try.func7 (by kernel_rfl)
    (of_decide_eq_true (by kernel_rfl)) (by unfold Func.isWrapper; first | (rw [if_pos (by decide +kernel)]; kernel_rfl) | (rw [if_neg (by decide +kernel)]; exact ⟨rfl, rfl⟩))
    (fun os started H enc _ => lifted os started H enc)
end PackParts

theorem packParts_holds : Rows.PackPartsSaid := PackParts.over
#print axioms packParts_holds
end Go.Proofs.Ytbkiafdmhkeffaa
