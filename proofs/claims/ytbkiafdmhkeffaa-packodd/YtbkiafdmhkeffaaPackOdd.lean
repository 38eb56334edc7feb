/- For every uint64 w, the law PackOdd (of a word that isn't packed the parts, and the next word, are those of the word modulo 2^61) returns true, and the arguments read afterwards as before. No conditions. -/
import Derived.Test.YtbkiafdmhkeffaaRows
import Derived.Test.YtbkiafdmhkeffaaShown1
import Derived.Test.YtbkiafdmhkeffaaLaw
namespace Go.Proofs.Ytbkiafdmhkeffaa
namespace PackOdd
open Go.ChangeShapes Go.WideShapes Go.ChangeAt Go.RowKit
set_option linter.unusedVariables false

theorem own : ownKnob Try.prog.godebug = none := by kernel_rfl

theorem walk (n : Int) (w : World) (hn : 0 ≤ n) (hn1 : n ≤ 18446744073709551615) :
    Calls Try.prog 10 #[.int .u64 n] w fun e w' => e = .returned (.bool true) ∧ Below w.heap.size w w' := by
  have h0 : 0 ≤ n % 2305843009213693952 := by omega
  have h1 : n % 2305843009213693952 < 2305843009213693952 := by omega
  have r1 : pRight (n % 2305843009213693952) = true := by rw [pRight_iff]; omega
  have r2 : pRight (n % 2305843009213693952 + 2305843009213693952) = false := by rw [← Bool.not_eq_true, pRight_iff]; omega
  have r3 : pRight (n % 2305843009213693952 - 2305843009213693952) = false := by rw [← Bool.not_eq_true, pRight_iff]; omega
  have e1 : pIdx (n % 2305843009213693952 + 2305843009213693952) = pIdx (n % 2305843009213693952) := by unfold pIdx; omega
  have e2 : pTag (n % 2305843009213693952 + 2305843009213693952) = pTag (n % 2305843009213693952) := by unfold pTag; omega
  have e3 : pMark (n % 2305843009213693952 - 2305843009213693952) = pMark (n % 2305843009213693952) := by unfold pMark; omega
  have e4 : pTag (n % 2305843009213693952 - 2305843009213693952) = pTag (n % 2305843009213693952) := by unfold pTag; omega
  have e5 : pNext (n % 2305843009213693952 + 2305843009213693952) 1 0 = pNext (n % 2305843009213693952) 1 0 := by unfold pNext; rw [e2]
  have e6 : pNext (n % 2305843009213693952 - 2305843009213693952) 2 1 = pNext (n % 2305843009213693952) 2 1 := by unfold pNext; rw [e4]
  go_enter Try.func10, Try.ntmps10
  go_wp2_with (first
    | (go_at_call 11; refine (shown_any _).mono ?_; rintro e w1 ⟨rfl, hb⟩)
    | (go_at_call 16; refine (index_any _ _).mono ?_; rintro e wk ⟨rfl, hk⟩; replace hb := bstep hb hk; clear hk)
    | (go_at_call 18; refine (mark_any _ _).mono ?_; rintro e wk ⟨rfl, hk⟩; replace hb := bstep hb hk; clear hk)
    | (go_at_call 20; refine (tag_any _ _).mono ?_; rintro e wk ⟨rfl, hk⟩; replace hb := bstep hb hk; clear hk)
    | (go_at_call 22; refine (next_any _ _ _ _).mono ?_; rintro e wk ⟨rfl, hk⟩; replace hb := bstep hb hk; clear hk)
    | (go_at_call 14; refine (right_any _ _).mono ?_; rintro e w' ⟨rfl, rfl⟩))
  go_ret
  exact ⟨rfl, hb⟩

set_option maxRecDepth 100000 in
theorem lifted (os : Os) (started : os.Started) (H : Type) (enc : TypeId × Value → H) :
    ReturnsInHanded {} Try.checked os 10 .any (Rows.packOddSpec.pre6 enc Try.prog Try.f10 Rows.packOddRow.domain false) (Rows.packOddSpec.post enc Try.prog Try.f10 false true false false) := by
  refine returnsInHanded_of_change (C := Try.checked) own started (by kernel_rfl) Try.func10
    (ChangeSpec.witness6 (enc := enc) (C := Try.checked) false ⟨#[], #[.int .u64 0], []⟩ 8 (by kernel_rfl) (by kernel_rfl) (by kernel_rfl) (by kernel_rfl)) ?_
  intro W base args ds gs before hval0 hW hcnd _
  have hval : ∀ (j : Nat) t v, Try.f10.params[j]? = some t → args[j]? = some v → Value.okWide Try.prog W .any base t v := hval0
  have hW' := hW
  obtain ⟨p, q, hA0, hV, rfl, hfz, hnd⟩ := hW
  have hA : DataW.TrodAll enc Try.prog W 0 (fun _ => true) true Try.f10.params.toList args.toList ds p := hA0
  rw [Try.params10] at hA hval
  obtain ⟨v0, vs0, d0, ds0, p0, q0, hargs, rfl, rfl, h0, r0⟩ := trodAll_cons hA
  obtain ⟨rfl, rfl, rfl⟩ := trodAll_nil r0
  obtain rfl : args = #[v0] := by cases args; simp_all
  obtain ⟨rfl, rfl⟩ := trodVars_none hV
  clear hA0 hval0
  obtain ⟨a0, rfl, rfl, rfl, w0⟩ := open_int Try.underlying43 (hval 0 43 v0 rfl rfl) h0
  have b0 := bounds_u64 w0
  refine (walk a0 W b0.1 b0.2).mono fun e W' ⟨he, hb⟩ => ?_
  subst he
  exact ⟨_, rfl, law_post (tb := 4) (by kernel_rfl) (by kernel_rfl) (by kernel_rfl) Try.underlying4 rfl hW' rfl hb⟩

theorem over : Rows.packOddRow.holds Try.pinned (OpenSpec.ofChange Rows.packOddSpec) :=
  OpenClaim.holds_of_wide 10 Try.f10 rfl rfl rfl rfl rfl rfl rfl ⟨rfl, rfl, rfl, rfl, rfl⟩ rfl rfl rfl rfl rfl (by kernel_rfl) Try.func10 (by kernel_rfl)
    (of_decide_eq_true (by kernel_rfl)) (by unfold Func.isWrapper; first | (rw [if_pos (by decide +kernel)]; kernel_rfl) | (rw [if_neg (by decide +kernel)]; exact ⟨rfl, rfl⟩))
    (fun os started H enc _ => lifted os started H enc)
end PackOdd

theorem packOdd_holds : Rows.PackOddSaid := PackOdd.over
#print axioms packOdd_holds
end Go.Proofs.Ytbkiafdmhkeffaa
