/- For every int w, uint32 index and uint64 tag, the law PackOne (a mark more, another index, or another tag, changes that part alone) returns true, and the arguments read afterwards as before. No conditions. -/
import Derived.Test.YtbkiafdmhkeffaaRows
import Derived.Test.YtbkiafdmhkeffaaShown1
import Derived.Test.YtbkiafdmhkeffaaLaw
namespace Go.Proofs.Ytbkiafdmhkeffaa
namespace PackOne
open Go.ChangeShapes Go.WideShapes Go.ChangeAt Go.RowKit
set_option linter.unusedVariables false

theorem own : ownKnob Try.prog.godebug = none := by kernel_rfl

theorem walk_no (a i t : Int) (w : World) (hr : pRight a = false) :
    Calls Try.prog 8 #[.int .i64 a, .int .u32 i, .int .u64 t] w fun e w' => e = .returned (.bool true) ∧ Below w.heap.size w w' := by
  go_enter Try.func8, Try.ntmps8
  go_wp2_with (first
    | (go_at_call 11; refine (shown_any _).mono ?_; rintro e w1 ⟨rfl, hb⟩)
    | (go_at_call 16; refine (index_any _ _).mono ?_; rintro e wk ⟨rfl, hk⟩; replace hb := bstep hb hk; clear hk)
    | (go_at_call 18; refine (mark_any _ _).mono ?_; rintro e wk ⟨rfl, hk⟩; replace hb := bstep hb hk; clear hk)
    | (go_at_call 20; refine (tag_any _ _).mono ?_; rintro e wk ⟨rfl, hk⟩; replace hb := bstep hb hk; clear hk)
    | (go_at_call 22; refine (next_any _ _ _ _).mono ?_; rintro e wk ⟨rfl, hk⟩; replace hb := bstep hb hk; clear hk)
    | (go_at_call 14; refine (right_any _ _).mono ?_; rintro e w' ⟨rfl, rfl⟩))
  go_ret
  exact ⟨rfl, hb⟩

theorem walk_yes (a i t : Int) (w : World) (hr : pRight a = true) (hi : 0 ≤ i) (hi1 : i ≤ 4294967295) (ht : 0 ≤ t) (ht1 : t ≤ 18446744073709551615) :
    Calls Try.prog 8 #[.int .i64 a, .int .u32 i, .int .u64 t] w fun e w' => e = .returned (.bool true) ∧ Below w.heap.size w w' := by
  obtain ⟨h1, h2⟩ := pIdx_bd a
  obtain ⟨h3, h4⟩ := pMark_bd a
  obtain ⟨h5, h6⟩ := pTag_bd a
  have g1 : 0 ≤ i % 1048576 := by omega
  have g2 : i % 1048576 < 1048576 := by omega
  have g3 : 0 ≤ t % 1099511627776 := by omega
  have g4 : t % 1099511627776 < 1099511627776 := by omega
  have k1 : pOk (pTag a) (i % 1048576) (pMark a) = true := by rw [pOk_iff]; omega
  have k2 : pOk (t % 1099511627776) (pIdx a) (pMark a) = true := by rw [pOk_iff]; omega
  have k3 : pOk (pTag a) (pIdx a) (1 - pMark a) = true := by rw [pOk_iff]; omega
  have e1 : pIdx (pWord (pTag a) (i % 1048576) (pMark a)) = i % 1048576 := pIdx_word _ _ _ (by omega) (by omega)
  have e2 : pTag (pWord (pTag a) (i % 1048576) (pMark a)) = pTag a := pTag_word _ _ _ (by omega) (by omega) (by omega)
  have e3 : pTag (pWord (t % 1099511627776) (pIdx a) (pMark a)) = t % 1099511627776 := pTag_word _ _ _ (by omega) (by omega) (by omega)
  have e4 : pIdx (pWord (t % 1099511627776) (pIdx a) (pMark a)) = pIdx a := pIdx_word _ _ _ (by omega) (by omega)
  have e5 : pMark (pWord (pTag a) (pIdx a) (1 - pMark a)) = 1 - pMark a := pMark_word _ _ _ (by omega)
  have e6 : pIdx (pWord (pTag a) (pIdx a) (1 - pMark a)) = pIdx a := pIdx_word _ _ _ (by omega) (by omega)
  have e7 : pMark (pWord (pTag a) (i % 1048576) (pMark a)) = pMark a := pMark_word _ _ _ (by omega)
  have e8 : pMark (pWord (t % 1099511627776) (pIdx a) (pMark a)) = pMark a := pMark_word _ _ _ (by omega)
  have e9 : (1 - pMark a != pMark a) = true := by simp; omega
  go_enter Try.func8, Try.ntmps8
  go_wp2_with (first
    | (go_at_call 11; refine (shown_any _).mono ?_; rintro e w1 ⟨rfl, hb⟩)
    | (go_at_call 12; refine (of_yes _ _ _ _ (by assumption)).mono ?_; rintro e w' ⟨rfl, rfl⟩)
    | (go_at_call 16; refine (index_any _ _).mono ?_; rintro e wk ⟨rfl, hk⟩; replace hb := bstep hb hk; clear hk)
    | (go_at_call 18; refine (mark_any _ _).mono ?_; rintro e wk ⟨rfl, hk⟩; replace hb := bstep hb hk; clear hk)
    | (go_at_call 20; refine (tag_any _ _).mono ?_; rintro e wk ⟨rfl, hk⟩; replace hb := bstep hb hk; clear hk)
    | (go_at_call 22; refine (next_any _ _ _ _).mono ?_; rintro e wk ⟨rfl, hk⟩; replace hb := bstep hb hk; clear hk)
    | (go_at_call 14; refine (right_any _ _).mono ?_; rintro e w' ⟨rfl, rfl⟩))
  go_ret
  exact ⟨rfl, hb⟩

set_option maxRecDepth 100000 in
theorem lifted (os : Os) (started : os.Started) (H : Type) (enc : TypeId × Value → H) :
    ReturnsInHanded {} Try.checked os 8 .any (Rows.packOneSpec.pre6 enc Try.prog Try.f8 Rows.packOneRow.domain false) (Rows.packOneSpec.post enc Try.prog Try.f8 false true false false) := by
  refine returnsInHanded_of_change (C := Try.checked) own started (by kernel_rfl) Try.func8
    (ChangeSpec.witness6 (enc := enc) (C := Try.checked) false ⟨#[], #[.int .i64 0, .int .u32 0, .int .u64 0], []⟩ 8 (by kernel_rfl) (by kernel_rfl) (by kernel_rfl) (by kernel_rfl)) ?_
  intro W base args ds gs before hval0 hW hcnd _
  have hval : ∀ (j : Nat) t v, Try.f8.params[j]? = some t → args[j]? = some v → Value.okWide Try.prog W .any base t v := hval0
  have hW' := hW
  obtain ⟨p, q, hA0, hV, rfl, hfz, hnd⟩ := hW
  have hA : DataW.TrodAll enc Try.prog W 0 (fun _ => true) true Try.f8.params.toList args.toList ds p := hA0
  rw [Try.params8] at hA hval
  obtain ⟨v0, vs0, d0, ds0, p0, q0, hargs, rfl, rfl, h0, r0⟩ := trodAll_cons hA
  obtain ⟨v1, vs1, d1, ds1, p1, q1, rfl, rfl, rfl, h1, r1⟩ := trodAll_cons r0
  obtain ⟨v2, vs2, d2, ds2, p2, q2, rfl, rfl, rfl, h2, r2⟩ := trodAll_cons r1
  obtain ⟨rfl, rfl, rfl⟩ := trodAll_nil r2
  obtain rfl : args = #[v0, v1, v2] := by cases args; simp_all
  obtain ⟨rfl, rfl⟩ := trodVars_none hV
  clear hA0 hval0
  obtain ⟨a0, rfl, rfl, rfl, w0⟩ := open_int Try.underlying3 (hval 0 3 v0 rfl rfl) h0
  obtain ⟨a1, rfl, rfl, rfl, w1⟩ := open_int Try.underlying36 (hval 1 36 v1 rfl rfl) h1
  obtain ⟨a2, rfl, rfl, rfl, w2⟩ := open_int Try.underlying43 (hval 2 43 v2 rfl rfl) h2
  have b1 := bounds_u32 w1
  have b2 := bounds_u64 w2
  have hc : Calls Try.prog 8 #[.int .i64 a0, .int .u32 a1, .int .u64 a2] W fun e w' => e = .returned (.bool true) ∧ Below W.heap.size W w' := by
    cases hr : pRight a0
    · exact walk_no a0 a1 a2 W hr
    · exact walk_yes a0 a1 a2 W hr b1.1 b1.2 b2.1 b2.2
  refine hc.mono fun e W' ⟨he, hb⟩ => ?_
  subst he
  exact ⟨_, rfl, law_post (tb := 4) (by kernel_rfl) (by kernel_rfl) (by kernel_rfl) Try.underlying4 rfl hW' rfl hb⟩

theorem over : Rows.packOneRow.holds Try.pinned (OpenSpec.ofChange Rows.packOneSpec) :=
  OpenClaim.holds_of_wide 8 Try.f8 rfl rfl rfl rfl rfl rfl rfl ⟨rfl, rfl, rfl, rfl, rfl⟩ rfl rfl rfl rfl rfl (by kernel_rfl) Try.func8 (by kernel_rfl)
    (of_decide_eq_true (by kernel_rfl)) (by unfold Func.isWrapper; first | (rw [if_pos (by decide +kernel)]; kernel_rfl) | (rw [if_neg (by decide +kernel)]; exact ⟨rfl, rfl⟩))
    (fun os started H enc _ => lifted os started H enc)
end PackOne

theorem packOne_holds : Rows.PackOneSaid := PackOne.over
#print axioms packOne_holds
end Go.Proofs.Ytbkiafdmhkeffaa
