/- For every two arrays of three ints, the law PackApart (two words of tags, indices and marks that may be are the same just if these are; a greater tag makes a greater word) returns true, and the arguments read afterwards as before. No conditions. -/
import Derived.Test.YtbkiafdmhkeffaaRows
import Derived.Test.YtbkiafdmhkeffaaShown1
import Derived.Test.YtbkiafdmhkeffaaLaw
namespace Go.Proofs.Ytbkiafdmhkeffaa
namespace PackApart
open Go.ChangeShapes Go.WideShapes Go.ChangeAt Go.RowKit
set_option linter.unusedVariables false

theorem own : ownKnob Try.prog.godebug = none := by kernel_rfl

theorem same_iff (a b c x y z : Int) (h : pOk a b c = true) (k : pOk x y z = true) : ((pWord a b c == pWord x y z) == (a == x && (b == y && c == z))) = true := by
  rw [pOk_iff] at h k
  rw [beq_iff_eq, Bool.eq_iff_iff]
  simp only [Bool.and_eq_true, beq_iff_eq]
  unfold pWord
  omega
theorem word_lt (a b c x y z : Int) (h : pOk a b c = true) (k : pOk x y z = true) (hl : a < x) : pWord a b c < pWord x y z := by
  rw [pOk_iff] at h k
  unfold pWord
  omega
theorem size_int (w : World) : (sizeOf 3).run Try.prog w = .ok 1 w := by kernel_rfl

/-- The two boxes' cells behind the first call. -/
theorem cells_of (w w1 : World) (a b : Array Value) (hb : Below ((w.alloc (.cells a 41)).alloc (.cells b 41)).heap.size ((w.alloc (.cells a 41)).alloc (.cells b 41)) w1) (i : Nat) :
    w1.cell? ⟨w.heap.size, i, none⟩ = a[i]? ∧ w1.cell? ⟨w.heap.size + 1, i, none⟩ = b[i]? := by
  constructor
  · rw [hb.cell (by simp; omega)]; go_simp
  · rw [hb.cell (by simp)]; go_simp

theorem walk (a b c x y z : Int) (w : World) :
    Calls Try.prog 6 #[.agg #[.int .i64 a, .int .i64 b, .int .i64 c], .agg #[.int .i64 x, .int .i64 y, .int .i64 z]] w fun e w' => e = .returned (.bool true) ∧ Below w.heap.size w w' := by
  have hE := fun w => run_eql_arr3 (P := Try.prog) w 41 3 .i64 Try.underlying41 Try.underlying3 size_int a b c x y z
  have hS := same_iff a b c x y z
  have hL := word_lt a b c x y z
  cases hp : pOk a b c <;> cases hq : pOk x y z
  case true.true =>
    replace hS := hS hp hq
    replace hL := hL hp hq
    by_cases hlt : x ≤ a
    · clear hL
      go_enter Try.func6, Try.ntmps6
      go_wp2_with (first
        | (go_at_call 11; refine (shown_any _).mono ?_; rintro e w1 ⟨rfl, hb⟩; have c0 := cells_of w w1 _ _ hb 0; have c1 := cells_of w w1 _ _ hb 1; have c2 := cells_of w w1 _ _ hb 2; simp at c0 c1 c2; obtain ⟨d0, f0⟩ := c0; obtain ⟨d1, f1⟩ := c1; obtain ⟨d2, f2⟩ := c2; replace hb := bstep (boxed _ _) (bstep (boxed _ _) hb))
        | (go_at_call 12; refine (of_yes _ _ _ _ (by assumption)).mono ?_; rintro e w' ⟨rfl, rfl⟩)
        | (go_at_call 12; refine (of_no _ _ _ _ (by assumption)).mono ?_; rintro e w' ⟨rfl, rfl⟩))
      go_ret
      exact ⟨rfl, hb⟩
    · replace hL := hL (by omega)
      go_enter Try.func6, Try.ntmps6
      go_wp2_with (first
        | (go_at_call 11; refine (shown_any _).mono ?_; rintro e w1 ⟨rfl, hb⟩; have c0 := cells_of w w1 _ _ hb 0; have c1 := cells_of w w1 _ _ hb 1; have c2 := cells_of w w1 _ _ hb 2; simp at c0 c1 c2; obtain ⟨d0, f0⟩ := c0; obtain ⟨d1, f1⟩ := c1; obtain ⟨d2, f2⟩ := c2; replace hb := bstep (boxed _ _) (bstep (boxed _ _) hb))
        | (go_at_call 12; refine (of_yes _ _ _ _ (by assumption)).mono ?_; rintro e w' ⟨rfl, rfl⟩)
        | (go_at_call 12; refine (of_no _ _ _ _ (by assumption)).mono ?_; rintro e w' ⟨rfl, rfl⟩))
      go_ret
      exact ⟨rfl, hb⟩
  all_goals
    clear hS hL
    go_enter Try.func6, Try.ntmps6
    go_wp2_with (first
      | (go_at_call 11; refine (shown_any _).mono ?_; rintro e w1 ⟨rfl, hb⟩; have c0 := cells_of w w1 _ _ hb 0; have c1 := cells_of w w1 _ _ hb 1; have c2 := cells_of w w1 _ _ hb 2; simp at c0 c1 c2; obtain ⟨d0, f0⟩ := c0; obtain ⟨d1, f1⟩ := c1; obtain ⟨d2, f2⟩ := c2; replace hb := bstep (boxed _ _) (bstep (boxed _ _) hb))
      | (go_at_call 12; refine (of_yes _ _ _ _ (by assumption)).mono ?_; rintro e w' ⟨rfl, rfl⟩)
      | (go_at_call 12; refine (of_no _ _ _ _ (by assumption)).mono ?_; rintro e w' ⟨rfl, rfl⟩))
    go_ret
    exact ⟨rfl, hb⟩

set_option maxRecDepth 100000 in
theorem lifted (os : Os) (started : os.Started) (H : Type) (enc : TypeId × Value → H) :
    ReturnsInHanded {} Try.checked os 6 .any (Rows.packApartSpec.pre6 enc Try.prog Try.f6 Rows.packApartRow.domain false) (Rows.packApartSpec.post enc Try.prog Try.f6 false true false false) := by
  refine returnsInHanded_of_change (C := Try.checked) own started (by kernel_rfl) Try.func6
    (ChangeSpec.witness6 (enc := enc) (C := Try.checked) false ⟨#[], #[.agg #[.int .i64 0, .int .i64 0, .int .i64 0], .agg #[.int .i64 0, .int .i64 0, .int .i64 0]], []⟩ 8 (by kernel_rfl) (by kernel_rfl) (by kernel_rfl) (by kernel_rfl)) ?_
  intro W base args ds gs before hval0 hW hcnd _
  have hval : ∀ (j : Nat) t v, Try.f6.params[j]? = some t → args[j]? = some v → Value.okWide Try.prog W .any base t v := hval0
  have hW' := hW
  obtain ⟨p, q, hA0, hV, rfl, hfz, hnd⟩ := hW
  have hA : DataW.TrodAll enc Try.prog W 0 (fun _ => true) true Try.f6.params.toList args.toList ds p := hA0
  rw [Try.params6] at hA hval
  obtain ⟨v0, vs0, d0, ds0, p0, q0, hargs, rfl, rfl, h0, r0⟩ := trodAll_cons hA
  obtain ⟨v1, vs1, d1, ds1, p1, q1, rfl, rfl, rfl, h1, r1⟩ := trodAll_cons r0
  obtain ⟨rfl, rfl, rfl⟩ := trodAll_nil r1
  obtain rfl : args = #[v0, v1] := by cases args; simp_all
  obtain ⟨rfl, rfl⟩ := trodVars_none hV
  clear hA0 hval0
  obtain ⟨a0, a1, a2, rfl⟩ := open_arr3 Try.underlying41 Try.underlying3 (by kernel_rfl) (by kernel_rfl) (hval 0 41 v0 rfl rfl) h0
  obtain ⟨b0, b1, b2, rfl⟩ := open_arr3 Try.underlying41 Try.underlying3 (by kernel_rfl) (by kernel_rfl) (hval 1 41 v1 rfl rfl) h1
  refine (walk a0 a1 a2 b0 b1 b2 W).mono fun e W' ⟨he, hb⟩ => ?_
  subst he
  exact ⟨_, rfl, law_post (tb := 4) (by kernel_rfl) (by kernel_rfl) (by kernel_rfl) Try.underlying4 rfl hW' rfl hb⟩

theorem over : Rows.packApartRow.holds Try.pinned (OpenSpec.ofChange Rows.packApartSpec) :=
  OpenClaim.holds_of_wide 6 Try.f6 rfl rfl rfl rfl rfl rfl rfl ⟨rfl, rfl, rfl, rfl, rfl⟩ rfl rfl rfl rfl rfl (by kernel_rfl) Try.func6 (by kernel_rfl)
    (of_decide_eq_true (by kernel_rfl)) (by unfold Func.isWrapper; first | (rw [if_pos (by decide +kernel)]; kernel_rfl) | (rw [if_neg (by decide +kernel)]; exact ⟨rfl, rfl⟩))
    (fun os started H enc _ => lifted os started H enc)
end PackApart

theorem packApart_holds : Rows.PackApartSaid := PackApart.over
#print axioms packApart_holds
end Go.Proofs.Ytbkiafdmhkeffaa
