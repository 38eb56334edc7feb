/- For every int w, uint32 index, uint8 mark and uint16 n, the law PackNext (the next word has the index and the mark that are asked for, and a tag of one more, or 0; as often as up to 1000 times no word comes again) returns true, and the arguments read afterwards as before. No conditions. -/
import Derived.Test.YtbkiafdmhkeffaaRows
import Derived.Test.YtbkiafdmhkeffaaShown1
import Derived.Test.YtbkiafdmhkeffaaLaw
import Derived.Lib.SmallJoins
namespace Go.Proofs.Ytbkiafdmhkeffaa
namespace PackNext
open Go.ChangeShapes Go.WideShapes Go.ChangeAt Go.RowKit
set_option linter.unusedVariables false

theorem own : ownKnob Try.prog.godebug = none := by kernel_rfl

/-- The word that is reached behind k steps more than one. -/
def yk (a i m : Int) (k : Nat) : Int := pWord ((pTag a + 1 + k) % 1099511627776) (i % 1048576) (m % 2)
theorem yk_zero (a i m : Int) : pNext a (i % 1048576) (m % 2) = yk a i m 0 := by
  unfold pNext yk; congr 1 <;> omega
theorem yk_idx (a i m : Int) (k : Nat) : pIdx (yk a i m k) = i % 1048576 := pIdx_word _ _ _ (by omega) (by omega)
theorem yk_mark (a i m : Int) (k : Nat) : pMark (yk a i m k) = m % 2 := pMark_word _ _ _ (by omega)
theorem yk_tag (a i m : Int) (k : Nat) : pTag (yk a i m k) = (pTag a + 1 + k) % 1099511627776 := pTag_word _ _ _ (by omega) (by omega) (by omega)
theorem yk_right (a i m : Int) (k : Nat) : pRight (yk a i m k) = true := by
  rw [pRight_iff]; exact pWord_bd _ _ _ (by omega) (by omega) (by omega)
theorem yk_next (a i m : Int) (k : Nat) : pNext (yk a i m k) (i % 1048576) (m % 2) = yk a i m (k + 1) := by
  unfold pNext; rw [yk_tag]; unfold yk; congr 1 <;> omega
theorem yk_ne (a i m : Int) (k : Nat) (hk : (k : Int) < 1000) : (yk a i m (k + 1) == yk a i m 0) = false := by
  rw [beq_eq_false_iff_ne]
  intro h
  have h1 := congrArg pTag h
  rw [yk_tag, yk_tag] at h1
  omega

theorem walk (a i m n : Int) (w : World) (hi : 0 ≤ i) (hi1 : i ≤ 4294967295) (hm : 0 ≤ m) (hm1 : m ≤ 255) (hn : 0 ≤ n) (hn1 : n ≤ 65535) :
    Calls Try.prog 5 #[.agg #[.int .i64 a, .int .u32 i, .int .u8 m, .int .u16 n]] w fun e w' => e = .returned (.bool true) ∧ Below w.heap.size w w' := by
  obtain ⟨h5, h6⟩ := pTag_bd a
  have e0 := yk_zero a i m
  have e1 := yk_idx a i m 0
  have e2 := yk_mark a i m 0
  have e3 : pTag (yk a i m 0) = (pTag a + 1) % 1099511627776 := by rw [yk_tag]; simp
  have e4 := yk_right a i m 0
  have g1 : 0 ≤ n % 1000 := by omega
  have g2 : n % 1000 < 1000 := by omega
  go_enter Try.func5, Try.ntmps5
  go_wp2_with (first
    | (go_at_call 11; refine (shown_any _).mono ?_; rintro e w1 ⟨rfl, hb⟩; replace hb := bstep (boxed _ _) hb)
    | (go_at_call 16; refine (index_any _ _).mono ?_; rintro e wk ⟨rfl, hk⟩; replace hb := bstep hb hk; clear hk)
    | (go_at_call 18; refine (mark_any _ _).mono ?_; rintro e wk ⟨rfl, hk⟩; replace hb := bstep hb hk; clear hk)
    | (go_at_call 20; refine (tag_any _ _).mono ?_; rintro e wk ⟨rfl, hk⟩; replace hb := bstep hb hk; clear hk)
    | (go_at_call 22; refine (next_any _ _ _ _).mono ?_; rintro e wk ⟨rfl, hk⟩; replace hb := bstep hb hk; clear hk)
    | (go_at_call 14; refine (right_any _ _).mono ?_; rintro e w' ⟨rfl, rfl⟩))
  go_loopw [11, 12] (fun y k wr => ∃ j : Nat, (j : Int) ≤ n % 1000 ∧ k = .int .i64 j ∧ y = .int .i64 (yk a i m j) ∧ Below w.heap.size w wr) (fun _ k _ => (n % 1000).toNat - (intOf k).toNat)
  case atStart => exact ⟨0, by omega, rfl, rfl, hb⟩
  case round =>
    obtain ⟨j, hj, rfl, rfl, hbr⟩ := hrel
    clear hb
    by_cases hlt : (j : Int) < n % 1000
    · have f1 := yk_next a i m j
      have f2 := yk_ne a i m j (by omega)
      go_wp2_with (first
        | (go_at_call 22; refine (next_any _ _ _ _).mono ?_; rintro e wk ⟨rfl, hk⟩; replace hbr := bstep hbr hk; clear hk))
      go_roundw
      case rel => exact ⟨j + 1, by omega, by go_num, rfl, hbr⟩
      case measure => simp [intOf]; omega
    · have f1 : pTag (yk a i m j) = ((pTag a + 1) % 1099511627776 + n % 1000) % 1099511627776 := by rw [yk_tag]; omega
      go_wp2_with (first
        | (go_at_call 20; refine (tag_any _ _).mono ?_; rintro e wk ⟨rfl, hk⟩; replace hbr := bstep hbr hk; clear hk))
      go_ret
      exact ⟨rfl, hbr⟩

set_option maxRecDepth 100000 in
theorem lifted (os : Os) (started : os.Started) (H : Type) (enc : TypeId × Value → H) :
    ReturnsInHanded {} Try.checked os 5 .any (Rows.packNextSpec.pre6 enc Try.prog Try.f5 Rows.packNextRow.domain false) (Rows.packNextSpec.post enc Try.prog Try.f5 false true false false) := by
  refine returnsInHanded_of_change (C := Try.checked) own started (by kernel_rfl) Try.func5
    (ChangeSpec.witness6 (enc := enc) (C := Try.checked) false ⟨#[], #[.agg #[.int .i64 0, .int .u32 0, .int .u8 0, .int .u16 0]], []⟩ 8 (by kernel_rfl) (by kernel_rfl) (by kernel_rfl) (by kernel_rfl)) ?_
  intro W base args ds gs before hval0 hW hcnd _
  have hval : ∀ (j : Nat) t v, Try.f5.params[j]? = some t → args[j]? = some v → Value.okWide Try.prog W .any base t v := hval0
  have hW' := hW
  obtain ⟨p, q, hA0, hV, rfl, hfz, hnd⟩ := hW
  have hA : DataW.TrodAll enc Try.prog W 0 (fun _ => true) true Try.f5.params.toList args.toList ds p := hA0
  rw [Try.params5] at hA hval
  obtain ⟨v0, vs0, d0, ds0, p0, q0, hargs, rfl, rfl, h0, r0⟩ := trodAll_cons hA
  obtain ⟨rfl, rfl, rfl⟩ := trodAll_nil r0
  obtain rfl : args = #[v0] := by cases args; simp_all
  obtain ⟨rfl, rfl⟩ := trodVars_none hV
  clear hA0 hval0
  obtain ⟨c0, c1, c2, c3, y0, y1, y2, y3, m, rfl, rfl, rfl, hy0, hy1, hy2, hy3⟩ := Go.Joins.open_agg4 Try.underlying39 (by kernel_rfl) (by kernel_rfl) (hval 0 39 v0 rfl rfl) h0
  obtain ⟨a0, e0, _, u0⟩ := DataW.trod_int Try.underlying3 hy0
  obtain ⟨a1, e1, _, u1⟩ := DataW.trod_int Try.underlying36 hy1
  obtain ⟨a2, e2, _, u2⟩ := DataW.trod_int Try.underlying5 hy2
  obtain ⟨a3, e3, _, u3⟩ := DataW.trod_int Try.underlying37 hy3
  simp only [List.cons.injEq, and_true] at e0 e1 e2 e3
  subst e0 e1 e2 e3
  have b1 := bounds_u32 u1
  have b2 := bounds_u8 u2
  have b3 := bounds_u16 u3
  refine (walk a0 a1 a2 a3 W b1.1 b1.2 b2.1 b2.2 b3.1 b3.2).mono fun e W' ⟨he, hb⟩ => ?_
  subst he
  exact ⟨_, rfl, law_post (tb := 4) (by kernel_rfl) (by kernel_rfl) (by kernel_rfl) Try.underlying4 rfl hW' rfl hb⟩

theorem over : Rows.packNextRow.holds Try.pinned (OpenSpec.ofChange Rows.packNextSpec) :=
  OpenClaim.holds_of_wide 5 Try.f5 rfl rfl rfl rfl rfl rfl rfl ⟨rfl, rfl, rfl, rfl, rfl⟩ rfl rfl rfl rfl rfl (by kernel_rfl) Try.func5 (by kernel_rfl)
    (of_decide_eq_true (by kernel_rfl)) (by unfold Func.isWrapper; first | (rw [if_pos (by decide +kernel)]; kernel_rfl) | (rw [if_neg (by decide +kernel)]; exact ⟨rfl, rfl⟩))
    (fun os started H enc _ => lifted os started H enc)
end PackNext

theorem packNext_holds : Rows.PackNextSaid := PackNext.over
#print axioms packNext_holds
end Go.Proofs.Ytbkiafdmhkeffaa
