/- For every two uint16 a and b, the law RevBack (in the other order twice it is the number; keys tell their names; names' keys are odd, buckets' even; two of one kind have the same key just if they are the same) returns true, and the arguments read afterwards as before. No conditions. -/
import Derived.Test.YtchcfgimbhlaeaaRows
import Derived.Test.YtchcfgimbhlaeaaRevR
import Derived.Test.YtchcfgimbhlaeaaLaw
import Derived.Lib.SmallJoins
import Derived.Deep.Cut
import Derived.Deep.RegionWith
namespace Go.Proofs.Ytchcfgimbhlaeaa
namespace RevBack
open Go.ChangeShapes Go.WideShapes Go.ChangeAt Go.RowKit
set_option linter.unusedVariables false

theorem own : ownKnob Try.prog.godebug = none := by kernel_rfl

theorem walk (x y : Nat) (w : World) (hx : x < 65536) (hy : y < 65536) :
    Calls Try.prog 4 #[.int .u16 x, .int .u16 y] w fun e w' => e = .returned (.bool true) ∧ w = w' := by
  have h1 := pRev_lt x
  have h2 := pRev_lt y
  have e1 : pRev (pRev x : Nat) = x := by rw [pRev_back, lw_nat hx]
  have k1 : isKey (2 * (pRev x : Nat) + 1) := by unfold isKey; omega
  have k2 : ¬ isKey (2 * (pRev x : Nat)) := by unfold isKey; omega
  have e2 : (2 * ((pRev x : Nat) : Int) + 1) / 2 = (pRev x : Nat) := by omega
  have m1 : (2 * ((pRev x : Nat) : Int) + 1).tmod 2 = 1 := by rw [Int.tmod_eq_emod_of_nonneg (by omega)]; omega
  have m2 : (2 * ((pRev x : Nat) : Int)).tmod 2 = 0 := by rw [Int.tmod_eq_emod_of_nonneg (by omega)]; omega
  have ny : ∀ w, Calls Try.prog 12 #[.int .i64 (2 * (pRev x : Nat) + 1)] w fun e w' => e = .returned (.tuple #[.int .i64 x, .bool true]) ∧ w = w' := by
    intro w
    have := name_yes _ w k1
    rw [e2, e1] at this
    exact this
  have nn : ∀ w, Calls Try.prog 12 #[.int .i64 (2 * (pRev x : Nat))] w fun e w' => e = .returned (.tuple #[.int .i64 0, .bool false]) ∧ w = w' :=
    fun w => name_no _ w k2 (by omega)
  clear e2 k1 k2
  by_cases hxy : x = y
  · subst hxy
    go_enter Try.func4, Try.ntmps4
    go_wp2_with (first
      | (go_at_call 11; refine (shown10_any _).mono ?_; rintro e wk ⟨rfl, rfl⟩)
      | (go_at_call 14; refine (rev_any _ _).mono ?_; rintro e wk ⟨rfl, rfl⟩)
      | (go_at_call 16; refine (ord_any _ _).mono ?_; rintro e wk ⟨rfl, rfl⟩)
      | (go_at_call 18; refine (sent_any _ _).mono ?_; rintro e wk ⟨rfl, rfl⟩)
      | (go_at_call 12; (with_reducible refine (ny _).mono ?_); rintro e wk ⟨rfl, rfl⟩)
      | (go_at_call 12; (with_reducible refine (nn _).mono ?_); rintro e wk ⟨rfl, rfl⟩))
    go_ret
    exact ⟨rfl, rfl⟩
  · have h3 : pRev x ≠ pRev y := fun h => hxy (rv_inj hx hy (by unfold pRev at h; rw [lw_nat hx, lw_nat hy] at h; exact h))
    have q1 : (((2 * ((pRev x : Nat) : Int) + 1) == (2 * ((pRev y : Nat) : Int) + 1)) = false) := by simp; omega
    have q2 : (((2 * ((pRev x : Nat) : Int)) == (2 * ((pRev y : Nat) : Int))) = false) := by simp; omega
    have q3 : ((x : Int) == (y : Int)) = false := by simp; omega
    go_enter Try.func4, Try.ntmps4
    go_wp2_with (first
      | (go_at_call 11; refine (shown10_any _).mono ?_; rintro e wk ⟨rfl, rfl⟩)
      | (go_at_call 14; refine (rev_any _ _).mono ?_; rintro e wk ⟨rfl, rfl⟩)
      | (go_at_call 16; refine (ord_any _ _).mono ?_; rintro e wk ⟨rfl, rfl⟩)
      | (go_at_call 18; refine (sent_any _ _).mono ?_; rintro e wk ⟨rfl, rfl⟩)
      | (go_at_call 12; (with_reducible refine (ny _).mono ?_); rintro e wk ⟨rfl, rfl⟩)
      | (go_at_call 12; (with_reducible refine (nn _).mono ?_); rintro e wk ⟨rfl, rfl⟩))
    go_ret
    exact ⟨rfl, rfl⟩

set_option maxRecDepth 100000 in
theorem lifted (os : Os) (started : os.Started) (H : Type) (enc : TypeId × Value → H) :
    ReturnsInHanded {} Try.checked os 4 .any (Rows.revBackSpec.pre6 enc Try.prog Try.f4 Rows.revBackRow.domain false) (Rows.revBackSpec.post enc Try.prog Try.f4 false true false false) := by
  refine returnsInHanded_of_change (C := Try.checked) own started (by kernel_rfl) Try.func4
    (ChangeSpec.witness6 (enc := enc) (C := Try.checked) false ⟨#[], #[.int .u16 0, .int .u16 0], []⟩ 8 (by kernel_rfl) (by kernel_rfl) (by kernel_rfl) (by kernel_rfl)) ?_
  intro W base args ds gs before hval0 hW hcnd _
  have hval : ∀ (j : Nat) t v, Try.f4.params[j]? = some t → args[j]? = some v → Value.okWide Try.prog W .any base t v := hval0
  have hW' := hW
  obtain ⟨p, q, hA0, hV, rfl, hfz, hnd⟩ := hW
  have hA : DataW.TrodAll enc Try.prog W 0 (fun _ => true) true Try.f4.params.toList args.toList ds p := hA0
  rw [Try.params4] at hA hval
  obtain ⟨v0, vs0, d0, ds0, p0, q0, hargs, rfl, rfl, h0, r0⟩ := trodAll_cons hA
  obtain ⟨v1, vs1, d1, ds1, p1, q1, rfl, rfl, rfl, h1, r1⟩ := trodAll_cons r0
  obtain ⟨rfl, rfl, rfl⟩ := trodAll_nil r1
  obtain rfl : args = #[v0, v1] := by cases args; simp_all
  obtain ⟨rfl, rfl⟩ := trodVars_none hV
  clear hA0 hval0
  obtain ⟨a0, rfl, rfl, rfl, w0⟩ := open_int Try.underlying28 (hval 0 28 v0 rfl rfl) h0
  obtain ⟨a1, rfl, rfl, rfl, w1⟩ := open_int Try.underlying28 (hval 1 28 v1 rfl rfl) h1
  have b0 := bounds_u16 w0
  have b1 := bounds_u16 w1
  obtain ⟨x, rfl⟩ : ∃ x : Nat, a0 = x := ⟨a0.toNat, by omega⟩
  obtain ⟨y, rfl⟩ : ∃ y : Nat, a1 = y := ⟨a1.toNat, by omega⟩
  refine (walk x y W (by omega) (by omega)).mono fun e W' ⟨he, hb⟩ => ?_
  replace hb : Below W.heap.size W W' := hb ▸ Below.refl _ _
  subst he
  exact ⟨_, rfl, law_post (tb := 4) (by kernel_rfl) (by kernel_rfl) (by kernel_rfl) Try.underlying4 rfl hW' rfl hb⟩

theorem over : Rows.revBackRow.holds Try.pinned (OpenSpec.ofChange Rows.revBackSpec) :=
  OpenClaim.holds_of_wide 4 Try.f4 rfl rfl rfl rfl rfl rfl rfl ⟨rfl, rfl, rfl, rfl, rfl⟩ rfl rfl rfl rfl rfl (by kernel_rfl) Try.func4 (by kernel_rfl)
    (of_decide_eq_true (by kernel_rfl)) (by unfold Func.isWrapper; first | (rw [if_pos (by decide +kernel)]; kernel_rfl) | (rw [if_neg (by decide +kernel)]; exact ⟨rfl, rfl⟩))
    (fun os started H enc _ => lifted os started H enc)
end RevBack

theorem revBack_holds : Rows.RevBackSaid := RevBack.over
#print axioms revBack_holds
end Go.Proofs.Ytchcfgimbhlaeaa
