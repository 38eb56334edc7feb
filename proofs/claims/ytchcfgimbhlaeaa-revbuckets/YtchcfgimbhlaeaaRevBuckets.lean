/- For every uint16 name and int size, the law RevBuckets (a name's bucket is below the size, and is the name less a multiple of it; sizes that aren't from 1 to 16 have bucket 0) returns true, and the arguments read afterwards as before. No conditions. -/
import Derived.Test.YtchcfgimbhlaeaaRows
import Derived.Test.YtchcfgimbhlaeaaRevR
import Derived.Test.YtchcfgimbhlaeaaLaw
import Derived.Lib.SmallJoins
import Derived.Deep.Cut
import Derived.Deep.RegionWith
namespace Go.Proofs.Ytchcfgimbhlaeaa
namespace RevBuckets
open Go.ChangeShapes Go.WideShapes Go.ChangeAt Go.RowKit
set_option linter.unusedVariables false

theorem own : ownKnob Try.prog.godebug = none := by kernel_rfl

theorem walk (n size : Int) (w : World) (hn : 0 ≤ n) (hn1 : n ≤ 65535) :
    Calls Try.prog 9 #[.int .u16 n, .int .i64 size] w fun e w' => e = .returned (.bool true) ∧ w = w' := by
  by_cases h1 : size < 1
  · have e : pBuck n size = 0 := if_neg (by omega)
    go_enter Try.func9, Try.ntmps9
    go_wp2_with (first
      | (go_at_call 11; refine (shown10_any _).mono ?_; rintro e wk ⟨rfl, rfl⟩)
      | (go_at_call 22; refine (buck_any _ _ _).mono ?_; rintro e wk ⟨rfl, rfl⟩))
    go_ret
    exact ⟨rfl, rfl⟩
  · by_cases h2 : 16 < size
    · have e : pBuck n size = 0 := if_neg (by omega)
      go_enter Try.func9, Try.ntmps9
      go_wp2_with (first
        | (go_at_call 11; refine (shown10_any _).mono ?_; rintro e wk ⟨rfl, rfl⟩)
        | (go_at_call 22; refine (buck_any _ _ _).mono ?_; rintro e wk ⟨rfl, rfl⟩))
      go_ret
      exact ⟨rfl, rfl⟩
    · have h3 : (size == 0) = false := by simp; omega
      have e1 : pBuck n size = n % size := by unfold pBuck; rw [if_pos (by omega), Int.emod_eq_of_lt hn (by omega)]
      have e2 : pBuck (n + 65536) size = n % size := by unfold pBuck; rw [if_pos (by omega), Int.add_emod_right, Int.emod_eq_of_lt hn (by omega)]
      have h4 := Int.emod_nonneg n (b := size) (by omega)
      have h5 := Int.emod_lt_of_pos n (b := size) (by omega)
      have h6 : (n - n % size).tmod size = 0 := Int.tmod_eq_zero_of_dvd ⟨n / size, by have := Int.mul_ediv_add_emod n size; omega⟩
      obtain ⟨b, hb⟩ : ∃ b, Hid (b = n % size) := ⟨_, hid rfl⟩
      rw [← hb.out] at e1 e2 h4 h5 h6
      go_enter Try.func9, Try.ntmps9
      go_wp2_with (first
        | (go_at_call 11; refine (shown10_any _).mono ?_; rintro e wk ⟨rfl, rfl⟩)
        | (go_at_call 22; refine (buck_any _ _ _).mono ?_; rintro e wk ⟨rfl, rfl⟩))
      go_ret
      exact ⟨rfl, rfl⟩

set_option maxRecDepth 100000 in
theorem lifted (os : Os) (started : os.Started) (H : Type) (enc : TypeId × Value → H) :
    ReturnsInHanded {} Try.checked os 9 .any (Rows.revBucketsSpec.pre6 enc Try.prog Try.f9 Rows.revBucketsRow.domain false) (Rows.revBucketsSpec.post enc Try.prog Try.f9 false true false false) := by
  refine returnsInHanded_of_change (C := Try.checked) own started (by kernel_rfl) Try.func9
    (ChangeSpec.witness6 (enc := enc) (C := Try.checked) false ⟨#[], #[.int .u16 0, .int .i64 0], []⟩ 8 (by kernel_rfl) (by kernel_rfl) (by kernel_rfl) (by kernel_rfl)) ?_
  intro W base args ds gs before hval0 hW hcnd _
  have hval : ∀ (j : Nat) t v, Try.f9.params[j]? = some t → args[j]? = some v → Value.okWide Try.prog W .any base t v := hval0
  have hW' := hW
  obtain ⟨p, q, hA0, hV, rfl, hfz, hnd⟩ := hW
  have hA : DataW.TrodAll enc Try.prog W 0 (fun _ => true) true Try.f9.params.toList args.toList ds p := hA0
  rw [Try.params9] at hA hval
  obtain ⟨v0, vs0, d0, ds0, p0, q0, hargs, rfl, rfl, h0, r0⟩ := trodAll_cons hA
  obtain ⟨v1, vs1, d1, ds1, p1, q1, rfl, rfl, rfl, h1, r1⟩ := trodAll_cons r0
  obtain ⟨rfl, rfl, rfl⟩ := trodAll_nil r1
  obtain rfl : args = #[v0, v1] := by cases args; simp_all
  obtain ⟨rfl, rfl⟩ := trodVars_none hV
  clear hA0 hval0
  obtain ⟨a0, rfl, rfl, rfl, w0⟩ := open_int Try.underlying28 (hval 0 28 v0 rfl rfl) h0
  obtain ⟨a1, rfl, rfl, rfl, w1⟩ := open_int Try.underlying3 (hval 1 3 v1 rfl rfl) h1
  have b0 := bounds_u16 w0
  refine (walk a0 a1 W b0.1 b0.2).mono fun e W' ⟨he, hb⟩ => ?_
  replace hb : Below W.heap.size W W' := hb ▸ Below.refl _ _
  subst he
  exact ⟨_, rfl, law_post (tb := 4) (by kernel_rfl) (by kernel_rfl) (by kernel_rfl) Try.underlying4 rfl hW' rfl hb⟩

theorem over : Rows.revBucketsRow.holds Try.pinned (OpenSpec.ofChange Rows.revBucketsSpec) :=
  OpenClaim.holds_of_wide 9 Try.f9 rfl rfl rfl rfl rfl rfl rfl ⟨rfl, rfl, rfl, rfl, rfl⟩ rfl rfl rfl rfl rfl (by kernel_rfl) Try.func9 (by kernel_rfl)
    (of_decide_eq_true (by kernel_rfl)) (by unfold Func.isWrapper; first | (rw [if_pos (by decide +kernel)]; kernel_rfl) | (rw [if_neg (by decide +kernel)]; exact ⟨rfl, rfl⟩))
    (fun os started H enc _ => lifted os started H enc)
end RevBuckets

theorem revBuckets_holds : Rows.RevBucketsSaid := RevBuckets.over
#print axioms revBuckets_holds
end Go.Proofs.Ytchcfgimbhlaeaa
