/- For every four bytes, the law HazPlaces (each core's each slot stands at a place of its own, from 8 to 31; none is another one's) returns true, and the arguments read afterwards as before. No conditions. -/
import Derived.Test.YtgjpgbdloflfbaaRows
import Derived.Test.YtgjpgbdloflfbaaShown5
import Derived.Test.YtgjpgbdloflfbaaKBas
import Derived.Lib.SmallJoins
namespace Go.Proofs.Ytgjpgbdloflfbaa
namespace HazPlaces
open Go.ChangeShapes Go.WideShapes Go.ChangeAt Go.RowKit
set_option linter.unusedVariables false

theorem own : ownKnob Try.prog.godebug = none := by kernel_rfl

set_option maxRecDepth 100000 in
set_option maxHeartbeats 4000000 in
theorem walk (a b i k : Int) (w : World) (ha : 0 ≤ a) (ha1 : a ≤ 255) (hb : 0 ≤ b) (hb1 : b ≤ 255) (hi : 0 ≤ i) (hi1 : i ≤ 255) (hk : 0 ≤ k) (hk1 : k ≤ 255) :
    Calls Try.prog 10 #[.agg #[.int .u8 a, .int .u8 b, .int .u8 i, .int .u8 k]] w fun e w' => e = .returned (.bool true) ∧ Below w.heap.size w w' := by
  have p1 : pPlace (a % 8) (i % 3) = 8 + 3 * (a % 8) + i % 3 := pPlace_in (by omega) (by omega) (by omega) (by omega)
  have p2 : pPlace (b % 8) (k % 3) = 8 + 3 * (b % 8) + k % 3 := pPlace_in (by omega) (by omega) (by omega) (by omega)
  have p3 : pPlace (a % 8) 2 = 8 + 3 * (a % 8) + 2 := pPlace_in (by omega) (by omega) (by omega) (by omega)
  have p4 : pPlace (a % 8) 0 = 8 + 3 * (a % 8) + 0 := pPlace_in (by omega) (by omega) (by omega) (by omega)
  have q1 : decide (8 ≤ pPlace (a % 8) (i % 3)) = true := by rw [p1]; simp; omega
  have q2 : decide (pPlace (a % 8) (i % 3) < 32) = true := by rw [p1]; simp; omega
  have q4 : (pPlace (a % 8) 2 == wrap64 (pPlace (a % 8) 0 + 2)) = true := by rw [p3, p4, beq_iff_eq]; unfold wrap64; omega
  rcases Bool.eq_false_or_eq_true (a % 8 == b % 8) with h | h
  · have q3 : ((pPlace (a % 8) (i % 3) == pPlace (b % 8) (k % 3)) == (i % 3 == k % 3)) = true := by
      rw [p1, p2, beq_iff_eq, Bool.eq_iff_iff]; simp only [beq_iff_eq] at h ⊢; omega
    clear p1 p2 p3 p4
    go_enter Try.func10, Try.ntmps10
    go_wp2_with (first
      | (go_at_call 22; refine (shown5_any _).mono ?_; rintro e w1 ⟨rfl, hb⟩; replace hb := bstep (boxed _ _) hb)
      | (go_at_call 24; (with_reducible refine (place_w _ _ _).mono ?_); rintro e wK ⟨rfl, rfl⟩))
    go_ret
    exact ⟨rfl, hb⟩
  · have q3 : (pPlace (a % 8) (i % 3) == pPlace (b % 8) (k % 3)) = false := by
      rw [p1, p2]; simp only [beq_eq_false_iff_ne] at h ⊢; omega
    clear p1 p2 p3 p4
    go_enter Try.func10, Try.ntmps10
    go_wp2_with (first
      | (go_at_call 22; refine (shown5_any _).mono ?_; rintro e w1 ⟨rfl, hb⟩; replace hb := bstep (boxed _ _) hb)
      | (go_at_call 24; (with_reducible refine (place_w _ _ _).mono ?_); rintro e wK ⟨rfl, rfl⟩))
    go_ret
    exact ⟨rfl, hb⟩

set_option maxRecDepth 100000 in
theorem lifted (os : Os) (started : os.Started) (H : Type) (enc : TypeId × Value → H) :
    ReturnsInHanded {} Try.checked os 10 .any (Rows.hazPlacesSpec.pre6 enc Try.prog Try.f10 Rows.hazPlacesRow.domain false) (Rows.hazPlacesSpec.post enc Try.prog Try.f10 false true false false) := by
  refine returnsInHanded_of_change (C := Try.checked) own started (by kernel_rfl) Try.func10
    (ChangeSpec.witness6 (enc := enc) (C := Try.checked) false ⟨#[], #[.agg #[.int .u8 0, .int .u8 0, .int .u8 0, .int .u8 0]], []⟩ 8 (by kernel_rfl) (by kernel_rfl) (by kernel_rfl) (by kernel_rfl)) ?_
  intro W base args ds gs before hval0 hW hcnd _
  have hval : ∀ (j : Nat) t v, Try.f10.params[j]? = some t → args[j]? = some v → Value.okWide Try.prog W .any base t v := hval0
  have hW' := hW
  obtain ⟨p, q, hA0, hV, rfl, hfz, hnd⟩ := hW
  have hA : DataW.TrodAll enc Try.prog W 0 (fun _ => true) true Try.f10.params.toList args.toList ds p := hA0
  rw [Try.params10] at hA hval
  obtain ⟨v0, vs0, d0, ds0, p0, q0, hargs, rfl, rfl, h0, r0⟩ := trodAll_cons hA
  obtain ⟨rfl, rfl, rfl⟩ := trodAll_nil r0
  obtain rfl : args = #[v0] := by cases args; simp_all
  obtain ⟨rfl, rfl⟩ := trodVars_none hV
  clear hA0 hval0
  obtain ⟨c0, c1, c2, c3, y0, y1, y2, y3, m, rfl, rfl, rfl, hy0, hy1, hy2, hy3⟩ := Go.Joins.open_agg4 Try.underlying74 (by kernel_rfl) (by kernel_rfl) (hval 0 74 v0 rfl rfl) h0
  obtain ⟨a0, e0, _, u0⟩ := DataW.trod_int Try.underlying5 hy0
  obtain ⟨a1, e1, _, u1⟩ := DataW.trod_int Try.underlying5 hy1
  obtain ⟨a2, e2, _, u2⟩ := DataW.trod_int Try.underlying5 hy2
  obtain ⟨a3, e3, _, u3⟩ := DataW.trod_int Try.underlying5 hy3
  simp only [List.cons.injEq, and_true] at e0 e1 e2 e3
  subst e0 e1 e2 e3
  have b0 := bounds_u8 u0
  have b1 := bounds_u8 u1
  have b2 := bounds_u8 u2
  have b3 := bounds_u8 u3
  refine (walk a0 a1 a2 a3 W b0.1 b0.2 b1.1 b1.2 b2.1 b2.2 b3.1 b3.2).mono fun e W' ⟨he, hb⟩ => ?_
  subst he
  exact ⟨_, rfl, law_post (tb := 4) (by kernel_rfl) (by kernel_rfl) (by kernel_rfl) Try.underlying4 rfl hW' rfl hb⟩

theorem over : Rows.hazPlacesRow.holds Try.pinned (OpenSpec.ofChange Rows.hazPlacesSpec) :=
  OpenClaim.holds_of_wide 10 Try.f10 rfl rfl rfl rfl rfl rfl rfl ⟨rfl, rfl, rfl, rfl, rfl⟩ rfl rfl rfl rfl rfl (by kernel_rfl) Try.func10 (by kernel_rfl)
    (of_decide_eq_true (by kernel_rfl)) (by unfold Func.isWrapper; first | (rw [if_pos (by decide +kernel)]; kernel_rfl) | (rw [if_neg (by decide +kernel)]; exact ⟨rfl, rfl⟩))
    (fun os started H enc _ => lifted os started H enc)
end HazPlaces

theorem hazPlaces_holds : Rows.HazPlacesSaid := HazPlaces.over
#print axioms hazPlaces_holds
end Go.Proofs.Ytgjpgbdloflfbaa
