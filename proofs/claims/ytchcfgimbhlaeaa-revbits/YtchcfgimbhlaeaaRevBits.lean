/- For every int n and uint8 k, the law RevBits (each of the 16 lowest bits stands at 15 less its place; higher ones count for nothing; there are as many set) returns true, and the arguments read afterwards as before. No conditions. -/
import Derived.Test.YtchcfgimbhlaeaaRows
import Derived.Test.YtchcfgimbhlaeaaRevR
import Derived.Test.YtchcfgimbhlaeaaLaw
import Derived.Lib.SmallJoins
import Derived.Deep.Cut
import Derived.Deep.RegionWith
namespace Go.Proofs.Ytchcfgimbhlaeaa
namespace RevBits
open Go.ChangeShapes Go.WideShapes Go.ChangeAt Go.RowKit
set_option linter.unusedVariables false

theorem own : ownKnob Try.prog.godebug = none := by kernel_rfl

theorem halves (x j : Nat) : x / 2 ^ (j + 1) = x / 2 ^ j / 2 := by rw [Nat.pow_succ, Nat.div_div_eq_div_mul]

theorem rest (n : Int) (x i a : Nat) (hi : i < 16) (hx : Hid (x = lw n)) (ha : Hid (a = pRev n)) : Hid (a / 2 ^ (15 - i) % 2 = x / 2 ^ i % 2) := by
  rw [hx.out, ha.out]
  exact hid (rv_bit (lw n) hi)

set_option maxRecDepth 100000 in
theorem walk (n k : Int) (w : World) (hk : 0 ≤ k) (hk1 : k ≤ 255) :
    Calls Try.prog 7 #[.int .i64 n, .int .u8 k] w fun e w' => e = .returned (.bool true) ∧ w = w' := by
  obtain ⟨i, hi⟩ : ∃ i : Nat, k.tmod 16 = i := ⟨(k % 16).toNat, by rw [Int.tmod_eq_emod_of_nonneg hk]; omega⟩
  have hi1 : i < 16 := by rw [Int.tmod_eq_emod_of_nonneg hk] at hi; omega
  have hl := lw_lt n
  have hr := pRev_lt n
  obtain ⟨x, hx⟩ : ∃ x, Hid (x = lw n) := ⟨_, hid rfl⟩
  obtain ⟨a, ha⟩ : ∃ a, Hid (a = pRev n) := ⟨_, hid rfl⟩
  have hbit := rest n x i a hi1 hx ha
  have ra : ∀ w, Calls Try.prog 14 #[.int .i64 n] w fun e w' => e = .returned (.int .i64 a) ∧ w = w' := by
    intro w
    rw [ha.out]
    exact rev_any n w
  have rx : ∀ w, Calls Try.prog 14 #[.int .i64 x] w fun e w' => e = .returned (.int .i64 a) ∧ w = w' := by
    intro w
    have := rev_any x w
    rw [show pRev x = a by rw [ha.out, hx.out]; unfold pRev; rw [lw_lw]] at this
    exact this
  have rs : ∀ w, Calls Try.prog 18 #[.int .i64 n] w fun e w' => e = .returned (.int .i64 (2 * a)) ∧ w = w' := by
    intro w
    rw [ha.out]
    exact sent_any n w
  rw [← hx.out] at hl
  rw [← ha.out] at hr
  have hlx := lw_int n
  rw [← hx.out] at hlx
  have h3 : (n.tmod 65536 < 0 ∧ n.tmod 65536 + 65536 = x ∧ -65536 < n.tmod 65536) ∨ (0 ≤ n.tmod 65536 ∧ n.tmod 65536 = x) := by
    rw [hlx]
    exact tmod_low n
  clear hlx
  rcases h3 with ⟨h3, h4, h5⟩ | ⟨h3, h4⟩
  all_goals
    go_enter Try.func7, Try.ntmps7
    go_wp2_with (first
      | (go_at_call 11; refine (shown10_any _).mono ?_; rintro e wk ⟨rfl, rfl⟩)
      | (go_at_call 14; (with_reducible refine (ra _).mono ?_); rintro e wk ⟨rfl, rfl⟩))
    go_loopw [9, 10] (fun y k wr => ∃ j : Nat, j ≤ i ∧ k = .int .i64 j ∧ y = .int .i64 (x / 2 ^ j : Nat) ∧ w = wr) (fun _ k _ => i - (intOf k).toNat)
    case atStart => exact ⟨0, by omega, rfl, by simp, rfl⟩
    case round =>
      obtain ⟨j, hj, rfl, rfl, rfl⟩ := hrel
      by_cases hlt : j < i
      · have f1 : x / 2 ^ j ≤ x := Nat.div_le_self _ _
        have f5 : Hid (x / 2 ^ (j + 1) = x / 2 ^ j / 2) := hid (halves x j)
        obtain ⟨y, hy⟩ : ∃ y, Hid (y = x / 2 ^ j) := ⟨_, hid rfl⟩
        rw [← hy.out] at f1 f5 ⊢
        go_wp2
        go_roundw
        case rel =>
          refine ⟨j + 1, by omega, by go_num, ?_, by first | rfl | trivial⟩
          rw [f5.out]
          congr 1
        case measure => simp [intOf]; omega
      · have : j = i := by omega
        subst this
        obtain ⟨y, hy⟩ : ∃ y, Hid (y = x / 2 ^ j) := ⟨_, hid rfl⟩
        have f1 : x / 2 ^ j ≤ x := Nat.div_le_self _ _
        rw [← hy.out] at hbit f1 ⊢
        go_wp2
        go_loopw [11, 12] (fun z k wr => ∃ l : Nat, l ≤ 15 - j ∧ k = .int .i64 l ∧ z = .int .i64 (a / 2 ^ l : Nat) ∧ w = wr) (fun _ k _ => 15 - j - (intOf k).toNat)
        case atStart => exact ⟨0, by omega, rfl, by simp, rfl⟩
        case round =>
          obtain ⟨l, hl2, rfl, rfl, rfl⟩ := hrel
          by_cases hlt2 : l < 15 - j
          · have f1 : a / 2 ^ l ≤ a := Nat.div_le_self _ _
            have f5 : Hid (a / 2 ^ (l + 1) = a / 2 ^ l / 2) := hid (halves a l)
            obtain ⟨z, hz⟩ : ∃ z, Hid (z = a / 2 ^ l) := ⟨_, hid rfl⟩
            rw [← hz.out] at f1 f5 ⊢
            go_wp2
            go_roundw
            case rel =>
              refine ⟨l + 1, by omega, by go_num, ?_, by first | rfl | trivial⟩
              rw [f5.out]
              congr 1
            case measure => simp [intOf]; omega
          · have e15 : Hid (l = 15 - j) := hid (by omega)
            rw [← e15.out] at hbit
            obtain ⟨z, hz⟩ : ∃ z, Hid (z = a / 2 ^ l) := ⟨_, hid rfl⟩
            rw [← hz.out] at hbit ⊢
            have heq : (15 : Int) - j = l := by have := e15.out; omega
            have hb4 : (a : Int) < 65536 := by omega
            clear e15 hl2 hlt2
            have hb3 : ((y : Int) % 2 == (z : Int) % 2) = true := by have := hbit.out; simp; omega
            go_wp2_with (first
              | (go_at_call 14; (with_reducible refine (rx _).mono ?_); rintro e wk ⟨rfl, rfl⟩)
              | (go_at_call 18; (with_reducible refine (rs _).mono ?_); rintro e wk ⟨rfl, rfl⟩))
            go_ret
            exact ⟨rfl, rfl⟩

set_option maxRecDepth 100000 in
theorem lifted (os : Os) (started : os.Started) (H : Type) (enc : TypeId × Value → H) :
    ReturnsInHanded {} Try.checked os 7 .any (Rows.revBitsSpec.pre6 enc Try.prog Try.f7 Rows.revBitsRow.domain false) (Rows.revBitsSpec.post enc Try.prog Try.f7 false true false false) := by
  refine returnsInHanded_of_change (C := Try.checked) own started (by kernel_rfl) Try.func7
    (ChangeSpec.witness6 (enc := enc) (C := Try.checked) false ⟨#[], #[.int .i64 0, .int .u8 0], []⟩ 8 (by kernel_rfl) (by kernel_rfl) (by kernel_rfl) (by kernel_rfl)) ?_
  intro W base args ds gs before hval0 hW hcnd _
  have hval : ∀ (j : Nat) t v, Try.f7.params[j]? = some t → args[j]? = some v → Value.okWide Try.prog W .any base t v := hval0
  have hW' := hW
  obtain ⟨p, q, hA0, hV, rfl, hfz, hnd⟩ := hW
  have hA : DataW.TrodAll enc Try.prog W 0 (fun _ => true) true Try.f7.params.toList args.toList ds p := hA0
  rw [Try.params7] at hA hval
  obtain ⟨v0, vs0, d0, ds0, p0, q0, hargs, rfl, rfl, h0, r0⟩ := trodAll_cons hA
  obtain ⟨v1, vs1, d1, ds1, p1, q1, rfl, rfl, rfl, h1, r1⟩ := trodAll_cons r0
  obtain ⟨rfl, rfl, rfl⟩ := trodAll_nil r1
  obtain rfl : args = #[v0, v1] := by cases args; simp_all
  obtain ⟨rfl, rfl⟩ := trodVars_none hV
  clear hA0 hval0
  obtain ⟨a0, rfl, rfl, rfl, w0⟩ := open_int Try.underlying3 (hval 0 3 v0 rfl rfl) h0
  obtain ⟨a1, rfl, rfl, rfl, w1⟩ := open_int Try.underlying5 (hval 1 5 v1 rfl rfl) h1
  have b1 := bounds_u8 w1
  refine (walk a0 a1 W b1.1 b1.2).mono fun e W' ⟨he, hb⟩ => ?_
  replace hb : Below W.heap.size W W' := hb ▸ Below.refl _ _
  subst he
  exact ⟨_, rfl, law_post (tb := 4) (by kernel_rfl) (by kernel_rfl) (by kernel_rfl) Try.underlying4 rfl hW' rfl hb⟩

theorem over : Rows.revBitsRow.holds Try.pinned (OpenSpec.ofChange Rows.revBitsSpec) :=
  OpenClaim.holds_of_wide 7 Try.f7 rfl rfl rfl rfl rfl rfl rfl ⟨rfl, rfl, rfl, rfl, rfl⟩ rfl rfl rfl rfl rfl (by kernel_rfl) Try.func7 (by kernel_rfl)
    (of_decide_eq_true (by kernel_rfl)) (by unfold Func.isWrapper; first | (rw [if_pos (by decide +kernel)]; kernel_rfl) | (rw [if_neg (by decide +kernel)]; exact ⟨rfl, rfl⟩))
    (fun os started H enc _ => lifted os started H enc)
end RevBits

theorem revBits_holds : Rows.RevBitsSaid := RevBits.over
#print axioms revBits_holds
end Go.Proofs.Ytchcfgimbhlaeaa
