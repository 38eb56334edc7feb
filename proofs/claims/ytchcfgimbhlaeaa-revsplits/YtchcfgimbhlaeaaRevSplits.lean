/- For every uint16 name and uint8 k and other, the law RevSplits (of a size that is a power of 2 a name's key lies behind its bucket's, and ahead of that of each bucket of that size that has a greater key; of twice the size its bucket is the same, or one whose parent that is) returns true, and the arguments read afterwards as before. No conditions. -/
import Derived.Test.YtchcfgimbhlaeaaRows
import Derived.Test.YtchcfgimbhlaeaaRevR
import Derived.Test.YtchcfgimbhlaeaaLaw
import Derived.Lib.SmallJoins
import Derived.Deep.Cut
import Derived.Deep.RegionWith
namespace Go.Proofs.Ytchcfgimbhlaeaa
namespace RevSplits
open Go.ChangeShapes Go.WideShapes Go.ChangeAt Go.RowKit
set_option linter.unusedVariables false

theorem own : ownKnob Try.prog.godebug = none := by kernel_rfl

theorem buck_pow {n : Nat} (hn : n < 65536) {r : Nat} (hr : r ≤ 4) {S : Nat} (hS : S = 2 ^ r) : pBuck (n : Int) (S : Int) = ((n % S : Nat) : Int) := by
  have h1 : 0 < 2 ^ r := Nat.pow_pos (by omega)
  have h2 : 2 ^ r ≤ 16 := Nat.pow_le_pow_right (n := 2) (j := 4) (by omega) hr
  rw [← hS] at h1 h2
  unfold pBuck
  rw [if_pos (by omega)]
  have : ((n : Int) % 65536) = n := by omega
  rw [this]
  rfl

theorem nums (n o r : Nat) (hr : r < 4) : rv (n % 2 ^ r) ≤ rv n ∧ (rv (o % 2 ^ r) ≤ rv (n % 2 ^ r) ∨ rv n < rv (o % 2 ^ r)) ∧ rv (n % 2 ^ (r + 1)) ≤ rv n ∧
    (n % 2 ^ (r + 1) = n % 2 ^ r ∧ rv (n % 2 ^ (r + 1)) = rv (n % 2 ^ r) ∨ n % 2 ^ (r + 1) = n % 2 ^ r + 2 ^ r ∧ par (n % 2 ^ (r + 1)) = n % 2 ^ r ∧ rv (n % 2 ^ r) ≤ rv (n % 2 ^ (r + 1))) := by
  have h1 : 0 < 2 ^ r := Nat.pow_pos (by omega)
  have hb : n % 2 ^ r < 2 ^ r := Nat.mod_lt _ h1
  refine ⟨(rv_bucket n (k := r) (by omega)).2.1, ?_, (rv_bucket n (k := r + 1) (by omega)).2.1, ?_⟩
  · by_cases h : rv (o % 2 ^ r) ≤ rv (n % 2 ^ r)
    · exact .inl h
    · exact .inr (rv_greater (k := r) (by omega) (Nat.mod_lt _ h1) (by omega))
  · have e : n % 2 ^ (r + 1) = n % 2 ^ r + 2 ^ r * (n / 2 ^ r % 2) := by rw [Nat.pow_succ, Nat.mod_mul]
    rcases (show n / 2 ^ r % 2 = 0 ∨ n / 2 ^ r % 2 = 1 by omega) with h | h
    · rw [h, Nat.mul_zero, Nat.add_zero] at e
      exact .inl ⟨e.trans (by simp), by rw [e]; simp⟩
    · rw [h, Nat.mul_one] at e
      refine .inr ⟨e, ?_, ?_⟩
      · rw [e]; exact par_top hb (by omega)
      · rw [e, rv_top hb (by omega)]; exact Nat.le_add_right _ _

theorem pRev_nat {n : Nat} (h : n < 65536) : pRev n = rv n := by unfold pRev; rw [lw_nat h]

set_option maxHeartbeats 4000000 in
set_option maxRecDepth 100000 in
theorem walk (n k o : Nat) (w : World) (hn : n < 65536) (hk : k < 256) (ho : o < 256) :
    Calls Try.prog 5 #[.int .u16 n, .int .u8 k, .int .u8 o] w fun e w' => e = .returned (.bool true) ∧ w = w' := by
  obtain ⟨r, hr⟩ : ∃ r : Nat, (k : Int).tmod 4 = r := ⟨k % 4, by rw [Int.tmod_eq_emod_of_nonneg (by omega)]; omega⟩
  have hr1 : r < 4 := by rw [Int.tmod_eq_emod_of_nonneg (by omega)] at hr; omega
  have hr2 : (k : Int) % 4 = r := by rw [Int.tmod_eq_emod_of_nonneg (by omega)] at hr; exact hr
  go_enter Try.func5, Try.ntmps5
  go_wp2_with (first
    | (go_at_call 11; refine (shown10_any _).mono ?_; rintro e wk ⟨rfl, rfl⟩))
  go_loopw [8, 9] (fun y k wr => ∃ j : Nat, j ≤ r ∧ k = .int .i64 j ∧ y = .int .i64 (2 ^ j : Nat) ∧ w = wr) (fun _ k _ => r - (intOf k).toNat)
  case atStart => exact ⟨0, by omega, rfl, rfl, rfl⟩
  case round =>
    obtain ⟨j, hj, rfl, rfl, rfl⟩ := hrel
    by_cases hlt : j < r
    · have g1 := pw_lt (show j < 16 by omega)
      have f5 : Hid (2 ^ (j + 1) = 2 * 2 ^ j) := by rw [Nat.pow_succ, Nat.mul_comm]; exact hid rfl
      obtain ⟨q, hq⟩ : ∃ q, Hid (q = 2 ^ j) := ⟨_, hid rfl⟩
      rw [← hq.out] at g1 f5 ⊢
      go_wp2
      go_roundw
      case rel =>
        refine ⟨j + 1, by omega, by go_num, ?_, by first | exact rfl | rfl | trivial⟩
        rw [f5.out]
        congr 1
      case measure => simp [intOf]; omega
    · have : j = r := by omega
      subst this

      have s1 : 0 < 2 ^ j := Nat.pow_pos (by omega)
      have s2 : 2 ^ j ≤ 8 := Nat.pow_le_pow_right (n := 2) (j := 3) (by omega) (by omega)
      obtain ⟨N1, N2, N3, N4⟩ := nums n o j hr1
      have cb : ∀ w, Calls Try.prog 22 #[.int .i64 n, .int .i64 (2 ^ j : Nat)] w fun e w' => e = .returned (.int .i64 (n % 2 ^ j : Nat)) ∧ w = w' := fun w => by
        have := buck_any n (2 ^ j : Nat) w
        rw [buck_pow hn (r := j) (by omega) rfl] at this
        exact this
      have cc : ∀ w, Calls Try.prog 22 #[.int .i64 n, .int .i64 (2 * (2 ^ j : Nat))] w fun e w' => e = .returned (.int .i64 (n % 2 ^ (j + 1) : Nat)) ∧ w = w' := fun w => by
        have := buck_any n (2 ^ (j + 1) : Nat) w
        rw [buck_pow hn (r := j + 1) (by omega) rfl] at this
        rw [show (2 * ((2 ^ j : Nat) : Int)) = ((2 ^ (j + 1) : Nat) : Int) by rw [Nat.pow_succ]; omega]
        exact this
      have ct : ∀ m : Nat, m < 65536 → ∀ w, Calls Try.prog 18 #[.int .i64 m] w fun e w' => e = .returned (.int .i64 (2 * (rv m : Nat))) ∧ w = w' := fun m hm w => by
        have := sent_any m w
        rw [pRev_nat hm] at this
        exact this
      have lb : n % 2 ^ j < 2 ^ j := Nat.mod_lt _ s1
      have lc : n % 2 ^ (j + 1) ≤ n := Nat.mod_le _ _
      have lo : o % 2 ^ j < 2 ^ j := Nat.mod_lt _ s1
      have sb := ct (n % 2 ^ j) (by omega)
      have sc := ct (n % 2 ^ (j + 1)) (by omega)
      have so := ct (o % 2 ^ j) (by omega)
      have on : ∀ w, Calls Try.prog 16 #[.int .i64 n] w fun e w' => e = .returned (.int .i64 (2 * (rv n : Nat) + 1)) ∧ w = w' := fun w => by
        have := ord_any n w
        rw [pRev_nat hn] at this
        exact this
      have pc : ∀ w, Calls Try.prog 20 #[.int .i64 (n % 2 ^ (j + 1) : Nat)] w fun e w' => e = .returned (.int .i64 (par (n % 2 ^ (j + 1)) : Nat)) ∧ w = w' := fun w => by
        have := rpar_any (n % 2 ^ (j + 1) : Nat) w
        rw [lw_nat (by omega)] at this
        exact this
      have eo : (o : Int) % (2 ^ j : Nat) = (o % 2 ^ j : Nat) := rfl
      have r1 := rv_lt n
      have r2 := rv_lt (n % 2 ^ j)
      have r3 := rv_lt (n % 2 ^ (j + 1))
      have r4 := rv_lt (o % 2 ^ j)
      clear ct hr1 hr2 hj hlt
      generalize par (n % 2 ^ (j + 1)) = P at N4 pc
      generalize rv n = X at N1 N2 N3 on r1
      generalize rv (n % 2 ^ j) = B at N1 N2 N4 sb r2
      generalize rv (n % 2 ^ (j + 1)) = C at N3 N4 sc r3
      generalize rv (o % 2 ^ j) = O at N2 so r4
      generalize n % 2 ^ j = b at N4 lb sb cb
      generalize n % 2 ^ (j + 1) = c at N4 lc sc cc pc
      generalize o % 2 ^ j = p at lo so eo
      obtain ⟨S, hS⟩ : ∃ S, S = 2 ^ j := ⟨_, rfl⟩
      rw [← hS] at N4 lb lo cb cc eo s1 s2 ⊢
      clear hS
      have s3 : ((S : Int) == 0) = false := by simp; omega
      have s5 : (S : Int) ≠ 0 := by omega
      have z1 : (b : Int) < S := by omega
      have z2 : 2 * (B : Int) < 2 * (X : Int) + 1 := by omega
      have z3 : 2 * (C : Int) < 2 * (X : Int) + 1 := by omega
      have N2' : (2 * (O : Int) ≤ 2 * (B : Int)) ∨ (2 * (B : Int) < 2 * (O : Int) ∧ 2 * (X : Int) + 1 < 2 * (O : Int)) := by omega
      clear N2
      rcases N4 with ⟨rfl, rfl⟩ | ⟨h1, hP, h2⟩
      · clear pc
        rcases N2' with N2 | ⟨N2, N5⟩
        all_goals
          go_wp2_with (first
            | (go_at_call 22; (with_reducible refine (cb _).mono ?_); rintro e wk ⟨rfl, rfl⟩)
            | (go_at_call 22; (with_reducible refine (cc _).mono ?_); rintro e wk ⟨rfl, rfl⟩)
            | (go_at_call 18; (with_reducible refine (sb _).mono ?_); rintro e wk ⟨rfl, rfl⟩)
            | (go_at_call 18; (with_reducible refine (sc _).mono ?_); rintro e wk ⟨rfl, rfl⟩)
            | (go_at_call 18; (with_reducible refine (so _).mono ?_); rintro e wk ⟨rfl, rfl⟩)
            | (go_at_call 16; (with_reducible refine (on _).mono ?_); rintro e wk ⟨rfl, rfl⟩)
            | (go_at_call 20; (with_reducible refine (pc _).mono ?_); rintro e wk ⟨rfl, rfl⟩))
          go_ret
          exact ⟨rfl, rfl⟩
  
      · obtain rfl : b = P := hP.symm
        have y1 : ((c : Int) == b) = false := by simp; omega
        have y2 : (b : Int) + S = c := by omega
        have y4 : 2 * (B : Int) ≤ 2 * (C : Int) := by omega
        clear h1 h2
        rcases N2' with N2 | ⟨N2, N5⟩
        all_goals
          go_wp2_with (first
            | (go_at_call 22; (with_reducible refine (cb _).mono ?_); rintro e wk ⟨rfl, rfl⟩)
            | (go_at_call 22; (with_reducible refine (cc _).mono ?_); rintro e wk ⟨rfl, rfl⟩)
            | (go_at_call 18; (with_reducible refine (sb _).mono ?_); rintro e wk ⟨rfl, rfl⟩)
            | (go_at_call 18; (with_reducible refine (sc _).mono ?_); rintro e wk ⟨rfl, rfl⟩)
            | (go_at_call 18; (with_reducible refine (so _).mono ?_); rintro e wk ⟨rfl, rfl⟩)
            | (go_at_call 16; (with_reducible refine (on _).mono ?_); rintro e wk ⟨rfl, rfl⟩)
            | (go_at_call 20; (with_reducible refine (pc _).mono ?_); rintro e wk ⟨rfl, rfl⟩))
          go_ret
          exact ⟨rfl, rfl⟩
  
set_option maxRecDepth 100000 in
theorem lifted (os : Os) (started : os.Started) (H : Type) (enc : TypeId × Value → H) :
    ReturnsInHanded {} Try.checked os 5 .any (Rows.revSplitsSpec.pre6 enc Try.prog Try.f5 Rows.revSplitsRow.domain false) (Rows.revSplitsSpec.post enc Try.prog Try.f5 false true false false) := by
  refine returnsInHanded_of_change (C := Try.checked) own started (by kernel_rfl) Try.func5
    (ChangeSpec.witness6 (enc := enc) (C := Try.checked) false ⟨#[], #[.int .u16 0, .int .u8 0, .int .u8 0], []⟩ 8 (by kernel_rfl) (by kernel_rfl) (by kernel_rfl) (by kernel_rfl)) ?_
  intro W base args ds gs before hval0 hW hcnd _
  have hval : ∀ (j : Nat) t v, Try.f5.params[j]? = some t → args[j]? = some v → Value.okWide Try.prog W .any base t v := hval0
  have hW' := hW
  obtain ⟨p, q, hA0, hV, rfl, hfz, hnd⟩ := hW
  have hA : DataW.TrodAll enc Try.prog W 0 (fun _ => true) true Try.f5.params.toList args.toList ds p := hA0
  rw [Try.params5] at hA hval
  obtain ⟨v0, vs0, d0, ds0, p0, q0, hargs, rfl, rfl, h0, r0⟩ := trodAll_cons hA
  obtain ⟨v1, vs1, d1, ds1, p1, q1, rfl, rfl, rfl, h1, r1⟩ := trodAll_cons r0
  obtain ⟨v2, vs2, d2, ds2, p2, q2, rfl, rfl, rfl, h2, r2⟩ := trodAll_cons r1
  obtain ⟨rfl, rfl, rfl⟩ := trodAll_nil r2
  obtain rfl : args = #[v0, v1, v2] := by cases args; simp_all
  obtain ⟨rfl, rfl⟩ := trodVars_none hV
  clear hA0 hval0
  obtain ⟨a0, rfl, rfl, rfl, w0⟩ := open_int Try.underlying28 (hval 0 28 v0 rfl rfl) h0
  obtain ⟨a1, rfl, rfl, rfl, w1⟩ := open_int Try.underlying5 (hval 1 5 v1 rfl rfl) h1
  obtain ⟨a2, rfl, rfl, rfl, w2⟩ := open_int Try.underlying5 (hval 2 5 v2 rfl rfl) h2
  have b0 := bounds_u16 w0
  have b1 := bounds_u8 w1
  have b2 := bounds_u8 w2
  obtain ⟨x, rfl⟩ : ∃ x : Nat, a0 = x := ⟨a0.toNat, by omega⟩
  obtain ⟨y, rfl⟩ : ∃ y : Nat, a1 = y := ⟨a1.toNat, by omega⟩
  obtain ⟨z, rfl⟩ : ∃ z : Nat, a2 = z := ⟨a2.toNat, by omega⟩
  refine (walk x y z W (by omega) (by omega) (by omega)).mono fun e W' ⟨he, hb⟩ => ?_
  replace hb : Below W.heap.size W W' := hb ▸ Below.refl _ _
  subst he
  exact ⟨_, rfl, law_post (tb := 4) (by kernel_rfl) (by kernel_rfl) (by kernel_rfl) Try.underlying4 rfl hW' rfl hb⟩

theorem over : Rows.revSplitsRow.holds Try.pinned (OpenSpec.ofChange Rows.revSplitsSpec) :=
  OpenClaim.holds_of_wide 5 Try.f5 rfl rfl rfl rfl rfl rfl rfl ⟨rfl, rfl, rfl, rfl, rfl⟩ rfl rfl rfl rfl rfl (by kernel_rfl) Try.func5 (by kernel_rfl)
    (of_decide_eq_true (by kernel_rfl)) (by unfold Func.isWrapper; first | (rw [if_pos (by decide +kernel)]; kernel_rfl) | (rw [if_neg (by decide +kernel)]; exact ⟨rfl, rfl⟩))
    (fun os started H enc _ => lifted os started H enc)
end RevSplits

theorem revSplits_holds : Rows.RevSplitsSaid := RevSplits.over
#print axioms revSplits_holds
end Go.Proofs.Ytchcfgimbhlaeaa
