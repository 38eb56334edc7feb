/- For every uint16 A and B and uint8 K and Other, the law RevOrder (between a bucket's key and the next one of that size there are just its names' keys: of two names of one bucket, of a size that is a power of 2, no key of another bucket lies between) returns true, and the argument reads afterwards as before. No conditions. -/
import Derived.Test.YtchcfgimbhlaeaaRows
import Derived.Test.YtchcfgimbhlaeaaRevR
import Derived.Test.YtchcfgimbhlaeaaLaw
import Derived.Lib.SmallJoins
import Derived.Deep.Cut
import Derived.Deep.RegionWith
namespace Go.Proofs.Ytchcfgimbhlaeaa
namespace RevOrder
open Go.ChangeShapes Go.WideShapes Go.ChangeAt Go.RowKit
set_option linter.unusedVariables false

theorem own : ownKnob Try.prog.godebug = none := by kernel_rfl

theorem buck_pow {n : Nat} (hn : n < 65536) {r : Nat} (hr : r ≤ 4) : pBuck (n : Int) (2 ^ r : Nat) = ((n % 2 ^ r : Nat) : Int) := by
  have h1 : 0 < 2 ^ r := Nat.pow_pos (by omega)
  have h2 : 2 ^ r ≤ 16 := Nat.pow_le_pow_right (n := 2) (j := 4) (by omega) hr
  obtain ⟨S, hS⟩ : ∃ S, S = 2 ^ r := ⟨_, rfl⟩
  rw [← hS] at h1 h2 ⊢
  unfold pBuck
  rw [if_pos (by omega)]
  have : ((n : Int) % 65536) = n := by omega
  rw [this]
  rfl

theorem pRev_nat {n : Nat} (h : n < 65536) : pRev n = rv n := by unfold pRev; rw [lw_nat h]

theorem nums (x y0 o r : Nat) (hx : x < 65536) (hy : y0 < 65536) (hr : r ≤ 4) : ∃ y, y = y0 / 2 ^ r * 2 ^ r + x % 2 ^ r ∧ y < 65536 ∧ y % 2 ^ r = x % 2 ^ r ∧
    (rv (o % 2 ^ r) ≤ rv x ∧ rv (o % 2 ^ r) ≤ rv y ∨ rv x < rv (o % 2 ^ r) ∧ rv y < rv (o % 2 ^ r)) := by
  have h1 : 0 < 2 ^ r := Nat.pow_pos (by omega)
  have hb : x % 2 ^ r < 2 ^ r := Nat.mod_lt _ h1
  refine ⟨_, rfl, ?_, ?_, ?_⟩
  · have e : 65536 = 2 ^ (16 - r) * 2 ^ r := by rw [← Nat.pow_add, show 16 - r + r = 16 by omega]
    have h2 : y0 / 2 ^ r < 2 ^ (16 - r) := by rw [Nat.div_lt_iff_lt_mul h1, ← e]; exact hy
    have h3 : (y0 / 2 ^ r + 1) * 2 ^ r ≤ 2 ^ (16 - r) * 2 ^ r := Nat.mul_le_mul_right _ h2
    rw [Nat.add_mul, Nat.one_mul, ← e] at h3
    omega
  · rw [Nat.mul_comm, Nat.mul_add_mod, Nat.mod_eq_of_lt hb]
  · have ey : (y0 / 2 ^ r * 2 ^ r + x % 2 ^ r) % 2 ^ r = x % 2 ^ r := by rw [Nat.mul_comm, Nat.mul_add_mod, Nat.mod_eq_of_lt hb]
    have b1 := (rv_bucket x (k := r) (by omega)).2.1
    have b2 := (rv_bucket (y0 / 2 ^ r * 2 ^ r + x % 2 ^ r) (k := r) (by omega)).2.1
    rw [ey] at b2
    by_cases h : rv (o % 2 ^ r) ≤ rv (x % 2 ^ r)
    · left; omega
    · right
      refine ⟨rv_greater (k := r) (by omega) (Nat.mod_lt _ h1) (by omega), rv_greater (k := r) (by omega) (Nat.mod_lt _ h1) ?_⟩
      rw [ey]
      omega

set_option maxHeartbeats 4000000 in
set_option maxRecDepth 100000 in
theorem walk (x y0 k o : Nat) (w : World) (hx : x < 65536) (hy0 : y0 < 65536) (hk : k < 256) (ho : o < 256) :
    Calls Try.prog 10 #[.agg #[.int .u16 x, .int .u16 y0, .int .u8 k, .int .u8 o]] w fun e w' => e = .returned (.bool true) ∧ Below w.heap.size w w' := by
  obtain ⟨r, hr⟩ : ∃ r : Nat, (k : Int).tmod 5 = r := ⟨k % 5, by rw [Int.tmod_eq_emod_of_nonneg (by omega)]; omega⟩
  have hr1 : r < 5 := by rw [Int.tmod_eq_emod_of_nonneg (by omega)] at hr; omega
  have hr2 : (k : Int) % 5 = r := by rw [Int.tmod_eq_emod_of_nonneg (by omega)] at hr; exact hr
  go_enter Try.func10, Try.ntmps10
  go_wp2_with (first
    | (go_at_call 11; refine (shown10_any _).mono ?_; rintro e wk ⟨rfl, rfl⟩))
  have hb := boxed w (.cells #[.int .u16 x, .int .u16 y0, .int .u8 k, .int .u8 o] 36)
  generalize w.alloc (.cells #[.int .u16 x, .int .u16 y0, .int .u8 k, .int .u8 o] 36) = w1 at hb ⊢
  go_loopw [8, 9] (fun y k wr => ∃ j : Nat, j ≤ r ∧ k = .int .i64 j ∧ y = .int .i64 (2 ^ j : Nat) ∧ wr = w1) (fun _ k _ => r - (intOf k).toNat)
  case atStart => exact ⟨0, by omega, rfl, rfl, rfl⟩
  case round =>
    obtain ⟨j, hj, rfl, rfl, rfl⟩ := hrel
    by_cases hlt : j < r
    · have g1 := pw_lt (show j < 16 by omega)
      have f5 : Hid (2 ^ (j + 1) = 2 * 2 ^ j) := by rw [Nat.pow_succ, Nat.mul_comm]; exact hid rfl
      obtain ⟨q, hq⟩ : ∃ q, Hid (q = 2 ^ j) := ⟨_, hid rfl⟩
      rw [← hq.out] at g1 f5 ⊢
      go_wp2
      go_roundw
      case rel =>
        refine ⟨j + 1, by omega, by go_num, ?_, by first | exact rfl | rfl | trivial⟩
        rw [f5.out]
        congr 1
      case measure => simp [intOf]; omega
    · have : j = r := by omega
      subst this

      have s1 : 0 < 2 ^ j := Nat.pow_pos (by omega)
      have s2 : 2 ^ j ≤ 16 := Nat.pow_le_pow_right (n := 2) (j := 4) (by omega) (by omega)
      obtain ⟨y, N1, N2, N3, N4⟩ := nums x y0 o j hx hy0 (by omega)
      have cb : ∀ w, Calls Try.prog 22 #[.int .i64 x, .int .i64 (2 ^ j : Nat)] w fun e w' => e = .returned (.int .i64 (x % 2 ^ j : Nat)) ∧ w = w' := fun w => by
        have := buck_any x (2 ^ j : Nat) w
        rw [buck_pow hx (r := j) (by omega)] at this
        exact this
      have cc : ∀ w, Calls Try.prog 22 #[.int .i64 y, .int .i64 (2 ^ j : Nat)] w fun e w' => e = .returned (.int .i64 (x % 2 ^ j : Nat)) ∧ w = w' := fun w => by
        have := buck_any y (2 ^ j : Nat) w
        rw [buck_pow N2 (r := j) (by omega), N3] at this
        exact this
      have lo : o % 2 ^ j < 2 ^ j := Nat.mod_lt _ s1
      have lx : x % 2 ^ j < 2 ^ j := Nat.mod_lt _ s1
      have so : ∀ w, Calls Try.prog 18 #[.int .i64 (o % 2 ^ j : Nat)] w fun e w' => e = .returned (.int .i64 (2 * (rv (o % 2 ^ j) : Nat))) ∧ w = w' := fun w => by
        have := sent_any (o % 2 ^ j : Nat) w
        rw [pRev_nat (by omega)] at this
        exact this
      have ox : ∀ w, Calls Try.prog 16 #[.int .i64 x] w fun e w' => e = .returned (.int .i64 (2 * (rv x : Nat) + 1)) ∧ w = w' := fun w => by
        have := ord_any x w
        rw [pRev_nat hx] at this
        exact this
      have oy : ∀ w, Calls Try.prog 16 #[.int .i64 y] w fun e w' => e = .returned (.int .i64 (2 * (rv y : Nat) + 1)) ∧ w = w' := fun w => by
        have := ord_any y w
        rw [pRev_nat N2] at this
        exact this
      have eo : (o : Int) % (2 ^ j : Nat) = (o % 2 ^ j : Nat) := rfl
      have ey : (y0 : Int) / (2 ^ j : Nat) = (y0 / 2 ^ j : Nat) := rfl
      have em : ((y0 / 2 ^ j : Nat) : Int) * (2 ^ j : Nat) = (y0 / 2 ^ j * 2 ^ j : Nat) := rfl
      have le : y0 / 2 ^ j * 2 ^ j ≤ y0 := Nat.div_mul_le_self _ _
      have le2 : y0 / 2 ^ j ≤ y0 := Nat.div_le_self _ _
      have ea : ((y0 / 2 ^ j * 2 ^ j : Nat) : Int) + (x % 2 ^ j : Nat) = y := by rw [N1]; rfl
      have r1 := rv_lt x
      have r2 := rv_lt y
      have r3 := rv_lt (o % 2 ^ j)
      clear hr1 hr2 hj hlt N1 N3
      generalize rv x = X at N4 ox r1
      generalize rv y = Y at N4 oy r2
      generalize rv (o % 2 ^ j) = O at N4 so r3
      generalize x % 2 ^ j = b at lx cb cc ea
      generalize o % 2 ^ j = p at lo so eo
      generalize y0 / 2 ^ j * 2 ^ j = m at em ea le
      generalize y0 / 2 ^ j = q at em ey le2
      obtain ⟨S, hS⟩ : ∃ S, S = 2 ^ j := ⟨_, rfl⟩
      rw [← hS] at lo lx cb cc eo ey em s1 s2 ⊢
      clear hS
      have s3 : ((S : Int) == 0) = false := by simp; omega
      have s5 : (S : Int) ≠ 0 := by omega
      have z1 : ¬ (65535 : Int) < y := by omega
      have N4' : (2 * (O : Int) < 2 * (X : Int) + 1 ∧ 2 * (O : Int) < 2 * (Y : Int) + 1) ∨ (2 * (X : Int) + 1 < 2 * (O : Int) ∧ 2 * (Y : Int) + 1 < 2 * (O : Int)) := by omega
      clear N4
      rcases N4' with ⟨N4, N5⟩ | ⟨N4, N5⟩
      all_goals
        by_cases hXY : (2 * (X : Int) + 1) ≤ 2 * (Y : Int) + 1
        all_goals
          go_upto_region 12 with (fail)
          go_region_with (first
            | (go_at_call 22; (with_reducible refine (cb _).mono ?_); rintro e wk ⟨rfl, rfl⟩)
            | (go_at_call 22; (with_reducible refine (cc _).mono ?_); rintro e wk ⟨rfl, rfl⟩)
            | (go_at_call 18; (with_reducible refine (so _).mono ?_); rintro e wk ⟨rfl, rfl⟩)
            | (go_at_call 16; (with_reducible refine (ox _).mono ?_); rintro e wk ⟨rfl, rfl⟩)
            | (go_at_call 16; (with_reducible refine (oy _).mono ?_); rintro e wk ⟨rfl, rfl⟩))
          all_goals go_wp2_with (first
            | (go_at_call 22; (with_reducible refine (cb _).mono ?_); rintro e wk ⟨rfl, rfl⟩)
            | (go_at_call 22; (with_reducible refine (cc _).mono ?_); rintro e wk ⟨rfl, rfl⟩)
            | (go_at_call 18; (with_reducible refine (so _).mono ?_); rintro e wk ⟨rfl, rfl⟩)
            | (go_at_call 16; (with_reducible refine (ox _).mono ?_); rintro e wk ⟨rfl, rfl⟩)
            | (go_at_call 16; (with_reducible refine (oy _).mono ?_); rintro e wk ⟨rfl, rfl⟩))
          all_goals go_ret
          all_goals exact ⟨rfl, by first | exact hb | exact hb.drew | exact bdrewN hb _⟩

set_option maxRecDepth 100000 in
theorem lifted (os : Os) (started : os.Started) (H : Type) (enc : TypeId × Value → H) :
    ReturnsInHanded {} Try.checked os 10 .any (Rows.revOrderSpec.pre6 enc Try.prog Try.f10 Rows.revOrderRow.domain false) (Rows.revOrderSpec.post enc Try.prog Try.f10 false true false false) := by
  refine returnsInHanded_of_change (C := Try.checked) own started (by kernel_rfl) Try.func10
    (ChangeSpec.witness6 (enc := enc) (C := Try.checked) false ⟨#[], #[.agg #[.int .u16 0, .int .u16 0, .int .u8 0, .int .u8 0]], []⟩ 8 (by kernel_rfl) (by kernel_rfl) (by kernel_rfl) (by kernel_rfl)) ?_
  intro W base args ds gs before hval0 hW hcnd _
  have hval : ∀ (j : Nat) t v, Try.f10.params[j]? = some t → args[j]? = some v → Value.okWide Try.prog W .any base t v := hval0
  have hW' := hW
  obtain ⟨p, q, hA0, hV, rfl, hfz, hnd⟩ := hW
  have hA : DataW.TrodAll enc Try.prog W 0 (fun _ => true) true Try.f10.params.toList args.toList ds p := hA0
  rw [Try.params10] at hA hval
  obtain ⟨v0, vs0, d0, ds0, p0, q0, hargs, rfl, rfl, h0, r0⟩ := trodAll_cons hA
  obtain ⟨rfl, rfl, rfl⟩ := trodAll_nil r0
  obtain rfl : args = #[v0] := by cases args; simp_all
  obtain ⟨rfl, rfl⟩ := trodVars_none hV
  clear hA0 hval0
  obtain ⟨c0, c1, c2, c3, y0, y1, y2, y3, m, rfl, rfl, rfl, hy0, hy1, hy2, hy3⟩ := Go.Joins.open_agg4 Try.underlying36 (by kernel_rfl) (by kernel_rfl) (hval 0 36 v0 rfl rfl) h0
  obtain ⟨a0, e0, _, u0⟩ := DataW.trod_int Try.underlying28 hy0
  obtain ⟨a1, e1, _, u1⟩ := DataW.trod_int Try.underlying28 hy1
  obtain ⟨a2, e2, _, u2⟩ := DataW.trod_int Try.underlying5 hy2
  obtain ⟨a3, e3, _, u3⟩ := DataW.trod_int Try.underlying5 hy3
  simp only [List.cons.injEq, and_true] at e0 e1 e2 e3
  subst e0 e1 e2 e3
  have b0 := bounds_u16 u0
  have b1 := bounds_u16 u1
  have b2 := bounds_u8 u2
  have b3 := bounds_u8 u3
  obtain ⟨n0, rfl⟩ : ∃ x : Nat, a0 = x := ⟨a0.toNat, by omega⟩
  obtain ⟨n1, rfl⟩ : ∃ x : Nat, a1 = x := ⟨a1.toNat, by omega⟩
  obtain ⟨n2, rfl⟩ : ∃ x : Nat, a2 = x := ⟨a2.toNat, by omega⟩
  obtain ⟨n3, rfl⟩ : ∃ x : Nat, a3 = x := ⟨a3.toNat, by omega⟩
  refine (walk n0 n1 n2 n3 W (by omega) (by omega) (by omega) (by omega)).mono fun e W' ⟨he, hb⟩ => ?_
  subst he
  exact ⟨_, rfl, law_post (tb := 4) (by kernel_rfl) (by kernel_rfl) (by kernel_rfl) Try.underlying4 rfl hW' rfl hb⟩

theorem over : Rows.revOrderRow.holds Try.pinned (OpenSpec.ofChange Rows.revOrderSpec) :=
  OpenClaim.holds_of_wide 10 Try.f10 rfl rfl rfl rfl rfl rfl rfl ⟨rfl, rfl, rfl, rfl, rfl⟩ rfl rfl rfl rfl rfl (by kernel_rfl) Try.func10 (by kernel_rfl)
    (of_decide_eq_true (by kernel_rfl)) (by unfold Func.isWrapper; first | (rw [if_pos (by decide +kernel)]; kernel_rfl) | (rw [if_neg (by decide +kernel)]; exact ⟨rfl, rfl⟩))
    (fun os started H enc _ => lifted os started H enc)
end RevOrder

theorem revOrder_holds : Rows.RevOrderSaid := RevOrder.over
#print axioms revOrder_holds
end Go.Proofs.Ytchcfgimbhlaeaa
