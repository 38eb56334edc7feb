/- The document's answers for layer 10, and its example: contracts over the same plain functions. -/
import Derived.Test.YtchcfgimbhlaeaaRevP
namespace Go.Proofs.Ytchcfgimbhlaeaa
open Go.RowKit
set_option linter.unusedVariables false

theorem tmod_low (n : Int) : (n.tmod 65536 < 0 ∧ n.tmod 65536 + 65536 = n % 65536 ∧ -65536 < n.tmod 65536) ∨ (0 ≤ n.tmod 65536 ∧ n.tmod 65536 = n % 65536) := by
  have h := Int.tmod_eq_emod (a := n) (b := 65536)
  by_cases h0 : 0 ≤ n ∨ (65536 : Int) ∣ n
  · rw [if_pos h0] at h
    right
    omega
  · rw [if_neg h0] at h
    have h1 : n % 65536 ≠ 0 := fun h2 => h0 (.inr (Int.dvd_of_emod_eq_zero h2))
    left
    have h3 := Int.emod_nonneg n (b := 65536) (by omega)
    have h4 := Int.emod_lt_of_pos n (b := 65536) (by omega)
    have h5 : (65536 : Int).natAbs = 65536 := rfl
    omega
theorem low10_any (n : Int) (w : World) :
    Calls Try.prog 25 #[.int .i64 n] w fun e w' => e = .returned (.int .i64 (n % 65536)) ∧ w = w' := by
  rcases tmod_low n with ⟨h1, h2, h3⟩ | ⟨h1, h2⟩
  · have h4 : Hid (n.tmod 65536 + 65536 = n % 65536) := h2
    clear h2
    go_enter Try.func25, Try.ntmps25
    go_wp2
    go_ret
    exact ⟨ret_int h4.out, rfl⟩
  · have h4 : Hid (n.tmod 65536 = n % 65536) := h2
    clear h2
    go_enter Try.func25, Try.ntmps25
    go_wp2
    go_ret
    exact ⟨ret_int h4.out, rfl⟩

theorem low10_nat (n : Int) (m : Nat) (h : Hid (m = lw n)) (w : World) :
    Calls Try.prog 25 #[.int .i64 n] w fun e w' => e = .returned (.int .i64 (m : Nat)) ∧ w = w' := by
  have e := low10_any n w
  rw [← lw_int, ← h.out] at e
  exact e

theorem rrev_any (n : Int) (w : World) :
    Calls Try.prog 15 #[.int .i64 n] w fun e w' => e = .returned (.int .i64 (pRev n : Nat)) ∧ w = w' := by
  have hl := lw_lt n
  obtain ⟨m, hm⟩ : ∃ m, Hid (m = lw n) := ⟨_, hid rfl⟩
  rw [← hm.out] at hl
  have e : pRev n = rvk 16 m := by rw [hm.out]; rfl
  rw [e]
  clear e
  go_enter Try.func15, Try.ntmps15
  go_wp2_with (first
    | (go_at_call 25; refine (low10_nat _ _ hm _).mono ?_; rintro e wk ⟨rfl, rfl⟩))
  go_loopw [3, 4, 5] (fun x r k wr => ∃ j : Nat, j ≤ 16 ∧ k = .int .i64 j ∧ x = .int .i64 (m / 2 ^ j : Nat) ∧ r = .int .i64 (rvk j m : Nat) ∧ w = wr) (fun _ _ k _ => 16 - (intOf k).toNat)
  case atStart => exact ⟨0, by omega, rfl, by simp, rfl, rfl⟩
  case round =>
    obtain ⟨j, hj, rfl, rfl, rfl, rfl⟩ := hrel
    by_cases hlt : j < 16
    · have f1 := rvk_lt j m
      have f2 := pw_lt hlt
      have f3 : m / 2 ^ j ≤ m := Nat.div_le_self _ _
      have f4 : Hid (rvk (j + 1) m = 2 * rvk j m + m / 2 ^ j % 2) := rvk_succ j m
      have f5 : Hid (m / 2 ^ (j + 1) = m / 2 ^ j / 2) := by rw [Nat.pow_succ, Nat.div_div_eq_div_mul]; exact hid rfl
      have hl2 : (j : Int) < 16 := by omega
      obtain ⟨y, hy⟩ : ∃ y, Hid (y = m / 2 ^ j) := ⟨_, hid rfl⟩
      rw [← hy.out] at f3 f4 f5 ⊢
      have g1 : (0 : Int) ≤ (y : Int) := by omega
      go_wp2
      go_roundw
      case rel =>
        refine ⟨j + 1, by omega, by go_num, ?_, ?_, by first | rfl | trivial⟩
        · rw [f5.out]
          congr 1
        · rw [f4.out]
          congr 1
      case measure => simp [intOf]; omega
    · have : j = 16 := by omega
      subst this
      go_wp2
      go_ret
      exact ⟨rfl, rfl⟩

theorem rord_any (n : Int) (w : World) :
    Calls Try.prog 17 #[.int .i64 n] w fun e w' => e = .returned (.int .i64 (2 * (pRev n : Nat) + 1)) ∧ w = w' := by
  have h := pRev_lt n
  go_enter Try.func17, Try.ntmps17
  go_wp2_with (first
    | (go_at_call 15; refine (rrev_any _ _).mono ?_; rintro e wk ⟨rfl, rfl⟩))
  go_ret
  exact ⟨rfl, rfl⟩

theorem rsent_any (n : Int) (w : World) :
    Calls Try.prog 19 #[.int .i64 n] w fun e w' => e = .returned (.int .i64 (2 * (pRev n : Nat))) ∧ w = w' := by
  have h := pRev_lt n
  go_enter Try.func19, Try.ntmps19
  go_wp2_with (first
    | (go_at_call 15; refine (rrev_any _ _).mono ?_; rintro e wk ⟨rfl, rfl⟩))
  go_ret
  exact ⟨rfl, rfl⟩

theorem rname_yes (key : Int) (w : World) (h : isKey key) :
    Calls Try.prog 13 #[.int .i64 key] w fun e w' => e = .returned (.tuple #[.int .i64 (pRev (key / 2) : Nat), .bool true]) ∧ w = w' := by
  obtain ⟨h1, h2, h3⟩ := h
  go_enter Try.func13, Try.ntmps13
  go_wp2_with (first
    | (go_at_call 15; refine (rrev_any _ _).mono ?_; rintro e wk ⟨rfl, rfl⟩))
  go_ret2
  exact ⟨rfl, rfl⟩

theorem rname_no (key : Int) (w : World) (h : ¬ isKey key) :
    Calls Try.prog 13 #[.int .i64 key] w fun e w' => e = .returned (.tuple #[.int .i64 0, .bool false]) ∧ w = w' := by
  unfold isKey at h
  have h' : key < 0 ∨ 0 ≤ key ∧ 131071 < key ∨ 0 ≤ key ∧ key ≤ 131071 ∧ key % 2 = 0 := by omega
  clear h
  rcases h' with h | ⟨h1, h⟩ | ⟨h1, h2, h⟩
  all_goals
    go_enter Try.func13, Try.ntmps13
    go_wp2
    go_ret2
    exact ⟨rfl, rfl⟩

theorem rbuck_any (n size : Int) (w : World) :
    Calls Try.prog 23 #[.int .i64 n, .int .i64 size] w fun e w' => e = .returned (.int .i64 (pBuck n size)) ∧ w = w' := by
  have h0 : 0 ≤ n % 65536 := by omega
  have h9 : n % 65536 < 65536 := by omega
  by_cases h1 : size < 1
  · have e : pBuck n size = 0 := if_neg (by omega)
    go_enter Try.func23, Try.ntmps23
    go_wp2
    go_ret
    exact ⟨by first | rfl | exact ret_int e.symm, rfl⟩
  · by_cases h2 : 16 < size
    · have e : pBuck n size = 0 := if_neg (by omega)
      go_enter Try.func23, Try.ntmps23
      go_wp2
      go_ret
      exact ⟨by first | rfl | exact ret_int e.symm, rfl⟩
    · have e : Hid (pBuck n size = n % 65536 % size) := if_pos (by omega)
      have h3 : (size == 0) = false := by simp; omega
      have h4 := Int.emod_nonneg (n % 65536) (b := size) (by omega)
      have h5 := Int.emod_lt_of_pos (n % 65536) (b := size) (by omega)
      go_enter Try.func23, Try.ntmps23
      go_wp2_with (first
        | (go_at_call 25; refine (low10_any _ _).mono ?_; rintro e wk ⟨rfl, rfl⟩))
      go_ret
      exact ⟨ret_int e.out.symm, rfl⟩

theorem rpar10_any (n : Int) (w : World) :
    Calls Try.prog 21 #[.int .i64 n] w fun e w' => e = .returned (.int .i64 (par (lw n) : Nat)) ∧ w = w' := by
  have hl := lw_lt n
  obtain ⟨m, hm⟩ : ∃ m, Hid (m = lw n) := ⟨_, hid rfl⟩
  rw [← hm.out] at hl ⊢
  by_cases h0 : m = 0
  · have e : par m = 0 := by rw [h0]; rfl
    rw [e]
    clear e
    subst h0
    go_enter Try.func21, Try.ntmps21
    go_wp2_with (first
      | (go_at_call 25; refine (low10_nat _ _ hm _).mono ?_; rintro e wk ⟨rfl, rfl⟩))
    refine wp_loop_rounds 1 ?_
    rw [rounds_succ]
    go_wp2
    go_ret
    exact ⟨rfl, rfl⟩
  · obtain ⟨t, p, ht, hp, e0⟩ := top_of h0 hl
    have e : Hid (m = p + 2 ^ t) := e0
    have ep : Hid (par m = p) := by rw [e0]; exact hid (par_top hp ht)
    have ge := Nat.le_of_eq e0.symm
    clear e0
    have pb := pw_lt ht
    go_enter Try.func21, Try.ntmps21
    go_wp2_with (first
      | (go_at_call 25; refine (low10_nat _ _ hm _).mono ?_; rintro e wk ⟨rfl, rfl⟩))
    go_loopw [4] (fun x wr => ∃ j : Nat, j ≤ t ∧ x = .int .i64 (2 ^ j : Nat) ∧ w = wr) (fun x _ => 65536 - (intOf x).toNat)
    case atStart => exact ⟨0, by omega, rfl, rfl⟩
    case round =>
      obtain ⟨j, hj, rfl, rfl⟩ := hrel
      have g1 : 2 ^ j ≤ 2 ^ t := Nat.pow_le_pow_right (by omega) hj
      have g0 : 0 < 2 ^ j := Nat.pow_pos (by omega)
      obtain ⟨q, hq⟩ : ∃ q, Hid (q = 2 ^ j) := ⟨_, hid rfl⟩
      obtain ⟨r, hr⟩ : ∃ r, Hid (r = 2 ^ t) := ⟨_, hid rfl⟩
      by_cases hlt : j < t
      · have g2 : 2 ^ (j + 1) ≤ 2 ^ t := Nat.pow_le_pow_right (by omega) hlt
        have g3 : Hid (2 ^ (j + 1) = 2 * q) := by rw [hq.out, Nat.pow_succ, Nat.mul_comm]; exact hid rfl
        rw [g3.out] at g2
        rw [← hq.out] at g0 g1 ⊢
        rw [← hr.out] at g1 g2 pb ge
        clear hp e
        go_wp2
        go_roundw
        case rel =>
          refine ⟨j + 1, by omega, ?_, by first | rfl | trivial⟩
          rw [g3.out]
          congr 1
        case measure => simp [intOf]; omega
      · have : j = t := by omega
        subst this
        have ge2 := Nat.le_of_eq e.out
        have e2 : Hid (m = p + q) := by rw [hq.out]; exact e
        rw [← hq.out] at g0 g1 hp pb ge ge2 ⊢
        clear hr e
        go_wp2
        go_ret
        exact ⟨ret_int (by rw [ep.out]; have := e2.out; omega), rfl⟩

theorem name_s1 (w : World) : Calls Try.prog 12 #[.int .i64 32769] w fun e w' => e = .returned (.tuple #[.int .i64 2, .bool true]) ∧ w = w' := by
  have e3 : pRev (32769 / 2) = 2 := by decide +kernel
  have := name_yes 32769 w (by unfold isKey; decide)
  rw [e3] at this
  exact this
theorem name_s2 (w : World) : Calls Try.prog 12 #[.int .i64 32768] w fun e w' => e = .returned (.tuple #[.int .i64 0, .bool false]) ∧ w = w' :=
  name_no 32768 w (by unfold isKey; decide) (by decide)
theorem shown10_any (w : World) : Calls Try.prog 11 #[] w fun e w' => e = .returned (.bool true) ∧ w = w' := by
  have e1 : pRev 1 = 32768 := by decide +kernel
  have e2 : pRev 2 = 16384 := by decide +kernel
  have e4 : par (lw 5) = 1 := by decide +kernel
  have e5 : pBuck 7 4 = 3 := by decide +kernel
  go_enter Try.func11, Try.ntmps11
  go_wp2_with (first
    | (go_at_call 12; (with_reducible refine (name_s1 _).mono ?_); rintro e wk ⟨rfl, rfl⟩)
    | (go_at_call 12; (with_reducible refine (name_s2 _).mono ?_); rintro e wk ⟨rfl, rfl⟩)
    | (go_at_call 14; refine (rev_any _ _).mono ?_; rintro e wk ⟨rfl, rfl⟩)
    | (go_at_call 16; refine (ord_any _ _).mono ?_; rintro e wk ⟨rfl, rfl⟩)
    | (go_at_call 18; refine (sent_any _ _).mono ?_; rintro e wk ⟨rfl, rfl⟩)
    | (go_at_call 20; refine (rpar_any _ _).mono ?_; rintro e wk ⟨rfl, rfl⟩)
    | (go_at_call 22; refine (buck_any _ _ _).mono ?_; rintro e wk ⟨rfl, rfl⟩))
  go_ret
  exact ⟨rfl, rfl⟩
end Go.Proofs.Ytchcfgimbhlaeaa
