/- Contracts of the document's own answers for layer 1. -/
import Derived.Test.YtbkiafdmhkeffaaPack
namespace Go.Proofs.Ytbkiafdmhkeffaa
open Go.RowKit

theorem tmod_pos (a b : Int) (ha : 0 ≤ a) : a.tmod b = a % b := Int.tmod_eq_emod_of_nonneg ha
theorem tmod_neg (a b : Int) (hb : 0 < b) (ha : a < 0) : a.tmod b = a % b ∧ a % b = 0 ∨ a.tmod b = a % b - b ∧ 0 < a % b := by
  have h := Int.tmod_eq_emod (a := a) (b := b)
  rw [h]
  by_cases hd : b ∣ a
  · left; have := Int.emod_eq_zero_of_dvd hd; simp [hd, this]
  · right
    have h1 := Int.emod_nonneg a (b := b) (by omega)
    have h2 : a % b ≠ 0 := fun h0 => hd (Int.dvd_of_emod_eq_zero h0)
    rw [if_neg (by omega)]
    omega

theorem mod_any (a b : Int) (w : World) (hb : 0 < b) (hb1 : b ≤ 4611686018427387904) :
    Calls Try.prog 27 #[.int .i64 a, .int .i64 b] w fun e w' => e = .returned (.int .i64 (a % b)) ∧ w = w' := by
  have hne : (b == 0) = false := by simp; omega
  have h1 := Int.emod_nonneg a (b := b) (by omega)
  have h2 := Int.emod_lt_of_pos a hb
  have h3 : a.tmod b = a % b ∧ 0 ≤ a.tmod b ∨ a.tmod b = a % b - b ∧ a.tmod b < 0 := by
    by_cases ha : 0 ≤ a
    · left; rw [tmod_pos a b ha]; exact ⟨rfl, h1⟩
    · rcases tmod_neg a b hb (by omega) with ⟨e, e0⟩ | ⟨e, e0⟩
      · left; exact ⟨e, by omega⟩
      · right; exact ⟨e, by omega⟩
  rcases h3 with ⟨h3, h4⟩ | ⟨h3, h4⟩
  · have H : Hid (a.tmod b = a % b) := h3
    have h5 : ¬ a.tmod b < 0 := by omega
    have h6 : a.tmod b ≤ b := by omega
    clear h3
    go_enter Try.func27, Try.ntmps27
    go_wp2
    go_ret
    exact ⟨ret_int H.out, rfl⟩
  · have H : Hid (a.tmod b = a % b - b) := h3
    have h6 : - b ≤ a.tmod b := by omega
    clear h3
    go_enter Try.func27, Try.ntmps27
    go_wp2
    go_ret
    exact ⟨ret_int (by have := H.out; omega), rfl⟩

theorem rindex_any (a : Int) (w : World) :
    Calls Try.prog 17 #[.int .i64 a] w fun e w' => e = .returned (.int .i64 (pIdx a)) ∧ w = w' := by
  have h0 : 0 ≤ a % 2097152 := by omega
  have h1 : a % 2097152 < 2097152 := by omega
  go_enter Try.func17, Try.ntmps17
  go_wp2_with (go_at_call 27; refine (mod_any _ _ _ (by omega) (by omega)).mono ?_; rintro e w' ⟨rfl, rfl⟩)
  go_ret
  exact ⟨ret_int (by unfold pIdx; omega), rfl⟩

theorem rmark_any (a : Int) (w : World) :
    Calls Try.prog 19 #[.int .i64 a] w fun e w' => e = .returned (.int .i64 (pMark a)) ∧ w = w' := by
  go_enter Try.func19, Try.ntmps19
  go_wp2_with (go_at_call 27; refine (mod_any _ _ _ (by omega) (by omega)).mono ?_; rintro e w' ⟨rfl, rfl⟩)
  go_ret
  exact ⟨rfl, rfl⟩

theorem rtag_any (a : Int) (w : World) :
    Calls Try.prog 21 #[.int .i64 a] w fun e w' => e = .returned (.int .i64 (pTag a)) ∧ w = w' := by
  have h0 : 0 ≤ a % 2305843009213693952 := by omega
  have h1 : a % 2305843009213693952 < 2305843009213693952 := by omega
  go_enter Try.func21, Try.ntmps21
  go_wp2_with (go_at_call 27; refine (mod_any _ _ _ (by omega) (by omega)).mono ?_; rintro e w' ⟨rfl, rfl⟩)
  go_ret
  exact ⟨ret_int (by unfold pTag; omega), rfl⟩

theorem rright_any (a : Int) (w : World) :
    Calls Try.prog 15 #[.int .i64 a] w fun e w' => e = .returned (.bool (pRight a)) ∧ w = w' := by
  have h := pRight_iff a
  by_cases h1 : 0 ≤ a <;> by_cases h2 : a < 2305843009213693952
  all_goals
    have h3 : pRight a = (decide (0 ≤ a) && decide (a < 2305843009213693952)) := by
      rw [Bool.eq_iff_iff, h]; simp
    simp only [h1, h2, decide_true, decide_false, Bool.and_true, Bool.and_false, Bool.and_self] at h3
    rw [h3]
    clear h h3
    go_enter Try.func15, Try.ntmps15
    go_wp2
    go_ret
    exact ⟨rfl, rfl⟩

theorem rnext_any (a i m : Int) (w : World) :
    Calls Try.prog 23 #[.int .i64 a, .int .i64 i, .int .i64 m] w fun e w' => e = .returned (.int .i64 (pNext a i m)) ∧ w = w' := by
  obtain ⟨h0, h1⟩ := pTag_bd a
  have ha : 0 ≤ (pTag a + 1) % 1099511627776 := by omega
  have hb : (pTag a + 1) % 1099511627776 < 1099511627776 := by omega
  have hc : 0 ≤ i % 1048576 := by omega
  have hd : i % 1048576 < 1048576 := by omega
  have he : 0 ≤ m % 2 := by omega
  have hf : m % 2 < 2 := by omega
  go_enter Try.func23, Try.ntmps23
  go_wp2_with (first
    | (go_at_call 21; refine (rtag_any _ _).mono ?_; rintro e w' ⟨rfl, rfl⟩)
    | (go_at_call 27; refine (mod_any _ _ _ (by omega) (by omega)).mono ?_; rintro e w' ⟨rfl, rfl⟩))
  go_ret
  exact ⟨rfl, rfl⟩

theorem rof_yes (t i m : Int) (w : World) (h : pOk t i m = true) :
    Calls Try.prog 13 #[.int .i64 t, .int .i64 i, .int .i64 m] w fun e w' => e = .returned (.tuple #[.int .i64 (pWord t i m), .int .i64 0]) ∧ w = w' := by
  obtain ⟨⟨h1, h2⟩, ⟨h3, h4⟩, ⟨h5, h6⟩⟩ := (pOk_iff t i m).1 h
  clear h
  go_enter Try.func13, Try.ntmps13
  go_wp2
  go_ret2
  exact ⟨rfl, rfl⟩

theorem rof_no (t i m : Int) (w : World) (h : pOk t i m = false) :
    Calls Try.prog 13 #[.int .i64 t, .int .i64 i, .int .i64 m] w fun e w' => e = .returned (.tuple #[.int .i64 0, .int .i64 1]) ∧ w = w' := by
  have h' : t < 0 ∨ (0 ≤ t ∧ 1099511627776 ≤ t) ∨ (0 ≤ t ∧ t < 1099511627776 ∧ i < 0) ∨ (0 ≤ t ∧ t < 1099511627776 ∧ 0 ≤ i ∧ 1048576 ≤ i) ∨
      (0 ≤ t ∧ t < 1099511627776 ∧ 0 ≤ i ∧ i < 1048576 ∧ m < 0) ∨ (0 ≤ t ∧ t < 1099511627776 ∧ 0 ≤ i ∧ i < 1048576 ∧ 0 ≤ m ∧ 1 < m) := by
    have hn : ¬ pOk t i m = true := by simp [h]
    rw [pOk_iff] at hn
    omega
  clear h
  rcases h' with h | ⟨h1, h⟩ | ⟨h1, h2, h⟩ | ⟨h1, h2, h3, h⟩ | ⟨h1, h2, h3, h4, h⟩ | ⟨h1, h2, h3, h4, h5, h⟩
  all_goals
    go_enter Try.func13, Try.ntmps13
    go_wp2
    go_ret2
    exact ⟨rfl, rfl⟩
end Go.Proofs.Ytbkiafdmhkeffaa
