/- Contracts of package pack's functions. -/
import Derived.Test.YtbkiafdmhkeffaaChecked
import Derived.Test.YtbkiafdmhkeffaaMath
import Derived.WalkKit
namespace Go.Proofs.Ytbkiafdmhkeffaa
open Go.RowKit

theorem ret_int {k : IntKind} {a b : Int} (h : a = b) : Ending.returned (.int k a) = .returned (.int k b) := by rw [h]

theorem bstep {a b c : World} (h : Below a.heap.size a b) (k : Below b.heap.size b c) : Below a.heap.size a c := h.trans (k.mono h.size)
theorem boxed (w : World) (o : Obj) : Below w.heap.size w (w.alloc o) := (Below.refl _ _).alloc (Nat.le_refl _) _

/-- cut, with nothing below. -/
theorem cut0 (a k m : Int) (w : World) (hk : k = 1 ∧ m = 2 ∨ k = 20 ∧ m = 1048576 ∨ k = 40 ∧ m = 1099511627776 ∨ k = 61 ∧ m = 2305843009213693952) :
    Calls Try.prog 26 #[.int .i64 a, .int .u64 k, .slice none 0 0] w fun e w' => e = .returned (.int .i64 (a % m)) ∧ w = w' := by
  have m1 := mask1 a
  have m20 := mask20 a
  have m40 := mask40 a
  have m61 := mask61 a
  rcases hk with ⟨rfl, rfl⟩ | ⟨rfl, rfl⟩ | ⟨rfl, rfl⟩ | ⟨rfl, rfl⟩
  all_goals
    go_enter Try.func26, Try.ntmps26
    go_wp2
    refine wp_loop_rounds 1 ?_
    rw [rounds_succ]
    go_wp2
    go_ret
    exact ⟨rfl, rfl⟩

/-- cut of an index: one bit below. -/
theorem cut1 (a : Int) (b : Nat) (w : World) (hc : w.cell? ⟨b, 0, none⟩ = some (.int .u64 1)) :
    Calls Try.prog 26 #[.int .i64 a, .int .u64 20, .slice (some ⟨b, 0, none⟩) 1 1] w fun e w' => e = .returned (.int .i64 (pIdx a)) ∧ w = w' := by
  have m20 := mask20 (a / 2)
  go_enter Try.func26, Try.ntmps26
  go_wp2
  refine wp_loop_rounds 2 ?_
  rw [rounds_succ]
  go_wp2
  rw [rounds_succ]
  go_wp2
  go_ret
  exact ⟨rfl, rfl⟩

/-- cut of a tag: a mark's width and an index's below. -/
theorem cut2 (a : Int) (b : Nat) (w : World) (hc : w.cell? ⟨b, 0, none⟩ = some (.int .u64 1)) (hd : w.cell? ⟨b, 1, none⟩ = some (.int .u64 20)) :
    Calls Try.prog 26 #[.int .i64 a, .int .u64 40, .slice (some ⟨b, 0, none⟩) 2 2] w fun e w' => e = .returned (.int .i64 (pTag a)) ∧ w = w' := by
  have m40 := mask40 (a / 2 / 1048576)
  go_enter Try.func26, Try.ntmps26
  go_wp2
  refine wp_loop_rounds 3 ?_
  rw [rounds_succ]
  go_wp2
  rw [rounds_succ]
  go_wp2
  rw [rounds_succ]
  go_wp2
  go_ret
  exact ⟨ret_int (by unfold pTag; omega), rfl⟩

theorem index_any (a : Int) (w : World) :
    Calls Try.prog 16 #[.int .i64 a] w fun e w' => e = .returned (.int .i64 (pIdx a)) ∧ Below w.heap.size w w' := by
  go_enter Try.func16, Try.ntmps16
  go_wp2_with (go_at_call 26; refine (cut1 _ _ _ (by go_simp)).mono ?_; rintro e w' ⟨rfl, rfl⟩)
  go_ret
  exact ⟨rfl, (Below.refl _ _).alloc (Nat.le_refl _) _⟩

theorem mark_any (a : Int) (w : World) :
    Calls Try.prog 18 #[.int .i64 a] w fun e w' => e = .returned (.int .i64 (pMark a)) ∧ Below w.heap.size w w' := by
  go_enter Try.func18, Try.ntmps18
  go_wp2_with (go_at_call 26; refine (cut0 _ _ _ _ (.inl ⟨rfl, rfl⟩)).mono ?_; rintro e w' ⟨rfl, rfl⟩)
  go_ret
  exact ⟨rfl, Below.refl _ _⟩

theorem tag_any (a : Int) (w : World) :
    Calls Try.prog 20 #[.int .i64 a] w fun e w' => e = .returned (.int .i64 (pTag a)) ∧ Below w.heap.size w w' := by
  go_enter Try.func20, Try.ntmps20
  go_wp2_with (go_at_call 26; refine (cut2 _ _ _ (by go_simp) (by go_simp)).mono ?_; rintro e w' ⟨rfl, rfl⟩)
  go_ret
  exact ⟨rfl, (Below.refl _ _).alloc (Nat.le_refl _) _⟩

theorem fits_any (a k m : Int) (w : World) (hk : k = 1 ∧ m = 2 ∨ k = 20 ∧ m = 1048576 ∨ k = 40 ∧ m = 1099511627776 ∨ k = 61 ∧ m = 2305843009213693952) :
    Calls Try.prog 24 #[.int .i64 a, .int .u64 k] w fun e w' => e = .returned (.bool (pFit a m)) ∧ w = w' := by
  go_enter Try.func24, Try.ntmps24
  go_wp2_with (go_at_call 26; refine (cut0 _ _ _ _ hk).mono ?_; rintro e w' ⟨rfl, rfl⟩)
  go_ret
  exact ⟨rfl, rfl⟩

theorem cut0_40 (a : Int) (w : World) : Calls Try.prog 26 #[.int .i64 a, .int .u64 40, .slice none 0 0] w fun e w' => e = .returned (.int .i64 (a % 1099511627776)) ∧ w = w' := cut0 _ _ _ _ (by simp)
theorem cut0_20 (a : Int) (w : World) : Calls Try.prog 26 #[.int .i64 a, .int .u64 20, .slice none 0 0] w fun e w' => e = .returned (.int .i64 (a % 1048576)) ∧ w = w' := cut0 _ _ _ _ (by simp)
theorem cut0_1 (a : Int) (w : World) : Calls Try.prog 26 #[.int .i64 a, .int .u64 1, .slice none 0 0] w fun e w' => e = .returned (.int .i64 (a % 2)) ∧ w = w' := cut0 _ _ _ _ (by simp)
theorem fits_40 (a : Int) (w : World) : Calls Try.prog 24 #[.int .i64 a, .int .u64 40] w fun e w' => e = .returned (.bool (pFit a 1099511627776)) ∧ w = w' := fits_any _ _ _ _ (by simp)
theorem fits_20 (a : Int) (w : World) : Calls Try.prog 24 #[.int .i64 a, .int .u64 20] w fun e w' => e = .returned (.bool (pFit a 1048576)) ∧ w = w' := fits_any _ _ _ _ (by simp)
theorem fits_1 (a : Int) (w : World) : Calls Try.prog 24 #[.int .i64 a, .int .u64 1] w fun e w' => e = .returned (.bool (pFit a 2)) ∧ w = w' := fits_any _ _ _ _ (by simp)

theorem right_any (a : Int) (w : World) :
    Calls Try.prog 14 #[.int .i64 a] w fun e w' => e = .returned (.bool (pRight a)) ∧ w = w' := by
  go_enter Try.func14, Try.ntmps14
  go_wp2_with (go_at_call 24; refine (fits_any _ _ _ _ (.inr (.inr (.inr ⟨rfl, rfl⟩)))).mono ?_; rintro e w' ⟨rfl, rfl⟩)
  go_ret
  exact ⟨rfl, rfl⟩

theorem join_any (t i m : Int) (w : World) (ht : 0 ≤ t ∧ t < 1099511627776) (hi : 0 ≤ i ∧ i < 1048576) (hm : 0 ≤ m ∧ m < 2) :
    Calls Try.prog 25 #[.int .i64 t, .int .i64 i, .int .i64 m] w fun e w' => e = .returned (.int .i64 (pWord t i m)) ∧ w = w' := by
  have j1 := join20 (t * 1048576) i (by omega) (by omega) (by omega) hi.1 hi.2
  have j2 := join1 ((t * 1048576 + i) * 2) m (by omega) (by omega) (by omega) hm.1 hm.2
  obtain ⟨ht0, ht1⟩ := ht
  obtain ⟨hi0, hi1⟩ := hi
  obtain ⟨hm0, hm1⟩ := hm
  go_enter Try.func25, Try.ntmps25
  go_wp2
  go_ret
  exact ⟨ret_int (by unfold pWord; omega), rfl⟩

theorem next_any (a i m : Int) (w : World) :
    Calls Try.prog 22 #[.int .i64 a, .int .i64 i, .int .i64 m] w fun e w' => e = .returned (.int .i64 (pNext a i m)) ∧ Below w.heap.size w w' := by
  obtain ⟨h0, h1⟩ := pTag_bd a
  go_enter Try.func22, Try.ntmps22
  go_wp2_with (first
    | (go_at_call 20; refine (tag_any _ _).mono ?_; rintro e w1 ⟨rfl, hb⟩)
    | (go_at_call 26; (with_reducible refine (cut0_40 _ _).mono ?_); rintro e w' ⟨rfl, rfl⟩)
    | (go_at_call 26; (with_reducible refine (cut0_20 _ _).mono ?_); rintro e w' ⟨rfl, rfl⟩)
    | (go_at_call 26; (with_reducible refine (cut0_1 _ _).mono ?_); rintro e w' ⟨rfl, rfl⟩)
    | (go_at_call 25; refine (join_any _ _ _ _ (by omega) (by omega) (by omega)).mono ?_; rintro e w' ⟨rfl, rfl⟩))
  go_ret
  exact ⟨rfl, hb⟩

theorem of_yes (t i m : Int) (w : World) (h : pOk t i m = true) :
    Calls Try.prog 12 #[.int .i64 t, .int .i64 i, .int .i64 m] w fun e w' => e = .returned (.tuple #[.int .i64 (pWord t i m), .int .i64 0]) ∧ w = w' := by
  have hb := (pOk_iff t i m).1 h
  unfold pOk at h
  simp only [Bool.and_eq_true] at h
  obtain ⟨⟨ht, hi⟩, hm⟩ := h
  go_enter Try.func12, Try.ntmps12
  go_wp2_with (first
    | (go_at_call 24; (with_reducible refine (fits_40 _ _).mono ?_); rintro e w' ⟨rfl, rfl⟩)
    | (go_at_call 24; (with_reducible refine (fits_20 _ _).mono ?_); rintro e w' ⟨rfl, rfl⟩)
    | (go_at_call 24; (with_reducible refine (fits_1 _ _).mono ?_); rintro e w' ⟨rfl, rfl⟩)
    | (go_at_call 25; refine (join_any _ _ _ _ (by omega) (by omega) (by omega)).mono ?_; rintro e w' ⟨rfl, rfl⟩))
  go_ret2
  exact ⟨rfl, rfl⟩

theorem of_no (t i m : Int) (w : World) (h : pOk t i m = false) :
    Calls Try.prog 12 #[.int .i64 t, .int .i64 i, .int .i64 m] w fun e w' => e = .returned (.tuple #[.int .i64 0, .int .i64 1]) ∧ w = w' := by
  have h' : pFit t 1099511627776 = false ∨ (pFit t 1099511627776 = true ∧ pFit i 1048576 = false) ∨ (pFit t 1099511627776 = true ∧ pFit i 1048576 = true ∧ pFit m 2 = false) := by
    revert h; unfold pOk; cases pFit t 1099511627776 <;> cases pFit i 1048576 <;> cases pFit m 2 <;> simp
  clear h
  rcases h' with ht | ⟨ht, hi⟩ | ⟨ht, hi, hm⟩
  all_goals
    go_enter Try.func12, Try.ntmps12
    go_wp2_with (first
      | (go_at_call 24; (with_reducible refine (fits_40 _ _).mono ?_); rintro e w' ⟨rfl, rfl⟩)
      | (go_at_call 24; (with_reducible refine (fits_20 _ _).mono ?_); rintro e w' ⟨rfl, rfl⟩)
      | (go_at_call 24; (with_reducible refine (fits_1 _ _).mono ?_); rintro e w' ⟨rfl, rfl⟩))
    go_ret2
    exact ⟨rfl, rfl⟩
end Go.Proofs.Ytbkiafdmhkeffaa
