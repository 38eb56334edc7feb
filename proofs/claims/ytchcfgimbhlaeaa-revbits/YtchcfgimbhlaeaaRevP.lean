/- Package rev and the document's answers for it: contracts over plain functions. -/
import Derived.Test.YtchcfgimbhlaeaaChecked
import Derived.Test.YtchcfgimbhlaeaaRevM
import Derived.Test.YtchcfgimbhlaeaaMath
import Derived.WalkKit
namespace Go.Proofs.Ytchcfgimbhlaeaa
open Go.RowKit
set_option linter.unusedVariables false

/-- The 16 lowest bits. -/
def lw (n : Int) : Nat := (n % 65536).toNat
theorem lw_lt (n : Int) : lw n < 65536 := by unfold lw; omega
theorem lw_int (n : Int) : ((lw n : Nat) : Int) = n % 65536 := by unfold lw; omega
theorem lw_nat {n : Nat} (h : n < 65536) : lw (n : Int) = n := by unfold lw; omega
theorem lw_lw (n : Int) : lw (lw n : Int) = lw n := lw_nat (lw_lt n)
theorem lt16 {j : Nat} (h : j < 16) : j = 0 ∨ j = 1 ∨ j = 2 ∨ j = 3 ∨ j = 4 ∨ j = 5 ∨ j = 6 ∨ j = 7 ∨ j = 8 ∨ j = 9 ∨ j = 10 ∨ j = 11 ∨ j = 12 ∨ j = 13 ∨ j = 14 ∨ j = 15 := by omega
theorem lw_bit (n : Int) {j : Nat} (hj : j < 16) : n / 2 ^ j % 2 = ((lw n / 2 ^ j % 2 : Nat) : Int) := by
  unfold lw
  rcases lt16 hj with h | h | h | h | h | h | h | h | h | h | h | h | h | h | h | h <;> subst h <;> simp <;> omega
def pRev (n : Int) : Nat := rv (lw n)
theorem pRev_lt (n : Int) : pRev n < 65536 := rv_lt _
theorem pRev_back (n : Int) : pRev (pRev n : Nat) = lw n := by
  unfold pRev
  rw [lw_nat (rv_lt _), rv_back (lw_lt n)]

/-- Without its highest bit, of the lowest j. -/
def pk : Nat → Nat → Nat
  | 0, _ => 0
  | j + 1, n => if n / 2 ^ j % 2 = 1 then n % 2 ^ j else pk j n
def par (n : Nat) : Nat := pk 16 n
theorem pk_top {p t : Nat} (hp : p < 2 ^ t) (j : Nat) : pk (t + 1 + j) (p + 2 ^ t) = p := by
  have hpos : 0 < 2 ^ t := Nat.pow_pos (by omega)
  induction j with
  | zero =>
    unfold pk
    rw [Nat.add_div_right _ hpos, Nat.div_eq_of_lt hp, if_pos rfl, Nat.add_mod_right, Nat.mod_eq_of_lt hp]
  | succ j ih =>
    show (if (p + 2 ^ t) / 2 ^ (t + 1 + j) % 2 = 1 then _ else pk (t + 1 + j) (p + 2 ^ t)) = p
    have hl : p + 2 ^ t < 2 ^ (t + 1 + j) := by
      have : 2 ^ (t + 1) ≤ 2 ^ (t + 1 + j) := Nat.pow_le_pow_right (by omega) (by omega)
      rw [Nat.pow_succ] at this
      omega
    rw [Nat.div_eq_of_lt hl, if_neg (by omega), ih]
theorem par_top {p t : Nat} (hp : p < 2 ^ t) (ht : t < 16) : par (p + 2 ^ t) = p := by
  have := pk_top hp (15 - t)
  rw [show t + 1 + (15 - t) = 16 by omega] at this
  exact this
theorem par_zero : par 0 = 0 := by decide
/-- A number that isn't 0 has a highest bit. -/
theorem top_of {n : Nat} (h0 : n ≠ 0) (h : n < 65536) : ∃ t p, t < 16 ∧ p < 2 ^ t ∧ n = p + 2 ^ t := by
  have key : ∀ k, n < 2 ^ k → ∃ t p, t < k ∧ p < 2 ^ t ∧ n = p + 2 ^ t := by
    intro k
    induction k with
    | zero => intro hk; simp at hk; omega
    | succ k ih =>
      intro hk
      by_cases hl : n < 2 ^ k
      · obtain ⟨t, p, h1, h2, h3⟩ := ih hl
        exact ⟨t, p, by omega, h2, h3⟩
      · rw [Nat.pow_succ] at hk
        exact ⟨k, n - 2 ^ k, by omega, by omega, by omega⟩
  exact key 16 h
theorem mask16 (n : Int) : bits .and .i64 n 65535 = n % 65536 := i64_mask 16 (by decide) 65535 (by decide) n
theorem pw_lt {j : Nat} (h : j < 16) : 2 ^ j ≤ 32768 := Nat.pow_le_pow_right (n := 2) (j := 15) (by omega) (by omega)
theorem pw_le {j : Nat} (h : j ≤ 16) : 2 ^ j ≤ 65536 := Nat.pow_le_pow_right (n := 2) (j := 16) (by omega) h
theorem pw_int (j : Nat) : ((2 ^ j : Nat) : Int) = 2 ^ j := by simp

theorem bit_any (n : Int) (i : Nat) (hi : i < 16) (w : World) :
    Calls Try.prog 24 #[.int .i64 n, .int .i64 i] w fun e w' => e = .returned (.int .i64 (n / 2 ^ i % 2)) ∧ w = w' := by
  have m1 := mask1 (n / 2 ^ i)
  go_enter Try.func24, Try.ntmps24
  go_wp2
  go_ret
  exact ⟨rfl, rfl⟩

theorem low_any (n : Int) (w : World) :
    Calls Try.prog 26 #[.int .i64 n] w fun e w' => e = .returned (.int .i64 (n % 65536)) ∧ w = w' := by
  have m1 := mask16 n
  go_enter Try.func26, Try.ntmps26
  go_wp2
  go_ret
  exact ⟨rfl, rfl⟩

theorem rev_any (n : Int) (w : World) :
    Calls Try.prog 14 #[.int .i64 n] w fun e w' => e = .returned (.int .i64 (pRev n : Nat)) ∧ w = w' := by
  go_enter Try.func14, Try.ntmps14
  go_wp2
  go_loopw [3, 5] (fun r k wr => ∃ j : Nat, j ≤ 16 ∧ k = .int .i64 j ∧ r = .int .i64 (rvk j (lw n) : Nat) ∧ w = wr) (fun _ k _ => 16 - (intOf k).toNat)
  case atStart => exact ⟨0, by omega, rfl, rfl, rfl⟩
  case round =>
    obtain ⟨j, hj, rfl, rfl, rfl⟩ := hrel
    by_cases hlt : j < 16
    · have f1 := rvk_lt j (lw n)
      have f2 := pw_lt hlt
      have f3 : 0 ≤ n / 2 ^ j % 2 := by omega
      have f4 : n / 2 ^ j % 2 < 2 := by omega
      have j1 := join1 ((rvk j (lw n) : Nat) * 2 : Int) (n / 2 ^ j % 2) (by omega) (by omega) (by omega) f3 f4
      have hl2 : (j : Int) < 16 := by omega
      go_wp2_with (first
        | (go_at_call 24; refine (bit_any _ _ hlt _).mono ?_; rintro e wk ⟨rfl, rfl⟩))
      go_roundw
      case rel =>
        refine ⟨j + 1, by omega, by go_num, ?_, by first | rfl | trivial⟩
        have f5 := lw_bit n hlt
        rw [rvk_succ]
        congr 1
        omega
      case measure => simp [intOf]; omega
    · have : j = 16 := by omega
      subst this
      go_wp2
      go_ret
      exact ⟨rfl, rfl⟩

theorem sent_any (n : Int) (w : World) :
    Calls Try.prog 18 #[.int .i64 n] w fun e w' => e = .returned (.int .i64 (2 * (pRev n : Nat))) ∧ w = w' := by
  have h := pRev_lt n
  go_enter Try.func18, Try.ntmps18
  go_wp2_with (first
    | (go_at_call 14; refine (rev_any _ _).mono ?_; rintro e wk ⟨rfl, rfl⟩))
  go_ret
  exact ⟨rfl, rfl⟩

theorem ord_any (n : Int) (w : World) :
    Calls Try.prog 16 #[.int .i64 n] w fun e w' => e = .returned (.int .i64 (2 * (pRev n : Nat) + 1)) ∧ w = w' := by
  have h := pRev_lt n
  go_enter Try.func16, Try.ntmps16
  go_wp2_with (first
    | (go_at_call 18; refine (sent_any _ _).mono ?_; rintro e wk ⟨rfl, rfl⟩))
  go_ret
  exact ⟨rfl, rfl⟩

/-- A number is a name's key. -/
def isKey (key : Int) : Prop := 0 ≤ key ∧ key ≤ 131071 ∧ key % 2 = 1
theorem ord_key (key : Int) : (2 * (pRev (pRev (key.tdiv 2) : Nat) : Nat) + 1 : Int) = 2 * (lw (key.tdiv 2) : Nat) + 1 := by rw [pRev_back]
theorem key_yes {key : Int} (h : isKey key) : key.tdiv 2 = key / 2 ∧ (2 * (lw (key.tdiv 2) : Nat) + 1 : Int) = key := by
  obtain ⟨h1, h2, h3⟩ := h
  have e : key.tdiv 2 = key / 2 := Int.tdiv_eq_ediv_of_nonneg h1
  refine ⟨e, ?_⟩
  rw [e, lw_int]
  omega
theorem key_no {key : Int} (h : ¬ isKey key) : (2 * (lw (key.tdiv 2) : Nat) + 1 : Int) ≠ key := by
  have := lw_lt (key.tdiv 2)
  unfold isKey at h
  intro he
  apply h
  omega

theorem name_yes (key : Int) (w : World) (h : isKey key) :
    Calls Try.prog 12 #[.int .i64 key] w fun e w' => e = .returned (.tuple #[.int .i64 (pRev (key / 2) : Nat), .bool true]) ∧ w = w' := by
  obtain ⟨e1, e2⟩ := key_yes h
  have e3 := ord_key key
  rw [e2, e1] at e3
  obtain ⟨h1, h2, h3⟩ := h
  clear e2
  go_enter Try.func12, Try.ntmps12
  go_wp2_with (first
    | (go_at_call 14; refine (rev_any _ _).mono ?_; rintro e wk ⟨rfl, rfl⟩)
    | (go_at_call 16; refine (ord_any _ _).mono ?_; rintro e wk ⟨rfl, rfl⟩))
  go_ret2
  exact ⟨rfl, rfl⟩

theorem tdiv2_bd (key : Int) (hk : -9223372036854775808 ≤ key ∧ key ≤ 9223372036854775807) : -4611686018427387904 ≤ key.tdiv 2 ∧ key.tdiv 2 ≤ 4611686018427387904 := by
  rw [Int.tdiv_eq_ediv]
  have hs : Int.sign 2 = 1 := rfl
  rw [hs]
  split <;> omega
theorem name_no (key : Int) (w : World) (h : ¬ isKey key) (hk : -9223372036854775808 ≤ key ∧ key ≤ 9223372036854775807) :
    Calls Try.prog 12 #[.int .i64 key] w fun e w' => e = .returned (.tuple #[.int .i64 0, .bool false]) ∧ w = w' := by
  have e2 := key_no h
  have e3 := ord_key key
  rw [← e3] at e2
  clear e3
  have e4 := tdiv2_bd key hk
  obtain ⟨e5, e6⟩ := e4
  clear h hk
  go_enter Try.func12, Try.ntmps12
  go_wp2_with (first
    | (go_at_call 14; refine (rev_any _ _).mono ?_; rintro e wk ⟨rfl, rfl⟩)
    | (go_at_call 16; refine (ord_any _ _).mono ?_; rintro e wk ⟨rfl, rfl⟩))
  go_ret2
  exact ⟨rfl, rfl⟩

/-- A name's bucket. -/
def pBuck (n size : Int) : Int := if 1 ≤ size ∧ size ≤ 16 then n % 65536 % size else 0
theorem buck_any (n size : Int) (w : World) :
    Calls Try.prog 22 #[.int .i64 n, .int .i64 size] w fun e w' => e = .returned (.int .i64 (pBuck n size)) ∧ w = w' := by
  have h0 : 0 ≤ n % 65536 := by omega
  have h9 : n % 65536 < 65536 := by omega
  by_cases h1 : size < 1
  · have e : pBuck n size = 0 := if_neg (by omega)
    go_enter Try.func22, Try.ntmps22
    go_wp2
    go_ret
    exact ⟨by first | rfl | exact ret_int e.symm, rfl⟩
  · by_cases h2 : 16 < size
    · have e : pBuck n size = 0 := if_neg (by omega)
      go_enter Try.func22, Try.ntmps22
      go_wp2
      go_ret
      exact ⟨by first | rfl | exact ret_int e.symm, rfl⟩
    · have e : Hid (pBuck n size = n % 65536 % size) := if_pos (by omega)
      have h3 : (size == 0) = false := by simp; omega
      have h4 := Int.emod_nonneg (n % 65536) (b := size) (by omega)
      have h5 := Int.emod_lt_of_pos (n % 65536) (b := size) (by omega)
      go_enter Try.func22, Try.ntmps22
      go_wp2_with (first
        | (go_at_call 26; refine (low_any _ _).mono ?_; rintro e wk ⟨rfl, rfl⟩))
      go_ret
      exact ⟨ret_int e.out.symm, rfl⟩

theorem rpar_any (n : Int) (w : World) :
    Calls Try.prog 20 #[.int .i64 n] w fun e w' => e = .returned (.int .i64 (par (lw n) : Nat)) ∧ w = w' := by
  go_enter Try.func20, Try.ntmps20
  go_wp2
  go_loopw [3, 4, 6] (fun p b k wr => ∃ j : Nat, j ≤ 16 ∧ k = .int .i64 j ∧ p = .int .i64 (pk j (lw n) : Nat) ∧ b = .int .i64 (lw n % 2 ^ j : Nat) ∧ w = wr) (fun _ _ k _ => 16 - (intOf k).toNat)
  case atStart => exact ⟨0, by omega, rfl, rfl, by rw [Nat.pow_zero, Nat.mod_one]; rfl, rfl⟩
  case round =>
    obtain ⟨j, hj, rfl, rfl, rfl, rfl⟩ := hrel
    by_cases hlt : j < 16
    · have f2 := pw_lt hlt
      have f3 : lw n % 2 ^ j < 2 ^ j := Nat.mod_lt _ (Nat.pow_pos (by omega))
      have f4 := lw_bit n hlt
      have f6 : lw n % 2 ^ (j + 1) = lw n % 2 ^ j + 2 ^ j * (lw n / 2 ^ j % 2) := by rw [Nat.pow_succ, Nat.mod_mul]
      have f7 : Hid (pk (j + 1) (lw n) = if lw n / 2 ^ j % 2 = 1 then lw n % 2 ^ j else pk j (lw n)) := rfl
      have hl2 : (j : Int) < 16 := by omega
      by_cases hb : lw n / 2 ^ j % 2 = 1
      · rw [hb] at f4 f6
        have f8 : Hid (lw n % 2 ^ (j + 1) = lw n % 2 ^ j + 2 ^ j) := by exact f6.trans (by rw [Nat.mul_one])
        have f9 : Hid (pk (j + 1) (lw n) = lw n % 2 ^ j) := f7.out.trans (if_pos hb)
        clear f6 f7 hb
        obtain ⟨q, hq⟩ : ∃ q, q = lw n % 2 ^ j := ⟨_, rfl⟩
        rw [← hq] at f3 f8 f9 ⊢
        clear hq
        have hp := pw_int j
        go_wp2_with (first
          | (go_at_call 24; refine (bit_any _ _ hlt _).mono ?_; rintro e wk ⟨rfl, rfl⟩))
        go_roundw
        case rel =>
          refine ⟨j + 1, by omega, by go_num, ?_, ?_, by first | rfl | trivial⟩
          · rw [f9.out]
          · rw [f8.out]
            first | rfl | simp
        case measure => simp [intOf]; omega
      · have h0 : lw n / 2 ^ j % 2 = 0 := by omega
        rw [h0] at f4 f6
        have f8 : Hid (lw n % 2 ^ (j + 1) = lw n % 2 ^ j) := by exact f6.trans (by rw [Nat.mul_zero, Nat.add_zero])
        have f9 : Hid (pk (j + 1) (lw n) = pk j (lw n)) := f7.out.trans (if_neg hb)
        clear f6 f7 hb h0
        go_wp2_with (first
          | (go_at_call 24; refine (bit_any _ _ hlt _).mono ?_; rintro e wk ⟨rfl, rfl⟩))
        go_roundw
        case rel =>
          refine ⟨j + 1, by omega, by go_num, ?_, ?_, by first | rfl | trivial⟩
          · rw [f9.out]
          · rw [f8.out]
            first | rfl | simp
        case measure => simp [intOf]; omega
    · have : j = 16 := by omega
      subst this
      go_wp2
      go_ret
      exact ⟨rfl, rfl⟩
end Go.Proofs.Ytchcfgimbhlaeaa
