/- Bits in the other order: plain mathematics. No Go text. -/
import Derived.Test.YtchcfgimbhlaeaaRow
namespace Go.Proofs.Ytchcfgimbhlaeaa
open Go.RowKit
set_option linter.unusedVariables false

/-- The k lowest bits in the other order. -/
def rvk : Nat → Nat → Nat
  | 0, _ => 0
  | k + 1, n => 2 ^ k * (n % 2) + rvk k (n / 2)
theorem rvk_lt (k n : Nat) : rvk k n < 2 ^ k := by
  induction k generalizing n with
  | zero => simp [rvk]
  | succ k ih =>
    have h := ih (n / 2)
    have h2 : n % 2 < 2 := Nat.mod_lt _ (by omega)
    unfold rvk
    rw [Nat.pow_succ]
    rcases (show n % 2 = 0 ∨ n % 2 = 1 by omega) with e | e <;> rw [e] <;> omega
/-- A bit more: the loop's step. -/
theorem rvk_succ (k n : Nat) : rvk (k + 1) n = 2 * rvk k n + n / 2 ^ k % 2 := by
  induction k generalizing n with
  | zero => simp [rvk]
  | succ k ih =>
    have h := ih (n / 2)
    rw [Nat.div_div_eq_div_mul, show 2 * 2 ^ k = 2 ^ (k + 1) by rw [Nat.pow_succ]; omega] at h
    have e1 : rvk (k + 1 + 1) n = 2 ^ (k + 1) * (n % 2) + rvk (k + 1) (n / 2) := rfl
    have e2 : rvk (k + 1) n = 2 ^ k * (n % 2) + rvk k (n / 2) := rfl
    rw [e1, h, e2, Nat.mul_add, ← Nat.mul_assoc, show 2 * 2 ^ k = 2 ^ (k + 1) by rw [Nat.pow_succ]; omega]
    omega
theorem rvk_zero (k : Nat) : rvk k 0 = 0 := by
  induction k with
  | zero => rfl
  | succ k ih => show 2 ^ k * (0 % 2) + rvk k (0 / 2) = 0; simp [ih]
/-- The lower bits ahead of the higher ones. -/
theorem rvk_add (j m n : Nat) : rvk (j + m) n = 2 ^ m * rvk j n + rvk m (n / 2 ^ j) := by
  induction j generalizing n with
  | zero => simp [rvk]
  | succ j ih =>
    have e1 : rvk (j + 1 + m) n = 2 ^ (j + m) * (n % 2) + rvk (j + m) (n / 2) := by rw [show j + 1 + m = (j + m) + 1 by omega]; rfl
    have e2 : rvk (j + 1) n = 2 ^ j * (n % 2) + rvk j (n / 2) := rfl
    rw [e1, ih, e2, Nat.div_div_eq_div_mul, show 2 * 2 ^ j = 2 ^ (j + 1) by rw [Nat.pow_succ]; omega, Nat.mul_add, ← Nat.mul_assoc, ← Nat.pow_add, show m + j = j + m by omega]
    omega
theorem rvk_mod (k n : Nat) : rvk k (n % 2 ^ k) = rvk k n := by
  induction k generalizing n with
  | zero => rfl
  | succ k ih =>
    have e1 : n % 2 ^ (k + 1) % 2 = n % 2 := Nat.mod_mod_of_dvd _ ⟨2 ^ k, by rw [Nat.pow_succ]; omega⟩
    have e2 : n % 2 ^ (k + 1) / 2 = n / 2 % 2 ^ k := by
      rw [Nat.pow_succ, Nat.mul_comm (2 ^ k) 2, Nat.mod_mul_right_div_self]
    show 2 ^ k * (n % 2 ^ (k + 1) % 2) + rvk k (n % 2 ^ (k + 1) / 2) = 2 ^ k * (n % 2) + rvk k (n / 2)
    rw [e1, e2, ih]
theorem rvk_back (k n : Nat) : rvk k (rvk k n) = n % 2 ^ k := by
  induction k generalizing n with
  | zero => simp [rvk, Nat.mod_one]
  | succ k ih =>
    have hl := rvk_lt k (n / 2)
    have hp : 0 < 2 ^ k := Nat.pow_pos (by omega)
    obtain ⟨y, hy⟩ : ∃ y, y = rvk (k + 1) n := ⟨_, rfl⟩
    have e0 : y = 2 ^ k * (n % 2) + rvk k (n / 2) := hy
    have e1 : y % 2 ^ k = rvk k (n / 2) := by rw [e0, Nat.mul_add_mod, Nat.mod_eq_of_lt hl]
    have e2 : y / 2 ^ k = n % 2 := by rw [e0, Nat.mul_add_div hp, Nat.div_eq_of_lt hl, Nat.add_zero]
    rw [← hy, rvk_succ, e2, ← rvk_mod k y, e1, ih, Nat.mod_mod]
    rw [Nat.pow_succ, Nat.mul_comm (2 ^ k) 2, Nat.mod_mul]
    omega
/-- The 16 lowest bits. -/
def rv (n : Nat) : Nat := rvk 16 n
theorem rv_lt (n : Nat) : rv n < 65536 := rvk_lt 16 n
theorem rv_back {n : Nat} (h : n < 65536) : rv (rv n) = n := by
  have := rvk_back 16 n
  rw [show (2 : Nat) ^ 16 = 65536 by rfl, Nat.mod_eq_of_lt h] at this
  exact this
theorem rv_inj {a b : Nat} (ha : a < 65536) (hb : b < 65536) (h : rv a = rv b) : a = b := by rw [← rv_back ha, ← rv_back hb, h]
/-- Bit i stands at 15 less i. -/
theorem rv_bit (n : Nat) {i : Nat} (hi : i < 16) : rv n / 2 ^ (15 - i) % 2 = n / 2 ^ i % 2 := by
  have e1 : rv n = 2 ^ (16 - i) * rvk i n + rvk (16 - i) (n / 2 ^ i) := by
    have := rvk_add i (16 - i) n
    rw [show i + (16 - i) = 16 by omega] at this
    exact this
  have e2 : rvk (16 - i) (n / 2 ^ i) = 2 ^ (15 - i) * (n / 2 ^ i % 2) + rvk (15 - i) (n / 2 ^ i / 2) := by
    rw [show 16 - i = (15 - i) + 1 by omega]
    rfl
  have hl := rvk_lt (15 - i) (n / 2 ^ i / 2)
  have hp : 0 < 2 ^ (15 - i) := Nat.pow_pos (by omega)
  rw [e1, e2, show 16 - i = (15 - i) + 1 by omega, Nat.pow_succ, Nat.mul_assoc, ← Nat.add_assoc, ← Nat.mul_add, Nat.mul_add_div hp, Nat.div_eq_of_lt hl, Nat.add_zero, Nat.mul_add_mod]
  omega
/-- Of a size that is a power of 2 a bucket's names lie from its key on, and there are as many keys to the next one. -/
theorem rv_bucket (n : Nat) {k : Nat} (hk : k ≤ 16) : rv (n % 2 ^ k) = 2 ^ (16 - k) * rvk k n ∧ rv (n % 2 ^ k) ≤ rv n ∧ rv n < rv (n % 2 ^ k) + 2 ^ (16 - k) := by
  have e1 : rv n = 2 ^ (16 - k) * rvk k n + rvk (16 - k) (n / 2 ^ k) := by
    have := rvk_add k (16 - k) n
    rw [show k + (16 - k) = 16 by omega] at this
    exact this
  have hp : 0 < 2 ^ k := Nat.pow_pos (by omega)
  have e2 : rv (n % 2 ^ k) = 2 ^ (16 - k) * rvk k n := by
    have := rvk_add k (16 - k) (n % 2 ^ k)
    rw [show k + (16 - k) = 16 by omega, Nat.div_eq_of_lt (Nat.mod_lt _ hp), rvk_zero, Nat.add_zero, rvk_mod] at this
    exact this
  have hl := rvk_lt (16 - k) (n / 2 ^ k)
  exact ⟨e2, by omega, by omega⟩
/-- A greater bucket's key lies behind all of them. -/
theorem rv_greater {n o k : Nat} (hk : k ≤ 16) (ho : o < 2 ^ k) (h : rv (n % 2 ^ k) < rv o) : rv n < rv o := by
  obtain ⟨e1, _, e3⟩ := rv_bucket n hk
  obtain ⟨e4, _, _⟩ := rv_bucket o hk
  rw [Nat.mod_eq_of_lt ho] at e4
  rw [e1, e4] at h
  have h2 : rvk k n < rvk k o := Nat.lt_of_mul_lt_mul_left h
  have h3 : 2 ^ (16 - k) * (rvk k n + 1) ≤ 2 ^ (16 - k) * rvk k o := Nat.mul_le_mul_left _ h2
  rw [Nat.mul_add, Nat.mul_one, ← e1, ← e4] at h3
  omega
/-- A number and its highest bit. -/
theorem rv_top {p t : Nat} (hp : p < 2 ^ t) (ht : t < 16) : rv (p + 2 ^ t) = rv p + 2 ^ (15 - t) := by
  have hpos : 0 < 2 ^ t := Nat.pow_pos (by omega)
  have e1 := rvk_add t (16 - t) (p + 2 ^ t)
  have e2 := rvk_add t (16 - t) p
  rw [show t + (16 - t) = 16 by omega] at e1 e2
  rw [← rvk_mod t (p + 2 ^ t), Nat.add_mod_right, Nat.mod_eq_of_lt hp, Nat.add_div_right _ hpos, Nat.div_eq_of_lt hp] at e1
  rw [Nat.div_eq_of_lt hp, rvk_zero] at e2
  have e3 : rvk (16 - t) (0 + 1) = 2 ^ (15 - t) := by
    rw [show 16 - t = (15 - t) + 1 by omega]
    show 2 ^ (15 - t) * (1 % 2) + rvk (15 - t) (1 / 2) = _
    rw [show 1 / 2 = 0 by rfl, rvk_zero]
    simp
  show rvk 16 (p + 2 ^ t) = rvk 16 p + _
  rw [e1, e2, e3]
  omega
/-- A key is odd just if it is a name's. -/
theorem key_name {key : Nat} (h : key < 131072) (ho : key % 2 = 1) : 2 * rv (rv (key / 2)) + 1 = key := by
  rw [rv_back (by omega)]
  omega
end Go.Proofs.Ytchcfgimbhlaeaa
