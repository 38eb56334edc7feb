/- Plain mathematics of packed words: no Go text. -/
import Derived.Laws.BitsAllLaws
import Derived.Laws.BitsLemmas
import Derived.IntWalk
namespace Go.Proofs.Ytchcfgimbhlaeaa
open Go

theorem i64_mask (k : Nat) (hk : k < 63) (m : Int) (hm : (BitVec.ofInt 64 m).toNat = 2 ^ k - 1) (n : Int) : bits .and .i64 n m = n % 2 ^ k := by
  have key : (BitVec.ofInt 64 n &&& BitVec.ofInt 64 m).toNat = (n % ((2 ^ 64 : Nat) : Int)).toNat % 2 ^ k := by
    rw [BitVec.toNat_and, BitVec.toNat_ofInt, hm, Nat.and_two_pow_sub_one_eq_mod]
  show IntKind.i64.wrap ((BitVec.ofInt 64 n &&& BitVec.ofInt 64 m).toNat : Nat) = n % 2 ^ k
  rw [key]
  have hp : (2 : Int) ^ 64 = 2 ^ k * 2 ^ (64 - k) := by rw [← Int.pow_add]; congr 1; omega
  have h0 : 0 ≤ n % 2 ^ 64 := Int.emod_nonneg _ (by decide)
  have hkp : (0 : Int) < 2 ^ k := Int.pow_pos (by decide)
  have e1 : (((n % ((2 ^ 64 : Nat) : Int)).toNat % 2 ^ k : Nat) : Int) = n % 2 ^ k := by
    have c1 : ((2 ^ k : Nat) : Int) = 2 ^ k := by simp
    have c2 : ((2 ^ 64 : Nat) : Int) = 2 ^ 64 := rfl
    rw [Int.natCast_emod, c2, Int.toNat_of_nonneg h0, c1, hp]
    exact Int.emod_emod_of_dvd n ⟨_, rfl⟩
  rw [e1]
  have h1 : 0 ≤ n % 2 ^ k := Int.emod_nonneg _ (by omega)
  have h2 : n % 2 ^ k < 2 ^ k := Int.emod_lt_of_pos _ hkp
  have h3 : (2 : Int) ^ k < 2 ^ 63 := Int.pow_lt_pow_of_lt (by decide) hk
  rw [IntKind.wrap_i64]
  omega

theorem mask1 (n : Int) : bits .and .i64 n 1 = n % 2 := i64_mask 1 (by decide) 1 (by decide) n
theorem mask20 (n : Int) : bits .and .i64 n 1048575 = n % 1048576 := i64_mask 20 (by decide) 1048575 (by decide) n
theorem mask40 (n : Int) : bits .and .i64 n 1099511627775 = n % 1099511627776 := i64_mask 40 (by decide) 1099511627775 (by decide) n
theorem mask61 (n : Int) : bits .and .i64 n 2305843009213693951 = n % 2305843009213693952 := i64_mask 61 (by decide) 2305843009213693951 (by decide) n

theorem wraps_i63 (n : Int) (h0 : 0 ≤ n) (h1 : n < 2 ^ 63) : IntKind.i64.wrap n = n := by rw [IntKind.wrap_i64]; omega

theorem join20 (x y : Int) (hx0 : 0 ≤ x) (hx : x % 1048576 = 0) (hx1 : x < 9223372036854775808) (h0 : 0 ≤ y) (h1 : y < 1048576) : bits .or .i64 x y = x + y :=
  bits_join .i64 63 (by decide) wraps_i63 20 x y hx0 hx hx1 h0 h1 (by omega)
theorem join1 (x y : Int) (hx0 : 0 ≤ x) (hx : x % 2 = 0) (hx1 : x < 9223372036854775808) (h0 : 0 ≤ y) (h1 : y < 2) : bits .or .i64 x y = x + y :=
  bits_join .i64 63 (by decide) wraps_i63 1 x y hx0 hx hx1 h0 h1 (by omega)

/-- A word's parts, and the next word. -/
def pIdx (w : Int) : Int := w / 2 % 1048576
def pMark (w : Int) : Int := w % 2
def pTag (w : Int) : Int := w / 2097152 % 1099511627776
def pWord (t i m : Int) : Int := t * 2097152 + i * 2 + m
def pNext (w i m : Int) : Int := pWord ((pTag w + 1) % 1099511627776) (i % 1048576) (m % 2)
def pFit (n : Int) (k : Int) : Bool := n % k == n
def pRight (w : Int) : Bool := pFit w 2305843009213693952
def pOk (t i m : Int) : Bool := pFit t 1099511627776 && pFit i 1048576 && pFit m 2

theorem pIdx_bd (w : Int) : 0 ≤ pIdx w ∧ pIdx w < 1048576 := by unfold pIdx; omega
theorem pMark_bd (w : Int) : 0 ≤ pMark w ∧ pMark w < 2 := by unfold pMark; omega
theorem pTag_bd (w : Int) : 0 ≤ pTag w ∧ pTag w < 1099511627776 := by unfold pTag; omega
theorem pFit_iff (n k : Int) (hk : 0 < k) : pFit n k = true ↔ 0 ≤ n ∧ n < k := by
  unfold pFit
  rw [beq_iff_eq]
  constructor
  · intro h
    exact ⟨by rw [← h]; exact Int.emod_nonneg _ (by omega), by rw [← h]; exact Int.emod_lt_of_pos _ hk⟩
  · intro h; exact Int.emod_eq_of_lt h.1 h.2
theorem pRight_iff (w : Int) : pRight w = true ↔ 0 ≤ w ∧ w < 2305843009213693952 := pFit_iff _ _ (by decide)
theorem pOk_iff (t i m : Int) : pOk t i m = true ↔ (0 ≤ t ∧ t < 1099511627776) ∧ (0 ≤ i ∧ i < 1048576) ∧ (0 ≤ m ∧ m < 2) := by
  unfold pOk
  rw [Bool.and_eq_true, Bool.and_eq_true, pFit_iff _ _ (by decide), pFit_iff _ _ (by decide), pFit_iff _ _ (by decide)]
  constructor
  · rintro ⟨⟨a, b⟩, c⟩; exact ⟨a, b, c⟩
  · rintro ⟨a, b, c⟩; exact ⟨⟨a, b⟩, c⟩
theorem pWord_bd (t i m : Int) (ht : 0 ≤ t ∧ t < 1099511627776) (hi : 0 ≤ i ∧ i < 1048576) (hm : 0 ≤ m ∧ m < 2) :
    0 ≤ pWord t i m ∧ pWord t i m < 2305843009213693952 := by unfold pWord; omega
theorem pTag_word (t i m : Int) (ht : 0 ≤ t ∧ t < 1099511627776) (hi : 0 ≤ i ∧ i < 1048576) (hm : 0 ≤ m ∧ m < 2) : pTag (pWord t i m) = t := by
  unfold pTag pWord; omega
theorem pIdx_word (t i m : Int) (hi : 0 ≤ i ∧ i < 1048576) (hm : 0 ≤ m ∧ m < 2) : pIdx (pWord t i m) = i := by
  unfold pIdx pWord; omega
theorem pMark_word (t i m : Int) (hm : 0 ≤ m ∧ m < 2) : pMark (pWord t i m) = m := by
  unfold pMark pWord; omega
theorem pWord_parts (w : Int) (h : 0 ≤ w ∧ w < 2305843009213693952) : pWord (pTag w) (pIdx w) (pMark w) = w := by
  unfold pWord pTag pIdx pMark; omega
end Go.Proofs.Ytchcfgimbhlaeaa
