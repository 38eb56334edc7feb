/- Plain mathematics of layer 5: how many slots tell a node, and whether it is named. No Go text. -/
import Derived.Test.YtnjleafhllepiaaHaz6
namespace Go.Proofs.Ytnjleafhllepiaa
open Go.RowKit
set_option linter.unusedVariables false

/-- How many of the first K slots tell p. -/
def cnt (m : Ar) (p : Int) : Nat → Nat
  | 0 => 0
  | k + 1 => cnt m p k + (if m.W.getD (8 + k) 0 = p then 1 else 0)
theorem cnt_succ (m : Ar) (p : Int) (k : Nat) : cnt m p (k + 1) = cnt m p k + (if m.W.getD (8 + k) 0 = p then 1 else 0) := rfl
theorem cnt_le (m : Ar) (p : Int) : ∀ K, cnt m p K ≤ K
  | 0 => Nat.le_refl _
  | k + 1 => by have := cnt_le m p k; rw [cnt_succ]; split <;> omega
theorem note_get {bs : List Bool} {v : Int} {p : Nat} (h1 : 1 ≤ p) (h2 : p < bs.length) : (pNote bs v).getD p false = (bs.getD p false || decide (v = (p : Int))) := by
  unfold pNote
  by_cases q : 0 < v ∧ v < (bs.length : Int)
  · rw [if_pos q]
    obtain ⟨k, rfl⟩ : ∃ k : Nat, v = (k : Int) := ⟨v.toNat, by omega⟩
    by_cases e : k = p
    · subst e
      simp [List.getD, h2]
    · have e2 : ¬ ((k : Int) = (p : Int)) := by omega
      simp [List.getD, e, e2]
  · rw [if_neg q]
    have e2 : ¬ (v = (p : Int)) := by omega
    simp [e2]
theorem named_cnt (m : Ar) {p : Nat} (h1 : 1 ≤ p) (h2 : p < m.G.length) : ∀ K, (pNamedTo m K).getD p false = decide (0 < cnt m p K)
  | 0 => by simp [pNamedTo, cnt, List.getD, h2]
  | k + 1 => by
    show (pNote (pNamedTo m k) (m.W.getD (8 + k) 0)).getD p false = _
    rw [note_get h1 (by rw [pNamedTo_len]; exact h2), named_cnt m h1 h2 k]
    rw [cnt_succ]
    by_cases e : m.W.getD (8 + k) 0 = (p : Int)
    · rw [if_pos e, decide_eq_true e, Bool.or_true]; simp
    · rw [if_neg e, decide_eq_false e, Bool.or_false]; rfl
theorem named_zero (m : Ar) (h : 1 ≤ m.G.length) : ∀ K, (pNamedTo m K).getD 0 false = false
  | 0 => by
    show (List.replicate m.G.length false).getD 0 false = false
    obtain ⟨n, hn⟩ : ∃ n, m.G.length = n + 1 := ⟨m.G.length - 1, by omega⟩
    rw [hn]; rfl
  | k + 1 => by
    show (pNote (pNamedTo m k) (m.W.getD (8 + k) 0)).getD 0 false = false
    unfold pNote
    split
    · rename_i q
      generalize m.W.getD (8 + k) 0 = v at *
      have e : ¬ v.toNat = 0 := by omega
      have := named_zero m h k
      simp only [List.getD] at this ⊢
      rw [List.getElem?_set_ne e]
      exact this
    · exact named_zero m h k
/-- Does one of k slots behind the first K tell p? -/
def lastOf (m : Ar) (p : Int) (K : Nat) : Nat → Bool
  | 0 => false
  | k + 1 => lastOf m p K k || decide (m.W.getD (8 + (K + k)) 0 = p)
theorem cnt_last (m : Ar) (p : Int) (K : Nat) : ∀ k, decide (0 < cnt m p (K + k)) = (decide (0 < cnt m p K) || lastOf m p K k)
  | 0 => by simp [lastOf]
  | k + 1 => by
    have ih := cnt_last m p K k
    rw [show K + (k + 1) = (K + k) + 1 by omega]
    rw [cnt_succ]
    show _ = (decide (0 < cnt m p K) || (lastOf m p K k || decide (m.W.getD (8 + (K + k)) 0 = p)))
    by_cases e : m.W.getD (8 + (K + k)) 0 = p
    · rw [if_pos e, decide_eq_true e, Bool.or_true, Bool.or_true]; simp
    · rw [if_neg e, decide_eq_false e, Bool.or_false, Nat.add_zero]; exact ih
end Go.Proofs.Ytnjleafhllepiaa
