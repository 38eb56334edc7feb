/- How many nodes are something, and what a turn does to it. No Go text. -/
import Derived.Test.YtbpkndjnohdnjaaArena
namespace Go.Proofs.Ytbpkndjnohdnjaa
set_option linter.unusedVariables false
set_option linter.unusedSimpArgs false

theorem mCount_le (G : List Int) (y : Int) : mCount G y ≤ G.length := by
  unfold mCount
  have h1 := List.count_le_length (a := y) (l := G.drop 1)
  have h2 : (G.drop 1).length ≤ G.length := by simp
  omega

theorem count3 : ∀ (L : List Int), (∀ x ∈ L, 0 ≤ x ∧ x ≤ 2) → L.count 0 + L.count 1 + L.count 2 = L.length
  | [], _ => rfl
  | x :: L, h => by
    have ih := count3 L (fun y hy => h y (by simp [hy]))
    have hx := h x (by simp)
    have hc : x = 0 ∨ x = 1 ∨ x = 2 := by omega
    rcases hc with rfl | rfl | rfl <;> simp [List.count_cons] <;> omega

theorem mem_getD {G : List Int} {x : Int} (h : x ∈ G) : ∃ j, j < G.length ∧ G.getD j 0 = x := by
  obtain ⟨j, hj, rfl⟩ := List.getElem_of_mem h
  exact ⟨j, hj, by rw [List.getD_eq_getElem?_getD, List.getElem?_eq_getElem hj]; rfl⟩

theorem mCount_sum (G : List Int) (h1 : 1 ≤ G.length) (h : ∀ j, j < G.length → 0 ≤ G.getD j 0 ∧ G.getD j 0 ≤ 2) : mCount G 0 + mCount G 1 + mCount G 2 = G.length - 1 := by
  unfold mCount
  rw [count3 (G.drop 1) (fun x hx => ?_)]
  · simp
  · obtain ⟨j, hj, rfl⟩ := mem_getD (List.mem_of_mem_drop hx)
    exact h j hj

theorem mCount_none (G : List Int) (y : Int) (h : ∀ j, j < G.length → G.getD j 0 ≠ y) : mCount G y = 0 := by
  unfold mCount
  rw [List.count_eq_zero]
  intro hy
  obtain ⟨j, hj, hj'⟩ := mem_getD (List.mem_of_mem_drop hy)
  exact h j hj hj'

theorem count_set : ∀ (L : List Int) (k : Nat) (z y : Int) (hk : k < L.length), (L.set k z).count y + (if L.getD k 0 = y then 1 else 0) = L.count y + (if z = y then 1 else 0)
  | [], k, _, _, hk => absurd hk (by simp)
  | x :: L, 0, z, y, _ => by
    simp [List.count_cons]
    split <;> split <;> omega
  | x :: L, k + 1, z, y, hk => by
    have ih := count_set L k z y (by simpa using hk)
    simp [List.count_cons] at ih ⊢
    omega

theorem mCount_set (G : List Int) (i : Nat) (z y : Int) (h1 : 1 ≤ i) (hi : i < G.length) : mCount (G.set i z) y + (if G.getD i 0 = y then 1 else 0) = mCount G y + (if z = y then 1 else 0) := by
  unfold mCount
  have e : (G.set i z).drop 1 = (G.drop 1).set (i - 1) z := by
    rw [List.drop_set]
    rw [if_neg (by omega)]
  have e2 : (G.drop 1).getD (i - 1) 0 = G.getD i 0 := by
    rw [List.getD_eq_getElem?_getD, List.getD_eq_getElem?_getD, List.getElem?_drop]
    congr 2
    omega
  rw [e, ← e2]
  exact count_set (G.drop 1) (i - 1) z y (by simp; omega)
end Go.Proofs.Ytbpkndjnohdnjaa
