/- Behind all picks some core is at nothing, or has seen the head as it stands. Plain mathematics. No Go text. -/
import Derived.Test.YtlknpmdmnekedaaStkQ
namespace Go.Proofs.Ytlknpmdmnekedaa
open Go.RowKit
set_option linter.unusedVariables false

theorem pick_s (c : Nat) (y : PS) (u : Nat) : (pPick c y u).s = pStep (pBegin y (u % c) u).s ((u % c : Nat) : Int) := rfl
theorem TInv.alivePick {c n cnt : Nat} {y : PS} (h : TInv c n cnt y.s y.own) (a : Alive y.s) (hn : n ≤ 200) (hc : cnt ≤ 899) (c1 : 1 ≤ c) (u : Nat) : Alive (pPick c y u).s := by
  have hk : u % c < c := Nat.mod_lt _ (by omega)
  rw [pick_s]
  obtain ⟨k, hku⟩ : ∃ k, k = u % c := ⟨_, rfl⟩
  rw [← hku] at hk ⊢
  obtain ⟨x, hx⟩ : ∃ x, y.s.C[k]? = some x := ⟨_, List.getElem?_eq_getElem (by have := h.cl; omega)⟩
  have h' := h
  obtain ⟨⟨T, l, hT, tri, fr, tt⟩, cl, ol, og⟩ := h
  rcases fr k x hx with hF | ⟨f, hF, _⟩
  · have ia := tri.ia
    have pop : Alive (pStep (pCall y.s (k : Int) (fr1 1 0 0 0)) (k : Int)) := by
      rw [call_core hx hF]
      have hy : (⟨y.s.M, y.s.C.set k (cF x [fr1 1 0 0 0]), y.s.L⟩ : Sy).C[k]? = some (cF x [fr1 1 0 0 0]) := List.getElem?_set_self (by omega)
      by_cases hi : pIdx (mVal y.s.M 0) = 0
      · rw [pop0_full (s := ⟨y.s.M, y.s.C.set k (cF x [fr1 1 0 0 0]), y.s.L⟩) hy ia rfl hi]
        exact alive_idle (s := ⟨y.s.M, y.s.C.set k (cF x [fr1 1 0 0 0]), y.s.L⟩) hy rfl
      · rw [pop0_go (s := ⟨y.s.M, y.s.C.set k (cF x [fr1 1 0 0 0]), y.s.L⟩) hy ia rfl hi]
        exact alive_new (s := ⟨y.s.M, y.s.C.set k (cF x [fr1 1 0 0 0]), y.s.L⟩) hy ⟨0, .inl rfl⟩
    have push : ∀ p : Int, Alive (pStep (pCall y.s (k : Int) (fr1 2 0 p 0)) (k : Int)) := fun p => by
      rw [call_core hx hF]
      have hy : (⟨y.s.M, y.s.C.set k (cF x [fr1 2 0 p 0]), y.s.L⟩ : Sy).C[k]? = some (cF x [fr1 2 0 p 0]) := List.getElem?_set_self (by omega)
      rw [push0_go (s := ⟨y.s.M, y.s.C.set k (cF x [fr1 2 0 p 0]), y.s.L⟩) hy ia rfl]
      exact alive_new (s := ⟨y.s.M, y.s.C.set k (cF x [fr1 2 0 p 0]), y.s.L⟩) hy ⟨p, .inr (.inr (.inl rfl))⟩
    have ht := top_idle hx hF
    unfold pBegin
    rw [ht]
    dsimp only
    split
    · split
      · exact push _
      · exact pop
    · exact pop
  · have ht := top_core hx hF
    have e : pBegin y k u = y := by unfold pBegin; rw [ht]
    rw [e]
    exact h'.alive a hn hc hx hF
theorem alive_start {c n : Nat} (c1 : 1 ≤ c) : Alive (syMem (syNew c n) (pFill (syNew c n).M)) := by
  refine ⟨0, coZero, ?_, .inl rfl⟩
  show (List.replicate c coZero)[0]? = some coZero
  rw [List.getElem?_replicate, if_pos (by omega)]
theorem alive_play {c n : Nat} (h1 : 1 ≤ n) (h2 : n ≤ 200) (c1 : 1 ≤ c) (us : List Nat) (hu : us.length ≤ 800) : Alive (pPlay c n us).s := by
  unfold pPlay
  have key : ∀ (us : List Nat) (cnt : Nat) (y : PS), cnt + us.length ≤ 800 → TInv c n cnt y.s y.own → Alive y.s → Alive (us.foldl (pPick c) y).s := by
    intro us
    induction us with
    | nil => intro cnt y _ _ a; exact a
    | cons u us ih =>
      intro cnt y hc h a
      exact ih (cnt + 1) (pPick c y u) (by simp at hc; omega) (h.pick h2 (by simp at hc; omega) c1 u) (h.alivePick a h2 (by simp at hc; omega) c1 u)
  exact key us 0 ⟨_, _⟩ (by omega) (TInv.start (c := c) h1 h2) (alive_start c1)
end Go.Proofs.Ytlknpmdmnekedaa
