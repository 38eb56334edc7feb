/- What follows of what holds behind every pick: of a step. Plain mathematics. No Go text. -/
import Derived.Test.YtlknpmdmnekedaaStkL
namespace Go.Proofs.Ytlknpmdmnekedaa
open Go.RowKit
set_option linter.unusedVariables false

/-- A step of a core: does it end with OK? -/
theorem TInv.tags {c n cnt : Nat} {s : Sy} {own : List (List Int)} {k : Nat} {x : Co} {f : Fr} (h : TInv c n cnt s own) (hn : n ≤ 200) (hc : cnt ≤ 899) (hx : s.C[k]? = some x) (hF : x.F = [f]) :
    ∃ x', (pStep s (k : Int)).C = s.C.set k x' ∧ (pStep s (k : Int)).M.W.length = s.M.W.length ∧
      ((x'.F = [] ∧ x'.e = 0 ∧ pTag ((pStep s (k : Int)).M.W.getD 0 0) = pTag (s.M.W.getD 0 0) + 1) ∨ (¬ (x'.F = [] ∧ x'.e = 0) ∧ (pStep s (k : Int)).M.W.getD 0 0 = s.M.W.getD 0 0)) := by
  obtain ⟨⟨T, l, hT, tri, fr, tt⟩, cl, ol, og⟩ := h
  have ia := tri.ia
  have hw := ia.w
  have tg := tri.tag hn (show T ≤ 900 by omega)
  rw [ia.v0] at tg
  have hok : FOk n T l s.M f := by
    rcases fr k x hx with q | ⟨g, q1, q2⟩
    · rw [hF] at q; cases q
    · rw [hF] at q1; simp only [List.cons.injEq, and_true] at q1; subst q1; exact q2
  have keep : ∀ (g : Fr) (L' : List Evt), pStep s (k : Int) = ⟨s.M, s.C.set k (cF x [g]), L'⟩ → _ := fun g L' e => (show ∃ x', (pStep s (k : Int)).C = s.C.set k x' ∧ (pStep s (k : Int)).M.W.length = s.M.W.length ∧
      ((x'.F = [] ∧ x'.e = 0 ∧ pTag ((pStep s (k : Int)).M.W.getD 0 0) = pTag (s.M.W.getD 0 0) + 1) ∨ (¬ (x'.F = [] ∧ x'.e = 0) ∧ (pStep s (k : Int)).M.W.getD 0 0 = s.M.W.getD 0 0)) from ⟨cF x [g], by rw [e], by rw [e], .inr ⟨fun q => by simp [cF] at q, by rw [e]⟩⟩)
  rcases hok with ⟨r0, r1, rfl⟩ | ⟨r0, r1, rfl, h1, h2⟩ | ⟨r0, r1, rfl, h1, h2, h3⟩ | ⟨p, r1, rfl, p1, p2⟩ | ⟨p, r1, rfl, p1, p2, h1⟩ | ⟨p, r1, rfl, p1, p2, h1, h4⟩
  · by_cases hi : pIdx (mVal s.M 0) = 0
    · have e := pop0_full hx ia hF hi
      exact ⟨cB x 0 2, by rw [e], by rw [e], .inr ⟨fun q => by simp [cB] at q, by rw [e]⟩⟩
    · exact keep _ _ (pop0_go hx ia hF hi)
  · have hb := h1.idx hn
    obtain ⟨j, hj⟩ : ∃ j : Nat, pIdx r0 = (j : Int) := ⟨(pIdx r0).toNat, by omega⟩
    exact keep _ _ (pop1_go hx hF (by rw [hj]; exact ia.ml hn (by omega) (by omega)))
  · rcases Bool.eq_false_or_eq_true (mIs s.M 0 r0) with hm | hm
    · have hv := is_val ia hm
      have e := pop2_hit hx hF hm
      rw [← hv] at h2 h3 e
      rw [(tri.tag hn (show T ≤ 900 by omega)).2] at h2 e
      obtain ⟨j, r, el⟩ : ∃ j r, l = j :: r := by
        cases l with
        | nil => simp [hdN] at h2
        | cons j r => exact ⟨j, r, rfl⟩
      have er := h3 (tri.tag hn (show T ≤ 900 by omega)).1 j r el
      subst er el
      rw [show hdN (j :: r) = (j : Int) by simp [hdN]] at e
      have tri' := tri.pop hn (show T ≤ 900 by omega)
      have tg' := tri'.tag hn (show T + 1 ≤ 900 by omega)
      rw [tri'.ia.v0] at tg'
      refine ⟨cB x j 0, by rw [e], by rw [e]; exact tri'.ia.w.trans hw.symm, .inl ⟨rfl, rfl, ?_⟩⟩
      rw [e]
      show pTag ((mTurn _ _ _).W.getD 0 0) = _
      rw [tg'.1, tg.1]
      omega
    · exact keep _ _ (pop2_miss hx ia hF hm)
  · exact keep _ _ (push0_go hx ia hF)
  · have e := push1_go hx hF
    have hb := h1.idx hn
    have hlt : 124 + 4 * p < s.M.W.length := by omega
    have a1 := mStore_in (m := s.M) hlt (pIdx r1)
    rw [link_nat hn p2] at e
    refine ⟨cF x [fr1 2 2 p r1], by rw [e], by rw [e]; exact (mStore_len _ _ _).1, .inr ⟨fun q => by simp [cF] at q, ?_⟩⟩
    rw [e]
    show (mStore s.M _ _).W.getD 0 0 = _
    rw [a1, getD_set _ _ _ _ hlt, if_neg (by omega)]
  · rcases Bool.eq_false_or_eq_true (mIs s.M 0 r1) with hm | hm
    · have hv := is_val ia hm
      have e := push2_hit hx hF hm
      rw [← hv] at e
      have h7 := pNext_bd (mVal s.M 0) (p : Int)
      have e1 : mCas s.M 0 (mVal s.M 0) (pNext (mVal s.M 0) (p : Int) 0) = ⟨s.M.W.set 0 (pNext (mVal s.M 0) (p : Int) 0), s.M.G, false⟩ := by
        unfold mCas
        rw [ia.is, ia.m0, ia.bad]
        simp
      have hb := hdN_bd tri.rg
      refine ⟨cB x p 0, by rw [e], by rw [e, (mTurn_len _ _ _).1]; exact (mCas_len _ _ _ _).1, .inl ⟨rfl, rfl, ?_⟩⟩
      rw [e]
      show pTag ((mTurn _ _ _).W.getD 0 0) = _
      rw [(mTurn_len _ _ _).1, e1]
      show pTag ((s.M.W.set 0 _).getD 0 0) = _
      rw [getD_set _ _ _ _ (by omega), if_pos rfl, ia.v0, tri.hd, word_next (by omega) (by omega) hb.1 (by omega) (by omega) (by omega), pTag_word _ _ _ (by omega) (by omega) (by omega), pTag_word _ _ _ (by omega) (by omega) (by omega)]
    · exact keep _ _ (push2_miss hx ia hF hm)
/-- How many nodes are free is how long the list is. -/
theorem Tri.count {n T : Nat} {l : List Nat} {M : Ar} (h : Tri n T l M) : (mCount M.G 0 = 0 ↔ l = []) := by
  have hg := h.ia.g
  unfold mCount
  rw [List.count_eq_zero]
  constructor
  · intro q
    cases l with
    | nil => rfl
    | cons j r =>
      have hj := h.rg j (by simp)
      have := h.gs j hj.1 hj.2
      rw [if_pos (by simp)] at this
      exfalso
      apply q
      rw [List.getD_eq_getElem?_getD, List.getElem?_eq_getElem (by omega)] at this
      have e : (M.G.drop 1)[j - 1]? = some 0 := by
        rw [List.getElem?_drop, show 1 + (j - 1) = j by omega, List.getElem?_eq_getElem (by omega)]
        simpa using this
      exact List.mem_of_getElem? e
  · intro q hm
    subst q
    obtain ⟨i, hi⟩ := mem_at hm
    rw [List.getElem?_drop] at hi
    have hlt := (List.getElem?_eq_some_iff.1 hi).1
    have := h.gs (1 + i) (by omega) (by omega)
    rw [if_neg (by simp), List.getD_eq_getElem?_getD, hi] at this
    simp at this
end Go.Proofs.Ytlknpmdmnekedaa
