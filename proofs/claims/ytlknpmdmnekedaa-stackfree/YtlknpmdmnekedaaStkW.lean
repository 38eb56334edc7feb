/- A pop's first step: it ends just where no node is free. Plain mathematics. No Go text. -/
import Derived.Test.YtlknpmdmnekedaaStkO
import Derived.Test.YtlknpmdmnekedaaStkV
namespace Go.Proofs.Ytlknpmdmnekedaa
open Go.RowKit
set_option linter.unusedVariables false

theorem hdN_zero {l : List Nat} (h : ∀ j ∈ l, 1 ≤ j) : hdN l = 0 ↔ l = [] := by
  cases l with
  | nil => simp [hdN]
  | cons a r => have := h a (by simp); simp [hdN]; omega
theorem TInv.full {c n cnt : Nat} {s : Sy} {own : List (List Int)} {k : Nat} {x : Co} {r0 r1 : Int} (h : TInv c n cnt s own) (hn : n ≤ 200) (hc : cnt ≤ 899) (hx : s.C[k]? = some x) (hF : x.F = [fr1 1 0 r0 r1]) :
    ∃ x', (pStep s (k : Int)).C = s.C.set k x' ∧ ((mCount s.M.G 0 = 0 ∧ x'.F = [] ∧ x'.e = 2 ∧ (pStep s (k : Int)).L.length = s.L.length + 1) ∨ (mCount s.M.G 0 ≠ 0 ∧ x'.F ≠ [])) := by
  obtain ⟨⟨T, l, hT, tri, fr, tt⟩, cl, ol, og⟩ := h
  have ia := tri.ia
  have hb := hdN_bd tri.rg
  have hi : pIdx (mVal s.M 0) = hdN l := (tri.tag hn (show T ≤ 900 by omega)).2
  have hz := hdN_zero (fun j hj => (tri.rg j hj).1)
  by_cases q : hdN l = 0
  · rw [pop0_full hx ia hF (hi.trans q)]
    exact ⟨cB x 0 2, rfl, .inl ⟨tri.count.2 (hz.1 q), rfl, rfl, by simp⟩⟩
  · rw [pop0_go hx ia hF (by rw [hi]; exact q)]
    exact ⟨cF x [fr1 1 1 (mVal s.M 0) r1], rfl, .inr ⟨fun e => q (hz.2 (tri.count.1 e)), by simp [cF]⟩⟩
/-- What a core with a frame is at. -/
theorem TInv.kind {c n cnt : Nat} {s : Sy} {own : List (List Int)} {k : Nat} {x : Co} {f : Fr} (h : TInv c n cnt s own) (hx : s.C[k]? = some x) (hF : x.F = [f]) :
    f.op = 2 ∨ (f.op = 1 ∧ ((∃ r0 r1, f = fr1 1 0 r0 r1) ∨ (f.pc ≠ 0 ∧ 0 ≤ f.pc ∧ f.pc ≤ 2))) := by
  obtain ⟨⟨T, l, hT, tri, fr, tt⟩, cl, ol, og⟩ := h
  rcases fr k x hx with q | ⟨g, q1, q2⟩
  · rw [hF] at q; cases q
  rw [hF] at q1; simp only [List.cons.injEq, and_true] at q1; subst q1
  rcases q2 with ⟨r0, r1, rfl⟩ | ⟨r0, r1, rfl, h1, h2⟩ | ⟨r0, r1, rfl, h1, h2, h3⟩ | ⟨p, r1, rfl, p1, p2⟩ | ⟨p, r1, rfl, p1, p2, h1⟩ | ⟨p, r1, rfl, p1, p2, h1, h4⟩
  · exact .inr ⟨rfl, .inl ⟨_, _, rfl⟩⟩
  · exact .inr ⟨rfl, .inr ⟨by simp [fr1], by simp [fr1], by simp [fr1]⟩⟩
  · exact .inr ⟨rfl, .inr ⟨by simp [fr1], by simp [fr1], by simp [fr1]⟩⟩
  · exact .inl rfl
  · exact .inl rfl
  · exact .inl rfl
/-- A pop is begun. -/
theorem begin_pop {y : PS} {k : Nat} (h : pTop y.s (k : Int) = none) : pBegin y k 0 = ⟨pCall y.s (k : Int) (fr1 1 0 0 0), y.own⟩ := by
  unfold pBegin
  rw [h]
  dsimp only
  split <;> rfl
theorem len_step {c n cnt : Nat} {s : Sy} {own : List (List Int)} {k : Nat} {x : Co} {f : Fr} (h : TInv c n cnt s own) (hn : n ≤ 200) (hc : cnt ≤ 899) (hx : s.C[k]? = some x) (hF : x.F = [f]) : (pStep s (k : Int)).C.length = c := by
  obtain ⟨x', e, _⟩ := h.tags hn hc hx hF
  rw [e, List.length_set]
  exact h.cl
/-- A cell is stored that is there. -/
theorem set_sameW (w : World) (v k : Nat) (u : Value) (cs : Array Value) (T : TypeId) (h : w.heap[v]? = some (.cells cs T (0, 0))) (hk : cs[k]? = some u) : w.setCell ⟨v, k, none⟩ u = w := by
  have e : (w.setCell ⟨v, k, none⟩ u).heap = w.heap := by
    apply Array.ext_getElem?
    intro i
    by_cases q : i = v
    · subst q
      rw [heap_setCell_same w i k _ _ _ h, h]
      have hkb := Array.getElem?_eq_some_iff.1 hk
      have : cs.setIfInBounds k u = cs := by
        apply Array.ext
        · simp
        · intro j j1 j2
          rw [Array.getElem_setIfInBounds]
          split
          · next e => subst e; exact hkb.2.symm
          · rfl
      rw [this]
    · exact Below.heap_setCell w ⟨v, k, none⟩ u i q
  have : w.setCell ⟨v, k, none⟩ u = { w with heap := (w.setCell ⟨v, k, none⟩ u).heap } := rfl
  rw [this, e]
end Go.Proofs.Ytlknpmdmnekedaa
