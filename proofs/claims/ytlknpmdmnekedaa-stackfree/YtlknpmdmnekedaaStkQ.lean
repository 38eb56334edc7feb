/- Some core is at nothing, or has seen the head as it stands: so of cores that go on one ends soon. Plain mathematics. No Go text. -/
import Derived.Test.YtlknpmdmnekedaaStkO
namespace Go.Proofs.Ytlknpmdmnekedaa
open Go.RowKit
set_option linter.unusedVariables false

/-- A frame that has seen the head as it stands. -/
def FreshF (M : Ar) (f : Fr) : Prop := ∃ r : Int, f = fr1 1 1 (mVal M 0) r ∨ f = fr1 1 2 (mVal M 0) r ∨ f = fr1 2 1 r (mVal M 0) ∨ f = fr1 2 2 r (mVal M 0)
def Alive (s : Sy) : Prop := ∃ (k : Nat) (x : Co), s.C[k]? = some x ∧ (x.F = [] ∨ ∃ f, x.F = [f] ∧ FreshF s.M f)
theorem FreshF.same {M M' : Ar} {f : Fr} (h : FreshF M f) (e : mVal M' 0 = mVal M 0) : FreshF M' f := by
  unfold FreshF at h ⊢
  rw [e]
  exact h
/-- A core has ended an op. -/
theorem alive_idle {s : Sy} {M : Ar} {L : List Evt} {k : Nat} {x x' : Co} (hx : s.C[k]? = some x) (h : x'.F = []) : Alive ⟨M, s.C.set k x', L⟩ :=
  ⟨k, x', List.getElem?_set_self (List.getElem?_eq_some_iff.1 hx).1, .inl h⟩
/-- The head stands; the core's frame is another one. -/
theorem Alive.next {s : Sy} (a : Alive s) {M : Ar} {L : List Evt} {k : Nat} {x : Co} {f g : Fr} (hx : s.C[k]? = some x) (hF : x.F = [f]) (e : mVal M 0 = mVal s.M 0) (hg : FreshF s.M f → FreshF M g) : Alive ⟨M, s.C.set k (cF x [g]), L⟩ := by
  obtain ⟨j, y, hy, hyF⟩ := a
  by_cases q : k = j
  · subst q
    rw [hx] at hy
    injection hy with hy
    subst hy
    rcases hyF with h | ⟨f', h1, h2⟩
    · rw [hF] at h; cases h
    · rw [hF] at h1
      simp only [List.cons.injEq, and_true] at h1
      subst h1
      exact ⟨k, cF x [g], List.getElem?_set_self (List.getElem?_eq_some_iff.1 hx).1, .inr ⟨g, rfl, hg h2⟩⟩
  · refine ⟨j, y, by show (s.C.set k _)[j]? = _; rw [List.getElem?_set_ne q]; exact hy, ?_⟩
    rcases hyF with h | ⟨f', h1, h2⟩
    · exact .inl h
    · exact .inr ⟨f', h1, h2.same e⟩
theorem alive_new {s : Sy} {L : List Evt} {k : Nat} {x : Co} {g : Fr} (hx : s.C[k]? = some x) (hg : FreshF s.M g) : Alive ⟨s.M, s.C.set k (cF x [g]), L⟩ :=
  ⟨k, cF x [g], List.getElem?_set_self (List.getElem?_eq_some_iff.1 hx).1, .inr ⟨g, rfl, hg⟩⟩
theorem fr1_inj {a b c d a' b' c' d' : Int} (h : fr1 a b c d = fr1 a' b' c' d') : a = a' ∧ b = b' ∧ c = c' ∧ d = d' := by
  simp only [fr1, Fr.mk.injEq, List.cons.injEq, and_true] at h
  exact ⟨h.1, h.2.1, h.2.2.1, h.2.2.2⟩
theorem TInv.alive {c n cnt : Nat} {s : Sy} {own : List (List Int)} {k : Nat} {x : Co} {f : Fr} (h : TInv c n cnt s own) (a : Alive s) (hn : n ≤ 200) (hc : cnt ≤ 899) (hx : s.C[k]? = some x) (hF : x.F = [f]) : Alive (pStep s (k : Int)) := by
  obtain ⟨⟨T, l, hT, tri, fr, tt⟩, cl, ol, og⟩ := h
  have ia := tri.ia
  have hw := ia.w
  have hok : FOk n T l s.M f := by
    rcases fr k x hx with q | ⟨g, q1, q2⟩
    · rw [hF] at q; cases q
    · rw [hF] at q1; simp only [List.cons.injEq, and_true] at q1; subst q1; exact q2
  rcases hok with ⟨r0, r1, rfl⟩ | ⟨r0, r1, rfl, h1, h2⟩ | ⟨r0, r1, rfl, h1, h2, h3⟩ | ⟨p, r1, rfl, p1, p2⟩ | ⟨p, r1, rfl, p1, p2, h1⟩ | ⟨p, r1, rfl, p1, p2, h1, h4⟩
  · by_cases hi : pIdx (mVal s.M 0) = 0
    · rw [pop0_full hx ia hF hi]; exact alive_idle hx rfl
    · rw [pop0_go hx ia hF hi]; exact alive_new hx ⟨r1, .inl rfl⟩
  · have hb := h1.idx hn
    obtain ⟨j, hj⟩ : ∃ j : Nat, pIdx r0 = (j : Int) := ⟨(pIdx r0).toNat, by omega⟩
    rw [pop1_go hx hF (by rw [hj]; exact ia.ml hn (by omega) (by omega))]
    refine a.next hx hF rfl (fun q => ?_)
    obtain ⟨r, q | q | q | q⟩ := q
    · obtain ⟨_, _, e, _⟩ := fr1_inj q
      rw [e]
      exact ⟨_, .inr (.inl rfl)⟩
    · have := fr1_inj q; omega
    · have := fr1_inj q; omega
    · have := fr1_inj q; omega
  · rcases Bool.eq_false_or_eq_true (mIs s.M 0 r0) with hm | hm
    · rw [pop2_hit hx hF hm]; exact alive_idle hx rfl
    · rw [pop2_miss hx ia hF hm]
      refine a.next hx hF rfl (fun q => ?_)
      obtain ⟨r, q | q | q | q⟩ := q
      · have := fr1_inj q; omega
      · obtain ⟨_, _, e, _⟩ := fr1_inj q
        rw [e, ia.is] at hm
        cases hm
      · have := fr1_inj q; omega
      · have := fr1_inj q; omega
  · rw [push0_go hx ia hF]; exact alive_new hx ⟨p, .inr (.inr (.inl rfl))⟩
  · have hb := h1.idx hn
    have hlt : 124 + 4 * p < s.M.W.length := by omega
    have hv : mVal (mStore s.M (pLink (p : Int)) (pIdx r1)) 0 = mVal s.M 0 := by
      have hl := (mStore_len s.M (pLink (p : Int)) (pIdx r1)).1
      have e1 := mVal_in (m := mStore s.M (pLink (p : Int)) (pIdx r1)) (k := 0) (by omega)
      rw [show ((0 : Nat) : Int) = 0 from rfl] at e1
      rw [e1, ia.v0, link_nat hn p2, mStore_in hlt, getD_set _ _ _ _ hlt, if_neg (by omega)]
    rw [push1_go hx hF]
    refine a.next hx hF hv (fun q => ?_)
    obtain ⟨r, q | q | q | q⟩ := q
    · have := fr1_inj q; omega
    · have := fr1_inj q; omega
    · obtain ⟨_, _, _, e⟩ := fr1_inj q
      rw [e] at hv ⊢
      exact ⟨p, .inr (.inr (.inr (by rw [hv])))⟩
    · have := fr1_inj q; omega
  · rcases Bool.eq_false_or_eq_true (mIs s.M 0 r1) with hm | hm
    · rw [push2_hit hx hF hm]; exact alive_idle hx rfl
    · rw [push2_miss hx ia hF hm]
      refine a.next hx hF rfl (fun q => ?_)
      obtain ⟨r, q | q | q | q⟩ := q
      · have := fr1_inj q; omega
      · have := fr1_inj q; omega
      · have := fr1_inj q; omega
      · obtain ⟨_, _, _, e⟩ := fr1_inj q
        rw [e, ia.is] at hm
        cases hm
/-- A frame that has seen the head as it stands ends its op, or is one step farther. -/
theorem TInv.soon {c n cnt : Nat} {s : Sy} {own : List (List Int)} {k : Nat} {x : Co} {f : Fr} (h : TInv c n cnt s own) (hn : n ≤ 200) (hx : s.C[k]? = some x) (hF : x.F = [f]) (hf : FreshF s.M f) :
    (f.pc = 1 ∧ ∃ g, (pStep s (k : Int)).C = s.C.set k (cF x [g]) ∧ g.pc = 2 ∧ FreshF (pStep s (k : Int)).M g) ∨ (f.pc = 2 ∧ ∃ v, (pStep s (k : Int)).C = s.C.set k (cB x v 0)) := by
  obtain ⟨⟨T, l, hT, tri, fr, tt⟩, cl, ol, og⟩ := h
  have ia := tri.ia
  have hw := ia.w
  have hok : FOk n T l s.M f := by
    rcases fr k x hx with q | ⟨g, q1, q2⟩
    · rw [hF] at q; cases q
    · rw [hF] at q1; simp only [List.cons.injEq, and_true] at q1; subst q1; exact q2
  obtain ⟨r, rfl | rfl | rfl | rfl⟩ := hf
  · left
    refine ⟨rfl, ?_⟩
    rcases hok with ⟨r0, r1, q⟩ | ⟨r0, r1, q, h1, h2⟩ | ⟨r0, r1, q, _⟩ | ⟨p, r1, q, _⟩ | ⟨p, r1, q, _⟩ | ⟨p, r1, q, _⟩
    · have := fr1_inj q; omega
    · obtain ⟨_, _, e, _⟩ := fr1_inj q
      rw [← e] at h1
      have hb := h1.idx hn
      obtain ⟨j, hj⟩ : ∃ j : Nat, pIdx (mVal s.M 0) = (j : Int) := ⟨(pIdx (mVal s.M 0)).toNat, by omega⟩
      rw [← e] at h2
      rw [pop1_go hx hF (by rw [hj]; exact ia.ml hn (by omega) (by omega))]
      exact ⟨_, rfl, rfl, _, .inr (.inl rfl)⟩
    · have := fr1_inj q; omega
    · have := fr1_inj q; omega
    · have := fr1_inj q; omega
    · have := fr1_inj q; omega
  · right
    rw [pop2_hit hx hF ia.is]
    exact ⟨rfl, _, rfl⟩
  · left
    refine ⟨rfl, ?_⟩
    rcases hok with ⟨r0, r1, q⟩ | ⟨r0, r1, q, _⟩ | ⟨r0, r1, q, _⟩ | ⟨p, r1, q, _⟩ | ⟨p, r1, q, p1, p2, h1⟩ | ⟨p, r1, q, _⟩
    · have := fr1_inj q; omega
    · have := fr1_inj q; omega
    · have := fr1_inj q; omega
    · have := fr1_inj q; omega
    · obtain ⟨_, _, e, _⟩ := fr1_inj q
      subst e
      have hlt : 124 + 4 * p < s.M.W.length := by omega
      have hv : mVal (mStore s.M (pLink (p : Int)) (pIdx (mVal s.M 0))) 0 = mVal s.M 0 := by
        have hl := (mStore_len s.M (pLink (p : Int)) (pIdx (mVal s.M 0))).1
        have e1 := mVal_in (m := mStore s.M (pLink (p : Int)) (pIdx (mVal s.M 0))) (k := 0) (by omega)
        rw [show ((0 : Nat) : Int) = 0 from rfl] at e1
        rw [e1, ia.v0, link_nat hn p2, mStore_in hlt, getD_set _ _ _ _ hlt, if_neg (by omega)]
      rw [push1_go hx hF]
      exact ⟨_, rfl, rfl, p, .inr (.inr (.inr (by rw [hv])))⟩
    · have := fr1_inj q; omega
  · right
    rw [push2_hit hx hF ia.is]
    exact ⟨rfl, _, rfl⟩
end Go.Proofs.Ytlknpmdmnekedaa
