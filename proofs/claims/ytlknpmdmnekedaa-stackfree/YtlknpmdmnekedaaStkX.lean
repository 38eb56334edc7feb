/- Of cores that are all busy one ends within two rounds. Plain mathematics. No Go text. -/
import Derived.Test.YtlknpmdmnekedaaStkW
import Derived.Test.YtlknpmdmnekedaaStkV
namespace Go.Proofs.Ytlknpmdmnekedaa
open Go.RowKit
set_option linter.unusedVariables false

structure FInv (c n cnt : Nat) (s : Sy) : Prop where
  ti : ∃ own, TInv c n cnt s own
  ok : Ok4 cnt s
theorem FInv.step {c n cnt : Nat} {s : Sy} (h : FInv c n cnt s) (hn : n ≤ 200) (hc : cnt ≤ 890) {k : Nat} {x : Co} {f : Fr} (hx : s.C[k]? = some x) (hF : x.F = [f]) : FInv c n (cnt + 1) (pStep s (k : Int)) := by
  obtain ⟨own, ti⟩ := h.ti
  refine ⟨?_, h.ok.step (by omega) _⟩
  obtain ⟨o, ho⟩ : ∃ o, own[k]? = some o := ⟨_, List.getElem?_eq_getElem (by
    have h1 := ti.ol
    have h2 := ti.cl
    have := (List.getElem?_eq_some_iff.1 hx).1
    omega)⟩
  rcases (ti.step hn (by omega) hx hF ho).ex with ⟨i, M, hop, e, hi⟩ | ⟨x', e, hne, hi⟩
  · exact ⟨_, hi⟩
  · exact ⟨_, hi⟩
theorem FInv.up {c n a b : Nat} {s : Sy} (h : FInv c n a s) (hb : a ≤ b) : FInv c n b s := by
  obtain ⟨own, ti⟩ := h.ti
  exact ⟨⟨own, ti.up hb⟩, h.ok.up hb⟩
theorem FInv.frame {c n cnt : Nat} {s : Sy} (h : FInv c n cnt s) {k : Nat} (hk : k < c) (hb : ∀ x, s.C[k]? = some x → x.F ≠ []) : ∃ x f, s.C[k]? = some x ∧ x.F = [f] := by
  obtain ⟨own, ti⟩ := h.ti
  obtain ⟨x, hx⟩ : ∃ x, s.C[k]? = some x := ⟨_, List.getElem?_eq_getElem (by have := ti.cl; omega)⟩
  obtain ⟨T, l, _, _, fr, _⟩ := ti.ex
  rcases fr k x hx with q | ⟨f, q, _⟩
  · exact absurd q (hb x hx)
  · exact ⟨x, f, hx, q⟩
def Busy (s : Sy) : Prop := ∀ (j : Nat) (x : Co), s.C[j]? = some x → x.F ≠ []
def FreshAt (s : Sy) (kk : Nat) (q : Nat) : Prop := ∃ x f, s.C[kk]? = some x ∧ x.F = [f] ∧ FreshF s.M f ∧ (q : Int) ≤ f.pc
theorem fresh_pc {M : Ar} {f : Fr} (h : FreshF M f) : 1 ≤ f.pc ∧ f.pc ≤ 2 := by
  obtain ⟨r, rfl | rfl | rfl | rfl⟩ := h <;> simp [fr1]
def ROut (c k : Nat) (s : Sy) : Prop := Busy s ∧ ∃ kk, kk < c ∧ FreshAt s kk (k + 1)
def RIn (c tN k i : Nat) (s : Sy) : Prop := Busy s ∧ ∃ kk, kk < c ∧ (((∃ i', i' < i ∧ (i' + tN) % c = kk) ∧ FreshAt s kk (k + 2)) ∨ ((¬ ∃ i', i' < i ∧ (i' + tN) % c = kk) ∧ FreshAt s kk (k + 1)))
theorem ROut.no {c k : Nat} {s : Sy} (h : ROut c k s) : k < 2 := by
  obtain ⟨_, kk, _, x, f, _, _, hf, hq⟩ := h
  have := fresh_pc hf
  omega
theorem ROut.of {c n cnt : Nat} {s : Sy} (h : FInv c n cnt s) (a : Alive s) (b : Busy s) : ROut c 0 s := by
  obtain ⟨kk, x, hx, hF⟩ := a
  obtain ⟨own, ti⟩ := h.ti
  rcases hF with q | ⟨f, q, hf⟩
  · exact absurd q (b kk x hx)
  · exact ⟨b, kk, by have := (List.getElem?_eq_some_iff.1 hx).1; have := ti.cl; omega, x, f, hx, q, hf, by have := fresh_pc hf; omega⟩
theorem ROut.start {c k : Nat} {s : Sy} (h : ROut c k s) (tN : Nat) : RIn c tN k 0 s := by
  obtain ⟨b, kk, hk, hf⟩ := h
  exact ⟨b, kk, hk, .inr ⟨fun ⟨i, hi, _⟩ => by omega, hf⟩⟩
theorem RIn.done {c tN k : Nat} {s : Sy} (h : RIn c tN k c s) (c1 : 1 ≤ c) : ROut c (k + 1) s := by
  obtain ⟨b, kk, hk, hf⟩ := h
  rcases hf with ⟨_, hf⟩ | ⟨hn, _⟩
  · exact ⟨b, kk, hk, hf⟩
  · exfalso
    apply hn
    refine ⟨(kk + (c - tN % c)) % c, Nat.mod_lt _ (by omega), ?_⟩
    have h1 : tN % c < c := Nat.mod_lt _ (by omega)
    rw [Nat.mod_add_mod]
    have e : kk + (c - tN % c) + tN = kk + (c - tN % c + tN % c) + c * (tN / c) := by
      have := Nat.div_add_mod tN c
      omega
    rw [e, Nat.add_mul_mod_self_left, show c - tN % c + tN % c = c by omega, Nat.add_mod_right]
    exact Nat.mod_eq_of_lt hk
theorem RIn.step {c n cnt tN k i : Nat} {s : Sy} (h : FInv c n cnt s) (hn : n ≤ 200) (hc : cnt ≤ 890) (r : RIn c tN k i s) {j : Nat} (hj : j = (i + tN) % c) (c1 : 1 ≤ c) (hne : ∀ x, (pStep s (j : Int)).C[j]? = some x → x.F ≠ []) : RIn c tN k (i + 1) (pStep s (j : Int)) := by
  obtain ⟨b, kk, hk, hf⟩ := r
  have hjc : j < c := by rw [hj]; exact Nat.mod_lt _ (by omega)
  obtain ⟨x, f, hx, hF⟩ := h.frame hjc (fun x hx => b j x hx)
  have h2 := h.step hn hc hx hF
  obtain ⟨own, ti⟩ := h.ti
  obtain ⟨own2, ti2⟩ := h2.ti
  have hjl : j < s.C.length := (List.getElem?_eq_some_iff.1 hx).1
  obtain ⟨x', eC, eW, ht⟩ := ti.tags hn (by omega) hx hF
  have hx' : (pStep s (j : Int)).C[j]? = some x' := by rw [eC]; exact List.getElem?_set_self hjl
  have hxn := hne x' hx'
  have hd : (pStep s (j : Int)).M.W.getD 0 0 = s.M.W.getD 0 0 := by
    rcases ht with ⟨q, _⟩ | ⟨_, q⟩
    · exact absurd q hxn
    · exact q
  have hm : mVal (pStep s (j : Int)).M 0 = mVal s.M 0 := by
    obtain ⟨_, _, _, t1, _⟩ := ti.ex
    obtain ⟨_, _, _, t2, _⟩ := ti2.ex
    rw [t1.ia.v0, t2.ia.v0, hd]
  have bs : Busy (pStep s (j : Int)) := fun j' y hy => by
    by_cases e : j = j'
    · subst e; exact hne y hy
    · rw [eC, List.getElem?_set_ne e] at hy; exact b j' y hy
  refine ⟨bs, kk, hk, ?_⟩
  by_cases e : j = kk
  · subst e
    left
    refine ⟨⟨i, by omega, hj.symm⟩, ?_⟩
    have hq : ∃ y g, s.C[j]? = some y ∧ y.F = [g] ∧ FreshF s.M g ∧ ((k + 1 : Nat) : Int) ≤ g.pc ∧ (g.pc = 1 → k = 0) := by
      rcases hf with ⟨_, y, g, h1, h2, h3, h4⟩ | ⟨_, y, g, h1, h2, h3, h4⟩
      · exact ⟨y, g, h1, h2, h3, by omega, fun q => by omega⟩
      · exact ⟨y, g, h1, h2, h3, h4, fun q => by omega⟩
    obtain ⟨y, g, h1, h2', h3, h4, h5⟩ := hq
    rcases ti.soon hn h1 h2' h3 with ⟨p1, g', e1, p2, hg⟩ | ⟨p2, v, e1⟩
    · have hk0 := h5 p1
      refine ⟨cF y [g'], g', by rw [e1]; exact List.getElem?_set_self hjl, rfl, hg, by rw [p2]; omega⟩
    · exfalso
      exact hne (cB y v 0) (by rw [e1]; exact List.getElem?_set_self hjl) rfl
  · have old : ∀ q, FreshAt s kk q → FreshAt (pStep s (j : Int)) kk q := fun q ⟨y, g, h1, h2', h3, h4⟩ => ⟨y, g, by rw [eC, List.getElem?_set_ne e]; exact h1, h2', h3.same hm, h4⟩
    rcases hf with ⟨⟨i', h1, h2'⟩, h3⟩ | ⟨h1, h3⟩
    · exact .inl ⟨⟨i', by omega, h2'⟩, old _ h3⟩
    · refine .inr ⟨fun ⟨i', q1, q2⟩ => ?_, old _ h3⟩
      rcases Nat.lt_or_ge i' i with q | q
      · exact h1 ⟨i', q, q2⟩
      · have : i' = i := by omega
        subst this
        exact e (hj.trans q2)
end Go.Proofs.Ytlknpmdmnekedaa
