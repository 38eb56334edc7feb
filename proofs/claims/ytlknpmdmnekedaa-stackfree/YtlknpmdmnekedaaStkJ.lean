/- Many cores pop and push, each what it has popped: what holds behind every step: plain mathematics. No Go text. -/
import Derived.Test.YtlknpmdmnekedaaStkI
namespace Go.Proofs.Ytlknpmdmnekedaa
open Go.RowKit
set_option linter.unusedVariables false

theorem pNext_bd (w i : Int) : 0 ≤ pNext w i 0 ∧ pNext w i 0 < 2305843009213693952 := by
  unfold pNext
  exact pWord_bd _ _ _ ⟨Int.emod_nonneg _ (by omega), Int.emod_lt_of_pos _ (by omega)⟩ ⟨Int.emod_nonneg _ (by omega), Int.emod_lt_of_pos _ (by omega)⟩ (by omega)
theorem sum_set : ∀ (l : List Nat) (k a b : Nat), l[k]? = some a → (l.set k b).sum + a = l.sum + b
  | [], k, a, b, h => by simp at h
  | y :: l, 0, a, b, h => by simp at h; subst h; simp; omega
  | y :: l, k + 1, a, b, h => by
    have := sum_set l k a b (by simpa using h)
    simp; omega
theorem sum_ge : ∀ (l : List Nat) (k a : Nat), l[k]? = some a → a ≤ l.sum
  | [], k, a, h => by simp at h
  | y :: l, 0, a, h => by simp at h; subst h; simp
  | y :: l, k + 1, a, h => by have := sum_ge l k a (by simpa using h); simp; omega
theorem sum_two (l : List Nat) (i k a b : Nat) (hi : l[i]? = some a) (hk : l[k]? = some b) (hne : i ≠ k) : a + b ≤ l.sum := by
  have h1 := sum_set l i a 0 hi
  have h2 := sum_ge (l.set i 0) k b (by rw [List.getElem?_set_ne hne]; exact hk)
  omega

/-- How often a core has a node: among what it has popped, or as what it pushes. -/
def pushing (F : List Fr) (j : Nat) : Nat := match F with
  | [f] => if f.op = 2 ∧ f.R.getD 0 0 = (j : Int) then 1 else 0
  | _ => 0
def hold (j : Nat) (x : Co) (o : List Int) : Nat := o.count (j : Int) + pushing x.F j
def tot (C : List Co) (own : List (List Int)) (j : Nat) : Nat := (List.zipWith (hold j) C own).sum
theorem tot_set {C : List Co} {own : List (List Int)} {k : Nat} {x : Co} {o : List Int} (hx : C[k]? = some x) (ho : own[k]? = some o) (x' : Co) (o' : List Int) (j : Nat) : tot (C.set k x') (own.set k o') j + hold j x o = tot C own j + hold j x' o' := by
  unfold tot
  have e : List.zipWith (hold j) (C.set k x') (own.set k o') = (List.zipWith (hold j) C own).set k (hold j x' o') := by
    apply List.ext_getElem?
    intro i
    have hk1 := (List.getElem?_eq_some_iff.1 hx).1
    have hk2 := (List.getElem?_eq_some_iff.1 ho).1
    by_cases q : k = i
    · subst q
      rw [List.getElem?_set_self (by simp; omega), List.getElem?_zipWith, List.getElem?_set_self hk1, List.getElem?_set_self hk2]
    · rw [List.getElem?_set_ne q, List.getElem?_zipWith, List.getElem?_zipWith, List.getElem?_set_ne q, List.getElem?_set_ne q]
  rw [e]
  exact sum_set _ k _ _ (by rw [List.getElem?_zipWith, hx, ho])
theorem tot_two {C : List Co} {own : List (List Int)} {i k : Nat} {x y : Co} {o p : List Int} (hx : C[i]? = some x) (ho : own[i]? = some o) (hy : C[k]? = some y) (hp : own[k]? = some p) (hne : i ≠ k) (j : Nat) : hold j x o + hold j y p ≤ tot C own j :=
  sum_two _ i k _ _ (by rw [List.getElem?_zipWith, hx, ho]) (by rw [List.getElem?_zipWith, hy, hp]) hne
theorem tot_ge {C : List Co} {own : List (List Int)} {k : Nat} {x : Co} {o : List Int} (hx : C[k]? = some x) (ho : own[k]? = some o) (j : Nat) : hold j x o ≤ tot C own j := sum_ge _ k _ (by rw [List.getElem?_zipWith, hx, ho])

/-- A word that was a head, of tag T at most. -/
def Seen (n T : Nat) (l : List Nat) (w : Int) : Prop := ∃ (t : Nat) (i : Int), w = pWord t i 0 ∧ t ≤ T ∧ 0 ≤ i ∧ i ≤ (n : Int) ∧ (t = T → i = hdN l)
theorem Seen.up {n T : Nat} {l l' : List Nat} {w : Int} (h : Seen n T l w) : Seen n (T + 1) l' w := by
  obtain ⟨t, i, e, a, b, c, _⟩ := h
  exact ⟨t, i, e, by omega, b, c, fun q => by omega⟩
theorem Seen.idx {n T : Nat} {l : List Nat} {w : Int} (h : Seen n T l w) (hn : n ≤ 200) : 0 ≤ pIdx w ∧ pIdx w ≤ (n : Int) := by
  obtain ⟨t, i, rfl, a, b, c, _⟩ := h
  rw [word_idx b (by omega)]
  exact ⟨b, c⟩
theorem Seen.tag {n T : Nat} {l : List Nat} {w : Int} (h : Seen n T l w) (hn : n ≤ 200) (hT : T ≤ 900) : pTag w ≤ (T : Int) := by
  obtain ⟨t, i, rfl, a, b, c, _⟩ := h
  rw [pTag_word _ _ _ (by omega) (by omega) (by omega)]
  omega
theorem Tri.seen {n T : Nat} {l : List Nat} {M : Ar} (h : Tri n T l M) : Seen n T l (mVal M 0) := by
  have hh := hdN_bd h.rg
  exact ⟨T, hdN l, by rw [h.ia.v0, h.hd], Nat.le_refl _, hh.1, hh.2, fun _ => rfl⟩
theorem is_val {n : Nat} {M : Ar} (ia : IA n M) {w : Int} (h : mIs M 0 w = true) : mVal M 0 = w := by
  unfold mIs at h
  rw [ia.v0]
  have := (Bool.and_eq_true_iff.1 h).2
  simpa using this
theorem Tri.tag {n T : Nat} {l : List Nat} {M : Ar} (h : Tri n T l M) (hn : n ≤ 200) (hT : T ≤ 900) : pTag (mVal M 0) = (T : Int) ∧ pIdx (mVal M 0) = hdN l := by
  have hh := hdN_bd h.rg
  rw [h.ia.v0, h.hd, pTag_word _ _ _ (by omega) (by omega) (by omega), word_idx hh.1 (by omega)]
  exact ⟨rfl, rfl⟩

/-- What a frame of an op may be. -/
def FOk (n T : Nat) (l : List Nat) (M : Ar) (f : Fr) : Prop :=
  (∃ r0 r1, f = fr1 1 0 r0 r1) ∨
  (∃ r0 r1, f = fr1 1 1 r0 r1 ∧ Seen n T l r0 ∧ pIdx r0 ≠ 0) ∨
  (∃ r0 r1, f = fr1 1 2 r0 r1 ∧ Seen n T l r0 ∧ pIdx r0 ≠ 0 ∧ (pTag r0 = (T : Int) → ∀ j r, l = j :: r → r1 = hdN r)) ∨
  (∃ (p : Nat) (r1 : Int), f = fr1 2 0 p r1 ∧ 1 ≤ p ∧ p ≤ n) ∨
  (∃ (p : Nat) (r1 : Int), f = fr1 2 1 p r1 ∧ 1 ≤ p ∧ p ≤ n ∧ Seen n T l r1) ∨
  (∃ (p : Nat) (r1 : Int), f = fr1 2 2 p r1 ∧ 1 ≤ p ∧ p ≤ n ∧ Seen n T l r1 ∧ M.W.getD (124 + 4 * p) 0 = pIdx r1)
theorem FOk.up {n T : Nat} {l l' : List Nat} {M M' : Ar} {f : Fr} (hn : n ≤ 200) (hT : T ≤ 900) (h : FOk n T l M f) (hw : ∀ p, 1 ≤ p → p ≤ n → M'.W.getD (124 + 4 * p) 0 = M.W.getD (124 + 4 * p) 0) : FOk n (T + 1) l' M' f := by
  rcases h with h | ⟨r0, r1, e, h1, h2⟩ | ⟨r0, r1, e, h1, h2, h3⟩ | h | ⟨p, r1, e, h1, h2, h3⟩ | ⟨p, r1, e, h1, h2, h3, h4⟩
  · exact .inl h
  · exact .inr (.inl ⟨r0, r1, e, h1.up, h2⟩)
  · refine .inr (.inr (.inl ⟨r0, r1, e, h1.up, h2, fun q => ?_⟩))
    have := h1.tag hn hT
    omega
  · exact .inr (.inr (.inr (.inl h)))
  · exact .inr (.inr (.inr (.inr (.inl ⟨p, r1, e, h1, h2, h3.up⟩))))
  · exact .inr (.inr (.inr (.inr (.inr ⟨p, r1, e, h1, h2, h3.up, (hw p h1 h2).trans h4⟩))))
/-- Where only the link of one node, that this frame doesn't push, is another one. -/
theorem FOk.link {n T q : Nat} {l : List Nat} {M M' : Ar} {f : Fr} (h : FOk n T l M f) (hq : pushing [f] q = 0) (hw : ∀ p, 1 ≤ p → p ≤ n → p ≠ q → M'.W.getD (124 + 4 * p) 0 = M.W.getD (124 + 4 * p) 0) : FOk n T l M' f := by
  rcases h with h | h | h | h | h | ⟨p, r1, e, h1, h2, h3, h4⟩
  · exact .inl h
  · exact .inr (.inl h)
  · exact .inr (.inr (.inl h))
  · exact .inr (.inr (.inr (.inl h)))
  · exact .inr (.inr (.inr (.inr (.inl h))))
  · refine .inr (.inr (.inr (.inr (.inr ⟨p, r1, e, h1, h2, h3, ?_⟩))))
    rw [hw p h1 h2 (fun e2 => by subst e2; rw [e] at hq; simp [pushing, fr1] at hq)]
    exact h4

/-- What holds behind every step: of c cores, n nodes, with at most cnt swaps. -/
structure TInv (c n cnt : Nat) (s : Sy) (own : List (List Int)) : Prop where
  ex : ∃ (T : Nat) (l : List Nat), T ≤ cnt ∧ Tri n T l s.M ∧ (∀ (k : Nat) (x : Co), s.C[k]? = some x → x.F = [] ∨ ∃ f, x.F = [f] ∧ FOk n T l s.M f) ∧ ∀ j, 1 ≤ j → j ≤ n → tot s.C own j = if j ∈ l then 0 else 1
  cl : s.C.length = c
  ol : own.length = c
  og : ∀ o ∈ own, ∀ p ∈ o, 1 ≤ p ∧ p ≤ (n : Int)
theorem set_self {α : Type} {l : List α} {k : Nat} {x : α} (h : l[k]? = some x) : l.set k x = l := by
  apply List.ext_getElem?
  intro j
  by_cases q : k = j
  · subst q; rw [List.getElem?_set_self (List.getElem?_eq_some_iff.1 h).1, h]
  · rw [List.getElem?_set_ne q]
/-- One core is another one; the arena's list may be. -/
theorem TInv.one {c n cnt T T' : Nat} {l l' : List Nat} {s : Sy} {own : List (List Int)} {M' : Ar} {L' : List Evt} {k : Nat} {x x' : Co} {o o' : List Int} (hx : s.C[k]? = some x) (ho : own[k]? = some o)
    (cl : s.C.length = c) (ol : own.length = c) (og : ∀ o ∈ own, ∀ p ∈ o, 1 ≤ p ∧ p ≤ (n : Int)) (fr : ∀ (k : Nat) (x : Co), s.C[k]? = some x → x.F = [] ∨ ∃ f, x.F = [f] ∧ FOk n T l s.M f) (tt : ∀ j, 1 ≤ j → j ≤ n → tot s.C own j = if j ∈ l then 0 else 1)
    (hT : T' ≤ cnt) (tri : Tri n T' l' M') (hx' : x'.F = [] ∨ ∃ f, x'.F = [f] ∧ FOk n T' l' M' f) (hf : ∀ (i : Nat) (y : Co) (f : Fr), i ≠ k → s.C[i]? = some y → y.F = [f] → FOk n T l s.M f → FOk n T' l' M' f)
    (hh : ∀ j, 1 ≤ j → j ≤ n → hold j x' o' + (if j ∈ l then 0 else 1) = hold j x o + (if j ∈ l' then 0 else 1)) (og' : ∀ p ∈ o', 1 ≤ p ∧ p ≤ (n : Int)) : TInv c n cnt ⟨M', s.C.set k x', L'⟩ (own.set k o') := by
  refine ⟨⟨T', l', hT, tri, fun i y hy => ?_, fun j j1 j2 => ?_⟩, by simp [cl], by simp [ol], fun q hq => ?_⟩
  · by_cases e : k = i
    · subst e
      rw [show (⟨M', s.C.set k x', L'⟩ : Sy).C = s.C.set k x' from rfl, List.getElem?_set_self (List.getElem?_eq_some_iff.1 hx).1] at hy
      injection hy with hy
      subst hy
      exact hx'
    · rw [show (⟨M', s.C.set k x', L'⟩ : Sy).C = s.C.set k x' from rfl, List.getElem?_set_ne e] at hy
      rcases fr i y hy with h | ⟨f, h1, h2⟩
      · exact .inl h
      · exact .inr ⟨f, h1, hf i y f (fun q => e q.symm) hy h1 h2⟩
  · have h1 := tot_set hx ho x' o' j
    have h2 := tt j j1 j2
    have h3 := hh j j1 j2
    show tot (s.C.set k x') (own.set k o') j = _
    omega
  · rcases List.mem_or_eq_of_mem_set hq with h | h
    · exact og q h
    · rw [h]; exact og'
end Go.Proofs.Ytlknpmdmnekedaa
