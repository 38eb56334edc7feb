/- Plain mathematics of layer 5: what a step of one core leaves as it is. No Go text. -/
import Derived.Test.YtgjpgbdloflfbaaHaz6
namespace Go.Proofs.Ytgjpgbdloflfbaa
open Go.RowKit
set_option linter.unusedVariables false

theorem set_self {α : Type} {l : List α} {k : Nat} {x : α} (h : l[k]? = some x) : l.set k x = l := by
  apply List.ext_getElem?
  intro j
  rw [List.getElem?_set]
  split
  · rename_i e; subst e; split
    · exact h.symm
    · rename_i h2; exact absurd (List.getElem?_eq_some_iff.1 h).1 h2
  · rfl
theorem set_shape {t : Sy} {k : Nat} {x : Co} (h : t.C[k]? = some x) (f : Fr) : ∃ x', pSet t (k : Int) f = ⟨t.M, t.C.set k x', t.L⟩ := by
  unfold pSet; rw [at_core h]; dsimp only
  split
  · exact ⟨x, by rw [set_self h]⟩
  · exact ⟨_, rfl⟩
theorem back_shape {t : Sy} {k : Nat} {x : Co} (h : t.C[k]? = some x) (v e : Int) : ∃ x', pBack t (k : Int) v e = ⟨t.M, t.C.set k x', t.L⟩ := by
  unfold pBack; rw [at_core h]; dsimp only
  split
  · exact ⟨x, by rw [set_self h]⟩
  · exact ⟨_, rfl⟩
/-- What a step of core k may be. -/
def Shape5 (s : Sy) (k : Nat) (t : Sy) : Prop := ∃ W' bad' x', t = ⟨⟨W', s.M.G, bad'⟩, s.C.set k x', s.L⟩ ∧ W'.length = s.M.W.length ∧ ∀ j : Nat, ¬ (8 + 3 * k ≤ j ∧ j ≤ 8 + 3 * k + 2) → W'[j]? = s.M.W[j]?
theorem shape_id {s : Sy} {k : Nat} {x : Co} (h : s.C[k]? = some x) : Shape5 s k s := ⟨s.M.W, s.M.bad, x, by rw [set_self h], rfl, fun _ _ => rfl⟩
theorem shape_load {s : Sy} {k : Nat} {p : Int} {t : Sy} {x' : Co} (e : t = ⟨(syMem s (mLoad s.M p)).M, (syMem s (mLoad s.M p)).C.set k x', (syMem s (mLoad s.M p)).L⟩) : Shape5 s k t := ⟨s.M.W, mBad s.M p, x', e, rfl, fun _ _ => rfl⟩
theorem shape_store {s : Sy} {k j : Nat} {v : Int} {t : Sy} {x' : Co} (hk : k < 8) (hj : j ≤ 2) (hw : 128 ≤ s.M.W.length) (e : t = ⟨(syMem s (mStore s.M (pPlace k j) v)).M, (syMem s (mStore s.M (pPlace k j) v)).C.set k x', (syMem s (mStore s.M (pPlace k j) v)).L⟩) : Shape5 s k t := by
  have hp : pPlace (k : Int) (j : Int) = ((8 + 3 * k + j : Nat) : Int) := by rw [pPlace_in (by omega) (by omega) (by omega) (by omega)]; omega
  rw [hp, root_store (by omega) hw] at e
  exact ⟨s.M.W.set (8 + 3 * k + j) v, s.M.bad, x', e, by simp, fun i hi => by rw [List.getElem?_set, if_neg (by omega)]⟩
theorem prot_shape {s : Sy} {k j : Nat} {x : Co} {f : Fr} (h : s.C[k]? = some x) (hk : k < 8) (hw : 128 ≤ s.M.W.length) (hj : f.R.getD 1 0 = (j : Int)) (hj2 : j ≤ 2) : Shape5 s k (pProt s (k : Int) f s) := by
  unfold pProt
  rw [hj]
  generalize mVal s.M (f.R.getD 0 0) = v
  generalize pIdx (f.R.getD 2 0) = u
  have hl : (syMem s (mLoad s.M (f.R.getD 0 0))).C[k]? = some x := mem_core h
  have hs : (syMem s (mStore s.M (pPlace k j) u)).C[k]? = some x := mem_core h
  by_cases q0 : f.pc = 0
  · rw [if_pos q0]
    by_cases q : pIdx v = 0
    · rw [if_pos q]
      obtain ⟨x', e⟩ := back_shape hl v 0
      exact shape_load e
    · rw [if_neg q]
      obtain ⟨x', e⟩ := set_shape hl ⟨f.op, 1, f.R.set 2 v, f.S⟩
      exact shape_load e
  · rw [if_neg q0]
    by_cases q1 : f.pc = 1
    · rw [if_pos q1]
      obtain ⟨x', e⟩ := set_shape hs ⟨f.op, 2, f.R, f.S⟩
      exact shape_store hk hj2 hw e
    · rw [if_neg q1]
      by_cases q2 : f.pc = 2
      · rw [if_pos q2]
        by_cases q : v = f.R.getD 2 0 ∨ pIdx v = 0
        · rw [if_pos q]
          obtain ⟨x', e⟩ := back_shape hl v 0
          exact shape_load e
        · rw [if_neg q]
          obtain ⟨x', e⟩ := set_shape hl ⟨f.op, 1, (f.R.set 3 v).set 2 v, f.S⟩
          exact shape_load e
      · rw [if_neg q2]
        exact shape_id h
theorem clr_shape {s : Sy} {k : Nat} {x : Co} {f : Fr} (h : s.C[k]? = some x) (hk : k < 8) (hw : 128 ≤ s.M.W.length) : Shape5 s k (pClr s (k : Int) f s) := by
  unfold pClr
  by_cases q : f.pc < 0 ∨ 2 < f.pc
  · rw [if_pos q]; exact shape_id h
  · rw [if_neg q]
    obtain ⟨j, hj⟩ : ∃ j : Nat, f.pc = (j : Int) := ⟨f.pc.toNat, by omega⟩
    have hs : ∀ i : Nat, (syMem s (mStore s.M (pPlace k i) 0)).C[k]? = some x := fun _ => mem_core h
    by_cases q2 : f.pc = 2
    · rw [if_pos q2]
      obtain ⟨x', e⟩ := back_shape (hs 2) 0 0
      exact shape_store hk (Nat.le_refl 2) hw e
    · rw [if_neg q2, hj]
      obtain ⟨x', e⟩ := set_shape (hs j) ⟨f.op, j + 1, f.R, f.S⟩
      exact shape_store hk (by omega) hw e
theorem haz_shape {s : Sy} {k : Nat} {x : Co} (h : s.C[k]? = some x) (hk : k < 8) (hw : 128 ≤ s.M.W.length) (hq : ∀ f, pTop s (k : Int) = some f → f.op = 3 → 0 ≤ f.R.getD 1 0 ∧ f.R.getD 1 0 ≤ 2) : Shape5 s k (pHaz s (k : Int)) := by
  unfold pHaz
  cases ht : pTop s (k : Int) with
  | none => exact shape_id h
  | some f =>
    dsimp only
    by_cases ho : f.op = 3
    · rw [if_pos ho]
      obtain ⟨h1, h2⟩ := hq f ht ho
      obtain ⟨j, hj⟩ : ∃ j : Nat, f.R.getD 1 0 = (j : Int) := ⟨(f.R.getD 1 0).toNat, by omega⟩
      exact prot_shape h hk hw hj (by omega)
    · rw [if_neg ho]
      by_cases h4 : f.op = 4
      · rw [if_pos h4]; exact clr_shape h hk hw
      · rw [if_neg h4]; exact shape_id h
end Go.Proofs.Ytgjpgbdloflfbaa
