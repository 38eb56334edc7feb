/- A system as an argument, opened, with the bounds of its words. -/
import Derived.Test.YtnjleafhllepiaaKOpe
namespace Go.Proofs.Ytnjleafhllepiaa
set_option maxRecDepth 100000
set_option linter.unusedSimpArgs false
open Go.RowKit Go.ChangeShapes Go.WideShapes Go.Deep

section
variable {H : Type} {enc : TypeId × Value → H} {w : World} {base : Nat} {spare : Nat → Bool} {held : Bool}

theorem open_sysW {fuel : Nat} {cs : List Value} {y : DataW H × List MemPlace} (h : DataW.trod enc Try.prog w base spare held fuel 28 cs = some y) :
    ∃ (A B C L : Option Addr) (a b c d : Nat) (s : Sy), cs = [.slice A s.M.W.length a, .slice B s.M.G.length b, .bool s.M.bad, .slice C s.C.length c, .slice L s.L.length d] ∧ Row w A s.M.W ∧ Row w B s.M.G ∧ RowC w C s.C ∧ RowE w L s.L ∧
      s.M.W.length ≤ maxLen ∧ s.M.G.length ≤ maxLen ∧ s.C.length ≤ maxLen ∧ s.L.length ≤ maxLen ∧ (∀ x ∈ s.M.W, -9223372036854775808 ≤ x ∧ x ≤ 9223372036854775807) := by
  obtain ⟨xs, n, _, _, hlen, hxl, hf⟩ := DataW.trod_struct Try.underlying28 h
  have k1 : Try.prog.cellsOf 28 = 5 := by kernel_rfl
  have k2 : Try.prog.cellsOf 24 = 3 := by kernel_rfl
  have k3 : Try.prog.cellsOf 25 = 1 := by kernel_rfl
  have k4 : Try.prog.cellsOf 26 = 1 := by kernel_rfl
  rw [k1] at hlen
  match cs, hlen with
  | [c0, c1, c2, c3, c4], _ =>
    match xs, hxl with
    | [y0, y1, y2], _ =>
      have f0 := hf 0 _ rfl
      have f1 := hf 1 _ rfl
      have f2 := hf 2 _ rfl
      simp [k2, k3, k4] at f0 f1 f2
      obtain ⟨A, B, a, b, m, e0, r1, r2, l1, l2, n1⟩ := open_memW f0
      obtain ⟨C, c, cs', e1, l3, r3⟩ := open_rowC f1
      obtain ⟨L, d, es', e2, l4, r4⟩ := open_rowE f2
      simp only [List.cons.injEq, and_true] at e0 e1 e2
      obtain ⟨e00, e01, e02⟩ := e0
      subst e00 e01 e02 e1 e2
      exact ⟨A, B, C, L, a, b, c, d, ⟨m, cs', es'⟩, rfl, r1, r2, r3, r4, l1, l2, l3, l4, n1⟩

theorem open_systemW {r : Reach} {b0 : Nat} {v : Value} {d : DataW H} {p : List MemPlace} (hv : Value.okWide Try.prog w r b0 28 v) (h : DataW.Trod enc Try.prog w base spare held 28 v d p) :
    ∃ (A B C L : Option Addr) (a b c d : Nat) (s : Sy), v = .agg #[.slice A s.M.W.length a, .slice B s.M.G.length b, .bool s.M.bad, .slice C s.C.length c, .slice L s.L.length d] ∧ Row w A s.M.W ∧ Row w B s.M.G ∧ RowC w C s.C ∧ RowE w L s.L ∧
      s.M.W.length ≤ maxLen ∧ s.M.G.length ≤ maxLen ∧ s.C.length ≤ maxLen ∧ s.L.length ≤ maxLen ∧ (∀ x ∈ s.M.W, -9223372036854775808 ≤ x ∧ x ≤ 9223372036854775807) := by
  obtain ⟨cs, rfl, _⟩ := okWide_struct Try.underlying28 hv
  obtain ⟨fuel, hf⟩ := h
  obtain ⟨A, B, C, L, a, b, c, d, s, e, rest⟩ := open_sysW hf
  refine ⟨A, B, C, L, a, b, c, d, s, ?_, rest⟩
  have : cs = #[.slice A s.M.W.length a, .slice B s.M.G.length b, .bool s.M.bad, .slice C s.C.length c, .slice L s.L.length d] := by
    apply Array.toList_inj.1
    simpa [Value.cells] using e
  rw [this]
end
end Go.Proofs.Ytnjleafhllepiaa
