/- CoreTells' argument, opened. -/
import Derived.Test.YtpagekhgeahmaaaOpen3
namespace Go.Proofs.Ytpagekhgeahmaaa
set_option maxRecDepth 100000
open Go.RowKit Go.ChangeShapes Go.WideShapes Go.Deep

section
variable {H : Type} {enc : TypeId × Value → H} {w : World} {base : Nat} {spare : Nat → Bool} {held : Bool}

theorem open_tells {r : Reach} {b0 : Nat} {v : Value} {d : DataW H} {p : List MemPlace} (hv : Value.okWide Try.prog w r b0 30 v) (h : DataW.Trod enc Try.prog w base spare held 30 v d p) :
    ∃ (A B C L : Option Addr) (a b c d : Nat) (s : Sy) (A' B' C' L' : Option Addr) (a' b' c' d' : Nat) (s' : Sy) (n1 n2 n3 : Int),
      v = .agg #[.slice A s.M.W.length a, .slice B s.M.G.length b, .bool s.M.bad, .slice C s.C.length c, .slice L s.L.length d, .slice A' s'.M.W.length a', .slice B' s'.M.G.length b', .bool s'.M.bad, .slice C' s'.C.length c', .slice L' s'.L.length d', .int .i64 n1, .int .i64 n2, .int .i64 n3] ∧
      (Row w A s.M.W ∧ Row w B s.M.G ∧ RowC w C s.C ∧ RowE w L s.L ∧ s.M.W.length ≤ maxLen ∧ s.M.G.length ≤ maxLen ∧ s.C.length ≤ maxLen ∧ s.L.length ≤ maxLen) ∧
      (Row w A' s'.M.W ∧ Row w B' s'.M.G ∧ RowC w C' s'.C ∧ RowE w L' s'.L ∧ s'.M.W.length ≤ maxLen ∧ s'.M.G.length ≤ maxLen ∧ s'.C.length ≤ maxLen ∧ s'.L.length ≤ maxLen) := by
  obtain ⟨cs, rfl, _⟩ := okWide_struct Try.underlying30 hv
  obtain ⟨fuel, hf0⟩ := h
  obtain ⟨ls, hls⟩ : ∃ ls, ls = cs.toList := ⟨_, rfl⟩
  have hf1 : DataW.trod enc Try.prog w base spare held fuel 30 ls = some (d, p) := by rw [hls]; exact hf0
  obtain ⟨xs, n, _, _, hlen, hxl, hf⟩ := DataW.trod_struct Try.underlying30 hf1
  have k1 : Try.prog.cellsOf 30 = 13 := by kernel_rfl
  have k2 : Try.prog.cellsOf 28 = 5 := by kernel_rfl
  have k3 : Try.prog.cellsOf 3 = 1 := by kernel_rfl
  rw [k1] at hlen
  match ls, hlen with
  | [c0, c1, c2, c3, c4, c5, c6, c7, c8, c9, c10, c11, c12], _ =>
    match xs, hxl with
    | [y0, y1, y2, y3, y4], _ =>
      have f0 := hf 0 _ rfl
      have f1 := hf 1 _ rfl
      have f2 := hf 2 _ rfl
      have f3 := hf 3 _ rfl
      have f4 := hf 4 _ rfl
      simp [k2, k3] at f0 f1 f2 f3 f4
      obtain ⟨A, B, C, L, a, b, c, d, s, e0, r0⟩ := open_sys f0
      obtain ⟨A', B', C', L', a', b', c', d', s', e1, r1⟩ := open_sys f1
      obtain ⟨n1, e2⟩ := open_int Try.underlying3 f2
      obtain ⟨n2, e3⟩ := open_int Try.underlying3 f3
      obtain ⟨n3, e4⟩ := open_int Try.underlying3 f4
      simp only [List.cons.injEq, and_true] at e0 e1 e2 e3 e4
      obtain ⟨e00, e01, e02, e03, e04⟩ := e0
      obtain ⟨e10, e11, e12, e13, e14⟩ := e1
      subst e00 e01 e02 e03 e04 e10 e11 e12 e13 e14 e2 e3 e4
      refine ⟨A, B, C, L, a, b, c, d, s, A', B', C', L', a', b', c', d', s', n1, n2, n3, ?_, r0, r1⟩
      rw [← Array.toArray_toList (xs := cs), ← hls]
end
end Go.Proofs.Ytpagekhgeahmaaa
