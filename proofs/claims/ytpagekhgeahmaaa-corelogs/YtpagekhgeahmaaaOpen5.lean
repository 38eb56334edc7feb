/- The arguments of CoreDoes and CoreLogs, opened. -/
import Derived.Test.YtpagekhgeahmaaaOpen3
import Derived.Test.YtpagekhgeahmaaaTells1
namespace Go.Proofs.Ytpagekhgeahmaaa
set_option maxRecDepth 100000
set_option linter.unusedSimpArgs false
open Go.RowKit Go.ChangeShapes Go.WideShapes Go.Deep

section
variable {H : Type} {enc : TypeId × Value → H} {w : World} {base : Nat} {spare : Nat → Bool} {held : Bool}

theorem open_does {r : Reach} {b0 : Nat} {v : Value} {d : DataW H} {p : List MemPlace} (hv : Value.okWide Try.prog w r b0 48 v) (h : DataW.Trod enc Try.prog w base spare held 48 v d p) :
    ∃ (A B C L : Option Addr) (a b c d : Nat) (s : Sy) (n1 op pc r0 r1 r2 r3 r4 r5 r6 r7 : Int) (AS : Option Addr) (zs : List Int) (cS : Nat) (n2 n3 : Int),
      v = .agg #[.slice A s.M.W.length a, .slice B s.M.G.length b, .bool s.M.bad, .slice C s.C.length c, .slice L s.L.length d, .int .i64 n1, .int .i64 op, .int .i64 pc, .int .i64 r0, .int .i64 r1, .int .i64 r2, .int .i64 r3, .int .i64 r4, .int .i64 r5, .int .i64 r6, .int .i64 r7, .slice AS zs.length cS, .int .i64 n2, .int .u8 n3] ∧ (Row w A s.M.W ∧ Row w B s.M.G ∧ RowC w C s.C ∧ RowE w L s.L ∧ s.M.W.length ≤ maxLen ∧ s.M.G.length ≤ maxLen ∧ s.C.length ≤ maxLen ∧ s.L.length ≤ maxLen) ∧ Row w AS zs ∧ zs.length ≤ maxLen ∧ 0 ≤ n3 ∧ n3 ≤ 255 := by
  obtain ⟨cs, rfl, _⟩ := okWide_struct Try.underlying48 hv
  obtain ⟨fuel, hf0⟩ := h
  obtain ⟨ls, hls⟩ : ∃ ls, ls = cs.toList := ⟨_, rfl⟩
  have hf1 : DataW.trod enc Try.prog w base spare held fuel 48 ls = some (d, p) := by rw [hls]; exact hf0
  obtain ⟨xs, n, _, _, hlen, hxl, hf⟩ := DataW.trod_struct Try.underlying48 hf1
  have k1 : Try.prog.cellsOf 48 = 19 := by kernel_rfl
  have k2 : Try.prog.cellsOf 28 = 5 := by kernel_rfl
  have k3 : Try.prog.cellsOf 3 = 1 := by kernel_rfl
  have k4 : Try.prog.cellsOf 42 = 11 := by kernel_rfl
  have k5 : Try.prog.cellsOf 56 = 5 := by kernel_rfl
  have k6 : Try.prog.cellsOf 5 = 1 := by kernel_rfl
  rw [k1] at hlen
  match ls, hlen with
  | [c0, c1, c2, c3, c4, c5, c6, c7, c8, c9, c10, c11, c12, c13, c14, c15, c16, c17, c18], _ =>
    match xs, hxl with
    | [y0, y1, y2, y3, y4], _ =>
      have f0 := hf 0 _ rfl
      have f1 := hf 1 _ rfl
      have f2 := hf 2 _ rfl
      have f3 := hf 3 _ rfl
      have f4 := hf 4 _ rfl
      simp [k2, k3, k4, k5, k6] at f0 f1 f2 f3 f4
      obtain ⟨A, B, C, L, a, b, c, d, s, e0, q0⟩ := open_sys f0
      obtain ⟨n1, e1⟩ := open_int Try.underlying3 f1
      obtain ⟨g, q, e2, h8, hr, hm⟩ := open_frame f2
      obtain ⟨n2, e3⟩ := open_int Try.underlying3 f3
      obtain ⟨n3, e4, _, u4⟩ := DataW.trod_int Try.underlying5 f4
      obtain ⟨op, pc, rs, zs⟩ := g
      obtain ⟨AS, cS⟩ := q
      simp only at h8 hr hm
      obtain ⟨r0, r1, r2, r3, r4, r5, r6, r7, e8⟩ := eight h8
      subst e8
      simp only [frCells, List.map_cons, List.map_nil, List.cons_append, List.nil_append, List.cons.injEq, and_true] at e0 e1 e2 e3 e4
      obtain ⟨e00, e01, e02, e03, e04⟩ := e0
      obtain ⟨e20, e21, e22, e23, e24, e25, e26, e27, e28, e29, e210⟩ := e2
      subst e00 e01 e02 e03 e04 e1 e20 e21 e22 e23 e24 e25 e26 e27 e28 e29 e210 e3 e4
      refine ⟨A, B, C, L, a, b, c, d, s, n1, op, pc, r0, r1, r2, r3, r4, r5, r6, r7, AS, zs, cS, n2, n3, ?_, q0, hr, hm, bounds_u8 u4⟩
      rw [← Array.toArray_toList (xs := cs), ← hls]
theorem open_logs {r : Reach} {b0 : Nat} {v : Value} {d : DataW H} {p : List MemPlace} (hv : Value.okWide Try.prog w r b0 59 v) (h : DataW.Trod enc Try.prog w base spare held 59 v d p) :
    ∃ (A B C L : Option Addr) (a b c d : Nat) (s : Sy) (n1 x0 x1 x2 x3 x4 n2 : Int),
      v = .agg #[.slice A s.M.W.length a, .slice B s.M.G.length b, .bool s.M.bad, .slice C s.C.length c, .slice L s.L.length d, .int .i64 n1, .int .i64 x0, .int .i64 x1, .int .i64 x2, .int .i64 x3, .int .i64 x4, .int .i64 n2] ∧ (Row w A s.M.W ∧ Row w B s.M.G ∧ RowC w C s.C ∧ RowE w L s.L ∧ s.M.W.length ≤ maxLen ∧ s.M.G.length ≤ maxLen ∧ s.C.length ≤ maxLen ∧ s.L.length ≤ maxLen) := by
  obtain ⟨cs, rfl, _⟩ := okWide_struct Try.underlying59 hv
  obtain ⟨fuel, hf0⟩ := h
  obtain ⟨ls, hls⟩ : ∃ ls, ls = cs.toList := ⟨_, rfl⟩
  have hf1 : DataW.trod enc Try.prog w base spare held fuel 59 ls = some (d, p) := by rw [hls]; exact hf0
  obtain ⟨xs, n, _, _, hlen, hxl, hf⟩ := DataW.trod_struct Try.underlying59 hf1
  have k1 : Try.prog.cellsOf 59 = 12 := by kernel_rfl
  have k2 : Try.prog.cellsOf 28 = 5 := by kernel_rfl
  have k3 : Try.prog.cellsOf 3 = 1 := by kernel_rfl
  have k4 : Try.prog.cellsOf 42 = 11 := by kernel_rfl
  have k5 : Try.prog.cellsOf 56 = 5 := by kernel_rfl
  have k6 : Try.prog.cellsOf 5 = 1 := by kernel_rfl
  rw [k1] at hlen
  match ls, hlen with
  | [c0, c1, c2, c3, c4, c5, c6, c7, c8, c9, c10, c11], _ =>
    match xs, hxl with
    | [y0, y1, y2, y3], _ =>
      have f0 := hf 0 _ rfl
      have f1 := hf 1 _ rfl
      have f2 := hf 2 _ rfl
      have f3 := hf 3 _ rfl
      simp [k2, k3, k4, k5, k6] at f0 f1 f2 f3
      obtain ⟨A, B, C, L, a, b, c, d, s, e0, q0⟩ := open_sys f0
      obtain ⟨n1, e1⟩ := open_int Try.underlying3 f1
      obtain ⟨⟨x0, x1, x2, x3, x4⟩, e2⟩ := open_ev f2
      obtain ⟨n2, e3⟩ := open_int Try.underlying3 f3
      simp only [evCells, List.cons.injEq, and_true] at e0 e1 e2 e3
      obtain ⟨e00, e01, e02, e03, e04⟩ := e0
      obtain ⟨e20, e21, e22, e23, e24⟩ := e2
      subst e00 e01 e02 e03 e04 e1 e20 e21 e22 e23 e24 e3
      refine ⟨A, B, C, L, a, b, c, d, s, n1, x0, x1, x2, x3, x4, n2, ?_, q0⟩
      rw [← Array.toArray_toList (xs := cs), ← hls]
end
end Go.Proofs.Ytpagekhgeahmaaa
