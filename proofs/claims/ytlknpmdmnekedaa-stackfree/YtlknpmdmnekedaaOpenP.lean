/- Arguments that hold picks, opened. -/
import Derived.Test.YtlknpmdmnekedaaKOpe
import Derived.Test.YtlknpmdmnekedaaPlay
namespace Go.Proofs.Ytlknpmdmnekedaa
set_option maxRecDepth 100000
open Go.RowKit Go.ChangeShapes Go.WideShapes Go.Deep
set_option linter.unusedVariables false

section
variable {H : Type} {enc : TypeId × Value → H} {w : World} {base : Nat} {spare : Nat → Bool} {held : Bool}
theorem bounds_u16 {n : Int} (h : (Lit.int .u16 n).wf = true) : 0 ≤ n ∧ n ≤ 65535 := by
  simp [Lit.wf, IntKind.min, IntKind.max, IntKind.signed, IntKind.bits] at h
  omega
theorem open_rowU {fuel : Nat} {cs : List Value} {y : DataW H × List MemPlace} (h : DataW.trod enc Try.prog w base spare held fuel 22 cs = some y) :
    ∃ (A : Option Addr) (us : List Nat) (c : Nat), cs = [.slice A us.length c] ∧ RowU w A us := by
  rcases open_ints Try.underlying22 Try.underlying69 (by kernel_rfl) h with ⟨rfl, _⟩ | ⟨a, len, cap, zs, rfl, _, hl, hm, hz, _, hc, hw⟩
  · exact ⟨none, [], 0, rfl, fun h => absurd h (by simp)⟩
  · have hlz : len ≤ zs.length := by rw [hz]; split <;> omega
    have e : ((zs.take len).map Int.toNat).length = len := by simp; omega
    refine ⟨some a, (zs.take len).map Int.toNat, cap, by rw [e], fun hn => ?_⟩
    rw [e] at hn
    obtain ⟨b, o, s⟩ := a
    have h0 := hc 0 (by omega)
    have hs : s = none := by simpa [Addr.add] using World.cell?_spot h0
    subst hs
    refine ⟨b, o, rfl, World.block_lt_of_cell? w _ h0, fun j u hu => ?_⟩
    rw [List.getElem?_map, Option.map_eq_some_iff] at hu
    obtain ⟨z, hz1, rfl⟩ := hu
    have hj : j < len := by have := (List.getElem?_eq_some_iff.1 hz1).1; simp at this; omega
    have hcj := hc j (by omega)
    rw [Addr.add_lit] at hcj
    rw [List.getElem?_take_of_lt hj] at hz1
    have hb := bounds_u16 (hw z (List.mem_of_getElem? hz1))
    rw [hcj, List.getD_eq_getElem?_getD, hz1]
    refine ⟨?_, by omega⟩
    simp only [Option.getD_some]
    rw [Int.toNat_of_nonneg hb.1]
theorem open_tags {r : Reach} {b0 : Nat} {v : Value} {d : DataW H} {p : List MemPlace} (hv : Value.okWide Try.prog w r b0 58 v) (h : DataW.Trod enc Try.prog w base spare held 58 v d p) :
    ∃ (x0 x1 : Int) (A : Option Addr) (us : List Nat) (c : Nat) (x3 : Int), v = .agg #[.int .u8 x0, .int .u8 x1, .slice A us.length c, .int .u8 x3] ∧ RowU w A us ∧ 0 ≤ x0 ∧ x0 ≤ 255 ∧ 0 ≤ x1 ∧ x1 ≤ 255 ∧ 0 ≤ x3 ∧ x3 ≤ 255 := by
  obtain ⟨cs, rfl, _⟩ := okWide_struct Try.underlying58 hv
  obtain ⟨fuel, hf0⟩ := h
  obtain ⟨ls, hls⟩ : ∃ ls, ls = cs.toList := ⟨_, rfl⟩
  have hf1 : DataW.trod enc Try.prog w base spare held fuel 58 ls = some (d, p) := by rw [hls]; exact hf0
  obtain ⟨xs, n, _, _, hlen, hxl, hf⟩ := DataW.trod_struct Try.underlying58 hf1
  have k1 : Try.prog.cellsOf 58 = 4 := by kernel_rfl
  have k2 : Try.prog.cellsOf 22 = 1 := by kernel_rfl
  have k6 : Try.prog.cellsOf 5 = 1 := by kernel_rfl
  rw [k1] at hlen
  match ls, hlen with
  | [c0, c1, c2, c3], _ =>
    match xs, hxl with
    | [y0, y1, y2, y3], _ =>
      have f0 := hf 0 _ rfl
      have f1 := hf 1 _ rfl
      have f2 := hf 2 _ rfl
      have f3 := hf 3 _ rfl
      simp [k2, k6] at f0 f1 f2 f3
      obtain ⟨n0, e0, _, u0⟩ := DataW.trod_int Try.underlying5 f0
      obtain ⟨n1, e1, _, u1⟩ := DataW.trod_int Try.underlying5 f1
      obtain ⟨A, us, c, e2, q2⟩ := open_rowU f2
      obtain ⟨n3, e3, _, u3⟩ := DataW.trod_int Try.underlying5 f3
      obtain ⟨g0, g1⟩ := bounds_u8 u0
      obtain ⟨g2, g3⟩ := bounds_u8 u1
      refine ⟨n0, n1, A, us, c, n3, ?_, q2, g0, g1, g2, g3, bounds_u8 u3⟩
      simp only [List.cons.injEq, and_true] at e0 e1 e2 e3
      subst e0 e1 e2 e3
      congr 1
      apply Array.toList_inj.1
      rw [← hls]
theorem open_full {r : Reach} {b0 : Nat} {v : Value} {d : DataW H} {p : List MemPlace} (hv : Value.okWide Try.prog w r b0 44 v) (h : DataW.Trod enc Try.prog w base spare held 44 v d p) :
    ∃ (x0 x1 : Int) (A : Option Addr) (us : List Nat) (c : Nat) (x3 : Int), v = .agg #[.int .u8 x0, .int .u8 x1, .slice A us.length c, .int .u8 x3] ∧ RowU w A us ∧ 0 ≤ x0 ∧ x0 ≤ 255 ∧ 0 ≤ x1 ∧ x1 ≤ 255 ∧ 0 ≤ x3 ∧ x3 ≤ 255 := by
  obtain ⟨cs, rfl, _⟩ := okWide_struct Try.underlying44 hv
  obtain ⟨fuel, hf0⟩ := h
  obtain ⟨ls, hls⟩ : ∃ ls, ls = cs.toList := ⟨_, rfl⟩
  have hf1 : DataW.trod enc Try.prog w base spare held fuel 44 ls = some (d, p) := by rw [hls]; exact hf0
  obtain ⟨xs, n, _, _, hlen, hxl, hf⟩ := DataW.trod_struct Try.underlying44 hf1
  have k1 : Try.prog.cellsOf 44 = 4 := by kernel_rfl
  have k2 : Try.prog.cellsOf 22 = 1 := by kernel_rfl
  have k6 : Try.prog.cellsOf 5 = 1 := by kernel_rfl
  rw [k1] at hlen
  match ls, hlen with
  | [c0, c1, c2, c3], _ =>
    match xs, hxl with
    | [y0, y1, y2, y3], _ =>
      have f0 := hf 0 _ rfl
      have f1 := hf 1 _ rfl
      have f2 := hf 2 _ rfl
      have f3 := hf 3 _ rfl
      simp [k2, k6] at f0 f1 f2 f3
      obtain ⟨n0, e0, _, u0⟩ := DataW.trod_int Try.underlying5 f0
      obtain ⟨n1, e1, _, u1⟩ := DataW.trod_int Try.underlying5 f1
      obtain ⟨A, us, c, e2, q2⟩ := open_rowU f2
      obtain ⟨n3, e3, _, u3⟩ := DataW.trod_int Try.underlying5 f3
      obtain ⟨g0, g1⟩ := bounds_u8 u0
      obtain ⟨g2, g3⟩ := bounds_u8 u1
      refine ⟨n0, n1, A, us, c, n3, ?_, q2, g0, g1, g2, g3, bounds_u8 u3⟩
      simp only [List.cons.injEq, and_true] at e0 e1 e2 e3
      subst e0 e1 e2 e3
      congr 1
      apply Array.toList_inj.1
      rw [← hls]
theorem open_free {r : Reach} {b0 : Nat} {v : Value} {d : DataW H} {p : List MemPlace} (hv : Value.okWide Try.prog w r b0 56 v) (h : DataW.Trod enc Try.prog w base spare held 56 v d p) :
    ∃ (x0 x1 : Int) (A : Option Addr) (us : List Nat) (c : Nat) (z0 z1 z2 z3 : Int), v = .agg #[.int .u8 x0, .int .u8 x1, .slice A us.length c, .int .u8 z0, .int .u8 z1, .int .u8 z2, .int .u8 z3] ∧ RowU w A us ∧ 0 ≤ x0 ∧ x0 ≤ 255 ∧ 0 ≤ x1 ∧ x1 ≤ 255 ∧ (0 ≤ z0 ∧ z0 ≤ 255) ∧ (0 ≤ z1 ∧ z1 ≤ 255) ∧ (0 ≤ z2 ∧ z2 ≤ 255) ∧ 0 ≤ z3 ∧ z3 ≤ 255 := by
  obtain ⟨cs, rfl, _⟩ := okWide_struct Try.underlying56 hv
  obtain ⟨fuel, hf0⟩ := h
  obtain ⟨ls, hls⟩ : ∃ ls, ls = cs.toList := ⟨_, rfl⟩
  have hf1 : DataW.trod enc Try.prog w base spare held fuel 56 ls = some (d, p) := by rw [hls]; exact hf0
  obtain ⟨xs, n, _, _, hlen, hxl, hf⟩ := DataW.trod_struct Try.underlying56 hf1
  have k1 : Try.prog.cellsOf 56 = 7 := by kernel_rfl
  have k2 : Try.prog.cellsOf 22 = 1 := by kernel_rfl
  have k6 : Try.prog.cellsOf 5 = 1 := by kernel_rfl
  have k7 : Try.prog.cellsOf 54 = 4 := by kernel_rfl
  rw [k1] at hlen
  match ls, hlen with
  | [c0, c1, c2, c3, c4, c5, c6], _ =>
    match xs, hxl with
    | [y0, y1, y2, y3], _ =>
      have f0 := hf 0 _ rfl
      have f1 := hf 1 _ rfl
      have f2 := hf 2 _ rfl
      have f3 := hf 3 _ rfl
      simp [k2, k6, k7] at f0 f1 f2 f3
      obtain ⟨n0, e0, _, u0⟩ := DataW.trod_int Try.underlying5 f0
      obtain ⟨n1, e1, _, u1⟩ := DataW.trod_int Try.underlying5 f1
      obtain ⟨A, us, c, e2, q2⟩ := open_rowU f2
      obtain ⟨xs4, m, _, _, _, hx4, hall⟩ := DataW.trod_array Try.underlying54 f3
      match xs4, hx4 with
      | [q0, q1, q3, q4], _ =>
      have a0 := hall 0 (by decide)
      have a1 := hall 1 (by decide)
      have a2 := hall 2 (by decide)
      have a3 := hall 3 (by decide)
      simp [k6] at a0 a1 a2 a3
      obtain ⟨m0, b0', _, v0⟩ := DataW.trod_int Try.underlying5 a0
      obtain ⟨m1, b1, _, v1⟩ := DataW.trod_int Try.underlying5 a1
      obtain ⟨m2, b2, _, v2⟩ := DataW.trod_int Try.underlying5 a2
      obtain ⟨m3, b3, _, v3⟩ := DataW.trod_int Try.underlying5 a3
      obtain ⟨g0, g1⟩ := bounds_u8 u0
      obtain ⟨g2, g3⟩ := bounds_u8 u1
      refine ⟨n0, n1, A, us, c, m0, m1, m2, m3, ?_, q2, g0, g1, g2, g3, bounds_u8 v0, bounds_u8 v1, bounds_u8 v2, bounds_u8 v3⟩
      simp only [List.cons.injEq, and_true] at e0 e1 e2 b0' b1 b2 b3
      subst e0 e1 e2 b0' b1 b2 b3
      congr 1
      apply Array.toList_inj.1
      rw [← hls]
end
end Go.Proofs.Ytlknpmdmnekedaa
