/- A system as an argument, opened, with the bounds of its numbers. -/
import Derived.Test.YthpflcknommpdaaKOpe
import Derived.Test.YthpflcknommpdaaKHzA
namespace Go.Proofs.Ythpflcknommpdaa
set_option maxRecDepth 100000
set_option linter.unusedSimpArgs false
open Go.RowKit Go.ChangeShapes Go.WideShapes Go.Deep

/-- The numbers of a frame, of a core, of a system are such as a place holds. -/
def FrW (f : Fr) : Prop := W64 f.op ∧ W64 f.pc ∧ (∀ r ∈ f.R, W64 r) ∧ ∀ r ∈ f.S, W64 r
def CoW (x : Co) : Prop := (∀ f ∈ x.F, FrW f) ∧ W64 x.v ∧ W64 x.e ∧ W64 x.x0 ∧ W64 x.x1 ∧ W64 x.x2 ∧ ∀ r ∈ x.ret, W64 r
def SyW (s : Sy) : Prop := (∀ x ∈ s.M.W, W64 x) ∧ ∀ x ∈ s.C, CoW x

section
variable {H : Type} {enc : TypeId × Value → H} {w : World} {base : Nat} {spare : Nat → Bool} {held : Bool}

theorem open_intB {T : TypeId} {fuel : Nat} {cs : List Value} {y : DataW H × List MemPlace} (hT : Try.prog.underlying T = some (.int .i64)) (h : DataW.trod enc Try.prog w base spare held fuel T cs = some y) : ∃ n, cs = [.int .i64 n] ∧ W64 n := by
  obtain ⟨n, e, _, u⟩ := DataW.trod_int hT h
  exact ⟨n, e, bounds_i64 u⟩
theorem open_frame8 {fuel : Nat} {cs : List Value} {y : DataW H × List MemPlace} (h : DataW.trod enc Try.prog w base spare held fuel 55 cs = some y) :
    ∃ (f : Fr) (p : Option Addr × Nat), cs = frCells f p ∧ f.R.length = 8 ∧ Row w p.1 f.S ∧ f.S.length ≤ maxLen ∧ FrW f := by
  obtain ⟨xs, n, _, _, hlen, hxl, hf⟩ := DataW.trod_struct Try.underlying55 h
  have k1 : Try.prog.cellsOf 55 = 11 := by kernel_rfl
  have k2 : Try.prog.cellsOf 22 = 1 := by kernel_rfl
  have k3 : Try.prog.cellsOf 3 = 1 := by kernel_rfl
  have k4 : Try.prog.cellsOf 53 = 8 := by kernel_rfl
  rw [k1] at hlen
  match cs, hlen with
  | [c0, c1, c2, c3, c4, c5, c6, c7, c8, c9, c10], _ =>
    match xs, hxl with
    | [y0, y1, y2, y3], _ =>
      have f0 := hf 0 _ rfl
      have f1 := hf 1 _ rfl
      have f2 := hf 2 _ rfl
      have f3 := hf 3 _ rfl
      simp [k2, k3, k4] at f0 f1 f2 f3
      obtain ⟨a0, e0, ue0⟩ := open_intB Try.underlying3 f0
      obtain ⟨a1, e1, ue1⟩ := open_intB Try.underlying3 f1
      obtain ⟨A, zs, c, e3, r3, l3, n3⟩ := open_rowW f3
      obtain ⟨ys, m, _, _, _, hyl, hall⟩ := DataW.trod_array Try.underlying53 f2
      have g : ∀ i, i < 8 → ∃ z, ys[i]? = some z := fun i hi => ⟨_, List.getElem?_eq_getElem (by omega)⟩
      obtain ⟨z0, h0⟩ := g 0 (by omega); obtain ⟨z1, h1⟩ := g 1 (by omega); obtain ⟨z2, h2⟩ := g 2 (by omega); obtain ⟨z3, h3⟩ := g 3 (by omega)
      obtain ⟨z4, h4⟩ := g 4 (by omega); obtain ⟨z5, h5⟩ := g 5 (by omega); obtain ⟨z6, h6⟩ := g 6 (by omega); obtain ⟨z7, h7⟩ := g 7 (by omega)
      have q0 := (hall 0 (by omega)).trans h0; have q1 := (hall 1 (by omega)).trans h1; have q2 := (hall 2 (by omega)).trans h2; have q3 := (hall 3 (by omega)).trans h3
      have q4 := (hall 4 (by omega)).trans h4; have q5 := (hall 5 (by omega)).trans h5; have q6 := (hall 6 (by omega)).trans h6; have q7 := (hall 7 (by omega)).trans h7
      simp [k3] at q0 q1 q2 q3 q4 q5 q6 q7
      obtain ⟨r0, t0, ut0⟩ := open_intB Try.underlying3 q0
      obtain ⟨r1, t1, ut1⟩ := open_intB Try.underlying3 q1
      obtain ⟨r2, t2, ut2⟩ := open_intB Try.underlying3 q2
      obtain ⟨r3', t3, ut3⟩ := open_intB Try.underlying3 q3
      obtain ⟨r4, t4, ut4⟩ := open_intB Try.underlying3 q4
      obtain ⟨r5, t5, ut5⟩ := open_intB Try.underlying3 q5
      obtain ⟨r6, t6, ut6⟩ := open_intB Try.underlying3 q6
      obtain ⟨r7, t7, ut7⟩ := open_intB Try.underlying3 q7
      simp only [List.cons.injEq, and_true] at e0 e1 e3 t0 t1 t2 t3 t4 t5 t6 t7
      subst e0 e1 e3 t0 t1 t2 t3 t4 t5 t6 t7
      exact ⟨⟨a0, a1, [r0, r1, r2, r3', r4, r5, r6, r7], zs⟩, (A, c), rfl, rfl, r3, l3, ue0, ue1, (by intro r hr; simp only [List.mem_cons, List.not_mem_nil, or_false] at hr; rcases hr with rfl | rfl | rfl | rfl | rfl | rfl | rfl | rfl <;> assumption), n3⟩

theorem open_rowF8 {fuel : Nat} {cs : List Value} {y : DataW H × List MemPlace} (h : DataW.trod enc Try.prog w base spare held fuel 58 cs = some y) :
    ∃ (A : Option Addr) (c : Nat) (fs : List Fr), cs = [.slice A fs.length c] ∧ fs.length ≤ c ∧ fs.length ≤ maxLen ∧ RowF w A fs ∧ ∀ f ∈ fs, FrW f := by
  obtain ⟨A, c, fs, e, h1, h2, h3⟩ := open_rows (α := Fr) Try.underlying58 (by kernel_rfl : Try.prog.cellsOf 55 = 11) (by omega) (fun es f => ∃ p, es = frCells f p ∧ f.R.length = 8 ∧ Row w p.1 f.S ∧ FrW f) (fun n es z _ hz => by
    obtain ⟨f, p, e1, e2, e3, _, e4⟩ := open_frame8 hz
    exact ⟨f, p, e1, e2, e3, e4⟩) h
  refine ⟨A, c, fs, e, h1, h2, fun hp => ?_, fun f hf => ?_⟩
  rotate_left
  · obtain ⟨j, hj⟩ := List.mem_iff_getElem?.1 hf
    obtain ⟨b, o, _, _, hc⟩ := h3 (by have := (List.getElem?_eq_some_iff.1 hj).1; omega)
    obtain ⟨es, _, p, _, _, _, hw⟩ := hc j f hj
    exact hw
  obtain ⟨b, o, e1, hl, hc⟩ := h3 hp
  refine ⟨b, o, e1, hl, fun j f hf => ?_⟩
  obtain ⟨es, hcs, p, rfl, h8, hr, _⟩ := hc j f hf
  exact FrAt.mk h8 hcs hr

theorem open_core8 {fuel : Nat} {cs : List Value} {y : DataW H × List MemPlace} (h : DataW.trod enc Try.prog w base spare held fuel 62 cs = some y) :
    ∃ (x : Co) (q : Pq), cs = coC x q ∧ RowF w q.AF x.F ∧ Row w q.AR x.ret ∧ (x.F.length ≤ q.cF ∧ x.ret.length ≤ q.cR) ∧ CoW x := by
  obtain ⟨xs, n, _, _, hlen, hxl, hf⟩ := DataW.trod_struct Try.underlying62 h
  have k1 : Try.prog.cellsOf 62 = 7 := by kernel_rfl
  have k2 : Try.prog.cellsOf 22 = 1 := by kernel_rfl
  have k3 : Try.prog.cellsOf 3 = 1 := by kernel_rfl
  have k4 : Try.prog.cellsOf 60 = 3 := by kernel_rfl
  have k5 : Try.prog.cellsOf 58 = 1 := by kernel_rfl
  have k6 : Try.prog.cellsOf 59 = 1 := by kernel_rfl
  rw [k1] at hlen
  match cs, hlen with
  | [c0, c1, c2, c3, c4, c5, c6], _ =>
    match xs, hxl with
    | [y0, y1, y2, y3, y4], _ =>
      have f0 := hf 0 _ rfl
      have f1 := hf 1 _ rfl
      have f2 := hf 2 _ rfl
      have f3 := hf 3 _ rfl
      have f4 := hf 4 _ rfl
      simp [k2, k3, k4, k5, k6] at f0 f1 f2 f3 f4
      obtain ⟨AF, cF, fs, e0, h1, _, rF, nF⟩ := open_rowF8 f0
      obtain ⟨a1, e1, ue1⟩ := open_intB Try.underlying3 f1
      obtain ⟨a2, e2, ue2⟩ := open_intB Try.underlying59 f2
      obtain ⟨AR, zs, cR, e4, r4, _, n4⟩ := open_rowW f4
      have hcR := open_cap f4 _ _ _ e4
      obtain ⟨ys, m, _, _, _, hyl, hall⟩ := DataW.trod_array Try.underlying60 f3
      have g : ∀ i, i < 3 → ∃ z, ys[i]? = some z := fun i hi => ⟨_, List.getElem?_eq_getElem (by omega)⟩
      obtain ⟨z0, h0⟩ := g 0 (by omega); obtain ⟨z1, h1'⟩ := g 1 (by omega); obtain ⟨z2, h2⟩ := g 2 (by omega)
      have q0 := (hall 0 (by omega)).trans h0; have q1 := (hall 1 (by omega)).trans h1'; have q2 := (hall 2 (by omega)).trans h2
      simp [k3] at q0 q1 q2
      obtain ⟨r0, t0, ut0⟩ := open_intB Try.underlying3 q0
      obtain ⟨r1, t1, ut1⟩ := open_intB Try.underlying3 q1
      obtain ⟨r2, t2, ut2⟩ := open_intB Try.underlying3 q2
      simp only [List.cons.injEq, and_true] at e0 e1 e2 e4 t0 t1 t2
      subst e0 e1 e2 e4 t0 t1 t2
      exact ⟨⟨fs, a1, a2, r0, r1, r2, zs⟩, ⟨AF, cF, AR, cR⟩, rfl, rF, r4, ⟨h1, hcR⟩, nF, ue1, ue2, ut0, ut1, ut2, n4⟩

theorem open_rowC8 {fuel : Nat} {cs : List Value} {y : DataW H × List MemPlace} (h : DataW.trod enc Try.prog w base spare held fuel 25 cs = some y) :
    ∃ (A : Option Addr) (c : Nat) (xs : List Co), cs = [.slice A xs.length c] ∧ xs.length ≤ maxLen ∧ RowC w A xs ∧ ∀ x ∈ xs, CoW x := by
  obtain ⟨A, c, xs, e, _, h2, h3⟩ := open_rows (α := Co) Try.underlying25 (by kernel_rfl : Try.prog.cellsOf 62 = 7) (by omega) (fun es x => ∃ q : Pq, es = coC x q ∧ RowF w q.AF x.F ∧ Row w q.AR x.ret ∧ (x.F.length ≤ q.cF ∧ x.ret.length ≤ q.cR) ∧ CoW x) (fun n es z _ hz => open_core8 hz) h
  refine ⟨A, c, xs, e, h2, fun hp => ?_, fun x hx => ?_⟩
  rotate_left
  · obtain ⟨j, hj⟩ := List.mem_iff_getElem?.1 hx
    obtain ⟨b, o, _, _, hc⟩ := h3 (by have := (List.getElem?_eq_some_iff.1 hj).1; omega)
    obtain ⟨es, _, q, _, _, _, _, hw⟩ := hc j x hj
    exact hw
  obtain ⟨b, o, e1, hl, hc⟩ := h3 hp
  refine ⟨b, o, e1, hl, fun j x hx => ?_⟩
  obtain ⟨es, hcs, q, rfl, r1, r2, r3, _⟩ := hc j x hx
  exact CoAt.mk hcs r1 r2 r3

theorem open_sys8 {fuel : Nat} {cs : List Value} {y : DataW H × List MemPlace} (h : DataW.trod enc Try.prog w base spare held fuel 28 cs = some y) :
    ∃ (A B C L : Option Addr) (a b c d : Nat) (s : Sy), cs = [.slice A s.M.W.length a, .slice B s.M.G.length b, .bool s.M.bad, .slice C s.C.length c, .slice L s.L.length d] ∧ Row w A s.M.W ∧ Row w B s.M.G ∧ RowC w C s.C ∧ RowE w L s.L ∧
      s.M.W.length ≤ maxLen ∧ s.M.G.length ≤ maxLen ∧ s.C.length ≤ maxLen ∧ s.L.length ≤ maxLen ∧ SyW s := by
  obtain ⟨xs, n, _, _, hlen, hxl, hf⟩ := DataW.trod_struct Try.underlying28 h
  have k1 : Try.prog.cellsOf 28 = 5 := by kernel_rfl
  have k2 : Try.prog.cellsOf 24 = 3 := by kernel_rfl
  have k3 : Try.prog.cellsOf 25 = 1 := by kernel_rfl
  have k4 : Try.prog.cellsOf 26 = 1 := by kernel_rfl
  rw [k1] at hlen
  match cs, hlen with
  | [c0, c1, c2, c3, c4], _ =>
    match xs, hxl with
    | [y0, y1, y2], _ =>
      have f0 := hf 0 _ rfl
      have f1 := hf 1 _ rfl
      have f2 := hf 2 _ rfl
      simp [k2, k3, k4] at f0 f1 f2
      obtain ⟨A, B, a, b, m, e0, r1, r2, l1, l2, n1⟩ := open_memW f0
      obtain ⟨C, c, cs', e1, l3, r3, n3⟩ := open_rowC8 f1
      obtain ⟨L, d, es', e2, l4, r4⟩ := open_rowE f2
      simp only [List.cons.injEq, and_true] at e0 e1 e2
      obtain ⟨e00, e01, e02⟩ := e0
      subst e00 e01 e02 e1 e2
      exact ⟨A, B, C, L, a, b, c, d, ⟨m, cs', es'⟩, rfl, r1, r2, r3, r4, l1, l2, l3, l4, n1, n3⟩

end
end Go.Proofs.Ythpflcknommpdaa
