/- Arguments that hold arenas, opened. -/
import Derived.Test.YthpflcknommpdaaKBas
import Derived.Test.YthpflcknommpdaaChecked
import Derived.OpenShut
import Derived.ChangeSlices
import Derived.Deep.Fields
import Derived.Deep.Slices
import Derived.Test.YthpflcknommpdaaKCoB
import Derived.Test.YthpflcknommpdaaKUni

namespace Go.Proofs.Ythpflcknommpdaa
set_option maxRecDepth 100000
open Go.RowKit Go.ChangeShapes Go.WideShapes Go.Deep

section
variable {H : Type} {enc : TypeId × Value → H} {w : World} {base : Nat} {spare : Nat → Bool} {held : Bool}

theorem open_cap {fuel : Nat} {cs : List Value} {y : DataW H × List MemPlace} (h : DataW.trod enc Try.prog w base spare held fuel 22 cs = some y) (A : Option Addr) (n c : Nat) (e : cs = [.slice A n c]) : n ≤ c := by
  rcases open_ints Try.underlying22 Try.underlying3 (by kernel_rfl) h with ⟨rfl, _⟩ | ⟨a, len, cap, zs, rfl, _, hl, hm, hz, _, hc, _⟩
  · injection e with e; injection e with _ e1 e2; omega
  · injection e with e; injection e with _ e1 e2; omega
theorem open_row {fuel : Nat} {cs : List Value} {y : DataW H × List MemPlace} (h : DataW.trod enc Try.prog w base spare held fuel 22 cs = some y) :
    ∃ (A : Option Addr) (xs : List Int) (c : Nat), cs = [.slice A xs.length c] ∧ Row w A xs ∧ xs.length ≤ maxLen := by
  rcases open_ints Try.underlying22 Try.underlying3 (by kernel_rfl) h with ⟨rfl, _⟩ | ⟨a, len, cap, zs, rfl, _, hl, hm, hz, _, hc, _⟩
  · exact ⟨none, [], 0, rfl, Row.nil _ _, by simp⟩
  · have hlz : len ≤ zs.length := by rw [hz]; split <;> omega
    have e : (zs.take len).length = len := by simp; omega
    refine ⟨some a, zs.take len, cap, by rw [e], fun hn => ?_, by rw [e]; omega⟩
    rw [e] at hn
    obtain ⟨b, o, s⟩ := a
    have h0 := hc 0 (by omega)
    have hs : s = none := by simpa [Addr.add] using World.cell?_spot h0
    subst hs
    refine ⟨b, o, rfl, World.block_lt_of_cell? w _ h0, fun j x hx => ?_⟩
    have hj : j < len := by have := (List.getElem?_eq_some_iff.1 hx).1; omega
    have hcj := hc j (by omega)
    rw [Addr.add_lit] at hcj
    rw [hcj, List.getD_eq_getElem?_getD]
    rw [List.getElem?_take_of_lt hj] at hx
    rw [hx]
    rfl

end
end Go.Proofs.Ythpflcknommpdaa

/- Arguments that hold systems, opened. -/
namespace Go.Proofs.Ythpflcknommpdaa
set_option maxRecDepth 100000
open Go.RowKit Go.ChangeShapes Go.WideShapes Go.Deep

section
variable {H : Type} {enc : TypeId × Value → H} {w : World} {base : Nat} {spare : Nat → Bool} {held : Bool}

/-- A slice whose elements have k cells each, of which each is read as something. -/
theorem open_rows {α : Type} {T E : TypeId} {k fuel : Nat} {cs : List Value} {y : DataW H × List MemPlace} (hT : Try.prog.underlying T = some (.slice E)) (hk : Try.prog.cellsOf E = k) (hk0 : 0 < k) (Pp : List Value → α → Prop)
    (hp : ∀ (n : Nat) (es : List Value) (z : DataW H × List MemPlace), es.length = k → DataW.trod enc Try.prog w base spare held n E es = some z → ∃ x, Pp es x) (h : DataW.trod enc Try.prog w base spare held fuel T cs = some y) :
    ∃ (A : Option Addr) (c : Nat) (xs : List α), cs = [.slice A xs.length c] ∧ xs.length ≤ c ∧ xs.length ≤ maxLen ∧ (0 < xs.length → ∃ b o, A = some ⟨b, o, none⟩ ∧ b < w.heap.size ∧ ∀ j x, xs[j]? = some x → ∃ es, Cs w b (o + j * k) es ∧ Pp es x) := by
  rcases open_slice hT h with ⟨rfl, _⟩ | ⟨a, len, cap, m, n, D, Pl, rfl, _, hl, hm, hmm, _, hi⟩
  · exact ⟨none, 0, [], rfl, Nat.le_refl _, by simp, fun h => absurd h (by simp)⟩
  · have hlm : len ≤ m := by rw [hmm]; split <;> omega
    obtain ⟨b, o, s⟩ := a
    obtain ⟨xs, hxl, hxs⟩ := list_of (n := len) (p := fun j x => ∃ es, es.length = k ∧ (∀ r v, es[r]? = some v → w.cell? ((⟨b, o, s⟩ : Addr).add (j * k + r)) = some v) ∧ Pp es x) (fun j hj => by
      obtain ⟨es, hc, ht⟩ := hi j (by omega)
      rw [hk] at hc
      obtain ⟨_, hel, hat⟩ := World.cells?_some hc
      obtain ⟨x, hx⟩ := hp n es _ hel ht
      refine ⟨x, es, hel, fun r v hv => ?_, hx⟩
      have hr : r < k := by have := (List.getElem?_eq_some_iff.1 hv).1; omega
      have h1 := hat r hr
      rw [Go.Deep.add_add] at h1
      rw [h1, hv])
    refine ⟨some ⟨b, o, s⟩, cap, xs, by rw [hxl], by omega, by omega, fun hpos => ?_⟩
    obtain ⟨es, hel, hat, _⟩ := hxs 0 _ (List.getElem?_eq_getElem hpos)
    have h0 := hat 0 _ (List.getElem?_eq_getElem (by omega))
    have hs : s = none := by simpa [Addr.add] using World.cell?_spot h0
    subst hs
    refine ⟨b, o, rfl, by rw [Addr.add_lit] at h0; exact World.block_lt_of_cell? w _ h0, fun j x hx => ?_⟩
    obtain ⟨es, _, hat, hP⟩ := hxs j x hx
    refine ⟨es, fun r v hv => ?_, hP⟩
    have := hat r v hv
    rw [Addr.add_lit] at this
    rw [show o + j * k + r = o + (j * k + r) by omega]
    exact this

theorem open_int {T : TypeId} {k : IntKind} {fuel : Nat} {cs : List Value} {y : DataW H × List MemPlace} (hT : Try.prog.underlying T = some (.int k)) (h : DataW.trod enc Try.prog w base spare held fuel T cs = some y) : ∃ n, cs = [.int k n] := by
  obtain ⟨n, e, _, _⟩ := DataW.trod_int hT h
  exact ⟨n, e⟩
theorem open_frame {fuel : Nat} {cs : List Value} {y : DataW H × List MemPlace} (h : DataW.trod enc Try.prog w base spare held fuel 55 cs = some y) :
    ∃ (f : Fr) (p : Option Addr × Nat), cs = frCells f p ∧ f.R.length = 8 ∧ Row w p.1 f.S ∧ f.S.length ≤ maxLen := by
  obtain ⟨xs, n, _, _, hlen, hxl, hf⟩ := DataW.trod_struct Try.underlying55 h
  have k1 : Try.prog.cellsOf 55 = 11 := by kernel_rfl
  have k2 : Try.prog.cellsOf 22 = 1 := by kernel_rfl
  have k3 : Try.prog.cellsOf 3 = 1 := by kernel_rfl
  have k4 : Try.prog.cellsOf 53 = 8 := by kernel_rfl
  rw [k1] at hlen
  match cs, hlen with
  | [c0, c1, c2, c3, c4, c5, c6, c7, c8, c9, c10], _ =>
    match xs, hxl with
    | [y0, y1, y2, y3], _ =>
      have f0 := hf 0 _ rfl
      have f1 := hf 1 _ rfl
      have f2 := hf 2 _ rfl
      have f3 := hf 3 _ rfl
      simp [k2, k3, k4] at f0 f1 f2 f3
      obtain ⟨a0, e0⟩ := open_int Try.underlying3 f0
      obtain ⟨a1, e1⟩ := open_int Try.underlying3 f1
      obtain ⟨A, zs, c, e3, r3, l3⟩ := open_row f3
      obtain ⟨ys, m, _, _, _, hyl, hall⟩ := DataW.trod_array Try.underlying53 f2
      have g : ∀ i, i < 8 → ∃ z, ys[i]? = some z := fun i hi => ⟨_, List.getElem?_eq_getElem (by omega)⟩
      obtain ⟨z0, h0⟩ := g 0 (by omega); obtain ⟨z1, h1⟩ := g 1 (by omega); obtain ⟨z2, h2⟩ := g 2 (by omega); obtain ⟨z3, h3⟩ := g 3 (by omega)
      obtain ⟨z4, h4⟩ := g 4 (by omega); obtain ⟨z5, h5⟩ := g 5 (by omega); obtain ⟨z6, h6⟩ := g 6 (by omega); obtain ⟨z7, h7⟩ := g 7 (by omega)
      have q0 := (hall 0 (by omega)).trans h0; have q1 := (hall 1 (by omega)).trans h1; have q2 := (hall 2 (by omega)).trans h2; have q3 := (hall 3 (by omega)).trans h3
      have q4 := (hall 4 (by omega)).trans h4; have q5 := (hall 5 (by omega)).trans h5; have q6 := (hall 6 (by omega)).trans h6; have q7 := (hall 7 (by omega)).trans h7
      simp [k3] at q0 q1 q2 q3 q4 q5 q6 q7
      obtain ⟨r0, t0⟩ := open_int Try.underlying3 q0
      obtain ⟨r1, t1⟩ := open_int Try.underlying3 q1
      obtain ⟨r2, t2⟩ := open_int Try.underlying3 q2
      obtain ⟨r3', t3⟩ := open_int Try.underlying3 q3
      obtain ⟨r4, t4⟩ := open_int Try.underlying3 q4
      obtain ⟨r5, t5⟩ := open_int Try.underlying3 q5
      obtain ⟨r6, t6⟩ := open_int Try.underlying3 q6
      obtain ⟨r7, t7⟩ := open_int Try.underlying3 q7
      simp only [List.cons.injEq, and_true] at e0 e1 e3 t0 t1 t2 t3 t4 t5 t6 t7
      subst e0 e1 e3 t0 t1 t2 t3 t4 t5 t6 t7
      exact ⟨⟨a0, a1, [r0, r1, r2, r3', r4, r5, r6, r7], zs⟩, (A, c), rfl, rfl, r3, l3⟩

theorem open_rowF {fuel : Nat} {cs : List Value} {y : DataW H × List MemPlace} (h : DataW.trod enc Try.prog w base spare held fuel 58 cs = some y) :
    ∃ (A : Option Addr) (c : Nat) (fs : List Fr), cs = [.slice A fs.length c] ∧ fs.length ≤ c ∧ fs.length ≤ maxLen ∧ RowF w A fs := by
  obtain ⟨A, c, fs, e, h1, h2, h3⟩ := open_rows (α := Fr) Try.underlying58 (by kernel_rfl : Try.prog.cellsOf 55 = 11) (by omega) (fun es f => ∃ p, es = frCells f p ∧ f.R.length = 8 ∧ Row w p.1 f.S) (fun n es z _ hz => by
    obtain ⟨f, p, e1, e2, e3, _⟩ := open_frame hz
    exact ⟨f, p, e1, e2, e3⟩) h
  refine ⟨A, c, fs, e, h1, h2, fun hp => ?_⟩
  obtain ⟨b, o, e1, hl, hc⟩ := h3 hp
  refine ⟨b, o, e1, hl, fun j f hf => ?_⟩
  obtain ⟨es, hcs, p, rfl, h8, hr⟩ := hc j f hf
  exact FrAt.mk h8 hcs hr

theorem open_core {fuel : Nat} {cs : List Value} {y : DataW H × List MemPlace} (h : DataW.trod enc Try.prog w base spare held fuel 62 cs = some y) :
    ∃ (x : Co) (q : Pq), cs = coC x q ∧ RowF w q.AF x.F ∧ Row w q.AR x.ret ∧ (x.F.length ≤ q.cF ∧ x.ret.length ≤ q.cR) := by
  obtain ⟨xs, n, _, _, hlen, hxl, hf⟩ := DataW.trod_struct Try.underlying62 h
  have k1 : Try.prog.cellsOf 62 = 7 := by kernel_rfl
  have k2 : Try.prog.cellsOf 22 = 1 := by kernel_rfl
  have k3 : Try.prog.cellsOf 3 = 1 := by kernel_rfl
  have k4 : Try.prog.cellsOf 60 = 3 := by kernel_rfl
  have k5 : Try.prog.cellsOf 58 = 1 := by kernel_rfl
  have k6 : Try.prog.cellsOf 59 = 1 := by kernel_rfl
  rw [k1] at hlen
  match cs, hlen with
  | [c0, c1, c2, c3, c4, c5, c6], _ =>
    match xs, hxl with
    | [y0, y1, y2, y3, y4], _ =>
      have f0 := hf 0 _ rfl
      have f1 := hf 1 _ rfl
      have f2 := hf 2 _ rfl
      have f3 := hf 3 _ rfl
      have f4 := hf 4 _ rfl
      simp [k2, k3, k4, k5, k6] at f0 f1 f2 f3 f4
      obtain ⟨AF, cF, fs, e0, h1, _, rF⟩ := open_rowF f0
      obtain ⟨a1, e1⟩ := open_int Try.underlying3 f1
      obtain ⟨a2, e2⟩ := open_int Try.underlying59 f2
      obtain ⟨AR, zs, cR, e4, r4, _⟩ := open_row f4
      have hcR := open_cap f4 _ _ _ e4
      obtain ⟨ys, m, _, _, _, hyl, hall⟩ := DataW.trod_array Try.underlying60 f3
      have g : ∀ i, i < 3 → ∃ z, ys[i]? = some z := fun i hi => ⟨_, List.getElem?_eq_getElem (by omega)⟩
      obtain ⟨z0, h0⟩ := g 0 (by omega); obtain ⟨z1, h1'⟩ := g 1 (by omega); obtain ⟨z2, h2⟩ := g 2 (by omega)
      have q0 := (hall 0 (by omega)).trans h0; have q1 := (hall 1 (by omega)).trans h1'; have q2 := (hall 2 (by omega)).trans h2
      simp [k3] at q0 q1 q2
      obtain ⟨r0, t0⟩ := open_int Try.underlying3 q0
      obtain ⟨r1, t1⟩ := open_int Try.underlying3 q1
      obtain ⟨r2, t2⟩ := open_int Try.underlying3 q2
      simp only [List.cons.injEq, and_true] at e0 e1 e2 e4 t0 t1 t2
      subst e0 e1 e2 e4 t0 t1 t2
      exact ⟨⟨fs, a1, a2, r0, r1, r2, zs⟩, ⟨AF, cF, AR, cR⟩, rfl, rF, r4, h1, hcR⟩

theorem open_rowC {fuel : Nat} {cs : List Value} {y : DataW H × List MemPlace} (h : DataW.trod enc Try.prog w base spare held fuel 25 cs = some y) :
    ∃ (A : Option Addr) (c : Nat) (xs : List Co), cs = [.slice A xs.length c] ∧ xs.length ≤ maxLen ∧ RowC w A xs := by
  obtain ⟨A, c, xs, e, _, h2, h3⟩ := open_rows (α := Co) Try.underlying25 (by kernel_rfl : Try.prog.cellsOf 62 = 7) (by omega) (fun es x => ∃ q : Pq, es = coC x q ∧ RowF w q.AF x.F ∧ Row w q.AR x.ret ∧ (x.F.length ≤ q.cF ∧ x.ret.length ≤ q.cR)) (fun n es z _ hz => open_core hz) h
  refine ⟨A, c, xs, e, h2, fun hp => ?_⟩
  obtain ⟨b, o, e1, hl, hc⟩ := h3 hp
  refine ⟨b, o, e1, hl, fun j x hx => ?_⟩
  obtain ⟨es, hcs, q, rfl, r1, r2, r3⟩ := hc j x hx
  exact CoAt.mk hcs r1 r2 r3

theorem open_ev {fuel : Nat} {cs : List Value} {y : DataW H × List MemPlace} (h : DataW.trod enc Try.prog w base spare held fuel 105 cs = some y) : ∃ e : Evt, cs = evCells e := by
  obtain ⟨xs, n, _, _, hlen, hxl, hf⟩ := DataW.trod_struct Try.underlying105 h
  have k1 : Try.prog.cellsOf 105 = 5 := by kernel_rfl
  have k3 : Try.prog.cellsOf 3 = 1 := by kernel_rfl
  rw [k1] at hlen
  match cs, hlen with
  | [c0, c1, c2, c3, c4], _ =>
    match xs, hxl with
    | [y0, y1, y2, y3, y4], _ =>
      have f0 := hf 0 _ rfl
      have f1 := hf 1 _ rfl
      have f2 := hf 2 _ rfl
      have f3 := hf 3 _ rfl
      have f4 := hf 4 _ rfl
      simp [k3] at f0 f1 f2 f3 f4
      obtain ⟨a0, e0⟩ := open_int Try.underlying3 f0
      obtain ⟨a1, e1⟩ := open_int Try.underlying3 f1
      obtain ⟨a2, e2⟩ := open_int Try.underlying3 f2
      obtain ⟨a3, e3⟩ := open_int Try.underlying3 f3
      obtain ⟨a4, e4⟩ := open_int Try.underlying3 f4
      simp only [List.cons.injEq, and_true] at e0 e1 e2 e3 e4
      subst e0 e1 e2 e3 e4
      exact ⟨⟨a0, a1, a2, a3, a4⟩, rfl⟩

theorem open_rowE {fuel : Nat} {cs : List Value} {y : DataW H × List MemPlace} (h : DataW.trod enc Try.prog w base spare held fuel 26 cs = some y) :
    ∃ (A : Option Addr) (c : Nat) (es : List Evt), cs = [.slice A es.length c] ∧ es.length ≤ maxLen ∧ RowE w A es := by
  obtain ⟨A, c, xs, e, _, h2, h3⟩ := open_rows (α := Evt) Try.underlying26 (by kernel_rfl : Try.prog.cellsOf 105 = 5) (by omega) (fun es x => es = evCells x) (fun n es z _ hz => open_ev hz) h
  refine ⟨A, c, xs, e, h2, fun hp => ?_⟩
  obtain ⟨b, o, e1, hl, hc⟩ := h3 hp
  refine ⟨b, o, e1, hl, fun j x hx => ?_⟩
  obtain ⟨es, hcs, rfl⟩ := hc j x hx
  exact EvAt.mk hcs

end
end Go.Proofs.Ythpflcknommpdaa

/- Arguments that hold arenas and systems, opened, with the bounds of their words. -/
namespace Go.Proofs.Ythpflcknommpdaa
set_option maxRecDepth 100000
set_option linter.unusedSimpArgs false
open Go.RowKit Go.ChangeShapes Go.WideShapes Go.Deep

section
variable {H : Type} {enc : TypeId × Value → H} {w : World} {base : Nat} {spare : Nat → Bool} {held : Bool}

theorem bounds_i64 {n : Int} (h : (Lit.int .i64 n).wf = true) : -9223372036854775808 ≤ n ∧ n ≤ 9223372036854775807 := by
  simp [Lit.wf, IntKind.min, IntKind.max, IntKind.signed, IntKind.bits] at h
  omega
theorem open_rowW {fuel : Nat} {cs : List Value} {y : DataW H × List MemPlace} (h : DataW.trod enc Try.prog w base spare held fuel 22 cs = some y) :
    ∃ (A : Option Addr) (xs : List Int) (c : Nat), cs = [.slice A xs.length c] ∧ Row w A xs ∧ xs.length ≤ maxLen ∧ (∀ x ∈ xs, -9223372036854775808 ≤ x ∧ x ≤ 9223372036854775807) := by
  rcases open_ints Try.underlying22 Try.underlying3 (by kernel_rfl) h with ⟨rfl, _⟩ | ⟨a, len, cap, zs, rfl, _, hl, hm, hz, _, hc, hwf⟩
  · exact ⟨none, [], 0, rfl, Row.nil _ _, by simp, by simp⟩
  · have hlz : len ≤ zs.length := by rw [hz]; split <;> omega
    have e : (zs.take len).length = len := by simp; omega
    refine ⟨some a, zs.take len, cap, by rw [e], fun hn => ?_, by rw [e]; omega, fun x hx => bounds_i64 (hwf x (List.mem_of_mem_take hx))⟩
    rw [e] at hn
    obtain ⟨b, o, s⟩ := a
    have h0 := hc 0 (by omega)
    have hs : s = none := by simpa [Addr.add] using World.cell?_spot h0
    subst hs
    refine ⟨b, o, rfl, World.block_lt_of_cell? w _ h0, fun j x hx => ?_⟩
    have hj : j < len := by have := (List.getElem?_eq_some_iff.1 hx).1; omega
    have hcj := hc j (by omega)
    rw [Addr.add_lit] at hcj
    rw [hcj, List.getD_eq_getElem?_getD]
    rw [List.getElem?_take_of_lt hj] at hx
    rw [hx]
    rfl

theorem open_memW {fuel : Nat} {cs : List Value} {y : DataW H × List MemPlace} (h : DataW.trod enc Try.prog w base spare held fuel 24 cs = some y) :
    ∃ (A A' : Option Addr) (c c' : Nat) (m : Ar), cs = [.slice A m.W.length c, .slice A' m.G.length c', .bool m.bad] ∧ Row w A m.W ∧ Row w A' m.G ∧ m.W.length ≤ maxLen ∧ m.G.length ≤ maxLen ∧ (∀ x ∈ m.W, -9223372036854775808 ≤ x ∧ x ≤ 9223372036854775807) := by
  obtain ⟨xs, n, _, _, hlen, hxl, hf⟩ := DataW.trod_struct Try.underlying24 h
  have k1 : Try.prog.cellsOf 24 = 3 := by kernel_rfl
  have k2 : Try.prog.cellsOf 22 = 1 := by kernel_rfl
  have k3 : Try.prog.cellsOf 4 = 1 := by kernel_rfl
  rw [k1] at hlen
  match cs, hlen with
  | [c0, c1, c2], _ =>
    match xs, hxl with
    | [y0, y1, y2], _ =>
      have f0 := hf 0 _ rfl
      have f1 := hf 1 _ rfl
      have f2 := hf 2 _ rfl
      simp [k2, k3] at f0 f1 f2
      obtain ⟨A, xs, c, e0, r0, l0, n0⟩ := open_rowW f0
      obtain ⟨A', ys, c', e1, r1, l1⟩ := open_row f1
      obtain ⟨b, e2, _⟩ := DataW.trod_bool Try.underlying4 f2
      simp only [List.cons.injEq, and_true] at e0 e1 e2
      subst e0 e1 e2
      exact ⟨A, A', c, c', ⟨xs, ys, b⟩, rfl, r0, r1, l0, l1, n0⟩

end
end Go.Proofs.Ythpflcknommpdaa

/- A system as an argument, opened, with the bounds of its words. -/
namespace Go.Proofs.Ythpflcknommpdaa
set_option maxRecDepth 100000
set_option linter.unusedSimpArgs false
open Go.RowKit Go.ChangeShapes Go.WideShapes Go.Deep

section
variable {H : Type} {enc : TypeId × Value → H} {w : World} {base : Nat} {spare : Nat → Bool} {held : Bool}

theorem open_sysW {fuel : Nat} {cs : List Value} {y : DataW H × List MemPlace} (h : DataW.trod enc Try.prog w base spare held fuel 28 cs = some y) :
    ∃ (A B C L : Option Addr) (a b c d : Nat) (s : Sy), cs = [.slice A s.M.W.length a, .slice B s.M.G.length b, .bool s.M.bad, .slice C s.C.length c, .slice L s.L.length d] ∧ Row w A s.M.W ∧ Row w B s.M.G ∧ RowC w C s.C ∧ RowE w L s.L ∧
      s.M.W.length ≤ maxLen ∧ s.M.G.length ≤ maxLen ∧ s.C.length ≤ maxLen ∧ s.L.length ≤ maxLen ∧ (∀ x ∈ s.M.W, -9223372036854775808 ≤ x ∧ x ≤ 9223372036854775807) := by
  obtain ⟨xs, n, _, _, hlen, hxl, hf⟩ := DataW.trod_struct Try.underlying28 h
  have k1 : Try.prog.cellsOf 28 = 5 := by kernel_rfl
  have k2 : Try.prog.cellsOf 24 = 3 := by kernel_rfl
  have k3 : Try.prog.cellsOf 25 = 1 := by kernel_rfl
  have k4 : Try.prog.cellsOf 26 = 1 := by kernel_rfl
  rw [k1] at hlen
  match cs, hlen with
  | [c0, c1, c2, c3, c4], _ =>
    match xs, hxl with
    | [y0, y1, y2], _ =>
      have f0 := hf 0 _ rfl
      have f1 := hf 1 _ rfl
      have f2 := hf 2 _ rfl
      simp [k2, k3, k4] at f0 f1 f2
      obtain ⟨A, B, a, b, m, e0, r1, r2, l1, l2, n1⟩ := open_memW f0
      obtain ⟨C, c, cs', e1, l3, r3⟩ := open_rowC f1
      obtain ⟨L, d, es', e2, l4, r4⟩ := open_rowE f2
      simp only [List.cons.injEq, and_true] at e0 e1 e2
      obtain ⟨e00, e01, e02⟩ := e0
      subst e00 e01 e02 e1 e2
      exact ⟨A, B, C, L, a, b, c, d, ⟨m, cs', es'⟩, rfl, r1, r2, r3, r4, l1, l2, l3, l4, n1⟩

theorem open_systemW {r : Reach} {b0 : Nat} {v : Value} {d : DataW H} {p : List MemPlace} (hv : Value.okWide Try.prog w r b0 28 v) (h : DataW.Trod enc Try.prog w base spare held 28 v d p) :
    ∃ (A B C L : Option Addr) (a b c d : Nat) (s : Sy), v = .agg #[.slice A s.M.W.length a, .slice B s.M.G.length b, .bool s.M.bad, .slice C s.C.length c, .slice L s.L.length d] ∧ Row w A s.M.W ∧ Row w B s.M.G ∧ RowC w C s.C ∧ RowE w L s.L ∧
      s.M.W.length ≤ maxLen ∧ s.M.G.length ≤ maxLen ∧ s.C.length ≤ maxLen ∧ s.L.length ≤ maxLen ∧ (∀ x ∈ s.M.W, -9223372036854775808 ≤ x ∧ x ≤ 9223372036854775807) := by
  obtain ⟨cs, rfl, _⟩ := okWide_struct Try.underlying28 hv
  obtain ⟨fuel, hf⟩ := h
  obtain ⟨A, B, C, L, a, b, c, d, s, e, rest⟩ := open_sysW hf
  refine ⟨A, B, C, L, a, b, c, d, s, ?_, rest⟩
  have : cs = #[.slice A s.M.W.length a, .slice B s.M.G.length b, .bool s.M.bad, .slice C s.C.length c, .slice L s.L.length d] := by
    apply Array.toList_inj.1
    simpa [Value.cells] using e
  rw [this]
end
end Go.Proofs.Ythpflcknommpdaa

/- Contract of the document's answer for layer 3: few and right, where there are 40 nodes at most. -/
namespace Go.Proofs.Ythpflcknommpdaa
open Go.RowKit
set_option linter.unusedVariables false
set_option linter.unusedSimpArgs false

def mSmall4 (m : Ar) : Bool := decide (m.G.length ≤ 41) && decide (m.W.length ≤ 288)
def sySmall4 (s : Sy) : Bool := mSmall4 s.M && decide (s.C.length ≤ 9) && decide (s.L.length ≤ 200) && s.C.all coSmall
def syMays4 (s : Sy) : Bool := sySmall4 s && syRight s
theorem small_of4 {s : Sy} (h : sySmall4 s = true) : sySmall s = true := by
  simp only [sySmall4, mSmall4, sySmall, mSmall, Bool.and_eq_true, decide_eq_true_eq] at h ⊢
  obtain ⟨⟨⟨⟨h1, h2⟩, h3⟩, h4⟩, h5⟩ := h
  exact ⟨⟨⟨⟨by omega, by omega⟩, h3⟩, h4⟩, h5⟩

set_option maxHeartbeats 1000000 in
theorem small4_any (A A' : Option Addr) (c c' : Nat) (m : Ar) (w : World) (h0 : m.G.length ≤ maxLen) (h1 : m.W.length ≤ maxLen) :
    Calls Try.prog 67 #[.agg #[.slice A m.W.length c, .slice A' m.G.length c', .bool m.bad], .int .i64 40] w fun e w' => e = .returned (.bool (mSmall4 m)) ∧ Below w.heap.size w w' := by
  unfold maxLen at h0 h1
  go_enter Try.func67, Try.ntmps67
  go_wp2
  all_goals
    go_ret
    exact ⟨ret_bool (by rw [Bool.eq_iff_iff]; simp [mSmall4]; omega), boxed _ _⟩

set_option maxRecDepth 100000 in
set_option maxHeartbeats 8000000 in
theorem rsmall4_any (A B AC AL : Option Addr) (c d cC cL : Nat) (s : Sy) (w : World) (hC : RowC w AC s.C) (h0 : s.M.G.length ≤ maxLen) (h1 : s.M.W.length ≤ maxLen) (h2 : s.C.length ≤ maxLen) (h3 : s.L.length ≤ maxLen) :
    Calls Try.prog 35 #[.agg #[.slice A s.M.W.length c, .slice B s.M.G.length d, .bool s.M.bad, .slice AC s.C.length cC, .slice AL s.L.length cL], .int .i64 40] w fun e w' => e = .returned (.bool (sySmall4 s)) ∧ Below w.heap.size w w' := by
  have hS : sySmall4 s = (mSmall4 s.M && decide (s.C.length ≤ 9) && decide (s.L.length ≤ 200) && s.C.all coSmall) := rfl
  have HS := hid hS
  clear hS
  by_cases q : mSmall4 s.M = true ∧ s.C.length ≤ 9 ∧ s.L.length ≤ 200
  · obtain ⟨q1, q2, q3⟩ := q
    go_enter Try.func35, Try.ntmps35
    go_wp2_with (go_at_call 67; refine (small4_any _ _ _ _ s.M _ h0 h1).mono ?_; rintro e wk ⟨rfl, hk⟩; obtain ⟨gc, gf⟩ := bcell hk; have hz : w.heap.size < wk.heap.size := (by have := hk.size; simp at this; omega))
    have hCk := (hC.step (boxed w _)).step hk
    have b0 : wk.cell? ⟨w.heap.size, 3, none⟩ = some (.slice AC s.C.length cC) := by rw [gc _ _ (by simp)]; simp [go_sem]
    have hb : Below w.heap.size w wk := bstep (boxed _ _) hk
    clear gc gf hk
    go_loop [6] (fun i => ∃ k : Nat, k ≤ s.C.length ∧ i = .int .i64 k ∧ Hid ((s.C.take k).all coSmall = true)) (fun i => s.C.length - (intOf i).toNat)
    case atStart => exact ⟨0, Nat.zero_le _, rfl, hid rfl⟩
    case round =>
      obtain ⟨k, hkk, rfl, HT⟩ := hrel
      by_cases hlt : k < s.C.length
      · obtain ⟨b, o, rfl, hbl, hat⟩ := hCk (by omega)
        obtain ⟨x, hx⟩ : ∃ x, s.C[k]? = some x := ⟨_, List.getElem?_eq_getElem hlt⟩
        obtain ⟨⟨AF, cF, c0, rF, _⟩, _, _, _, _, _, AR, cR, c6, rR⟩ := hat k x hx
        have HX := hid hx
        clear hat hx
        have fin : coSmall x = false → sySmall4 s = false := fun h => by rw [HS.out, all_bad HX.out h]; simp
        have Fin := hid fin
        clear fin
        by_cases r1 : x.F.length ≤ 45
        · by_cases r2 : x.ret.length ≤ 210
          · go_wp2
            go_loop [7] (fun i => ∃ j : Nat, j ≤ x.F.length ∧ i = .int .i64 j ∧ Hid ((x.F.take j).all frSmall = true)) (fun i => x.F.length - (intOf i).toNat)
            case atStart => exact ⟨0, Nat.zero_le _, rfl, hid rfl⟩
            case round =>
              obtain ⟨j, hjj, rfl, HJ⟩ := hrel
              by_cases hjt : j < x.F.length
              · obtain ⟨b', o', rfl, hbl', hat⟩ := rF (by omega)
                obtain ⟨f, hf⟩ : ∃ f, x.F[j]? = some f := ⟨_, List.getElem?_eq_getElem hjt⟩
                obtain ⟨_, _, _, _, AS, cS, c10, rS⟩ := hat j f hf
                have HF := hid hf
                clear hat hf
                by_cases r3 : f.S.length ≤ 30
                · go_wp2
                  go_round
                  case rel => exact ⟨j + 1, by omega, by go_num, hid (all_more HF.out HJ.out (by simp [frSmall]; omega))⟩
                  case measure => simp [intOf]; omega
                · go_wp2
                  go_ret
                  exact ⟨ret_bool (Fin.out (by unfold coSmall; rw [all_bad HF.out (by simp [frSmall]; omega)]; simp)).symm, hb⟩
              · go_wp2
                go_round
                case rel => exact ⟨k + 1, by omega, by go_num, hid (all_more HX.out HT.out (by unfold coSmall; rw [decide_eq_true r1, decide_eq_true r2, all_full (by omega) HJ.out]; rfl))⟩
                case measure => simp [intOf]; omega
          · go_wp2
            go_ret
            exact ⟨ret_bool (Fin.out (by unfold coSmall; rw [decide_eq_false r2]; simp)).symm, hb⟩
        · go_wp2
          go_ret
          exact ⟨ret_bool (Fin.out (by unfold coSmall; rw [decide_eq_false r1]; simp)).symm, hb⟩
      · go_wp2
        go_ret
        exact ⟨ret_bool (by rw [HS.out, q1, decide_eq_true q2, decide_eq_true q3, all_full (by omega) HT.out]; rfl), hb⟩
  · have q' : mSmall4 s.M = false ∨ (mSmall4 s.M = true ∧ 9 < s.C.length) ∨ (mSmall4 s.M = true ∧ s.C.length ≤ 9 ∧ 200 < s.L.length) := by
      by_cases t : mSmall4 s.M = true
      · right
        by_cases t1 : 9 < s.C.length
        · exact .inl ⟨t, t1⟩
        · right
          by_cases t2 : 200 < s.L.length
          · exact ⟨t, by omega, t2⟩
          · exact absurd ⟨t, by omega, by omega⟩ q
      · exact .inl (by simpa using t)
    clear q
    unfold maxLen at h2 h3
    rcases q' with q1 | ⟨q1, q2⟩ | ⟨q1, q2, q3⟩
    all_goals
      go_enter Try.func35, Try.ntmps35
      go_wp2_with (go_at_call 67; refine (small4_any _ _ _ _ s.M _ h0 h1).mono ?_; rintro e wk ⟨rfl, hk⟩; obtain ⟨gc, gf⟩ := bcell hk; have hz : w.heap.size < wk.heap.size := (by have := hk.size; simp at this; omega))
      go_ret
      exact ⟨ret_bool (by rw [HS.out, q1]; first | rfl | (rw [decide_eq_false (show ¬ s.C.length ≤ 9 by omega)]; simp) | (rw [decide_eq_false (show ¬ s.L.length ≤ 200 by omega)]; simp)), bstep (boxed _ _) hk⟩

/-- What few says of a system. -/
theorem sySmall4_few {s : Sy} (h : sySmall4 s = true) : s.M.G.length ≤ 41 ∧ s.M.W.length ≤ 288 ∧ s.C.length ≤ 9 ∧ s.L.length ≤ 200 ∧ (∀ x ∈ s.C, x.F.length ≤ 45 ∧ x.ret.length ≤ 210 ∧ ∀ f ∈ x.F, f.S.length ≤ 30) := by
  simp only [sySmall4, mSmall4, coSmall, frSmall, Bool.and_eq_true, decide_eq_true_eq, List.all_eq_true] at h
  obtain ⟨⟨⟨h1, h2⟩, h3⟩, h4⟩ := h
  exact ⟨by omega, by omega, h2, h3, fun x hx => ⟨(h4 x hx).1.1, (h4 x hx).1.2, (h4 x hx).2⟩⟩

set_option maxHeartbeats 4000000 in
theorem rmay4_any (A B AC AL : Option Addr) (c d cC cL : Nat) (s : Sy) (w : World) (hG : Row w B s.M.G) (hC : RowC w AC s.C) (h0 : s.M.G.length ≤ maxLen) (h1 : s.M.W.length ≤ maxLen) (h2 : s.C.length ≤ maxLen) (h3 : s.L.length ≤ maxLen) :
    Calls Try.prog 8 #[.agg #[.slice A s.M.W.length c, .slice B s.M.G.length d, .bool s.M.bad, .slice AC s.C.length cC, .slice AL s.L.length cL], .int .i64 40] w fun e w' => e = .returned (.bool (syMays4 s)) ∧ Below w.heap.size w w' := by
  have hm : syMays4 s = (sySmall4 s && syRight s) := rfl
  cases q : sySmall4 s
  · rw [q] at hm
    have HM := hid hm
    clear hm
    go_enter Try.func8, Try.ntmps8
    go_wp2_with (go_at_call 35; refine (rsmall4_any _ _ _ _ _ _ _ _ s _ (hC.step (boxed w _)) h0 h1 h2 h3).mono ?_; rintro e wk ⟨rfl, hk⟩)
    go_ret
    exact ⟨ret_bool HM.out.symm, bstep (boxed _ _) hk⟩
  · obtain ⟨q1, q2, q3, q4, q5⟩ := sySmall4_few q
    have Q5 := hid (fun x hx => Nat.le_trans (q5 x hx).1 (by decide) : ∀ x ∈ s.C, x.F.length ≤ 1000000)
    rw [q] at hm
    have HM := hid hm
    clear hm q5
    go_enter Try.func8, Try.ntmps8
    go_wp2_with (first
      | (go_at_call 35; refine (rsmall4_any _ _ _ _ _ _ _ _ s _ (hC.step (boxed w _)) h0 h1 h2 h3).mono ?_; rintro e wk ⟨rfl, hk⟩; obtain ⟨gc, gf⟩ := bcell hk; have hz : w.heap.size < wk.heap.size := (by have := hk.size; simp at this; omega))
      | (go_at_call 36; refine (rright3_any _ _ _ _ _ _ _ _ s _ ((hG.alloc _).step hk) ((hC.step (boxed w _)).step hk) (by omega) (by omega) (by omega) Q5.out).mono ?_; rintro e wl ⟨rfl, hl⟩))
    go_ret
    exact ⟨ret_bool (by rw [HM.out]; rfl), bstep (boxed _ _) (bstep hk hl)⟩
end Go.Proofs.Ythpflcknommpdaa
