/- Arguments that hold arenas, opened. -/
import Derived.Test.YtpagekhgeahmaaaRow
import Derived.Test.YtpagekhgeahmaaaArena
import Derived.Test.YtpagekhgeahmaaaChecked
import Derived.OpenShut
import Derived.ChangeSlices
import Derived.Deep.Fields
namespace Go.Proofs.Ytpagekhgeahmaaa
set_option maxRecDepth 100000
open Go.RowKit Go.ChangeShapes Go.WideShapes Go.Deep

section
variable {H : Type} {enc : TypeId × Value → H} {w : World} {base : Nat} {spare : Nat → Bool} {held : Bool}

theorem open_row {fuel : Nat} {cs : List Value} {y : DataW H × List MemPlace} (h : DataW.trod enc Try.prog w base spare held fuel 22 cs = some y) :
    ∃ (A : Option Addr) (xs : List Int) (c : Nat), cs = [.slice A xs.length c] ∧ Row w A xs ∧ xs.length ≤ maxLen := by
  rcases open_ints Try.underlying22 Try.underlying3 (by kernel_rfl) h with ⟨rfl, _⟩ | ⟨a, len, cap, zs, rfl, _, hl, hm, hz, _, hc, _⟩
  · exact ⟨none, [], 0, rfl, Row.nil _ _, by simp⟩
  · have hlz : len ≤ zs.length := by rw [hz]; split <;> omega
    have e : (zs.take len).length = len := by simp; omega
    refine ⟨some a, zs.take len, cap, by rw [e], fun hn => ?_, by rw [e]; omega⟩
    rw [e] at hn
    obtain ⟨b, o, s⟩ := a
    have h0 := hc 0 (by omega)
    have hs : s = none := by simpa [Addr.add] using World.cell?_spot h0
    subst hs
    refine ⟨b, o, rfl, World.block_lt_of_cell? w _ h0, fun j x hx => ?_⟩
    have hj : j < len := by have := (List.getElem?_eq_some_iff.1 hx).1; omega
    have hcj := hc j (by omega)
    rw [Addr.add_lit] at hcj
    rw [hcj, List.getD_eq_getElem?_getD]
    rw [List.getElem?_take_of_lt hj] at hx
    rw [hx]
    rfl

theorem open_mem {fuel : Nat} {cs : List Value} {y : DataW H × List MemPlace} (h : DataW.trod enc Try.prog w base spare held fuel 24 cs = some y) :
    ∃ (A A' : Option Addr) (c c' : Nat) (m : Ar), cs = [.slice A m.W.length c, .slice A' m.G.length c', .bool m.bad] ∧ Row w A m.W ∧ Row w A' m.G ∧ m.W.length ≤ maxLen ∧ m.G.length ≤ maxLen := by
  obtain ⟨xs, n, _, _, hlen, hxl, hf⟩ := DataW.trod_struct Try.underlying24 h
  have k1 : Try.prog.cellsOf 24 = 3 := by kernel_rfl
  have k2 : Try.prog.cellsOf 22 = 1 := by kernel_rfl
  have k3 : Try.prog.cellsOf 4 = 1 := by kernel_rfl
  rw [k1] at hlen
  match cs, hlen with
  | [c0, c1, c2], _ =>
    match xs, hxl with
    | [y0, y1, y2], _ =>
      have f0 := hf 0 _ rfl
      have f1 := hf 1 _ rfl
      have f2 := hf 2 _ rfl
      simp [k2, k3] at f0 f1 f2
      obtain ⟨A, xs, c, e0, r0, l0⟩ := open_row f0
      obtain ⟨A', ys, c', e1, r1, l1⟩ := open_row f1
      obtain ⟨b, e2, _⟩ := DataW.trod_bool Try.underlying4 f2
      simp only [List.cons.injEq, and_true] at e0 e1 e2
      subst e0 e1 e2
      exact ⟨A, A', c, c', ⟨xs, ys, b⟩, rfl, r0, r1, l0, l1⟩

theorem open_arena {r : Reach} {b0 : Nat} {v : Value} {d : DataW H} {p : List MemPlace} (hv : Value.okWide Try.prog w r b0 24 v) (h : DataW.Trod enc Try.prog w base spare held 24 v d p) :
    ∃ (A A' : Option Addr) (c c' : Nat) (m : Ar), v = .agg #[.slice A m.W.length c, .slice A' m.G.length c', .bool m.bad] ∧ Row w A m.W ∧ Row w A' m.G ∧ m.W.length ≤ maxLen ∧ m.G.length ≤ maxLen := by
  obtain ⟨cs, rfl, _⟩ := okWide_struct Try.underlying24 hv
  obtain ⟨fuel, hf⟩ := h
  obtain ⟨A, A', c, c', m, e, r1, r2, l1, l2⟩ := open_mem hf
  refine ⟨A, A', c, c', m, ?_, r1, r2, l1, l2⟩
  have : cs = #[.slice A m.W.length c, .slice A' m.G.length c', .bool m.bad] := by
    apply Array.toList_inj.1
    simpa [Value.cells] using e
  rw [this]
end
end Go.Proofs.Ytpagekhgeahmaaa
