/- A node that is turned again and again. -/
import Derived.Test.YtbpkndjnohdnjaaSmall
import Derived.Test.YtbpkndjnohdnjaaOpen2
import Derived.OpenShut
import Derived.ChangeSlices
namespace Go.Proofs.Ytbpkndjnohdnjaa
open Go.RowKit Go.ChangeShapes Go.WideShapes
set_option linter.unusedVariables false
set_option linter.unusedSimpArgs false

/-- A row of integers is no variable that holds an arena. -/
theorem Row.off {w : World} {g o : Nat} {xs : List Int} (h : Row w (some ⟨g, o, none⟩) xs) (hn : 0 < xs.length) {r : Nat} {a1 a2 : Option Addr} {n1 c1 n2 c2 : Nat} {b : Bool} {t : TypeId} (hr : w.heap[r]? = some (.cells #[.slice a1 n1 c1, .slice a2 n2 c2, .bool b] t (0, 0))) : g ≠ r := by
  obtain ⟨g', o', e, hl, hc⟩ := h hn
  simp only [Option.some.injEq, Addr.mk.injEq, and_true] at e
  obtain ⟨rfl, rfl⟩ := e
  rintro rfl
  have h0 := hc 0 xs[0] (List.getElem?_eq_getElem hn)
  rw [cell_of_row w g _ _ _ _ hr] at h0
  match o, h0 with
  | 0, h0 => simp at h0
  | 1, h0 => simp at h0
  | 2, h0 => simp at h0
  | o + 3, h0 => simp at h0

theorem Vr.far3 {w : World} {b : Nat} {m : Ar} {A A' : Option Addr} {c c' : Nat} (h : Vr w b m A A' c c') {r : Nat} (hne : b ≠ r) {a1 a2 : Option Addr} {n1 k1 n2 k2 : Nat} {bd : Bool} {t : TypeId} (hr : w.heap[r]? = some (.cells #[.slice a1 n1 k1, .slice a2 n2 k2, .bool bd] t (0, 0))) (x y z : Value) :
    Vr (((w.setCell ⟨r, 0, none⟩ x).setCell ⟨r, 1, none⟩ y).setCell ⟨r, 2, none⟩ z) b m A A' c c' := by
  refine ⟨?_, h.r1.far3 hr x y z, h.r2.far3 hr x y z⟩
  rw [Below.heap_setCell _ _ _ _ hne, Below.heap_setCell _ _ _ _ hne, Below.heap_setCell _ _ _ _ hne]
  exact h.bx

theorem three3 {x : Int} (h : 0 ≤ x ∧ x ≤ 2) : ((x == 0) = true ∧ (x == 1) = false ∧ (x == 2) = false) ∨ ((x == 0) = false ∧ (x == 1) = true ∧ (x == 2) = false) ∨ ((x == 0) = false ∧ (x == 1) = false ∧ (x == 2) = true) := by
  simp only [beq_iff_eq, beq_eq_false_iff_ne, ne_eq]
  omega

/-- What has been turned at node i alone. -/
structure Inv (m : Ar) (i : Nat) (x : Ar) : Prop where
  w : x.W = m.W
  l : x.G.length = m.G.length
  o : ∀ j, j ≠ i → x.G.getD j 0 = m.G.getD j 0
  g : 0 ≤ x.G.getD i 0 ∧ x.G.getD i 0 ≤ 2

theorem Inv.turn {m : Ar} {i : Nat} {x : Ar} (h : Inv m i x) (i1 : i < m.G.length) {z : Int} (z0 : 0 ≤ z) (z1 : z ≤ 2) (b : Bool) : Inv m i ⟨(mTurn x i z).W, (mTurn x i z).G, b⟩ := by
  have il : i < x.G.length := by rw [h.l]; exact i1
  cases t : mTurns x i z
  · obtain ⟨t1, t2, _⟩ := mTurn_no t
    exact ⟨t1.trans h.w, by dsimp only; rw [t2]; exact h.l, fun j hj => by dsimp only; rw [t2]; exact h.o j hj, by dsimp only; rw [t2]; exact h.g⟩
  · obtain ⟨t1, t2, _⟩ := mTurn_yes t
    rw [Int.toNat_natCast] at t2
    refine ⟨t1.trans h.w, by dsimp only; rw [t2, List.length_set]; exact h.l, fun j hj => ?_, ?_⟩
    · dsimp only
      rw [t2, List.getD_eq_getElem?_getD, List.getElem?_set_ne (by omega), ← List.getD_eq_getElem?_getD]
      exact h.o j hj
    · dsimp only
      rw [t2, List.getD_eq_getElem?_getD, List.getElem?_set_self il]
      exact ⟨z0, z1⟩

theorem turn_facts {x : Ar} {i : Nat} {g z : Int} {bb : Bool} (i0 : 1 ≤ i) (il : i < x.G.length) (hg : x.G.getD i 0 = g) (hb : x.bad = bb) :
    (mTurn x i z).bad = (bb || !mMay g z) ∧ (mTurn x i z).G.getD i 0 = (if mMay g z then z else g) ∧ (mTurn x i z).G.length = x.G.length ∧ (mTurn x i z).W.length = x.W.length := by
  have ht : mTurns x i z = mMay g z := by rw [mTurns_in (by omega) (by omega), Int.toNat_natCast, hg]
  cases t : mMay g z
  · obtain ⟨t1, t2, t3⟩ := mTurn_no (ht.trans t)
    refine ⟨by rw [t3]; simp, by rw [t2]; simpa using hg, by rw [t2], by rw [t1]⟩
  · obtain ⟨t1, t2, t3⟩ := mTurn_yes (ht.trans t)
    rw [Int.toNat_natCast] at t2
    refine ⟨by rw [t3, hb]; simp, ?_, by rw [t2, List.length_set], by rw [t1]⟩
    rw [t2, List.getD_eq_getElem?_getD, List.getElem?_set_self il]
    rfl

/-- A slice of bytes that came in. -/
theorem open_bytes {H : Type} {enc : TypeId × Value → H} {w : World} {base : Nat} {spare : Nat → Bool} {held : Bool} {r : Reach} {b0 : Nat} {v : Value} {d : DataW H} {p : List MemPlace} (hv : Value.okWide Try.prog w r b0 55 v) (h : DataW.Trod enc Try.prog w base spare held 55 v d p) :
    ∃ (A : Option Addr) (us : List Int) (c : Nat), v = .slice A us.length c ∧ us.length ≤ maxLen ∧ (∀ u ∈ us, 0 ≤ u ∧ u ≤ 255) ∧ (0 < us.length → ∃ b o, A = some ⟨b, o, none⟩ ∧ b < w.heap.size ∧ ∀ j x, us[j]? = some x → w.cell? ⟨b, o + j, none⟩ = some (.int .u8 x)) := by
  obtain ⟨a, len, cap, rfl⟩ := okWide_slice Try.underlying55 hv
  obtain ⟨fuel, hf⟩ := h
  rcases open_ints Try.underlying55 Try.underlying5 (by kernel_rfl) hf with ⟨e, _⟩ | ⟨a', len', cap', zs, e, _, hl, hm, hz, _, hc, hw⟩
  · simp [Value.cells] at e
    obtain ⟨rfl, rfl, rfl⟩ := e
    exact ⟨none, [], 0, rfl, by simp, by simp, fun h => absurd h (by simp)⟩
  · simp [Value.cells] at e
    obtain ⟨rfl, rfl, rfl⟩ := e
    have hlz : len ≤ zs.length := by rw [hz]; split <;> omega
    have el : (zs.take len).length = len := by simp; omega
    refine ⟨some a', zs.take len, cap, by rw [el], by rw [el]; omega, fun u hu => bounds_u8 (hw u (List.mem_of_mem_take hu)), fun hn => ?_⟩
    rw [el] at hn
    obtain ⟨b, o, s⟩ := a'
    have h0 := hc 0 (by omega)
    have hs : s = none := by simpa [Addr.add] using World.cell?_spot h0
    subst hs
    refine ⟨b, o, rfl, World.block_lt_of_cell? w _ h0, fun j x hx => ?_⟩
    have hj : j < len := by have := (List.getElem?_eq_some_iff.1 hx).1; omega
    have hcj := hc j (by omega)
    rw [Addr.add_lit] at hcj
    rw [hcj, List.getD_eq_getElem?_getD]
    rw [List.getElem?_take_of_lt hj] at hx
    rw [hx]
    rfl
end Go.Proofs.Ytbpkndjnohdnjaa
