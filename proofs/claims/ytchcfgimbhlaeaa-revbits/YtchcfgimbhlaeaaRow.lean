/- Rows of integers in memory, read as lists; what is kept as memory grows. No Go text. -/
import Derived.WalkKit
import Derived.Below
import Derived.Laws.OwnMore
import Derived.Laws.Rows
import Derived.Laws.MakeOwn
import Derived.Deep.Draws
namespace Go.Proofs.Ytchcfgimbhlaeaa
open Go.RowKit

theorem hid {p : Prop} (h : p) : Hid p := h
theorem ret_int {k : IntKind} {a b : Int} (h : a = b) : Ending.returned (.int k a) = .returned (.int k b) := by rw [h]
theorem ret_bool {a b : Bool} (h : a = b) : Ending.returned (.bool a) = .returned (.bool b) := by rw [h]

theorem bstep {a b c : World} (h : Below a.heap.size a b) (k : Below b.heap.size b c) : Below a.heap.size a c := h.trans (k.mono h.size)
theorem boxed (w : World) (o : Obj) : Below w.heap.size w (w.alloc o) := (Below.refl _ _).alloc (Nat.le_refl _) _
theorem bdrewN {B : Nat} {a w : World} (h : Below B a w) (n : Nat) : Below B a (w.drewN n) := ⟨h.os, h.tape, h.output, h.size, h.block⟩
/-- What is below reads as it did: the facts that the walk uses by itself. -/
theorem bcell {W w1 : World} (hb : Below W.heap.size W w1) : (∀ b o, b < W.heap.size → w1.cell? ⟨b, o, none⟩ = W.cell? ⟨b, o, none⟩) ∧ (∀ b o, b < W.heap.size → w1.frozen? ⟨b, o, none⟩ = W.frozen? ⟨b, o, none⟩) :=
  ⟨fun b o h => hb.cell (p := ⟨b, o, none⟩) h, fun b o h => hb.frozen (p := ⟨b, o, none⟩) h⟩

/-- A slice of address A, as long as xs, holds just the integers xs, in memory that there is. -/
def Row (w : World) (A : Option Addr) (xs : List Int) : Prop :=
  0 < xs.length → ∃ b o, A = some ⟨b, o, none⟩ ∧ b < w.heap.size ∧ ∀ j x, xs[j]? = some x → w.cell? ⟨b, o + j, none⟩ = some (.int .i64 x)

theorem Row.nil (w : World) (A : Option Addr) : Row w A [] := fun h => absurd h (by simp)

theorem Row.step {w w' : World} {A : Option Addr} {xs : List Int} (h : Row w A xs) (hb : Below w.heap.size w w') : Row w' A xs := fun hn => by
  obtain ⟨b, o, e, hl, hc⟩ := h hn
  exact ⟨b, o, e, Nat.lt_of_lt_of_le hl hb.size, fun j x hx => (hb.cell hl).trans (hc j x hx)⟩

theorem Row.alloc {w : World} {A : Option Addr} {xs : List Int} (h : Row w A xs) (o : Obj) : Row (w.alloc o) A xs := h.step (boxed w o)

/-- A cell of it, the integer under a name of its own. -/
theorem Row.atX {w : World} {A : Option Addr} {xs : List Int} (h : Row w A xs) (k : Nat) (hk : k < xs.length) :
    ∃ b o x, A = some ⟨b, o, none⟩ ∧ b < w.heap.size ∧ Hid (xs.getD k 0 = x) ∧ w.cell? ⟨b, o + k, none⟩ = some (.int .i64 x) := by
  obtain ⟨b, o, e, hl, hc⟩ := h (by omega)
  refine ⟨b, o, _, e, hl, hid rfl, ?_⟩
  rw [hc k _ (List.getElem?_eq_getElem hk), List.getD_eq_getElem?_getD, List.getElem?_eq_getElem hk]
  rfl

/-- The same where the address is known. -/
theorem Row.atY {w : World} {b o : Nat} {xs : List Int} (h : Row w (some ⟨b, o, none⟩) xs) (k : Nat) (hk : k < xs.length) :
    ∃ x, Hid (xs.getD k 0 = x) ∧ w.cell? ⟨b, o + k, none⟩ = some (.int .i64 x) := by
  obtain ⟨b', o', x, e, _, X, hc⟩ := h.atX k hk
  simp only [Option.some.injEq, Addr.mk.injEq, and_true] at e
  obtain ⟨rfl, rfl⟩ := e
  exact ⟨x, X, hc⟩

theorem Row.cellX {w : World} {b o : Nat} {xs : List Int} (h : Row w (some ⟨b, o, none⟩) xs) (k : Nat) (hk : k < xs.length) {x : Int} (X : Hid (xs.getD k 0 = x)) : w.cell? ⟨b, o + k, none⟩ = some (.int .i64 x) := by
  obtain ⟨y, Y, hc⟩ := h.atY k hk
  rw [hc, ← Y.out, X.out]

theorem Row.atE {w : World} {A : Option Addr} {xs : List Int} (h : Row w A xs) (k : Nat) (hk : k < xs.length) :
    ∃ b o, A = some ⟨b, o, none⟩ ∧ b < w.heap.size ∧ w.cell? ⟨b, o + k, none⟩ = some (.int .i64 xs[k]) := by
  obtain ⟨b, o, e, hl, hc⟩ := h (by omega)
  exact ⟨b, o, e, hl, hc k _ (List.getElem?_eq_getElem hk)⟩

/-- A block that is just these integers. -/
def Blk (w : World) (g : Nat) (xs : List Int) : Prop := w.heap[g]? = some (.cells (xs.map (Value.int .i64)).toArray 3 (0, 0))

theorem Blk.lt {w : World} {g : Nat} {xs : List Int} (h : Blk w g xs) : g < w.heap.size := by
  rcases Nat.lt_or_ge g w.heap.size with hl | hl
  · exact hl
  · unfold Blk at h; rw [Array.getElem?_eq_none hl] at h; cases h

theorem Blk.cell {w : World} {g : Nat} {xs : List Int} (h : Blk w g xs) (j : Nat) : w.cell? ⟨g, j, none⟩ = (xs[j]?).map (Value.int .i64) := by
  rw [cell_of_row w g j _ _ _ h]
  simp

theorem Blk.cellD {w : World} {g : Nat} {xs : List Int} (h : Blk w g xs) (j : Nat) (hj : j < xs.length) : w.cell? ⟨g, j, none⟩ = some (.int .i64 (xs.getD j 0)) := by
  rw [h.cell, List.getD_eq_getElem?_getD, List.getElem?_eq_getElem hj]
  rfl

theorem Blk.frozen {w : World} {g : Nat} {xs : List Int} (h : Blk w g xs) (j : Nat) : w.frozen? ⟨g, j, none⟩ = false := frozen_of_row w g j _ _ h

theorem Blk.row {w : World} {g : Nat} {xs : List Int} (h : Blk w g xs) : Row w (some ⟨g, 0, none⟩) xs := fun _ =>
  ⟨_, _, rfl, h.lt, fun j x hx => by rw [Nat.zero_add, h.cell, hx]; rfl⟩

theorem Blk.step {w w' : World} {g B : Nat} {xs : List Int} (h : Blk w g xs) (hb : Below B w w') (hg : g < B) : Blk w' g xs := (hb.block g hg).trans h

theorem Blk.alloc {w : World} {g : Nat} {xs : List Int} (h : Blk w g xs) (o : Obj) : Blk (w.alloc o) g xs := h.step (boxed w o) h.lt

theorem Blk.far {w : World} {g : Nat} {xs : List Int} (h : Blk w g xs) {p : Addr} (hp : g ≠ p.block) (u : Value) : Blk (w.setCell p u) g xs := (Below.heap_setCell w p u g hp).trans h

theorem Blk.set {w : World} {g : Nat} {xs : List Int} (h : Blk w g xs) (j : Nat) (x : Int) : Blk (w.setCell ⟨g, j, none⟩ (.int .i64 x)) g (xs.set j x) := by
  unfold Blk
  rw [heap_setCell_same w g j _ _ _ h]
  simp [List.map_set]

theorem Blk.made (w : World) (n : Nat) : Blk (w.alloc (.cells (madeCells #[Value.int .i64 0] n) 3)) w.heap.size (List.replicate n 0) := by
  unfold Blk
  rw [heap_alloc_new]
  congr 2
  apply Array.ext
  · simp [madeCells]
  · intro i h1 h2
    simp [madeCells, Nat.mod_one]
end Go.Proofs.Ytchcfgimbhlaeaa
