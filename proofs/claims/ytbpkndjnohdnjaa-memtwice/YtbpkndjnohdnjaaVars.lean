/- Variables that hold arenas, kept as memory grows. -/
import Derived.Test.YtbpkndjnohdnjaaMem13
namespace Go.Proofs.Ytbpkndjnohdnjaa
open Go.RowKit

/-- The variable b holds the arena m. -/
structure Vr (w : World) (b : Nat) (m : Ar) (A A' : Option Addr) (c c' : Nat) : Prop where
  bx : w.heap[b]? = some (.cells #[.slice A m.W.length c, .slice A' m.G.length c', .bool m.bad] 24 (0, 0))
  r1 : Row w A m.W
  r2 : Row w A' m.G

section
variable {w w' : World} {b : Nat} {m : Ar} {A A' : Option Addr} {c c' : Nat}
theorem Vr.lt (h : Vr w b m A A' c c') : b < w.heap.size := by
  rcases Nat.lt_or_ge b w.heap.size with hl | hl
  · exact hl
  · have := h.bx; rw [Array.getElem?_eq_none hl] at this; cases this
theorem Vr.step (h : Vr w b m A A' c c') (hb : Below w.heap.size w w') : Vr w' b m A A' c c' := ⟨(hb.block b h.lt).trans h.bx, h.r1.step hb, h.r2.step hb⟩
theorem Vr.box (r1 : Row w A m.W) (r2 : Row w A' m.G) : Vr (w.alloc (.cells #[.slice A m.W.length c, .slice A' m.G.length c', .bool m.bad] 24)) w.heap.size m A A' c c' :=
  ⟨heap_alloc_new _ _, r1.alloc _, r2.alloc _⟩
theorem Vr.c0 (h : Vr w b m A A' c c') : w.cell? ⟨b, 0, none⟩ = some (.slice A m.W.length c) := cell_of_row w b 0 _ _ _ h.bx
theorem Vr.c1 (h : Vr w b m A A' c c') : w.cell? ⟨b, 1, none⟩ = some (.slice A' m.G.length c') := cell_of_row w b 1 _ _ _ h.bx
theorem Vr.c2 (h : Vr w b m A A' c c') : w.cell? ⟨b, 2, none⟩ = some (.bool m.bad) := cell_of_row w b 2 _ _ _ h.bx
end
theorem up {a w : World} {o : Obj} (h : Below a.heap.size a w) : Below a.heap.size a (w.alloc o) := bstep h (boxed _ _)
theorem dr {a w : World} (h : Below a.heap.size a w) : Below a.heap.size a w.drew := h.drew
theorem drN {a w : World} {n : Nat} (h : Below a.heap.size a w) : Below a.heap.size a (w.drewN n) := bdrewN h n
end Go.Proofs.Ytbpkndjnohdnjaa
