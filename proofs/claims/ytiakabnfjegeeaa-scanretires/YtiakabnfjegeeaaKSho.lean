/- A variable that holds a system, stored anew. No Go text but types. -/
import Derived.Test.YtiakabnfjegeeaaStk9
import Derived.Test.YtiakabnfjegeeaaKFil
import Derived.Test.YtiakabnfjegeeaaKWal

namespace Go.Proofs.Ytiakabnfjegeeaa
open Go.RowKit
set_option linter.unusedVariables false

theorem RS.turnN {w w' : World} {s : Sy} {A B C L : Option Addr} {b : Nat} (h : RS w s A B C L) (t : Turn (fun x => x = b) w w') (hn : NoInt w b) : RS w' s A B C L := ⟨h.W.turnN t hn, h.G.turnN t hn, h.C.turnN t hn, h.L.turnN t hn⟩
/-- A variable (block v) holds a system. -/
def VS (w : World) (v : Nat) (s : Sy) (A B C L : Option Addr) (a b c d : Nat) : Prop := w.heap[v]? = some (.cells #[.slice A s.M.W.length a, .slice B s.M.G.length b, .bool s.M.bad, .slice C s.C.length c, .slice L s.L.length d] 30 (0, 0))
theorem blk5 {w : World} {v T : Nat} {y0 y1 y2 y3 y4 : Value} (h : w.heap[v]? = some (.cells #[y0, y1, y2, y3, y4] T (0, 0))) (x0 x1 x2 x3 x4 : Value) :
    (((((w.setCell ⟨v, 0, none⟩ x0).setCell ⟨v, 1, none⟩ x1).setCell ⟨v, 2, none⟩ x2).setCell ⟨v, 3, none⟩ x3).setCell ⟨v, 4, none⟩ x4).heap[v]? = some (.cells #[x0, x1, x2, x3, x4] T (0, 0)) := by
  have e1 := heap_setCell_same w v 0 _ _ x0 h
  have e2 := heap_setCell_same _ v 1 _ _ x1 e1
  have e3 := heap_setCell_same _ v 2 _ _ x2 e2
  have e4 := heap_setCell_same _ v 3 _ _ x3 e3
  exact heap_setCell_same _ v 4 _ _ x4 e4
theorem row_of_blk {w : World} {g T : Nat} {xs : List Int} (h : w.heap[g]? = some (.cells (xs.map (Value.int .i64)).toArray T (0, 0))) : Row w (some ⟨g, 0, none⟩) xs := fun _ => by
  refine ⟨g, 0, rfl, (Array.getElem?_eq_some_iff.1 h).1, fun j x hx => ?_⟩
  rw [Nat.zero_add, cell_of_row w g j _ _ _ h]
  simp [hx]
end Go.Proofs.Ytiakabnfjegeeaa

/- Contract: the document's example for layer 4. -/
namespace Go.Proofs.Ytiakabnfjegeeaa
open Go.RowKit
set_option linter.unusedVariables false
set_option linter.unusedSimpArgs false

def e4s : Sy := syMem (syNew 1 3) (pFill (syNew 1 3).M)
def e4t : Nat → Sy
  | 0 => pCall e4s 0 ⟨1, 0, [0, 0, 0, 0, 0, 0, 0, 0], []⟩
  | k + 1 => pStep (e4t k) 0
def wordsIn (m : Ar) : Prop := ∀ x ∈ m.W, -9223372036854775808 ≤ x ∧ x ≤ 9223372036854775807
theorem e4n_few : SyFew (syNew 1 3) := by unfold SyFew; decide +kernel
theorem e4s_few : SyFew e4s := by unfold SyFew; decide +kernel
theorem e4t_few : ∀ k, k < 4 → SyFew (e4t k) ∧ 2 ≤ (e4t k).M.G.length ∧ (e4t k).L.length ≤ 999998 := by unfold SyFew; decide +kernel
theorem e4s_walk : pWalk e4s.M = some [1, 2, 3] := by decide +kernel
theorem e4t_walk : pWalk (e4t 3).M = some [2, 3] := by decide +kernel
theorem e4s_in : wordsIn e4s.M := by unfold wordsIn; decide +kernel
theorem e4t_in : wordsIn (e4t 3).M := by unfold wordsIn; decide +kernel
theorem e4t_c : (e4t 3).C = [⟨[], 1, 0, 0, 0, 0, []⟩] := by decide +kernel

/-- What a round of the example begins with. -/
def E4 (w0 : World) (v : Nat) (A3 : Option Addr) (i : Value) (wr : World) : Prop :=
  ∃ (k : Nat) (A B C L : Option Addr) (a b c d : Nat), k ≤ 3 ∧ i = .int .i64 k ∧ wr.heap[v]? = some (.cells #[.slice A (e4t k).M.W.length a, .slice B (e4t k).M.G.length b, .bool (e4t k).M.bad, .slice C (e4t k).C.length c, .slice L (e4t k).L.length d] 30 (0, 0)) ∧ RS wr (e4t k) A B C L ∧ Row wr A3 [1, 2, 3] ∧ Below w0.heap.size w0 wr

end Go.Proofs.Ytiakabnfjegeeaa
