/- A variable that holds a system, stored anew. No Go text but types. -/
import Derived.Test.YtfipcdhodojodaaGreatStk9
import Derived.Test.YtfipcdhodojodaaGreatKFil
import Derived.Test.YtfipcdhodojodaaGreatKWal
namespace Go.Proofs.YtfipcdhodojodaaGreat
open Go.RowKit
set_option linter.unusedVariables false
theorem RS.turnN {w w':World} {s:Sy} {A B C L:Option Addr} {b:Nat} (h:RS w s A B C L) (t:Turn (fun x=>x = b) w w') (hn:NoInt w b):RS w' s A B C L:=⟨h.W.turnN t hn,h.G.turnN t hn,h.C.turnN t hn,h.L.turnN t hn⟩
theorem blk5 {w:World} {v T:Nat} {y0 y1 y2 y3 y4:Value} (h:w.heap[v]? = some (.cells #[y0,y1,y2,y3,y4] T (0,0))) (x0 x1 x2 x3 x4:Value) :
  (((((w.setCell ⟨v,0,none⟩ x0).setCell ⟨v,1,none⟩ x1).setCell ⟨v,2,none⟩ x2).setCell ⟨v,3,none⟩ x3).setCell ⟨v,4,none⟩ x4).heap[v]? = some (.cells #[x0,x1,x2,x3,x4] T (0,0)):=by
 have e1:=heap_setCell_same w v 0 _ _ x0 h
 have e2:=heap_setCell_same _ v 1 _ _ x1 e1
 have e3:=heap_setCell_same _ v 2 _ _ x2 e2
 have e4:=heap_setCell_same _ v 3 _ _ x3 e3
 exact heap_setCell_same _ v 4 _ _ x4 e4
theorem row_of_blk {w:World} {g T:Nat} {xs:List Int} (h:w.heap[g]? = some (.cells (xs.map (Value.int .i64)).toArray T (0,0))):Row w (some ⟨g,0,none⟩) xs:=fun _=>by
 refine ⟨g,0,rfl,(Array.getElem?_eq_some_iff.1 h).1,fun j x hx=>?_⟩
 rw [Nat.zero_add,cell_of_row w g j _ _ _ h]
 simp [hx]
set_option linter.unusedSimpArgs false
end Go.Proofs.YtfipcdhodojodaaGreat
