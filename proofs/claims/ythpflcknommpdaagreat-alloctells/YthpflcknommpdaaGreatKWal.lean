/- Contract: the list, walked by the program. -/
import Derived.Test.YthpflcknommpdaaGreatKStA
import Derived.Test.YthpflcknommpdaaGreatKCpy
import Derived.Maps.OwnSet
import Derived.Maps.OwnOps
import Derived.WalkMore
namespace Go.Proofs.YthpflcknommpdaaGreat
open Go.RowKit Go.Maps
set_option linter.unusedVariables false
set_option linter.unusedSimpArgs false
def HasOut (D:DataW Unit) (out:List Int):Prop:=Maps.IsMap D∧∀ x,Maps.has D (.int .i64 x) = decide (x ∈ out)
theorem HasOut.nil:HasOut (.map []) []:=⟨⟨_,rfl⟩,fun x=>by simp [Maps.has_eq]⟩
theorem HasOut.put {D:DataW Unit} {out:List Int} (h:HasOut D out) (p:Int) (d:DataW Unit) (hm:Maps.IsMap (D.put (.int .i64 p) d)):HasOut (D.put (.int .i64 p) d) (out++[p]):=by
 refine ⟨hm,fun x=>?_⟩
 by_cases e:x = p
 ·subst e
  rw [Maps.has_put_same (k:=.int .i64 x) h.1 trivial d]
  simp
 ·rw [Maps.has_put_other (fun q=>e (by injection q)),h.2 x]
  simp [e]
theorem own_row1 {w:World} {base n:Nat} {v:Value} {xs:List Int} (h:w.ownsRow base 3 1 v n (xs.map inCells).flatten) (hn:xs.length = n):∃ A c,v = .slice A n c∧Row w A xs:=by
 obtain ⟨A,c,e,r⟩:=own_rowI h hn
 exact ⟨A,c,e,r.row⟩
open Go.RowKit
end Go.Proofs.YthpflcknommpdaaGreat
