/- Contract: all slots of so many cores, one behind the other (haz.slots: an iterator). -/
import Derived.RangeFuncNested
import Derived.RangeFuncBound
import Derived.RangeFuncCalls
import Derived.RangeFuncLeaves
import Derived.Shelf.Abstract
import Derived.Shelf.RegionOpen
import Derived.WalkKit
import Derived.OwnWalkIn
import Derived.TacticsInMore
import Derived.LoopNIn
import Derived.LoopIn
import Derived.Test.YtfipcdhodojodaaGreatKMeA
import Derived.OrdersIn
import Derived.Test.YtfipcdhodojodaaGreatKHzA
import Derived.Sort.CutIn
namespace Go.Proofs.YtfipcdhodojodaaGreat
open Go.RowKit Go.Shelf
set_option linter.unusedVariables false
set_option linter.unusedSimpArgs false
attribute [local go_sem] Oper.semAt_some
end Go.Proofs.YtfipcdhodojodaaGreat
namespace Go.Proofs.YtfipcdhodojodaaGreat
open Go
set_option linter.unusedVariables false
end Go.Proofs.YtfipcdhodojodaaGreat
namespace Go.Proofs.YtfipcdhodojodaaGreat
open Go.RowKit Go.Shelf
set_option linter.unusedVariables false
set_option linter.unusedSimpArgs false
attribute [local go_sem] Oper.semAt_some
def pNameds (m:Ar) (pre:List (Int × Int)):List Bool:=pre.foldl (fun bs p=>pNote bs (mVal m (pPlace p.1 p.2))) (List.replicate m.G.length false)
theorem pNameds_snoc (m:Ar) (pre:List (Int × Int)) (x:Int × Int):pNameds m (pre++[x]) = pNote (pNameds m pre) (mVal m (pPlace x.1 x.2)):=by simp [pNameds]
structure NB (w:World) (s:Sy) (A B C L:Option Addr) (a b c d:Nat) (pre:List (Int × Int)) (W:World):Prop where
 b0:W.heap[w.heap.size]? = some (.cells (uS A B C L a b c d s) 30 (0,0))
 b1:W.heap[w.heap.size+1]? = some (.cells ((pNameds s.M pre).map Value.bool).toArray 4 (0,0))
 b2:W.heap[w.heap.size+1+1]? = some (.cells #[.slice (some ⟨w.heap.size+1,0,none⟩) s.M.G.length s.M.G.length] 43 (0,0))
 be:Below w.heap.size w W
theorem NB.own {w:World} {s:Sy} {A B C L:Option Addr} {a b c d z:Nat} (hz:w.heap.size≤z):OwnFrom z (NB w s A B C L a b c d):=fun pre W W' row hs hg hr =>
 ⟨(grownBy_keeps_cells hg (fun r e=>(hr r e).2) hs.b0 rfl).trans hs.b0,(grownBy_keeps_cells hg (fun r e=>(hr r e).2) hs.b1 rfl).trans hs.b1,(grownBy_keeps_cells hg (fun r e=>(hr r e).2) hs.b2 rfl).trans hs.b2,ownFrom_below (β:=Unit) (Nat.le_refl _) hz () W W' row hs.be hg hr⟩
theorem pNameds_len (m:Ar) (pre:List (Int × Int)):(pNameds m pre).length = m.G.length:=by
 unfold pNameds
 suffices h:∀ (l:List (Int × Int)) (bs:List Bool),(l.foldl (fun bs p=>pNote bs (mVal m (pPlace p.1 p.2))) bs).length = bs.length by rw [h];simp
 intro l
 induction l with
 | nil=>intro bs;rfl
 | cons x l ih=>intro bs;rw [List.foldl_cons,ih,pNote_len]
theorem NB.lt {w:World} {s:Sy} {A B C L:Option Addr} {a b c d:Nat} {pre:List (Int × Int)} {W:World} (h:NB w s A B C L a b c d pre W):w.heap.size+1+1 < W.heap.size:=(Array.getElem?_eq_some_iff.1 h.b2).1
theorem NB.next {w:World} {s:Sy} {A B C L:Option Addr} {a b c d:Nat} {pre:List (Int × Int)} {W W5:World} {x:Int × Int} {v:Int} (h:NB w s A B C L a b c d pre W) (hj:Below W.heap.size W W5) (hv:v = mVal s.M (pPlace x.1 x.2)) (hn:¬ (0 < v∧v < s.M.G.length)):NB w s A B C L a b c d (pre++[x]) W5:=by
 have hl:=h.lt
 have e:pNameds s.M (pre++[x]) = pNameds s.M pre:=by rw [pNameds_snoc,← hv];unfold pNote;rw [pNameds_len,if_neg hn]
 exact ⟨(hj.block _ (by omega)).trans h.b0,by rw [e];exact (hj.block _ (by omega)).trans h.b1,(hj.block _ hl).trans h.b2,bstep h.be hj⟩
theorem below_set3 {W W4:World} (hj:Below W.heap.size W W4) (x0 x1 x2:Value):Below W.heap.size W (((W4.setCell ⟨W.heap.size,0,none⟩ x0).setCell ⟨W.heap.size,1,none⟩ x1).setCell ⟨W.heap.size,2,none⟩ x2) :=
 hj.trans ((Turn.set (p:=fun x=>x = W.heap.size) (Turn.set (p:=fun x=>x = W.heap.size) (Turn.set (p:=fun x=>x = W.heap.size) (Turn.refl _ _) rfl _ _) rfl _ _) rfl _ _).to_below hj.size (fun g hg=>by omega))
end Go.Proofs.YtfipcdhodojodaaGreat
