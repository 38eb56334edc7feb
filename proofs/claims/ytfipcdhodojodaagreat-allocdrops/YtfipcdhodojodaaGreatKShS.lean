/- Contracts: all that is retired; which ops these are; the limit, by the program and by the document. -/
import Derived.Test.YtfipcdhodojodaaGreatMS2
import Derived.Test.YtfipcdhodojodaaGreatKWal
import Derived.Test.YtfipcdhodojodaaGreatKNew
import Derived.Test.YtfipcdhodojodaaGreatKScD
namespace Go.Proofs.YtfipcdhodojodaaGreat
open Go.RowKit
set_option maxRecDepth 100000
set_option maxHeartbeats 4000000
set_option linter.unusedVariables false
set_option linter.unusedSimpArgs false
def RetL (w:World) (l:List Int) (e:Ending) (w':World):Prop:=∃ (A':Option Addr) (c':Nat),e = .returned (.slice A' l.length c')∧Row w' A' l∧Below w.heap.size w w'
def pOwn6 (op:Int):Bool:=op == 1 || op == 2 || (op == 3 || op == 4) || (op == 5 || op == 6)
theorem own6_0 (op:Int) (w:World) (h0:(op == 1 || op == 2) = true):Calls Tryz.prog 35 #[.int .i64 op] w fun e w'=>e = .returned (.bool true)∧Below w.heap.size w w':=by
 have HO0:=hid h0
 clear h0
 go_enter Tryz.func35,Tryz.ntmps35
 go_wp2_with (go_at_call 51;(with_reducible refine (whose_0 op _ HO0.out).mono ?_);rintro e w4 ⟨rfl,hk⟩)
 go_ret
 exact ⟨rfl,bstep hk (boxed _ _)⟩
theorem own6_1 (op:Int) (w:World) (h0:(op == 1 || op == 2) = false) (h1:(op == 3 || op == 4) = true):Calls Tryz.prog 35 #[.int .i64 op] w fun e w'=>e = .returned (.bool true)∧Below w.heap.size w w':=by
 have HO0:=hid h0
 clear h0
 have HO1:=hid h1
 clear h1
 go_enter Tryz.func35,Tryz.ntmps35
 go_wp2_with (go_at_call 51;(with_reducible refine (whose_1 op _ HO0.out HO1.out).mono ?_);rintro e w4 ⟨rfl,hk⟩)
 go_ret
 exact ⟨rfl,bstep hk (boxed _ _)⟩
theorem own6_2 (op:Int) (w:World) (h0:(op == 1 || op == 2) = false) (h1:(op == 3 || op == 4) = false) (h2:(op == 5 || op == 6) = true):Calls Tryz.prog 35 #[.int .i64 op] w fun e w'=>e = .returned (.bool true)∧Below w.heap.size w w':=by
 have HO0:=hid h0
 clear h0
 have HO1:=hid h1
 clear h1
 have HO2:=hid h2
 clear h2
 go_enter Tryz.func35,Tryz.ntmps35
 go_wp2_with (go_at_call 51;(with_reducible refine (whose_2 op _ HO0.out HO1.out HO2.out).mono ?_);rintro e w4 ⟨rfl,hk⟩)
 go_ret
 exact ⟨rfl,bstep hk (boxed _ _)⟩
theorem own6_3 (op:Int) (w:World) (h0:(op == 1 || op == 2) = false) (h1:(op == 3 || op == 4) = false) (h2:(op == 5 || op == 6) = false):Calls Tryz.prog 35 #[.int .i64 op] w fun e w'=>e = .returned (.bool false)∧Below w.heap.size w w':=by
 have HO0:=hid h0
 clear h0
 have HO1:=hid h1
 clear h1
 have HO2:=hid h2
 clear h2
 go_enter Tryz.func35,Tryz.ntmps35
 go_wp2_with (go_at_call 51;(with_reducible refine (whose_3 op _ HO0.out HO1.out HO2.out).mono ?_);rintro e w4 ⟨rfl,hk⟩)
 go_ret
 exact ⟨rfl,bstep hk (boxed _ _)⟩
theorem own6_any (op:Int) (w:World):Calls Tryz.prog 35 #[.int .i64 op] w fun e w'=>e = .returned (.bool (pOwn6 op))∧Below w.heap.size w w':=by
 rcases Bool.eq_false_or_eq_true (op == 1 || op == 2) with h0 | h0
 ·have e:pOwn6 op = true:=by unfold pOwn6;rw [h0];rfl
  rw [e];exact own6_0 op w h0
 ·rcases Bool.eq_false_or_eq_true (op == 3 || op == 4) with h1 | h1
  ·have e:pOwn6 op = true:=by unfold pOwn6;rw [h0,h1];rfl
   rw [e];exact own6_1 op w h0 h1
  ·rcases Bool.eq_false_or_eq_true (op == 5 || op == 6) with h2 | h2
   ·have e:pOwn6 op = true:=by unfold pOwn6;rw [h0,h1,h2];rfl
    rw [e];exact own6_2 op w h0 h1 h2
   ·have e:pOwn6 op = false:=by unfold pOwn6;rw [h0,h1,h2];rfl
    rw [e];exact own6_3 op w h0 h1 h2
def sy1 (s:Sy):Sy:=⟨⟨s.M.W,s.M.G.set 1 1,s.M.bad⟩,s.C,s.L⟩
end Go.Proofs.YtfipcdhodojodaaGreat
