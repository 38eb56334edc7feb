/- The document's example for layer 1 holds, whatever the world. -/
import Derived.Test.YtbkiafdmhkeffaaRef1
namespace Go.Proofs.Ytbkiafdmhkeffaa
open Go.RowKit

theorem shown_any (w : World) : Calls Try.prog 11 #[] w fun e w' => e = .returned (.bool true) ∧ Below w.heap.size w w' := by
  have e1 : pWord 1 3 1 = 2097159 := by decide
  have e2 : pNext 2097159 5 0 = 4194314 := by decide
  have e3 : pIdx 2097159 = 3 := by decide
  have e4 : pMark 2097159 = 1 := by decide
  have e5 : pTag 2097159 = 1 := by decide
  have e6 : pRight 2097159 = true := by decide
  have e7 : pRight (-1) = false := by decide
  go_enter Try.func11, Try.ntmps11
  go_wp2_with (first
    | (go_at_call 12; refine (of_yes _ _ _ _ (by decide)).mono ?_; rintro e w' ⟨rfl, rfl⟩)
    | (go_at_call 22; refine (next_any _ _ _ _).mono ?_; rintro e w1 ⟨rfl, hb1⟩)
    | (go_at_call 16; refine (index_any _ _).mono ?_; rintro e w2 ⟨rfl, hb2⟩)
    | (go_at_call 18; refine (mark_any _ _).mono ?_; rintro e w3 ⟨rfl, hb3⟩)
    | (go_at_call 20; refine (tag_any _ _).mono ?_; rintro e w4 ⟨rfl, hb4⟩)
    | (go_at_call 14; refine (right_any _ _).mono ?_; rintro e w' ⟨rfl, rfl⟩))
  go_ret
  exact ⟨rfl, bstep hb1 (bstep hb2 (bstep hb3 hb4))⟩
end Go.Proofs.Ytbkiafdmhkeffaa
