/- Contracts: is there a core, a frame; the last frame's place. -/
import Derived.Test.YtpagekhgeahmaaaChecked
import Derived.Test.YtpagekhgeahmaaaSys
namespace Go.Proofs.Ytpagekhgeahmaaa
open Go.RowKit
set_option linter.unusedVariables false
set_option linter.unusedSimpArgs false

def syHas (s : Sy) (i : Int) : Bool := decide (0 ≤ i) && decide (i < (s.C.length : Int))

theorem hasCore_any (A B AC AL : Option Addr) (c d cC cL : Nat) (s : Sy) (i : Int) (w : World) (h2 : s.C.length ≤ 1000000) :
    Calls Try.prog 70 #[.agg #[.slice A s.M.W.length c, .slice B s.M.G.length d, .bool s.M.bad, .slice AC s.C.length cC, .slice AL s.L.length cL], .int .i64 i] w fun e w' => e = .returned (.bool (syHas s i)) ∧ Below w.heap.size w w' := by
  by_cases h : 0 ≤ i
  · go_enter Try.func70, Try.ntmps70
    go_wp2
    all_goals
      go_ret
      exact ⟨ret_bool (by rw [Bool.eq_iff_iff]; simp [syHas]; omega), boxed _ _⟩
  · go_enter Try.func70, Try.ntmps70
    go_wp2
    all_goals
      go_ret
      exact ⟨ret_bool (by rw [Bool.eq_iff_iff]; simp [syHas]; omega), boxed _ _⟩

theorem hasFrame_out (A B AC AL : Option Addr) (c d cC cL : Nat) (s : Sy) (i : Int) (w : World) (h2 : s.C.length ≤ 1000000) (hi : syHas s i = false) :
    Calls Try.prog 66 #[.agg #[.slice A s.M.W.length c, .slice B s.M.G.length d, .bool s.M.bad, .slice AC s.C.length cC, .slice AL s.L.length cL], .int .i64 i] w fun e w' => e = .returned (.bool false) ∧ Below w.heap.size w w' := by
  go_enter Try.func66, Try.ntmps66
  go_wp2_with (go_at_call 70; refine (hasCore_any _ _ _ _ _ _ _ _ s i _ h2).mono ?_; rintro e wk ⟨rfl, hk⟩)
  go_ret
  exact ⟨rfl, bstep (boxed _ _) hk⟩

set_option maxHeartbeats 1000000 in
theorem hasFrame_at (A B AC AL : Option Addr) (c d cC cL : Nat) (s : Sy) (k : Nat) (x : Co) (w : World) (hC : RowC w AC s.C) (h2 : s.C.length ≤ 1000000) (hx : s.C[k]? = some x) (h3 : x.F.length ≤ 1000000) :
    Calls Try.prog 66 #[.agg #[.slice A s.M.W.length c, .slice B s.M.G.length d, .bool s.M.bad, .slice AC s.C.length cC, .slice AL s.L.length cL], .int .i64 k] w fun e w' => e = .returned (.bool (decide (0 < x.F.length))) ∧ Below w.heap.size w w' := by
  have hlt : k < s.C.length := (List.getElem?_eq_some_iff.1 hx).1
  have hi : syHas s (k : Int) = true := by simp [syHas]; omega
  obtain ⟨b, o, rfl, hbl, hat⟩ := hC (by omega)
  obtain ⟨⟨AF, cF, c0, rF, _⟩, _⟩ := hat k x hx
  clear hat hx
  have kl : (k : Int) < (s.C.length : Int) := by omega
  go_enter Try.func66, Try.ntmps66
  go_wp2_with (go_at_call 70; refine (hasCore_any _ _ _ _ _ _ _ _ s _ _ h2).mono ?_; rintro e wk ⟨rfl, hk⟩; have m3 : wk.cell? ⟨w.heap.size, 3, none⟩ = some (.slice (some ⟨b, o, none⟩) s.C.length cC) := (by rw [hk.cell (by simp)]; simp [go_sem]); have d0 : wk.cell? ⟨b, o + k * 7, none⟩ = some (.slice AF x.F.length cF) := (by rw [(bstep (boxed _ _) hk).cell hbl]; exact c0))
  all_goals
    go_ret
    exact ⟨ret_bool (by first | rfl | (rw [Bool.eq_iff_iff]; simp; done) | (rw [Bool.eq_iff_iff]; simp; omega)), bstep (boxed _ _) hk⟩

set_option maxHeartbeats 1000000 in
theorem last_at (A B AC AL : Option Addr) (c d cC cL : Nat) (s : Sy) (k : Nat) (x : Co) (w : World) (hC : RowC w AC s.C) (h2 : s.C.length ≤ 1000000) (hx : s.C[k]? = some x) (h3 : x.F.length ≤ 1000000) :
    Calls Try.prog 68 #[.agg #[.slice A s.M.W.length c, .slice B s.M.G.length d, .bool s.M.bad, .slice AC s.C.length cC, .slice AL s.L.length cL], .int .i64 k] w fun e w' => e = .returned (.int .i64 ((x.F.length : Int) - 1)) ∧ Below w.heap.size w w' := by
  have hlt : k < s.C.length := (List.getElem?_eq_some_iff.1 hx).1
  obtain ⟨b, o, rfl, hbl, hat⟩ := hC (by omega)
  obtain ⟨⟨AF, cF, c0, rF, _⟩, _⟩ := hat k x hx
  clear hat hx
  have kl : (k : Int) < (s.C.length : Int) := by omega
  have hbn : b ≠ w.heap.size := by omega
  go_enter Try.func68, Try.ntmps68
  go_wp2
  go_ret
  exact ⟨rfl, boxed _ _⟩
end Go.Proofs.Ytpagekhgeahmaaa
