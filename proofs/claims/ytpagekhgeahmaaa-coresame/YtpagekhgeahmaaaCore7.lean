/- Contract of the document's answer for layer 3: few and right. -/
import Derived.Test.YtpagekhgeahmaaaCore3
namespace Go.Proofs.Ytpagekhgeahmaaa
open Go.RowKit
set_option linter.unusedVariables false
set_option linter.unusedSimpArgs false

def syMays (s : Sy) : Bool := sySmall s && syRight s

/-- What few says of a system. -/
theorem sySmall_few {s : Sy} (h : sySmall s = true) : s.M.G.length ≤ 61 ∧ s.M.W.length ≤ 368 ∧ s.C.length ≤ 9 ∧ s.L.length ≤ 200 ∧ (∀ x ∈ s.C, x.F.length ≤ 45 ∧ x.ret.length ≤ 210 ∧ ∀ f ∈ x.F, f.S.length ≤ 30) := by
  simp only [sySmall, mSmall, coSmall, frSmall, Bool.and_eq_true, decide_eq_true_eq, List.all_eq_true] at h
  obtain ⟨⟨⟨h1, h2⟩, h3⟩, h4⟩ := h
  exact ⟨by omega, by omega, h2, h3, fun x hx => ⟨(h4 x hx).1.1, (h4 x hx).1.2, (h4 x hx).2⟩⟩

set_option maxHeartbeats 4000000 in
theorem rmay3_any (A B AC AL : Option Addr) (c d cC cL : Nat) (s : Sy) (w : World) (hG : Row w B s.M.G) (hC : RowC w AC s.C) (h0 : s.M.G.length ≤ maxLen) (h1 : s.M.W.length ≤ maxLen) (h2 : s.C.length ≤ maxLen) (h3 : s.L.length ≤ maxLen) :
    Calls Try.prog 26 #[.agg #[.slice A s.M.W.length c, .slice B s.M.G.length d, .bool s.M.bad, .slice AC s.C.length cC, .slice AL s.L.length cL], .int .i64 60] w fun e w' => e = .returned (.bool (syMays s)) ∧ Below w.heap.size w w' := by
  have hm : syMays s = (sySmall s && syRight s) := rfl
  cases q : sySmall s
  · rw [q] at hm
    have HM := hid hm
    clear hm
    go_enter Try.func26, Try.ntmps26
    go_wp2_with (go_at_call 16; refine (rsmall_any _ _ _ _ _ _ _ _ s _ (hC.step (boxed w _)) h0 h1 h2 h3).mono ?_; rintro e wk ⟨rfl, hk⟩)
    go_ret
    exact ⟨ret_bool HM.out.symm, bstep (boxed _ _) hk⟩
  · obtain ⟨q1, q2, q3, q4, q5⟩ := sySmall_few q
    have Q5 := hid (fun x hx => Nat.le_trans (q5 x hx).1 (by decide) : ∀ x ∈ s.C, x.F.length ≤ 1000000)
    rw [q] at hm
    have HM := hid hm
    clear hm q5
    go_enter Try.func26, Try.ntmps26
    go_wp2_with (first
      | (go_at_call 16; refine (rsmall_any _ _ _ _ _ _ _ _ s _ (hC.step (boxed w _)) h0 h1 h2 h3).mono ?_; rintro e wk ⟨rfl, hk⟩; obtain ⟨gc, gf⟩ := bcell hk; have hz : w.heap.size < wk.heap.size := (by have := hk.size; simp at this; omega))
      | (go_at_call 19; refine (rright3_any _ _ _ _ _ _ _ _ s _ ((hG.alloc _).step hk) ((hC.step (boxed w _)).step hk) (by omega) (by omega) (by omega) Q5.out).mono ?_; rintro e wl ⟨rfl, hl⟩))
    go_ret
    exact ⟨ret_bool (by rw [HM.out]; rfl), bstep (boxed _ _) (bstep hk hl)⟩
end Go.Proofs.Ytpagekhgeahmaaa
