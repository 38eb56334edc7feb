/- Contracts: what is touched, by the document. -/
import Derived.Test.YtbpkndjnohdnjaaMem8
namespace Go.Proofs.Ytbpkndjnohdnjaa
open Go.RowKit
set_option linter.unusedVariables false
set_option linter.unusedSimpArgs false

theorem mIn_no {W : List Int} {p : Int} (h : p < 0 ∨ (W.length : Int) ≤ p) : mIn W p = false := by unfold mIn; rw [decide_eq_false (by omega)]
theorem mIn_yes {W : List Int} {p : Int} (h1 : 0 ≤ p) (h2 : p < (W.length : Int)) : mIn W p = true := by unfold mIn; rw [decide_eq_true ⟨h1, h2⟩]
theorem mBad_no {m : Ar} {p : Int} (h : mIn m.W p = false) : mBad m p = true := by unfold mBad; simp [h]
theorem mBad_yes {m : Ar} {p : Int} (h : mIn m.W p = true) : mBad m p = (m.bad || (decide (0 < mNode m.G p) && m.G.getD (mNode m.G p).toNat 0 == 0)) := by unfold mBad; simp [h]

set_option maxHeartbeats 1000000 in
theorem bad_any (A A' : Option Addr) (c c' : Nat) (m : Ar) (p : Int) (w : World) (hG : Row w A' m.G) (h0 : m.W.length ≤ 1000000) (h1 : m.G.length ≤ 1000000) (h2 : 1 ≤ m.G.length) :
    Calls Try.prog 39 #[.agg #[.slice A m.W.length c, .slice A' m.G.length c', .bool m.bad], .int .i64 p] w fun e w' => e = .returned (.bool (mBad m p)) ∧ Below w.heap.size w w' := by
  by_cases q1 : p < 0
  · have T := hid (mBad_no (m := m) (mIn_no (.inl q1)))
    go_enter Try.func39, Try.ntmps39
    go_wp2
    go_ret
    exact ⟨ret_bool T.out.symm, boxed _ _⟩
  · have q2 : 0 ≤ p := by omega
    clear q1
    by_cases q3 : (m.W.length : Int) ≤ p
    · have T := hid (mBad_no (m := m) (mIn_no (.inr q3)))
      go_enter Try.func39, Try.ntmps39
      go_wp2
      go_ret
      exact ⟨ret_bool T.out.symm, boxed _ _⟩
    · have q4 : p < (m.W.length : Int) := by omega
      clear q3
      have hB := mBad_yes (m := m) (mIn_yes q2 q4)
      have hN := mNode_cases m.G p
      obtain ⟨n, hn⟩ : ∃ n, mNode m.G p = n := ⟨_, rfl⟩
      rw [hn] at hB hN
      have HN := hid hn
      clear hn
      cases hb : m.bad
      · rw [hb, Bool.false_or] at hB
        by_cases q5 : 0 < n
        · obtain ⟨k, rfl⟩ : ∃ k : Nat, n = k := ⟨n.toNat, by omega⟩
          have hkl : k < m.G.length := by omega
          obtain ⟨b1, o1, x, rfl, hb1, X, hc⟩ := hG.atX k hkl
          rw [Int.toNat_natCast, X.out, decide_eq_true q5, Bool.true_and] at hB
          have HB := hid hB
          clear hB hN
          go_enter Try.func39, Try.ntmps39
          go_wp2_with (go_at_call 22; refine (rnode_any _ _ _ _ ⟨m.W, m.G, false⟩ p _ (by simp; omega) h2).mono ?_; rintro e wk ⟨rfl, hk⟩; dsimp only at *; rw [HN.out]; obtain ⟨gc, gf⟩ := bcell hk; have hz : w.heap.size < wk.heap.size := (by have := hk.size; simp at this; omega); have hcl := Row.cellX ((hG.alloc _).step hk) k hkl X)
          go_ret
          exact ⟨ret_bool HB.out.symm, bstep (boxed _ _) hk⟩
        · rw [decide_eq_false q5, Bool.false_and] at hB
          have q6 : n ≤ 0 := by omega
          have HB := hid hB
          clear hB hN q5
          go_enter Try.func39, Try.ntmps39
          go_wp2_with (go_at_call 22; refine (rnode_any _ _ _ _ ⟨m.W, m.G, false⟩ p _ (by simp; omega) h2).mono ?_; rintro e wk ⟨rfl, hk⟩; dsimp only at *; rw [HN.out]; obtain ⟨gc, gf⟩ := bcell hk; have hz : w.heap.size < wk.heap.size := (by have := hk.size; simp at this; omega))
          go_ret
          exact ⟨ret_bool HB.out.symm, bstep (boxed _ _) hk⟩
      · rw [hb, Bool.true_or] at hB
        have HB := hid hB
        clear hB hN
        go_enter Try.func39, Try.ntmps39
        go_wp2_with (go_at_call 22; refine (rnode_any _ _ _ _ ⟨m.W, m.G, true⟩ p _ (by simp; omega) h2).mono ?_; rintro e wk ⟨rfl, hk⟩; obtain ⟨gc, gf⟩ := bcell hk; have hz : w.heap.size < wk.heap.size := (by have := hk.size; simp at this; omega))
        go_ret
        exact ⟨ret_bool HB.out.symm, bstep (boxed _ _) hk⟩
end Go.Proofs.Ytbpkndjnohdnjaa
