/- Contracts: right arenas, nodes of places, counts. -/
import Derived.Test.YtbpkndjnohdnjaaMem1
namespace Go.Proofs.Ytbpkndjnohdnjaa
open Go.RowKit
set_option linter.unusedVariables false

set_option maxHeartbeats 1000000 in
theorem rright_any (A A' : Option Addr) (c c' : Nat) (m : Ar) (w : World) (hr : Row w A' m.G) (h0 : m.G.length ≤ 1000000000) (h1 : m.W.length ≤ 1000000000) :
    Calls Try.prog 15 #[.agg #[.slice A m.W.length c, .slice A' m.G.length c', .bool m.bad]] w fun e w' => e = .returned (.bool (mRight m)) ∧ Below w.heap.size w w' := by
  by_cases q : 2 ≤ m.G.length ∧ m.G.length ≤ 201 ∧ m.W.length + 4 = 128 + 4 * m.G.length
  · obtain ⟨q1, q2, q3⟩ := q
    have Q3 := hid q3
    have t3 : ((m.W.length : Int) != 128 + 4 * ((m.G.length : Int) - 1)) = false := by simp; omega
    clear q3
    obtain ⟨b1, o1, x0, rfl, hlt0, X0, hc0⟩ := hr.atX 0 (by omega)
    have hc0' : w.cell? ⟨b1, o1, none⟩ = some (.int .i64 x0) := hc0
    cases t0 : (x0 != 0)
    · go_enter Try.func15, Try.ntmps15
      go_wp2
      clear hc0 hc0'
      go_loop [4] (fun i => ∃ k : Nat, k ≤ m.G.length ∧ i = .int .i64 k ∧ Hid (∀ j, j < k → 0 ≤ m.G.getD j 0 ∧ m.G.getD j 0 ≤ 2)) (fun i => m.G.length - (intOf i).toNat)
      case atStart => exact ⟨0, Nat.zero_le _, rfl, fun j hj => absurd hj (by omega)⟩
      case round =>
        obtain ⟨k, hk, rfl, HT⟩ := hrel
        by_cases hlt : k < m.G.length
        · obtain ⟨x, X, hc⟩ := hr.atY k hlt
          by_cases hx : 0 ≤ x ∧ x ≤ 2
          · obtain ⟨x1, x2⟩ := hx
            have HT' : Hid (∀ j, j < k + 1 → 0 ≤ m.G.getD j 0 ∧ m.G.getD j 0 ≤ 2) := fun j hj => by
              by_cases e : j = k
              · subst e; rw [X.out]; exact ⟨x1, x2⟩
              · exact HT.out j (by omega)
            go_wp2
            go_round
            case rel => exact ⟨k + 1, by omega, by go_num, HT'⟩
            case measure => simp [intOf]; omega
          · have hx' : x < 0 ∨ 2 < x := by omega
            clear hx
            rcases hx' with hx | hx
            all_goals
              go_wp2
              go_ret
              exact ⟨ret_bool (mRight_no k hlt (by rw [X.out]; omega)).symm, boxed _ _⟩
        · go_wp2
          go_ret
          exact ⟨ret_bool (mRight_yes q1 q2 Q3.out (by rw [X0.out]; simpa using t0) (fun j hj => HT.out j (by omega))).symm, boxed _ _⟩
    · go_enter Try.func15, Try.ntmps15
      go_wp2
      go_ret
      exact ⟨ret_bool (mRight_first (by rw [X0.out]; simpa using t0)).symm, boxed _ _⟩
  · have q' : m.G.length < 2 ∨ (2 ≤ m.G.length ∧ 201 < m.G.length) ∨ (2 ≤ m.G.length ∧ m.G.length ≤ 201 ∧ m.W.length + 4 ≠ 128 + 4 * m.G.length) := by omega
    clear q
    rcases q' with q | ⟨q1, q2⟩ | ⟨q1, q2, q3⟩
    · go_enter Try.func15, Try.ntmps15
      go_wp2
      go_ret
      exact ⟨ret_bool (mRight_head (by omega)).symm, boxed _ _⟩
    · go_enter Try.func15, Try.ntmps15
      go_wp2
      go_ret
      exact ⟨ret_bool (mRight_head (by omega)).symm, boxed _ _⟩
    · have Q3 := hid q3
      have t3 : ((m.W.length : Int) != 128 + 4 * ((m.G.length : Int) - 1)) = true := by simp; omega
      clear q3
      go_enter Try.func15, Try.ntmps15
      go_wp2
      go_ret
      exact ⟨ret_bool (mRight_head (.inr (.inr Q3.out))).symm, boxed _ _⟩
end Go.Proofs.Ytbpkndjnohdnjaa
