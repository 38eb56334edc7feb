/- Contracts: nodes of places, counts, what may be turned, what is right and small. -/
import Derived.Test.YtbpkndjnohdnjaaMem3
namespace Go.Proofs.Ytbpkndjnohdnjaa
open Go.RowKit
set_option linter.unusedVariables false

theorem may_any (A A' : Option Addr) (c c' : Nat) (m : Ar) (w : World) (hr : Row w A' m.G) (h0 : m.G.length ≤ maxLen) (h1 : m.W.length ≤ maxLen) :
    Calls Try.prog 25 #[.agg #[.slice A m.W.length c, .slice A' m.G.length c', .bool m.bad], .int .i64 60] w fun e w' => e = .returned (.bool (mMays m)) ∧ Below w.heap.size w w' := by
  have hm : mMays m = (mSmall m && mRight m) := rfl
  cases q : mSmall m
  · rw [q] at hm
    have HM := hid hm
    clear hm
    go_enter Try.func25, Try.ntmps25
    go_wp2_with (go_at_call 12; refine (small_any _ _ _ _ m _ h0 h1).mono ?_; rintro e wk ⟨rfl, hk⟩)
    go_ret
    exact ⟨ret_bool HM.out.symm, bstep (boxed _ _) hk⟩
  · have q2 : m.G.length ≤ 61 ∧ m.W.length ≤ 368 := by simpa [mSmall] using q
    rw [q] at hm
    have HM := hid hm
    clear hm
    go_enter Try.func25, Try.ntmps25
    go_wp2_with (first
      | (go_at_call 12; refine (small_any _ _ _ _ m _ h0 h1).mono ?_; rintro e wk ⟨rfl, hk⟩; obtain ⟨gc, gf⟩ := bcell hk; have hz : w.heap.size < wk.heap.size := (by have := hk.size; simp at this; omega))
      | (go_at_call 15; refine (rright_any _ _ _ _ m _ ((hr.alloc _).step hk) (by omega) (by omega)).mono ?_; rintro e wl ⟨rfl, hl⟩))
    go_ret
    exact ⟨ret_bool (by rw [HM.out]; rfl), bstep (boxed _ _) (bstep hk hl)⟩

theorem mayTurn_any (a b : Int) (w : World) :
    Calls Try.prog 43 #[.int .i64 a, .int .i64 b] w fun e w' => e = .returned (.bool (mMay a b)) ∧ w = w' := by
  go_enter Try.func43, Try.ntmps43
  go_wp2
  all_goals
    go_ret
    exact ⟨ret_bool (by simp_all [mMay]), rfl⟩

theorem node_any (A A' : Option Addr) (c c' : Nat) (m : Ar) (p : Int) (w : World) (h0 : m.G.length ≤ 1000000000) (h2 : 2 ≤ m.G.length) (hp : -9223372036854775808 ≤ p) (hq : p ≤ 9223372036854775807) :
    Calls Try.prog 21 #[.agg #[.slice A m.W.length c, .slice A' m.G.length c', .bool m.bad], .int .i64 p] w fun e w' => e = .returned (.int .i64 (mNode m.G p)) ∧ Below w.heap.size w w' := by
  by_cases q1 : p < 128
  · go_enter Try.func21, Try.ntmps21
    go_wp2
    go_ret
    exact ⟨ret_int (by unfold mNode; rw [if_neg (by omega)]), boxed _ _⟩
  · have q2 : 128 ≤ p := by omega
    clear q1
    have hm : mNode m.G p = if (1 + (p - 128) / 4 ≤ (m.G.length : Int) - 1) ∧ ((p - 128) % 4 == 0) = false then 1 + (p - 128) / 4 else 0 := by
      unfold mNode
      simp only [beq_eq_false_iff_ne, ne_eq]
      split <;> split <;> omega
    have HM := hid hm
    clear hm
    cases t : ((p - 128) % 4 == 0)
    all_goals by_cases q3 : 1 + (p - 128) / 4 ≤ (m.G.length : Int) - 1
    all_goals
      go_enter Try.func21, Try.ntmps21
      go_wp2_with (go_at_call 35; refine (nodes_any _ _ _ _ _ _ _ _ h0).mono ?_; rintro e wk ⟨rfl, hk⟩)
      go_ret
      exact ⟨ret_int (by rw [HM.out]; simp [t, q3] <;> omega), bstep (boxed _ _) hk⟩

set_option maxHeartbeats 1000000 in
theorem count_any (A A' : Option Addr) (c c' : Nat) (m : Ar) (what : Int) (w : World) (hr : Row w A' m.G) (h0 : m.G.length ≤ 1000000000) :
    Calls Try.prog 23 #[.agg #[.slice A m.W.length c, .slice A' m.G.length c', .bool m.bad], .int .i64 what] w fun e w' => e = .returned (.int .i64 (mCount m.G what)) ∧ Below w.heap.size w w' := by
  go_enter Try.func23, Try.ntmps23
  go_wp2
  go_loop [5, 11] (fun n i => ∃ k : Nat, k ≤ m.G.length ∧ i = .int .i64 k ∧ n = .int .i64 (mCountTo m.G what k)) (fun _ i => m.G.length - (intOf i).toNat)
  case atStart => exact ⟨0, Nat.zero_le _, rfl, by rw [mCountTo_0]; rfl⟩
  case round =>
    obtain ⟨k, hk, rfl, rfl⟩ := hrel
    have hle := mCountTo_le m.G what k
    by_cases hlt : k < m.G.length
    · obtain ⟨b1, o1, x, rfl, hl1, X, hc⟩ := hr.atX k hlt
      by_cases h1 : 1 ≤ k
      · have HS := hid (mCountTo_succ m.G what k hlt h1)
        cases t : (x == what)
        · go_wp2
          go_round
          case rel => exact ⟨k + 1, by omega, by go_num, by rw [HS.out, X.out, if_neg (by simpa using t)]; rfl⟩
          case measure => simp [intOf]; omega
        · go_wp2
          go_round
          case rel => exact ⟨k + 1, by omega, by go_num, by rw [HS.out, X.out, if_pos (by simpa using t)]; rfl⟩
          case measure => simp [intOf]; omega
      · obtain rfl : k = 0 := by omega
        have hc0 : w.cell? ⟨b1, o1, none⟩ = some (.int .i64 x) := hc
        go_wp2
        go_round
        case rel => exact ⟨1, by omega, by go_num, by rw [mCountTo_0, mCountTo_1]⟩
        case measure => simp [intOf]; omega
    · go_wp2
      go_ret
      exact ⟨ret_int (by rw [mCountTo_all _ _ _ (by omega)]), boxed _ _⟩

set_option maxHeartbeats 1000000 in
theorem rcount_any (A A' : Option Addr) (c c' : Nat) (m : Ar) (what : Int) (w : World) (hr : Row w A' m.G) (h0 : m.G.length ≤ 1000000000) (h2 : 1 ≤ m.G.length) :
    Calls Try.prog 24 #[.agg #[.slice A m.W.length c, .slice A' m.G.length c', .bool m.bad], .int .i64 what] w fun e w' => e = .returned (.int .i64 (mCount m.G what)) ∧ Below w.heap.size w w' := by
  go_enter Try.func24, Try.ntmps24
  go_wp2
  go_loop [5, 6] (fun n i => ∃ k : Nat, 1 ≤ k ∧ k ≤ m.G.length ∧ i = .int .i64 k ∧ n = .int .i64 (mCountTo m.G what k)) (fun _ i => m.G.length - (intOf i).toNat)
  case atStart => exact ⟨1, Nat.le_refl _, h2, rfl, by rw [mCountTo_1]; rfl⟩
  case round =>
    obtain ⟨k, h1, hk, rfl, rfl⟩ := hrel
    have hle := mCountTo_le m.G what k
    by_cases hlt : k < m.G.length
    · obtain ⟨b1, o1, x, rfl, hl1, X, hc⟩ := hr.atX k hlt
      have HS := hid (mCountTo_succ m.G what k hlt h1)
      cases t : (x == what)
      · go_wp2
        go_round
        case rel => exact ⟨k + 1, by omega, by omega, by go_num, by rw [HS.out, X.out, if_neg (by simpa using t)]; rfl⟩
        case measure => simp [intOf]; omega
      · go_wp2
        go_round
        case rel => exact ⟨k + 1, by omega, by omega, by go_num, by rw [HS.out, X.out, if_pos (by simpa using t)]; rfl⟩
        case measure => simp [intOf]; omega
    · go_wp2
      go_ret
      exact ⟨ret_int (by rw [mCountTo_all _ _ _ (by omega)]), boxed _ _⟩

set_option maxHeartbeats 1000000 in
theorem rnode_any (A A' : Option Addr) (c c' : Nat) (m : Ar) (p : Int) (w : World) (h0 : m.G.length ≤ 1000000000) (h2 : 1 ≤ m.G.length) :
    Calls Try.prog 22 #[.agg #[.slice A m.W.length c, .slice A' m.G.length c', .bool m.bad], .int .i64 p] w fun e w' => e = .returned (.int .i64 (mNode m.G p)) ∧ Below w.heap.size w w' := by
  have MC := hid (mNode_cases m.G p)
  go_enter Try.func22, Try.ntmps22
  go_wp2
  go_loop [5] (fun i => ∃ k : Nat, 1 ≤ k ∧ k ≤ m.G.length ∧ i = .int .i64 k ∧ Hid (mNode m.G p = 0 ∨ (k : Int) ≤ mNode m.G p)) (fun i => m.G.length - (intOf i).toNat)
  case atStart =>
    refine ⟨1, Nat.le_refl _, h2, rfl, ?_⟩
    have := MC.out
    show _ ∨ _
    omega
  case round =>
    obtain ⟨k, h1, hk, rfl, HR⟩ := hrel
    by_cases hlt : k < m.G.length
    · go_wp2
      go_loop [6] (fun i => ∃ j : Nat, 1 ≤ j ∧ j ≤ 4 ∧ i = .int .i64 j ∧ Hid (mNode m.G p = 0 ∨ (k : Int) < mNode m.G p ∨ (mNode m.G p = k ∧ (j : Int) ≤ (p - 128) % 4))) (fun i => 4 - (intOf i).toNat)
      case atStart =>
        refine ⟨1, Nat.le_refl _, by omega, rfl, ?_⟩
        have := MC.out
        have := HR.out
        show _ ∨ _
        omega
      case round =>
        obtain ⟨j, j1, j4, rfl, HJ⟩ := hrel
        by_cases hj : j < 4
        · cases t : ((124 + 4 * (k : Int) + j) == p)
          · go_wp2_with (go_at_call 20; refine (rat_any _ _ _ (by omega) (by omega) (by omega) (by omega)).mono ?_; rintro e w' ⟨rfl, rfl⟩)
            go_round
            case rel =>
              refine ⟨j + 1, by omega, by omega, by go_num, ?_⟩
              have := MC.out
              have := HJ.out
              have t' : ¬ 124 + 4 * (k : Int) + j = p := by simpa using t
              show _ ∨ _
              omega
            case measure => simp [intOf]; omega
          · go_wp2_with (go_at_call 20; refine (rat_any _ _ _ (by omega) (by omega) (by omega) (by omega)).mono ?_; rintro e w' ⟨rfl, rfl⟩)
            go_ret
            have t' : 124 + 4 * (k : Int) + j = p := by simpa using t
            exact ⟨ret_int (by rw [← t', mNode_is _ _ _ (by omega) (by omega) (by omega) (by omega)]), boxed _ _⟩
        · go_wp2
          go_round
          case rel =>
            refine ⟨k + 1, by omega, by omega, by go_num, ?_⟩
            have := MC.out
            have := HJ.out
            show _ ∨ _
            omega
          case measure => simp [intOf]; omega
    · go_wp2
      go_ret
      refine ⟨ret_int ?_, boxed _ _⟩
      have := MC.out
      have := HR.out
      omega
end Go.Proofs.Ytbpkndjnohdnjaa
