/- Contracts of the program's layer 2 that later layers ask: nodes, rows and arenas that are the same, right arenas. -/
import Derived.Test.YtpagekhgeahmaaaRefMem
namespace Go.Proofs.Ytpagekhgeahmaaa
open Go.RowKit
set_option linter.unusedVariables false
set_option linter.unusedSimpArgs false

theorem nodes_any (A A' : Option Addr) (n n' c c' : Nat) (b : Bool) (w : World) (hn : n' ≤ 1000000000) :
    Calls Try.prog 89 #[.agg #[.slice A n c, .slice A' n' c', .bool b]] w fun e w' => e = .returned (.int .i64 ((n' : Int) - 1)) ∧ Below w.heap.size w w' := by
  go_enter Try.func89, Try.ntmps89
  go_wp2
  go_ret
  exact ⟨rfl, boxed _ _⟩

set_option maxHeartbeats 1000000 in
theorem equal_any (A B : Option Addr) (c d : Nat) (xs ys : List Int) (w : World) (ha : Row w A xs) (hb : Row w B ys) (h0 : xs.length ≤ 1000000000) :
    Calls Try.prog 93 #[.slice A xs.length c, .slice B ys.length d] w fun e w' => e = .returned (.bool (mInts xs ys)) ∧ Below w.heap.size w w' := by
  by_cases hl : xs.length = ys.length
  · have HL := hid hl
    have hl1 : xs.length ≤ ys.length := by omega
    have hl2 : ys.length ≤ xs.length := by omega
    have hl3 : ((xs.length : Int) != (ys.length : Int)) = false := by simp [hl]
    clear hl
    go_enter Try.func93, Try.ntmps93
    go_wp2
    go_loopw [13] (fun i wr => ∃ (k nq : Nat), k ≤ xs.length ∧ i = .int .i64 k ∧ Hid (xs.take k = ys.take k) ∧ wr = w.drewN nq) (fun i _ => xs.length - (intOf i).toNat)
    case atStart => exact ⟨0, 0, Nat.zero_le _, rfl, hid rfl, rfl⟩
    case round =>
      obtain ⟨k, nq, hk, rfl, HT, rfl⟩ := hrel
      by_cases hlt : k < xs.length
      · obtain ⟨b1, o1, rfl, hb1, hc⟩ := ha.atE k hlt
        obtain ⟨b2, o2, rfl, hb2, hd⟩ := hb.atE k (by omega)
        go_wp2
        go_quiet (fail)
        go_wp2
        · go_ret
          have hne : (xs[k] != ys[k]) = true := by assumption
          exact ⟨ret_bool (mInts_at k hlt (by omega) (by simpa using hne)).symm, bdrewN (bdrewN (Below.refl _ _) _) _⟩
        · have hne : (xs[k] != ys[k]) = false := by assumption
          have HT' : Hid (xs.take (k + 1) = ys.take (k + 1)) := take_more k hlt (by omega) (by simpa using hne) HT.out
          clear hne
          go_roundw
          case rel => exact ⟨k + 1, _, by omega, by go_num, HT', rfl⟩
          case measure => simp [intOf]; omega
      · go_wp2
        go_ret
        obtain rfl : k = xs.length := by omega
        exact ⟨ret_bool (mInts_all HL.out HT.out).symm, bdrewN (Below.refl _ _) _⟩
  · have HL := hid hl
    have hl3 : ((xs.length : Int) != (ys.length : Int)) = true := by simp; omega
    clear hl
    go_enter Try.func93, Try.ntmps93
    go_wp2
    go_ret
    exact ⟨ret_bool (mInts_len HL.out).symm, Below.refl _ _⟩

theorem same_any (A A' B B' : Option Addr) (c c' d d' : Nat) (a b : Ar) (w : World) (h1 : Row w A a.W) (h2 : Row w A' a.G) (h3 : Row w B b.W) (h4 : Row w B' b.G) (h5 : a.W.length ≤ 1000000000) (h6 : a.G.length ≤ 1000000000) :
    Calls Try.prog 62 #[.agg #[.slice A a.W.length c, .slice A' a.G.length c', .bool a.bad], .agg #[.slice B b.W.length d, .slice B' b.G.length d', .bool b.bad]] w fun e w' => e = .returned (.bool (mSame a b)) ∧ Below w.heap.size w w' := by
  have hs : mSame a b = (mInts a.W b.W && mInts a.G b.G && (a.bad == b.bad)) := rfl
  cases q0 : (a.bad == b.bad)
  · rw [q0] at hs
    simp only [Bool.and_false] at hs
    have HS := hid hs
    clear hs
    go_enter Try.func62, Try.ntmps62
    go_wp2
    go_ret
    exact ⟨ret_bool HS.out.symm, bstep (boxed _ _) (boxed _ _)⟩
  · cases q1 : mInts a.W b.W
    · rw [q1] at hs
      simp only [Bool.false_and] at hs
      have HS := hid hs
      clear hs
      go_enter Try.func62, Try.ntmps62
      go_wp2_with (go_at_call 93; (with_reducible refine (equal_any _ _ _ _ a.W b.W _ ((h1.alloc _).alloc _) ((h3.alloc _).alloc _) h5).mono ?_); rintro e wk ⟨rfl, hk⟩)
      go_ret
      exact ⟨ret_bool HS.out.symm, bstep (bstep (boxed _ _) (boxed _ _)) hk⟩
    · rw [q0, q1] at hs
      simp only [Bool.true_and, Bool.and_true] at hs
      have HS := hid hs
      clear hs
      go_enter Try.func62, Try.ntmps62
      go_wp2_with (first
        | (go_at_call 93; (with_reducible refine (equal_any _ _ _ _ a.W b.W _ ((h1.alloc _).alloc _) ((h3.alloc _).alloc _) h5).mono ?_); rintro e wk ⟨rfl, hk⟩; obtain ⟨gc, gf⟩ := bcell hk; have hz : w.heap.size + 1 < wk.heap.size := (by have := hk.size; simp at this; omega); have hz0 : w.heap.size < wk.heap.size := by omega)
        | (go_at_call 93; (with_reducible refine (equal_any _ _ _ _ a.G b.G _ (((h2.alloc _).alloc _).step hk) (((h4.alloc _).alloc _).step hk) h6).mono ?_); rintro e wl ⟨rfl, hl⟩))
      go_ret
      exact ⟨ret_bool HS.out.symm, bstep (bstep (boxed _ _) (boxed _ _)) (bstep hk hl)⟩

set_option maxHeartbeats 1000000 in
theorem right_any (A A' : Option Addr) (c c' : Nat) (m : Ar) (w : World) (hr : Row w A' m.G) (h0 : m.G.length ≤ 1000000000) (h1 : m.W.length ≤ 1000000000) :
    Calls Try.prog 59 #[.agg #[.slice A m.W.length c, .slice A' m.G.length c', .bool m.bad]] w fun e w' => e = .returned (.bool (mRight m)) ∧ Below w.heap.size w w' := by
  by_cases q : 2 ≤ m.G.length ∧ m.G.length ≤ 201 ∧ m.W.length + 4 = 128 + 4 * m.G.length
  · obtain ⟨q1, q2, q3⟩ := q
    have Q3 := hid q3
    have t3 : ((m.W.length : Int) != 128 + 4 * ((m.G.length : Int) - 1)) = false := by simp; omega
    clear q3
    obtain ⟨b1, o1, x0, rfl, hlt0, X0, hc0⟩ := hr.atX 0 (by omega)
    have hc0' : w.cell? ⟨b1, o1, none⟩ = some (.int .i64 x0) := hc0
    cases t0 : (x0 != 0)
    · go_enter Try.func59, Try.ntmps59
      go_wp2_with (go_at_call 89; refine (nodes_any _ _ _ _ _ _ _ _ h0).mono ?_; rintro e wk ⟨rfl, hk⟩; obtain ⟨gc, gf⟩ := bcell hk; have hz : w.heap.size < wk.heap.size := (by have := hk.size; simp at this; omega))
      clear hc0 hc0' gc gf
      go_loop [33] (fun i => ∃ k : Nat, k ≤ m.G.length ∧ i = .int .i64 k ∧ Hid (∀ j, j < k → 0 ≤ m.G.getD j 0 ∧ m.G.getD j 0 ≤ 2)) (fun i => m.G.length - (intOf i).toNat)
      case atStart => exact ⟨0, Nat.zero_le _, rfl, fun j hj => absurd hj (by omega)⟩
      case round =>
        obtain ⟨k, hkk, rfl, HT⟩ := hrel
        by_cases hlt : k < m.G.length
        · obtain ⟨x, X, hc⟩ := ((hr.alloc _).step hk).atY k hlt
          by_cases hx : 0 ≤ x ∧ x ≤ 2
          · obtain ⟨x1, x2⟩ := hx
            have HT' : Hid (∀ j, j < k + 1 → 0 ≤ m.G.getD j 0 ∧ m.G.getD j 0 ≤ 2) := fun j hj => by
              by_cases e : j = k
              · subst e; rw [X.out]; exact ⟨x1, x2⟩
              · exact HT.out j (by omega)
            go_wp2
            go_round
            case rel => exact ⟨k + 1, by omega, by go_num, HT'⟩
            case measure => simp [intOf]; omega
          · have hx' : x < 0 ∨ 2 < x := by omega
            clear hx
            rcases hx' with hx | hx
            all_goals
              go_wp2
              go_ret
              exact ⟨ret_bool (mRight_no k hlt (by rw [X.out]; omega)).symm, bstep (boxed _ _) hk⟩
        · go_wp2
          go_ret
          exact ⟨ret_bool (mRight_yes q1 q2 Q3.out (by rw [X0.out]; simpa using t0) (fun j hj => HT.out j (by omega))).symm, bstep (boxed _ _) hk⟩
    · go_enter Try.func59, Try.ntmps59
      go_wp2_with (go_at_call 89; refine (nodes_any _ _ _ _ _ _ _ _ h0).mono ?_; rintro e wk ⟨rfl, hk⟩; obtain ⟨gc, gf⟩ := bcell hk; have hz : w.heap.size < wk.heap.size := (by have := hk.size; simp at this; omega))
      go_ret
      exact ⟨ret_bool (mRight_first (by rw [X0.out]; simpa using t0)).symm, bstep (boxed _ _) hk⟩
  · have q' : m.G.length < 2 ∨ (2 ≤ m.G.length ∧ 201 < m.G.length) ∨ (2 ≤ m.G.length ∧ m.G.length ≤ 201 ∧ m.W.length + 4 ≠ 128 + 4 * m.G.length) := by omega
    clear q
    rcases q' with q | ⟨q1, q2⟩ | ⟨q1, q2, q3⟩
    · go_enter Try.func59, Try.ntmps59
      go_wp2_with (go_at_call 89; refine (nodes_any _ _ _ _ _ _ _ _ h0).mono ?_; rintro e wk ⟨rfl, hk⟩; obtain ⟨gc, gf⟩ := bcell hk; have hz : w.heap.size < wk.heap.size := (by have := hk.size; simp at this; omega))
      go_ret
      exact ⟨ret_bool (mRight_head (by omega)).symm, bstep (boxed _ _) hk⟩
    · go_enter Try.func59, Try.ntmps59
      go_wp2_with (go_at_call 89; refine (nodes_any _ _ _ _ _ _ _ _ h0).mono ?_; rintro e wk ⟨rfl, hk⟩; obtain ⟨gc, gf⟩ := bcell hk; have hz : w.heap.size < wk.heap.size := (by have := hk.size; simp at this; omega))
      go_ret
      exact ⟨ret_bool (mRight_head (by omega)).symm, bstep (boxed _ _) hk⟩
    · have Q3 := hid q3
      have t3 : ((m.W.length : Int) != 128 + 4 * ((m.G.length : Int) - 1)) = true := by simp; omega
      clear q3
      go_enter Try.func59, Try.ntmps59
      go_wp2_with (go_at_call 89; refine (nodes_any _ _ _ _ _ _ _ _ h0).mono ?_; rintro e wk ⟨rfl, hk⟩; obtain ⟨gc, gf⟩ := bcell hk; have hz : w.heap.size < wk.heap.size := (by have := hk.size; simp at this; omega))
      go_ret
      exact ⟨ret_bool (mRight_head (.inr (.inr Q3.out))).symm, bstep (boxed _ _) hk⟩
end Go.Proofs.Ytpagekhgeahmaaa
