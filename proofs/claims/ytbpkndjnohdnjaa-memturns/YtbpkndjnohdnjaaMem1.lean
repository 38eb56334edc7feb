/- Contracts: places, how many nodes, small arenas, rows that are the same. -/
import Derived.Test.YtbpkndjnohdnjaaChecked
import Derived.Test.YtbpkndjnohdnjaaRow
import Derived.Test.YtbpkndjnohdnjaaArena
import Derived.Deep.QuietTactic
import Derived.BigQuiet
namespace Go.Proofs.Ytbpkndjnohdnjaa
open Go.RowKit

theorem at_any (i k : Int) (w : World) (h0 : -4611686018427387904 ≤ 4 * i + k) (h1 : 4 * i + k ≤ 4611686018427387904) (i0 : -1000000000000 ≤ i) (i1 : i ≤ 1000000000000) :
    Calls Try.prog 19 #[.int .i64 i, .int .i64 k] w fun e w' => e = .returned (.int .i64 (124 + 4 * i + k)) ∧ w = w' := by
  go_enter Try.func19, Try.ntmps19
  go_wp2
  go_ret
  exact ⟨ret_int (by omega), rfl⟩

theorem rat_any (i k : Int) (w : World) (h0 : -4611686018427387904 ≤ 4 * i + k) (h1 : 4 * i + k ≤ 4611686018427387904) (i0 : -1000000000000 ≤ i) (i1 : i ≤ 1000000000000) :
    Calls Try.prog 20 #[.int .i64 i, .int .i64 k] w fun e w' => e = .returned (.int .i64 (124 + 4 * i + k)) ∧ w = w' := by
  go_enter Try.func20, Try.ntmps20
  go_wp2
  go_ret
  exact ⟨ret_int (by omega), rfl⟩

theorem nodes_any (A A' : Option Addr) (n n' c c' : Nat) (b : Bool) (w : World) (hn : n' ≤ 1000000000) :
    Calls Try.prog 35 #[.agg #[.slice A n c, .slice A' n' c', .bool b]] w fun e w' => e = .returned (.int .i64 ((n' : Int) - 1)) ∧ Below w.heap.size w w' := by
  go_enter Try.func35, Try.ntmps35
  go_wp2
  go_ret
  exact ⟨rfl, boxed _ _⟩

theorem small_any (A A' : Option Addr) (c c' : Nat) (m : Ar) (w : World) (h0 : m.G.length ≤ maxLen) (h1 : m.W.length ≤ maxLen) :
    Calls Try.prog 12 #[.agg #[.slice A m.W.length c, .slice A' m.G.length c', .bool m.bad], .int .i64 60] w fun e w' => e = .returned (.bool (mSmall m)) ∧ Below w.heap.size w w' := by
  unfold maxLen at h0 h1
  go_enter Try.func12, Try.ntmps12
  go_wp2
  all_goals
    go_ret
    exact ⟨ret_bool (by rw [Bool.eq_iff_iff]; simp [mSmall]; omega), boxed _ _⟩

set_option maxHeartbeats 1000000 in
theorem rints_any (A B : Option Addr) (c d : Nat) (xs ys : List Int) (w : World) (ha : Row w A xs) (hb : Row w B ys) (h0 : xs.length ≤ 1000000000) :
    Calls Try.prog 34 #[.slice A xs.length c, .slice B ys.length d] w fun e w' => e = .returned (.bool (mInts xs ys)) ∧ Below w.heap.size w w' := by
  by_cases hl : xs.length = ys.length
  · have HL := hid hl
    have hl1 : xs.length ≤ ys.length := by omega
    have hl2 : ys.length ≤ xs.length := by omega
    have hl3 : ((xs.length : Int) != (ys.length : Int)) = false := by simp [hl]
    clear hl
    go_enter Try.func34, Try.ntmps34
    go_wp2
    go_loopw [5] (fun i wr => ∃ (k nq : Nat), k ≤ xs.length ∧ i = .int .i64 k ∧ Hid (xs.take k = ys.take k) ∧ wr = w.drewN nq) (fun i _ => xs.length - (intOf i).toNat)
    case atStart => exact ⟨0, 0, Nat.zero_le _, rfl, hid rfl, rfl⟩
    case round =>
      obtain ⟨k, nq, hk, rfl, HT, rfl⟩ := hrel
      by_cases hlt : k < xs.length
      · obtain ⟨b1, o1, rfl, hb1, hc⟩ := ha.atE k hlt
        obtain ⟨b2, o2, rfl, hb2, hd⟩ := hb.atE k (by omega)
        go_wp2
        go_quiet (fail)
        go_wp2
        · go_ret
          have hne : (xs[k] != ys[k]) = true := by assumption
          exact ⟨ret_bool (mInts_at k hlt (by omega) (by simpa using hne)).symm, bdrewN (bdrewN (Below.refl _ _) _) _⟩
        · have hne : (xs[k] != ys[k]) = false := by assumption
          have HT' : Hid (xs.take (k + 1) = ys.take (k + 1)) := take_more k hlt (by omega) (by simpa using hne) HT.out
          clear hne
          go_roundw
          case rel => exact ⟨k + 1, _, by omega, by go_num, HT', rfl⟩
          case measure => simp [intOf]; omega
      · go_wp2
        go_ret
        obtain rfl : k = xs.length := by omega
        exact ⟨ret_bool (mInts_all HL.out HT.out).symm, bdrewN (Below.refl _ _) _⟩
  · have HL := hid hl
    have hl3 : ((xs.length : Int) != (ys.length : Int)) = true := by simp; omega
    clear hl
    go_enter Try.func34, Try.ntmps34
    go_wp2
    go_ret
    exact ⟨ret_bool (mInts_len HL.out).symm, Below.refl _ _⟩

set_option maxHeartbeats 1000000 in
theorem equal_any (A B : Option Addr) (c d : Nat) (xs ys : List Int) (w : World) (ha : Row w A xs) (hb : Row w B ys) (h0 : xs.length ≤ 1000000000) :
    Calls Try.prog 36 #[.slice A xs.length c, .slice B ys.length d] w fun e w' => e = .returned (.bool (mInts xs ys)) ∧ Below w.heap.size w w' := by
  by_cases hl : xs.length = ys.length
  · have HL := hid hl
    have hl1 : xs.length ≤ ys.length := by omega
    have hl2 : ys.length ≤ xs.length := by omega
    have hl3 : ((xs.length : Int) != (ys.length : Int)) = false := by simp [hl]
    clear hl
    go_enter Try.func36, Try.ntmps36
    go_wp2
    go_loopw [13] (fun i wr => ∃ (k nq : Nat), k ≤ xs.length ∧ i = .int .i64 k ∧ Hid (xs.take k = ys.take k) ∧ wr = w.drewN nq) (fun i _ => xs.length - (intOf i).toNat)
    case atStart => exact ⟨0, 0, Nat.zero_le _, rfl, hid rfl, rfl⟩
    case round =>
      obtain ⟨k, nq, hk, rfl, HT, rfl⟩ := hrel
      by_cases hlt : k < xs.length
      · obtain ⟨b1, o1, rfl, hb1, hc⟩ := ha.atE k hlt
        obtain ⟨b2, o2, rfl, hb2, hd⟩ := hb.atE k (by omega)
        go_wp2
        go_quiet (fail)
        go_wp2
        · go_ret
          have hne : (xs[k] != ys[k]) = true := by assumption
          exact ⟨ret_bool (mInts_at k hlt (by omega) (by simpa using hne)).symm, bdrewN (bdrewN (Below.refl _ _) _) _⟩
        · have hne : (xs[k] != ys[k]) = false := by assumption
          have HT' : Hid (xs.take (k + 1) = ys.take (k + 1)) := take_more k hlt (by omega) (by simpa using hne) HT.out
          clear hne
          go_roundw
          case rel => exact ⟨k + 1, _, by omega, by go_num, HT', rfl⟩
          case measure => simp [intOf]; omega
      · go_wp2
        go_ret
        obtain rfl : k = xs.length := by omega
        exact ⟨ret_bool (mInts_all HL.out HT.out).symm, bdrewN (Below.refl _ _) _⟩
  · have HL := hid hl
    have hl3 : ((xs.length : Int) != (ys.length : Int)) = true := by simp; omega
    clear hl
    go_enter Try.func36, Try.ntmps36
    go_wp2
    go_ret
    exact ⟨ret_bool (mInts_len HL.out).symm, Below.refl _ _⟩

theorem rsame_any (A A' B B' : Option Addr) (c c' d d' : Nat) (a b : Ar) (w : World) (h1 : Row w A a.W) (h2 : Row w A' a.G) (h3 : Row w B b.W) (h4 : Row w B' b.G) (h5 : a.W.length ≤ 1000000000) (h6 : a.G.length ≤ 1000000000) :
    Calls Try.prog 16 #[.agg #[.slice A a.W.length c, .slice A' a.G.length c', .bool a.bad], .agg #[.slice B b.W.length d, .slice B' b.G.length d', .bool b.bad]] w fun e w' => e = .returned (.bool (mSame a b)) ∧ Below w.heap.size w w' := by
  have hs : mSame a b = (mInts a.W b.W && mInts a.G b.G && (a.bad == b.bad)) := rfl
  cases q1 : mInts a.W b.W
  all_goals cases q2 : mInts a.G b.G
  all_goals
    rw [q1, q2] at hs
    simp only [Bool.false_and, Bool.true_and] at hs
    have HS := hid hs
    clear hs
    go_enter Try.func16, Try.ntmps16
    go_wp2_with (first
      | (go_at_call 34; (with_reducible refine (rints_any _ _ _ _ a.W b.W _ ((h1.alloc _).alloc _) ((h3.alloc _).alloc _) h5).mono ?_); rintro e wk ⟨rfl, hk⟩; obtain ⟨gc, gf⟩ := bcell hk; have hz : w.heap.size + 1 < wk.heap.size := (by have := hk.size; simp at this; omega); have hz0 : w.heap.size < wk.heap.size := by omega)
      | (go_at_call 34; (with_reducible refine (rints_any _ _ _ _ a.G b.G _ (((h2.alloc _).alloc _).step hk) (((h4.alloc _).alloc _).step hk) h6).mono ?_); rintro e wl ⟨rfl, hl⟩; obtain ⟨gc2, gf2⟩ := bcell hl))
    go_ret
    exact ⟨ret_bool HS.out.symm, bstep (bstep (boxed _ _) (boxed _ _)) (bstep hk hl)⟩

theorem same_any (A A' B B' : Option Addr) (c c' d d' : Nat) (a b : Ar) (w : World) (h1 : Row w A a.W) (h2 : Row w A' a.G) (h3 : Row w B b.W) (h4 : Row w B' b.G) (h5 : a.W.length ≤ 1000000000) (h6 : a.G.length ≤ 1000000000) :
    Calls Try.prog 18 #[.agg #[.slice A a.W.length c, .slice A' a.G.length c', .bool a.bad], .agg #[.slice B b.W.length d, .slice B' b.G.length d', .bool b.bad]] w fun e w' => e = .returned (.bool (mSame a b)) ∧ Below w.heap.size w w' := by
  have hs : mSame a b = (mInts a.W b.W && mInts a.G b.G && (a.bad == b.bad)) := rfl
  cases q0 : (a.bad == b.bad)
  · rw [q0] at hs
    simp only [Bool.and_false] at hs
    have HS := hid hs
    clear hs
    go_enter Try.func18, Try.ntmps18
    go_wp2
    go_ret
    exact ⟨ret_bool HS.out.symm, bstep (boxed _ _) (boxed _ _)⟩
  · cases q1 : mInts a.W b.W
    · rw [q1] at hs
      simp only [Bool.false_and] at hs
      have HS := hid hs
      clear hs
      go_enter Try.func18, Try.ntmps18
      go_wp2_with (go_at_call 36; (with_reducible refine (equal_any _ _ _ _ a.W b.W _ ((h1.alloc _).alloc _) ((h3.alloc _).alloc _) h5).mono ?_); rintro e wk ⟨rfl, hk⟩)
      go_ret
      exact ⟨ret_bool HS.out.symm, bstep (bstep (boxed _ _) (boxed _ _)) hk⟩
    · rw [q0, q1] at hs
      simp only [Bool.true_and, Bool.and_true] at hs
      have HS := hid hs
      clear hs
      go_enter Try.func18, Try.ntmps18
      go_wp2_with (first
        | (go_at_call 36; (with_reducible refine (equal_any _ _ _ _ a.W b.W _ ((h1.alloc _).alloc _) ((h3.alloc _).alloc _) h5).mono ?_); rintro e wk ⟨rfl, hk⟩; obtain ⟨gc, gf⟩ := bcell hk; have hz : w.heap.size + 1 < wk.heap.size := (by have := hk.size; simp at this; omega); have hz0 : w.heap.size < wk.heap.size := by omega)
        | (go_at_call 36; (with_reducible refine (equal_any _ _ _ _ a.G b.G _ (((h2.alloc _).alloc _).step hk) (((h4.alloc _).alloc _).step hk) h6).mono ?_); rintro e wl ⟨rfl, hl⟩))
      go_ret
      exact ⟨ret_bool HS.out.symm, bstep (bstep (boxed _ _) (boxed _ _)) (bstep hk hl)⟩
end Go.Proofs.Ytbpkndjnohdnjaa
