/- Contracts of the document's answers for layer 3: events that are the same. -/
import Derived.Test.YtpagekhgeahmaaaCore4
namespace Go.Proofs.Ytpagekhgeahmaaa
open Go.RowKit
set_option linter.unusedVariables false
set_option linter.unusedSimpArgs false
set_option linter.unusedSectionVars false

section
variable {α : Type} [DecidableEq α]
def lSame (a b : List α) : Bool := decide (a = b)
theorem lSame_len {a b : List α} (h : a.length ≠ b.length) : lSame a b = false := by
  unfold lSame
  simp
  intro e
  exact h (by rw [e])
theorem lSame_at {a b : List α} {k : Nat} {x y : α} (hx : a[k]? = some x) (hy : b[k]? = some y) (h : x ≠ y) : lSame a b = false := by
  unfold lSame
  simp
  rintro rfl
  rw [hx] at hy
  exact h (by injection hy)
theorem lSame_more {a b : List α} {k : Nat} {x : α} (hx : a[k]? = some x) (hy : b[k]? = some x) (ht : a.take k = b.take k) : a.take (k + 1) = b.take (k + 1) := by
  rw [List.take_add_one, List.take_add_one, hx, hy, ht]
theorem lSame_all {a b : List α} (hl : a.length = b.length) (ht : a.take a.length = b.take a.length) : lSame a b = true := by
  unfold lSame
  simp only [decide_eq_true_eq]
  rw [List.take_length] at ht
  rw [ht, hl, List.take_length]
end

theorem neqEv (a b : Evt) (w : World) : (binOp .neq 56 (.agg #[.int .i64 a.core, .int .i64 a.kind, .int .i64 a.a, .int .i64 a.b, .int .i64 a.v]) (.agg #[.int .i64 b.core, .int .i64 b.kind, .int .i64 b.a, .int .i64 b.b, .int .i64 b.v])).run Try.prog w = .ok (.bool (!decide (a = b))) w := by
  have e : decide (a = b) = (a.core == b.core && (a.kind == b.kind && (a.a == b.a && (a.b == b.b && a.v == b.v)))) := by
    obtain ⟨a0, a1, a2, a3, a4⟩ := a
    obtain ⟨b0, b1, b2, b3, b4⟩ := b
    rw [Bool.eq_iff_iff]
    simp
  rw [e]
  simp [go_sem]
  by_cases h0 : a.core = b.core <;> by_cases h1 : a.kind = b.kind <;> by_cases h2 : a.a = b.a <;> by_cases h3 : a.b = b.b <;> by_cases h4 : a.v = b.v <;> simp [h0, h1, h2, h3, h4]

set_option maxHeartbeats 2000000 in
theorem revs_any (A B : Option Addr) (c d : Nat) (xs ys : List Evt) (w : World) (ha : RowE w A xs) (hb : RowE w B ys) (h0 : xs.length ≤ 1000000000) :
    Calls Try.prog 57 #[.slice A xs.length c, .slice B ys.length d] w fun e w' => e = .returned (.bool (lSame xs ys)) ∧ Below w.heap.size w w' := by
  by_cases hl : xs.length = ys.length
  · have HL := hid hl
    have hl1 : xs.length ≤ ys.length := by omega
    have hl2 : ys.length ≤ xs.length := by omega
    have hl3 : ((xs.length : Int) != (ys.length : Int)) = false := by simp [hl]
    clear hl
    go_enter Try.func57, Try.ntmps57
    go_wp2
    go_loopw [5] (fun i wr => ∃ (k nq : Nat), k ≤ xs.length ∧ i = .int .i64 k ∧ Hid (xs.take k = ys.take k) ∧ wr = w.drewN nq) (fun i _ => xs.length - (intOf i).toNat)
    case atStart => exact ⟨0, 0, Nat.zero_le _, rfl, hid rfl, rfl⟩
    case round =>
      obtain ⟨k, nq, hk, rfl, HT, rfl⟩ := hrel
      by_cases hlt : k < xs.length
      · have hlt2 : k < ys.length := by omega
        obtain ⟨b1, o1, rfl, hb1, hat1⟩ := ha (by omega)
        obtain ⟨b2, o2, rfl, hb2, hat2⟩ := hb (by omega)
        obtain ⟨x, hx⟩ : ∃ x, xs[k]? = some x := ⟨_, List.getElem?_eq_getElem hlt⟩
        obtain ⟨y, hy⟩ : ∃ y, ys[k]? = some y := ⟨_, List.getElem?_eq_getElem hlt2⟩
        obtain ⟨c0, c1, c2, c3, c4⟩ := hat1 k x hx
        obtain ⟨d0, d1, d2, d3, d4⟩ := hat2 k y hy
        have HX := hid hx
        have HY := hid hy
        have hq := neqEv x y
        clear hat1 hat2 hx hy
        by_cases t : x = y
        · subst t
          have hq2 : ∀ w, (binOp .neq 56 (.agg #[.int .i64 x.core, .int .i64 x.kind, .int .i64 x.a, .int .i64 x.b, .int .i64 x.v]) (.agg #[.int .i64 x.core, .int .i64 x.kind, .int .i64 x.a, .int .i64 x.b, .int .i64 x.v])).run Try.prog w = .ok (.bool false) w := fun w => by rw [hq w]; simp
          clear hq
          have HT2 := hid (lSame_more HX.out HY.out HT.out)
          go_wp2_with fail
          go_quiet (fail)
          go_wp2
          go_roundw
          case rel => exact ⟨k + 1, _, by omega, by go_num, HT2, rfl⟩
          case measure => simp [intOf]; omega
        · have hq2 : ∀ w, (binOp .neq 56 (.agg #[.int .i64 x.core, .int .i64 x.kind, .int .i64 x.a, .int .i64 x.b, .int .i64 x.v]) (.agg #[.int .i64 y.core, .int .i64 y.kind, .int .i64 y.a, .int .i64 y.b, .int .i64 y.v])).run Try.prog w = .ok (.bool true) w := fun w => by rw [hq w]; simp [t]
          have HN := hid t
          clear hq t
          go_wp2_with fail
          go_quiet (fail)
          go_wp2
          go_ret
          exact ⟨ret_bool (lSame_at HX.out HY.out HN.out).symm, bdrewN (bdrewN (Below.refl _ _) _) _⟩
      · go_wp2
        go_ret
        obtain rfl : k = xs.length := by omega
        exact ⟨ret_bool (lSame_all HL.out HT.out).symm, bdrewN (Below.refl _ _) _⟩
  · have HL := hid hl
    have hl3 : ((xs.length : Int) != (ys.length : Int)) = true := by simp; omega
    clear hl
    go_enter Try.func57, Try.ntmps57
    go_wp2
    go_ret
    exact ⟨ret_bool (lSame_len HL.out).symm, Below.refl _ _⟩
end Go.Proofs.Ytpagekhgeahmaaa
