/- Contracts of the document's answers for layer 3: frames that are the same. -/
import Derived.Test.YtiakabnfjegeeaaKCoA
import Derived.Test.YtiakabnfjegeeaaKBas
import Derived.Deep.RegionHeld3
import Derived.Deep.CutRange

namespace Go.Proofs.Ytiakabnfjegeeaa
open Go.RowKit
set_option linter.unusedVariables false
set_option linter.unusedSimpArgs false

def frSame (a b : Fr) : Bool := mInts a.S b.S && (a.op == b.op) && (a.pc == b.pc) && decide (a.R = b.R)

theorem int_info3 : ∃ i, Try.prog.info? 3 = some i := by
  have h : (Try.prog.info? 3).isSome = true := by kernel_rfl
  exact Option.isSome_iff_exists.1 h

theorem eql8 (r0 r1 r2 r3 r4 r5 r6 r7 s0 s1 s2 s3 s4 s5 s6 s7 : Int) (w : World) : (binOp .eql 42 (.agg #[.int .i64 r0, .int .i64 r1, .int .i64 r2, .int .i64 r3, .int .i64 r4, .int .i64 r5, .int .i64 r6, .int .i64 r7]) (.agg #[.int .i64 s0, .int .i64 s1, .int .i64 s2, .int .i64 s3, .int .i64 s4, .int .i64 s5, .int .i64 s6, .int .i64 s7])).run Try.prog w = .ok (.bool (decide ([r0, r1, r2, r3, r4, r5, r6, r7] = [s0, s1, s2, s3, s4, s5, s6, s7]))) w := by
  obtain ⟨i, hi⟩ := int_info3
  exact run_eql_ints w Try.underlying42 Try.underlying3 hi (by kernel_rfl) [r0, r1, r2, r3, r4, r5, r6, r7] [s0, s1, s2, s3, s4, s5, s6, s7] rfl rfl

end Go.Proofs.Ytiakabnfjegeeaa

/- Contracts of the document's answers for layer 3: events that are the same. -/
namespace Go.Proofs.Ytiakabnfjegeeaa
open Go.RowKit
set_option linter.unusedVariables false
set_option linter.unusedSimpArgs false
set_option linter.unusedSectionVars false

section
variable {α : Type} [DecidableEq α]
def lSame (a b : List α) : Bool := decide (a = b)
theorem lSame_len {a b : List α} (h : a.length ≠ b.length) : lSame a b = false := by
  unfold lSame
  simp
  intro e
  exact h (by rw [e])
theorem lSame_at {a b : List α} {k : Nat} {x y : α} (hx : a[k]? = some x) (hy : b[k]? = some y) (h : x ≠ y) : lSame a b = false := by
  unfold lSame
  simp
  rintro rfl
  rw [hx] at hy
  exact h (by injection hy)
theorem lSame_more {a b : List α} {k : Nat} {x : α} (hx : a[k]? = some x) (hy : b[k]? = some x) (ht : a.take k = b.take k) : a.take (k + 1) = b.take (k + 1) := by
  rw [List.take_add_one, List.take_add_one, hx, hy, ht]
theorem lSame_all {a b : List α} (hl : a.length = b.length) (ht : a.take a.length = b.take a.length) : lSame a b = true := by
  unfold lSame
  simp only [decide_eq_true_eq]
  rw [List.take_length] at ht
  rw [ht, hl, List.take_length]
end

theorem neqEv (a b : Evt) (w : World) : (binOp .neq 107 (.agg #[.int .i64 a.core, .int .i64 a.kind, .int .i64 a.a, .int .i64 a.b, .int .i64 a.v]) (.agg #[.int .i64 b.core, .int .i64 b.kind, .int .i64 b.a, .int .i64 b.b, .int .i64 b.v])).run Try.prog w = .ok (.bool (!decide (a = b))) w := by
  have e : decide (a = b) = (a.core == b.core && (a.kind == b.kind && (a.a == b.a && (a.b == b.b && a.v == b.v)))) := by
    obtain ⟨a0, a1, a2, a3, a4⟩ := a
    obtain ⟨b0, b1, b2, b3, b4⟩ := b
    rw [Bool.eq_iff_iff]
    simp
  rw [e]
  simp [go_sem]
  by_cases h0 : a.core = b.core <;> by_cases h1 : a.kind = b.kind <;> by_cases h2 : a.a = b.a <;> by_cases h3 : a.b = b.b <;> by_cases h4 : a.v = b.v <;> simp [h0, h1, h2, h3, h4]

end Go.Proofs.Ytiakabnfjegeeaa

/- Contracts of the document's answers for layer 3: cores that are the same. -/
namespace Go.Proofs.Ytiakabnfjegeeaa
open Go.RowKit
set_option linter.unusedVariables false
set_option linter.unusedSimpArgs false

def coSame (x y : Co) : Bool := mInts x.ret y.ret && (x.v == y.v) && (x.e == y.e) && decide ([x.x0, x.x1, x.x2] = [y.x0, y.x1, y.x2]) && lSame x.F y.F

theorem frSame_eq (f g : Fr) : frSame f g = decide (f = g) := by
  obtain ⟨a, b, c, d⟩ := f
  obtain ⟨a', b', c', d'⟩ := g
  unfold frSame mInts
  rw [Bool.eq_iff_iff]
  simp
  constructor
  · rintro ⟨⟨⟨h1, h2⟩, h3⟩, h4⟩; exact ⟨h2, h3, h4, h1⟩
  · rintro ⟨h1, h2, h3, h4⟩; exact ⟨⟨⟨h4, h1⟩, h2⟩, h3⟩

theorem list8 {l : List Int} (h : l.length = 8) : ∃ r0 r1 r2 r3 r4 r5 r6 r7 : Int, l = [r0, r1, r2, r3, r4, r5, r6, r7] := by
  match l, h with
  | [r0, r1, r2, r3, r4, r5, r6, r7], _ => exact ⟨r0, r1, r2, r3, r4, r5, r6, r7, rfl⟩

theorem neq3 (a b c a' b' c' : Int) (w : World) : (binOp .neq 49 (.agg #[.int .i64 a, .int .i64 b, .int .i64 c]) (.agg #[.int .i64 a', .int .i64 b', .int .i64 c'])).run Try.prog w = .ok (.bool (!decide ([a, b, c] = [a', b', c']))) w := by
  obtain ⟨i, hi⟩ := int_info3
  exact run_neq_ints w Try.underlying49 Try.underlying3 hi (by kernel_rfl) [a, b, c] [a', b', c'] rfl rfl

end Go.Proofs.Ytiakabnfjegeeaa

/- Contract of the document's answer for layer 3: few and right. -/
namespace Go.Proofs.Ytiakabnfjegeeaa
open Go.RowKit
set_option linter.unusedVariables false
set_option linter.unusedSimpArgs false

def syMays (s : Sy) : Bool := sySmall s && syRight s

/-- What few says of a system. -/
theorem sySmall_few {s : Sy} (h : sySmall s = true) : s.M.G.length ≤ 61 ∧ s.M.W.length ≤ 368 ∧ s.C.length ≤ 9 ∧ s.L.length ≤ 200 ∧ (∀ x ∈ s.C, x.F.length ≤ 45 ∧ x.ret.length ≤ 210 ∧ ∀ f ∈ x.F, f.S.length ≤ 30) := by
  simp only [sySmall, mSmall, coSmall, frSmall, Bool.and_eq_true, decide_eq_true_eq, List.all_eq_true] at h
  obtain ⟨⟨⟨h1, h2⟩, h3⟩, h4⟩ := h
  exact ⟨by omega, by omega, h2, h3, fun x hx => ⟨(h4 x hx).1.1, (h4 x hx).1.2, (h4 x hx).2⟩⟩

set_option maxHeartbeats 4000000 in
theorem rmay3_any (A B AC AL : Option Addr) (c d cC cL : Nat) (s : Sy) (w : World) (hG : Row w B s.M.G) (hC : RowC w AC s.C) (h0 : s.M.G.length ≤ maxLen) (h1 : s.M.W.length ≤ maxLen) (h2 : s.C.length ≤ maxLen) (h3 : s.L.length ≤ maxLen) :
    Calls Try.prog 17 #[.agg #[.slice A s.M.W.length c, .slice B s.M.G.length d, .bool s.M.bad, .slice AC s.C.length cC, .slice AL s.L.length cL], .int .i64 60] w fun e w' => e = .returned (.bool (syMays s)) ∧ Below w.heap.size w w' := by
  have hm : syMays s = (sySmall s && syRight s) := rfl
  cases q : sySmall s
  · rw [q] at hm
    have HM := hid hm
    clear hm
    go_enter Try.func17, Try.ntmps17
    go_wp2_with (go_at_call 38; refine (rsmall_any _ _ _ _ _ _ _ _ s _ (hC.step (boxed w _)) h0 h1 h2 h3).mono ?_; rintro e wk ⟨rfl, hk⟩)
    go_ret
    exact ⟨ret_bool HM.out.symm, bstep (boxed _ _) hk⟩
  · obtain ⟨q1, q2, q3, q4, q5⟩ := sySmall_few q
    have Q5 := hid (fun x hx => Nat.le_trans (q5 x hx).1 (by decide) : ∀ x ∈ s.C, x.F.length ≤ 1000000)
    rw [q] at hm
    have HM := hid hm
    clear hm q5
    go_enter Try.func17, Try.ntmps17
    go_wp2_with (first
      | (go_at_call 38; refine (rsmall_any _ _ _ _ _ _ _ _ s _ (hC.step (boxed w _)) h0 h1 h2 h3).mono ?_; rintro e wk ⟨rfl, hk⟩; obtain ⟨gc, gf⟩ := bcell hk; have hz : w.heap.size < wk.heap.size := (by have := hk.size; simp at this; omega))
      | (go_at_call 39; refine (rright3_any _ _ _ _ _ _ _ _ s _ ((hG.alloc _).step hk) ((hC.step (boxed w _)).step hk) (by omega) (by omega) (by omega) Q5.out).mono ?_; rintro e wl ⟨rfl, hl⟩))
    go_ret
    exact ⟨ret_bool (by rw [HM.out]; rfl), bstep (boxed _ _) (bstep hk hl)⟩
end Go.Proofs.Ytiakabnfjegeeaa

/- Contract of the document's answer for layer 3: systems that are the same. -/
namespace Go.Proofs.Ytiakabnfjegeeaa
open Go.RowKit
set_option linter.unusedVariables false
set_option linter.unusedSimpArgs false

theorem coSame_eq (x y : Co) : coSame x y = decide (x = y) := by
  obtain ⟨a, b, c, d, e, f, g⟩ := x
  obtain ⟨a', b', c', d', e', f', g'⟩ := y
  unfold coSame mInts lSame
  rw [Bool.eq_iff_iff]
  simp
  constructor
  · rintro ⟨⟨⟨⟨h1, h2⟩, h3⟩, h4, h5, h6⟩, h7⟩; exact ⟨h7, h2, h3, h4, h5, h6, h1⟩
  · rintro ⟨h7, h2, h3, h4, h5, h6, h1⟩; exact ⟨⟨⟨⟨h1, h2⟩, h3⟩, h4, h5, h6⟩, h7⟩

def sySame (a b : Sy) : Bool := mSame a.M b.M && lSame a.L b.L && lSame a.C b.C

end Go.Proofs.Ytiakabnfjegeeaa

/- Contracts of the document's answer for layer 3: the frame at the top. -/
namespace Go.Proofs.Ytiakabnfjegeeaa
open Go.RowKit
set_option linter.unusedVariables false
set_option linter.unusedSimpArgs false

set_option maxHeartbeats 4000000 in
/-- No such core: the zero frame, and false. -/
theorem rtop_out (A B AC AL : Option Addr) (c d cC cL : Nat) (s : Sy) (i : Int) (w : World) (h2 : s.C.length ≤ 1000000) (hi : i < 0 ∨ (s.C.length : Int) ≤ i) :
    Calls Try.prog 14 #[.agg #[.slice A s.M.W.length c, .slice B s.M.G.length d, .bool s.M.bad, .slice AC s.C.length cC, .slice AL s.L.length cL], .int .i64 i] w fun e w' => e = .returned (.tuple #[.agg #[.int .i64 0, .int .i64 0, .int .i64 0, .int .i64 0, .int .i64 0, .int .i64 0, .int .i64 0, .int .i64 0, .int .i64 0, .int .i64 0, .slice none 0 0], .bool false]) ∧ Below w.heap.size w w' := by
  rcases hi with hi | hi
  · go_enter Try.func14, Try.ntmps14
    go_wp2
    refine bodyPost_ret (v := .tuple #[.agg #[.int .i64 0, .int .i64 0, .int .i64 0, .int .i64 0, .int .i64 0, .int .i64 0, .int .i64 0, .int .i64 0, .int .i64 0, .int .i64 0, .slice none 0 0], .bool false]) (by simp [results, Try.results14, go_sem]) rfl ?_
    refine ⟨rfl, ?_⟩
    exact bstep (boxed _ _) (boxed _ _)
  · have hp : ¬ i < 0 := by omega
    go_enter Try.func14, Try.ntmps14
    go_wp2
    refine bodyPost_ret (v := .tuple #[.agg #[.int .i64 0, .int .i64 0, .int .i64 0, .int .i64 0, .int .i64 0, .int .i64 0, .int .i64 0, .int .i64 0, .int .i64 0, .int .i64 0, .slice none 0 0], .bool false]) (by simp [results, Try.results14, go_sem]) rfl ?_
    refine ⟨rfl, ?_⟩
    exact bstep (boxed _ _) (boxed _ _)

set_option maxHeartbeats 4000000 in
/-- A core with no frame: the zero frame, and false. -/
theorem rtop_none (A B AC AL : Option Addr) (c d cC cL : Nat) (s : Sy) (k : Nat) (x : Co) (w : World) (hC : RowC w AC s.C) (h2 : s.C.length ≤ 1000000) (hx : s.C[k]? = some x) (hF : x.F.length = 0) :
    Calls Try.prog 14 #[.agg #[.slice A s.M.W.length c, .slice B s.M.G.length d, .bool s.M.bad, .slice AC s.C.length cC, .slice AL s.L.length cL], .int .i64 k] w fun e w' => e = .returned (.tuple #[.agg #[.int .i64 0, .int .i64 0, .int .i64 0, .int .i64 0, .int .i64 0, .int .i64 0, .int .i64 0, .int .i64 0, .int .i64 0, .int .i64 0, .slice none 0 0], .bool false]) ∧ Below w.heap.size w w' := by
  have hlt : k < s.C.length := (List.getElem?_eq_some_iff.1 hx).1
  obtain ⟨b, o, rfl, hbl, hat⟩ := hC (by omega)
  obtain ⟨⟨AF, cF, c0, rF, _⟩, c1, c2, c3, c4, c5, AR, cR, c6, rR⟩ := hat k x hx
  rw [hF] at c0
  have hbn : b ≠ w.heap.size := by omega
  clear hat hx hF
  go_enter Try.func14, Try.ntmps14
  go_wp2
  refine bodyPost_ret (v := .tuple #[.agg #[.int .i64 0, .int .i64 0, .int .i64 0, .int .i64 0, .int .i64 0, .int .i64 0, .int .i64 0, .int .i64 0, .int .i64 0, .int .i64 0, .slice none 0 0], .bool false]) (by simp [results, Try.results14, go_sem]) rfl ?_
  refine ⟨rfl, ?_⟩
  exact bstep (boxed _ _) (boxed _ _)

set_option maxHeartbeats 4000000 in
/-- A core with frames: the last of them, and true. -/
theorem rtop_yes (A B AC AL : Option Addr) (c d cC cL : Nat) (s : Sy) (k n : Nat) (x : Co) (op pc r0 r1 r2 r3 r4 r5 r6 r7 : Int) (xs : List Int) (w : World) (hC : RowC w AC s.C) (h2 : s.C.length ≤ 1000000) (hx : s.C[k]? = some x) (hn : x.F.length = n + 1) (h3 : n ≤ 1000000) (hf : x.F[n]? = some ⟨op, pc, [r0, r1, r2, r3, r4, r5, r6, r7], xs⟩) :
    Calls Try.prog 14 #[.agg #[.slice A s.M.W.length c, .slice B s.M.G.length d, .bool s.M.bad, .slice AC s.C.length cC, .slice AL s.L.length cL], .int .i64 k] w fun e w' => ∃ AS cS, e = .returned (.tuple #[.agg #[.int .i64 op, .int .i64 pc, .int .i64 r0, .int .i64 r1, .int .i64 r2, .int .i64 r3, .int .i64 r4, .int .i64 r5, .int .i64 r6, .int .i64 r7, .slice AS xs.length cS], .bool true]) ∧ Row w AS xs ∧ Below w.heap.size w w' := by
  have hlt : k < s.C.length := (List.getElem?_eq_some_iff.1 hx).1
  obtain ⟨b, o, rfl, hbl, hat⟩ := hC (by omega)
  obtain ⟨⟨AF, cF, c0, rF, _⟩, c1, c2, c3, c4, c5, AR, cR, c6, rR⟩ := hat k x hx
  obtain ⟨b1, o1, rfl, hb1, hat1⟩ := rF (by omega)
  obtain ⟨e1, u0, u1, ur, AS, cS, u10, rS⟩ := hat1 n _ hf
  dsimp only at u0 u1 ur u10 rS
  have u2 : w.cell? ⟨b1, o1 + n * 11 + 2, none⟩ = some (.int .i64 r0) := ur 0 (by omega)
  have u3 : w.cell? ⟨b1, o1 + n * 11 + 3, none⟩ = some (.int .i64 r1) := ur 1 (by omega)
  have u4 : w.cell? ⟨b1, o1 + n * 11 + 4, none⟩ = some (.int .i64 r2) := ur 2 (by omega)
  have u5 : w.cell? ⟨b1, o1 + n * 11 + 5, none⟩ = some (.int .i64 r3) := ur 3 (by omega)
  have u6 : w.cell? ⟨b1, o1 + n * 11 + 6, none⟩ = some (.int .i64 r4) := ur 4 (by omega)
  have u7 : w.cell? ⟨b1, o1 + n * 11 + 7, none⟩ = some (.int .i64 r5) := ur 5 (by omega)
  have u8 : w.cell? ⟨b1, o1 + n * 11 + 8, none⟩ = some (.int .i64 r6) := ur 6 (by omega)
  have u9 : w.cell? ⟨b1, o1 + n * 11 + 9, none⟩ = some (.int .i64 r7) := ur 7 (by omega)
  rw [hn] at c0
  have hbn : b ≠ w.heap.size := by omega
  have hbn1 : b1 ≠ w.heap.size := by omega
  have hne : ((n : Int) + 1 == 0) = false := by simp; omega
  clear hat hat1 hx hf ur e1 rF hn
  go_enter Try.func14, Try.ntmps14
  go_wp2
  go_region
  all_goals go_wp2
  refine bodyPost_ret (v := .tuple #[.agg #[.int .i64 op, .int .i64 pc, .int .i64 r0, .int .i64 r1, .int .i64 r2, .int .i64 r3, .int .i64 r4, .int .i64 r5, .int .i64 r6, .int .i64 r7, .slice AS xs.length cS], .bool true]) (by simp [results, Try.results14, go_sem]) rfl ?_
  refine ⟨AS, cS, rfl, rS, ?_⟩
  first
    | exact (bstep (boxed _ _) (boxed _ _)).drew
    | exact bdrewN (bstep (boxed _ _) (boxed _ _)) _
end Go.Proofs.Ytiakabnfjegeeaa
