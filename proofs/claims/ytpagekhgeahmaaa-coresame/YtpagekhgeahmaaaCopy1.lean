/- Contracts: frames that are copied. -/
import Derived.Test.YtpagekhgeahmaaaClone
import Derived.Test.YtpagekhgeahmaaaPut
namespace Go.Proofs.Ytpagekhgeahmaaa
open Go.RowKit
set_option linter.unusedVariables false
set_option linter.unusedSimpArgs false

set_option maxRecDepth 100000 in
set_option maxHeartbeats 2000000 in
theorem copiedFrame_any (A : Option Addr) (c : Nat) (op pc r0 r1 r2 r3 r4 r5 r6 r7 : Int) (xs : List Int) (w : World) (hA : Row w A xs) (hl : xs.length ≤ 1000000) :
    Calls Try.prog 67 #[.agg #[.int .i64 op, .int .i64 pc, .int .i64 r0, .int .i64 r1, .int .i64 r2, .int .i64 r3, .int .i64 r4, .int .i64 r5, .int .i64 r6, .int .i64 r7, .slice A xs.length c]] w fun e w' =>
      ∃ A' c', e = .returned (.agg #[.int .i64 op, .int .i64 pc, .int .i64 r0, .int .i64 r1, .int .i64 r2, .int .i64 r3, .int .i64 r4, .int .i64 r5, .int .i64 r6, .int .i64 r7, .slice A' xs.length c']) ∧ RowI (fun b => w.heap.size ≤ b) w' A' xs ∧ Below w.heap.size w w' := by
  go_enter Try.func67, Try.ntmps67
  go_wp2_with (go_at_call 96; refine (cloneInt _ _ _ (xs.map inCells) _ (((hA.alloc _).alloc _).src) (by simp) hl).mono ?_; rintro e wk ⟨v, rfl, ho, hk⟩; obtain ⟨A', c', rfl, hr⟩ := own_rowI ho rfl; obtain ⟨gc, gf⟩ := bcell hk; have hz : w.heap.size + 1 < wk.heap.size := (by have := hk.size; simp at this; omega); have hz0 : w.heap.size < wk.heap.size := (by omega); have p10 : wk.cell? ⟨w.heap.size, 10, none⟩ = some (.slice A xs.length c) := (by rw [gc _ _ (by simp; omega)]; simp [go_sem]); have q0 : wk.cell? ⟨w.heap.size + 1, 0, none⟩ = some (.int .i64 0) := (by rw [gc _ _ (by simp)]; simp [go_sem]); have q1 : wk.cell? ⟨w.heap.size + 1, 1, none⟩ = some (.int .i64 0) := (by rw [gc _ _ (by simp)]; simp [go_sem]); have q2 : wk.cell? ⟨w.heap.size + 1, 2, none⟩ = some (.int .i64 0) := (by rw [gc _ _ (by simp)]; simp [go_sem]); have q3 : wk.cell? ⟨w.heap.size + 1, 3, none⟩ = some (.int .i64 0) := (by rw [gc _ _ (by simp)]; simp [go_sem]); have q4 : wk.cell? ⟨w.heap.size + 1, 4, none⟩ = some (.int .i64 0) := (by rw [gc _ _ (by simp)]; simp [go_sem]); have q5 : wk.cell? ⟨w.heap.size + 1, 5, none⟩ = some (.int .i64 0) := (by rw [gc _ _ (by simp)]; simp [go_sem]); have q6 : wk.cell? ⟨w.heap.size + 1, 6, none⟩ = some (.int .i64 0) := (by rw [gc _ _ (by simp)]; simp [go_sem]); have q7 : wk.cell? ⟨w.heap.size + 1, 7, none⟩ = some (.int .i64 0) := (by rw [gc _ _ (by simp)]; simp [go_sem]); have q8 : wk.cell? ⟨w.heap.size + 1, 8, none⟩ = some (.int .i64 0) := (by rw [gc _ _ (by simp)]; simp [go_sem]); have q9 : wk.cell? ⟨w.heap.size + 1, 9, none⟩ = some (.int .i64 0) := (by rw [gc _ _ (by simp)]; simp [go_sem]); have q10 : wk.cell? ⟨w.heap.size + 1, 10, none⟩ = some (.slice none 0 0) := (by rw [gc _ _ (by simp)]; simp [go_sem]))
  refine bodyPost_ret (v := .agg #[.int .i64 op, .int .i64 pc, .int .i64 r0, .int .i64 r1, .int .i64 r2, .int .i64 r3, .int .i64 r4, .int .i64 r5, .int .i64 r6, .int .i64 r7, .slice A' xs.length c']) (by simp [results, Try.results67, go_sem, q0, q1, q2, q3, q4, q5, q6, q7, q8, q9, q10]) rfl ?_
  have key : ∀ w', Turn (fun b => b = w.heap.size ∨ b = w.heap.size + 1) wk w' → RowI (fun b => w.heap.size ≤ b) w' A' xs ∧ Below w.heap.size w w' := fun w' hT =>
    ⟨(hr.turn hT (fun b _ hb => by simp at hb; omega)).mono (fun b _ hb => by simp at hb; omega), (bstep (boxed _ _) (boxed _ _)).trans ((hk.mono (by simp; omega)).trans (hT.to_below (by omega) (fun g hg => by omega)))⟩
  refine ⟨A', c', rfl, ?_⟩
  exact key _ (by repeat (first | (with_reducible exact Turn.refl _ _) | (with_reducible refine Turn.set ?_ (by simp) _ _)))
end Go.Proofs.Ytpagekhgeahmaaa
