/- Contracts of the document's answers for layer 3: frames that are the same. -/
import Derived.Test.YtpagekhgeahmaaaCore3
import Derived.Test.YtpagekhgeahmaaaArrEq
namespace Go.Proofs.Ytpagekhgeahmaaa
open Go.RowKit
set_option linter.unusedVariables false
set_option linter.unusedSimpArgs false

def frSame (a b : Fr) : Bool := mInts a.S b.S && (a.op == b.op) && (a.pc == b.pc) && decide (a.R = b.R)

theorem int_info3 : ∃ i, Try.prog.info? 3 = some i := by
  have h : (Try.prog.info? 3).isSome = true := by kernel_rfl
  exact Option.isSome_iff_exists.1 h

theorem eql8 (r0 r1 r2 r3 r4 r5 r6 r7 s0 s1 s2 s3 s4 s5 s6 s7 : Int) (w : World) : (binOp .eql 40 (.agg #[.int .i64 r0, .int .i64 r1, .int .i64 r2, .int .i64 r3, .int .i64 r4, .int .i64 r5, .int .i64 r6, .int .i64 r7]) (.agg #[.int .i64 s0, .int .i64 s1, .int .i64 s2, .int .i64 s3, .int .i64 s4, .int .i64 s5, .int .i64 s6, .int .i64 s7])).run Try.prog w = .ok (.bool (decide ([r0, r1, r2, r3, r4, r5, r6, r7] = [s0, s1, s2, s3, s4, s5, s6, s7]))) w := by
  obtain ⟨i, hi⟩ := int_info3
  exact run_eql_ints w Try.underlying40 Try.underlying3 hi (by kernel_rfl) [r0, r1, r2, r3, r4, r5, r6, r7] [s0, s1, s2, s3, s4, s5, s6, s7] rfl rfl

set_option maxHeartbeats 2000000 in
theorem rframe_any (A B : Option Addr) (c d : Nat) (op pc op2 pc2 r0 r1 r2 r3 r4 r5 r6 r7 s0 s1 s2 s3 s4 s5 s6 s7 : Int) (xs ys : List Int) (w : World) (hA : Row w A xs) (hB : Row w B ys) (h0 : xs.length ≤ 1000000) :
    Calls Try.prog 88 #[.agg #[.int .i64 op, .int .i64 pc, .int .i64 r0, .int .i64 r1, .int .i64 r2, .int .i64 r3, .int .i64 r4, .int .i64 r5, .int .i64 r6, .int .i64 r7, .slice A xs.length c], .agg #[.int .i64 op2, .int .i64 pc2, .int .i64 s0, .int .i64 s1, .int .i64 s2, .int .i64 s3, .int .i64 s4, .int .i64 s5, .int .i64 s6, .int .i64 s7, .slice B ys.length d]] w fun e w' => e = .returned (.bool (frSame ⟨op, pc, [r0, r1, r2, r3, r4, r5, r6, r7], xs⟩ ⟨op2, pc2, [s0, s1, s2, s3, s4, s5, s6, s7], ys⟩)) ∧ Below w.heap.size w w' := by
  have hq := eql8 r0 r1 r2 r3 r4 r5 r6 r7 s0 s1 s2 s3 s4 s5 s6 s7
  have HF := hid (show frSame ⟨op, pc, [r0, r1, r2, r3, r4, r5, r6, r7], xs⟩ ⟨op2, pc2, [s0, s1, s2, s3, s4, s5, s6, s7], ys⟩ = (mInts xs ys && (op == op2) && (pc == pc2) && decide ([r0, r1, r2, r3, r4, r5, r6, r7] = [s0, s1, s2, s3, s4, s5, s6, s7])) from rfl)
  obtain ⟨v, hv⟩ : ∃ v, frSame ⟨op, pc, [r0, r1, r2, r3, r4, r5, r6, r7], xs⟩ ⟨op2, pc2, [s0, s1, s2, s3, s4, s5, s6, s7], ys⟩ = v := ⟨_, rfl⟩
  rw [hv] at HF ⊢
  clear hv
  obtain ⟨z, hz⟩ : ∃ z, decide ([r0, r1, r2, r3, r4, r5, r6, r7] = [s0, s1, s2, s3, s4, s5, s6, s7]) = z := ⟨_, rfl⟩
  rw [hz] at HF
  have hq2 : ∀ w, (binOp .eql 40 (.agg #[.int .i64 r0, .int .i64 r1, .int .i64 r2, .int .i64 r3, .int .i64 r4, .int .i64 r5, .int .i64 r6, .int .i64 r7]) (.agg #[.int .i64 s0, .int .i64 s1, .int .i64 s2, .int .i64 s3, .int .i64 s4, .int .i64 s5, .int .i64 s6, .int .i64 s7])).run Try.prog w = .ok (.bool z) w := fun w => by rw [hq w, hz]
  clear hq hz
  cases t0 : mInts xs ys
  all_goals cases t1 : (op == op2)
  all_goals cases t2 : (pc == pc2)
  all_goals
    rw [t0, t1, t2] at HF
    go_enter Try.func88, Try.ntmps88
    go_wp2_with (go_at_call 25; refine (rints_any _ _ _ _ xs ys _ ((hA.alloc _).alloc _) ((hB.alloc _).alloc _) (by omega)).mono ?_; rintro e wk ⟨rfl, hk⟩; obtain ⟨gc, gf⟩ := bcell hk; have hz1 : w.heap.size + 1 < wk.heap.size := (by have := hk.size; simp at this; omega); have hz0 : w.heap.size < wk.heap.size := (by omega))
    go_ret
    exact ⟨ret_bool (by rw [HF.out]; cases z <;> rfl), bstep (bstep (boxed _ _) (boxed _ _)) hk⟩
end Go.Proofs.Ytpagekhgeahmaaa
