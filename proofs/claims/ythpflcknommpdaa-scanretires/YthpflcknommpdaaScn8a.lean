/- Contract: scan.sweep, by the program. -/
import Derived.Test.YthpflcknommpdaaScn8
namespace Go.Proofs.Ythpflcknommpdaa
open Go.RowKit
theorem sweep_any (A B C L : Option Addr) (a b c d : Nat) (s : Sy) (k : Nat) (x : Co) (AS : Option Addr) (cS : Nat) (op pc r0 r1 r2 r3 r4 r5 r6 r7 : Int) (xs : List Int) (w : World) (hs : SyFew s) (hg : 2 ≤ s.M.G.length) (h : RS w s A B C L) (hS : Row w AS xs) (h6 : xs.length ≤ 1000000) (hx : s.C[k]? = some x) :
    Calls Try.prog 125 #[.agg #[.slice A s.M.W.length a, .slice B s.M.G.length b, .bool s.M.bad, .slice C s.C.length c, .slice L s.L.length d], .int .i64 k, .agg #[.int .i64 op, .int .i64 pc, .int .i64 r0, .int .i64 r1, .int .i64 r2, .int .i64 r3, .int .i64 r4, .int .i64 r5, .int .i64 r6, .int .i64 r7, .slice AS xs.length cS]] w (RetSysN w (pSweep s k ⟨op, pc, [r0, r1, r2, r3, r4, r5, r6, r7], xs⟩)) := by
  cases hq : pUn x.ret xs r1 with
  | none =>
    have e : pSweep s k ⟨op, pc, [r0, r1, r2, r3, r4, r5, r6, r7], xs⟩ = pBack s k (x.ret.length : Int) 0 := by unfold pSweep; rw [pRet_nat hx]; dsimp only; rw [show [r0, r1, r2, r3, r4, r5, r6, r7].getD 1 0 = r1 from rfl, hq]
    rw [e]; exact sweep_none A B C L a b c d s k x AS cS op pc r0 r1 r2 r3 r4 r5 r6 r7 xs w hs hg h hS h6 hx hq
  | some j =>
    have e : pSweep s k ⟨op, pc, [r0, r1, r2, r3, r4, r5, r6, r7], xs⟩ = pCall (pSet (pKeep s k (x.ret.take j ++ x.ret.drop (j + 1))) k ⟨op, pc, [r0, (j : Int), r2, r3, r4, r5, r6, r7], xs⟩) k (frS 2 (x.ret.getD j 0)) := by unfold pSweep; rw [pRet_nat hx]; dsimp only; rw [show [r0, r1, r2, r3, r4, r5, r6, r7].getD 1 0 = r1 from rfl, hq]; rfl
    rw [e]; exact sweep_some A B C L a b c d s k x AS cS op pc r0 r1 r2 r3 r4 r5 r6 r7 xs w hs hg h hS h6 hx j hq
end Go.Proofs.Ythpflcknommpdaa
