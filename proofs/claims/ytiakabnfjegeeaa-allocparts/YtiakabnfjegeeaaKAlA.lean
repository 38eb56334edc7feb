/- Layer 7 as plain functions: a step of a core. No Go text. -/
import Derived.Test.YtiakabnfjegeeaaScn1
import Derived.Test.YtiakabnfjegeeaaUniN
import Derived.Test.YtiakabnfjegeeaaStk8
import Derived.Test.YtiakabnfjegeeaaKSho
import Derived.Test.YtiakabnfjegeeaaKScD

namespace Go.Proofs.Ytiakabnfjegeeaa
open Go.RowKit
set_option linter.unusedVariables false

/-- A frame goes on at a step, and an op of one argument is called. -/
def pThen (s : Sy) (i : Int) (f : Fr) (pc op a : Int) : Sy := pCall (pSet s i ⟨f.op, pc, f.R, f.S⟩) i (frS op a)
def pV (s : Sy) (i : Int) : Int := match pAt s i with
  | none => 0
  | some x => x.v
def pE (s : Sy) (i : Int) : Int := match pAt s i with
  | none => 0
  | some x => x.e
/-- A step of OAlloc; d: where nothing happens. -/
def pAlloc (s : Sy) (i : Int) (f : Fr) (d : Sy) : Sy :=
  if f.pc = 0 then pThen s i f 1 1 0
  else if f.pc = 1 then
    if pE s i = 0 then pBack s i (pV s i) 0
    else if (pRet s i).length = 0 then pBack s i 0 2
    else pThen s i f 2 6 0
  else if f.pc = 2 then pThen s i f 3 1 0
  else if f.pc = 3 then pBack s i (pV s i) (pE s i)
  else d
/-- A step of ODrop. -/
def pDrop (s : Sy) (i : Int) (f : Fr) (d : Sy) : Sy :=
  if f.pc = 0 then pThen s i f 1 2 (f.R.getD 0 0)
  else if f.pc = 1 then pBack s i (f.R.getD 0 0) 0
  else d
/-- A step of a core. -/
def pAlc (s : Sy) (i : Int) : Sy := match pTop s i with
  | none => s
  | some f => if f.op = 7 then pAlloc s i f s else if f.op = 8 then pDrop s i f s else pScan s i
theorem pV_nat {s : Sy} {k : Nat} {x : Co} (hx : s.C[k]? = some x) : pV s (k : Int) = x.v := by unfold pV; rw [pAt_nat hx]
theorem pE_nat {s : Sy} {k : Nat} {x : Co} (hx : s.C[k]? = some x) : pE s (k : Int) = x.e := by unfold pE; rw [pAt_nat hx]
theorem frS_eq (op a : Int) : frS op a = ⟨op, 0, [a, 0, 0, 0, 0, 0, 0, 0], []⟩ := rfl
end Go.Proofs.Ytiakabnfjegeeaa

/- Contracts: alloc.call, allocate, drop, by the program. -/
namespace Go.Proofs.Ytiakabnfjegeeaa
open Go.RowKit
set_option linter.unusedVariables false
set_option linter.unusedSimpArgs false

set_option maxRecDepth 100000 in
set_option maxHeartbeats 4000000 in
theorem acall_0 (A B C L : Option Addr) (a b c d : Nat) (s : Sy) (i : Int) (AS : Option Addr) (cS : Nat) (op pc r0 r1 r2 r3 r4 r5 r6 r7 : Int) (xs : List Int) (np o2 : Int) (w : World) (hs : SyFew s) (hg : 2 ≤ s.M.G.length) (h : RS w s A B C L) (hS : Row w AS xs) (h6 : xs.length ≤ 1000000) (hp2 : wrap64 (pc + 1) = np) :
    Calls Try.prog 62 #[.agg #[.slice A s.M.W.length a, .slice B s.M.G.length b, .bool s.M.bad, .slice C s.C.length c, .slice L s.L.length d], .int .i64 i, .agg #[.int .i64 op, .int .i64 pc, .int .i64 r0, .int .i64 r1, .int .i64 r2, .int .i64 r3, .int .i64 r4, .int .i64 r5, .int .i64 r6, .int .i64 r7, .slice AS xs.length cS], .int .i64 o2, .slice none 0 0] w (RetSysN w (pCall (pSet s i ⟨op, np, [r0, r1, r2, r3, r4, r5, r6, r7], xs⟩) i ⟨o2, 0, [0, 0, 0, 0, 0, 0, 0, 0], []⟩)) := by
  obtain ⟨t8, ht8⟩ : ∃ t, t = pSet s i ⟨op, np, [r0, r1, r2, r3, r4, r5, r6, r7], xs⟩ := ⟨_, rfl⟩
  have f8 : SyFew t8 := by rw [ht8]; exact few_set hs h6 _
  have HSet := hid (show ∀ w', RS w' s A B C L → Row w' AS xs → Calls Try.prog 42 #[.agg #[.slice A s.M.W.length a, .slice B s.M.G.length b, .bool s.M.bad, .slice C s.C.length c, .slice L s.L.length d], .int .i64 i, .agg #[.int .i64 op, .int .i64 np, .int .i64 r0, .int .i64 r1, .int .i64 r2, .int .i64 r3, .int .i64 r4, .int .i64 r5, .int .i64 r6, .int .i64 r7, .slice AS xs.length cS]] w' (RetSysN w' t8) from fun w' k1 k2 => by rw [ht8]; exact set_uN A B C L a b c d s i AS cS op np r0 r1 r2 r3 r4 r5 r6 r7 xs w' hs k1 k2 h6)
  have HCall := hid (show ∀ (A8 B8 C8 L8 : Option Addr) (a8 b8 c8 d8 : Nat) w', RS w' t8 A8 B8 C8 L8 → Calls Try.prog 82 #[.agg #[.slice A8 t8.M.W.length a8, .slice B8 t8.M.G.length b8, .bool t8.M.bad, .slice C8 t8.C.length c8, .slice L8 t8.L.length d8], .int .i64 i, .int .i64 o2, .slice none 0 0] w' (RetSysN w' (pCall t8 i ⟨o2, 0, [0, 0, 0, 0, 0, 0, 0, 0], []⟩)) from fun A8 B8 C8 L8 a8 b8 c8 d8 w' k1 => call_uN A8 B8 C8 L8 a8 b8 c8 d8 t8 i o2 [] none 0 0 0 0 0 0 0 0 0 rfl (by simp) w' f8 k1 (Row.nil _ _))
  rw [← ht8]
  clear ht8
  have h0 := hs.1
  have h1 := hs.2.1
  have H := SF.start w s A B C L a b c d #[.int .i64 op, .int .i64 pc, .int .i64 r0, .int .i64 r1, .int .i64 r2, .int .i64 r3, .int .i64 r4, .int .i64 r5, .int .i64 r6, .int .i64 r7, .slice AS xs.length cS] h
  clear h
  go_enter Try.func62, Try.ntmps62
  go_upto_region 1 with (fail)
  generalize (((w.alloc (.cells #[.slice A s.M.W.length a, .slice B s.M.G.length b, .bool s.M.bad, .slice C s.C.length c, .slice L s.L.length d] 30)).alloc (.cells #[.int .i64 op, .int .i64 pc, .int .i64 r0, .int .i64 r1, .int .i64 r2, .int .i64 r3, .int .i64 r4, .int .i64 r5, .int .i64 r6, .int .i64 r7, .slice AS xs.length cS] 44)).alloc (.cells #[.slice none 0 0, .slice none 0 0, .bool false, .slice none 0 0, .slice none 0 0] 30)) = w1 at *
  have z2 : w.heap.size + 1 + 1 < w1.heap.size := H.lt
  have z1 : w.heap.size + 1 < w1.heap.size := by omega
  have z0 : w.heap.size < w1.heap.size := by omega
  obtain ⟨f0, f1, f2, f3, f4, f5, f6, f7, f8, f9, f10⟩ := cells11 H.bF
  obtain ⟨ff0, ff1, ff2, ff3, ff4, ff5, ff6, ff7, ff8, ff9, ff10⟩ := frz11 H.bF
  go_upto_region 2 with (fail)
  have K7 := H.putF 1 (.int .i64 np)
  clear H z0 z1 z2
  clear f0 f1 f2 f3 f4 f5 f6 f7 f8 f9 f10 ff0 ff1 ff2 ff3 ff4 ff5 ff6 ff7 ff8 ff9 ff10
  generalize w1.setCell ⟨w.heap.size + 1, 1, none⟩ (.int .i64 np) = wS at *
  have H : SF w s A B C L a b c d #[.int .i64 op, .int .i64 np, .int .i64 r0, .int .i64 r1, .int .i64 r2, .int .i64 r3, .int .i64 r4, .int .i64 r5, .int .i64 r6, .int .i64 r7, .slice AS xs.length cS] wS := K7
  clear K7
  have z2 : w.heap.size + 1 + 1 < wS.heap.size := H.lt
  have z1 : w.heap.size + 1 < wS.heap.size := by omega
  have z0 : w.heap.size < wS.heap.size := by omega
  obtain ⟨p0, p1, p2, p3, p4⟩ := cells5 H.bS
  obtain ⟨f0, f1, f2, f3, f4, f5, f6, f7, f8, f9, f10⟩ := cells11 H.bF
  go_wp2_with (go_at_call 42; (with_reducible refine (HSet.out _ H.rs (hS.step H.be)).mono ?_); rintro e w8 hN8; obtain ⟨A8, B8, C8, L8, a8, b8, c8, d8, rfl, x1, x2, x3, x4, hk8⟩ := hN8.weak; clear hN8)
  clear p0 p1 p2 p3 p4 f0 f1 f2 f3 f4 f5 f6 f7 f8 f9 f10
  replace H := H.step hk8
  clear hk8 z0 z1 z2
  have z2 : w.heap.size + 1 + 1 < w8.heap.size := H.lt
  have z1 : w.heap.size + 1 < w8.heap.size := by omega
  have z0 : w.heap.size < w8.heap.size := by omega
  refine (HCall.out A8 B8 C8 L8 a8 b8 c8 d8 _ ⟨x1, x2, x3, x4⟩).mono ?_
  rintro e wz hN
  have hz := hN.2
  obtain ⟨A9, B9, C9, L9, a9, b9, c9, d9, he, _, _, _, _, _⟩ := hN.1 wz (Turn.refl _ _)
  subst he
  have HN := hid hN
  clear hN
  have kR := (hz.block (w.heap.size + 1 + 1) z2).trans H.bR
  have kb := bstep H.be hz
  obtain ⟨q0, q1, q2, q3, q4⟩ := cells5 kR
  obtain ⟨qf0, qf1, qf2, qf3, qf4⟩ := frz5 kR
  go_wp2_with fail
  refine bodyPost_ret (v := .agg #[.slice A9 (pCall t8 i ⟨o2, 0, [0, 0, 0, 0, 0, 0, 0, 0], []⟩).M.W.length a9, .slice B9 (pCall t8 i ⟨o2, 0, [0, 0, 0, 0, 0, 0, 0, 0], []⟩).M.G.length b9, .bool (pCall t8 i ⟨o2, 0, [0, 0, 0, 0, 0, 0, 0, 0], []⟩).M.bad, .slice C9 (pCall t8 i ⟨o2, 0, [0, 0, 0, 0, 0, 0, 0, 0], []⟩).C.length c9, .slice L9 (pCall t8 i ⟨o2, 0, [0, 0, 0, 0, 0, 0, 0, 0], []⟩).L.length d9]) (by simp [results, Try.results62, go_sem, q0, q1, q2, q3, q4]) rfl ?_
  exact ret_resN _ _ _ _ _ HN.out z2 (by omega) kb

set_option maxRecDepth 100000 in
set_option maxHeartbeats 4000000 in
theorem acall_1 (A B C L : Option Addr) (a b c d : Nat) (s : Sy) (i : Int) (AS : Option Addr) (cS : Nat) (op pc r0 r1 r2 r3 r4 r5 r6 r7 : Int) (xs : List Int) (np o2 z : Int) (A7 : Option Addr) (c7 : Nat) (w : World) (hs : SyFew s) (hg : 2 ≤ s.M.G.length) (h : RS w s A B C L) (hS : Row w AS xs) (h6 : xs.length ≤ 1000000) (hp2 : wrap64 (pc + 1) = np) (hU : Row w A7 [z]) :
    Calls Try.prog 62 #[.agg #[.slice A s.M.W.length a, .slice B s.M.G.length b, .bool s.M.bad, .slice C s.C.length c, .slice L s.L.length d], .int .i64 i, .agg #[.int .i64 op, .int .i64 pc, .int .i64 r0, .int .i64 r1, .int .i64 r2, .int .i64 r3, .int .i64 r4, .int .i64 r5, .int .i64 r6, .int .i64 r7, .slice AS xs.length cS], .int .i64 o2, .slice A7 1 c7] w (RetSysN w (pCall (pSet s i ⟨op, np, [r0, r1, r2, r3, r4, r5, r6, r7], xs⟩) i ⟨o2, 0, [z, 0, 0, 0, 0, 0, 0, 0], []⟩)) := by
  obtain ⟨t8, ht8⟩ : ∃ t, t = pSet s i ⟨op, np, [r0, r1, r2, r3, r4, r5, r6, r7], xs⟩ := ⟨_, rfl⟩
  have f8 : SyFew t8 := by rw [ht8]; exact few_set hs h6 _
  have HSet := hid (show ∀ w', RS w' s A B C L → Row w' AS xs → Calls Try.prog 42 #[.agg #[.slice A s.M.W.length a, .slice B s.M.G.length b, .bool s.M.bad, .slice C s.C.length c, .slice L s.L.length d], .int .i64 i, .agg #[.int .i64 op, .int .i64 np, .int .i64 r0, .int .i64 r1, .int .i64 r2, .int .i64 r3, .int .i64 r4, .int .i64 r5, .int .i64 r6, .int .i64 r7, .slice AS xs.length cS]] w' (RetSysN w' t8) from fun w' k1 k2 => by rw [ht8]; exact set_uN A B C L a b c d s i AS cS op np r0 r1 r2 r3 r4 r5 r6 r7 xs w' hs k1 k2 h6)
  have HCall := hid (show ∀ (A8 B8 C8 L8 : Option Addr) (a8 b8 c8 d8 : Nat) w', RS w' t8 A8 B8 C8 L8 → Row w' A7 [z] → Calls Try.prog 82 #[.agg #[.slice A8 t8.M.W.length a8, .slice B8 t8.M.G.length b8, .bool t8.M.bad, .slice C8 t8.C.length c8, .slice L8 t8.L.length d8], .int .i64 i, .int .i64 o2, .slice A7 1 c7] w' (RetSysN w' (pCall t8 i ⟨o2, 0, [z, 0, 0, 0, 0, 0, 0, 0], []⟩)) from fun A8 B8 C8 L8 a8 b8 c8 d8 w' k1 k2 => call_uN A8 B8 C8 L8 a8 b8 c8 d8 t8 i o2 [z] A7 c7 z 0 0 0 0 0 0 0 rfl (by simp) w' f8 k1 k2)
  rw [← ht8]
  clear ht8
  have h0 := hs.1
  have h1 := hs.2.1
  have H := SF.start w s A B C L a b c d #[.int .i64 op, .int .i64 pc, .int .i64 r0, .int .i64 r1, .int .i64 r2, .int .i64 r3, .int .i64 r4, .int .i64 r5, .int .i64 r6, .int .i64 r7, .slice AS xs.length cS] h
  clear h
  go_enter Try.func62, Try.ntmps62
  go_upto_region 1 with (fail)
  generalize (((w.alloc (.cells #[.slice A s.M.W.length a, .slice B s.M.G.length b, .bool s.M.bad, .slice C s.C.length c, .slice L s.L.length d] 30)).alloc (.cells #[.int .i64 op, .int .i64 pc, .int .i64 r0, .int .i64 r1, .int .i64 r2, .int .i64 r3, .int .i64 r4, .int .i64 r5, .int .i64 r6, .int .i64 r7, .slice AS xs.length cS] 44)).alloc (.cells #[.slice none 0 0, .slice none 0 0, .bool false, .slice none 0 0, .slice none 0 0] 30)) = w1 at *
  have z2 : w.heap.size + 1 + 1 < w1.heap.size := H.lt
  have z1 : w.heap.size + 1 < w1.heap.size := by omega
  have z0 : w.heap.size < w1.heap.size := by omega
  obtain ⟨f0, f1, f2, f3, f4, f5, f6, f7, f8, f9, f10⟩ := cells11 H.bF
  obtain ⟨ff0, ff1, ff2, ff3, ff4, ff5, ff6, ff7, ff8, ff9, ff10⟩ := frz11 H.bF
  go_upto_region 2 with (fail)
  have K7 := H.putF 1 (.int .i64 np)
  clear H z0 z1 z2
  clear f0 f1 f2 f3 f4 f5 f6 f7 f8 f9 f10 ff0 ff1 ff2 ff3 ff4 ff5 ff6 ff7 ff8 ff9 ff10
  generalize w1.setCell ⟨w.heap.size + 1, 1, none⟩ (.int .i64 np) = wS at *
  have H : SF w s A B C L a b c d #[.int .i64 op, .int .i64 np, .int .i64 r0, .int .i64 r1, .int .i64 r2, .int .i64 r3, .int .i64 r4, .int .i64 r5, .int .i64 r6, .int .i64 r7, .slice AS xs.length cS] wS := K7
  clear K7
  have z2 : w.heap.size + 1 + 1 < wS.heap.size := H.lt
  have z1 : w.heap.size + 1 < wS.heap.size := by omega
  have z0 : w.heap.size < wS.heap.size := by omega
  obtain ⟨p0, p1, p2, p3, p4⟩ := cells5 H.bS
  obtain ⟨f0, f1, f2, f3, f4, f5, f6, f7, f8, f9, f10⟩ := cells11 H.bF
  go_wp2_with (go_at_call 42; (with_reducible refine (HSet.out _ H.rs (hS.step H.be)).mono ?_); rintro e w8 hN8; obtain ⟨A8, B8, C8, L8, a8, b8, c8, d8, rfl, x1, x2, x3, x4, hk8⟩ := hN8.weak; clear hN8)
  clear p0 p1 p2 p3 p4 f0 f1 f2 f3 f4 f5 f6 f7 f8 f9 f10
  replace H := H.step hk8
  clear hk8 z0 z1 z2
  have z2 : w.heap.size + 1 + 1 < w8.heap.size := H.lt
  have z1 : w.heap.size + 1 < w8.heap.size := by omega
  have z0 : w.heap.size < w8.heap.size := by omega
  refine (HCall.out A8 B8 C8 L8 a8 b8 c8 d8 _ ⟨x1, x2, x3, x4⟩ (hU.step H.be)).mono ?_
  rintro e wz hN
  have hz := hN.2
  obtain ⟨A9, B9, C9, L9, a9, b9, c9, d9, he, _, _, _, _, _⟩ := hN.1 wz (Turn.refl _ _)
  subst he
  have HN := hid hN
  clear hN
  have kR := (hz.block (w.heap.size + 1 + 1) z2).trans H.bR
  have kb := bstep H.be hz
  obtain ⟨q0, q1, q2, q3, q4⟩ := cells5 kR
  obtain ⟨qf0, qf1, qf2, qf3, qf4⟩ := frz5 kR
  go_wp2_with fail
  refine bodyPost_ret (v := .agg #[.slice A9 (pCall t8 i ⟨o2, 0, [z, 0, 0, 0, 0, 0, 0, 0], []⟩).M.W.length a9, .slice B9 (pCall t8 i ⟨o2, 0, [z, 0, 0, 0, 0, 0, 0, 0], []⟩).M.G.length b9, .bool (pCall t8 i ⟨o2, 0, [z, 0, 0, 0, 0, 0, 0, 0], []⟩).M.bad, .slice C9 (pCall t8 i ⟨o2, 0, [z, 0, 0, 0, 0, 0, 0, 0], []⟩).C.length c9, .slice L9 (pCall t8 i ⟨o2, 0, [z, 0, 0, 0, 0, 0, 0, 0], []⟩).L.length d9]) (by simp [results, Try.results62, go_sem, q0, q1, q2, q3, q4]) rfl ?_
  exact ret_resN _ _ _ _ _ HN.out z2 (by omega) kb

set_option maxRecDepth 100000 in
set_option maxHeartbeats 4000000 in
theorem adrop_0 (A B C L : Option Addr) (a b c d : Nat) (s : Sy) (i : Int) (AS : Option Addr) (cS : Nat) (op r0 r1 r2 r3 r4 r5 r6 r7 : Int) (xs : List Int) (w : World) (hs : SyFew s) (hg : 2 ≤ s.M.G.length) (h : RS w s A B C L) (hS : Row w AS xs) (h6 : xs.length ≤ 1000000)  :
    Calls Try.prog 47 #[.agg #[.slice A s.M.W.length a, .slice B s.M.G.length b, .bool s.M.bad, .slice C s.C.length c, .slice L s.L.length d], .int .i64 i, .agg #[.int .i64 op, .int .i64 0, .int .i64 r0, .int .i64 r1, .int .i64 r2, .int .i64 r3, .int .i64 r4, .int .i64 r5, .int .i64 r6, .int .i64 r7, .slice AS xs.length cS]] w (RetSysN w (pThen s i ⟨op, 0, [r0, r1, r2, r3, r4, r5, r6, r7], xs⟩ 1 2 r0)) := by
  have h0 := hs.1
  have h1 := hs.2.1
  have H := SF.start w s A B C L a b c d #[.int .i64 op, .int .i64 0, .int .i64 r0, .int .i64 r1, .int .i64 r2, .int .i64 r3, .int .i64 r4, .int .i64 r5, .int .i64 r6, .int .i64 r7, .slice AS xs.length cS] h
  clear h
  go_enter Try.func47, Try.ntmps47
  go_upto_region 1 with (fail)
  generalize (((w.alloc (.cells #[.slice A s.M.W.length a, .slice B s.M.G.length b, .bool s.M.bad, .slice C s.C.length c, .slice L s.L.length d] 30)).alloc (.cells #[.int .i64 op, .int .i64 0, .int .i64 r0, .int .i64 r1, .int .i64 r2, .int .i64 r3, .int .i64 r4, .int .i64 r5, .int .i64 r6, .int .i64 r7, .slice AS xs.length cS] 44)).alloc (.cells #[.slice none 0 0, .slice none 0 0, .bool false, .slice none 0 0, .slice none 0 0] 30)) = w1 at *
  have z2 : w.heap.size + 1 + 1 < w1.heap.size := H.lt
  have z1 : w.heap.size + 1 < w1.heap.size := by omega
  have z0 : w.heap.size < w1.heap.size := by omega
  obtain ⟨p0, p1, p2, p3, p4⟩ := cells5 H.bS
  obtain ⟨f0, f1, f2, f3, f4, f5, f6, f7, f8, f9, f10⟩ := cells11 H.bF
  have HA := hid (show ∀ (A7 : Option Addr) (c7 : Nat) w', RS w' s A B C L → Row w' AS xs → Row w' A7 [r0] → Calls Try.prog 62 #[.agg #[.slice A s.M.W.length a, .slice B s.M.G.length b, .bool s.M.bad, .slice C s.C.length c, .slice L s.L.length d], .int .i64 i, .agg #[.int .i64 op, .int .i64 0, .int .i64 r0, .int .i64 r1, .int .i64 r2, .int .i64 r3, .int .i64 r4, .int .i64 r5, .int .i64 r6, .int .i64 r7, .slice AS xs.length cS], .int .i64 2, .slice A7 1 c7] w' (RetSysN w' (pThen s i ⟨op, 0, [r0, r1, r2, r3, r4, r5, r6, r7], xs⟩ 1 2 r0)) from fun A7 c7 w' k1 k2 k3 => acall_1 A B C L a b c d s i AS cS op 0 r0 r1 r2 r3 r4 r5 r6 r7 xs 1 2 r0 A7 c7 w' hs hg k1 k2 h6 (by unfold wrap64; rfl) k3)
  go_wp2_with (go_at_call 62; (with_reducible refine (HA.out _ _ _ (H.rs.step (boxed w1 _)) ((hS.step H.be).step (boxed w1 _)) (by exact row_of_blk (xs := [r0]) (heap_alloc_new w1 _))).mono ?_); rintro e wz hN; have hz := hN.2; obtain ⟨A9, B9, C9, L9, a9, b9, c9, d9, he, _, _, _, _, _⟩ := hN.1 wz (Turn.refl _ _); subst he; have HN := hid hN; clear hN; have kR := (hz.block (w.heap.size + 1 + 1) (Nat.lt_of_lt_of_le z2 (by simp))).trans ((boxed w1 _).block _ z2 |>.trans H.bR); have kb := bstep (bstep H.be (boxed w1 _)) hz; obtain ⟨q0, q1, q2, q3, q4⟩ := cells5 kR; obtain ⟨qf0, qf1, qf2, qf3, qf4⟩ := frz5 kR)
  have zz := Nat.lt_of_lt_of_le z2 (boxed w1 (.cells #[.int .i64 r0] 3)).size
  refine bodyPost_ret (v := .agg #[.slice A9 (pThen s i ⟨op, 0, [r0, r1, r2, r3, r4, r5, r6, r7], xs⟩ 1 2 r0).M.W.length a9, .slice B9 (pThen s i ⟨op, 0, [r0, r1, r2, r3, r4, r5, r6, r7], xs⟩ 1 2 r0).M.G.length b9, .bool (pThen s i ⟨op, 0, [r0, r1, r2, r3, r4, r5, r6, r7], xs⟩ 1 2 r0).M.bad, .slice C9 (pThen s i ⟨op, 0, [r0, r1, r2, r3, r4, r5, r6, r7], xs⟩ 1 2 r0).C.length c9, .slice L9 (pThen s i ⟨op, 0, [r0, r1, r2, r3, r4, r5, r6, r7], xs⟩ 1 2 r0).L.length d9]) (by simp [results, Try.results47, go_sem, q0, q1, q2, q3, q4]) rfl ?_
  exact ret_resN _ _ _ _ _ HN.out (by simp; omega) (by omega) kb

set_option maxRecDepth 100000 in
set_option maxHeartbeats 4000000 in
theorem adrop_1 (A B C L : Option Addr) (a b c d : Nat) (s : Sy) (i : Int) (AS : Option Addr) (cS : Nat) (op r0 r1 r2 r3 r4 r5 r6 r7 : Int) (xs : List Int) (w : World) (hs : SyFew s) (hg : 2 ≤ s.M.G.length) (h : RS w s A B C L) (hS : Row w AS xs) (h6 : xs.length ≤ 1000000)  :
    Calls Try.prog 47 #[.agg #[.slice A s.M.W.length a, .slice B s.M.G.length b, .bool s.M.bad, .slice C s.C.length c, .slice L s.L.length d], .int .i64 i, .agg #[.int .i64 op, .int .i64 1, .int .i64 r0, .int .i64 r1, .int .i64 r2, .int .i64 r3, .int .i64 r4, .int .i64 r5, .int .i64 r6, .int .i64 r7, .slice AS xs.length cS]] w (RetSysN w (pBack s i r0 0)) := by
  have h0 := hs.1
  have h1 := hs.2.1
  have H := SF.start w s A B C L a b c d #[.int .i64 op, .int .i64 1, .int .i64 r0, .int .i64 r1, .int .i64 r2, .int .i64 r3, .int .i64 r4, .int .i64 r5, .int .i64 r6, .int .i64 r7, .slice AS xs.length cS] h
  clear h
  go_enter Try.func47, Try.ntmps47
  go_upto_region 1 with (fail)
  generalize (((w.alloc (.cells #[.slice A s.M.W.length a, .slice B s.M.G.length b, .bool s.M.bad, .slice C s.C.length c, .slice L s.L.length d] 30)).alloc (.cells #[.int .i64 op, .int .i64 1, .int .i64 r0, .int .i64 r1, .int .i64 r2, .int .i64 r3, .int .i64 r4, .int .i64 r5, .int .i64 r6, .int .i64 r7, .slice AS xs.length cS] 44)).alloc (.cells #[.slice none 0 0, .slice none 0 0, .bool false, .slice none 0 0, .slice none 0 0] 30)) = w1 at *
  have z2 : w.heap.size + 1 + 1 < w1.heap.size := H.lt
  have z1 : w.heap.size + 1 < w1.heap.size := by omega
  have z0 : w.heap.size < w1.heap.size := by omega
  obtain ⟨p0, p1, p2, p3, p4⟩ := cells5 H.bS
  obtain ⟨f0, f1, f2, f3, f4, f5, f6, f7, f8, f9, f10⟩ := cells11 H.bF
  go_wp2_with (go_at_call 63; (with_reducible refine (back_uN A B C L a b c d s i r0 0 _ hs H.rs).mono ?_); rintro e wz hN; have hz := hN.2; obtain ⟨A9, B9, C9, L9, a9, b9, c9, d9, he, _, _, _, _, _⟩ := hN.1 wz (Turn.refl _ _); subst he; have HN := hid hN; clear hN; have kR := (hz.block (w.heap.size + 1 + 1) z2).trans H.bR; have kb := bstep H.be hz; obtain ⟨q0, q1, q2, q3, q4⟩ := cells5 kR; obtain ⟨qf0, qf1, qf2, qf3, qf4⟩ := frz5 kR)
  refine bodyPost_ret (v := .agg #[.slice A9 (pBack s i r0 0).M.W.length a9, .slice B9 (pBack s i r0 0).M.G.length b9, .bool (pBack s i r0 0).M.bad, .slice C9 (pBack s i r0 0).C.length c9, .slice L9 (pBack s i r0 0).L.length d9]) (by simp [results, Try.results47, go_sem, q0, q1, q2, q3, q4]) rfl ?_
  exact ret_resN _ _ _ _ _ HN.out z2 (by omega) kb

set_option maxRecDepth 100000 in
set_option maxHeartbeats 4000000 in
theorem adrop_x (A B C L : Option Addr) (a b c d : Nat) (s : Sy) (i : Int) (AS : Option Addr) (cS : Nat) (op pc r0 r1 r2 r3 r4 r5 r6 r7 : Int) (xs : List Int) (w : World) (hs : SyFew s) (hg : 2 ≤ s.M.G.length) (h : RS w s A B C L) (hS : Row w AS xs) (h6 : xs.length ≤ 1000000) (hp : pTop s i = some ⟨op, pc, [r0, r1, r2, r3, r4, r5, r6, r7], xs⟩) (q0 : ¬ pc = 0) (q1 : ¬ pc = 1) :
    Calls Try.prog 47 #[.agg #[.slice A s.M.W.length a, .slice B s.M.G.length b, .bool s.M.bad, .slice C s.C.length c, .slice L s.L.length d], .int .i64 i, .agg #[.int .i64 op, .int .i64 pc, .int .i64 r0, .int .i64 r1, .int .i64 r2, .int .i64 r3, .int .i64 r4, .int .i64 r5, .int .i64 r6, .int .i64 r7, .slice AS xs.length cS]] w (RetSysN w (s)) := by
  have e0 : (pc == 0) = false := by simpa using q0
  have e1 : (pc == 1) = false := by simpa using q1
  clear q0 q1
  have h0 := hs.1
  have h1 := hs.2.1
  have H := SF.start w s A B C L a b c d #[.int .i64 op, .int .i64 pc, .int .i64 r0, .int .i64 r1, .int .i64 r2, .int .i64 r3, .int .i64 r4, .int .i64 r5, .int .i64 r6, .int .i64 r7, .slice AS xs.length cS] h
  clear h
  go_enter Try.func47, Try.ntmps47
  go_upto_region 1 with (fail)
  generalize (((w.alloc (.cells #[.slice A s.M.W.length a, .slice B s.M.G.length b, .bool s.M.bad, .slice C s.C.length c, .slice L s.L.length d] 30)).alloc (.cells #[.int .i64 op, .int .i64 pc, .int .i64 r0, .int .i64 r1, .int .i64 r2, .int .i64 r3, .int .i64 r4, .int .i64 r5, .int .i64 r6, .int .i64 r7, .slice AS xs.length cS] 44)).alloc (.cells #[.slice none 0 0, .slice none 0 0, .bool false, .slice none 0 0, .slice none 0 0] 30)) = w1 at *
  have z2 : w.heap.size + 1 + 1 < w1.heap.size := H.lt
  have z1 : w.heap.size + 1 < w1.heap.size := by omega
  have z0 : w.heap.size < w1.heap.size := by omega
  obtain ⟨p0, p1, p2, p3, p4⟩ := cells5 H.bS
  obtain ⟨f0, f1, f2, f3, f4, f5, f6, f7, f8, f9, f10⟩ := cells11 H.bF
  have HSet := hid (show ∀ w', RS w' s A B C L → Row w' AS xs → Calls Try.prog 42 #[.agg #[.slice A s.M.W.length a, .slice B s.M.G.length b, .bool s.M.bad, .slice C s.C.length c, .slice L s.L.length d], .int .i64 i, .agg #[.int .i64 op, .int .i64 pc, .int .i64 r0, .int .i64 r1, .int .i64 r2, .int .i64 r3, .int .i64 r4, .int .i64 r5, .int .i64 r6, .int .i64 r7, .slice AS xs.length cS]] w' (RetSysN w' s) from fun w' k1 k2 => by have h9 := set_uN A B C L a b c d s i AS cS op pc r0 r1 r2 r3 r4 r5 r6 r7 xs w' hs k1 k2 h6; rw [pSet_top hp] at h9; exact h9)
  go_wp2_with (go_at_call 42; (with_reducible refine (HSet.out _ H.rs (hS.step H.be)).mono ?_); rintro e wz hN; have hz := hN.2; obtain ⟨A9, B9, C9, L9, a9, b9, c9, d9, he, _, _, _, _, _⟩ := hN.1 wz (Turn.refl _ _); subst he; have HN := hid hN; clear hN; have kR := (hz.block (w.heap.size + 1 + 1) z2).trans H.bR; have kb := bstep H.be hz; obtain ⟨q0, q1, q2, q3, q4⟩ := cells5 kR; obtain ⟨qf0, qf1, qf2, qf3, qf4⟩ := frz5 kR)
  refine bodyPost_ret (v := .agg #[.slice A9 s.M.W.length a9, .slice B9 s.M.G.length b9, .bool s.M.bad, .slice C9 s.C.length c9, .slice L9 s.L.length d9]) (by simp [results, Try.results47, go_sem, q0, q1, q2, q3, q4]) rfl ?_
  exact ret_resN _ _ _ _ _ HN.out z2 (by omega) kb

set_option maxRecDepth 100000 in
set_option maxHeartbeats 4000000 in
theorem aall_0 (A B C L : Option Addr) (a b c d : Nat) (s : Sy) (k : Nat) (x : Co) (AS : Option Addr) (cS : Nat) (op r0 r1 r2 r3 r4 r5 r6 r7 : Int) (xs : List Int) (w : World) (hs : SyFew s) (hg : 2 ≤ s.M.G.length) (h : RS w s A B C L) (hS : Row w AS xs) (h6 : xs.length ≤ 1000000) (hx : s.C[k]? = some x)  :
    Calls Try.prog 46 #[.agg #[.slice A s.M.W.length a, .slice B s.M.G.length b, .bool s.M.bad, .slice C s.C.length c, .slice L s.L.length d], .int .i64 k, .agg #[.int .i64 op, .int .i64 0, .int .i64 r0, .int .i64 r1, .int .i64 r2, .int .i64 r3, .int .i64 r4, .int .i64 r5, .int .i64 r6, .int .i64 r7, .slice AS xs.length cS]] w (RetSysN w (pThen s k ⟨op, 0, [r0, r1, r2, r3, r4, r5, r6, r7], xs⟩ 1 1 0)) := by
  have hkl : k < s.C.length := (List.getElem?_eq_some_iff.1 hx).1
  have kl : (k : Int) < (s.C.length : Int) := by omega
  have k0 : (0 : Int) ≤ (k : Int) := by omega
  obtain ⟨b0, o0, rfl, hbl, hat⟩ := h.C (by omega)
  obtain ⟨AF, AR, cF, cR, hcs, rF, rR, hcF, hcR⟩ := (hat k x hx).cs4
  have u0 : w.cell? ⟨b0, o0 + k * 7, none⟩ = some (.slice AF x.F.length cF) := hcs 0 _ rfl
  have u1 : w.cell? ⟨b0, o0 + k * 7 + 1, none⟩ = some (.int .i64 x.v) := hcs 1 _ rfl
  have u2 : w.cell? ⟨b0, o0 + k * 7 + 2, none⟩ = some (.int .i64 x.e) := hcs 2 _ rfl
  have u3 : w.cell? ⟨b0, o0 + k * 7 + 3, none⟩ = some (.int .i64 x.x0) := hcs 3 _ rfl
  have u4 : w.cell? ⟨b0, o0 + k * 7 + 4, none⟩ = some (.int .i64 x.x1) := hcs 4 _ rfl
  have u5 : w.cell? ⟨b0, o0 + k * 7 + 5, none⟩ = some (.int .i64 x.x2) := hcs 5 _ rfl
  have u6 : w.cell? ⟨b0, o0 + k * 7 + 6, none⟩ = some (.slice AR x.ret.length cR) := hcs 6 _ rfl
  have HX := hid hx
  clear hat hcs hx rF hcF
  have h0 := hs.1
  have h1 := hs.2.1
  have H := SF.start w s A B (some ⟨b0, o0, none⟩) L a b c d #[.int .i64 op, .int .i64 0, .int .i64 r0, .int .i64 r1, .int .i64 r2, .int .i64 r3, .int .i64 r4, .int .i64 r5, .int .i64 r6, .int .i64 r7, .slice AS xs.length cS] h
  clear h
  go_enter Try.func46, Try.ntmps46
  go_upto_region 1 with (fail)
  generalize (((w.alloc (.cells #[.slice A s.M.W.length a, .slice B s.M.G.length b, .bool s.M.bad, .slice (some ⟨b0, o0, none⟩) s.C.length c, .slice L s.L.length d] 30)).alloc (.cells #[.int .i64 op, .int .i64 0, .int .i64 r0, .int .i64 r1, .int .i64 r2, .int .i64 r3, .int .i64 r4, .int .i64 r5, .int .i64 r6, .int .i64 r7, .slice AS xs.length cS] 44)).alloc (.cells #[.slice none 0 0, .slice none 0 0, .bool false, .slice none 0 0, .slice none 0 0] 30)) = w1 at *
  have z2 : w.heap.size + 1 + 1 < w1.heap.size := H.lt
  have z1 : w.heap.size + 1 < w1.heap.size := by omega
  have z0 : w.heap.size < w1.heap.size := by omega
  have d0 := (H.be.cell hbl).trans u0
  have d1 := (H.be.cell hbl).trans u1
  have d2 := (H.be.cell hbl).trans u2
  have d3 := (H.be.cell hbl).trans u3
  have d4 := (H.be.cell hbl).trans u4
  have d5 := (H.be.cell hbl).trans u5
  have d6 := (H.be.cell hbl).trans u6
  obtain ⟨p0, p1, p2, p3, p4⟩ := cells5 H.bS
  obtain ⟨f0, f1, f2, f3, f4, f5, f6, f7, f8, f9, f10⟩ := cells11 H.bF
  go_upto_region 2 with (fail)
  have hbx : Below w1.heap.size w1 (w1.alloc (.cells #[.slice AF x.F.length cF, .int .i64 x.v, .int .i64 x.e, .int .i64 x.x0, .int .i64 x.x1, .int .i64 x.x2, .slice AR x.ret.length cR] 51)) := boxed _ _
  have K := H.step hbx
  have bC := heap_alloc_new w1 (.cells #[.slice AF x.F.length cF, .int .i64 x.v, .int .i64 x.e, .int .i64 x.x0, .int .i64 x.x1, .int .i64 x.x2, .slice AR x.ret.length cR] 51)
  clear H hbx z0 z1 z2 d0 u0 d1 u1 d2 u2 d3 u3 d4 u4 d5 u5 d6 u6
  obtain ⟨vC, hv⟩ : ∃ v, w1.heap.size = v := ⟨_, rfl⟩
  rw [hv] at bC ⊢
  clear hv
  generalize (w1.alloc (.cells #[.slice AF x.F.length cF, .int .i64 x.v, .int .i64 x.e, .int .i64 x.x0, .int .i64 x.x1, .int .i64 x.x2, .slice AR x.ret.length cR] 51)) = w2 at *
  have H := K
  clear K
  clear p0 p1 p2 p3 p4 f0 f1 f2 f3 f4 f5 f6 f7 f8 f9 f10
  have z2 : w.heap.size + 1 + 1 < w2.heap.size := H.lt
  have z1 : w.heap.size + 1 < w2.heap.size := by omega
  have z0 : w.heap.size < w2.heap.size := by omega
  obtain ⟨g0, g1, g2, g3, g4, g5, g6⟩ := cells7 bC
  obtain ⟨p0, p1, p2, p3, p4⟩ := cells5 H.bS
  obtain ⟨f0, f1, f2, f3, f4, f5, f6, f7, f8, f9, f10⟩ := cells11 H.bF
  have HA := hid (show ∀ w', RS w' s A B (some ⟨b0, o0, none⟩) L → Row w' AS xs → Calls Try.prog 62 #[.agg #[.slice A s.M.W.length a, .slice B s.M.G.length b, .bool s.M.bad, .slice (some ⟨b0, o0, none⟩) s.C.length c, .slice L s.L.length d], .int .i64 k, .agg #[.int .i64 op, .int .i64 0, .int .i64 r0, .int .i64 r1, .int .i64 r2, .int .i64 r3, .int .i64 r4, .int .i64 r5, .int .i64 r6, .int .i64 r7, .slice AS xs.length cS], .int .i64 1, .slice none 0 0] w' (RetSysN w' (pThen s k ⟨op, 0, [r0, r1, r2, r3, r4, r5, r6, r7], xs⟩ 1 1 0)) from fun w' k1 k2 => acall_0 A B (some ⟨b0, o0, none⟩) L a b c d s k AS cS op 0 r0 r1 r2 r3 r4 r5 r6 r7 xs 1 1 w' hs hg k1 k2 h6 (by unfold wrap64; rfl))
  go_wp2_with (go_at_call 62; (with_reducible refine (HA.out _ H.rs (hS.step H.be)).mono ?_); rintro e wz hN; have hz := hN.2; obtain ⟨A9, B9, C9, L9, a9, b9, c9, d9, he, _, _, _, _, _⟩ := hN.1 wz (Turn.refl _ _); subst he; have HN := hid hN; clear hN; have kR := (hz.block (w.heap.size + 1 + 1) z2).trans H.bR; have kb := bstep H.be hz; obtain ⟨q0, q1, q2, q3, q4⟩ := cells5 kR; obtain ⟨qf0, qf1, qf2, qf3, qf4⟩ := frz5 kR)
  refine bodyPost_ret (v := .agg #[.slice A9 (pThen s k ⟨op, 0, [r0, r1, r2, r3, r4, r5, r6, r7], xs⟩ 1 1 0).M.W.length a9, .slice B9 (pThen s k ⟨op, 0, [r0, r1, r2, r3, r4, r5, r6, r7], xs⟩ 1 1 0).M.G.length b9, .bool (pThen s k ⟨op, 0, [r0, r1, r2, r3, r4, r5, r6, r7], xs⟩ 1 1 0).M.bad, .slice C9 (pThen s k ⟨op, 0, [r0, r1, r2, r3, r4, r5, r6, r7], xs⟩ 1 1 0).C.length c9, .slice L9 (pThen s k ⟨op, 0, [r0, r1, r2, r3, r4, r5, r6, r7], xs⟩ 1 1 0).L.length d9]) (by simp [results, Try.results46, go_sem, q0, q1, q2, q3, q4]) rfl ?_
  exact ret_resN _ _ _ _ _ HN.out z2 (by omega) kb

set_option maxRecDepth 100000 in
set_option maxHeartbeats 4000000 in
theorem aall_1a (A B C L : Option Addr) (a b c d : Nat) (s : Sy) (k : Nat) (x : Co) (AS : Option Addr) (cS : Nat) (op r0 r1 r2 r3 r4 r5 r6 r7 : Int) (xs : List Int) (w : World) (hs : SyFew s) (hg : 2 ≤ s.M.G.length) (h : RS w s A B C L) (hS : Row w AS xs) (h6 : xs.length ≤ 1000000) (hx : s.C[k]? = some x) (q : x.e = 0) :
    Calls Try.prog 46 #[.agg #[.slice A s.M.W.length a, .slice B s.M.G.length b, .bool s.M.bad, .slice C s.C.length c, .slice L s.L.length d], .int .i64 k, .agg #[.int .i64 op, .int .i64 1, .int .i64 r0, .int .i64 r1, .int .i64 r2, .int .i64 r3, .int .i64 r4, .int .i64 r5, .int .i64 r6, .int .i64 r7, .slice AS xs.length cS]] w (RetSysN w (pBack s k x.v 0)) := by
  have qe : (x.e == 0) = true := by simpa using q
  clear q
  have hkl : k < s.C.length := (List.getElem?_eq_some_iff.1 hx).1
  have kl : (k : Int) < (s.C.length : Int) := by omega
  have k0 : (0 : Int) ≤ (k : Int) := by omega
  obtain ⟨b0, o0, rfl, hbl, hat⟩ := h.C (by omega)
  obtain ⟨AF, AR, cF, cR, hcs, rF, rR, hcF, hcR⟩ := (hat k x hx).cs4
  have u0 : w.cell? ⟨b0, o0 + k * 7, none⟩ = some (.slice AF x.F.length cF) := hcs 0 _ rfl
  have u1 : w.cell? ⟨b0, o0 + k * 7 + 1, none⟩ = some (.int .i64 x.v) := hcs 1 _ rfl
  have u2 : w.cell? ⟨b0, o0 + k * 7 + 2, none⟩ = some (.int .i64 x.e) := hcs 2 _ rfl
  have u3 : w.cell? ⟨b0, o0 + k * 7 + 3, none⟩ = some (.int .i64 x.x0) := hcs 3 _ rfl
  have u4 : w.cell? ⟨b0, o0 + k * 7 + 4, none⟩ = some (.int .i64 x.x1) := hcs 4 _ rfl
  have u5 : w.cell? ⟨b0, o0 + k * 7 + 5, none⟩ = some (.int .i64 x.x2) := hcs 5 _ rfl
  have u6 : w.cell? ⟨b0, o0 + k * 7 + 6, none⟩ = some (.slice AR x.ret.length cR) := hcs 6 _ rfl
  have HX := hid hx
  clear hat hcs hx rF hcF
  have h0 := hs.1
  have h1 := hs.2.1
  have H := SF.start w s A B (some ⟨b0, o0, none⟩) L a b c d #[.int .i64 op, .int .i64 1, .int .i64 r0, .int .i64 r1, .int .i64 r2, .int .i64 r3, .int .i64 r4, .int .i64 r5, .int .i64 r6, .int .i64 r7, .slice AS xs.length cS] h
  clear h
  go_enter Try.func46, Try.ntmps46
  go_upto_region 1 with (fail)
  generalize (((w.alloc (.cells #[.slice A s.M.W.length a, .slice B s.M.G.length b, .bool s.M.bad, .slice (some ⟨b0, o0, none⟩) s.C.length c, .slice L s.L.length d] 30)).alloc (.cells #[.int .i64 op, .int .i64 1, .int .i64 r0, .int .i64 r1, .int .i64 r2, .int .i64 r3, .int .i64 r4, .int .i64 r5, .int .i64 r6, .int .i64 r7, .slice AS xs.length cS] 44)).alloc (.cells #[.slice none 0 0, .slice none 0 0, .bool false, .slice none 0 0, .slice none 0 0] 30)) = w1 at *
  have z2 : w.heap.size + 1 + 1 < w1.heap.size := H.lt
  have z1 : w.heap.size + 1 < w1.heap.size := by omega
  have z0 : w.heap.size < w1.heap.size := by omega
  have d0 := (H.be.cell hbl).trans u0
  have d1 := (H.be.cell hbl).trans u1
  have d2 := (H.be.cell hbl).trans u2
  have d3 := (H.be.cell hbl).trans u3
  have d4 := (H.be.cell hbl).trans u4
  have d5 := (H.be.cell hbl).trans u5
  have d6 := (H.be.cell hbl).trans u6
  obtain ⟨p0, p1, p2, p3, p4⟩ := cells5 H.bS
  obtain ⟨f0, f1, f2, f3, f4, f5, f6, f7, f8, f9, f10⟩ := cells11 H.bF
  go_upto_region 2 with (fail)
  have hbx : Below w1.heap.size w1 (w1.alloc (.cells #[.slice AF x.F.length cF, .int .i64 x.v, .int .i64 x.e, .int .i64 x.x0, .int .i64 x.x1, .int .i64 x.x2, .slice AR x.ret.length cR] 51)) := boxed _ _
  have K := H.step hbx
  have bC := heap_alloc_new w1 (.cells #[.slice AF x.F.length cF, .int .i64 x.v, .int .i64 x.e, .int .i64 x.x0, .int .i64 x.x1, .int .i64 x.x2, .slice AR x.ret.length cR] 51)
  clear H hbx z0 z1 z2 d0 u0 d1 u1 d2 u2 d3 u3 d4 u4 d5 u5 d6 u6
  obtain ⟨vC, hv⟩ : ∃ v, w1.heap.size = v := ⟨_, rfl⟩
  rw [hv] at bC ⊢
  clear hv
  generalize (w1.alloc (.cells #[.slice AF x.F.length cF, .int .i64 x.v, .int .i64 x.e, .int .i64 x.x0, .int .i64 x.x1, .int .i64 x.x2, .slice AR x.ret.length cR] 51)) = w2 at *
  have H := K
  clear K
  clear p0 p1 p2 p3 p4 f0 f1 f2 f3 f4 f5 f6 f7 f8 f9 f10
  have z2 : w.heap.size + 1 + 1 < w2.heap.size := H.lt
  have z1 : w.heap.size + 1 < w2.heap.size := by omega
  have z0 : w.heap.size < w2.heap.size := by omega
  obtain ⟨g0, g1, g2, g3, g4, g5, g6⟩ := cells7 bC
  obtain ⟨p0, p1, p2, p3, p4⟩ := cells5 H.bS
  obtain ⟨f0, f1, f2, f3, f4, f5, f6, f7, f8, f9, f10⟩ := cells11 H.bF
  go_wp2_with (go_at_call 63; (with_reducible refine (back_uN A B (some ⟨b0, o0, none⟩) L a b c d s k x.v 0 _ hs H.rs).mono ?_); rintro e wz hN; have hz := hN.2; obtain ⟨A9, B9, C9, L9, a9, b9, c9, d9, he, _, _, _, _, _⟩ := hN.1 wz (Turn.refl _ _); subst he; have HN := hid hN; clear hN; have kR := (hz.block (w.heap.size + 1 + 1) z2).trans H.bR; have kb := bstep H.be hz; obtain ⟨q0, q1, q2, q3, q4⟩ := cells5 kR; obtain ⟨qf0, qf1, qf2, qf3, qf4⟩ := frz5 kR)
  refine bodyPost_ret (v := .agg #[.slice A9 (pBack s k x.v 0).M.W.length a9, .slice B9 (pBack s k x.v 0).M.G.length b9, .bool (pBack s k x.v 0).M.bad, .slice C9 (pBack s k x.v 0).C.length c9, .slice L9 (pBack s k x.v 0).L.length d9]) (by simp [results, Try.results46, go_sem, q0, q1, q2, q3, q4]) rfl ?_
  exact ret_resN _ _ _ _ _ HN.out z2 (by omega) kb

set_option maxRecDepth 100000 in
set_option maxHeartbeats 4000000 in
theorem aall_1b (A B C L : Option Addr) (a b c d : Nat) (s : Sy) (k : Nat) (x : Co) (AS : Option Addr) (cS : Nat) (op r0 r1 r2 r3 r4 r5 r6 r7 : Int) (xs : List Int) (w : World) (hs : SyFew s) (hg : 2 ≤ s.M.G.length) (h : RS w s A B C L) (hS : Row w AS xs) (h6 : xs.length ≤ 1000000) (hx : s.C[k]? = some x) (q : ¬ x.e = 0) (hn : x.ret.length = 0) :
    Calls Try.prog 46 #[.agg #[.slice A s.M.W.length a, .slice B s.M.G.length b, .bool s.M.bad, .slice C s.C.length c, .slice L s.L.length d], .int .i64 k, .agg #[.int .i64 op, .int .i64 1, .int .i64 r0, .int .i64 r1, .int .i64 r2, .int .i64 r3, .int .i64 r4, .int .i64 r5, .int .i64 r6, .int .i64 r7, .slice AS xs.length cS]] w (RetSysN w (pBack s k 0 2)) := by
  have qe : (x.e == 0) = false := by simpa using q
  have qn : ((x.ret.length : Int) == 0) = true := by rw [hn]; rfl
  clear q hn
  have hkl : k < s.C.length := (List.getElem?_eq_some_iff.1 hx).1
  have kl : (k : Int) < (s.C.length : Int) := by omega
  have k0 : (0 : Int) ≤ (k : Int) := by omega
  obtain ⟨b0, o0, rfl, hbl, hat⟩ := h.C (by omega)
  obtain ⟨AF, AR, cF, cR, hcs, rF, rR, hcF, hcR⟩ := (hat k x hx).cs4
  have u0 : w.cell? ⟨b0, o0 + k * 7, none⟩ = some (.slice AF x.F.length cF) := hcs 0 _ rfl
  have u1 : w.cell? ⟨b0, o0 + k * 7 + 1, none⟩ = some (.int .i64 x.v) := hcs 1 _ rfl
  have u2 : w.cell? ⟨b0, o0 + k * 7 + 2, none⟩ = some (.int .i64 x.e) := hcs 2 _ rfl
  have u3 : w.cell? ⟨b0, o0 + k * 7 + 3, none⟩ = some (.int .i64 x.x0) := hcs 3 _ rfl
  have u4 : w.cell? ⟨b0, o0 + k * 7 + 4, none⟩ = some (.int .i64 x.x1) := hcs 4 _ rfl
  have u5 : w.cell? ⟨b0, o0 + k * 7 + 5, none⟩ = some (.int .i64 x.x2) := hcs 5 _ rfl
  have u6 : w.cell? ⟨b0, o0 + k * 7 + 6, none⟩ = some (.slice AR x.ret.length cR) := hcs 6 _ rfl
  have HX := hid hx
  clear hat hcs hx rF hcF
  have h0 := hs.1
  have h1 := hs.2.1
  have H := SF.start w s A B (some ⟨b0, o0, none⟩) L a b c d #[.int .i64 op, .int .i64 1, .int .i64 r0, .int .i64 r1, .int .i64 r2, .int .i64 r3, .int .i64 r4, .int .i64 r5, .int .i64 r6, .int .i64 r7, .slice AS xs.length cS] h
  clear h
  go_enter Try.func46, Try.ntmps46
  go_upto_region 1 with (fail)
  generalize (((w.alloc (.cells #[.slice A s.M.W.length a, .slice B s.M.G.length b, .bool s.M.bad, .slice (some ⟨b0, o0, none⟩) s.C.length c, .slice L s.L.length d] 30)).alloc (.cells #[.int .i64 op, .int .i64 1, .int .i64 r0, .int .i64 r1, .int .i64 r2, .int .i64 r3, .int .i64 r4, .int .i64 r5, .int .i64 r6, .int .i64 r7, .slice AS xs.length cS] 44)).alloc (.cells #[.slice none 0 0, .slice none 0 0, .bool false, .slice none 0 0, .slice none 0 0] 30)) = w1 at *
  have z2 : w.heap.size + 1 + 1 < w1.heap.size := H.lt
  have z1 : w.heap.size + 1 < w1.heap.size := by omega
  have z0 : w.heap.size < w1.heap.size := by omega
  have d0 := (H.be.cell hbl).trans u0
  have d1 := (H.be.cell hbl).trans u1
  have d2 := (H.be.cell hbl).trans u2
  have d3 := (H.be.cell hbl).trans u3
  have d4 := (H.be.cell hbl).trans u4
  have d5 := (H.be.cell hbl).trans u5
  have d6 := (H.be.cell hbl).trans u6
  obtain ⟨p0, p1, p2, p3, p4⟩ := cells5 H.bS
  obtain ⟨f0, f1, f2, f3, f4, f5, f6, f7, f8, f9, f10⟩ := cells11 H.bF
  go_upto_region 2 with (fail)
  have hbx : Below w1.heap.size w1 (w1.alloc (.cells #[.slice AF x.F.length cF, .int .i64 x.v, .int .i64 x.e, .int .i64 x.x0, .int .i64 x.x1, .int .i64 x.x2, .slice AR x.ret.length cR] 51)) := boxed _ _
  have K := H.step hbx
  have bC := heap_alloc_new w1 (.cells #[.slice AF x.F.length cF, .int .i64 x.v, .int .i64 x.e, .int .i64 x.x0, .int .i64 x.x1, .int .i64 x.x2, .slice AR x.ret.length cR] 51)
  clear H hbx z0 z1 z2 d0 u0 d1 u1 d2 u2 d3 u3 d4 u4 d5 u5 d6 u6
  obtain ⟨vC, hv⟩ : ∃ v, w1.heap.size = v := ⟨_, rfl⟩
  rw [hv] at bC ⊢
  clear hv
  generalize (w1.alloc (.cells #[.slice AF x.F.length cF, .int .i64 x.v, .int .i64 x.e, .int .i64 x.x0, .int .i64 x.x1, .int .i64 x.x2, .slice AR x.ret.length cR] 51)) = w2 at *
  have H := K
  clear K
  clear p0 p1 p2 p3 p4 f0 f1 f2 f3 f4 f5 f6 f7 f8 f9 f10
  have z2 : w.heap.size + 1 + 1 < w2.heap.size := H.lt
  have z1 : w.heap.size + 1 < w2.heap.size := by omega
  have z0 : w.heap.size < w2.heap.size := by omega
  obtain ⟨g0, g1, g2, g3, g4, g5, g6⟩ := cells7 bC
  obtain ⟨p0, p1, p2, p3, p4⟩ := cells5 H.bS
  obtain ⟨f0, f1, f2, f3, f4, f5, f6, f7, f8, f9, f10⟩ := cells11 H.bF
  go_wp2_with (go_at_call 63; (with_reducible refine (back_uN A B (some ⟨b0, o0, none⟩) L a b c d s k 0 2 _ hs H.rs).mono ?_); rintro e wz hN; have hz := hN.2; obtain ⟨A9, B9, C9, L9, a9, b9, c9, d9, he, _, _, _, _, _⟩ := hN.1 wz (Turn.refl _ _); subst he; have HN := hid hN; clear hN; have kR := (hz.block (w.heap.size + 1 + 1) z2).trans H.bR; have kb := bstep H.be hz; obtain ⟨q0, q1, q2, q3, q4⟩ := cells5 kR; obtain ⟨qf0, qf1, qf2, qf3, qf4⟩ := frz5 kR)
  refine bodyPost_ret (v := .agg #[.slice A9 (pBack s k 0 2).M.W.length a9, .slice B9 (pBack s k 0 2).M.G.length b9, .bool (pBack s k 0 2).M.bad, .slice C9 (pBack s k 0 2).C.length c9, .slice L9 (pBack s k 0 2).L.length d9]) (by simp [results, Try.results46, go_sem, q0, q1, q2, q3, q4]) rfl ?_
  exact ret_resN _ _ _ _ _ HN.out z2 (by omega) kb

set_option maxRecDepth 100000 in
set_option maxHeartbeats 4000000 in
theorem aall_1c (A B C L : Option Addr) (a b c d : Nat) (s : Sy) (k : Nat) (x : Co) (AS : Option Addr) (cS : Nat) (op r0 r1 r2 r3 r4 r5 r6 r7 : Int) (xs : List Int) (w : World) (hs : SyFew s) (hg : 2 ≤ s.M.G.length) (h : RS w s A B C L) (hS : Row w AS xs) (h6 : xs.length ≤ 1000000) (hx : s.C[k]? = some x) (q : ¬ x.e = 0) (hn : ¬ x.ret.length = 0) :
    Calls Try.prog 46 #[.agg #[.slice A s.M.W.length a, .slice B s.M.G.length b, .bool s.M.bad, .slice C s.C.length c, .slice L s.L.length d], .int .i64 k, .agg #[.int .i64 op, .int .i64 1, .int .i64 r0, .int .i64 r1, .int .i64 r2, .int .i64 r3, .int .i64 r4, .int .i64 r5, .int .i64 r6, .int .i64 r7, .slice AS xs.length cS]] w (RetSysN w (pThen s k ⟨op, 1, [r0, r1, r2, r3, r4, r5, r6, r7], xs⟩ 2 6 0)) := by
  have qe : (x.e == 0) = false := by simpa using q
  have qn : ((x.ret.length : Int) == 0) = false := by rw [beq_eq_false_iff_ne]; omega
  clear q hn
  have hkl : k < s.C.length := (List.getElem?_eq_some_iff.1 hx).1
  have kl : (k : Int) < (s.C.length : Int) := by omega
  have k0 : (0 : Int) ≤ (k : Int) := by omega
  obtain ⟨b0, o0, rfl, hbl, hat⟩ := h.C (by omega)
  obtain ⟨AF, AR, cF, cR, hcs, rF, rR, hcF, hcR⟩ := (hat k x hx).cs4
  have u0 : w.cell? ⟨b0, o0 + k * 7, none⟩ = some (.slice AF x.F.length cF) := hcs 0 _ rfl
  have u1 : w.cell? ⟨b0, o0 + k * 7 + 1, none⟩ = some (.int .i64 x.v) := hcs 1 _ rfl
  have u2 : w.cell? ⟨b0, o0 + k * 7 + 2, none⟩ = some (.int .i64 x.e) := hcs 2 _ rfl
  have u3 : w.cell? ⟨b0, o0 + k * 7 + 3, none⟩ = some (.int .i64 x.x0) := hcs 3 _ rfl
  have u4 : w.cell? ⟨b0, o0 + k * 7 + 4, none⟩ = some (.int .i64 x.x1) := hcs 4 _ rfl
  have u5 : w.cell? ⟨b0, o0 + k * 7 + 5, none⟩ = some (.int .i64 x.x2) := hcs 5 _ rfl
  have u6 : w.cell? ⟨b0, o0 + k * 7 + 6, none⟩ = some (.slice AR x.ret.length cR) := hcs 6 _ rfl
  have HX := hid hx
  clear hat hcs hx rF hcF
  have h0 := hs.1
  have h1 := hs.2.1
  have H := SF.start w s A B (some ⟨b0, o0, none⟩) L a b c d #[.int .i64 op, .int .i64 1, .int .i64 r0, .int .i64 r1, .int .i64 r2, .int .i64 r3, .int .i64 r4, .int .i64 r5, .int .i64 r6, .int .i64 r7, .slice AS xs.length cS] h
  clear h
  go_enter Try.func46, Try.ntmps46
  go_upto_region 1 with (fail)
  generalize (((w.alloc (.cells #[.slice A s.M.W.length a, .slice B s.M.G.length b, .bool s.M.bad, .slice (some ⟨b0, o0, none⟩) s.C.length c, .slice L s.L.length d] 30)).alloc (.cells #[.int .i64 op, .int .i64 1, .int .i64 r0, .int .i64 r1, .int .i64 r2, .int .i64 r3, .int .i64 r4, .int .i64 r5, .int .i64 r6, .int .i64 r7, .slice AS xs.length cS] 44)).alloc (.cells #[.slice none 0 0, .slice none 0 0, .bool false, .slice none 0 0, .slice none 0 0] 30)) = w1 at *
  have z2 : w.heap.size + 1 + 1 < w1.heap.size := H.lt
  have z1 : w.heap.size + 1 < w1.heap.size := by omega
  have z0 : w.heap.size < w1.heap.size := by omega
  have d0 := (H.be.cell hbl).trans u0
  have d1 := (H.be.cell hbl).trans u1
  have d2 := (H.be.cell hbl).trans u2
  have d3 := (H.be.cell hbl).trans u3
  have d4 := (H.be.cell hbl).trans u4
  have d5 := (H.be.cell hbl).trans u5
  have d6 := (H.be.cell hbl).trans u6
  obtain ⟨p0, p1, p2, p3, p4⟩ := cells5 H.bS
  obtain ⟨f0, f1, f2, f3, f4, f5, f6, f7, f8, f9, f10⟩ := cells11 H.bF
  go_upto_region 2 with (fail)
  have hbx : Below w1.heap.size w1 (w1.alloc (.cells #[.slice AF x.F.length cF, .int .i64 x.v, .int .i64 x.e, .int .i64 x.x0, .int .i64 x.x1, .int .i64 x.x2, .slice AR x.ret.length cR] 51)) := boxed _ _
  have K := H.step hbx
  have bC := heap_alloc_new w1 (.cells #[.slice AF x.F.length cF, .int .i64 x.v, .int .i64 x.e, .int .i64 x.x0, .int .i64 x.x1, .int .i64 x.x2, .slice AR x.ret.length cR] 51)
  clear H hbx z0 z1 z2 d0 u0 d1 u1 d2 u2 d3 u3 d4 u4 d5 u5 d6 u6
  obtain ⟨vC, hv⟩ : ∃ v, w1.heap.size = v := ⟨_, rfl⟩
  rw [hv] at bC ⊢
  clear hv
  generalize (w1.alloc (.cells #[.slice AF x.F.length cF, .int .i64 x.v, .int .i64 x.e, .int .i64 x.x0, .int .i64 x.x1, .int .i64 x.x2, .slice AR x.ret.length cR] 51)) = w2 at *
  have H := K
  clear K
  clear p0 p1 p2 p3 p4 f0 f1 f2 f3 f4 f5 f6 f7 f8 f9 f10
  have z2 : w.heap.size + 1 + 1 < w2.heap.size := H.lt
  have z1 : w.heap.size + 1 < w2.heap.size := by omega
  have z0 : w.heap.size < w2.heap.size := by omega
  obtain ⟨g0, g1, g2, g3, g4, g5, g6⟩ := cells7 bC
  obtain ⟨p0, p1, p2, p3, p4⟩ := cells5 H.bS
  obtain ⟨f0, f1, f2, f3, f4, f5, f6, f7, f8, f9, f10⟩ := cells11 H.bF
  have HA := hid (show ∀ w', RS w' s A B (some ⟨b0, o0, none⟩) L → Row w' AS xs → Calls Try.prog 62 #[.agg #[.slice A s.M.W.length a, .slice B s.M.G.length b, .bool s.M.bad, .slice (some ⟨b0, o0, none⟩) s.C.length c, .slice L s.L.length d], .int .i64 k, .agg #[.int .i64 op, .int .i64 1, .int .i64 r0, .int .i64 r1, .int .i64 r2, .int .i64 r3, .int .i64 r4, .int .i64 r5, .int .i64 r6, .int .i64 r7, .slice AS xs.length cS], .int .i64 6, .slice none 0 0] w' (RetSysN w' (pThen s k ⟨op, 1, [r0, r1, r2, r3, r4, r5, r6, r7], xs⟩ 2 6 0)) from fun w' k1 k2 => acall_0 A B (some ⟨b0, o0, none⟩) L a b c d s k AS cS op 1 r0 r1 r2 r3 r4 r5 r6 r7 xs 2 6 w' hs hg k1 k2 h6 (by unfold wrap64; rfl))
  go_wp2_with (go_at_call 62; (with_reducible refine (HA.out _ H.rs (hS.step H.be)).mono ?_); rintro e wz hN; have hz := hN.2; obtain ⟨A9, B9, C9, L9, a9, b9, c9, d9, he, _, _, _, _, _⟩ := hN.1 wz (Turn.refl _ _); subst he; have HN := hid hN; clear hN; have kR := (hz.block (w.heap.size + 1 + 1) z2).trans H.bR; have kb := bstep H.be hz; obtain ⟨q0, q1, q2, q3, q4⟩ := cells5 kR; obtain ⟨qf0, qf1, qf2, qf3, qf4⟩ := frz5 kR)
  refine bodyPost_ret (v := .agg #[.slice A9 (pThen s k ⟨op, 1, [r0, r1, r2, r3, r4, r5, r6, r7], xs⟩ 2 6 0).M.W.length a9, .slice B9 (pThen s k ⟨op, 1, [r0, r1, r2, r3, r4, r5, r6, r7], xs⟩ 2 6 0).M.G.length b9, .bool (pThen s k ⟨op, 1, [r0, r1, r2, r3, r4, r5, r6, r7], xs⟩ 2 6 0).M.bad, .slice C9 (pThen s k ⟨op, 1, [r0, r1, r2, r3, r4, r5, r6, r7], xs⟩ 2 6 0).C.length c9, .slice L9 (pThen s k ⟨op, 1, [r0, r1, r2, r3, r4, r5, r6, r7], xs⟩ 2 6 0).L.length d9]) (by simp [results, Try.results46, go_sem, q0, q1, q2, q3, q4]) rfl ?_
  exact ret_resN _ _ _ _ _ HN.out z2 (by omega) kb

set_option maxRecDepth 100000 in
set_option maxHeartbeats 4000000 in
theorem aall_2 (A B C L : Option Addr) (a b c d : Nat) (s : Sy) (k : Nat) (x : Co) (AS : Option Addr) (cS : Nat) (op r0 r1 r2 r3 r4 r5 r6 r7 : Int) (xs : List Int) (w : World) (hs : SyFew s) (hg : 2 ≤ s.M.G.length) (h : RS w s A B C L) (hS : Row w AS xs) (h6 : xs.length ≤ 1000000) (hx : s.C[k]? = some x)  :
    Calls Try.prog 46 #[.agg #[.slice A s.M.W.length a, .slice B s.M.G.length b, .bool s.M.bad, .slice C s.C.length c, .slice L s.L.length d], .int .i64 k, .agg #[.int .i64 op, .int .i64 2, .int .i64 r0, .int .i64 r1, .int .i64 r2, .int .i64 r3, .int .i64 r4, .int .i64 r5, .int .i64 r6, .int .i64 r7, .slice AS xs.length cS]] w (RetSysN w (pThen s k ⟨op, 2, [r0, r1, r2, r3, r4, r5, r6, r7], xs⟩ 3 1 0)) := by
  have hkl : k < s.C.length := (List.getElem?_eq_some_iff.1 hx).1
  have kl : (k : Int) < (s.C.length : Int) := by omega
  have k0 : (0 : Int) ≤ (k : Int) := by omega
  obtain ⟨b0, o0, rfl, hbl, hat⟩ := h.C (by omega)
  obtain ⟨AF, AR, cF, cR, hcs, rF, rR, hcF, hcR⟩ := (hat k x hx).cs4
  have u0 : w.cell? ⟨b0, o0 + k * 7, none⟩ = some (.slice AF x.F.length cF) := hcs 0 _ rfl
  have u1 : w.cell? ⟨b0, o0 + k * 7 + 1, none⟩ = some (.int .i64 x.v) := hcs 1 _ rfl
  have u2 : w.cell? ⟨b0, o0 + k * 7 + 2, none⟩ = some (.int .i64 x.e) := hcs 2 _ rfl
  have u3 : w.cell? ⟨b0, o0 + k * 7 + 3, none⟩ = some (.int .i64 x.x0) := hcs 3 _ rfl
  have u4 : w.cell? ⟨b0, o0 + k * 7 + 4, none⟩ = some (.int .i64 x.x1) := hcs 4 _ rfl
  have u5 : w.cell? ⟨b0, o0 + k * 7 + 5, none⟩ = some (.int .i64 x.x2) := hcs 5 _ rfl
  have u6 : w.cell? ⟨b0, o0 + k * 7 + 6, none⟩ = some (.slice AR x.ret.length cR) := hcs 6 _ rfl
  have HX := hid hx
  clear hat hcs hx rF hcF
  have h0 := hs.1
  have h1 := hs.2.1
  have H := SF.start w s A B (some ⟨b0, o0, none⟩) L a b c d #[.int .i64 op, .int .i64 2, .int .i64 r0, .int .i64 r1, .int .i64 r2, .int .i64 r3, .int .i64 r4, .int .i64 r5, .int .i64 r6, .int .i64 r7, .slice AS xs.length cS] h
  clear h
  go_enter Try.func46, Try.ntmps46
  go_upto_region 1 with (fail)
  generalize (((w.alloc (.cells #[.slice A s.M.W.length a, .slice B s.M.G.length b, .bool s.M.bad, .slice (some ⟨b0, o0, none⟩) s.C.length c, .slice L s.L.length d] 30)).alloc (.cells #[.int .i64 op, .int .i64 2, .int .i64 r0, .int .i64 r1, .int .i64 r2, .int .i64 r3, .int .i64 r4, .int .i64 r5, .int .i64 r6, .int .i64 r7, .slice AS xs.length cS] 44)).alloc (.cells #[.slice none 0 0, .slice none 0 0, .bool false, .slice none 0 0, .slice none 0 0] 30)) = w1 at *
  have z2 : w.heap.size + 1 + 1 < w1.heap.size := H.lt
  have z1 : w.heap.size + 1 < w1.heap.size := by omega
  have z0 : w.heap.size < w1.heap.size := by omega
  have d0 := (H.be.cell hbl).trans u0
  have d1 := (H.be.cell hbl).trans u1
  have d2 := (H.be.cell hbl).trans u2
  have d3 := (H.be.cell hbl).trans u3
  have d4 := (H.be.cell hbl).trans u4
  have d5 := (H.be.cell hbl).trans u5
  have d6 := (H.be.cell hbl).trans u6
  obtain ⟨p0, p1, p2, p3, p4⟩ := cells5 H.bS
  obtain ⟨f0, f1, f2, f3, f4, f5, f6, f7, f8, f9, f10⟩ := cells11 H.bF
  go_upto_region 2 with (fail)
  have hbx : Below w1.heap.size w1 (w1.alloc (.cells #[.slice AF x.F.length cF, .int .i64 x.v, .int .i64 x.e, .int .i64 x.x0, .int .i64 x.x1, .int .i64 x.x2, .slice AR x.ret.length cR] 51)) := boxed _ _
  have K := H.step hbx
  have bC := heap_alloc_new w1 (.cells #[.slice AF x.F.length cF, .int .i64 x.v, .int .i64 x.e, .int .i64 x.x0, .int .i64 x.x1, .int .i64 x.x2, .slice AR x.ret.length cR] 51)
  clear H hbx z0 z1 z2 d0 u0 d1 u1 d2 u2 d3 u3 d4 u4 d5 u5 d6 u6
  obtain ⟨vC, hv⟩ : ∃ v, w1.heap.size = v := ⟨_, rfl⟩
  rw [hv] at bC ⊢
  clear hv
  generalize (w1.alloc (.cells #[.slice AF x.F.length cF, .int .i64 x.v, .int .i64 x.e, .int .i64 x.x0, .int .i64 x.x1, .int .i64 x.x2, .slice AR x.ret.length cR] 51)) = w2 at *
  have H := K
  clear K
  clear p0 p1 p2 p3 p4 f0 f1 f2 f3 f4 f5 f6 f7 f8 f9 f10
  have z2 : w.heap.size + 1 + 1 < w2.heap.size := H.lt
  have z1 : w.heap.size + 1 < w2.heap.size := by omega
  have z0 : w.heap.size < w2.heap.size := by omega
  obtain ⟨g0, g1, g2, g3, g4, g5, g6⟩ := cells7 bC
  obtain ⟨p0, p1, p2, p3, p4⟩ := cells5 H.bS
  obtain ⟨f0, f1, f2, f3, f4, f5, f6, f7, f8, f9, f10⟩ := cells11 H.bF
  have HA := hid (show ∀ w', RS w' s A B (some ⟨b0, o0, none⟩) L → Row w' AS xs → Calls Try.prog 62 #[.agg #[.slice A s.M.W.length a, .slice B s.M.G.length b, .bool s.M.bad, .slice (some ⟨b0, o0, none⟩) s.C.length c, .slice L s.L.length d], .int .i64 k, .agg #[.int .i64 op, .int .i64 2, .int .i64 r0, .int .i64 r1, .int .i64 r2, .int .i64 r3, .int .i64 r4, .int .i64 r5, .int .i64 r6, .int .i64 r7, .slice AS xs.length cS], .int .i64 1, .slice none 0 0] w' (RetSysN w' (pThen s k ⟨op, 2, [r0, r1, r2, r3, r4, r5, r6, r7], xs⟩ 3 1 0)) from fun w' k1 k2 => acall_0 A B (some ⟨b0, o0, none⟩) L a b c d s k AS cS op 2 r0 r1 r2 r3 r4 r5 r6 r7 xs 3 1 w' hs hg k1 k2 h6 (by unfold wrap64; rfl))
  go_wp2_with (go_at_call 62; (with_reducible refine (HA.out _ H.rs (hS.step H.be)).mono ?_); rintro e wz hN; have hz := hN.2; obtain ⟨A9, B9, C9, L9, a9, b9, c9, d9, he, _, _, _, _, _⟩ := hN.1 wz (Turn.refl _ _); subst he; have HN := hid hN; clear hN; have kR := (hz.block (w.heap.size + 1 + 1) z2).trans H.bR; have kb := bstep H.be hz; obtain ⟨q0, q1, q2, q3, q4⟩ := cells5 kR; obtain ⟨qf0, qf1, qf2, qf3, qf4⟩ := frz5 kR)
  refine bodyPost_ret (v := .agg #[.slice A9 (pThen s k ⟨op, 2, [r0, r1, r2, r3, r4, r5, r6, r7], xs⟩ 3 1 0).M.W.length a9, .slice B9 (pThen s k ⟨op, 2, [r0, r1, r2, r3, r4, r5, r6, r7], xs⟩ 3 1 0).M.G.length b9, .bool (pThen s k ⟨op, 2, [r0, r1, r2, r3, r4, r5, r6, r7], xs⟩ 3 1 0).M.bad, .slice C9 (pThen s k ⟨op, 2, [r0, r1, r2, r3, r4, r5, r6, r7], xs⟩ 3 1 0).C.length c9, .slice L9 (pThen s k ⟨op, 2, [r0, r1, r2, r3, r4, r5, r6, r7], xs⟩ 3 1 0).L.length d9]) (by simp [results, Try.results46, go_sem, q0, q1, q2, q3, q4]) rfl ?_
  exact ret_resN _ _ _ _ _ HN.out z2 (by omega) kb

set_option maxRecDepth 100000 in
set_option maxHeartbeats 4000000 in
theorem aall_3 (A B C L : Option Addr) (a b c d : Nat) (s : Sy) (k : Nat) (x : Co) (AS : Option Addr) (cS : Nat) (op r0 r1 r2 r3 r4 r5 r6 r7 : Int) (xs : List Int) (w : World) (hs : SyFew s) (hg : 2 ≤ s.M.G.length) (h : RS w s A B C L) (hS : Row w AS xs) (h6 : xs.length ≤ 1000000) (hx : s.C[k]? = some x)  :
    Calls Try.prog 46 #[.agg #[.slice A s.M.W.length a, .slice B s.M.G.length b, .bool s.M.bad, .slice C s.C.length c, .slice L s.L.length d], .int .i64 k, .agg #[.int .i64 op, .int .i64 3, .int .i64 r0, .int .i64 r1, .int .i64 r2, .int .i64 r3, .int .i64 r4, .int .i64 r5, .int .i64 r6, .int .i64 r7, .slice AS xs.length cS]] w (RetSysN w (pBack s k x.v x.e)) := by
  have hkl : k < s.C.length := (List.getElem?_eq_some_iff.1 hx).1
  have kl : (k : Int) < (s.C.length : Int) := by omega
  have k0 : (0 : Int) ≤ (k : Int) := by omega
  obtain ⟨b0, o0, rfl, hbl, hat⟩ := h.C (by omega)
  obtain ⟨AF, AR, cF, cR, hcs, rF, rR, hcF, hcR⟩ := (hat k x hx).cs4
  have u0 : w.cell? ⟨b0, o0 + k * 7, none⟩ = some (.slice AF x.F.length cF) := hcs 0 _ rfl
  have u1 : w.cell? ⟨b0, o0 + k * 7 + 1, none⟩ = some (.int .i64 x.v) := hcs 1 _ rfl
  have u2 : w.cell? ⟨b0, o0 + k * 7 + 2, none⟩ = some (.int .i64 x.e) := hcs 2 _ rfl
  have u3 : w.cell? ⟨b0, o0 + k * 7 + 3, none⟩ = some (.int .i64 x.x0) := hcs 3 _ rfl
  have u4 : w.cell? ⟨b0, o0 + k * 7 + 4, none⟩ = some (.int .i64 x.x1) := hcs 4 _ rfl
  have u5 : w.cell? ⟨b0, o0 + k * 7 + 5, none⟩ = some (.int .i64 x.x2) := hcs 5 _ rfl
  have u6 : w.cell? ⟨b0, o0 + k * 7 + 6, none⟩ = some (.slice AR x.ret.length cR) := hcs 6 _ rfl
  have HX := hid hx
  clear hat hcs hx rF hcF
  have h0 := hs.1
  have h1 := hs.2.1
  have H := SF.start w s A B (some ⟨b0, o0, none⟩) L a b c d #[.int .i64 op, .int .i64 3, .int .i64 r0, .int .i64 r1, .int .i64 r2, .int .i64 r3, .int .i64 r4, .int .i64 r5, .int .i64 r6, .int .i64 r7, .slice AS xs.length cS] h
  clear h
  go_enter Try.func46, Try.ntmps46
  go_upto_region 1 with (fail)
  generalize (((w.alloc (.cells #[.slice A s.M.W.length a, .slice B s.M.G.length b, .bool s.M.bad, .slice (some ⟨b0, o0, none⟩) s.C.length c, .slice L s.L.length d] 30)).alloc (.cells #[.int .i64 op, .int .i64 3, .int .i64 r0, .int .i64 r1, .int .i64 r2, .int .i64 r3, .int .i64 r4, .int .i64 r5, .int .i64 r6, .int .i64 r7, .slice AS xs.length cS] 44)).alloc (.cells #[.slice none 0 0, .slice none 0 0, .bool false, .slice none 0 0, .slice none 0 0] 30)) = w1 at *
  have z2 : w.heap.size + 1 + 1 < w1.heap.size := H.lt
  have z1 : w.heap.size + 1 < w1.heap.size := by omega
  have z0 : w.heap.size < w1.heap.size := by omega
  have d0 := (H.be.cell hbl).trans u0
  have d1 := (H.be.cell hbl).trans u1
  have d2 := (H.be.cell hbl).trans u2
  have d3 := (H.be.cell hbl).trans u3
  have d4 := (H.be.cell hbl).trans u4
  have d5 := (H.be.cell hbl).trans u5
  have d6 := (H.be.cell hbl).trans u6
  obtain ⟨p0, p1, p2, p3, p4⟩ := cells5 H.bS
  obtain ⟨f0, f1, f2, f3, f4, f5, f6, f7, f8, f9, f10⟩ := cells11 H.bF
  go_upto_region 2 with (fail)
  have hbx : Below w1.heap.size w1 (w1.alloc (.cells #[.slice AF x.F.length cF, .int .i64 x.v, .int .i64 x.e, .int .i64 x.x0, .int .i64 x.x1, .int .i64 x.x2, .slice AR x.ret.length cR] 51)) := boxed _ _
  have K := H.step hbx
  have bC := heap_alloc_new w1 (.cells #[.slice AF x.F.length cF, .int .i64 x.v, .int .i64 x.e, .int .i64 x.x0, .int .i64 x.x1, .int .i64 x.x2, .slice AR x.ret.length cR] 51)
  clear H hbx z0 z1 z2 d0 u0 d1 u1 d2 u2 d3 u3 d4 u4 d5 u5 d6 u6
  obtain ⟨vC, hv⟩ : ∃ v, w1.heap.size = v := ⟨_, rfl⟩
  rw [hv] at bC ⊢
  clear hv
  generalize (w1.alloc (.cells #[.slice AF x.F.length cF, .int .i64 x.v, .int .i64 x.e, .int .i64 x.x0, .int .i64 x.x1, .int .i64 x.x2, .slice AR x.ret.length cR] 51)) = w2 at *
  have H := K
  clear K
  clear p0 p1 p2 p3 p4 f0 f1 f2 f3 f4 f5 f6 f7 f8 f9 f10
  have z2 : w.heap.size + 1 + 1 < w2.heap.size := H.lt
  have z1 : w.heap.size + 1 < w2.heap.size := by omega
  have z0 : w.heap.size < w2.heap.size := by omega
  obtain ⟨g0, g1, g2, g3, g4, g5, g6⟩ := cells7 bC
  obtain ⟨p0, p1, p2, p3, p4⟩ := cells5 H.bS
  obtain ⟨f0, f1, f2, f3, f4, f5, f6, f7, f8, f9, f10⟩ := cells11 H.bF
  go_wp2_with (go_at_call 63; (with_reducible refine (back_uN A B (some ⟨b0, o0, none⟩) L a b c d s k x.v x.e _ hs H.rs).mono ?_); rintro e wz hN; have hz := hN.2; obtain ⟨A9, B9, C9, L9, a9, b9, c9, d9, he, _, _, _, _, _⟩ := hN.1 wz (Turn.refl _ _); subst he; have HN := hid hN; clear hN; have kR := (hz.block (w.heap.size + 1 + 1) z2).trans H.bR; have kb := bstep H.be hz; obtain ⟨q0, q1, q2, q3, q4⟩ := cells5 kR; obtain ⟨qf0, qf1, qf2, qf3, qf4⟩ := frz5 kR)
  refine bodyPost_ret (v := .agg #[.slice A9 (pBack s k x.v x.e).M.W.length a9, .slice B9 (pBack s k x.v x.e).M.G.length b9, .bool (pBack s k x.v x.e).M.bad, .slice C9 (pBack s k x.v x.e).C.length c9, .slice L9 (pBack s k x.v x.e).L.length d9]) (by simp [results, Try.results46, go_sem, q0, q1, q2, q3, q4]) rfl ?_
  exact ret_resN _ _ _ _ _ HN.out z2 (by omega) kb

set_option maxRecDepth 100000 in
set_option maxHeartbeats 4000000 in
theorem aall_x (A B C L : Option Addr) (a b c d : Nat) (s : Sy) (k : Nat) (x : Co) (AS : Option Addr) (cS : Nat) (op pc r0 r1 r2 r3 r4 r5 r6 r7 : Int) (xs : List Int) (w : World) (hs : SyFew s) (hg : 2 ≤ s.M.G.length) (h : RS w s A B C L) (hS : Row w AS xs) (h6 : xs.length ≤ 1000000) (hx : s.C[k]? = some x) (hp : pTop s k = some ⟨op, pc, [r0, r1, r2, r3, r4, r5, r6, r7], xs⟩) (q0 : ¬ pc = 0) (q1 : ¬ pc = 1) (q2 : ¬ pc = 2) (q3 : ¬ pc = 3) :
    Calls Try.prog 46 #[.agg #[.slice A s.M.W.length a, .slice B s.M.G.length b, .bool s.M.bad, .slice C s.C.length c, .slice L s.L.length d], .int .i64 k, .agg #[.int .i64 op, .int .i64 pc, .int .i64 r0, .int .i64 r1, .int .i64 r2, .int .i64 r3, .int .i64 r4, .int .i64 r5, .int .i64 r6, .int .i64 r7, .slice AS xs.length cS]] w (RetSysN w (s)) := by
  have e0 : (pc == 0) = false := by simpa using q0
  have e1 : (pc == 1) = false := by simpa using q1
  have e2 : (pc == 2) = false := by simpa using q2
  have e3 : (pc == 3) = false := by simpa using q3
  clear q0 q1 q2 q3
  have hkl : k < s.C.length := (List.getElem?_eq_some_iff.1 hx).1
  have kl : (k : Int) < (s.C.length : Int) := by omega
  have k0 : (0 : Int) ≤ (k : Int) := by omega
  obtain ⟨b0, o0, rfl, hbl, hat⟩ := h.C (by omega)
  obtain ⟨AF, AR, cF, cR, hcs, rF, rR, hcF, hcR⟩ := (hat k x hx).cs4
  have u0 : w.cell? ⟨b0, o0 + k * 7, none⟩ = some (.slice AF x.F.length cF) := hcs 0 _ rfl
  have u1 : w.cell? ⟨b0, o0 + k * 7 + 1, none⟩ = some (.int .i64 x.v) := hcs 1 _ rfl
  have u2 : w.cell? ⟨b0, o0 + k * 7 + 2, none⟩ = some (.int .i64 x.e) := hcs 2 _ rfl
  have u3 : w.cell? ⟨b0, o0 + k * 7 + 3, none⟩ = some (.int .i64 x.x0) := hcs 3 _ rfl
  have u4 : w.cell? ⟨b0, o0 + k * 7 + 4, none⟩ = some (.int .i64 x.x1) := hcs 4 _ rfl
  have u5 : w.cell? ⟨b0, o0 + k * 7 + 5, none⟩ = some (.int .i64 x.x2) := hcs 5 _ rfl
  have u6 : w.cell? ⟨b0, o0 + k * 7 + 6, none⟩ = some (.slice AR x.ret.length cR) := hcs 6 _ rfl
  have HX := hid hx
  clear hat hcs hx rF hcF
  have h0 := hs.1
  have h1 := hs.2.1
  have H := SF.start w s A B (some ⟨b0, o0, none⟩) L a b c d #[.int .i64 op, .int .i64 pc, .int .i64 r0, .int .i64 r1, .int .i64 r2, .int .i64 r3, .int .i64 r4, .int .i64 r5, .int .i64 r6, .int .i64 r7, .slice AS xs.length cS] h
  clear h
  go_enter Try.func46, Try.ntmps46
  go_upto_region 1 with (fail)
  generalize (((w.alloc (.cells #[.slice A s.M.W.length a, .slice B s.M.G.length b, .bool s.M.bad, .slice (some ⟨b0, o0, none⟩) s.C.length c, .slice L s.L.length d] 30)).alloc (.cells #[.int .i64 op, .int .i64 pc, .int .i64 r0, .int .i64 r1, .int .i64 r2, .int .i64 r3, .int .i64 r4, .int .i64 r5, .int .i64 r6, .int .i64 r7, .slice AS xs.length cS] 44)).alloc (.cells #[.slice none 0 0, .slice none 0 0, .bool false, .slice none 0 0, .slice none 0 0] 30)) = w1 at *
  have z2 : w.heap.size + 1 + 1 < w1.heap.size := H.lt
  have z1 : w.heap.size + 1 < w1.heap.size := by omega
  have z0 : w.heap.size < w1.heap.size := by omega
  have d0 := (H.be.cell hbl).trans u0
  have d1 := (H.be.cell hbl).trans u1
  have d2 := (H.be.cell hbl).trans u2
  have d3 := (H.be.cell hbl).trans u3
  have d4 := (H.be.cell hbl).trans u4
  have d5 := (H.be.cell hbl).trans u5
  have d6 := (H.be.cell hbl).trans u6
  obtain ⟨p0, p1, p2, p3, p4⟩ := cells5 H.bS
  obtain ⟨f0, f1, f2, f3, f4, f5, f6, f7, f8, f9, f10⟩ := cells11 H.bF
  go_upto_region 2 with (fail)
  have hbx : Below w1.heap.size w1 (w1.alloc (.cells #[.slice AF x.F.length cF, .int .i64 x.v, .int .i64 x.e, .int .i64 x.x0, .int .i64 x.x1, .int .i64 x.x2, .slice AR x.ret.length cR] 51)) := boxed _ _
  have K := H.step hbx
  have bC := heap_alloc_new w1 (.cells #[.slice AF x.F.length cF, .int .i64 x.v, .int .i64 x.e, .int .i64 x.x0, .int .i64 x.x1, .int .i64 x.x2, .slice AR x.ret.length cR] 51)
  clear H hbx z0 z1 z2 d0 u0 d1 u1 d2 u2 d3 u3 d4 u4 d5 u5 d6 u6
  obtain ⟨vC, hv⟩ : ∃ v, w1.heap.size = v := ⟨_, rfl⟩
  rw [hv] at bC ⊢
  clear hv
  generalize (w1.alloc (.cells #[.slice AF x.F.length cF, .int .i64 x.v, .int .i64 x.e, .int .i64 x.x0, .int .i64 x.x1, .int .i64 x.x2, .slice AR x.ret.length cR] 51)) = w2 at *
  have H := K
  clear K
  clear p0 p1 p2 p3 p4 f0 f1 f2 f3 f4 f5 f6 f7 f8 f9 f10
  have z2 : w.heap.size + 1 + 1 < w2.heap.size := H.lt
  have z1 : w.heap.size + 1 < w2.heap.size := by omega
  have z0 : w.heap.size < w2.heap.size := by omega
  obtain ⟨g0, g1, g2, g3, g4, g5, g6⟩ := cells7 bC
  obtain ⟨p0, p1, p2, p3, p4⟩ := cells5 H.bS
  obtain ⟨f0, f1, f2, f3, f4, f5, f6, f7, f8, f9, f10⟩ := cells11 H.bF
  have HSet := hid (show ∀ w', RS w' s A B (some ⟨b0, o0, none⟩) L → Row w' AS xs → Calls Try.prog 42 #[.agg #[.slice A s.M.W.length a, .slice B s.M.G.length b, .bool s.M.bad, .slice (some ⟨b0, o0, none⟩) s.C.length c, .slice L s.L.length d], .int .i64 k, .agg #[.int .i64 op, .int .i64 pc, .int .i64 r0, .int .i64 r1, .int .i64 r2, .int .i64 r3, .int .i64 r4, .int .i64 r5, .int .i64 r6, .int .i64 r7, .slice AS xs.length cS]] w' (RetSysN w' s) from fun w' k1 k2 => by have h9 := set_uN A B (some ⟨b0, o0, none⟩) L a b c d s k AS cS op pc r0 r1 r2 r3 r4 r5 r6 r7 xs w' hs k1 k2 h6; rw [pSet_top hp] at h9; exact h9)
  go_wp2_with (go_at_call 42; (with_reducible refine (HSet.out _ H.rs (hS.step H.be)).mono ?_); rintro e wz hN; have hz := hN.2; obtain ⟨A9, B9, C9, L9, a9, b9, c9, d9, he, _, _, _, _, _⟩ := hN.1 wz (Turn.refl _ _); subst he; have HN := hid hN; clear hN; have kR := (hz.block (w.heap.size + 1 + 1) z2).trans H.bR; have kb := bstep H.be hz; obtain ⟨q0, q1, q2, q3, q4⟩ := cells5 kR; obtain ⟨qf0, qf1, qf2, qf3, qf4⟩ := frz5 kR)
  refine bodyPost_ret (v := .agg #[.slice A9 s.M.W.length a9, .slice B9 s.M.G.length b9, .bool s.M.bad, .slice C9 s.C.length c9, .slice L9 s.L.length d9]) (by simp [results, Try.results46, go_sem, q0, q1, q2, q3, q4]) rfl ?_
  exact ret_resN _ _ _ _ _ HN.out z2 (by omega) kb

end Go.Proofs.Ytiakabnfjegeeaa

/- Contract: alloc.Step, by the program. -/
namespace Go.Proofs.Ytiakabnfjegeeaa
open Go.RowKit
set_option linter.unusedVariables false
set_option linter.unusedSimpArgs false

set_option maxRecDepth 100000 in
set_option maxHeartbeats 4000000 in
theorem alst_none (A B C L : Option Addr) (a b c d : Nat) (s : Sy) (i : Int) (w : World) (hs : SyFew s) (hg : 2 ≤ s.M.G.length) (h : RS w s A B C L) (hL : s.L.length ≤ 999998) (hr : ∀ f, pTop s i = some f → W64 (f.R.getD 0 0)) (hp : pTop s i = none) :
    Calls Try.prog 26 #[.agg #[.slice A s.M.W.length a, .slice B s.M.G.length b, .bool s.M.bad, .slice C s.C.length c, .slice L s.L.length d], .int .i64 i] w (RetSysN w (pScan s i)) := by
  have HC := hid (show ∀ w', RS w' s A B C L → Calls Try.prog 18 #[.agg #[.slice A s.M.W.length a, .slice B s.M.G.length b, .bool s.M.bad, .slice C s.C.length c, .slice L s.L.length d], .int .i64 i] w' (RetSysN w' (pScan s i)) from fun w' k => scst_any A B C L a b c d s i w' hs hg k hL hr)
  clear hL hr
  obtain ⟨t9, ht9⟩ : ∃ t, t = pScan s i := ⟨_, rfl⟩
  rw [← ht9] at HC ⊢
  clear ht9
  obtain ⟨b1, b2, bs⟩ := heap2 w (.cells #[.slice A s.M.W.length a, .slice B s.M.G.length b, .bool s.M.bad, .slice C s.C.length c, .slice L s.L.length d] 30) (.cells #[.slice none 0 0, .slice none 0 0, .bool false, .slice none 0 0, .slice none 0 0] 30)
  have hb : Below w.heap.size w ((w.alloc (.cells #[.slice A s.M.W.length a, .slice B s.M.G.length b, .bool s.M.bad, .slice C s.C.length c, .slice L s.L.length d] 30)).alloc (.cells #[.slice none 0 0, .slice none 0 0, .bool false, .slice none 0 0, .slice none 0 0] 30)) := bstep (boxed _ _) (boxed _ _)
  have z1 : w.heap.size + 1 < ((w.alloc (.cells #[.slice A s.M.W.length a, .slice B s.M.G.length b, .bool s.M.bad, .slice C s.C.length c, .slice L s.L.length d] 30)).alloc (.cells #[.slice none 0 0, .slice none 0 0, .bool false, .slice none 0 0, .slice none 0 0] 30)).heap.size := by simp
  clear bs
  go_enter Try.func26, Try.ntmps26
  go_upto_region 1 with (fail)
  generalize ((w.alloc (.cells #[.slice A s.M.W.length a, .slice B s.M.G.length b, .bool s.M.bad, .slice C s.C.length c, .slice L s.L.length d] 30)).alloc (.cells #[.slice none 0 0, .slice none 0 0, .bool false, .slice none 0 0, .slice none 0 0] 30)) = w1 at *
  have K := h.step hb
  obtain ⟨p0, p1, p2, p3, p4⟩ := cells5 b1
  go_upto_region 2 with (go_at_call 40; (with_reducible refine (top_no A B C L a b c d s i _ hs K hp).mono ?_); rintro e wk ⟨rfl, hk⟩)
  have rF : Row wk none [] := Row.nil _ _
  clear p0 p1 p2 p3 p4
  have hj : Below w1.heap.size w1 (wk.alloc (.cells #[.int .i64 0, .int .i64 0, .int .i64 0, .int .i64 0, .int .i64 0, .int .i64 0, .int .i64 0, .int .i64 0, .int .i64 0, .int .i64 0, .slice none 0 0] 44)) := bstep hk (boxed _ _)
  have b3 := heap_alloc_new wk (.cells #[.int .i64 0, .int .i64 0, .int .i64 0, .int .i64 0, .int .i64 0, .int .i64 0, .int .i64 0, .int .i64 0, .int .i64 0, .int .i64 0, .slice none 0 0] 44)
  replace b1 := (hj.block w.heap.size (by omega)).trans b1
  replace b2 := (hj.block (w.heap.size + 1) z1).trans b2
  replace K := K.step hj
  replace hb := bstep hb hj
  replace z1 := Nat.lt_of_lt_of_le z1 hj.size
  replace rF := rF.alloc (.cells #[.int .i64 0, .int .i64 0, .int .i64 0, .int .i64 0, .int .i64 0, .int .i64 0, .int .i64 0, .int .i64 0, .int .i64 0, .int .i64 0, .slice none 0 0] 44)
  clear hk hj
  obtain ⟨vF, hv⟩ : ∃ v, wk.heap.size = v := ⟨_, rfl⟩
  rw [hv] at b3 ⊢
  clear hv
  generalize (wk.alloc (.cells #[.int .i64 0, .int .i64 0, .int .i64 0, .int .i64 0, .int .i64 0, .int .i64 0, .int .i64 0, .int .i64 0, .int .i64 0, .int .i64 0, .slice none 0 0] 44)) = w3 at *
  obtain ⟨p0, p1, p2, p3, p4⟩ := cells5 b1
  obtain ⟨f0, f1, f2, f3, f4, f5, f6, f7, f8, f9, f10⟩ := cells11 b3
  go_wp2_with (go_at_call 18; (with_reducible refine (HC.out _ K).mono ?_); rintro e wz hN; have hz := hN.2; obtain ⟨A9, B9, C9, L9, a9, b9, c9, d9, he, _, _, _, _, _⟩ := hN.1 wz (Turn.refl _ _); subst he; have HN := hid hN; clear hN; have kR := (hz.block (w.heap.size + 1) z1).trans b2; have kb := bstep hb hz; obtain ⟨q0, q1, q2, q3, q4⟩ := cells5 kR; obtain ⟨qf0, qf1, qf2, qf3, qf4⟩ := frz5 kR)
  refine bodyPost_ret (v := .agg #[.slice A9 t9.M.W.length a9, .slice B9 t9.M.G.length b9, .bool t9.M.bad, .slice C9 t9.C.length c9, .slice L9 t9.L.length d9]) (by simp [results, Try.results26, go_sem, q0, q1, q2, q3, q4]) rfl ?_
  exact ret_resN _ _ _ _ _ HN.out z1 (by omega) kb

set_option maxRecDepth 100000 in
set_option maxHeartbeats 4000000 in
theorem alst_x (A B C L : Option Addr) (a b c d : Nat) (s : Sy) (i : Int) (op pc r0 r1 r2 r3 r4 r5 r6 r7 : Int) (xs : List Int) (w : World) (hs : SyFew s) (hg : 2 ≤ s.M.G.length) (h : RS w s A B C L) (hL : s.L.length ≤ 999998) (hr : ∀ f, pTop s i = some f → W64 (f.R.getD 0 0)) (hp : pTop s i = some ⟨op, pc, [r0, r1, r2, r3, r4, r5, r6, r7], xs⟩) (h6 : xs.length ≤ 1000000) (o1 : ¬ op = 7) (o2 : ¬ op = 8) :
    Calls Try.prog 26 #[.agg #[.slice A s.M.W.length a, .slice B s.M.G.length b, .bool s.M.bad, .slice C s.C.length c, .slice L s.L.length d], .int .i64 i] w (RetSysN w (pScan s i)) := by
  have e1 : (op == 7) = false := by simpa using o1
  have e2 : (op == 8) = false := by simpa using o2
  clear o1 o2
  have HC := hid (show ∀ w', RS w' s A B C L → Calls Try.prog 18 #[.agg #[.slice A s.M.W.length a, .slice B s.M.G.length b, .bool s.M.bad, .slice C s.C.length c, .slice L s.L.length d], .int .i64 i] w' (RetSysN w' (pScan s i)) from fun w' k => scst_any A B C L a b c d s i w' hs hg k hL hr)
  clear hL hr
  obtain ⟨t9, ht9⟩ : ∃ t, t = pScan s i := ⟨_, rfl⟩
  rw [← ht9] at HC ⊢
  clear ht9
  obtain ⟨b1, b2, bs⟩ := heap2 w (.cells #[.slice A s.M.W.length a, .slice B s.M.G.length b, .bool s.M.bad, .slice C s.C.length c, .slice L s.L.length d] 30) (.cells #[.slice none 0 0, .slice none 0 0, .bool false, .slice none 0 0, .slice none 0 0] 30)
  have hb : Below w.heap.size w ((w.alloc (.cells #[.slice A s.M.W.length a, .slice B s.M.G.length b, .bool s.M.bad, .slice C s.C.length c, .slice L s.L.length d] 30)).alloc (.cells #[.slice none 0 0, .slice none 0 0, .bool false, .slice none 0 0, .slice none 0 0] 30)) := bstep (boxed _ _) (boxed _ _)
  have z1 : w.heap.size + 1 < ((w.alloc (.cells #[.slice A s.M.W.length a, .slice B s.M.G.length b, .bool s.M.bad, .slice C s.C.length c, .slice L s.L.length d] 30)).alloc (.cells #[.slice none 0 0, .slice none 0 0, .bool false, .slice none 0 0, .slice none 0 0] 30)).heap.size := by simp
  clear bs
  go_enter Try.func26, Try.ntmps26
  go_upto_region 1 with (fail)
  generalize ((w.alloc (.cells #[.slice A s.M.W.length a, .slice B s.M.G.length b, .bool s.M.bad, .slice C s.C.length c, .slice L s.L.length d] 30)).alloc (.cells #[.slice none 0 0, .slice none 0 0, .bool false, .slice none 0 0, .slice none 0 0] 30)) = w1 at *
  have K := h.step hb
  obtain ⟨p0, p1, p2, p3, p4⟩ := cells5 b1
  go_upto_region 2 with (go_at_call 40; (with_reducible refine (top_is A B C L a b c d s i op pc r0 r1 r2 r3 r4 r5 r6 r7 xs _ hs K hp h6).mono ?_); rintro e wk ⟨AF, cF, rfl, rF, hk⟩)
  clear p0 p1 p2 p3 p4
  have hj : Below w1.heap.size w1 (wk.alloc (.cells #[.int .i64 op, .int .i64 pc, .int .i64 r0, .int .i64 r1, .int .i64 r2, .int .i64 r3, .int .i64 r4, .int .i64 r5, .int .i64 r6, .int .i64 r7, .slice AF xs.length cF] 44)) := bstep hk (boxed _ _)
  have b3 := heap_alloc_new wk (.cells #[.int .i64 op, .int .i64 pc, .int .i64 r0, .int .i64 r1, .int .i64 r2, .int .i64 r3, .int .i64 r4, .int .i64 r5, .int .i64 r6, .int .i64 r7, .slice AF xs.length cF] 44)
  replace b1 := (hj.block w.heap.size (by omega)).trans b1
  replace b2 := (hj.block (w.heap.size + 1) z1).trans b2
  replace K := K.step hj
  replace hb := bstep hb hj
  replace z1 := Nat.lt_of_lt_of_le z1 hj.size
  replace rF := rF.alloc (.cells #[.int .i64 op, .int .i64 pc, .int .i64 r0, .int .i64 r1, .int .i64 r2, .int .i64 r3, .int .i64 r4, .int .i64 r5, .int .i64 r6, .int .i64 r7, .slice AF xs.length cF] 44)
  clear hk hj
  obtain ⟨vF, hv⟩ : ∃ v, wk.heap.size = v := ⟨_, rfl⟩
  rw [hv] at b3 ⊢
  clear hv
  generalize (wk.alloc (.cells #[.int .i64 op, .int .i64 pc, .int .i64 r0, .int .i64 r1, .int .i64 r2, .int .i64 r3, .int .i64 r4, .int .i64 r5, .int .i64 r6, .int .i64 r7, .slice AF xs.length cF] 44)) = w3 at *
  obtain ⟨p0, p1, p2, p3, p4⟩ := cells5 b1
  obtain ⟨f0, f1, f2, f3, f4, f5, f6, f7, f8, f9, f10⟩ := cells11 b3
  go_wp2_with (go_at_call 18; (with_reducible refine (HC.out _ K).mono ?_); rintro e wz hN; have hz := hN.2; obtain ⟨A9, B9, C9, L9, a9, b9, c9, d9, he, _, _, _, _, _⟩ := hN.1 wz (Turn.refl _ _); subst he; have HN := hid hN; clear hN; have kR := (hz.block (w.heap.size + 1) z1).trans b2; have kb := bstep hb hz; obtain ⟨q0, q1, q2, q3, q4⟩ := cells5 kR; obtain ⟨qf0, qf1, qf2, qf3, qf4⟩ := frz5 kR)
  refine bodyPost_ret (v := .agg #[.slice A9 t9.M.W.length a9, .slice B9 t9.M.G.length b9, .bool t9.M.bad, .slice C9 t9.C.length c9, .slice L9 t9.L.length d9]) (by simp [results, Try.results26, go_sem, q0, q1, q2, q3, q4]) rfl ?_
  exact ret_resN _ _ _ _ _ HN.out z1 (by omega) kb

set_option maxRecDepth 100000 in
set_option maxHeartbeats 4000000 in
theorem alst_allocate (A B C L : Option Addr) (a b c d : Nat) (s : Sy) (i : Int) (t9 : Sy) (pc r0 r1 r2 r3 r4 r5 r6 r7 : Int) (xs : List Int) (w : World) (hs : SyFew s) (hg : 2 ≤ s.M.G.length) (h : RS w s A B C L) (hp : pTop s i = some ⟨7, pc, [r0, r1, r2, r3, r4, r5, r6, r7], xs⟩) (h6 : xs.length ≤ 1000000)
    (HC : ∀ (AF : Option Addr) (cF : Nat) w', RS w' s A B C L → Row w' AF xs → Calls Try.prog 46 #[.agg #[.slice A s.M.W.length a, .slice B s.M.G.length b, .bool s.M.bad, .slice C s.C.length c, .slice L s.L.length d], .int .i64 i, .agg #[.int .i64 7, .int .i64 pc, .int .i64 r0, .int .i64 r1, .int .i64 r2, .int .i64 r3, .int .i64 r4, .int .i64 r5, .int .i64 r6, .int .i64 r7, .slice AF xs.length cF]] w' (RetSysN w' t9)) :
    Calls Try.prog 26 #[.agg #[.slice A s.M.W.length a, .slice B s.M.G.length b, .bool s.M.bad, .slice C s.C.length c, .slice L s.L.length d], .int .i64 i] w (RetSysN w t9) := by
  have HC2 := hid HC
  clear HC
  obtain ⟨b1, b2, bs⟩ := heap2 w (.cells #[.slice A s.M.W.length a, .slice B s.M.G.length b, .bool s.M.bad, .slice C s.C.length c, .slice L s.L.length d] 30) (.cells #[.slice none 0 0, .slice none 0 0, .bool false, .slice none 0 0, .slice none 0 0] 30)
  have hb : Below w.heap.size w ((w.alloc (.cells #[.slice A s.M.W.length a, .slice B s.M.G.length b, .bool s.M.bad, .slice C s.C.length c, .slice L s.L.length d] 30)).alloc (.cells #[.slice none 0 0, .slice none 0 0, .bool false, .slice none 0 0, .slice none 0 0] 30)) := bstep (boxed _ _) (boxed _ _)
  have z1 : w.heap.size + 1 < ((w.alloc (.cells #[.slice A s.M.W.length a, .slice B s.M.G.length b, .bool s.M.bad, .slice C s.C.length c, .slice L s.L.length d] 30)).alloc (.cells #[.slice none 0 0, .slice none 0 0, .bool false, .slice none 0 0, .slice none 0 0] 30)).heap.size := by simp
  clear bs
  go_enter Try.func26, Try.ntmps26
  go_upto_region 1 with (fail)
  generalize ((w.alloc (.cells #[.slice A s.M.W.length a, .slice B s.M.G.length b, .bool s.M.bad, .slice C s.C.length c, .slice L s.L.length d] 30)).alloc (.cells #[.slice none 0 0, .slice none 0 0, .bool false, .slice none 0 0, .slice none 0 0] 30)) = w1 at *
  have K := h.step hb
  obtain ⟨p0, p1, p2, p3, p4⟩ := cells5 b1
  go_upto_region 2 with (go_at_call 40; (with_reducible refine (top_is A B C L a b c d s i 7 pc r0 r1 r2 r3 r4 r5 r6 r7 xs _ hs K hp h6).mono ?_); rintro e wk ⟨AF, cF, rfl, rF, hk⟩)
  clear p0 p1 p2 p3 p4
  have hj : Below w1.heap.size w1 (wk.alloc (.cells #[.int .i64 7, .int .i64 pc, .int .i64 r0, .int .i64 r1, .int .i64 r2, .int .i64 r3, .int .i64 r4, .int .i64 r5, .int .i64 r6, .int .i64 r7, .slice AF xs.length cF] 44)) := bstep hk (boxed _ _)
  have b3 := heap_alloc_new wk (.cells #[.int .i64 7, .int .i64 pc, .int .i64 r0, .int .i64 r1, .int .i64 r2, .int .i64 r3, .int .i64 r4, .int .i64 r5, .int .i64 r6, .int .i64 r7, .slice AF xs.length cF] 44)
  replace b1 := (hj.block w.heap.size (by omega)).trans b1
  replace b2 := (hj.block (w.heap.size + 1) z1).trans b2
  replace K := K.step hj
  replace hb := bstep hb hj
  replace z1 := Nat.lt_of_lt_of_le z1 hj.size
  replace rF := rF.alloc (.cells #[.int .i64 7, .int .i64 pc, .int .i64 r0, .int .i64 r1, .int .i64 r2, .int .i64 r3, .int .i64 r4, .int .i64 r5, .int .i64 r6, .int .i64 r7, .slice AF xs.length cF] 44)
  clear hk hj
  obtain ⟨vF, hv⟩ : ∃ v, wk.heap.size = v := ⟨_, rfl⟩
  rw [hv] at b3 ⊢
  clear hv
  generalize (wk.alloc (.cells #[.int .i64 7, .int .i64 pc, .int .i64 r0, .int .i64 r1, .int .i64 r2, .int .i64 r3, .int .i64 r4, .int .i64 r5, .int .i64 r6, .int .i64 r7, .slice AF xs.length cF] 44)) = w3 at *
  obtain ⟨p0, p1, p2, p3, p4⟩ := cells5 b1
  obtain ⟨f0, f1, f2, f3, f4, f5, f6, f7, f8, f9, f10⟩ := cells11 b3
  go_wp2_with (go_at_call 46; (with_reducible refine (HC2.out AF cF _ K rF).mono ?_); rintro e wz hN; have hz := hN.2; obtain ⟨A9, B9, C9, L9, a9, b9, c9, d9, he, _, _, _, _, _⟩ := hN.1 wz (Turn.refl _ _); subst he; have HN := hid hN; clear hN; have kR := (hz.block (w.heap.size + 1) z1).trans b2; have kb := bstep hb hz; obtain ⟨q0, q1, q2, q3, q4⟩ := cells5 kR; obtain ⟨qf0, qf1, qf2, qf3, qf4⟩ := frz5 kR)
  refine bodyPost_ret (v := .agg #[.slice A9 t9.M.W.length a9, .slice B9 t9.M.G.length b9, .bool t9.M.bad, .slice C9 t9.C.length c9, .slice L9 t9.L.length d9]) (by simp [results, Try.results26, go_sem, q0, q1, q2, q3, q4]) rfl ?_
  exact ret_resN _ _ _ _ _ HN.out z1 (by omega) kb

set_option maxRecDepth 100000 in
set_option maxHeartbeats 4000000 in
theorem alst_drop (A B C L : Option Addr) (a b c d : Nat) (s : Sy) (i : Int) (t9 : Sy) (pc r0 r1 r2 r3 r4 r5 r6 r7 : Int) (xs : List Int) (w : World) (hs : SyFew s) (hg : 2 ≤ s.M.G.length) (h : RS w s A B C L) (hp : pTop s i = some ⟨8, pc, [r0, r1, r2, r3, r4, r5, r6, r7], xs⟩) (h6 : xs.length ≤ 1000000)
    (HC : ∀ (AF : Option Addr) (cF : Nat) w', RS w' s A B C L → Row w' AF xs → Calls Try.prog 47 #[.agg #[.slice A s.M.W.length a, .slice B s.M.G.length b, .bool s.M.bad, .slice C s.C.length c, .slice L s.L.length d], .int .i64 i, .agg #[.int .i64 8, .int .i64 pc, .int .i64 r0, .int .i64 r1, .int .i64 r2, .int .i64 r3, .int .i64 r4, .int .i64 r5, .int .i64 r6, .int .i64 r7, .slice AF xs.length cF]] w' (RetSysN w' t9)) :
    Calls Try.prog 26 #[.agg #[.slice A s.M.W.length a, .slice B s.M.G.length b, .bool s.M.bad, .slice C s.C.length c, .slice L s.L.length d], .int .i64 i] w (RetSysN w t9) := by
  have HC2 := hid HC
  clear HC
  obtain ⟨b1, b2, bs⟩ := heap2 w (.cells #[.slice A s.M.W.length a, .slice B s.M.G.length b, .bool s.M.bad, .slice C s.C.length c, .slice L s.L.length d] 30) (.cells #[.slice none 0 0, .slice none 0 0, .bool false, .slice none 0 0, .slice none 0 0] 30)
  have hb : Below w.heap.size w ((w.alloc (.cells #[.slice A s.M.W.length a, .slice B s.M.G.length b, .bool s.M.bad, .slice C s.C.length c, .slice L s.L.length d] 30)).alloc (.cells #[.slice none 0 0, .slice none 0 0, .bool false, .slice none 0 0, .slice none 0 0] 30)) := bstep (boxed _ _) (boxed _ _)
  have z1 : w.heap.size + 1 < ((w.alloc (.cells #[.slice A s.M.W.length a, .slice B s.M.G.length b, .bool s.M.bad, .slice C s.C.length c, .slice L s.L.length d] 30)).alloc (.cells #[.slice none 0 0, .slice none 0 0, .bool false, .slice none 0 0, .slice none 0 0] 30)).heap.size := by simp
  clear bs
  go_enter Try.func26, Try.ntmps26
  go_upto_region 1 with (fail)
  generalize ((w.alloc (.cells #[.slice A s.M.W.length a, .slice B s.M.G.length b, .bool s.M.bad, .slice C s.C.length c, .slice L s.L.length d] 30)).alloc (.cells #[.slice none 0 0, .slice none 0 0, .bool false, .slice none 0 0, .slice none 0 0] 30)) = w1 at *
  have K := h.step hb
  obtain ⟨p0, p1, p2, p3, p4⟩ := cells5 b1
  go_upto_region 2 with (go_at_call 40; (with_reducible refine (top_is A B C L a b c d s i 8 pc r0 r1 r2 r3 r4 r5 r6 r7 xs _ hs K hp h6).mono ?_); rintro e wk ⟨AF, cF, rfl, rF, hk⟩)
  clear p0 p1 p2 p3 p4
  have hj : Below w1.heap.size w1 (wk.alloc (.cells #[.int .i64 8, .int .i64 pc, .int .i64 r0, .int .i64 r1, .int .i64 r2, .int .i64 r3, .int .i64 r4, .int .i64 r5, .int .i64 r6, .int .i64 r7, .slice AF xs.length cF] 44)) := bstep hk (boxed _ _)
  have b3 := heap_alloc_new wk (.cells #[.int .i64 8, .int .i64 pc, .int .i64 r0, .int .i64 r1, .int .i64 r2, .int .i64 r3, .int .i64 r4, .int .i64 r5, .int .i64 r6, .int .i64 r7, .slice AF xs.length cF] 44)
  replace b1 := (hj.block w.heap.size (by omega)).trans b1
  replace b2 := (hj.block (w.heap.size + 1) z1).trans b2
  replace K := K.step hj
  replace hb := bstep hb hj
  replace z1 := Nat.lt_of_lt_of_le z1 hj.size
  replace rF := rF.alloc (.cells #[.int .i64 8, .int .i64 pc, .int .i64 r0, .int .i64 r1, .int .i64 r2, .int .i64 r3, .int .i64 r4, .int .i64 r5, .int .i64 r6, .int .i64 r7, .slice AF xs.length cF] 44)
  clear hk hj
  obtain ⟨vF, hv⟩ : ∃ v, wk.heap.size = v := ⟨_, rfl⟩
  rw [hv] at b3 ⊢
  clear hv
  generalize (wk.alloc (.cells #[.int .i64 8, .int .i64 pc, .int .i64 r0, .int .i64 r1, .int .i64 r2, .int .i64 r3, .int .i64 r4, .int .i64 r5, .int .i64 r6, .int .i64 r7, .slice AF xs.length cF] 44)) = w3 at *
  obtain ⟨p0, p1, p2, p3, p4⟩ := cells5 b1
  obtain ⟨f0, f1, f2, f3, f4, f5, f6, f7, f8, f9, f10⟩ := cells11 b3
  go_wp2_with (go_at_call 47; (with_reducible refine (HC2.out AF cF _ K rF).mono ?_); rintro e wz hN; have hz := hN.2; obtain ⟨A9, B9, C9, L9, a9, b9, c9, d9, he, _, _, _, _, _⟩ := hN.1 wz (Turn.refl _ _); subst he; have HN := hid hN; clear hN; have kR := (hz.block (w.heap.size + 1) z1).trans b2; have kb := bstep hb hz; obtain ⟨q0, q1, q2, q3, q4⟩ := cells5 kR; obtain ⟨qf0, qf1, qf2, qf3, qf4⟩ := frz5 kR)
  refine bodyPost_ret (v := .agg #[.slice A9 t9.M.W.length a9, .slice B9 t9.M.G.length b9, .bool t9.M.bad, .slice C9 t9.C.length c9, .slice L9 t9.L.length d9]) (by simp [results, Try.results26, go_sem, q0, q1, q2, q3, q4]) rfl ?_
  exact ret_resN _ _ _ _ _ HN.out z1 (by omega) kb

theorem alst_any (A B C L : Option Addr) (a b c d : Nat) (s : Sy) (i : Int) (w : World) (hs : SyFew s) (hg : 2 ≤ s.M.G.length) (h : RS w s A B C L) (hL : s.L.length ≤ 999998) (hr : ∀ f, pTop s i = some f → W64 (f.R.getD 0 0)) :
    Calls Try.prog 26 #[.agg #[.slice A s.M.W.length a, .slice B s.M.G.length b, .bool s.M.bad, .slice C s.C.length c, .slice L s.L.length d], .int .i64 i] w (RetSysN w (pAlc s i)) := by
  rcases pTop_cases s i hs h.C with hp | ⟨op, pc, r0, r1, r2, r3, r4, r5, r6, r7, xs, hp, h6⟩
  · have e : pAlc s i = pScan s i := by unfold pAlc pScan; rw [hp]
    rw [e]
    exact alst_none A B C L a b c d s i w hs hg h hL hr hp
  · by_cases o1 : op = 7
    · subst o1
      obtain ⟨k, n, x, rfl, hx, _, _⟩ := pTop_out hp
      have e : pAlc s (k : Int) = pAlloc s (k : Int) ⟨7, pc, [r0, r1, r2, r3, r4, r5, r6, r7], xs⟩ s := by unfold pAlc; rw [hp]; simp
      rw [e]
      refine alst_allocate A B C L a b c d s (k : Int) _ pc r0 r1 r2 r3 r4 r5 r6 r7 xs w hs hg h hp h6 (fun AF cF w' k1 k2 => ?_)
      unfold pAlloc
      simp only [pE_nat hx, pV_nat hx, pRet_nat hx]
      by_cases q0 : pc = 0
      · subst q0; rw [if_pos rfl]; exact aall_0 A B C L a b c d s k x AF cF 7 r0 r1 r2 r3 r4 r5 r6 r7 xs w' hs hg k1 k2 h6 hx
      · rw [if_neg q0]
        by_cases q1 : pc = 1
        · subst q1; rw [if_pos rfl]
          by_cases qe : x.e = 0
          · rw [if_pos qe]; exact aall_1a A B C L a b c d s k x AF cF 7 r0 r1 r2 r3 r4 r5 r6 r7 xs w' hs hg k1 k2 h6 hx qe
          · rw [if_neg qe]
            by_cases qn : x.ret.length = 0
            · rw [if_pos qn]; exact aall_1b A B C L a b c d s k x AF cF 7 r0 r1 r2 r3 r4 r5 r6 r7 xs w' hs hg k1 k2 h6 hx qe qn
            · rw [if_neg qn]; exact aall_1c A B C L a b c d s k x AF cF 7 r0 r1 r2 r3 r4 r5 r6 r7 xs w' hs hg k1 k2 h6 hx qe qn
        · rw [if_neg q1]
          by_cases q2 : pc = 2
          · subst q2; rw [if_pos rfl]; exact aall_2 A B C L a b c d s k x AF cF 7 r0 r1 r2 r3 r4 r5 r6 r7 xs w' hs hg k1 k2 h6 hx
          · rw [if_neg q2]
            by_cases q3 : pc = 3
            · subst q3; rw [if_pos rfl]; exact aall_3 A B C L a b c d s k x AF cF 7 r0 r1 r2 r3 r4 r5 r6 r7 xs w' hs hg k1 k2 h6 hx
            · rw [if_neg q3]; exact aall_x A B C L a b c d s k x AF cF 7 pc r0 r1 r2 r3 r4 r5 r6 r7 xs w' hs hg k1 k2 h6 hx hp q0 q1 q2 q3
    · by_cases o2 : op = 8
      · subst o2
        have e : pAlc s i = pDrop s i ⟨8, pc, [r0, r1, r2, r3, r4, r5, r6, r7], xs⟩ s := by unfold pAlc; rw [hp]; simp
        rw [e]
        refine alst_drop A B C L a b c d s i _ pc r0 r1 r2 r3 r4 r5 r6 r7 xs w hs hg h hp h6 (fun AF cF w' k1 k2 => ?_)
        unfold pDrop
        by_cases q0 : pc = 0
        · subst q0; rw [if_pos rfl]; exact adrop_0 A B C L a b c d s i AF cF 8 r0 r1 r2 r3 r4 r5 r6 r7 xs w' hs hg k1 k2 h6
        · rw [if_neg q0]
          by_cases q1 : pc = 1
          · subst q1; rw [if_pos rfl]; exact adrop_1 A B C L a b c d s i AF cF 8 r0 r1 r2 r3 r4 r5 r6 r7 xs w' hs hg k1 k2 h6
          · rw [if_neg q1]; exact adrop_x A B C L a b c d s i AF cF 8 pc r0 r1 r2 r3 r4 r5 r6 r7 xs w' hs hg k1 k2 h6 hp q0 q1
      · have e : pAlc s i = pScan s i := by unfold pAlc; rw [hp]; simp [o1, o2]
        rw [e]
        exact alst_x A B C L a b c d s i op pc r0 r1 r2 r3 r4 r5 r6 r7 xs w hs hg h hL hr hp h6 o1 o2
end Go.Proofs.Ytiakabnfjegeeaa
