/- Contracts: the closures of a scan's steps, by the program. -/
import Derived.Test.YthpflcknommpdaaScn6
import Derived.Test.YthpflcknommpdaaScn7
import Derived.Test.YthpflcknommpdaaScn8a
import Derived.Test.YthpflcknommpdaaScn9
import Derived.Test.YthpflcknommpdaaTopC
namespace Go.Proofs.Ythpflcknommpdaa
open Go.RowKit
open Go.Maps
set_option linter.unusedVariables false
set_option linter.unusedSimpArgs false

theorem Steps.look5 {w : World} {cs fc : Array Value} {k : Int} {m b5 b6 p3 p4 p5 : Nat} (h : Steps w cs fc k m b5 b6 p3 p4 p5) : (Instr.lookup 132 (.map (some m)) (.int .i64 5) false).run Try.prog w = .ok (.slice (some ⟨b5, 0, none⟩) 2 2) w := by
  obtain ⟨v, ps, hr, hv⟩ := h.map.lookup keyI Try.underlying132 (zeroFS w) (by rfl : RF (.slice none 0 0) = some (.lit (.int .i64 (-1)), [])) (keyOf_int_mk Try.underlying3 (WalkArith.wf_i64 (by omega)) : keyOf Try.prog 3 (.int .i64 5) = some (.int .i64 5))
  rw [stepsD_5] at hv
  rw [RF_two hv] at hr
  exact hr
theorem Steps.look6 {w : World} {cs fc : Array Value} {k : Int} {m b5 b6 p3 p4 p5 : Nat} (h : Steps w cs fc k m b5 b6 p3 p4 p5) : (Instr.lookup 132 (.map (some m)) (.int .i64 6) false).run Try.prog w = .ok (.slice (some ⟨b6, 0, none⟩) 2 2) w := by
  obtain ⟨v, ps, hr, hv⟩ := h.map.lookup keyI Try.underlying132 (zeroFS w) (by rfl : RF (.slice none 0 0) = some (.lit (.int .i64 (-1)), [])) (keyOf_int_mk Try.underlying3 (WalkArith.wf_i64 (by omega)) : keyOf Try.prog 3 (.int .i64 6) = some (.int .i64 6))
  rw [stepsD_6] at hv
  rw [RF_two hv] at hr
  exact hr

set_option maxRecDepth 100000 in
set_option maxHeartbeats 4000000 in
theorem clo1_any (A B C L : Option Addr) (a b c d : Nat) (s : Sy) (k : Nat) (x : Co) (AS : Option Addr) (cS : Nat) (op pc r0 r1 r2 r3 r4 r5 r6 r7 : Int) (xs : List Int) (p3 p4 p5 : Nat) (w : World) (hs : SyFew s) (hg : 2 ≤ s.M.G.length) (h : RS w s A B C L) (hS : Row w AS xs) (h6 : xs.length ≤ 1000000) (hx : s.C[k]? = some x)  (hb3 : w.heap[p3]? = some (.cells #[.slice A s.M.W.length a, .slice B s.M.G.length b, .bool s.M.bad, .slice C s.C.length c, .slice L s.L.length d] 28 (0, 0))) (hb4 : w.heap[p4]? = some (.cells #[.int .i64 (k : Int)] 3 (0, 0))) (hb5 : w.heap[p5]? = some (.cells #[.int .i64 op, .int .i64 pc, .int .i64 r0, .int .i64 r1, .int .i64 r2, .int .i64 r3, .int .i64 r4, .int .i64 r5, .int .i64 r6, .int .i64 r7, .slice AS xs.length cS] 55 (0, 0))) :
    Calls Try.prog 119 #[.pointer (some ⟨p3, 0, none⟩), .pointer (some ⟨p4, 0, none⟩), .pointer (some ⟨p5, 0, none⟩)] w (RetSysN w (pRetire0 s k ⟨op, pc, [r0, r1, r2, r3, r4, r5, r6, r7], xs⟩)) := by
  obtain ⟨t9, ht9⟩ : ∃ t, t = pRetire0 s k ⟨op, pc, [r0, r1, r2, r3, r4, r5, r6, r7], xs⟩ := ⟨_, rfl⟩
  have HC := hid (show ∀ w1, Below w.heap.size w w1 → Calls Try.prog 120 #[.agg #[.slice A s.M.W.length a, .slice B s.M.G.length b, .bool s.M.bad, .slice C s.C.length c, .slice L s.L.length d], .int .i64 k, .agg #[.int .i64 op, .int .i64 pc, .int .i64 r0, .int .i64 r1, .int .i64 r2, .int .i64 r3, .int .i64 r4, .int .i64 r5, .int .i64 r6, .int .i64 r7, .slice AS xs.length cS]] w1 (RetSysN w1 t9) from fun w1 hb => by have h9 := retire_any A B C L a b c d s k x AS cS op pc r0 r1 r2 r3 r4 r5 r6 r7 xs w1 hs hg (h.step hb) (hS.step hb) h6 hx; rw [← ht9] at h9; exact h9)
  rw [← ht9]
  clear ht9
  have b2 := heap_alloc_new w (.cells #[.slice none 0 0, .slice none 0 0, .bool false, .slice none 0 0, .slice none 0 0] 28)
  have hb : Below w.heap.size w (w.alloc (.cells #[.slice none 0 0, .slice none 0 0, .bool false, .slice none 0 0, .slice none 0 0] 28)) := boxed _ _
  have z1 : w.heap.size < (w.alloc (.cells #[.slice none 0 0, .slice none 0 0, .bool false, .slice none 0 0, .slice none 0 0] 28)).heap.size := by simp
  have l3 := (Array.getElem?_eq_some_iff.1 hb3).1
  have l4 := (Array.getElem?_eq_some_iff.1 hb4).1
  have l5 := (Array.getElem?_eq_some_iff.1 hb5).1
  replace hb3 := (hb.block _ l3).trans hb3
  replace hb4 := (hb.block _ l4).trans hb4
  replace hb5 := (hb.block _ l5).trans hb5
  clear l3 l4 l5
  go_enter Try.func119, Try.ntmps119
  go_upto_region 1 with (fail)
  generalize (w.alloc (.cells #[.slice none 0 0, .slice none 0 0, .bool false, .slice none 0 0, .slice none 0 0] 28)) = w1 at *
  obtain ⟨y0, y1, y2, y3, y4⟩ := cells5 hb3
  have i0 := cells1 hb4
  obtain ⟨f0, f1, f2, f3, f4, f5, f6, f7, f8, f9, f10⟩ := cells11 hb5
  go_wp2_with (go_at_call 120; (with_reducible refine (HC.out _ hb).mono ?_); rintro e wz hN; have hz := hN.2; obtain ⟨A9, B9, C9, L9, a9, b9, c9, d9, he, _, _, _, _, _⟩ := hN.1 wz (Turn.refl _ _); subst he; have HN := hid hN; clear hN; have kR := (hz.block w.heap.size z1).trans b2; have kb := bstep hb hz; obtain ⟨q0, q1, q2, q3, q4⟩ := cells5 kR; obtain ⟨qf0, qf1, qf2, qf3, qf4⟩ := frz5 kR)
  refine bodyPost_ret (v := .agg #[.slice A9 t9.M.W.length a9, .slice B9 t9.M.G.length b9, .bool t9.M.bad, .slice C9 t9.C.length c9, .slice L9 t9.L.length d9]) (by simp [results, Try.results119, go_sem, q0, q1, q2, q3, q4]) rfl ?_
  exact ret_resN _ _ _ _ _ HN.out z1 (by omega) kb

set_option maxRecDepth 100000 in
set_option maxHeartbeats 4000000 in
theorem clo2_any (A B C L : Option Addr) (a b c d : Nat) (s : Sy) (k : Nat) (x : Co) (AS : Option Addr) (cS : Nat) (op pc r0 r1 r2 r3 r4 r5 r6 r7 : Int) (xs : List Int) (p3 p4 p5 : Nat) (w : World) (hs : SyFew s) (hg : 2 ≤ s.M.G.length) (h : RS w s A B C L) (hS : Row w AS xs) (h6 : xs.length ≤ 1000000) (hx : s.C[k]? = some x)  (hb3 : w.heap[p3]? = some (.cells #[.slice A s.M.W.length a, .slice B s.M.G.length b, .bool s.M.bad, .slice C s.C.length c, .slice L s.L.length d] 28 (0, 0))) (hb4 : w.heap[p4]? = some (.cells #[.int .i64 (k : Int)] 3 (0, 0))) (hb5 : w.heap[p5]? = some (.cells #[.int .i64 op, .int .i64 pc, .int .i64 r0, .int .i64 r1, .int .i64 r2, .int .i64 r3, .int .i64 r4, .int .i64 r5, .int .i64 r6, .int .i64 r7, .slice AS xs.length cS] 55 (0, 0))) :
    Calls Try.prog 121 #[.pointer (some ⟨p3, 0, none⟩), .pointer (some ⟨p4, 0, none⟩), .pointer (some ⟨p5, 0, none⟩)] w (RetSysN w (pBack s k r0 0)) := by
  obtain ⟨t9, ht9⟩ : ∃ t, t = pBack s k r0 0 := ⟨_, rfl⟩
  have HC := hid (show ∀ w1, Below w.heap.size w w1 → Calls Try.prog 78 #[.agg #[.slice A s.M.W.length a, .slice B s.M.G.length b, .bool s.M.bad, .slice C s.C.length c, .slice L s.L.length d], .int .i64 k, .int .i64 r0, .int .i64 0] w1 (RetSysN w1 t9) from fun w1 hb => by have h9 := back_uN A B C L a b c d s k r0 0 w1 hs (h.step hb); rw [← ht9] at h9; exact h9)
  rw [← ht9]
  clear ht9
  have b2 := heap_alloc_new w (.cells #[.slice none 0 0, .slice none 0 0, .bool false, .slice none 0 0, .slice none 0 0] 28)
  have hb : Below w.heap.size w (w.alloc (.cells #[.slice none 0 0, .slice none 0 0, .bool false, .slice none 0 0, .slice none 0 0] 28)) := boxed _ _
  have z1 : w.heap.size < (w.alloc (.cells #[.slice none 0 0, .slice none 0 0, .bool false, .slice none 0 0, .slice none 0 0] 28)).heap.size := by simp
  have l3 := (Array.getElem?_eq_some_iff.1 hb3).1
  have l4 := (Array.getElem?_eq_some_iff.1 hb4).1
  have l5 := (Array.getElem?_eq_some_iff.1 hb5).1
  replace hb3 := (hb.block _ l3).trans hb3
  replace hb4 := (hb.block _ l4).trans hb4
  replace hb5 := (hb.block _ l5).trans hb5
  clear l3 l4 l5
  go_enter Try.func121, Try.ntmps121
  go_upto_region 1 with (fail)
  generalize (w.alloc (.cells #[.slice none 0 0, .slice none 0 0, .bool false, .slice none 0 0, .slice none 0 0] 28)) = w1 at *
  obtain ⟨y0, y1, y2, y3, y4⟩ := cells5 hb3
  have i0 := cells1 hb4
  obtain ⟨f0, f1, f2, f3, f4, f5, f6, f7, f8, f9, f10⟩ := cells11 hb5
  go_wp2_with (go_at_call 78; (with_reducible refine (HC.out _ hb).mono ?_); rintro e wz hN; have hz := hN.2; obtain ⟨A9, B9, C9, L9, a9, b9, c9, d9, he, _, _, _, _, _⟩ := hN.1 wz (Turn.refl _ _); subst he; have HN := hid hN; clear hN; have kR := (hz.block w.heap.size z1).trans b2; have kb := bstep hb hz; obtain ⟨q0, q1, q2, q3, q4⟩ := cells5 kR; obtain ⟨qf0, qf1, qf2, qf3, qf4⟩ := frz5 kR)
  refine bodyPost_ret (v := .agg #[.slice A9 t9.M.W.length a9, .slice B9 t9.M.G.length b9, .bool t9.M.bad, .slice C9 t9.C.length c9, .slice L9 t9.L.length d9]) (by simp [results, Try.results121, go_sem, q0, q1, q2, q3, q4]) rfl ?_
  exact ret_resN _ _ _ _ _ HN.out z1 (by omega) kb

set_option maxRecDepth 100000 in
set_option maxHeartbeats 4000000 in
theorem clo3_any (A B C L : Option Addr) (a b c d : Nat) (s : Sy) (k : Nat) (x : Co) (AS : Option Addr) (cS : Nat) (op pc r0 r1 r2 r3 r4 r5 r6 r7 : Int) (xs : List Int) (p3 p4 p5 : Nat) (w : World) (hs : SyFew s) (hg : 2 ≤ s.M.G.length) (h : RS w s A B C L) (hS : Row w AS xs) (h6 : xs.length ≤ 1000000) (hx : s.C[k]? = some x) (hcS : xs.length ≤ cS) (hb3 : w.heap[p3]? = some (.cells #[.slice A s.M.W.length a, .slice B s.M.G.length b, .bool s.M.bad, .slice C s.C.length c, .slice L s.L.length d] 28 (0, 0))) (hb4 : w.heap[p4]? = some (.cells #[.int .i64 (k : Int)] 3 (0, 0))) (hb5 : w.heap[p5]? = some (.cells #[.int .i64 op, .int .i64 pc, .int .i64 r0, .int .i64 r1, .int .i64 r2, .int .i64 r3, .int .i64 r4, .int .i64 r5, .int .i64 r6, .int .i64 r7, .slice AS xs.length cS] 55 (0, 0))) :
    Calls Try.prog 122 #[.pointer (some ⟨p3, 0, none⟩), .pointer (some ⟨p4, 0, none⟩), .pointer (some ⟨p5, 0, none⟩)] w (RetSysN w (pLook s k ⟨op, pc, [r0, r1, r2, r3, r4, r5, r6, r7], xs⟩)) := by
  obtain ⟨t9, ht9⟩ : ∃ t, t = pLook s k ⟨op, pc, [r0, r1, r2, r3, r4, r5, r6, r7], xs⟩ := ⟨_, rfl⟩
  have HC := hid (show ∀ w1, Below w.heap.size w w1 → Calls Try.prog 123 #[.agg #[.slice A s.M.W.length a, .slice B s.M.G.length b, .bool s.M.bad, .slice C s.C.length c, .slice L s.L.length d], .int .i64 k, .agg #[.int .i64 op, .int .i64 pc, .int .i64 r0, .int .i64 r1, .int .i64 r2, .int .i64 r3, .int .i64 r4, .int .i64 r5, .int .i64 r6, .int .i64 r7, .slice AS xs.length cS]] w1 (RetSysN w1 t9) from fun w1 hb => by have h9 := look_any A B C L a b c d s k AS cS op pc r0 r1 r2 r3 r4 r5 r6 r7 xs w1 hs hg (h.step hb) (hS.step hb) h6 hcS; rw [← ht9] at h9; exact h9)
  rw [← ht9]
  clear ht9
  have b2 := heap_alloc_new w (.cells #[.slice none 0 0, .slice none 0 0, .bool false, .slice none 0 0, .slice none 0 0] 28)
  have hb : Below w.heap.size w (w.alloc (.cells #[.slice none 0 0, .slice none 0 0, .bool false, .slice none 0 0, .slice none 0 0] 28)) := boxed _ _
  have z1 : w.heap.size < (w.alloc (.cells #[.slice none 0 0, .slice none 0 0, .bool false, .slice none 0 0, .slice none 0 0] 28)).heap.size := by simp
  have l3 := (Array.getElem?_eq_some_iff.1 hb3).1
  have l4 := (Array.getElem?_eq_some_iff.1 hb4).1
  have l5 := (Array.getElem?_eq_some_iff.1 hb5).1
  replace hb3 := (hb.block _ l3).trans hb3
  replace hb4 := (hb.block _ l4).trans hb4
  replace hb5 := (hb.block _ l5).trans hb5
  clear l3 l4 l5
  go_enter Try.func122, Try.ntmps122
  go_upto_region 1 with (fail)
  generalize (w.alloc (.cells #[.slice none 0 0, .slice none 0 0, .bool false, .slice none 0 0, .slice none 0 0] 28)) = w1 at *
  obtain ⟨y0, y1, y2, y3, y4⟩ := cells5 hb3
  have i0 := cells1 hb4
  obtain ⟨f0, f1, f2, f3, f4, f5, f6, f7, f8, f9, f10⟩ := cells11 hb5
  go_wp2_with (go_at_call 123; (with_reducible refine (HC.out _ hb).mono ?_); rintro e wz hN; have hz := hN.2; obtain ⟨A9, B9, C9, L9, a9, b9, c9, d9, he, _, _, _, _, _⟩ := hN.1 wz (Turn.refl _ _); subst he; have HN := hid hN; clear hN; have kR := (hz.block w.heap.size z1).trans b2; have kb := bstep hb hz; obtain ⟨q0, q1, q2, q3, q4⟩ := cells5 kR; obtain ⟨qf0, qf1, qf2, qf3, qf4⟩ := frz5 kR)
  refine bodyPost_ret (v := .agg #[.slice A9 t9.M.W.length a9, .slice B9 t9.M.G.length b9, .bool t9.M.bad, .slice C9 t9.C.length c9, .slice L9 t9.L.length d9]) (by simp [results, Try.results122, go_sem, q0, q1, q2, q3, q4]) rfl ?_
  exact ret_resN _ _ _ _ _ HN.out z1 (by omega) kb

set_option maxRecDepth 100000 in
set_option maxHeartbeats 4000000 in
theorem clo4_any (A B C L : Option Addr) (a b c d : Nat) (s : Sy) (k : Nat) (x : Co) (AS : Option Addr) (cS : Nat) (op pc r0 r1 r2 r3 r4 r5 r6 r7 : Int) (xs : List Int) (p3 p4 p5 : Nat) (w : World) (hs : SyFew s) (hg : 2 ≤ s.M.G.length) (h : RS w s A B C L) (hS : Row w AS xs) (h6 : xs.length ≤ 1000000) (hx : s.C[k]? = some x)  (hb3 : w.heap[p3]? = some (.cells #[.slice A s.M.W.length a, .slice B s.M.G.length b, .bool s.M.bad, .slice C s.C.length c, .slice L s.L.length d] 28 (0, 0))) (hb4 : w.heap[p4]? = some (.cells #[.int .i64 (k : Int)] 3 (0, 0))) (hb5 : w.heap[p5]? = some (.cells #[.int .i64 op, .int .i64 pc, .int .i64 r0, .int .i64 r1, .int .i64 r2, .int .i64 r3, .int .i64 r4, .int .i64 r5, .int .i64 r6, .int .i64 r7, .slice AS xs.length cS] 55 (0, 0))) :
    Calls Try.prog 124 #[.pointer (some ⟨p3, 0, none⟩), .pointer (some ⟨p4, 0, none⟩), .pointer (some ⟨p5, 0, none⟩)] w (RetSysN w (pSweep s k ⟨op, pc, [r0, r1, r2, r3, r4, r5, r6, r7], xs⟩)) := by
  obtain ⟨t9, ht9⟩ : ∃ t, t = pSweep s k ⟨op, pc, [r0, r1, r2, r3, r4, r5, r6, r7], xs⟩ := ⟨_, rfl⟩
  have HC := hid (show ∀ w1, Below w.heap.size w w1 → Calls Try.prog 125 #[.agg #[.slice A s.M.W.length a, .slice B s.M.G.length b, .bool s.M.bad, .slice C s.C.length c, .slice L s.L.length d], .int .i64 k, .agg #[.int .i64 op, .int .i64 pc, .int .i64 r0, .int .i64 r1, .int .i64 r2, .int .i64 r3, .int .i64 r4, .int .i64 r5, .int .i64 r6, .int .i64 r7, .slice AS xs.length cS]] w1 (RetSysN w1 t9) from fun w1 hb => by have h9 := sweep_any A B C L a b c d s k x AS cS op pc r0 r1 r2 r3 r4 r5 r6 r7 xs w1 hs hg (h.step hb) (hS.step hb) h6 hx; rw [← ht9] at h9; exact h9)
  rw [← ht9]
  clear ht9
  have b2 := heap_alloc_new w (.cells #[.slice none 0 0, .slice none 0 0, .bool false, .slice none 0 0, .slice none 0 0] 28)
  have hb : Below w.heap.size w (w.alloc (.cells #[.slice none 0 0, .slice none 0 0, .bool false, .slice none 0 0, .slice none 0 0] 28)) := boxed _ _
  have z1 : w.heap.size < (w.alloc (.cells #[.slice none 0 0, .slice none 0 0, .bool false, .slice none 0 0, .slice none 0 0] 28)).heap.size := by simp
  have l3 := (Array.getElem?_eq_some_iff.1 hb3).1
  have l4 := (Array.getElem?_eq_some_iff.1 hb4).1
  have l5 := (Array.getElem?_eq_some_iff.1 hb5).1
  replace hb3 := (hb.block _ l3).trans hb3
  replace hb4 := (hb.block _ l4).trans hb4
  replace hb5 := (hb.block _ l5).trans hb5
  clear l3 l4 l5
  go_enter Try.func124, Try.ntmps124
  go_upto_region 1 with (fail)
  generalize (w.alloc (.cells #[.slice none 0 0, .slice none 0 0, .bool false, .slice none 0 0, .slice none 0 0] 28)) = w1 at *
  obtain ⟨y0, y1, y2, y3, y4⟩ := cells5 hb3
  have i0 := cells1 hb4
  obtain ⟨f0, f1, f2, f3, f4, f5, f6, f7, f8, f9, f10⟩ := cells11 hb5
  go_wp2_with (go_at_call 125; (with_reducible refine (HC.out _ hb).mono ?_); rintro e wz hN; have hz := hN.2; obtain ⟨A9, B9, C9, L9, a9, b9, c9, d9, he, _, _, _, _, _⟩ := hN.1 wz (Turn.refl _ _); subst he; have HN := hid hN; clear hN; have kR := (hz.block w.heap.size z1).trans b2; have kb := bstep hb hz; obtain ⟨q0, q1, q2, q3, q4⟩ := cells5 kR; obtain ⟨qf0, qf1, qf2, qf3, qf4⟩ := frz5 kR)
  refine bodyPost_ret (v := .agg #[.slice A9 t9.M.W.length a9, .slice B9 t9.M.G.length b9, .bool t9.M.bad, .slice C9 t9.C.length c9, .slice L9 t9.L.length d9]) (by simp [results, Try.results124, go_sem, q0, q1, q2, q3, q4]) rfl ?_
  exact ret_resN _ _ _ _ _ HN.out z1 (by omega) kb

end Go.Proofs.Ythpflcknommpdaa
