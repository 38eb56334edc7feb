/- Contract: a step of a core, by the program's package haz. -/
import Derived.Test.YthpflcknommpdaaStk9
import Derived.Test.YthpflcknommpdaaHaz3
import Derived.Test.YthpflcknommpdaaHaz4
namespace Go.Proofs.Ythpflcknommpdaa
open Go.RowKit
set_option linter.unusedVariables false
set_option linter.unusedSimpArgs false

set_option maxRecDepth 100000 in
set_option maxHeartbeats 4000000 in
theorem hstep_none (A B C L : Option Addr) (a b c d : Nat) (s : Sy) (i : Int) (w : World) (hs : SyFew s) (hg : 2 ≤ s.M.G.length) (h : RS w s A B C L) (hp : pTop s i = none) :
    Calls Try.prog 17 #[.agg #[.slice A s.M.W.length a, .slice B s.M.G.length b, .bool s.M.bad, .slice C s.C.length c, .slice L s.L.length d], .int .i64 i] w (RetSysN w s) := by
  have HR := pSet_none hp ⟨0, 0, [0, 0, 0, 0, 0, 0, 0, 0], []⟩
  have HC := hid (show ∀ w', RS w' s A B C L → Calls Try.prog 45 #[.agg #[.slice A s.M.W.length a, .slice B s.M.G.length b, .bool s.M.bad, .slice C s.C.length c, .slice L s.L.length d], .int .i64 i, .agg #[.int .i64 0, .int .i64 0, .int .i64 0, .int .i64 0, .int .i64 0, .int .i64 0, .int .i64 0, .int .i64 0, .int .i64 0, .int .i64 0, .slice none 0 0]] w' (RetSysN w' s) from fun w' k => by have h9 := set_uN A B C L a b c d s i none 0 0 0 0 0 0 0 0 0 0 0 [] w' hs k (Row.nil _ _) (by simp); rw [HR] at h9; exact h9)
  clear HR
  obtain ⟨b1, b2, bs⟩ := heap2 w (.cells #[.slice A s.M.W.length a, .slice B s.M.G.length b, .bool s.M.bad, .slice C s.C.length c, .slice L s.L.length d] 28) (.cells #[.slice none 0 0, .slice none 0 0, .bool false, .slice none 0 0, .slice none 0 0] 28)
  have hb : Below w.heap.size w ((w.alloc (.cells #[.slice A s.M.W.length a, .slice B s.M.G.length b, .bool s.M.bad, .slice C s.C.length c, .slice L s.L.length d] 28)).alloc (.cells #[.slice none 0 0, .slice none 0 0, .bool false, .slice none 0 0, .slice none 0 0] 28)) := bstep (boxed _ _) (boxed _ _)
  have z1 : w.heap.size + 1 < ((w.alloc (.cells #[.slice A s.M.W.length a, .slice B s.M.G.length b, .bool s.M.bad, .slice C s.C.length c, .slice L s.L.length d] 28)).alloc (.cells #[.slice none 0 0, .slice none 0 0, .bool false, .slice none 0 0, .slice none 0 0] 28)).heap.size := by simp
  clear bs
  go_enter Try.func17, Try.ntmps17
  go_upto_region 1 with (fail)
  generalize ((w.alloc (.cells #[.slice A s.M.W.length a, .slice B s.M.G.length b, .bool s.M.bad, .slice C s.C.length c, .slice L s.L.length d] 28)).alloc (.cells #[.slice none 0 0, .slice none 0 0, .bool false, .slice none 0 0, .slice none 0 0] 28)) = w1 at *
  have K := h.step hb
  obtain ⟨p0, p1, p2, p3, p4⟩ := cells5 b1
  go_upto_region 2 with (go_at_call 42; (with_reducible refine (top_no A B C L a b c d s i _ hs K hp).mono ?_); rintro e wk ⟨rfl, hk⟩)
  have rF : Row wk none [] := Row.nil _ _
  clear p0 p1 p2 p3 p4
  have hj : Below w1.heap.size w1 (wk.alloc (.cells #[.int .i64 0, .int .i64 0, .int .i64 0, .int .i64 0, .int .i64 0, .int .i64 0, .int .i64 0, .int .i64 0, .int .i64 0, .int .i64 0, .slice none 0 0] 55)) := bstep hk (boxed _ _)
  have b3 := heap_alloc_new wk (.cells #[.int .i64 0, .int .i64 0, .int .i64 0, .int .i64 0, .int .i64 0, .int .i64 0, .int .i64 0, .int .i64 0, .int .i64 0, .int .i64 0, .slice none 0 0] 55)
  replace b1 := (hj.block w.heap.size (by omega)).trans b1
  replace b2 := (hj.block (w.heap.size + 1) z1).trans b2
  replace K := K.step hj
  replace hb := bstep hb hj
  replace z1 := Nat.lt_of_lt_of_le z1 hj.size
  replace rF := rF.alloc (.cells #[.int .i64 0, .int .i64 0, .int .i64 0, .int .i64 0, .int .i64 0, .int .i64 0, .int .i64 0, .int .i64 0, .int .i64 0, .int .i64 0, .slice none 0 0] 55)
  clear hk hj
  obtain ⟨vF, hv⟩ : ∃ v, wk.heap.size = v := ⟨_, rfl⟩
  rw [hv] at b3 ⊢
  clear hv
  generalize (wk.alloc (.cells #[.int .i64 0, .int .i64 0, .int .i64 0, .int .i64 0, .int .i64 0, .int .i64 0, .int .i64 0, .int .i64 0, .int .i64 0, .int .i64 0, .slice none 0 0] 55)) = w3 at *
  obtain ⟨p0, p1, p2, p3, p4⟩ := cells5 b1
  obtain ⟨f0, f1, f2, f3, f4, f5, f6, f7, f8, f9, f10⟩ := cells11 b3
  go_wp2_with (go_at_call 45; (with_reducible refine (HC.out _ K).mono ?_); rintro e wz hN; have hz := hN.2; obtain ⟨A9, B9, C9, L9, a9, b9, c9, d9, he, _, _, _, _, _⟩ := hN.1 wz (Turn.refl _ _); subst he; have HN := hid hN; clear hN; have kR := (hz.block (w.heap.size + 1) z1).trans b2; have kb := bstep hb hz; obtain ⟨q0, q1, q2, q3, q4⟩ := cells5 kR; obtain ⟨qf0, qf1, qf2, qf3, qf4⟩ := frz5 kR)
  refine bodyPost_ret (v := .agg #[.slice A9 s.M.W.length a9, .slice B9 s.M.G.length b9, .bool s.M.bad, .slice C9 s.C.length c9, .slice L9 s.L.length d9]) (by simp [results, Try.results17, go_sem, q0, q1, q2, q3, q4]) rfl ?_
  exact ret_resN _ _ _ _ _ HN.out z1 (by omega) kb

set_option maxRecDepth 100000 in
set_option maxHeartbeats 4000000 in
theorem hstep_x (A B C L : Option Addr) (a b c d : Nat) (s : Sy) (i : Int) (op pc r0 r1 r2 r3 r4 r5 r6 r7 : Int) (xs : List Int) (w : World) (hs : SyFew s) (hg : 2 ≤ s.M.G.length) (h : RS w s A B C L) (hp : pTop s i = some ⟨op, pc, [r0, r1, r2, r3, r4, r5, r6, r7], xs⟩) (h6 : xs.length ≤ 1000000) (o1 : ¬ op = 3) (o2 : ¬ op = 4) :
    Calls Try.prog 17 #[.agg #[.slice A s.M.W.length a, .slice B s.M.G.length b, .bool s.M.bad, .slice C s.C.length c, .slice L s.L.length d], .int .i64 i] w (RetSysN w s) := by
  have e1 : (op == 3) = false := by simpa using o1
  have e2 : (op == 4) = false := by simpa using o2
  clear o1 o2
  have HR := pSet_top hp
  have HC := hid (show ∀ (AF : Option Addr) (cF : Nat) w', RS w' s A B C L → Row w' AF xs → Calls Try.prog 45 #[.agg #[.slice A s.M.W.length a, .slice B s.M.G.length b, .bool s.M.bad, .slice C s.C.length c, .slice L s.L.length d], .int .i64 i, .agg #[.int .i64 op, .int .i64 pc, .int .i64 r0, .int .i64 r1, .int .i64 r2, .int .i64 r3, .int .i64 r4, .int .i64 r5, .int .i64 r6, .int .i64 r7, .slice AF xs.length cF]] w' (RetSysN w' s) from fun AF cF w' k k2 => by have h9 := set_uN A B C L a b c d s i AF cF op pc r0 r1 r2 r3 r4 r5 r6 r7 xs w' hs k k2 h6; rw [HR] at h9; exact h9)
  clear HR
  obtain ⟨b1, b2, bs⟩ := heap2 w (.cells #[.slice A s.M.W.length a, .slice B s.M.G.length b, .bool s.M.bad, .slice C s.C.length c, .slice L s.L.length d] 28) (.cells #[.slice none 0 0, .slice none 0 0, .bool false, .slice none 0 0, .slice none 0 0] 28)
  have hb : Below w.heap.size w ((w.alloc (.cells #[.slice A s.M.W.length a, .slice B s.M.G.length b, .bool s.M.bad, .slice C s.C.length c, .slice L s.L.length d] 28)).alloc (.cells #[.slice none 0 0, .slice none 0 0, .bool false, .slice none 0 0, .slice none 0 0] 28)) := bstep (boxed _ _) (boxed _ _)
  have z1 : w.heap.size + 1 < ((w.alloc (.cells #[.slice A s.M.W.length a, .slice B s.M.G.length b, .bool s.M.bad, .slice C s.C.length c, .slice L s.L.length d] 28)).alloc (.cells #[.slice none 0 0, .slice none 0 0, .bool false, .slice none 0 0, .slice none 0 0] 28)).heap.size := by simp
  clear bs
  go_enter Try.func17, Try.ntmps17
  go_upto_region 1 with (fail)
  generalize ((w.alloc (.cells #[.slice A s.M.W.length a, .slice B s.M.G.length b, .bool s.M.bad, .slice C s.C.length c, .slice L s.L.length d] 28)).alloc (.cells #[.slice none 0 0, .slice none 0 0, .bool false, .slice none 0 0, .slice none 0 0] 28)) = w1 at *
  have K := h.step hb
  obtain ⟨p0, p1, p2, p3, p4⟩ := cells5 b1
  go_upto_region 2 with (go_at_call 42; (with_reducible refine (top_is A B C L a b c d s i op pc r0 r1 r2 r3 r4 r5 r6 r7 xs _ hs K hp h6).mono ?_); rintro e wk ⟨AF, cF, rfl, rF, hk⟩)
  clear p0 p1 p2 p3 p4
  have hj : Below w1.heap.size w1 (wk.alloc (.cells #[.int .i64 op, .int .i64 pc, .int .i64 r0, .int .i64 r1, .int .i64 r2, .int .i64 r3, .int .i64 r4, .int .i64 r5, .int .i64 r6, .int .i64 r7, .slice AF xs.length cF] 55)) := bstep hk (boxed _ _)
  have b3 := heap_alloc_new wk (.cells #[.int .i64 op, .int .i64 pc, .int .i64 r0, .int .i64 r1, .int .i64 r2, .int .i64 r3, .int .i64 r4, .int .i64 r5, .int .i64 r6, .int .i64 r7, .slice AF xs.length cF] 55)
  replace b1 := (hj.block w.heap.size (by omega)).trans b1
  replace b2 := (hj.block (w.heap.size + 1) z1).trans b2
  replace K := K.step hj
  replace hb := bstep hb hj
  replace z1 := Nat.lt_of_lt_of_le z1 hj.size
  replace rF := rF.alloc (.cells #[.int .i64 op, .int .i64 pc, .int .i64 r0, .int .i64 r1, .int .i64 r2, .int .i64 r3, .int .i64 r4, .int .i64 r5, .int .i64 r6, .int .i64 r7, .slice AF xs.length cF] 55)
  clear hk hj
  obtain ⟨vF, hv⟩ : ∃ v, wk.heap.size = v := ⟨_, rfl⟩
  rw [hv] at b3 ⊢
  clear hv
  generalize (wk.alloc (.cells #[.int .i64 op, .int .i64 pc, .int .i64 r0, .int .i64 r1, .int .i64 r2, .int .i64 r3, .int .i64 r4, .int .i64 r5, .int .i64 r6, .int .i64 r7, .slice AF xs.length cF] 55)) = w3 at *
  obtain ⟨p0, p1, p2, p3, p4⟩ := cells5 b1
  obtain ⟨f0, f1, f2, f3, f4, f5, f6, f7, f8, f9, f10⟩ := cells11 b3
  go_wp2_with (go_at_call 45; (with_reducible refine (HC.out AF cF _ K rF).mono ?_); rintro e wz hN; have hz := hN.2; obtain ⟨A9, B9, C9, L9, a9, b9, c9, d9, he, _, _, _, _, _⟩ := hN.1 wz (Turn.refl _ _); subst he; have HN := hid hN; clear hN; have kR := (hz.block (w.heap.size + 1) z1).trans b2; have kb := bstep hb hz; obtain ⟨q0, q1, q2, q3, q4⟩ := cells5 kR; obtain ⟨qf0, qf1, qf2, qf3, qf4⟩ := frz5 kR)
  refine bodyPost_ret (v := .agg #[.slice A9 s.M.W.length a9, .slice B9 s.M.G.length b9, .bool s.M.bad, .slice C9 s.C.length c9, .slice L9 s.L.length d9]) (by simp [results, Try.results17, go_sem, q0, q1, q2, q3, q4]) rfl ?_
  exact ret_resN _ _ _ _ _ HN.out z1 (by omega) kb

set_option maxRecDepth 100000 in
set_option maxHeartbeats 4000000 in
theorem hstep_protect (A B C L : Option Addr) (a b c d : Nat) (s : Sy) (i : Int) (pc r0 r1 r2 r3 r4 r5 r6 r7 : Int) (xs : List Int) (w : World) (hs : SyFew s) (hg : 2 ≤ s.M.G.length) (h : RS w s A B C L) (hr : W64 r0) (hp : pTop s i = some ⟨3, pc, [r0, r1, r2, r3, r4, r5, r6, r7], xs⟩) (h6 : xs.length ≤ 1000000) :
    Calls Try.prog 17 #[.agg #[.slice A s.M.W.length a, .slice B s.M.G.length b, .bool s.M.bad, .slice C s.C.length c, .slice L s.L.length d], .int .i64 i] w (RetSysN w (pProt s i ⟨3, pc, [r0, r1, r2, r3, r4, r5, r6, r7], xs⟩ s)) := by
  have HC := hid (show ∀ (AF : Option Addr) (cF : Nat) w', RS w' s A B C L → Row w' AF xs → Calls Try.prog 43 #[.agg #[.slice A s.M.W.length a, .slice B s.M.G.length b, .bool s.M.bad, .slice C s.C.length c, .slice L s.L.length d], .int .i64 i, .agg #[.int .i64 3, .int .i64 pc, .int .i64 r0, .int .i64 r1, .int .i64 r2, .int .i64 r3, .int .i64 r4, .int .i64 r5, .int .i64 r6, .int .i64 r7, .slice AF xs.length cF]] w' (RetSysN w' (pProt s i ⟨3, pc, [r0, r1, r2, r3, r4, r5, r6, r7], xs⟩ s)) from fun AF cF w' k k2 => prot_any A B C L a b c d s i AF cF 3 pc r0 r1 r2 r3 r4 r5 r6 r7 xs s w' hs hg k k2 h6 hr (pSet_top hp).symm)
  obtain ⟨t9, ht9⟩ : ∃ t, t = pProt s i ⟨3, pc, [r0, r1, r2, r3, r4, r5, r6, r7], xs⟩ s := ⟨_, rfl⟩
  rw [← ht9] at HC ⊢
  clear ht9
  obtain ⟨b1, b2, bs⟩ := heap2 w (.cells #[.slice A s.M.W.length a, .slice B s.M.G.length b, .bool s.M.bad, .slice C s.C.length c, .slice L s.L.length d] 28) (.cells #[.slice none 0 0, .slice none 0 0, .bool false, .slice none 0 0, .slice none 0 0] 28)
  have hb : Below w.heap.size w ((w.alloc (.cells #[.slice A s.M.W.length a, .slice B s.M.G.length b, .bool s.M.bad, .slice C s.C.length c, .slice L s.L.length d] 28)).alloc (.cells #[.slice none 0 0, .slice none 0 0, .bool false, .slice none 0 0, .slice none 0 0] 28)) := bstep (boxed _ _) (boxed _ _)
  have z1 : w.heap.size + 1 < ((w.alloc (.cells #[.slice A s.M.W.length a, .slice B s.M.G.length b, .bool s.M.bad, .slice C s.C.length c, .slice L s.L.length d] 28)).alloc (.cells #[.slice none 0 0, .slice none 0 0, .bool false, .slice none 0 0, .slice none 0 0] 28)).heap.size := by simp
  clear bs
  go_enter Try.func17, Try.ntmps17
  go_upto_region 1 with (fail)
  generalize ((w.alloc (.cells #[.slice A s.M.W.length a, .slice B s.M.G.length b, .bool s.M.bad, .slice C s.C.length c, .slice L s.L.length d] 28)).alloc (.cells #[.slice none 0 0, .slice none 0 0, .bool false, .slice none 0 0, .slice none 0 0] 28)) = w1 at *
  have K := h.step hb
  obtain ⟨p0, p1, p2, p3, p4⟩ := cells5 b1
  go_upto_region 2 with (go_at_call 42; (with_reducible refine (top_is A B C L a b c d s i 3 pc r0 r1 r2 r3 r4 r5 r6 r7 xs _ hs K hp h6).mono ?_); rintro e wk ⟨AF, cF, rfl, rF, hk⟩)
  clear p0 p1 p2 p3 p4
  have hj : Below w1.heap.size w1 (wk.alloc (.cells #[.int .i64 3, .int .i64 pc, .int .i64 r0, .int .i64 r1, .int .i64 r2, .int .i64 r3, .int .i64 r4, .int .i64 r5, .int .i64 r6, .int .i64 r7, .slice AF xs.length cF] 55)) := bstep hk (boxed _ _)
  have b3 := heap_alloc_new wk (.cells #[.int .i64 3, .int .i64 pc, .int .i64 r0, .int .i64 r1, .int .i64 r2, .int .i64 r3, .int .i64 r4, .int .i64 r5, .int .i64 r6, .int .i64 r7, .slice AF xs.length cF] 55)
  replace b1 := (hj.block w.heap.size (by omega)).trans b1
  replace b2 := (hj.block (w.heap.size + 1) z1).trans b2
  replace K := K.step hj
  replace hb := bstep hb hj
  replace z1 := Nat.lt_of_lt_of_le z1 hj.size
  replace rF := rF.alloc (.cells #[.int .i64 3, .int .i64 pc, .int .i64 r0, .int .i64 r1, .int .i64 r2, .int .i64 r3, .int .i64 r4, .int .i64 r5, .int .i64 r6, .int .i64 r7, .slice AF xs.length cF] 55)
  clear hk hj
  obtain ⟨vF, hv⟩ : ∃ v, wk.heap.size = v := ⟨_, rfl⟩
  rw [hv] at b3 ⊢
  clear hv
  generalize (wk.alloc (.cells #[.int .i64 3, .int .i64 pc, .int .i64 r0, .int .i64 r1, .int .i64 r2, .int .i64 r3, .int .i64 r4, .int .i64 r5, .int .i64 r6, .int .i64 r7, .slice AF xs.length cF] 55)) = w3 at *
  obtain ⟨p0, p1, p2, p3, p4⟩ := cells5 b1
  obtain ⟨f0, f1, f2, f3, f4, f5, f6, f7, f8, f9, f10⟩ := cells11 b3
  go_wp2_with (go_at_call 43; (with_reducible refine (HC.out AF cF _ K rF).mono ?_); rintro e wz hN; have hz := hN.2; obtain ⟨A9, B9, C9, L9, a9, b9, c9, d9, he, _, _, _, _, _⟩ := hN.1 wz (Turn.refl _ _); subst he; have HN := hid hN; clear hN; have kR := (hz.block (w.heap.size + 1) z1).trans b2; have kb := bstep hb hz; obtain ⟨q0, q1, q2, q3, q4⟩ := cells5 kR; obtain ⟨qf0, qf1, qf2, qf3, qf4⟩ := frz5 kR)
  refine bodyPost_ret (v := .agg #[.slice A9 t9.M.W.length a9, .slice B9 t9.M.G.length b9, .bool t9.M.bad, .slice C9 t9.C.length c9, .slice L9 t9.L.length d9]) (by simp [results, Try.results17, go_sem, q0, q1, q2, q3, q4]) rfl ?_
  exact ret_resN _ _ _ _ _ HN.out z1 (by omega) kb

set_option maxRecDepth 100000 in
set_option maxHeartbeats 4000000 in
theorem hstep_clearSlot (A B C L : Option Addr) (a b c d : Nat) (s : Sy) (i : Int) (pc r0 r1 r2 r3 r4 r5 r6 r7 : Int) (xs : List Int) (w : World) (hs : SyFew s) (hg : 2 ≤ s.M.G.length) (h : RS w s A B C L)  (hp : pTop s i = some ⟨4, pc, [r0, r1, r2, r3, r4, r5, r6, r7], xs⟩) (h6 : xs.length ≤ 1000000) :
    Calls Try.prog 17 #[.agg #[.slice A s.M.W.length a, .slice B s.M.G.length b, .bool s.M.bad, .slice C s.C.length c, .slice L s.L.length d], .int .i64 i] w (RetSysN w (pClr s i ⟨4, pc, [r0, r1, r2, r3, r4, r5, r6, r7], xs⟩ s)) := by
  have HC := hid (show ∀ (AF : Option Addr) (cF : Nat) w', RS w' s A B C L → Row w' AF xs → Calls Try.prog 44 #[.agg #[.slice A s.M.W.length a, .slice B s.M.G.length b, .bool s.M.bad, .slice C s.C.length c, .slice L s.L.length d], .int .i64 i, .agg #[.int .i64 4, .int .i64 pc, .int .i64 r0, .int .i64 r1, .int .i64 r2, .int .i64 r3, .int .i64 r4, .int .i64 r5, .int .i64 r6, .int .i64 r7, .slice AF xs.length cF]] w' (RetSysN w' (pClr s i ⟨4, pc, [r0, r1, r2, r3, r4, r5, r6, r7], xs⟩ s)) from fun AF cF w' k k2 => clr_any A B C L a b c d s i AF cF 4 pc r0 r1 r2 r3 r4 r5 r6 r7 xs s w' hs hg k k2 h6  (pSet_top hp).symm)
  obtain ⟨t9, ht9⟩ : ∃ t, t = pClr s i ⟨4, pc, [r0, r1, r2, r3, r4, r5, r6, r7], xs⟩ s := ⟨_, rfl⟩
  rw [← ht9] at HC ⊢
  clear ht9
  obtain ⟨b1, b2, bs⟩ := heap2 w (.cells #[.slice A s.M.W.length a, .slice B s.M.G.length b, .bool s.M.bad, .slice C s.C.length c, .slice L s.L.length d] 28) (.cells #[.slice none 0 0, .slice none 0 0, .bool false, .slice none 0 0, .slice none 0 0] 28)
  have hb : Below w.heap.size w ((w.alloc (.cells #[.slice A s.M.W.length a, .slice B s.M.G.length b, .bool s.M.bad, .slice C s.C.length c, .slice L s.L.length d] 28)).alloc (.cells #[.slice none 0 0, .slice none 0 0, .bool false, .slice none 0 0, .slice none 0 0] 28)) := bstep (boxed _ _) (boxed _ _)
  have z1 : w.heap.size + 1 < ((w.alloc (.cells #[.slice A s.M.W.length a, .slice B s.M.G.length b, .bool s.M.bad, .slice C s.C.length c, .slice L s.L.length d] 28)).alloc (.cells #[.slice none 0 0, .slice none 0 0, .bool false, .slice none 0 0, .slice none 0 0] 28)).heap.size := by simp
  clear bs
  go_enter Try.func17, Try.ntmps17
  go_upto_region 1 with (fail)
  generalize ((w.alloc (.cells #[.slice A s.M.W.length a, .slice B s.M.G.length b, .bool s.M.bad, .slice C s.C.length c, .slice L s.L.length d] 28)).alloc (.cells #[.slice none 0 0, .slice none 0 0, .bool false, .slice none 0 0, .slice none 0 0] 28)) = w1 at *
  have K := h.step hb
  obtain ⟨p0, p1, p2, p3, p4⟩ := cells5 b1
  go_upto_region 2 with (go_at_call 42; (with_reducible refine (top_is A B C L a b c d s i 4 pc r0 r1 r2 r3 r4 r5 r6 r7 xs _ hs K hp h6).mono ?_); rintro e wk ⟨AF, cF, rfl, rF, hk⟩)
  clear p0 p1 p2 p3 p4
  have hj : Below w1.heap.size w1 (wk.alloc (.cells #[.int .i64 4, .int .i64 pc, .int .i64 r0, .int .i64 r1, .int .i64 r2, .int .i64 r3, .int .i64 r4, .int .i64 r5, .int .i64 r6, .int .i64 r7, .slice AF xs.length cF] 55)) := bstep hk (boxed _ _)
  have b3 := heap_alloc_new wk (.cells #[.int .i64 4, .int .i64 pc, .int .i64 r0, .int .i64 r1, .int .i64 r2, .int .i64 r3, .int .i64 r4, .int .i64 r5, .int .i64 r6, .int .i64 r7, .slice AF xs.length cF] 55)
  replace b1 := (hj.block w.heap.size (by omega)).trans b1
  replace b2 := (hj.block (w.heap.size + 1) z1).trans b2
  replace K := K.step hj
  replace hb := bstep hb hj
  replace z1 := Nat.lt_of_lt_of_le z1 hj.size
  replace rF := rF.alloc (.cells #[.int .i64 4, .int .i64 pc, .int .i64 r0, .int .i64 r1, .int .i64 r2, .int .i64 r3, .int .i64 r4, .int .i64 r5, .int .i64 r6, .int .i64 r7, .slice AF xs.length cF] 55)
  clear hk hj
  obtain ⟨vF, hv⟩ : ∃ v, wk.heap.size = v := ⟨_, rfl⟩
  rw [hv] at b3 ⊢
  clear hv
  generalize (wk.alloc (.cells #[.int .i64 4, .int .i64 pc, .int .i64 r0, .int .i64 r1, .int .i64 r2, .int .i64 r3, .int .i64 r4, .int .i64 r5, .int .i64 r6, .int .i64 r7, .slice AF xs.length cF] 55)) = w3 at *
  obtain ⟨p0, p1, p2, p3, p4⟩ := cells5 b1
  obtain ⟨f0, f1, f2, f3, f4, f5, f6, f7, f8, f9, f10⟩ := cells11 b3
  go_wp2_with (go_at_call 44; (with_reducible refine (HC.out AF cF _ K rF).mono ?_); rintro e wz hN; have hz := hN.2; obtain ⟨A9, B9, C9, L9, a9, b9, c9, d9, he, _, _, _, _, _⟩ := hN.1 wz (Turn.refl _ _); subst he; have HN := hid hN; clear hN; have kR := (hz.block (w.heap.size + 1) z1).trans b2; have kb := bstep hb hz; obtain ⟨q0, q1, q2, q3, q4⟩ := cells5 kR; obtain ⟨qf0, qf1, qf2, qf3, qf4⟩ := frz5 kR)
  refine bodyPost_ret (v := .agg #[.slice A9 t9.M.W.length a9, .slice B9 t9.M.G.length b9, .bool t9.M.bad, .slice C9 t9.C.length c9, .slice L9 t9.L.length d9]) (by simp [results, Try.results17, go_sem, q0, q1, q2, q3, q4]) rfl ?_
  exact ret_resN _ _ _ _ _ HN.out z1 (by omega) kb

theorem hstep_any (A B C L : Option Addr) (a b c d : Nat) (s : Sy) (i : Int) (w : World) (hs : SyFew s) (hg : 2 ≤ s.M.G.length) (h : RS w s A B C L) (hr : ∀ f, pTop s i = some f → W64 (f.R.getD 0 0)) :
    Calls Try.prog 17 #[.agg #[.slice A s.M.W.length a, .slice B s.M.G.length b, .bool s.M.bad, .slice C s.C.length c, .slice L s.L.length d], .int .i64 i] w (RetSysN w (pHaz s i)) := by
  rcases pTop_cases s i hs h.C with hp | ⟨op, pc, r0, r1, r2, r3, r4, r5, r6, r7, xs, hp, h6⟩
  · have e : pHaz s i = s := by unfold pHaz; rw [hp]
    rw [e]
    exact hstep_none A B C L a b c d s i w hs hg h hp
  · by_cases o1 : op = 3
    · subst o1
      have e : pHaz s i = pProt s i ⟨3, pc, [r0, r1, r2, r3, r4, r5, r6, r7], xs⟩ s := by unfold pHaz; rw [hp]; simp
      rw [e]
      exact hstep_protect A B C L a b c d s i pc r0 r1 r2 r3 r4 r5 r6 r7 xs w hs hg h (hr _ hp) hp h6
    · by_cases o2 : op = 4
      · subst o2
        have e : pHaz s i = pClr s i ⟨4, pc, [r0, r1, r2, r3, r4, r5, r6, r7], xs⟩ s := by unfold pHaz; rw [hp]; simp
        rw [e]
        exact hstep_clearSlot A B C L a b c d s i pc r0 r1 r2 r3 r4 r5 r6 r7 xs w hs hg h hp h6
      · have e : pHaz s i = s := by unfold pHaz; rw [hp]; simp [o1, o2]
        rw [e]
        exact hstep_x A B C L a b c d s i op pc r0 r1 r2 r3 r4 r5 r6 r7 xs w hs hg h hp h6 o1 o2
end Go.Proofs.Ythpflcknommpdaa
