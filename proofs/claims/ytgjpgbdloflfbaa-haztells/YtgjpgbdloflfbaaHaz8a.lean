/- Contract: a step of a core, by the document's layer 5. -/
import Derived.Test.YtgjpgbdloflfbaaHaz7
import Derived.Test.YtgjpgbdloflfbaaHazN
namespace Go.Proofs.Ytgjpgbdloflfbaa
open Go.RowKit
set_option linter.unusedVariables false
set_option linter.unusedSimpArgs false

set_option maxRecDepth 100000 in
set_option maxHeartbeats 4000000 in
theorem rhstep_none (A B C L : Option Addr) (a b c d : Nat) (s : Sy) (i : Int) (w : World) (hs : SyFew s) (hg : 2 ≤ s.M.G.length) (h : RS w s A B C L) (hF : ∀ x ∈ s.C, x.F.length ≤ 999999) (hp : pTop s i = none) :
    Calls Try.prog 32 #[.agg #[.slice A s.M.W.length a, .slice B s.M.G.length b, .bool s.M.bad, .slice C s.C.length c, .slice L s.L.length d], .int .i64 i] w (RetSys w s) := by
  obtain ⟨b1, b2, bs⟩ := heap2 w (.cells #[.slice A s.M.W.length a, .slice B s.M.G.length b, .bool s.M.bad, .slice C s.C.length c, .slice L s.L.length d] 30) (.cells #[.slice none 0 0, .slice none 0 0, .bool false, .slice none 0 0, .slice none 0 0] 30)
  have hb : Below w.heap.size w ((w.alloc (.cells #[.slice A s.M.W.length a, .slice B s.M.G.length b, .bool s.M.bad, .slice C s.C.length c, .slice L s.L.length d] 30)).alloc (.cells #[.slice none 0 0, .slice none 0 0, .bool false, .slice none 0 0, .slice none 0 0] 30)) := bstep (boxed _ _) (boxed _ _)
  have z1 : w.heap.size + 1 < ((w.alloc (.cells #[.slice A s.M.W.length a, .slice B s.M.G.length b, .bool s.M.bad, .slice C s.C.length c, .slice L s.L.length d] 30)).alloc (.cells #[.slice none 0 0, .slice none 0 0, .bool false, .slice none 0 0, .slice none 0 0] 30)).heap.size := by simp
  clear bs
  go_enter Try.func32, Try.ntmps32
  go_upto_region 1 with (fail)
  generalize ((w.alloc (.cells #[.slice A s.M.W.length a, .slice B s.M.G.length b, .bool s.M.bad, .slice C s.C.length c, .slice L s.L.length d] 30)).alloc (.cells #[.slice none 0 0, .slice none 0 0, .bool false, .slice none 0 0, .slice none 0 0] 30)) = w1 at *
  have K := h.step hb
  have p0 : w1.cell? ⟨w.heap.size, 0, none⟩ = some (.slice A s.M.W.length a) := cell_of_row w1 _ 0 _ _ _ b1
  have p1 : w1.cell? ⟨w.heap.size, 1, none⟩ = some (.slice B s.M.G.length b) := cell_of_row w1 _ 1 _ _ _ b1
  have p2 : w1.cell? ⟨w.heap.size, 2, none⟩ = some (.bool s.M.bad) := cell_of_row w1 _ 2 _ _ _ b1
  have p3 : w1.cell? ⟨w.heap.size, 3, none⟩ = some (.slice C s.C.length c) := cell_of_row w1 _ 3 _ _ _ b1
  have p4 : w1.cell? ⟨w.heap.size, 4, none⟩ = some (.slice L s.L.length d) := cell_of_row w1 _ 4 _ _ _ b1
  go_upto_region 2 with (go_at_call 15; (with_reducible refine (rtop_no A B C L a b c d s i _ hs K hp).mono ?_); rintro e wk ⟨rfl, hk⟩)
  have rF : Row wk none [] := Row.nil _ _
  clear p0 p1 p2 p3 p4
  have hj : Below w1.heap.size w1 (wk.alloc (.cells #[.int .i64 0, .int .i64 0, .int .i64 0, .int .i64 0, .int .i64 0, .int .i64 0, .int .i64 0, .int .i64 0, .int .i64 0, .int .i64 0, .slice none 0 0] 38)) := bstep hk (boxed _ _)
  have b3 := heap_alloc_new wk (.cells #[.int .i64 0, .int .i64 0, .int .i64 0, .int .i64 0, .int .i64 0, .int .i64 0, .int .i64 0, .int .i64 0, .int .i64 0, .int .i64 0, .slice none 0 0] 38)
  replace b1 := (hj.block w.heap.size (by omega)).trans b1
  replace b2 := (hj.block (w.heap.size + 1) z1).trans b2
  replace K := K.step hj
  replace hb := bstep hb hj
  replace z1 := Nat.lt_of_lt_of_le z1 hj.size
  replace rF := rF.alloc (.cells #[.int .i64 0, .int .i64 0, .int .i64 0, .int .i64 0, .int .i64 0, .int .i64 0, .int .i64 0, .int .i64 0, .int .i64 0, .int .i64 0, .slice none 0 0] 38)
  clear hk hj
  obtain ⟨vF, hv⟩ : ∃ v, wk.heap.size = v := ⟨_, rfl⟩
  rw [hv] at b3 ⊢
  clear hv
  generalize (wk.alloc (.cells #[.int .i64 0, .int .i64 0, .int .i64 0, .int .i64 0, .int .i64 0, .int .i64 0, .int .i64 0, .int .i64 0, .int .i64 0, .int .i64 0, .slice none 0 0] 38)) = w3 at *
  have p0 : w3.cell? ⟨w.heap.size, 0, none⟩ = some (.slice A s.M.W.length a) := cell_of_row w3 _ 0 _ _ _ b1
  have p1 : w3.cell? ⟨w.heap.size, 1, none⟩ = some (.slice B s.M.G.length b) := cell_of_row w3 _ 1 _ _ _ b1
  have p2 : w3.cell? ⟨w.heap.size, 2, none⟩ = some (.bool s.M.bad) := cell_of_row w3 _ 2 _ _ _ b1
  have p3 : w3.cell? ⟨w.heap.size, 3, none⟩ = some (.slice C s.C.length c) := cell_of_row w3 _ 3 _ _ _ b1
  have p4 : w3.cell? ⟨w.heap.size, 4, none⟩ = some (.slice L s.L.length d) := cell_of_row w3 _ 4 _ _ _ b1
  have f0 : w3.cell? ⟨vF, 0, none⟩ = some (.int .i64 0) := cell_of_row w3 _ 0 _ _ _ b3
  have f1 : w3.cell? ⟨vF, 1, none⟩ = some (.int .i64 0) := cell_of_row w3 _ 1 _ _ _ b3
  have f2 : w3.cell? ⟨vF, 2, none⟩ = some (.int .i64 0) := cell_of_row w3 _ 2 _ _ _ b3
  have f3 : w3.cell? ⟨vF, 3, none⟩ = some (.int .i64 0) := cell_of_row w3 _ 3 _ _ _ b3
  have f4 : w3.cell? ⟨vF, 4, none⟩ = some (.int .i64 0) := cell_of_row w3 _ 4 _ _ _ b3
  have f5 : w3.cell? ⟨vF, 5, none⟩ = some (.int .i64 0) := cell_of_row w3 _ 5 _ _ _ b3
  have f6 : w3.cell? ⟨vF, 6, none⟩ = some (.int .i64 0) := cell_of_row w3 _ 6 _ _ _ b3
  have f7 : w3.cell? ⟨vF, 7, none⟩ = some (.int .i64 0) := cell_of_row w3 _ 7 _ _ _ b3
  have f8 : w3.cell? ⟨vF, 8, none⟩ = some (.int .i64 0) := cell_of_row w3 _ 8 _ _ _ b3
  have f9 : w3.cell? ⟨vF, 9, none⟩ = some (.int .i64 0) := cell_of_row w3 _ 9 _ _ _ b3
  have f10 : w3.cell? ⟨vF, 10, none⟩ = some (.slice none 0 0) := cell_of_row w3 _ 10 _ _ _ b3
  have q0 : w3.cell? ⟨w.heap.size + 1, 0, none⟩ = some (.slice none 0 0) := cell_of_row w3 _ 0 _ _ _ b2
  have q1 : w3.cell? ⟨w.heap.size + 1, 1, none⟩ = some (.slice none 0 0) := cell_of_row w3 _ 1 _ _ _ b2
  have q2 : w3.cell? ⟨w.heap.size + 1, 2, none⟩ = some (.bool false) := cell_of_row w3 _ 2 _ _ _ b2
  have q3 : w3.cell? ⟨w.heap.size + 1, 3, none⟩ = some (.slice none 0 0) := cell_of_row w3 _ 3 _ _ _ b2
  have q4 : w3.cell? ⟨w.heap.size + 1, 4, none⟩ = some (.slice none 0 0) := cell_of_row w3 _ 4 _ _ _ b2
  have qf0 : w3.frozen? ⟨w.heap.size + 1, 0, none⟩ = false := frozen_of_row w3 _ 0 _ _ b2
  have qf1 : w3.frozen? ⟨w.heap.size + 1, 1, none⟩ = false := frozen_of_row w3 _ 1 _ _ b2
  have qf2 : w3.frozen? ⟨w.heap.size + 1, 2, none⟩ = false := frozen_of_row w3 _ 2 _ _ b2
  have qf3 : w3.frozen? ⟨w.heap.size + 1, 3, none⟩ = false := frozen_of_row w3 _ 3 _ _ b2
  have qf4 : w3.frozen? ⟨w.heap.size + 1, 4, none⟩ = false := frozen_of_row w3 _ 4 _ _ b2
  go_wp2_with fail
  refine bodyPost_ret (v := .agg #[.slice A s.M.W.length a, .slice B s.M.G.length b, .bool s.M.bad, .slice C s.C.length c, .slice L s.L.length d]) (by simp [results, Try.results32, go_sem, q0, q1, q2, q3, q4]) rfl ?_
  exact ret_resV (by omega) b2 hb K.W K.G K.C K.L

set_option maxRecDepth 100000 in
set_option maxHeartbeats 4000000 in
theorem rhstep_x (A B C L : Option Addr) (a b c d : Nat) (s : Sy) (i : Int) (op pc r0 r1 r2 r3 r4 r5 r6 r7 : Int) (xs : List Int) (w : World) (hs : SyFew s) (hg : 2 ≤ s.M.G.length) (h : RS w s A B C L) (hF : ∀ x ∈ s.C, x.F.length ≤ 999999) (hp : pTop s i = some ⟨op, pc, [r0, r1, r2, r3, r4, r5, r6, r7], xs⟩) (h6 : xs.length ≤ 1000000) (o1 : ¬ op = 3) (o2 : ¬ op = 4) :
    Calls Try.prog 32 #[.agg #[.slice A s.M.W.length a, .slice B s.M.G.length b, .bool s.M.bad, .slice C s.C.length c, .slice L s.L.length d], .int .i64 i] w (RetSys w s) := by
  have e1 : (op == 3) = false := by simpa using o1
  have e2 : (op != 4) = true := by simpa using o2
  clear o1 o2
  obtain ⟨b1, b2, bs⟩ := heap2 w (.cells #[.slice A s.M.W.length a, .slice B s.M.G.length b, .bool s.M.bad, .slice C s.C.length c, .slice L s.L.length d] 30) (.cells #[.slice none 0 0, .slice none 0 0, .bool false, .slice none 0 0, .slice none 0 0] 30)
  have hb : Below w.heap.size w ((w.alloc (.cells #[.slice A s.M.W.length a, .slice B s.M.G.length b, .bool s.M.bad, .slice C s.C.length c, .slice L s.L.length d] 30)).alloc (.cells #[.slice none 0 0, .slice none 0 0, .bool false, .slice none 0 0, .slice none 0 0] 30)) := bstep (boxed _ _) (boxed _ _)
  have z1 : w.heap.size + 1 < ((w.alloc (.cells #[.slice A s.M.W.length a, .slice B s.M.G.length b, .bool s.M.bad, .slice C s.C.length c, .slice L s.L.length d] 30)).alloc (.cells #[.slice none 0 0, .slice none 0 0, .bool false, .slice none 0 0, .slice none 0 0] 30)).heap.size := by simp
  clear bs
  go_enter Try.func32, Try.ntmps32
  go_upto_region 1 with (fail)
  generalize ((w.alloc (.cells #[.slice A s.M.W.length a, .slice B s.M.G.length b, .bool s.M.bad, .slice C s.C.length c, .slice L s.L.length d] 30)).alloc (.cells #[.slice none 0 0, .slice none 0 0, .bool false, .slice none 0 0, .slice none 0 0] 30)) = w1 at *
  have K := h.step hb
  have p0 : w1.cell? ⟨w.heap.size, 0, none⟩ = some (.slice A s.M.W.length a) := cell_of_row w1 _ 0 _ _ _ b1
  have p1 : w1.cell? ⟨w.heap.size, 1, none⟩ = some (.slice B s.M.G.length b) := cell_of_row w1 _ 1 _ _ _ b1
  have p2 : w1.cell? ⟨w.heap.size, 2, none⟩ = some (.bool s.M.bad) := cell_of_row w1 _ 2 _ _ _ b1
  have p3 : w1.cell? ⟨w.heap.size, 3, none⟩ = some (.slice C s.C.length c) := cell_of_row w1 _ 3 _ _ _ b1
  have p4 : w1.cell? ⟨w.heap.size, 4, none⟩ = some (.slice L s.L.length d) := cell_of_row w1 _ 4 _ _ _ b1
  go_upto_region 2 with (go_at_call 15; (with_reducible refine (rtop_is A B C L a b c d s i op pc r0 r1 r2 r3 r4 r5 r6 r7 xs _ hs K hp h6).mono ?_); rintro e wk ⟨AF, cF, rfl, rF, hk⟩)
  clear p0 p1 p2 p3 p4
  have hj : Below w1.heap.size w1 (wk.alloc (.cells #[.int .i64 op, .int .i64 pc, .int .i64 r0, .int .i64 r1, .int .i64 r2, .int .i64 r3, .int .i64 r4, .int .i64 r5, .int .i64 r6, .int .i64 r7, .slice AF xs.length cF] 38)) := bstep hk (boxed _ _)
  have b3 := heap_alloc_new wk (.cells #[.int .i64 op, .int .i64 pc, .int .i64 r0, .int .i64 r1, .int .i64 r2, .int .i64 r3, .int .i64 r4, .int .i64 r5, .int .i64 r6, .int .i64 r7, .slice AF xs.length cF] 38)
  replace b1 := (hj.block w.heap.size (by omega)).trans b1
  replace b2 := (hj.block (w.heap.size + 1) z1).trans b2
  replace K := K.step hj
  replace hb := bstep hb hj
  replace z1 := Nat.lt_of_lt_of_le z1 hj.size
  replace rF := rF.alloc (.cells #[.int .i64 op, .int .i64 pc, .int .i64 r0, .int .i64 r1, .int .i64 r2, .int .i64 r3, .int .i64 r4, .int .i64 r5, .int .i64 r6, .int .i64 r7, .slice AF xs.length cF] 38)
  clear hk hj
  obtain ⟨vF, hv⟩ : ∃ v, wk.heap.size = v := ⟨_, rfl⟩
  rw [hv] at b3 ⊢
  clear hv
  generalize (wk.alloc (.cells #[.int .i64 op, .int .i64 pc, .int .i64 r0, .int .i64 r1, .int .i64 r2, .int .i64 r3, .int .i64 r4, .int .i64 r5, .int .i64 r6, .int .i64 r7, .slice AF xs.length cF] 38)) = w3 at *
  have p0 : w3.cell? ⟨w.heap.size, 0, none⟩ = some (.slice A s.M.W.length a) := cell_of_row w3 _ 0 _ _ _ b1
  have p1 : w3.cell? ⟨w.heap.size, 1, none⟩ = some (.slice B s.M.G.length b) := cell_of_row w3 _ 1 _ _ _ b1
  have p2 : w3.cell? ⟨w.heap.size, 2, none⟩ = some (.bool s.M.bad) := cell_of_row w3 _ 2 _ _ _ b1
  have p3 : w3.cell? ⟨w.heap.size, 3, none⟩ = some (.slice C s.C.length c) := cell_of_row w3 _ 3 _ _ _ b1
  have p4 : w3.cell? ⟨w.heap.size, 4, none⟩ = some (.slice L s.L.length d) := cell_of_row w3 _ 4 _ _ _ b1
  have f0 : w3.cell? ⟨vF, 0, none⟩ = some (.int .i64 op) := cell_of_row w3 _ 0 _ _ _ b3
  have f1 : w3.cell? ⟨vF, 1, none⟩ = some (.int .i64 pc) := cell_of_row w3 _ 1 _ _ _ b3
  have f2 : w3.cell? ⟨vF, 2, none⟩ = some (.int .i64 r0) := cell_of_row w3 _ 2 _ _ _ b3
  have f3 : w3.cell? ⟨vF, 3, none⟩ = some (.int .i64 r1) := cell_of_row w3 _ 3 _ _ _ b3
  have f4 : w3.cell? ⟨vF, 4, none⟩ = some (.int .i64 r2) := cell_of_row w3 _ 4 _ _ _ b3
  have f5 : w3.cell? ⟨vF, 5, none⟩ = some (.int .i64 r3) := cell_of_row w3 _ 5 _ _ _ b3
  have f6 : w3.cell? ⟨vF, 6, none⟩ = some (.int .i64 r4) := cell_of_row w3 _ 6 _ _ _ b3
  have f7 : w3.cell? ⟨vF, 7, none⟩ = some (.int .i64 r5) := cell_of_row w3 _ 7 _ _ _ b3
  have f8 : w3.cell? ⟨vF, 8, none⟩ = some (.int .i64 r6) := cell_of_row w3 _ 8 _ _ _ b3
  have f9 : w3.cell? ⟨vF, 9, none⟩ = some (.int .i64 r7) := cell_of_row w3 _ 9 _ _ _ b3
  have f10 : w3.cell? ⟨vF, 10, none⟩ = some (.slice AF xs.length cF) := cell_of_row w3 _ 10 _ _ _ b3
  have q0 : w3.cell? ⟨w.heap.size + 1, 0, none⟩ = some (.slice none 0 0) := cell_of_row w3 _ 0 _ _ _ b2
  have q1 : w3.cell? ⟨w.heap.size + 1, 1, none⟩ = some (.slice none 0 0) := cell_of_row w3 _ 1 _ _ _ b2
  have q2 : w3.cell? ⟨w.heap.size + 1, 2, none⟩ = some (.bool false) := cell_of_row w3 _ 2 _ _ _ b2
  have q3 : w3.cell? ⟨w.heap.size + 1, 3, none⟩ = some (.slice none 0 0) := cell_of_row w3 _ 3 _ _ _ b2
  have q4 : w3.cell? ⟨w.heap.size + 1, 4, none⟩ = some (.slice none 0 0) := cell_of_row w3 _ 4 _ _ _ b2
  have qf0 : w3.frozen? ⟨w.heap.size + 1, 0, none⟩ = false := frozen_of_row w3 _ 0 _ _ b2
  have qf1 : w3.frozen? ⟨w.heap.size + 1, 1, none⟩ = false := frozen_of_row w3 _ 1 _ _ b2
  have qf2 : w3.frozen? ⟨w.heap.size + 1, 2, none⟩ = false := frozen_of_row w3 _ 2 _ _ b2
  have qf3 : w3.frozen? ⟨w.heap.size + 1, 3, none⟩ = false := frozen_of_row w3 _ 3 _ _ b2
  have qf4 : w3.frozen? ⟨w.heap.size + 1, 4, none⟩ = false := frozen_of_row w3 _ 4 _ _ b2
  go_wp2_with fail
  refine bodyPost_ret (v := .agg #[.slice A s.M.W.length a, .slice B s.M.G.length b, .bool s.M.bad, .slice C s.C.length c, .slice L s.L.length d]) (by simp [results, Try.results32, go_sem, q0, q1, q2, q3, q4]) rfl ?_
  exact ret_resV (by omega) b2 hb K.W K.G K.C K.L

set_option maxRecDepth 100000 in
set_option maxHeartbeats 4000000 in
theorem rhstep_prot (A B C L : Option Addr) (a b c d : Nat) (s : Sy) (i : Int) (pc r0 r1 r2 r3 r4 r5 r6 r7 : Int) (xs : List Int) (w : World) (hs : SyFew s) (hg : 2 ≤ s.M.G.length) (h : RS w s A B C L) (hF : ∀ x ∈ s.C, x.F.length ≤ 999999) (hp : pTop s i = some ⟨3, pc, [r0, r1, r2, r3, r4, r5, r6, r7], xs⟩) (h6 : xs.length ≤ 1000000) :
    Calls Try.prog 32 #[.agg #[.slice A s.M.W.length a, .slice B s.M.G.length b, .bool s.M.bad, .slice C s.C.length c, .slice L s.L.length d], .int .i64 i] w (RetSys w (pProt s i ⟨3, pc, [r0, r1, r2, r3, r4, r5, r6, r7], xs⟩ s)) := by
  have HC := hid (show ∀ (AF : Option Addr) (cF : Nat) w', RS w' s A B C L → Row w' AF xs → Calls Try.prog 58 #[.agg #[.slice A s.M.W.length a, .slice B s.M.G.length b, .bool s.M.bad, .slice C s.C.length c, .slice L s.L.length d], .int .i64 i, .agg #[.int .i64 3, .int .i64 pc, .int .i64 r0, .int .i64 r1, .int .i64 r2, .int .i64 r3, .int .i64 r4, .int .i64 r5, .int .i64 r6, .int .i64 r7, .slice AF xs.length cF]] w' (RetSys w' (pProt s i ⟨3, pc, [r0, r1, r2, r3, r4, r5, r6, r7], xs⟩ s)) from fun AF cF w' k k2 => rprot_any A B C L a b c d s i AF cF 3 pc r0 r1 r2 r3 r4 r5 r6 r7 xs s w' hs hg k k2 h6 hF rfl)
  obtain ⟨t9, ht9⟩ : ∃ t, t = pProt s i ⟨3, pc, [r0, r1, r2, r3, r4, r5, r6, r7], xs⟩ s := ⟨_, rfl⟩
  rw [← ht9] at HC ⊢
  clear ht9
  obtain ⟨b1, b2, bs⟩ := heap2 w (.cells #[.slice A s.M.W.length a, .slice B s.M.G.length b, .bool s.M.bad, .slice C s.C.length c, .slice L s.L.length d] 30) (.cells #[.slice none 0 0, .slice none 0 0, .bool false, .slice none 0 0, .slice none 0 0] 30)
  have hb : Below w.heap.size w ((w.alloc (.cells #[.slice A s.M.W.length a, .slice B s.M.G.length b, .bool s.M.bad, .slice C s.C.length c, .slice L s.L.length d] 30)).alloc (.cells #[.slice none 0 0, .slice none 0 0, .bool false, .slice none 0 0, .slice none 0 0] 30)) := bstep (boxed _ _) (boxed _ _)
  have z1 : w.heap.size + 1 < ((w.alloc (.cells #[.slice A s.M.W.length a, .slice B s.M.G.length b, .bool s.M.bad, .slice C s.C.length c, .slice L s.L.length d] 30)).alloc (.cells #[.slice none 0 0, .slice none 0 0, .bool false, .slice none 0 0, .slice none 0 0] 30)).heap.size := by simp
  clear bs
  go_enter Try.func32, Try.ntmps32
  go_upto_region 1 with (fail)
  generalize ((w.alloc (.cells #[.slice A s.M.W.length a, .slice B s.M.G.length b, .bool s.M.bad, .slice C s.C.length c, .slice L s.L.length d] 30)).alloc (.cells #[.slice none 0 0, .slice none 0 0, .bool false, .slice none 0 0, .slice none 0 0] 30)) = w1 at *
  have K := h.step hb
  have p0 : w1.cell? ⟨w.heap.size, 0, none⟩ = some (.slice A s.M.W.length a) := cell_of_row w1 _ 0 _ _ _ b1
  have p1 : w1.cell? ⟨w.heap.size, 1, none⟩ = some (.slice B s.M.G.length b) := cell_of_row w1 _ 1 _ _ _ b1
  have p2 : w1.cell? ⟨w.heap.size, 2, none⟩ = some (.bool s.M.bad) := cell_of_row w1 _ 2 _ _ _ b1
  have p3 : w1.cell? ⟨w.heap.size, 3, none⟩ = some (.slice C s.C.length c) := cell_of_row w1 _ 3 _ _ _ b1
  have p4 : w1.cell? ⟨w.heap.size, 4, none⟩ = some (.slice L s.L.length d) := cell_of_row w1 _ 4 _ _ _ b1
  go_upto_region 2 with (go_at_call 15; (with_reducible refine (rtop_is A B C L a b c d s i 3 pc r0 r1 r2 r3 r4 r5 r6 r7 xs _ hs K hp h6).mono ?_); rintro e wk ⟨AF, cF, rfl, rF, hk⟩)
  clear p0 p1 p2 p3 p4
  have hj : Below w1.heap.size w1 (wk.alloc (.cells #[.int .i64 3, .int .i64 pc, .int .i64 r0, .int .i64 r1, .int .i64 r2, .int .i64 r3, .int .i64 r4, .int .i64 r5, .int .i64 r6, .int .i64 r7, .slice AF xs.length cF] 38)) := bstep hk (boxed _ _)
  have b3 := heap_alloc_new wk (.cells #[.int .i64 3, .int .i64 pc, .int .i64 r0, .int .i64 r1, .int .i64 r2, .int .i64 r3, .int .i64 r4, .int .i64 r5, .int .i64 r6, .int .i64 r7, .slice AF xs.length cF] 38)
  replace b1 := (hj.block w.heap.size (by omega)).trans b1
  replace b2 := (hj.block (w.heap.size + 1) z1).trans b2
  replace K := K.step hj
  replace hb := bstep hb hj
  replace z1 := Nat.lt_of_lt_of_le z1 hj.size
  replace rF := rF.alloc (.cells #[.int .i64 3, .int .i64 pc, .int .i64 r0, .int .i64 r1, .int .i64 r2, .int .i64 r3, .int .i64 r4, .int .i64 r5, .int .i64 r6, .int .i64 r7, .slice AF xs.length cF] 38)
  clear hk hj
  obtain ⟨vF, hv⟩ : ∃ v, wk.heap.size = v := ⟨_, rfl⟩
  rw [hv] at b3 ⊢
  clear hv
  generalize (wk.alloc (.cells #[.int .i64 3, .int .i64 pc, .int .i64 r0, .int .i64 r1, .int .i64 r2, .int .i64 r3, .int .i64 r4, .int .i64 r5, .int .i64 r6, .int .i64 r7, .slice AF xs.length cF] 38)) = w3 at *
  have p0 : w3.cell? ⟨w.heap.size, 0, none⟩ = some (.slice A s.M.W.length a) := cell_of_row w3 _ 0 _ _ _ b1
  have p1 : w3.cell? ⟨w.heap.size, 1, none⟩ = some (.slice B s.M.G.length b) := cell_of_row w3 _ 1 _ _ _ b1
  have p2 : w3.cell? ⟨w.heap.size, 2, none⟩ = some (.bool s.M.bad) := cell_of_row w3 _ 2 _ _ _ b1
  have p3 : w3.cell? ⟨w.heap.size, 3, none⟩ = some (.slice C s.C.length c) := cell_of_row w3 _ 3 _ _ _ b1
  have p4 : w3.cell? ⟨w.heap.size, 4, none⟩ = some (.slice L s.L.length d) := cell_of_row w3 _ 4 _ _ _ b1
  have f0 : w3.cell? ⟨vF, 0, none⟩ = some (.int .i64 3) := cell_of_row w3 _ 0 _ _ _ b3
  have f1 : w3.cell? ⟨vF, 1, none⟩ = some (.int .i64 pc) := cell_of_row w3 _ 1 _ _ _ b3
  have f2 : w3.cell? ⟨vF, 2, none⟩ = some (.int .i64 r0) := cell_of_row w3 _ 2 _ _ _ b3
  have f3 : w3.cell? ⟨vF, 3, none⟩ = some (.int .i64 r1) := cell_of_row w3 _ 3 _ _ _ b3
  have f4 : w3.cell? ⟨vF, 4, none⟩ = some (.int .i64 r2) := cell_of_row w3 _ 4 _ _ _ b3
  have f5 : w3.cell? ⟨vF, 5, none⟩ = some (.int .i64 r3) := cell_of_row w3 _ 5 _ _ _ b3
  have f6 : w3.cell? ⟨vF, 6, none⟩ = some (.int .i64 r4) := cell_of_row w3 _ 6 _ _ _ b3
  have f7 : w3.cell? ⟨vF, 7, none⟩ = some (.int .i64 r5) := cell_of_row w3 _ 7 _ _ _ b3
  have f8 : w3.cell? ⟨vF, 8, none⟩ = some (.int .i64 r6) := cell_of_row w3 _ 8 _ _ _ b3
  have f9 : w3.cell? ⟨vF, 9, none⟩ = some (.int .i64 r7) := cell_of_row w3 _ 9 _ _ _ b3
  have f10 : w3.cell? ⟨vF, 10, none⟩ = some (.slice AF xs.length cF) := cell_of_row w3 _ 10 _ _ _ b3
  go_wp2_with (go_at_call 58; (with_reducible refine (HC.out AF cF _ K rF).mono ?_); rintro e wz ⟨A9, B9, C9, L9, a9, b9, c9, d9, rfl, rW, rG, rC, rL, hz⟩; have kR := (hz.block (w.heap.size + 1) z1).trans b2; have kb := bstep hb hz; have q0 : wz.cell? ⟨(w.heap.size + 1), 0, none⟩ = some (.slice none 0 0) := cell_of_row wz _ 0 _ _ _ kR; have q1 : wz.cell? ⟨(w.heap.size + 1), 1, none⟩ = some (.slice none 0 0) := cell_of_row wz _ 1 _ _ _ kR; have q2 : wz.cell? ⟨(w.heap.size + 1), 2, none⟩ = some (.bool false) := cell_of_row wz _ 2 _ _ _ kR; have q3 : wz.cell? ⟨(w.heap.size + 1), 3, none⟩ = some (.slice none 0 0) := cell_of_row wz _ 3 _ _ _ kR; have q4 : wz.cell? ⟨(w.heap.size + 1), 4, none⟩ = some (.slice none 0 0) := cell_of_row wz _ 4 _ _ _ kR; have qf0 : wz.frozen? ⟨(w.heap.size + 1), 0, none⟩ = false := frozen_of_row wz _ 0 _ _ kR; have qf1 : wz.frozen? ⟨(w.heap.size + 1), 1, none⟩ = false := frozen_of_row wz _ 1 _ _ kR; have qf2 : wz.frozen? ⟨(w.heap.size + 1), 2, none⟩ = false := frozen_of_row wz _ 2 _ _ kR; have qf3 : wz.frozen? ⟨(w.heap.size + 1), 3, none⟩ = false := frozen_of_row wz _ 3 _ _ kR; have qf4 : wz.frozen? ⟨(w.heap.size + 1), 4, none⟩ = false := frozen_of_row wz _ 4 _ _ kR)
  refine bodyPost_ret (v := .agg #[.slice A9 t9.M.W.length a9, .slice B9 t9.M.G.length b9, .bool t9.M.bad, .slice C9 t9.C.length c9, .slice L9 t9.L.length d9]) (by simp [results, Try.results32, go_sem, q0, q1, q2, q3, q4]) rfl ?_
  exact ret_resV (by omega) kR kb rW rG rC rL

set_option maxRecDepth 100000 in
set_option maxHeartbeats 4000000 in
theorem rhstep_lo (A B C L : Option Addr) (a b c d : Nat) (s : Sy) (i : Int) (pc r0 r1 r2 r3 r4 r5 r6 r7 : Int) (xs : List Int) (w : World) (hs : SyFew s) (hg : 2 ≤ s.M.G.length) (h : RS w s A B C L) (hF : ∀ x ∈ s.C, x.F.length ≤ 999999) (hp : pTop s i = some ⟨4, pc, [r0, r1, r2, r3, r4, r5, r6, r7], xs⟩) (h6 : xs.length ≤ 1000000) (q : pc < 0) :
    Calls Try.prog 32 #[.agg #[.slice A s.M.W.length a, .slice B s.M.G.length b, .bool s.M.bad, .slice C s.C.length c, .slice L s.L.length d], .int .i64 i] w (RetSys w s) := by
  have e1 : decide (pc < 0) = true := by simpa using q
  obtain ⟨b1, b2, bs⟩ := heap2 w (.cells #[.slice A s.M.W.length a, .slice B s.M.G.length b, .bool s.M.bad, .slice C s.C.length c, .slice L s.L.length d] 30) (.cells #[.slice none 0 0, .slice none 0 0, .bool false, .slice none 0 0, .slice none 0 0] 30)
  have hb : Below w.heap.size w ((w.alloc (.cells #[.slice A s.M.W.length a, .slice B s.M.G.length b, .bool s.M.bad, .slice C s.C.length c, .slice L s.L.length d] 30)).alloc (.cells #[.slice none 0 0, .slice none 0 0, .bool false, .slice none 0 0, .slice none 0 0] 30)) := bstep (boxed _ _) (boxed _ _)
  have z1 : w.heap.size + 1 < ((w.alloc (.cells #[.slice A s.M.W.length a, .slice B s.M.G.length b, .bool s.M.bad, .slice C s.C.length c, .slice L s.L.length d] 30)).alloc (.cells #[.slice none 0 0, .slice none 0 0, .bool false, .slice none 0 0, .slice none 0 0] 30)).heap.size := by simp
  clear bs
  go_enter Try.func32, Try.ntmps32
  go_upto_region 1 with (fail)
  generalize ((w.alloc (.cells #[.slice A s.M.W.length a, .slice B s.M.G.length b, .bool s.M.bad, .slice C s.C.length c, .slice L s.L.length d] 30)).alloc (.cells #[.slice none 0 0, .slice none 0 0, .bool false, .slice none 0 0, .slice none 0 0] 30)) = w1 at *
  have K := h.step hb
  have p0 : w1.cell? ⟨w.heap.size, 0, none⟩ = some (.slice A s.M.W.length a) := cell_of_row w1 _ 0 _ _ _ b1
  have p1 : w1.cell? ⟨w.heap.size, 1, none⟩ = some (.slice B s.M.G.length b) := cell_of_row w1 _ 1 _ _ _ b1
  have p2 : w1.cell? ⟨w.heap.size, 2, none⟩ = some (.bool s.M.bad) := cell_of_row w1 _ 2 _ _ _ b1
  have p3 : w1.cell? ⟨w.heap.size, 3, none⟩ = some (.slice C s.C.length c) := cell_of_row w1 _ 3 _ _ _ b1
  have p4 : w1.cell? ⟨w.heap.size, 4, none⟩ = some (.slice L s.L.length d) := cell_of_row w1 _ 4 _ _ _ b1
  go_upto_region 2 with (go_at_call 15; (with_reducible refine (rtop_is A B C L a b c d s i 4 pc r0 r1 r2 r3 r4 r5 r6 r7 xs _ hs K hp h6).mono ?_); rintro e wk ⟨AF, cF, rfl, rF, hk⟩)
  clear p0 p1 p2 p3 p4
  have hj : Below w1.heap.size w1 (wk.alloc (.cells #[.int .i64 4, .int .i64 pc, .int .i64 r0, .int .i64 r1, .int .i64 r2, .int .i64 r3, .int .i64 r4, .int .i64 r5, .int .i64 r6, .int .i64 r7, .slice AF xs.length cF] 38)) := bstep hk (boxed _ _)
  have b3 := heap_alloc_new wk (.cells #[.int .i64 4, .int .i64 pc, .int .i64 r0, .int .i64 r1, .int .i64 r2, .int .i64 r3, .int .i64 r4, .int .i64 r5, .int .i64 r6, .int .i64 r7, .slice AF xs.length cF] 38)
  replace b1 := (hj.block w.heap.size (by omega)).trans b1
  replace b2 := (hj.block (w.heap.size + 1) z1).trans b2
  replace K := K.step hj
  replace hb := bstep hb hj
  replace z1 := Nat.lt_of_lt_of_le z1 hj.size
  replace rF := rF.alloc (.cells #[.int .i64 4, .int .i64 pc, .int .i64 r0, .int .i64 r1, .int .i64 r2, .int .i64 r3, .int .i64 r4, .int .i64 r5, .int .i64 r6, .int .i64 r7, .slice AF xs.length cF] 38)
  clear hk hj
  obtain ⟨vF, hv⟩ : ∃ v, wk.heap.size = v := ⟨_, rfl⟩
  rw [hv] at b3 ⊢
  clear hv
  generalize (wk.alloc (.cells #[.int .i64 4, .int .i64 pc, .int .i64 r0, .int .i64 r1, .int .i64 r2, .int .i64 r3, .int .i64 r4, .int .i64 r5, .int .i64 r6, .int .i64 r7, .slice AF xs.length cF] 38)) = w3 at *
  have p0 : w3.cell? ⟨w.heap.size, 0, none⟩ = some (.slice A s.M.W.length a) := cell_of_row w3 _ 0 _ _ _ b1
  have p1 : w3.cell? ⟨w.heap.size, 1, none⟩ = some (.slice B s.M.G.length b) := cell_of_row w3 _ 1 _ _ _ b1
  have p2 : w3.cell? ⟨w.heap.size, 2, none⟩ = some (.bool s.M.bad) := cell_of_row w3 _ 2 _ _ _ b1
  have p3 : w3.cell? ⟨w.heap.size, 3, none⟩ = some (.slice C s.C.length c) := cell_of_row w3 _ 3 _ _ _ b1
  have p4 : w3.cell? ⟨w.heap.size, 4, none⟩ = some (.slice L s.L.length d) := cell_of_row w3 _ 4 _ _ _ b1
  have f0 : w3.cell? ⟨vF, 0, none⟩ = some (.int .i64 4) := cell_of_row w3 _ 0 _ _ _ b3
  have f1 : w3.cell? ⟨vF, 1, none⟩ = some (.int .i64 pc) := cell_of_row w3 _ 1 _ _ _ b3
  have f2 : w3.cell? ⟨vF, 2, none⟩ = some (.int .i64 r0) := cell_of_row w3 _ 2 _ _ _ b3
  have f3 : w3.cell? ⟨vF, 3, none⟩ = some (.int .i64 r1) := cell_of_row w3 _ 3 _ _ _ b3
  have f4 : w3.cell? ⟨vF, 4, none⟩ = some (.int .i64 r2) := cell_of_row w3 _ 4 _ _ _ b3
  have f5 : w3.cell? ⟨vF, 5, none⟩ = some (.int .i64 r3) := cell_of_row w3 _ 5 _ _ _ b3
  have f6 : w3.cell? ⟨vF, 6, none⟩ = some (.int .i64 r4) := cell_of_row w3 _ 6 _ _ _ b3
  have f7 : w3.cell? ⟨vF, 7, none⟩ = some (.int .i64 r5) := cell_of_row w3 _ 7 _ _ _ b3
  have f8 : w3.cell? ⟨vF, 8, none⟩ = some (.int .i64 r6) := cell_of_row w3 _ 8 _ _ _ b3
  have f9 : w3.cell? ⟨vF, 9, none⟩ = some (.int .i64 r7) := cell_of_row w3 _ 9 _ _ _ b3
  have f10 : w3.cell? ⟨vF, 10, none⟩ = some (.slice AF xs.length cF) := cell_of_row w3 _ 10 _ _ _ b3
  have q0 : w3.cell? ⟨w.heap.size + 1, 0, none⟩ = some (.slice none 0 0) := cell_of_row w3 _ 0 _ _ _ b2
  have q1 : w3.cell? ⟨w.heap.size + 1, 1, none⟩ = some (.slice none 0 0) := cell_of_row w3 _ 1 _ _ _ b2
  have q2 : w3.cell? ⟨w.heap.size + 1, 2, none⟩ = some (.bool false) := cell_of_row w3 _ 2 _ _ _ b2
  have q3 : w3.cell? ⟨w.heap.size + 1, 3, none⟩ = some (.slice none 0 0) := cell_of_row w3 _ 3 _ _ _ b2
  have q4 : w3.cell? ⟨w.heap.size + 1, 4, none⟩ = some (.slice none 0 0) := cell_of_row w3 _ 4 _ _ _ b2
  have qf0 : w3.frozen? ⟨w.heap.size + 1, 0, none⟩ = false := frozen_of_row w3 _ 0 _ _ b2
  have qf1 : w3.frozen? ⟨w.heap.size + 1, 1, none⟩ = false := frozen_of_row w3 _ 1 _ _ b2
  have qf2 : w3.frozen? ⟨w.heap.size + 1, 2, none⟩ = false := frozen_of_row w3 _ 2 _ _ b2
  have qf3 : w3.frozen? ⟨w.heap.size + 1, 3, none⟩ = false := frozen_of_row w3 _ 3 _ _ b2
  have qf4 : w3.frozen? ⟨w.heap.size + 1, 4, none⟩ = false := frozen_of_row w3 _ 4 _ _ b2
  go_wp2_with fail
  refine bodyPost_ret (v := .agg #[.slice A s.M.W.length a, .slice B s.M.G.length b, .bool s.M.bad, .slice C s.C.length c, .slice L s.L.length d]) (by simp [results, Try.results32, go_sem, q0, q1, q2, q3, q4]) rfl ?_
  exact ret_resV (by omega) b2 hb K.W K.G K.C K.L

set_option maxRecDepth 100000 in
set_option maxHeartbeats 4000000 in
theorem rhstep_hi (A B C L : Option Addr) (a b c d : Nat) (s : Sy) (i : Int) (pc r0 r1 r2 r3 r4 r5 r6 r7 : Int) (xs : List Int) (w : World) (hs : SyFew s) (hg : 2 ≤ s.M.G.length) (h : RS w s A B C L) (hF : ∀ x ∈ s.C, x.F.length ≤ 999999) (hp : pTop s i = some ⟨4, pc, [r0, r1, r2, r3, r4, r5, r6, r7], xs⟩) (h6 : xs.length ≤ 1000000) (q : 2 < pc) :
    Calls Try.prog 32 #[.agg #[.slice A s.M.W.length a, .slice B s.M.G.length b, .bool s.M.bad, .slice C s.C.length c, .slice L s.L.length d], .int .i64 i] w (RetSys w s) := by
  have e1 : decide (pc < 0) = false := by simp; omega
  have e2 : decide (2 < pc) = true := by simpa using q
  obtain ⟨b1, b2, bs⟩ := heap2 w (.cells #[.slice A s.M.W.length a, .slice B s.M.G.length b, .bool s.M.bad, .slice C s.C.length c, .slice L s.L.length d] 30) (.cells #[.slice none 0 0, .slice none 0 0, .bool false, .slice none 0 0, .slice none 0 0] 30)
  have hb : Below w.heap.size w ((w.alloc (.cells #[.slice A s.M.W.length a, .slice B s.M.G.length b, .bool s.M.bad, .slice C s.C.length c, .slice L s.L.length d] 30)).alloc (.cells #[.slice none 0 0, .slice none 0 0, .bool false, .slice none 0 0, .slice none 0 0] 30)) := bstep (boxed _ _) (boxed _ _)
  have z1 : w.heap.size + 1 < ((w.alloc (.cells #[.slice A s.M.W.length a, .slice B s.M.G.length b, .bool s.M.bad, .slice C s.C.length c, .slice L s.L.length d] 30)).alloc (.cells #[.slice none 0 0, .slice none 0 0, .bool false, .slice none 0 0, .slice none 0 0] 30)).heap.size := by simp
  clear bs
  go_enter Try.func32, Try.ntmps32
  go_upto_region 1 with (fail)
  generalize ((w.alloc (.cells #[.slice A s.M.W.length a, .slice B s.M.G.length b, .bool s.M.bad, .slice C s.C.length c, .slice L s.L.length d] 30)).alloc (.cells #[.slice none 0 0, .slice none 0 0, .bool false, .slice none 0 0, .slice none 0 0] 30)) = w1 at *
  have K := h.step hb
  have p0 : w1.cell? ⟨w.heap.size, 0, none⟩ = some (.slice A s.M.W.length a) := cell_of_row w1 _ 0 _ _ _ b1
  have p1 : w1.cell? ⟨w.heap.size, 1, none⟩ = some (.slice B s.M.G.length b) := cell_of_row w1 _ 1 _ _ _ b1
  have p2 : w1.cell? ⟨w.heap.size, 2, none⟩ = some (.bool s.M.bad) := cell_of_row w1 _ 2 _ _ _ b1
  have p3 : w1.cell? ⟨w.heap.size, 3, none⟩ = some (.slice C s.C.length c) := cell_of_row w1 _ 3 _ _ _ b1
  have p4 : w1.cell? ⟨w.heap.size, 4, none⟩ = some (.slice L s.L.length d) := cell_of_row w1 _ 4 _ _ _ b1
  go_upto_region 2 with (go_at_call 15; (with_reducible refine (rtop_is A B C L a b c d s i 4 pc r0 r1 r2 r3 r4 r5 r6 r7 xs _ hs K hp h6).mono ?_); rintro e wk ⟨AF, cF, rfl, rF, hk⟩)
  clear p0 p1 p2 p3 p4
  have hj : Below w1.heap.size w1 (wk.alloc (.cells #[.int .i64 4, .int .i64 pc, .int .i64 r0, .int .i64 r1, .int .i64 r2, .int .i64 r3, .int .i64 r4, .int .i64 r5, .int .i64 r6, .int .i64 r7, .slice AF xs.length cF] 38)) := bstep hk (boxed _ _)
  have b3 := heap_alloc_new wk (.cells #[.int .i64 4, .int .i64 pc, .int .i64 r0, .int .i64 r1, .int .i64 r2, .int .i64 r3, .int .i64 r4, .int .i64 r5, .int .i64 r6, .int .i64 r7, .slice AF xs.length cF] 38)
  replace b1 := (hj.block w.heap.size (by omega)).trans b1
  replace b2 := (hj.block (w.heap.size + 1) z1).trans b2
  replace K := K.step hj
  replace hb := bstep hb hj
  replace z1 := Nat.lt_of_lt_of_le z1 hj.size
  replace rF := rF.alloc (.cells #[.int .i64 4, .int .i64 pc, .int .i64 r0, .int .i64 r1, .int .i64 r2, .int .i64 r3, .int .i64 r4, .int .i64 r5, .int .i64 r6, .int .i64 r7, .slice AF xs.length cF] 38)
  clear hk hj
  obtain ⟨vF, hv⟩ : ∃ v, wk.heap.size = v := ⟨_, rfl⟩
  rw [hv] at b3 ⊢
  clear hv
  generalize (wk.alloc (.cells #[.int .i64 4, .int .i64 pc, .int .i64 r0, .int .i64 r1, .int .i64 r2, .int .i64 r3, .int .i64 r4, .int .i64 r5, .int .i64 r6, .int .i64 r7, .slice AF xs.length cF] 38)) = w3 at *
  have p0 : w3.cell? ⟨w.heap.size, 0, none⟩ = some (.slice A s.M.W.length a) := cell_of_row w3 _ 0 _ _ _ b1
  have p1 : w3.cell? ⟨w.heap.size, 1, none⟩ = some (.slice B s.M.G.length b) := cell_of_row w3 _ 1 _ _ _ b1
  have p2 : w3.cell? ⟨w.heap.size, 2, none⟩ = some (.bool s.M.bad) := cell_of_row w3 _ 2 _ _ _ b1
  have p3 : w3.cell? ⟨w.heap.size, 3, none⟩ = some (.slice C s.C.length c) := cell_of_row w3 _ 3 _ _ _ b1
  have p4 : w3.cell? ⟨w.heap.size, 4, none⟩ = some (.slice L s.L.length d) := cell_of_row w3 _ 4 _ _ _ b1
  have f0 : w3.cell? ⟨vF, 0, none⟩ = some (.int .i64 4) := cell_of_row w3 _ 0 _ _ _ b3
  have f1 : w3.cell? ⟨vF, 1, none⟩ = some (.int .i64 pc) := cell_of_row w3 _ 1 _ _ _ b3
  have f2 : w3.cell? ⟨vF, 2, none⟩ = some (.int .i64 r0) := cell_of_row w3 _ 2 _ _ _ b3
  have f3 : w3.cell? ⟨vF, 3, none⟩ = some (.int .i64 r1) := cell_of_row w3 _ 3 _ _ _ b3
  have f4 : w3.cell? ⟨vF, 4, none⟩ = some (.int .i64 r2) := cell_of_row w3 _ 4 _ _ _ b3
  have f5 : w3.cell? ⟨vF, 5, none⟩ = some (.int .i64 r3) := cell_of_row w3 _ 5 _ _ _ b3
  have f6 : w3.cell? ⟨vF, 6, none⟩ = some (.int .i64 r4) := cell_of_row w3 _ 6 _ _ _ b3
  have f7 : w3.cell? ⟨vF, 7, none⟩ = some (.int .i64 r5) := cell_of_row w3 _ 7 _ _ _ b3
  have f8 : w3.cell? ⟨vF, 8, none⟩ = some (.int .i64 r6) := cell_of_row w3 _ 8 _ _ _ b3
  have f9 : w3.cell? ⟨vF, 9, none⟩ = some (.int .i64 r7) := cell_of_row w3 _ 9 _ _ _ b3
  have f10 : w3.cell? ⟨vF, 10, none⟩ = some (.slice AF xs.length cF) := cell_of_row w3 _ 10 _ _ _ b3
  have q0 : w3.cell? ⟨w.heap.size + 1, 0, none⟩ = some (.slice none 0 0) := cell_of_row w3 _ 0 _ _ _ b2
  have q1 : w3.cell? ⟨w.heap.size + 1, 1, none⟩ = some (.slice none 0 0) := cell_of_row w3 _ 1 _ _ _ b2
  have q2 : w3.cell? ⟨w.heap.size + 1, 2, none⟩ = some (.bool false) := cell_of_row w3 _ 2 _ _ _ b2
  have q3 : w3.cell? ⟨w.heap.size + 1, 3, none⟩ = some (.slice none 0 0) := cell_of_row w3 _ 3 _ _ _ b2
  have q4 : w3.cell? ⟨w.heap.size + 1, 4, none⟩ = some (.slice none 0 0) := cell_of_row w3 _ 4 _ _ _ b2
  have qf0 : w3.frozen? ⟨w.heap.size + 1, 0, none⟩ = false := frozen_of_row w3 _ 0 _ _ b2
  have qf1 : w3.frozen? ⟨w.heap.size + 1, 1, none⟩ = false := frozen_of_row w3 _ 1 _ _ b2
  have qf2 : w3.frozen? ⟨w.heap.size + 1, 2, none⟩ = false := frozen_of_row w3 _ 2 _ _ b2
  have qf3 : w3.frozen? ⟨w.heap.size + 1, 3, none⟩ = false := frozen_of_row w3 _ 3 _ _ b2
  have qf4 : w3.frozen? ⟨w.heap.size + 1, 4, none⟩ = false := frozen_of_row w3 _ 4 _ _ b2
  go_wp2_with fail
  refine bodyPost_ret (v := .agg #[.slice A s.M.W.length a, .slice B s.M.G.length b, .bool s.M.bad, .slice C s.C.length c, .slice L s.L.length d]) (by simp [results, Try.results32, go_sem, q0, q1, q2, q3, q4]) rfl ?_
  exact ret_resV (by omega) b2 hb K.W K.G K.C K.L

end Go.Proofs.Ytgjpgbdloflfbaa
