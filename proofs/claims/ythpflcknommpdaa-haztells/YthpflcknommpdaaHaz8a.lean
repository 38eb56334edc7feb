/- Contract: a step of a core, by the document's layer 5. -/
import Derived.Test.YthpflcknommpdaaHaz7
import Derived.Test.YthpflcknommpdaaHazN
namespace Go.Proofs.Ythpflcknommpdaa
open Go.RowKit
set_option linter.unusedVariables false
set_option linter.unusedSimpArgs false

set_option maxRecDepth 100000 in
set_option maxHeartbeats 4000000 in
theorem rhstep_none (A B C L : Option Addr) (a b c d : Nat) (s : Sy) (i : Int) (w : World) (hs : SyFew s) (hg : 2 ≤ s.M.G.length) (h : RS w s A B C L) (hF : ∀ x ∈ s.C, x.F.length ≤ 999999) (hp : pTop s i = none) :
    Calls Try.prog 18 #[.agg #[.slice A s.M.W.length a, .slice B s.M.G.length b, .bool s.M.bad, .slice C s.C.length c, .slice L s.L.length d], .int .i64 i] w (RetSys w s) := by
  obtain ⟨b1, b2, bs⟩ := heap2 w (.cells #[.slice A s.M.W.length a, .slice B s.M.G.length b, .bool s.M.bad, .slice C s.C.length c, .slice L s.L.length d] 28) (.cells #[.slice none 0 0, .slice none 0 0, .bool false, .slice none 0 0, .slice none 0 0] 28)
  have hb : Below w.heap.size w ((w.alloc (.cells #[.slice A s.M.W.length a, .slice B s.M.G.length b, .bool s.M.bad, .slice C s.C.length c, .slice L s.L.length d] 28)).alloc (.cells #[.slice none 0 0, .slice none 0 0, .bool false, .slice none 0 0, .slice none 0 0] 28)) := bstep (boxed _ _) (boxed _ _)
  have z1 : w.heap.size + 1 < ((w.alloc (.cells #[.slice A s.M.W.length a, .slice B s.M.G.length b, .bool s.M.bad, .slice C s.C.length c, .slice L s.L.length d] 28)).alloc (.cells #[.slice none 0 0, .slice none 0 0, .bool false, .slice none 0 0, .slice none 0 0] 28)).heap.size := by simp
  clear bs
  go_enter Try.func18, Try.ntmps18
  go_upto_region 1 with (fail)
  generalize ((w.alloc (.cells #[.slice A s.M.W.length a, .slice B s.M.G.length b, .bool s.M.bad, .slice C s.C.length c, .slice L s.L.length d] 28)).alloc (.cells #[.slice none 0 0, .slice none 0 0, .bool false, .slice none 0 0, .slice none 0 0] 28)) = w1 at *
  have K := h.step hb
  obtain ⟨p0, p1, p2, p3, p4⟩ := cells5 b1
  go_upto_region 2 with (go_at_call 25; (with_reducible refine (rtop_no A B C L a b c d s i _ hs K hp).mono ?_); rintro e wk ⟨rfl, hk⟩)
  have rF : Row wk none [] := Row.nil _ _
  clear p0 p1 p2 p3 p4
  have hj : Below w1.heap.size w1 (wk.alloc (.cells #[.int .i64 0, .int .i64 0, .int .i64 0, .int .i64 0, .int .i64 0, .int .i64 0, .int .i64 0, .int .i64 0, .int .i64 0, .int .i64 0, .slice none 0 0] 55)) := bstep hk (boxed _ _)
  have b3 := heap_alloc_new wk (.cells #[.int .i64 0, .int .i64 0, .int .i64 0, .int .i64 0, .int .i64 0, .int .i64 0, .int .i64 0, .int .i64 0, .int .i64 0, .int .i64 0, .slice none 0 0] 55)
  replace b1 := (hj.block w.heap.size (by omega)).trans b1
  replace b2 := (hj.block (w.heap.size + 1) z1).trans b2
  replace K := K.step hj
  replace hb := bstep hb hj
  replace z1 := Nat.lt_of_lt_of_le z1 hj.size
  replace rF := rF.alloc (.cells #[.int .i64 0, .int .i64 0, .int .i64 0, .int .i64 0, .int .i64 0, .int .i64 0, .int .i64 0, .int .i64 0, .int .i64 0, .int .i64 0, .slice none 0 0] 55)
  clear hk hj
  obtain ⟨vF, hv⟩ : ∃ v, wk.heap.size = v := ⟨_, rfl⟩
  rw [hv] at b3 ⊢
  clear hv
  generalize (wk.alloc (.cells #[.int .i64 0, .int .i64 0, .int .i64 0, .int .i64 0, .int .i64 0, .int .i64 0, .int .i64 0, .int .i64 0, .int .i64 0, .int .i64 0, .slice none 0 0] 55)) = w3 at *
  obtain ⟨p0, p1, p2, p3, p4⟩ := cells5 b1
  obtain ⟨f0, f1, f2, f3, f4, f5, f6, f7, f8, f9, f10⟩ := cells11 b3
  obtain ⟨q0, q1, q2, q3, q4⟩ := cells5 b2
  obtain ⟨qf0, qf1, qf2, qf3, qf4⟩ := frz5 b2
  go_wp2_with fail
  refine bodyPost_ret (v := .agg #[.slice A s.M.W.length a, .slice B s.M.G.length b, .bool s.M.bad, .slice C s.C.length c, .slice L s.L.length d]) (by simp [results, Try.results18, go_sem, q0, q1, q2, q3, q4]) rfl ?_
  exact ret_resV (by omega) b2 hb K.W K.G K.C K.L

set_option maxRecDepth 100000 in
set_option maxHeartbeats 4000000 in
theorem rhstep_x (A B C L : Option Addr) (a b c d : Nat) (s : Sy) (i : Int) (op pc r0 r1 r2 r3 r4 r5 r6 r7 : Int) (xs : List Int) (w : World) (hs : SyFew s) (hg : 2 ≤ s.M.G.length) (h : RS w s A B C L) (hF : ∀ x ∈ s.C, x.F.length ≤ 999999) (hp : pTop s i = some ⟨op, pc, [r0, r1, r2, r3, r4, r5, r6, r7], xs⟩) (h6 : xs.length ≤ 1000000) (o1 : ¬ op = 3) (o2 : ¬ op = 4) :
    Calls Try.prog 18 #[.agg #[.slice A s.M.W.length a, .slice B s.M.G.length b, .bool s.M.bad, .slice C s.C.length c, .slice L s.L.length d], .int .i64 i] w (RetSys w s) := by
  have e1 : (op == 3) = false := by simpa using o1
  have e2 : (op != 4) = true := by simpa using o2
  clear o1 o2
  obtain ⟨b1, b2, bs⟩ := heap2 w (.cells #[.slice A s.M.W.length a, .slice B s.M.G.length b, .bool s.M.bad, .slice C s.C.length c, .slice L s.L.length d] 28) (.cells #[.slice none 0 0, .slice none 0 0, .bool false, .slice none 0 0, .slice none 0 0] 28)
  have hb : Below w.heap.size w ((w.alloc (.cells #[.slice A s.M.W.length a, .slice B s.M.G.length b, .bool s.M.bad, .slice C s.C.length c, .slice L s.L.length d] 28)).alloc (.cells #[.slice none 0 0, .slice none 0 0, .bool false, .slice none 0 0, .slice none 0 0] 28)) := bstep (boxed _ _) (boxed _ _)
  have z1 : w.heap.size + 1 < ((w.alloc (.cells #[.slice A s.M.W.length a, .slice B s.M.G.length b, .bool s.M.bad, .slice C s.C.length c, .slice L s.L.length d] 28)).alloc (.cells #[.slice none 0 0, .slice none 0 0, .bool false, .slice none 0 0, .slice none 0 0] 28)).heap.size := by simp
  clear bs
  go_enter Try.func18, Try.ntmps18
  go_upto_region 1 with (fail)
  generalize ((w.alloc (.cells #[.slice A s.M.W.length a, .slice B s.M.G.length b, .bool s.M.bad, .slice C s.C.length c, .slice L s.L.length d] 28)).alloc (.cells #[.slice none 0 0, .slice none 0 0, .bool false, .slice none 0 0, .slice none 0 0] 28)) = w1 at *
  have K := h.step hb
  obtain ⟨p0, p1, p2, p3, p4⟩ := cells5 b1
  go_upto_region 2 with (go_at_call 25; (with_reducible refine (rtop_is A B C L a b c d s i op pc r0 r1 r2 r3 r4 r5 r6 r7 xs _ hs K hp h6).mono ?_); rintro e wk ⟨AF, cF, rfl, rF, hk⟩)
  clear p0 p1 p2 p3 p4
  have hj : Below w1.heap.size w1 (wk.alloc (.cells #[.int .i64 op, .int .i64 pc, .int .i64 r0, .int .i64 r1, .int .i64 r2, .int .i64 r3, .int .i64 r4, .int .i64 r5, .int .i64 r6, .int .i64 r7, .slice AF xs.length cF] 55)) := bstep hk (boxed _ _)
  have b3 := heap_alloc_new wk (.cells #[.int .i64 op, .int .i64 pc, .int .i64 r0, .int .i64 r1, .int .i64 r2, .int .i64 r3, .int .i64 r4, .int .i64 r5, .int .i64 r6, .int .i64 r7, .slice AF xs.length cF] 55)
  replace b1 := (hj.block w.heap.size (by omega)).trans b1
  replace b2 := (hj.block (w.heap.size + 1) z1).trans b2
  replace K := K.step hj
  replace hb := bstep hb hj
  replace z1 := Nat.lt_of_lt_of_le z1 hj.size
  replace rF := rF.alloc (.cells #[.int .i64 op, .int .i64 pc, .int .i64 r0, .int .i64 r1, .int .i64 r2, .int .i64 r3, .int .i64 r4, .int .i64 r5, .int .i64 r6, .int .i64 r7, .slice AF xs.length cF] 55)
  clear hk hj
  obtain ⟨vF, hv⟩ : ∃ v, wk.heap.size = v := ⟨_, rfl⟩
  rw [hv] at b3 ⊢
  clear hv
  generalize (wk.alloc (.cells #[.int .i64 op, .int .i64 pc, .int .i64 r0, .int .i64 r1, .int .i64 r2, .int .i64 r3, .int .i64 r4, .int .i64 r5, .int .i64 r6, .int .i64 r7, .slice AF xs.length cF] 55)) = w3 at *
  obtain ⟨p0, p1, p2, p3, p4⟩ := cells5 b1
  obtain ⟨f0, f1, f2, f3, f4, f5, f6, f7, f8, f9, f10⟩ := cells11 b3
  obtain ⟨q0, q1, q2, q3, q4⟩ := cells5 b2
  obtain ⟨qf0, qf1, qf2, qf3, qf4⟩ := frz5 b2
  go_wp2_with fail
  refine bodyPost_ret (v := .agg #[.slice A s.M.W.length a, .slice B s.M.G.length b, .bool s.M.bad, .slice C s.C.length c, .slice L s.L.length d]) (by simp [results, Try.results18, go_sem, q0, q1, q2, q3, q4]) rfl ?_
  exact ret_resV (by omega) b2 hb K.W K.G K.C K.L

set_option maxRecDepth 100000 in
set_option maxHeartbeats 4000000 in
theorem rhstep_prot (A B C L : Option Addr) (a b c d : Nat) (s : Sy) (i : Int) (pc r0 r1 r2 r3 r4 r5 r6 r7 : Int) (xs : List Int) (w : World) (hs : SyFew s) (hg : 2 ≤ s.M.G.length) (h : RS w s A B C L) (hF : ∀ x ∈ s.C, x.F.length ≤ 999999) (hp : pTop s i = some ⟨3, pc, [r0, r1, r2, r3, r4, r5, r6, r7], xs⟩) (h6 : xs.length ≤ 1000000) :
    Calls Try.prog 18 #[.agg #[.slice A s.M.W.length a, .slice B s.M.G.length b, .bool s.M.bad, .slice C s.C.length c, .slice L s.L.length d], .int .i64 i] w (RetSys w (pProt s i ⟨3, pc, [r0, r1, r2, r3, r4, r5, r6, r7], xs⟩ s)) := by
  have HC := hid (show ∀ (AF : Option Addr) (cF : Nat) w', RS w' s A B C L → Row w' AF xs → Calls Try.prog 46 #[.agg #[.slice A s.M.W.length a, .slice B s.M.G.length b, .bool s.M.bad, .slice C s.C.length c, .slice L s.L.length d], .int .i64 i, .agg #[.int .i64 3, .int .i64 pc, .int .i64 r0, .int .i64 r1, .int .i64 r2, .int .i64 r3, .int .i64 r4, .int .i64 r5, .int .i64 r6, .int .i64 r7, .slice AF xs.length cF]] w' (RetSys w' (pProt s i ⟨3, pc, [r0, r1, r2, r3, r4, r5, r6, r7], xs⟩ s)) from fun AF cF w' k k2 => rprot_any A B C L a b c d s i AF cF 3 pc r0 r1 r2 r3 r4 r5 r6 r7 xs s w' hs hg k k2 h6 hF rfl)
  obtain ⟨t9, ht9⟩ : ∃ t, t = pProt s i ⟨3, pc, [r0, r1, r2, r3, r4, r5, r6, r7], xs⟩ s := ⟨_, rfl⟩
  rw [← ht9] at HC ⊢
  clear ht9
  obtain ⟨b1, b2, bs⟩ := heap2 w (.cells #[.slice A s.M.W.length a, .slice B s.M.G.length b, .bool s.M.bad, .slice C s.C.length c, .slice L s.L.length d] 28) (.cells #[.slice none 0 0, .slice none 0 0, .bool false, .slice none 0 0, .slice none 0 0] 28)
  have hb : Below w.heap.size w ((w.alloc (.cells #[.slice A s.M.W.length a, .slice B s.M.G.length b, .bool s.M.bad, .slice C s.C.length c, .slice L s.L.length d] 28)).alloc (.cells #[.slice none 0 0, .slice none 0 0, .bool false, .slice none 0 0, .slice none 0 0] 28)) := bstep (boxed _ _) (boxed _ _)
  have z1 : w.heap.size + 1 < ((w.alloc (.cells #[.slice A s.M.W.length a, .slice B s.M.G.length b, .bool s.M.bad, .slice C s.C.length c, .slice L s.L.length d] 28)).alloc (.cells #[.slice none 0 0, .slice none 0 0, .bool false, .slice none 0 0, .slice none 0 0] 28)).heap.size := by simp
  clear bs
  go_enter Try.func18, Try.ntmps18
  go_upto_region 1 with (fail)
  generalize ((w.alloc (.cells #[.slice A s.M.W.length a, .slice B s.M.G.length b, .bool s.M.bad, .slice C s.C.length c, .slice L s.L.length d] 28)).alloc (.cells #[.slice none 0 0, .slice none 0 0, .bool false, .slice none 0 0, .slice none 0 0] 28)) = w1 at *
  have K := h.step hb
  obtain ⟨p0, p1, p2, p3, p4⟩ := cells5 b1
  go_upto_region 2 with (go_at_call 25; (with_reducible refine (rtop_is A B C L a b c d s i 3 pc r0 r1 r2 r3 r4 r5 r6 r7 xs _ hs K hp h6).mono ?_); rintro e wk ⟨AF, cF, rfl, rF, hk⟩)
  clear p0 p1 p2 p3 p4
  have hj : Below w1.heap.size w1 (wk.alloc (.cells #[.int .i64 3, .int .i64 pc, .int .i64 r0, .int .i64 r1, .int .i64 r2, .int .i64 r3, .int .i64 r4, .int .i64 r5, .int .i64 r6, .int .i64 r7, .slice AF xs.length cF] 55)) := bstep hk (boxed _ _)
  have b3 := heap_alloc_new wk (.cells #[.int .i64 3, .int .i64 pc, .int .i64 r0, .int .i64 r1, .int .i64 r2, .int .i64 r3, .int .i64 r4, .int .i64 r5, .int .i64 r6, .int .i64 r7, .slice AF xs.length cF] 55)
  replace b1 := (hj.block w.heap.size (by omega)).trans b1
  replace b2 := (hj.block (w.heap.size + 1) z1).trans b2
  replace K := K.step hj
  replace hb := bstep hb hj
  replace z1 := Nat.lt_of_lt_of_le z1 hj.size
  replace rF := rF.alloc (.cells #[.int .i64 3, .int .i64 pc, .int .i64 r0, .int .i64 r1, .int .i64 r2, .int .i64 r3, .int .i64 r4, .int .i64 r5, .int .i64 r6, .int .i64 r7, .slice AF xs.length cF] 55)
  clear hk hj
  obtain ⟨vF, hv⟩ : ∃ v, wk.heap.size = v := ⟨_, rfl⟩
  rw [hv] at b3 ⊢
  clear hv
  generalize (wk.alloc (.cells #[.int .i64 3, .int .i64 pc, .int .i64 r0, .int .i64 r1, .int .i64 r2, .int .i64 r3, .int .i64 r4, .int .i64 r5, .int .i64 r6, .int .i64 r7, .slice AF xs.length cF] 55)) = w3 at *
  obtain ⟨p0, p1, p2, p3, p4⟩ := cells5 b1
  obtain ⟨f0, f1, f2, f3, f4, f5, f6, f7, f8, f9, f10⟩ := cells11 b3
  go_wp2_with (go_at_call 46; (with_reducible refine (HC.out AF cF _ K rF).mono ?_); rintro e wz ⟨A9, B9, C9, L9, a9, b9, c9, d9, rfl, rW, rG, rC, rL, hz⟩; have kR := (hz.block (w.heap.size + 1) z1).trans b2; have kb := bstep hb hz; obtain ⟨q0, q1, q2, q3, q4⟩ := cells5 kR; obtain ⟨qf0, qf1, qf2, qf3, qf4⟩ := frz5 kR)
  refine bodyPost_ret (v := .agg #[.slice A9 t9.M.W.length a9, .slice B9 t9.M.G.length b9, .bool t9.M.bad, .slice C9 t9.C.length c9, .slice L9 t9.L.length d9]) (by simp [results, Try.results18, go_sem, q0, q1, q2, q3, q4]) rfl ?_
  exact ret_resV (by omega) kR kb rW rG rC rL

set_option maxRecDepth 100000 in
set_option maxHeartbeats 4000000 in
theorem rhstep_lo (A B C L : Option Addr) (a b c d : Nat) (s : Sy) (i : Int) (pc r0 r1 r2 r3 r4 r5 r6 r7 : Int) (xs : List Int) (w : World) (hs : SyFew s) (hg : 2 ≤ s.M.G.length) (h : RS w s A B C L) (hF : ∀ x ∈ s.C, x.F.length ≤ 999999) (hp : pTop s i = some ⟨4, pc, [r0, r1, r2, r3, r4, r5, r6, r7], xs⟩) (h6 : xs.length ≤ 1000000) (q : pc < 0) :
    Calls Try.prog 18 #[.agg #[.slice A s.M.W.length a, .slice B s.M.G.length b, .bool s.M.bad, .slice C s.C.length c, .slice L s.L.length d], .int .i64 i] w (RetSys w s) := by
  have e1 : decide (pc < 0) = true := by simpa using q
  obtain ⟨b1, b2, bs⟩ := heap2 w (.cells #[.slice A s.M.W.length a, .slice B s.M.G.length b, .bool s.M.bad, .slice C s.C.length c, .slice L s.L.length d] 28) (.cells #[.slice none 0 0, .slice none 0 0, .bool false, .slice none 0 0, .slice none 0 0] 28)
  have hb : Below w.heap.size w ((w.alloc (.cells #[.slice A s.M.W.length a, .slice B s.M.G.length b, .bool s.M.bad, .slice C s.C.length c, .slice L s.L.length d] 28)).alloc (.cells #[.slice none 0 0, .slice none 0 0, .bool false, .slice none 0 0, .slice none 0 0] 28)) := bstep (boxed _ _) (boxed _ _)
  have z1 : w.heap.size + 1 < ((w.alloc (.cells #[.slice A s.M.W.length a, .slice B s.M.G.length b, .bool s.M.bad, .slice C s.C.length c, .slice L s.L.length d] 28)).alloc (.cells #[.slice none 0 0, .slice none 0 0, .bool false, .slice none 0 0, .slice none 0 0] 28)).heap.size := by simp
  clear bs
  go_enter Try.func18, Try.ntmps18
  go_upto_region 1 with (fail)
  generalize ((w.alloc (.cells #[.slice A s.M.W.length a, .slice B s.M.G.length b, .bool s.M.bad, .slice C s.C.length c, .slice L s.L.length d] 28)).alloc (.cells #[.slice none 0 0, .slice none 0 0, .bool false, .slice none 0 0, .slice none 0 0] 28)) = w1 at *
  have K := h.step hb
  obtain ⟨p0, p1, p2, p3, p4⟩ := cells5 b1
  go_upto_region 2 with (go_at_call 25; (with_reducible refine (rtop_is A B C L a b c d s i 4 pc r0 r1 r2 r3 r4 r5 r6 r7 xs _ hs K hp h6).mono ?_); rintro e wk ⟨AF, cF, rfl, rF, hk⟩)
  clear p0 p1 p2 p3 p4
  have hj : Below w1.heap.size w1 (wk.alloc (.cells #[.int .i64 4, .int .i64 pc, .int .i64 r0, .int .i64 r1, .int .i64 r2, .int .i64 r3, .int .i64 r4, .int .i64 r5, .int .i64 r6, .int .i64 r7, .slice AF xs.length cF] 55)) := bstep hk (boxed _ _)
  have b3 := heap_alloc_new wk (.cells #[.int .i64 4, .int .i64 pc, .int .i64 r0, .int .i64 r1, .int .i64 r2, .int .i64 r3, .int .i64 r4, .int .i64 r5, .int .i64 r6, .int .i64 r7, .slice AF xs.length cF] 55)
  replace b1 := (hj.block w.heap.size (by omega)).trans b1
  replace b2 := (hj.block (w.heap.size + 1) z1).trans b2
  replace K := K.step hj
  replace hb := bstep hb hj
  replace z1 := Nat.lt_of_lt_of_le z1 hj.size
  replace rF := rF.alloc (.cells #[.int .i64 4, .int .i64 pc, .int .i64 r0, .int .i64 r1, .int .i64 r2, .int .i64 r3, .int .i64 r4, .int .i64 r5, .int .i64 r6, .int .i64 r7, .slice AF xs.length cF] 55)
  clear hk hj
  obtain ⟨vF, hv⟩ : ∃ v, wk.heap.size = v := ⟨_, rfl⟩
  rw [hv] at b3 ⊢
  clear hv
  generalize (wk.alloc (.cells #[.int .i64 4, .int .i64 pc, .int .i64 r0, .int .i64 r1, .int .i64 r2, .int .i64 r3, .int .i64 r4, .int .i64 r5, .int .i64 r6, .int .i64 r7, .slice AF xs.length cF] 55)) = w3 at *
  obtain ⟨p0, p1, p2, p3, p4⟩ := cells5 b1
  obtain ⟨f0, f1, f2, f3, f4, f5, f6, f7, f8, f9, f10⟩ := cells11 b3
  obtain ⟨q0, q1, q2, q3, q4⟩ := cells5 b2
  obtain ⟨qf0, qf1, qf2, qf3, qf4⟩ := frz5 b2
  go_wp2_with fail
  refine bodyPost_ret (v := .agg #[.slice A s.M.W.length a, .slice B s.M.G.length b, .bool s.M.bad, .slice C s.C.length c, .slice L s.L.length d]) (by simp [results, Try.results18, go_sem, q0, q1, q2, q3, q4]) rfl ?_
  exact ret_resV (by omega) b2 hb K.W K.G K.C K.L

set_option maxRecDepth 100000 in
set_option maxHeartbeats 4000000 in
theorem rhstep_hi (A B C L : Option Addr) (a b c d : Nat) (s : Sy) (i : Int) (pc r0 r1 r2 r3 r4 r5 r6 r7 : Int) (xs : List Int) (w : World) (hs : SyFew s) (hg : 2 ≤ s.M.G.length) (h : RS w s A B C L) (hF : ∀ x ∈ s.C, x.F.length ≤ 999999) (hp : pTop s i = some ⟨4, pc, [r0, r1, r2, r3, r4, r5, r6, r7], xs⟩) (h6 : xs.length ≤ 1000000) (q : 2 < pc) :
    Calls Try.prog 18 #[.agg #[.slice A s.M.W.length a, .slice B s.M.G.length b, .bool s.M.bad, .slice C s.C.length c, .slice L s.L.length d], .int .i64 i] w (RetSys w s) := by
  have e1 : decide (pc < 0) = false := by simp; omega
  have e2 : decide (2 < pc) = true := by simpa using q
  obtain ⟨b1, b2, bs⟩ := heap2 w (.cells #[.slice A s.M.W.length a, .slice B s.M.G.length b, .bool s.M.bad, .slice C s.C.length c, .slice L s.L.length d] 28) (.cells #[.slice none 0 0, .slice none 0 0, .bool false, .slice none 0 0, .slice none 0 0] 28)
  have hb : Below w.heap.size w ((w.alloc (.cells #[.slice A s.M.W.length a, .slice B s.M.G.length b, .bool s.M.bad, .slice C s.C.length c, .slice L s.L.length d] 28)).alloc (.cells #[.slice none 0 0, .slice none 0 0, .bool false, .slice none 0 0, .slice none 0 0] 28)) := bstep (boxed _ _) (boxed _ _)
  have z1 : w.heap.size + 1 < ((w.alloc (.cells #[.slice A s.M.W.length a, .slice B s.M.G.length b, .bool s.M.bad, .slice C s.C.length c, .slice L s.L.length d] 28)).alloc (.cells #[.slice none 0 0, .slice none 0 0, .bool false, .slice none 0 0, .slice none 0 0] 28)).heap.size := by simp
  clear bs
  go_enter Try.func18, Try.ntmps18
  go_upto_region 1 with (fail)
  generalize ((w.alloc (.cells #[.slice A s.M.W.length a, .slice B s.M.G.length b, .bool s.M.bad, .slice C s.C.length c, .slice L s.L.length d] 28)).alloc (.cells #[.slice none 0 0, .slice none 0 0, .bool false, .slice none 0 0, .slice none 0 0] 28)) = w1 at *
  have K := h.step hb
  obtain ⟨p0, p1, p2, p3, p4⟩ := cells5 b1
  go_upto_region 2 with (go_at_call 25; (with_reducible refine (rtop_is A B C L a b c d s i 4 pc r0 r1 r2 r3 r4 r5 r6 r7 xs _ hs K hp h6).mono ?_); rintro e wk ⟨AF, cF, rfl, rF, hk⟩)
  clear p0 p1 p2 p3 p4
  have hj : Below w1.heap.size w1 (wk.alloc (.cells #[.int .i64 4, .int .i64 pc, .int .i64 r0, .int .i64 r1, .int .i64 r2, .int .i64 r3, .int .i64 r4, .int .i64 r5, .int .i64 r6, .int .i64 r7, .slice AF xs.length cF] 55)) := bstep hk (boxed _ _)
  have b3 := heap_alloc_new wk (.cells #[.int .i64 4, .int .i64 pc, .int .i64 r0, .int .i64 r1, .int .i64 r2, .int .i64 r3, .int .i64 r4, .int .i64 r5, .int .i64 r6, .int .i64 r7, .slice AF xs.length cF] 55)
  replace b1 := (hj.block w.heap.size (by omega)).trans b1
  replace b2 := (hj.block (w.heap.size + 1) z1).trans b2
  replace K := K.step hj
  replace hb := bstep hb hj
  replace z1 := Nat.lt_of_lt_of_le z1 hj.size
  replace rF := rF.alloc (.cells #[.int .i64 4, .int .i64 pc, .int .i64 r0, .int .i64 r1, .int .i64 r2, .int .i64 r3, .int .i64 r4, .int .i64 r5, .int .i64 r6, .int .i64 r7, .slice AF xs.length cF] 55)
  clear hk hj
  obtain ⟨vF, hv⟩ : ∃ v, wk.heap.size = v := ⟨_, rfl⟩
  rw [hv] at b3 ⊢
  clear hv
  generalize (wk.alloc (.cells #[.int .i64 4, .int .i64 pc, .int .i64 r0, .int .i64 r1, .int .i64 r2, .int .i64 r3, .int .i64 r4, .int .i64 r5, .int .i64 r6, .int .i64 r7, .slice AF xs.length cF] 55)) = w3 at *
  obtain ⟨p0, p1, p2, p3, p4⟩ := cells5 b1
  obtain ⟨f0, f1, f2, f3, f4, f5, f6, f7, f8, f9, f10⟩ := cells11 b3
  obtain ⟨q0, q1, q2, q3, q4⟩ := cells5 b2
  obtain ⟨qf0, qf1, qf2, qf3, qf4⟩ := frz5 b2
  go_wp2_with fail
  refine bodyPost_ret (v := .agg #[.slice A s.M.W.length a, .slice B s.M.G.length b, .bool s.M.bad, .slice C s.C.length c, .slice L s.L.length d]) (by simp [results, Try.results18, go_sem, q0, q1, q2, q3, q4]) rfl ?_
  exact ret_resV (by omega) b2 hb K.W K.G K.C K.L

end Go.Proofs.Ythpflcknommpdaa
