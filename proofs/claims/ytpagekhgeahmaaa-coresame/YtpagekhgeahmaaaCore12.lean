/- Contracts of the document's answers for layer 3: the last frame is changed. -/
import Derived.Test.YtpagekhgeahmaaaCore11
namespace Go.Proofs.Ytpagekhgeahmaaa
open Go.RowKit
set_option linter.unusedVariables false
set_option linter.unusedSimpArgs false

theorem setF_row {w w7 w' : World} {base T g7 cap n : Nat} {fs : List Fr} {ps : List (Option Addr × Nat)} (ho : w7.ownsRow base T 11 (.slice (some ⟨g7, 0, none⟩) fs.length cap) fs.length (fsCells fs ps).flatten) (h8 : ∀ f ∈ fs, f.R.length = 8) (hp : ps.length = fs.length) (hn : n < fs.length)
    (hr : ∀ (j : Nat) (f : Fr) (p : Option Addr × Nat), fs[j]? = some f → ps[j]? = some p → Row w p.1 f.S) {AS : Option Addr} {cS : Nat} {op pc r0 r1 r2 r3 r4 r5 r6 r7 : Int} {xs : List Int} (hS : Row w AS xs) {q : Nat → Prop} (t : Turn q (((((((((((w7.setCell ⟨g7, n * 11, none⟩ (.int .i64 op)).setCell ⟨g7, n * 11 + 1, none⟩ (.int .i64 pc)).setCell ⟨g7, n * 11 + 2, none⟩ (.int .i64 r0)).setCell ⟨g7, n * 11 + 3, none⟩ (.int .i64 r1)).setCell ⟨g7, n * 11 + 4, none⟩ (.int .i64 r2)).setCell ⟨g7, n * 11 + 5, none⟩ (.int .i64 r3)).setCell ⟨g7, n * 11 + 6, none⟩ (.int .i64 r4)).setCell ⟨g7, n * 11 + 7, none⟩ (.int .i64 r5)).setCell ⟨g7, n * 11 + 8, none⟩ (.int .i64 r6)).setCell ⟨g7, n * 11 + 9, none⟩ (.int .i64 r7)).setCell ⟨g7, n * 11 + 10, none⟩ (.slice AS xs.length cS)) w') (hq : ¬ q g7) (hb : Below w.heap.size w w') : RowF w' (some ⟨g7, 0, none⟩) (fs.set n ⟨op, pc, [r0, r1, r2, r3, r4, r5, r6, r7], xs⟩) := by
  obtain ⟨h1, h2⟩ := own_put11 ho (fsCells_each h8) (i := n) (by rw [fsCells_len hp]; exact hn) (.int .i64 op) (.int .i64 pc) (.int .i64 r0) (.int .i64 r1) (.int .i64 r2) (.int .i64 r3) (.int .i64 r4) (.int .i64 r5) (.int .i64 r6) (.int .i64 r7) (.slice AS xs.length cS)
  have e : (fsCells fs ps).set n [.int .i64 op, .int .i64 pc, .int .i64 r0, .int .i64 r1, .int .i64 r2, .int .i64 r3, .int .i64 r4, .int .i64 r5, .int .i64 r6, .int .i64 r7, .slice AS xs.length cS] = fsCells (fs.set n ⟨op, pc, [r0, r1, r2, r3, r4, r5, r6, r7], xs⟩) (ps.set n (AS, cS)) := zip_set (f := frCells) (us := fs) (ys := ps) (i := n) (a := ⟨op, pc, [r0, r1, r2, r3, r4, r5, r6, r7], xs⟩) (b := (AS, cS))
  rw [e] at h1
  have h9 : ∀ f ∈ fs.set n ⟨op, pc, [r0, r1, r2, r3, r4, r5, r6, r7], xs⟩, f.R.length = 8 := fun f hf => by
    rcases List.mem_or_eq_of_mem_set hf with h' | h'
    · exact h8 f h'
    · rw [h']; rfl
  have hpl : (ps.set n (AS, cS)).length = (fs.set n ⟨op, pc, [r0, r1, r2, r3, r4, r5, r6, r7], xs⟩).length := by simpa using hp
  obtain ⟨A2, c2, e2, hs⟩ := own_src (own_turn h1 t (fun b hb e => by simp [Value.ownBlock] at hb; subst hb; exact hq e)) (fsCells_each h9) (by rw [fsCells_len hpl]; simp) (fsCells_one _ _)
  obtain ⟨rfl, rfl⟩ : some ⟨g7, 0, none⟩ = A2 ∧ cap = c2 := by simpa using e2
  refine Src.rowF hpl h9 hs (fun j f p hf hpj => ?_)
  by_cases ej : j = n
  · subst ej
    rw [List.getElem?_set_self hn] at hf
    rw [List.getElem?_set_self (by omega)] at hpj
    injection hf with hf
    injection hpj with hpj
    subst hf hpj
    exact hS.step hb
  · rw [List.getElem?_set_ne (fun h => ej h.symm)] at hf hpj
    exact (hr j f p hf hpj).step hb

set_option maxRecDepth 100000 in
set_option maxHeartbeats 8000000 in
theorem rset_out (A B AC AL : Option Addr) (c d cC cL : Nat) (s : Sy) (i : Int) (AS : Option Addr) (cS : Nat) (op pc r0 r1 r2 r3 r4 r5 r6 r7 : Int) (xs : List Int) (hi : i < 0 ∨ (s.C.length : Int) ≤ i) (w : World) (hW : Row w A s.M.W) (hG : Row w B s.M.G) (hC : RowC w AC s.C) (hL : RowE w AL s.L) (h2 : s.C.length ≤ 1000000) :
    Calls Try.prog 32 #[.agg #[.slice A s.M.W.length c, .slice B s.M.G.length d, .bool s.M.bad, .slice AC s.C.length cC, .slice AL s.L.length cL], .int .i64 i, .agg #[.int .i64 op, .int .i64 pc, .int .i64 r0, .int .i64 r1, .int .i64 r2, .int .i64 r3, .int .i64 r4, .int .i64 r5, .int .i64 r6, .int .i64 r7, .slice AS xs.length cS]] w (RetSys w s) := by
  obtain ⟨b1, bf, b2, bs⟩ := heap3b w (.cells #[.slice A s.M.W.length c, .slice B s.M.G.length d, .bool s.M.bad, .slice AC s.C.length cC, .slice AL s.L.length cL] 28) (.cells #[.int .i64 op, .int .i64 pc, .int .i64 r0, .int .i64 r1, .int .i64 r2, .int .i64 r3, .int .i64 r4, .int .i64 r5, .int .i64 r6, .int .i64 r7, .slice AS xs.length cS] 42) (.cells #[.slice none 0 0, .slice none 0 0, .bool false, .slice none 0 0, .slice none 0 0] 28)
  have hb : Below w.heap.size w (((w.alloc (.cells #[.slice A s.M.W.length c, .slice B s.M.G.length d, .bool s.M.bad, .slice AC s.C.length cC, .slice AL s.L.length cL] 28)).alloc (.cells #[.int .i64 op, .int .i64 pc, .int .i64 r0, .int .i64 r1, .int .i64 r2, .int .i64 r3, .int .i64 r4, .int .i64 r5, .int .i64 r6, .int .i64 r7, .slice AS xs.length cS] 42)).alloc (.cells #[.slice none 0 0, .slice none 0 0, .bool false, .slice none 0 0, .slice none 0 0] 28)) := bstep (bstep (boxed _ _) (boxed _ _)) (boxed _ _)
  go_enter Try.func32, Try.ntmps32
  go_wp2_with fail
  generalize (((w.alloc (.cells #[.slice A s.M.W.length c, .slice B s.M.G.length d, .bool s.M.bad, .slice AC s.C.length cC, .slice AL s.L.length cL] 28)).alloc (.cells #[.int .i64 op, .int .i64 pc, .int .i64 r0, .int .i64 r1, .int .i64 r2, .int .i64 r3, .int .i64 r4, .int .i64 r5, .int .i64 r6, .int .i64 r7, .slice AS xs.length cS] 42)).alloc (.cells #[.slice none 0 0, .slice none 0 0, .bool false, .slice none 0 0, .slice none 0 0] 28)) = w2 at *
  refine (rtop_out _ _ _ _ _ _ _ _ s i _ h2 hi).mono ?_
  rintro e w3 ⟨rfl, hk⟩
  replace b1 := (hk.block w.heap.size (by omega)).trans b1
  replace b2 := (hk.block (w.heap.size + 1 + 1) (by omega)).trans b2
  replace bf := (hk.block (w.heap.size + 1) (by omega)).trans bf
  replace hb := bstep hb hk
  have hz : w.heap.size + 1 + 1 < w3.heap.size := by have := hk.size; omega
  have hz0 : w.heap.size < w3.heap.size := by omega
  clear hk bs
  replace bf := (Below.heap_alloc w3 (.cells #[.int .i64 0, .int .i64 0, .int .i64 0, .int .i64 0, .int .i64 0, .int .i64 0, .int .i64 0, .int .i64 0, .int .i64 0, .int .i64 0, .slice none 0 0] 42) _ (by omega)).trans bf
  go_upto_region 2 with (fail)
  replace b1 := (Below.heap_alloc w3 (.cells #[.int .i64 0, .int .i64 0, .int .i64 0, .int .i64 0, .int .i64 0, .int .i64 0, .int .i64 0, .int .i64 0, .int .i64 0, .int .i64 0, .slice none 0 0] 42) _ hz0).trans b1
  replace b2 := (Below.heap_alloc w3 (.cells #[.int .i64 0, .int .i64 0, .int .i64 0, .int .i64 0, .int .i64 0, .int .i64 0, .int .i64 0, .int .i64 0, .int .i64 0, .int .i64 0, .slice none 0 0] 42) _ hz).trans b2
  replace hb := bstep hb (boxed w3 (.cells #[.int .i64 0, .int .i64 0, .int .i64 0, .int .i64 0, .int .i64 0, .int .i64 0, .int .i64 0, .int .i64 0, .int .i64 0, .int .i64 0, .slice none 0 0] 42))
  have s4 : w3.heap.size < (w3.alloc (.cells #[.int .i64 0, .int .i64 0, .int .i64 0, .int .i64 0, .int .i64 0, .int .i64 0, .int .i64 0, .int .i64 0, .int .i64 0, .int .i64 0, .slice none 0 0] 42)).heap.size := by simp
  generalize (w3.alloc (.cells #[.int .i64 0, .int .i64 0, .int .i64 0, .int .i64 0, .int .i64 0, .int .i64 0, .int .i64 0, .int .i64 0, .int .i64 0, .int .i64 0, .slice none 0 0] 42)) = w4 at *
  have p0 : w4.cell? ⟨w.heap.size, 0, none⟩ = some (.slice A s.M.W.length c) := cell_of_row w4 _ 0 _ _ _ b1
  have p1 : w4.cell? ⟨w.heap.size, 1, none⟩ = some (.slice B s.M.G.length d) := cell_of_row w4 _ 1 _ _ _ b1
  have p2 : w4.cell? ⟨w.heap.size, 2, none⟩ = some (.bool s.M.bad) := cell_of_row w4 _ 2 _ _ _ b1
  have p3 : w4.cell? ⟨w.heap.size, 3, none⟩ = some (.slice AC s.C.length cC) := cell_of_row w4 _ 3 _ _ _ b1
  have p4 : w4.cell? ⟨w.heap.size, 4, none⟩ = some (.slice AL s.L.length cL) := cell_of_row w4 _ 4 _ _ _ b1
  have q0 : w4.cell? ⟨w.heap.size + 1 + 1, 0, none⟩ = some (.slice none 0 0) := cell_of_row w4 _ 0 _ _ _ b2
  have q1 : w4.cell? ⟨w.heap.size + 1 + 1, 1, none⟩ = some (.slice none 0 0) := cell_of_row w4 _ 1 _ _ _ b2
  have q2 : w4.cell? ⟨w.heap.size + 1 + 1, 2, none⟩ = some (.bool false) := cell_of_row w4 _ 2 _ _ _ b2
  have q3 : w4.cell? ⟨w.heap.size + 1 + 1, 3, none⟩ = some (.slice none 0 0) := cell_of_row w4 _ 3 _ _ _ b2
  have q4 : w4.cell? ⟨w.heap.size + 1 + 1, 4, none⟩ = some (.slice none 0 0) := cell_of_row w4 _ 4 _ _ _ b2
  have qf0 : w4.frozen? ⟨w.heap.size + 1 + 1, 0, none⟩ = false := frozen_of_row w4 _ 0 _ _ b2
  have qf1 : w4.frozen? ⟨w.heap.size + 1 + 1, 1, none⟩ = false := frozen_of_row w4 _ 1 _ _ b2
  have qf2 : w4.frozen? ⟨w.heap.size + 1 + 1, 2, none⟩ = false := frozen_of_row w4 _ 2 _ _ b2
  have qf3 : w4.frozen? ⟨w.heap.size + 1 + 1, 3, none⟩ = false := frozen_of_row w4 _ 3 _ _ b2
  have qf4 : w4.frozen? ⟨w.heap.size + 1 + 1, 4, none⟩ = false := frozen_of_row w4 _ 4 _ _ b2
  clear b1 b2
  go_wp2
  refine bodyPost_ret (v := .agg #[.slice A s.M.W.length c, .slice B s.M.G.length d, .bool s.M.bad, .slice AC s.C.length cC, .slice AL s.L.length cL]) (by simp [results, Try.results32, go_sem, q0, q1, q2, q3, q4]) rfl ?_
  have key : ∀ w', Turn (fun b => b = w.heap.size + 1 + 1) w4 w' → RetSys w s (.returned (.agg #[.slice A s.M.W.length c, .slice B s.M.G.length d, .bool s.M.bad, .slice AC s.C.length cC, .slice AL s.L.length cL])) w' := fun w' hT => by
    have hb' : Below w.heap.size w w' := hb.trans (hT.to_below hb.size (fun g hg => by omega))
    exact ⟨A, B, AC, AL, c, d, cC, cL, rfl, hW.step hb', hG.step hb', hC.step hb', hL.step hb', hb'⟩
  exact key _ (turn5 _ _ _ _ _ _ _)

set_option maxRecDepth 100000 in
set_option maxHeartbeats 8000000 in
theorem rset_none (A B AC AL : Option Addr) (c d cC cL : Nat) (s : Sy) (k : Nat) (x : Co) (AS : Option Addr) (cS : Nat) (op pc r0 r1 r2 r3 r4 r5 r6 r7 : Int) (xs : List Int) (hx : s.C[k]? = some x) (hF : x.F.length = 0) (w : World) (hW : Row w A s.M.W) (hG : Row w B s.M.G) (hC : RowC w AC s.C) (hL : RowE w AL s.L) (h2 : s.C.length ≤ 1000000) :
    Calls Try.prog 32 #[.agg #[.slice A s.M.W.length c, .slice B s.M.G.length d, .bool s.M.bad, .slice AC s.C.length cC, .slice AL s.L.length cL], .int .i64 k, .agg #[.int .i64 op, .int .i64 pc, .int .i64 r0, .int .i64 r1, .int .i64 r2, .int .i64 r3, .int .i64 r4, .int .i64 r5, .int .i64 r6, .int .i64 r7, .slice AS xs.length cS]] w (RetSys w s) := by
  obtain ⟨b1, bf, b2, bs⟩ := heap3b w (.cells #[.slice A s.M.W.length c, .slice B s.M.G.length d, .bool s.M.bad, .slice AC s.C.length cC, .slice AL s.L.length cL] 28) (.cells #[.int .i64 op, .int .i64 pc, .int .i64 r0, .int .i64 r1, .int .i64 r2, .int .i64 r3, .int .i64 r4, .int .i64 r5, .int .i64 r6, .int .i64 r7, .slice AS xs.length cS] 42) (.cells #[.slice none 0 0, .slice none 0 0, .bool false, .slice none 0 0, .slice none 0 0] 28)
  have hb : Below w.heap.size w (((w.alloc (.cells #[.slice A s.M.W.length c, .slice B s.M.G.length d, .bool s.M.bad, .slice AC s.C.length cC, .slice AL s.L.length cL] 28)).alloc (.cells #[.int .i64 op, .int .i64 pc, .int .i64 r0, .int .i64 r1, .int .i64 r2, .int .i64 r3, .int .i64 r4, .int .i64 r5, .int .i64 r6, .int .i64 r7, .slice AS xs.length cS] 42)).alloc (.cells #[.slice none 0 0, .slice none 0 0, .bool false, .slice none 0 0, .slice none 0 0] 28)) := bstep (bstep (boxed _ _) (boxed _ _)) (boxed _ _)
  go_enter Try.func32, Try.ntmps32
  go_wp2_with fail
  generalize (((w.alloc (.cells #[.slice A s.M.W.length c, .slice B s.M.G.length d, .bool s.M.bad, .slice AC s.C.length cC, .slice AL s.L.length cL] 28)).alloc (.cells #[.int .i64 op, .int .i64 pc, .int .i64 r0, .int .i64 r1, .int .i64 r2, .int .i64 r3, .int .i64 r4, .int .i64 r5, .int .i64 r6, .int .i64 r7, .slice AS xs.length cS] 42)).alloc (.cells #[.slice none 0 0, .slice none 0 0, .bool false, .slice none 0 0, .slice none 0 0] 28)) = w2 at *
  refine (rtop_none _ _ _ _ _ _ _ _ s k x _ (hC.step hb) h2 hx hF).mono ?_
  rintro e w3 ⟨rfl, hk⟩
  replace b1 := (hk.block w.heap.size (by omega)).trans b1
  replace b2 := (hk.block (w.heap.size + 1 + 1) (by omega)).trans b2
  replace bf := (hk.block (w.heap.size + 1) (by omega)).trans bf
  replace hb := bstep hb hk
  have hz : w.heap.size + 1 + 1 < w3.heap.size := by have := hk.size; omega
  have hz0 : w.heap.size < w3.heap.size := by omega
  clear hk bs
  replace bf := (Below.heap_alloc w3 (.cells #[.int .i64 0, .int .i64 0, .int .i64 0, .int .i64 0, .int .i64 0, .int .i64 0, .int .i64 0, .int .i64 0, .int .i64 0, .int .i64 0, .slice none 0 0] 42) _ (by omega)).trans bf
  go_upto_region 2 with (fail)
  replace b1 := (Below.heap_alloc w3 (.cells #[.int .i64 0, .int .i64 0, .int .i64 0, .int .i64 0, .int .i64 0, .int .i64 0, .int .i64 0, .int .i64 0, .int .i64 0, .int .i64 0, .slice none 0 0] 42) _ hz0).trans b1
  replace b2 := (Below.heap_alloc w3 (.cells #[.int .i64 0, .int .i64 0, .int .i64 0, .int .i64 0, .int .i64 0, .int .i64 0, .int .i64 0, .int .i64 0, .int .i64 0, .int .i64 0, .slice none 0 0] 42) _ hz).trans b2
  replace hb := bstep hb (boxed w3 (.cells #[.int .i64 0, .int .i64 0, .int .i64 0, .int .i64 0, .int .i64 0, .int .i64 0, .int .i64 0, .int .i64 0, .int .i64 0, .int .i64 0, .slice none 0 0] 42))
  have s4 : w3.heap.size < (w3.alloc (.cells #[.int .i64 0, .int .i64 0, .int .i64 0, .int .i64 0, .int .i64 0, .int .i64 0, .int .i64 0, .int .i64 0, .int .i64 0, .int .i64 0, .slice none 0 0] 42)).heap.size := by simp
  generalize (w3.alloc (.cells #[.int .i64 0, .int .i64 0, .int .i64 0, .int .i64 0, .int .i64 0, .int .i64 0, .int .i64 0, .int .i64 0, .int .i64 0, .int .i64 0, .slice none 0 0] 42)) = w4 at *
  have p0 : w4.cell? ⟨w.heap.size, 0, none⟩ = some (.slice A s.M.W.length c) := cell_of_row w4 _ 0 _ _ _ b1
  have p1 : w4.cell? ⟨w.heap.size, 1, none⟩ = some (.slice B s.M.G.length d) := cell_of_row w4 _ 1 _ _ _ b1
  have p2 : w4.cell? ⟨w.heap.size, 2, none⟩ = some (.bool s.M.bad) := cell_of_row w4 _ 2 _ _ _ b1
  have p3 : w4.cell? ⟨w.heap.size, 3, none⟩ = some (.slice AC s.C.length cC) := cell_of_row w4 _ 3 _ _ _ b1
  have p4 : w4.cell? ⟨w.heap.size, 4, none⟩ = some (.slice AL s.L.length cL) := cell_of_row w4 _ 4 _ _ _ b1
  have q0 : w4.cell? ⟨w.heap.size + 1 + 1, 0, none⟩ = some (.slice none 0 0) := cell_of_row w4 _ 0 _ _ _ b2
  have q1 : w4.cell? ⟨w.heap.size + 1 + 1, 1, none⟩ = some (.slice none 0 0) := cell_of_row w4 _ 1 _ _ _ b2
  have q2 : w4.cell? ⟨w.heap.size + 1 + 1, 2, none⟩ = some (.bool false) := cell_of_row w4 _ 2 _ _ _ b2
  have q3 : w4.cell? ⟨w.heap.size + 1 + 1, 3, none⟩ = some (.slice none 0 0) := cell_of_row w4 _ 3 _ _ _ b2
  have q4 : w4.cell? ⟨w.heap.size + 1 + 1, 4, none⟩ = some (.slice none 0 0) := cell_of_row w4 _ 4 _ _ _ b2
  have qf0 : w4.frozen? ⟨w.heap.size + 1 + 1, 0, none⟩ = false := frozen_of_row w4 _ 0 _ _ b2
  have qf1 : w4.frozen? ⟨w.heap.size + 1 + 1, 1, none⟩ = false := frozen_of_row w4 _ 1 _ _ b2
  have qf2 : w4.frozen? ⟨w.heap.size + 1 + 1, 2, none⟩ = false := frozen_of_row w4 _ 2 _ _ b2
  have qf3 : w4.frozen? ⟨w.heap.size + 1 + 1, 3, none⟩ = false := frozen_of_row w4 _ 3 _ _ b2
  have qf4 : w4.frozen? ⟨w.heap.size + 1 + 1, 4, none⟩ = false := frozen_of_row w4 _ 4 _ _ b2
  clear b1 b2
  go_wp2
  refine bodyPost_ret (v := .agg #[.slice A s.M.W.length c, .slice B s.M.G.length d, .bool s.M.bad, .slice AC s.C.length cC, .slice AL s.L.length cL]) (by simp [results, Try.results32, go_sem, q0, q1, q2, q3, q4]) rfl ?_
  have key : ∀ w', Turn (fun b => b = w.heap.size + 1 + 1) w4 w' → RetSys w s (.returned (.agg #[.slice A s.M.W.length c, .slice B s.M.G.length d, .bool s.M.bad, .slice AC s.C.length cC, .slice AL s.L.length cL])) w' := fun w' hT => by
    have hb' : Below w.heap.size w w' := hb.trans (hT.to_below hb.size (fun g hg => by omega))
    exact ⟨A, B, AC, AL, c, d, cC, cL, rfl, hW.step hb', hG.step hb', hC.step hb', hL.step hb', hb'⟩
  exact key _ (turn5 _ _ _ _ _ _ _)

set_option maxRecDepth 100000 in
set_option maxHeartbeats 16000000 in
theorem rset_yes (A B AC AL : Option Addr) (c d cC cL : Nat) (s : Sy) (k n : Nat) (x : Co) (AS : Option Addr) (cS : Nat) (op pc r0 r1 r2 r3 r4 r5 r6 r7 : Int) (xs : List Int) (hx : s.C[k]? = some x) (hn : x.F.length = n + 1) (h3 : n ≤ 999998) (w : World) (hS : Row w AS xs) (hW : Row w A s.M.W) (hG : Row w B s.M.G) (hC : RowC w AC s.C) (hL : RowE w AL s.L) (h2 : s.C.length ≤ 1000000) :
    Calls Try.prog 32 #[.agg #[.slice A s.M.W.length c, .slice B s.M.G.length d, .bool s.M.bad, .slice AC s.C.length cC, .slice AL s.L.length cL], .int .i64 k, .agg #[.int .i64 op, .int .i64 pc, .int .i64 r0, .int .i64 r1, .int .i64 r2, .int .i64 r3, .int .i64 r4, .int .i64 r5, .int .i64 r6, .int .i64 r7, .slice AS xs.length cS]] w (RetSys w (syWith s k (coSet x n ⟨op, pc, [r0, r1, r2, r3, r4, r5, r6, r7], xs⟩))) := by
  obtain ⟨s', hs'⟩ : ∃ s', s' = syWith s k (coSet x n ⟨op, pc, [r0, r1, r2, r3, r4, r5, r6, r7], xs⟩) := ⟨_, rfl⟩
  rw [← hs']
  have HS' := hid hs'
  clear hs'
  have hkl : k < s.C.length := (List.getElem?_eq_some_iff.1 hx).1
  obtain ⟨b0, o0, eA, hbl0, hat0⟩ := hC (by omega)
  obtain ⟨AF, AR, cF, cR, hc0, rF, rR, hcF⟩ := (hat0 k x hx).cs4
  subst eA
  have kl : (k : Int) < (s.C.length : Int) := by omega
  have HX := hid hx
  obtain ⟨f0, hf0⟩ : ∃ f, x.F[n]? = some f := ⟨_, List.getElem?_eq_getElem (by omega)⟩
  obtain ⟨g0, of0, eF, hgl0, hatF⟩ := rF (by omega)
  have hf8 := (hatF n f0 hf0).1
  obtain ⟨op0, pc0, Q0, ys⟩ := f0
  dsimp only at hf8
  obtain ⟨q0, q1, q2, q3, q4, q5, q6, q7, rfl⟩ := fr8 hf8
  have hf := hf0
  clear hf0 hf8 hx hatF
  obtain ⟨b1, bf, b2, bs⟩ := heap3b w (.cells #[.slice A s.M.W.length c, .slice B s.M.G.length d, .bool s.M.bad, .slice (some ⟨b0, o0, none⟩) s.C.length cC, .slice AL s.L.length cL] 28) (.cells #[.int .i64 op, .int .i64 pc, .int .i64 r0, .int .i64 r1, .int .i64 r2, .int .i64 r3, .int .i64 r4, .int .i64 r5, .int .i64 r6, .int .i64 r7, .slice AS xs.length cS] 42) (.cells #[.slice none 0 0, .slice none 0 0, .bool false, .slice none 0 0, .slice none 0 0] 28)
  have hb : Below w.heap.size w (((w.alloc (.cells #[.slice A s.M.W.length c, .slice B s.M.G.length d, .bool s.M.bad, .slice (some ⟨b0, o0, none⟩) s.C.length cC, .slice AL s.L.length cL] 28)).alloc (.cells #[.int .i64 op, .int .i64 pc, .int .i64 r0, .int .i64 r1, .int .i64 r2, .int .i64 r3, .int .i64 r4, .int .i64 r5, .int .i64 r6, .int .i64 r7, .slice AS xs.length cS] 42)).alloc (.cells #[.slice none 0 0, .slice none 0 0, .bool false, .slice none 0 0, .slice none 0 0] 28)) := bstep (bstep (boxed _ _) (boxed _ _)) (boxed _ _)
  go_enter Try.func32, Try.ntmps32
  go_wp2_with fail
  generalize (((w.alloc (.cells #[.slice A s.M.W.length c, .slice B s.M.G.length d, .bool s.M.bad, .slice (some ⟨b0, o0, none⟩) s.C.length cC, .slice AL s.L.length cL] 28)).alloc (.cells #[.int .i64 op, .int .i64 pc, .int .i64 r0, .int .i64 r1, .int .i64 r2, .int .i64 r3, .int .i64 r4, .int .i64 r5, .int .i64 r6, .int .i64 r7, .slice AS xs.length cS] 42)).alloc (.cells #[.slice none 0 0, .slice none 0 0, .bool false, .slice none 0 0, .slice none 0 0] 28)) = w2 at *
  refine (rtop_yes _ _ _ _ _ _ _ _ s k n x op0 pc0 q0 q1 q2 q3 q4 q5 q6 q7 ys _ (hC.step hb) h2 HX.out hn (by omega) hf).mono ?_
  rintro e w3 ⟨AS0, cS0, rfl, rS0, hk⟩
  replace b1 := (hk.block w.heap.size (by omega)).trans b1
  replace b2 := (hk.block (w.heap.size + 1 + 1) (by omega)).trans b2
  replace bf := (hk.block (w.heap.size + 1) (by omega)).trans bf
  replace hb := bstep hb hk
  have hz : w.heap.size + 1 + 1 < w3.heap.size := by have := hk.size; omega
  have hz0 : w.heap.size < w3.heap.size := by omega
  clear hk bs
  replace bf := (Below.heap_alloc w3 (.cells #[.int .i64 op0, .int .i64 pc0, .int .i64 q0, .int .i64 q1, .int .i64 q2, .int .i64 q3, .int .i64 q4, .int .i64 q5, .int .i64 q6, .int .i64 q7, .slice AS0 ys.length cS0] 42) _ (by omega)).trans bf
  go_upto_region 2 with (fail)
  replace b1 := (Below.heap_alloc w3 (.cells #[.int .i64 op0, .int .i64 pc0, .int .i64 q0, .int .i64 q1, .int .i64 q2, .int .i64 q3, .int .i64 q4, .int .i64 q5, .int .i64 q6, .int .i64 q7, .slice AS0 ys.length cS0] 42) _ hz0).trans b1
  replace b2 := (Below.heap_alloc w3 (.cells #[.int .i64 op0, .int .i64 pc0, .int .i64 q0, .int .i64 q1, .int .i64 q2, .int .i64 q3, .int .i64 q4, .int .i64 q5, .int .i64 q6, .int .i64 q7, .slice AS0 ys.length cS0] 42) _ hz).trans b2
  replace hb := bstep hb (boxed w3 (.cells #[.int .i64 op0, .int .i64 pc0, .int .i64 q0, .int .i64 q1, .int .i64 q2, .int .i64 q3, .int .i64 q4, .int .i64 q5, .int .i64 q6, .int .i64 q7, .slice AS0 ys.length cS0] 42))
  have s4 : w3.heap.size < (w3.alloc (.cells #[.int .i64 op0, .int .i64 pc0, .int .i64 q0, .int .i64 q1, .int .i64 q2, .int .i64 q3, .int .i64 q4, .int .i64 q5, .int .i64 q6, .int .i64 q7, .slice AS0 ys.length cS0] 42)).heap.size := by simp
  generalize (w3.alloc (.cells #[.int .i64 op0, .int .i64 pc0, .int .i64 q0, .int .i64 q1, .int .i64 q2, .int .i64 q3, .int .i64 q4, .int .i64 q5, .int .i64 q6, .int .i64 q7, .slice AS0 ys.length cS0] 42)) = w4 at *
  have u0 : w4.cell? ⟨b0, o0 + k * 7, none⟩ = some (.slice AF x.F.length cF) := (hb.cell hbl0).trans (hc0 0 _ rfl)
  have u1 : w4.cell? ⟨b0, o0 + k * 7 + 1, none⟩ = some (.int .i64 x.v) := (hb.cell hbl0).trans (hc0 1 _ rfl)
  have u2 : w4.cell? ⟨b0, o0 + k * 7 + 2, none⟩ = some (.int .i64 x.e) := (hb.cell hbl0).trans (hc0 2 _ rfl)
  have u3 : w4.cell? ⟨b0, o0 + k * 7 + 3, none⟩ = some (.int .i64 x.x0) := (hb.cell hbl0).trans (hc0 3 _ rfl)
  have u4 : w4.cell? ⟨b0, o0 + k * 7 + 4, none⟩ = some (.int .i64 x.x1) := (hb.cell hbl0).trans (hc0 4 _ rfl)
  have u5 : w4.cell? ⟨b0, o0 + k * 7 + 5, none⟩ = some (.int .i64 x.x2) := (hb.cell hbl0).trans (hc0 5 _ rfl)
  have u6 : w4.cell? ⟨b0, o0 + k * 7 + 6, none⟩ = some (.slice AR x.ret.length cR) := (hb.cell hbl0).trans (hc0 6 _ rfl)
  have p0 : w4.cell? ⟨w.heap.size, 0, none⟩ = some (.slice A s.M.W.length c) := cell_of_row w4 _ 0 _ _ _ b1
  have p1 : w4.cell? ⟨w.heap.size, 1, none⟩ = some (.slice B s.M.G.length d) := cell_of_row w4 _ 1 _ _ _ b1
  have p2 : w4.cell? ⟨w.heap.size, 2, none⟩ = some (.bool s.M.bad) := cell_of_row w4 _ 2 _ _ _ b1
  have p3 : w4.cell? ⟨w.heap.size, 3, none⟩ = some (.slice (some ⟨b0, o0, none⟩) s.C.length cC) := cell_of_row w4 _ 3 _ _ _ b1
  have p4 : w4.cell? ⟨w.heap.size, 4, none⟩ = some (.slice AL s.L.length cL) := cell_of_row w4 _ 4 _ _ _ b1
  have z4 : w.heap.size + 1 + 1 < w4.heap.size := by omega
  have z40 : w.heap.size < w4.heap.size := by omega
  clear s4 hz hz0 rS0
  have hnl : n < x.F.length := by omega
  have nl : (n : Int) < (x.F.length : Int) := by omega
  have hn2 : ((x.F.length : Int) - 1) = (n : Int) := by omega
  have hl6 : x.F.length ≤ 999999 := by omega
  clear hn
  subst eF
  obtain ⟨ps, hp, hsF, h8, hSr⟩ := rF.src
  have H8 := hid h8
  have HP := hid hp
  have HSr := hid hSr
  clear h8 hp hSr
  go_wp2_with (at_builtin; (refine wpList_append_any rfl _ _ _ rfl 42 _ 11 104 Try.underlying62 infoFr rfl (by omega) (w4.heap.size + 1) rfl (by rw [show w4.heap.size + 1 = (w4.alloc (.cells #[.slice (some ⟨g0, of0, none⟩) x.F.length cF, .int .i64 x.v, .int .i64 x.e, .int .i64 x.x0, .int .i64 x.x1, .int .i64 x.x2, .slice AR x.ret.length cR] 65)).heap.size by simp]; exact heap_alloc_new _ _) (some ⟨g0, of0, none⟩) cF (fsCells x.F ps) x.F.length (fsCells_len HP.out) rfl (hsF.step (bstep (bstep hb (boxed _ _)) (boxed _ _))) (by omega) (by omega) ?_); (intro v7 w7 ho7 hk7; obtain ⟨g7, cap7, rfl, hg71, hg72⟩ := ho7.form (by omega); have j7 : Below (w4.heap.size + 1) (w4.alloc (.cells #[.slice (some ⟨g0, of0, none⟩) x.F.length cF, .int .i64 x.v, .int .i64 x.e, .int .i64 x.x0, .int .i64 x.x1, .int .i64 x.x2, .slice AR x.ret.length cR] 65)) w7 := (((boxed _ _).mono (by simp)).trans hk7); have by7 := (j7.block w4.heap.size (by omega)).trans (heap_alloc_new w4 _); have b17 := (j7.block w.heap.size (by omega)).trans ((Below.heap_alloc w4 _ _ z40).trans b1); have bf7 := (j7.block (w.heap.size + 1) (by omega)).trans ((Below.heap_alloc w4 _ _ (by omega)).trans bf); have b27 := (j7.block (w.heap.size + 1 + 1) (by omega)).trans ((Below.heap_alloc w4 _ _ z4).trans b2); have hcat := ho7.cellAt; have hfz := ho7.frozenAt; have a0 : w7.cell? ⟨w.heap.size, 0, none⟩ = some (.slice A s.M.W.length c) := cell_of_row w7 _ 0 _ _ _ b17; have a1 : w7.cell? ⟨w.heap.size, 1, none⟩ = some (.slice B s.M.G.length d) := cell_of_row w7 _ 1 _ _ _ b17; have a2 : w7.cell? ⟨w.heap.size, 2, none⟩ = some (.bool s.M.bad) := cell_of_row w7 _ 2 _ _ _ b17; have a3 : w7.cell? ⟨w.heap.size, 3, none⟩ = some (.slice (some ⟨b0, o0, none⟩) s.C.length cC) := cell_of_row w7 _ 3 _ _ _ b17; have a4 : w7.cell? ⟨w.heap.size, 4, none⟩ = some (.slice AL s.L.length cL) := cell_of_row w7 _ 4 _ _ _ b17; have f0 : w7.cell? ⟨w.heap.size + 1, 0, none⟩ = some (.int .i64 op) := cell_of_row w7 _ 0 _ _ _ bf7; have f1 : w7.cell? ⟨w.heap.size + 1, 1, none⟩ = some (.int .i64 pc) := cell_of_row w7 _ 1 _ _ _ bf7; have f2 : w7.cell? ⟨w.heap.size + 1, 2, none⟩ = some (.int .i64 r0) := cell_of_row w7 _ 2 _ _ _ bf7; have f3 : w7.cell? ⟨w.heap.size + 1, 3, none⟩ = some (.int .i64 r1) := cell_of_row w7 _ 3 _ _ _ bf7; have f4 : w7.cell? ⟨w.heap.size + 1, 4, none⟩ = some (.int .i64 r2) := cell_of_row w7 _ 4 _ _ _ bf7; have f5 : w7.cell? ⟨w.heap.size + 1, 5, none⟩ = some (.int .i64 r3) := cell_of_row w7 _ 5 _ _ _ bf7; have f6 : w7.cell? ⟨w.heap.size + 1, 6, none⟩ = some (.int .i64 r4) := cell_of_row w7 _ 6 _ _ _ bf7; have f7 : w7.cell? ⟨w.heap.size + 1, 7, none⟩ = some (.int .i64 r5) := cell_of_row w7 _ 7 _ _ _ bf7; have f8 : w7.cell? ⟨w.heap.size + 1, 8, none⟩ = some (.int .i64 r6) := cell_of_row w7 _ 8 _ _ _ bf7; have f9 : w7.cell? ⟨w.heap.size + 1, 9, none⟩ = some (.int .i64 r7) := cell_of_row w7 _ 9 _ _ _ bf7; have f10 : w7.cell? ⟨w.heap.size + 1, 10, none⟩ = some (.slice AS xs.length cS) := cell_of_row w7 _ 10 _ _ _ bf7; have y0 : w7.cell? ⟨w4.heap.size, 0, none⟩ = some (.slice (some ⟨g0, of0, none⟩) x.F.length cF) := cell_of_row w7 _ 0 _ _ _ by7; have y1 : w7.cell? ⟨w4.heap.size, 1, none⟩ = some (.int .i64 x.v) := cell_of_row w7 _ 1 _ _ _ by7; have y2 : w7.cell? ⟨w4.heap.size, 2, none⟩ = some (.int .i64 x.e) := cell_of_row w7 _ 2 _ _ _ by7; have y3 : w7.cell? ⟨w4.heap.size, 3, none⟩ = some (.int .i64 x.x0) := cell_of_row w7 _ 3 _ _ _ by7; have y4 : w7.cell? ⟨w4.heap.size, 4, none⟩ = some (.int .i64 x.x1) := cell_of_row w7 _ 4 _ _ _ by7; have y5 : w7.cell? ⟨w4.heap.size, 5, none⟩ = some (.int .i64 x.x2) := cell_of_row w7 _ 5 _ _ _ by7; have y6 : w7.cell? ⟨w4.heap.size, 6, none⟩ = some (.slice AR x.ret.length cR) := cell_of_row w7 _ 6 _ _ _ by7; have yf0 : w7.frozen? ⟨w4.heap.size, 0, none⟩ = false := frozen_of_row w7 _ 0 _ _ by7; have yf1 : w7.frozen? ⟨w4.heap.size, 1, none⟩ = false := frozen_of_row w7 _ 1 _ _ by7; have yf2 : w7.frozen? ⟨w4.heap.size, 2, none⟩ = false := frozen_of_row w7 _ 2 _ _ by7; have yf3 : w7.frozen? ⟨w4.heap.size, 3, none⟩ = false := frozen_of_row w7 _ 3 _ _ by7; have yf4 : w7.frozen? ⟨w4.heap.size, 4, none⟩ = false := frozen_of_row w7 _ 4 _ _ by7; have yf5 : w7.frozen? ⟨w4.heap.size, 5, none⟩ = false := frozen_of_row w7 _ 5 _ _ by7; have yf6 : w7.frozen? ⟨w4.heap.size, 6, none⟩ = false := frozen_of_row w7 _ 6 _ _ by7; obtain ⟨t0, ht0⟩ : ∃ u, w7.cell? ⟨g7, n * 11, none⟩ = some u := ⟨_, (hcat _ (by omega)).trans (List.getElem?_eq_getElem (by rw [ho7.1]; omega))⟩; have tz0 := hfz (n * 11); obtain ⟨t1, ht1⟩ : ∃ u, w7.cell? ⟨g7, n * 11 + 1, none⟩ = some u := ⟨_, (hcat _ (by omega)).trans (List.getElem?_eq_getElem (by rw [ho7.1]; omega))⟩; have tz1 := hfz (n * 11 + 1); obtain ⟨t2, ht2⟩ : ∃ u, w7.cell? ⟨g7, n * 11 + 2, none⟩ = some u := ⟨_, (hcat _ (by omega)).trans (List.getElem?_eq_getElem (by rw [ho7.1]; omega))⟩; have tz2 := hfz (n * 11 + 2); obtain ⟨t3, ht3⟩ : ∃ u, w7.cell? ⟨g7, n * 11 + 3, none⟩ = some u := ⟨_, (hcat _ (by omega)).trans (List.getElem?_eq_getElem (by rw [ho7.1]; omega))⟩; have tz3 := hfz (n * 11 + 3); obtain ⟨t4, ht4⟩ : ∃ u, w7.cell? ⟨g7, n * 11 + 4, none⟩ = some u := ⟨_, (hcat _ (by omega)).trans (List.getElem?_eq_getElem (by rw [ho7.1]; omega))⟩; have tz4 := hfz (n * 11 + 4); obtain ⟨t5, ht5⟩ : ∃ u, w7.cell? ⟨g7, n * 11 + 5, none⟩ = some u := ⟨_, (hcat _ (by omega)).trans (List.getElem?_eq_getElem (by rw [ho7.1]; omega))⟩; have tz5 := hfz (n * 11 + 5); obtain ⟨t6, ht6⟩ : ∃ u, w7.cell? ⟨g7, n * 11 + 6, none⟩ = some u := ⟨_, (hcat _ (by omega)).trans (List.getElem?_eq_getElem (by rw [ho7.1]; omega))⟩; have tz6 := hfz (n * 11 + 6); obtain ⟨t7, ht7⟩ : ∃ u, w7.cell? ⟨g7, n * 11 + 7, none⟩ = some u := ⟨_, (hcat _ (by omega)).trans (List.getElem?_eq_getElem (by rw [ho7.1]; omega))⟩; have tz7 := hfz (n * 11 + 7); obtain ⟨t8, ht8⟩ : ∃ u, w7.cell? ⟨g7, n * 11 + 8, none⟩ = some u := ⟨_, (hcat _ (by omega)).trans (List.getElem?_eq_getElem (by rw [ho7.1]; omega))⟩; have tz8 := hfz (n * 11 + 8); obtain ⟨t9, ht9⟩ : ∃ u, w7.cell? ⟨g7, n * 11 + 9, none⟩ = some u := ⟨_, (hcat _ (by omega)).trans (List.getElem?_eq_getElem (by rw [ho7.1]; omega))⟩; have tz9 := hfz (n * 11 + 9); obtain ⟨t10, ht10⟩ : ∃ u, w7.cell? ⟨g7, n * 11 + 10, none⟩ = some u := ⟨_, (hcat _ (by omega)).trans (List.getElem?_eq_getElem (by rw [ho7.1]; omega))⟩; have tz10 := hfz (n * 11 + 10); have ne1 : w.heap.size ≠ g7 := (by omega); have ne2 : w.heap.size + 1 ≠ g7 := (by omega); have ne3 : w4.heap.size ≠ g7 := (by omega); have ne4 : w.heap.size ≠ w4.heap.size := (by omega); clear hcat hfz bf7 b17))
  have t8 : Turn (fun b => b = w4.heap.size) (((((((((((w7.setCell ⟨g7, n * 11, none⟩ (.int .i64 op)).setCell ⟨g7, n * 11 + 1, none⟩ (.int .i64 pc)).setCell ⟨g7, n * 11 + 2, none⟩ (.int .i64 r0)).setCell ⟨g7, n * 11 + 3, none⟩ (.int .i64 r1)).setCell ⟨g7, n * 11 + 4, none⟩ (.int .i64 r2)).setCell ⟨g7, n * 11 + 5, none⟩ (.int .i64 r3)).setCell ⟨g7, n * 11 + 6, none⟩ (.int .i64 r4)).setCell ⟨g7, n * 11 + 7, none⟩ (.int .i64 r5)).setCell ⟨g7, n * 11 + 8, none⟩ (.int .i64 r6)).setCell ⟨g7, n * 11 + 9, none⟩ (.int .i64 r7)).setCell ⟨g7, n * 11 + 10, none⟩ (.slice AS xs.length cS)) ((((((((((((w7.setCell ⟨g7, n * 11, none⟩ (.int .i64 op)).setCell ⟨g7, n * 11 + 1, none⟩ (.int .i64 pc)).setCell ⟨g7, n * 11 + 2, none⟩ (.int .i64 r0)).setCell ⟨g7, n * 11 + 3, none⟩ (.int .i64 r1)).setCell ⟨g7, n * 11 + 4, none⟩ (.int .i64 r2)).setCell ⟨g7, n * 11 + 5, none⟩ (.int .i64 r3)).setCell ⟨g7, n * 11 + 6, none⟩ (.int .i64 r4)).setCell ⟨g7, n * 11 + 7, none⟩ (.int .i64 r5)).setCell ⟨g7, n * 11 + 8, none⟩ (.int .i64 r6)).setCell ⟨g7, n * 11 + 9, none⟩ (.int .i64 r7)).setCell ⟨g7, n * 11 + 10, none⟩ (.slice AS xs.length cS)).setCell ⟨w4.heap.size, 0, none⟩ (.slice (some ⟨g7, 0, none⟩) x.F.length cap7)) := (Turn.refl _ _).set (p := fun b => b = w4.heap.size) rfl _ _
  have t11 : Turn (fun b => b = g7) w7 (((((((((((w7.setCell ⟨g7, n * 11, none⟩ (.int .i64 op)).setCell ⟨g7, n * 11 + 1, none⟩ (.int .i64 pc)).setCell ⟨g7, n * 11 + 2, none⟩ (.int .i64 r0)).setCell ⟨g7, n * 11 + 3, none⟩ (.int .i64 r1)).setCell ⟨g7, n * 11 + 4, none⟩ (.int .i64 r2)).setCell ⟨g7, n * 11 + 5, none⟩ (.int .i64 r3)).setCell ⟨g7, n * 11 + 6, none⟩ (.int .i64 r4)).setCell ⟨g7, n * 11 + 7, none⟩ (.int .i64 r5)).setCell ⟨g7, n * 11 + 8, none⟩ (.int .i64 r6)).setCell ⟨g7, n * 11 + 9, none⟩ (.int .i64 r7)).setCell ⟨g7, n * 11 + 10, none⟩ (.slice AS xs.length cS)) := (by repeat (first | (with_reducible exact Turn.refl _ _) | (with_reducible refine Turn.set ?_ (by simp) _ _)))
  have t78 : Turn (fun b => b = g7 ∨ b = w4.heap.size) w7 ((((((((((((w7.setCell ⟨g7, n * 11, none⟩ (.int .i64 op)).setCell ⟨g7, n * 11 + 1, none⟩ (.int .i64 pc)).setCell ⟨g7, n * 11 + 2, none⟩ (.int .i64 r0)).setCell ⟨g7, n * 11 + 3, none⟩ (.int .i64 r1)).setCell ⟨g7, n * 11 + 4, none⟩ (.int .i64 r2)).setCell ⟨g7, n * 11 + 5, none⟩ (.int .i64 r3)).setCell ⟨g7, n * 11 + 6, none⟩ (.int .i64 r4)).setCell ⟨g7, n * 11 + 7, none⟩ (.int .i64 r5)).setCell ⟨g7, n * 11 + 8, none⟩ (.int .i64 r6)).setCell ⟨g7, n * 11 + 9, none⟩ (.int .i64 r7)).setCell ⟨g7, n * 11 + 10, none⟩ (.slice AS xs.length cS)).setCell ⟨w4.heap.size, 0, none⟩ (.slice (some ⟨g7, 0, none⟩) x.F.length cap7)) := (t11.mono (fun b _ h => .inl h)).trans (t8.mono (fun b _ h => .inr h))
  have hb7 : Below w.heap.size w w7 := (bstep hb (boxed _ _)).trans (j7.mono (by omega))
  have hb5 : Below w.heap.size w ((((((((((((w7.setCell ⟨g7, n * 11, none⟩ (.int .i64 op)).setCell ⟨g7, n * 11 + 1, none⟩ (.int .i64 pc)).setCell ⟨g7, n * 11 + 2, none⟩ (.int .i64 r0)).setCell ⟨g7, n * 11 + 3, none⟩ (.int .i64 r1)).setCell ⟨g7, n * 11 + 4, none⟩ (.int .i64 r2)).setCell ⟨g7, n * 11 + 5, none⟩ (.int .i64 r3)).setCell ⟨g7, n * 11 + 6, none⟩ (.int .i64 r4)).setCell ⟨g7, n * 11 + 7, none⟩ (.int .i64 r5)).setCell ⟨g7, n * 11 + 8, none⟩ (.int .i64 r6)).setCell ⟨g7, n * 11 + 9, none⟩ (.int .i64 r7)).setCell ⟨g7, n * 11 + 10, none⟩ (.slice AS xs.length cS)).setCell ⟨w4.heap.size, 0, none⟩ (.slice (some ⟨g7, 0, none⟩) x.F.length cap7)) := hb7.trans (t78.to_below hb7.size (fun g hg => by omega))
  have b28 := (t78.block (w.heap.size + 1 + 1) (by have := j7.size; simp at this; omega) (by omega)).trans b27
  have s8 : w.heap.size + 1 + 1 < ((((((((((((w7.setCell ⟨g7, n * 11, none⟩ (.int .i64 op)).setCell ⟨g7, n * 11 + 1, none⟩ (.int .i64 pc)).setCell ⟨g7, n * 11 + 2, none⟩ (.int .i64 r0)).setCell ⟨g7, n * 11 + 3, none⟩ (.int .i64 r1)).setCell ⟨g7, n * 11 + 4, none⟩ (.int .i64 r2)).setCell ⟨g7, n * 11 + 5, none⟩ (.int .i64 r3)).setCell ⟨g7, n * 11 + 6, none⟩ (.int .i64 r4)).setCell ⟨g7, n * 11 + 7, none⟩ (.int .i64 r5)).setCell ⟨g7, n * 11 + 8, none⟩ (.int .i64 r6)).setCell ⟨g7, n * 11 + 9, none⟩ (.int .i64 r7)).setCell ⟨g7, n * 11 + 10, none⟩ (.slice AS xs.length cS)).setCell ⟨w4.heap.size, 0, none⟩ (.slice (some ⟨g7, 0, none⟩) x.F.length cap7)).heap.size := Nat.lt_of_lt_of_le (by have := j7.size; simp at this; omega) t78.size
  have rN := setF_row ho7 H8.out HP.out hnl HSr.out (hS) t8 (by omega) hb5
  clear t8 t11 t78 hb7 by7 b27 hn2 a0 a1 a2 a3 a4 f0 f1 f2 f3 f4 f5 f6 f7 f8 f9 f10 y0 yf0 y1 yf1 y2 yf2 y3 yf3 y4 yf4 y5 yf5 y6 yf6 ht0 tz0 ht1 tz1 ht2 tz2 ht3 tz3 ht4 tz4 ht5 tz5 ht6 tz6 ht7 tz7 ht8 tz8 ht9 tz9 ht10 tz10 u0 u1 u2 u3 u4 u5 u6 p0 p1 p2 p3 p4
  generalize ((((((((((((w7.setCell ⟨g7, n * 11, none⟩ (.int .i64 op)).setCell ⟨g7, n * 11 + 1, none⟩ (.int .i64 pc)).setCell ⟨g7, n * 11 + 2, none⟩ (.int .i64 r0)).setCell ⟨g7, n * 11 + 3, none⟩ (.int .i64 r1)).setCell ⟨g7, n * 11 + 4, none⟩ (.int .i64 r2)).setCell ⟨g7, n * 11 + 5, none⟩ (.int .i64 r3)).setCell ⟨g7, n * 11 + 6, none⟩ (.int .i64 r4)).setCell ⟨g7, n * 11 + 7, none⟩ (.int .i64 r5)).setCell ⟨g7, n * 11 + 8, none⟩ (.int .i64 r6)).setCell ⟨g7, n * 11 + 9, none⟩ (.int .i64 r7)).setCell ⟨g7, n * 11 + 10, none⟩ (.slice AS xs.length cS)).setCell ⟨w4.heap.size, 0, none⟩ (.slice (some ⟨g7, 0, none⟩) x.F.length cap7)) = w8 at *
  skip
  have hlen : (coSet x n ⟨op, pc, [r0, r1, r2, r3, r4, r5, r6, r7], xs⟩).F.length = x.F.length := by simp [coSet]
  have RW := rwith_any A B (some ⟨b0, o0, none⟩) AL c d cC cL s k (some ⟨g7, 0, none⟩) AR cap7 cR (coSet x n ⟨op, pc, [r0, r1, r2, r3, r4, r5, r6, r7], xs⟩) w8 (hW.step hb5) (hG.step hb5) (hC.step hb5) (hL.step hb5) h2 (rN) (rR.step hb5) hkl (by simpa [coSet] using own_cap ho7)
  rw [hlen, ← HS'.out] at RW
  refine RW.mono ?_
  rintro e w6 ⟨A1, B1, C1, L1, c1, d1, cc1, cl1, rfl, rW, rG, rC, rL, hk6⟩
  have b6 := (hk6.block (w.heap.size + 1 + 1) (by exact s8)).trans b28
  have hb6 := bstep hb5 hk6
  clear RW hk6
  have q0 : w6.cell? ⟨w.heap.size + 1 + 1, 0, none⟩ = some (.slice none 0 0) := cell_of_row w6 _ 0 _ _ _ b6
  have q1 : w6.cell? ⟨w.heap.size + 1 + 1, 1, none⟩ = some (.slice none 0 0) := cell_of_row w6 _ 1 _ _ _ b6
  have q2 : w6.cell? ⟨w.heap.size + 1 + 1, 2, none⟩ = some (.bool false) := cell_of_row w6 _ 2 _ _ _ b6
  have q3 : w6.cell? ⟨w.heap.size + 1 + 1, 3, none⟩ = some (.slice none 0 0) := cell_of_row w6 _ 3 _ _ _ b6
  have q4 : w6.cell? ⟨w.heap.size + 1 + 1, 4, none⟩ = some (.slice none 0 0) := cell_of_row w6 _ 4 _ _ _ b6
  have qf0 : w6.frozen? ⟨w.heap.size + 1 + 1, 0, none⟩ = false := frozen_of_row w6 _ 0 _ _ b6
  have qf1 : w6.frozen? ⟨w.heap.size + 1 + 1, 1, none⟩ = false := frozen_of_row w6 _ 1 _ _ b6
  have qf2 : w6.frozen? ⟨w.heap.size + 1 + 1, 2, none⟩ = false := frozen_of_row w6 _ 2 _ _ b6
  have qf3 : w6.frozen? ⟨w.heap.size + 1 + 1, 3, none⟩ = false := frozen_of_row w6 _ 3 _ _ b6
  have qf4 : w6.frozen? ⟨w.heap.size + 1 + 1, 4, none⟩ = false := frozen_of_row w6 _ 4 _ _ b6
  have NI := noInt_sys b6
  go_wp2
  refine bodyPost_ret (v := .agg #[.slice A1 s'.M.W.length c1, .slice B1 s'.M.G.length d1, .bool s'.M.bad, .slice C1 s'.C.length cc1, .slice L1 s'.L.length cl1]) (by simp [results, Try.results32, go_sem, q0, q1, q2, q3, q4]) rfl ?_
  exact ret_store rW rG rC rL (turn5 _ _ _ _ _ _ _) NI (hb6.trans ((turn5 _ _ _ _ _ _ _).to_below hb6.size (fun g hg => by omega)))
end Go.Proofs.Ytpagekhgeahmaaa
