/- Contracts of the document's answers for layer 3: an event is told. -/
import Derived.Test.YtpagekhgeahmaaaCore10
import Derived.Test.YtpagekhgeahmaaaCoreC
namespace Go.Proofs.Ytpagekhgeahmaaa
open Go.RowKit
set_option linter.unusedVariables false
set_option linter.unusedSimpArgs false

set_option maxRecDepth 100000 in
set_option maxHeartbeats 8000000 in
theorem rlog_out (A B AC AL : Option Addr) (c d cC cL : Nat) (s : Sy) (i y0 kind a b z : Int) (hi : i < 0 ∨ (s.C.length : Int) ≤ i) (w : World) (hW : Row w A s.M.W) (hG : Row w B s.M.G) (hC : RowC w AC s.C) (hL : RowE w AL s.L) (h2 : s.C.length ≤ 1000000) :
    Calls Try.prog 34 #[.agg #[.slice A s.M.W.length c, .slice B s.M.G.length d, .bool s.M.bad, .slice AC s.C.length cC, .slice AL s.L.length cL], .int .i64 i, .agg #[.int .i64 y0, .int .i64 kind, .int .i64 a, .int .i64 b, .int .i64 z]] w (RetSys w s) := by
  have hb : Below w.heap.size w (((w.alloc (.cells #[.slice A s.M.W.length c, .slice B s.M.G.length d, .bool s.M.bad, .slice AC s.C.length cC, .slice AL s.L.length cL] 28)).alloc (.cells #[.int .i64 y0, .int .i64 kind, .int .i64 a, .int .i64 b, .int .i64 z] 56)).alloc (.cells #[.slice A s.M.W.length c, .slice B s.M.G.length d, .bool s.M.bad, .slice AC s.C.length cC, .slice AL s.L.length cL] 28)) := bstep (bstep (boxed _ _) (boxed _ _)) (boxed _ _)
  go_enter Try.func34, Try.ntmps34
  rcases hi with q | q
  all_goals go_wp2_with fail
  all_goals refine bodyPost_ret (v := .agg #[.slice A s.M.W.length c, .slice B s.M.G.length d, .bool s.M.bad, .slice AC s.C.length cC, .slice AL s.L.length cL]) (by simp [results, Try.results34, go_sem]) rfl ?_
  all_goals exact ⟨A, B, AC, AL, c, d, cC, cL, rfl, hW.step hb, hG.step hb, hC.step hb, hL.step hb, hb⟩

set_option maxRecDepth 100000 in
set_option maxHeartbeats 8000000 in
theorem rlog_at (A B AC AL : Option Addr) (c d cC cL : Nat) (s : Sy) (k : Nat) (y0 kind a b z : Int) (hk : k < s.C.length) (w : World) (hW : Row w A s.M.W) (hG : Row w B s.M.G) (hC : RowC w AC s.C) (hL : RowE w AL s.L) (h2 : s.C.length ≤ 1000000) (h3 : s.L.length ≤ 999999) :
    Calls Try.prog 34 #[.agg #[.slice A s.M.W.length c, .slice B s.M.G.length d, .bool s.M.bad, .slice AC s.C.length cC, .slice AL s.L.length cL], .int .i64 k, .agg #[.int .i64 y0, .int .i64 kind, .int .i64 a, .int .i64 b, .int .i64 z]] w (RetSys w (syLog s ⟨k, kind, a, b, z⟩)) := by
  have kl : (k : Int) < (s.C.length : Int) := by omega
  obtain ⟨b1, b2, b3, bs⟩ := heap3b w (.cells #[.slice A s.M.W.length c, .slice B s.M.G.length d, .bool s.M.bad, .slice AC s.C.length cC, .slice AL s.L.length cL] 28) (.cells #[.int .i64 (k : Int), .int .i64 kind, .int .i64 a, .int .i64 b, .int .i64 z] 56) (.cells #[.slice none 0 0, .slice none 0 0, .bool false, .slice none 0 0, .slice none 0 0] 28)
  have hw2 : Below w.heap.size w (((w.alloc (.cells #[.slice A s.M.W.length c, .slice B s.M.G.length d, .bool s.M.bad, .slice AC s.C.length cC, .slice AL s.L.length cL] 28)).alloc (.cells #[.int .i64 (k : Int), .int .i64 kind, .int .i64 a, .int .i64 b, .int .i64 z] 56)).alloc (.cells #[.slice none 0 0, .slice none 0 0, .bool false, .slice none 0 0, .slice none 0 0] 28)) := bstep (bstep (boxed _ _) (boxed _ _)) (boxed _ _)
  go_enter Try.func34, Try.ntmps34
  go_upto_region 4 with (fail)
  generalize (((w.alloc (.cells #[.slice A s.M.W.length c, .slice B s.M.G.length d, .bool s.M.bad, .slice AC s.C.length cC, .slice AL s.L.length cL] 28)).alloc (.cells #[.int .i64 (k : Int), .int .i64 kind, .int .i64 a, .int .i64 b, .int .i64 z] 56)).alloc (.cells #[.slice none 0 0, .slice none 0 0, .bool false, .slice none 0 0, .slice none 0 0] 28)) = w2 at *
  have p0 : w2.cell? ⟨w.heap.size, 0, none⟩ = some (.slice A s.M.W.length c) := cell_of_row w2 _ 0 _ _ _ b1
  have p1 : w2.cell? ⟨w.heap.size, 1, none⟩ = some (.slice B s.M.G.length d) := cell_of_row w2 _ 1 _ _ _ b1
  have p2 : w2.cell? ⟨w.heap.size, 2, none⟩ = some (.bool s.M.bad) := cell_of_row w2 _ 2 _ _ _ b1
  have p3 : w2.cell? ⟨w.heap.size, 3, none⟩ = some (.slice AC s.C.length cC) := cell_of_row w2 _ 3 _ _ _ b1
  have p4 : w2.cell? ⟨w.heap.size, 4, none⟩ = some (.slice AL s.L.length cL) := cell_of_row w2 _ 4 _ _ _ b1
  have y0 : w2.cell? ⟨w.heap.size + 1, 0, none⟩ = some (.int .i64 (k : Int)) := cell_of_row w2 _ 0 _ _ _ b2
  have y1 : w2.cell? ⟨w.heap.size + 1, 1, none⟩ = some (.int .i64 kind) := cell_of_row w2 _ 1 _ _ _ b2
  have y2 : w2.cell? ⟨w.heap.size + 1, 2, none⟩ = some (.int .i64 a) := cell_of_row w2 _ 2 _ _ _ b2
  have y3 : w2.cell? ⟨w.heap.size + 1, 3, none⟩ = some (.int .i64 b) := cell_of_row w2 _ 3 _ _ _ b2
  have y4 : w2.cell? ⟨w.heap.size + 1, 4, none⟩ = some (.int .i64 z) := cell_of_row w2 _ 4 _ _ _ b2
  have q0 : w2.cell? ⟨w.heap.size + 1 + 1, 0, none⟩ = some (.slice none 0 0) := cell_of_row w2 _ 0 _ _ _ b3
  have q1 : w2.cell? ⟨w.heap.size + 1 + 1, 1, none⟩ = some (.slice none 0 0) := cell_of_row w2 _ 1 _ _ _ b3
  have q2 : w2.cell? ⟨w.heap.size + 1 + 1, 2, none⟩ = some (.bool false) := cell_of_row w2 _ 2 _ _ _ b3
  have q3 : w2.cell? ⟨w.heap.size + 1 + 1, 3, none⟩ = some (.slice none 0 0) := cell_of_row w2 _ 3 _ _ _ b3
  have q4 : w2.cell? ⟨w.heap.size + 1 + 1, 4, none⟩ = some (.slice none 0 0) := cell_of_row w2 _ 4 _ _ _ b3
  have qf0 : w2.frozen? ⟨w.heap.size + 1 + 1, 0, none⟩ = false := frozen_of_row w2 _ 0 _ _ b3
  have qf1 : w2.frozen? ⟨w.heap.size + 1 + 1, 1, none⟩ = false := frozen_of_row w2 _ 1 _ _ b3
  have qf2 : w2.frozen? ⟨w.heap.size + 1 + 1, 2, none⟩ = false := frozen_of_row w2 _ 2 _ _ b3
  have qf3 : w2.frozen? ⟨w.heap.size + 1 + 1, 3, none⟩ = false := frozen_of_row w2 _ 3 _ _ b3
  have qf4 : w2.frozen? ⟨w.heap.size + 1 + 1, 4, none⟩ = false := frozen_of_row w2 _ 4 _ _ b3
  have KS := hid (show ∀ w', Turn (fun b => w.heap.size + 2 ≤ b) w2 w' → (w'.cell? ⟨w.heap.size, 0, none⟩ = some (.slice A s.M.W.length c) ∧ w'.cell? ⟨w.heap.size, 1, none⟩ = some (.slice B s.M.G.length d) ∧ w'.cell? ⟨w.heap.size, 2, none⟩ = some (.bool s.M.bad) ∧ w'.cell? ⟨w.heap.size, 3, none⟩ = some (.slice AC s.C.length cC) ∧ w'.cell? ⟨w.heap.size, 4, none⟩ = some (.slice AL s.L.length cL) ∧ w'.cell? ⟨w.heap.size + 1, 0, none⟩ = some (.int .i64 (k : Int)) ∧ w'.cell? ⟨w.heap.size + 1, 1, none⟩ = some (.int .i64 kind) ∧ w'.cell? ⟨w.heap.size + 1, 2, none⟩ = some (.int .i64 a) ∧ w'.cell? ⟨w.heap.size + 1, 3, none⟩ = some (.int .i64 b) ∧ w'.cell? ⟨w.heap.size + 1, 4, none⟩ = some (.int .i64 z)) from fun w' h => ⟨(h.cell (by omega) (by omega)).trans p0, (h.cell (by omega) (by omega)).trans p1, (h.cell (by omega) (by omega)).trans p2, (h.cell (by omega) (by omega)).trans p3, (h.cell (by omega) (by omega)).trans p4, (h.cell (by omega) (by omega)).trans y0, (h.cell (by omega) (by omega)).trans y1, (h.cell (by omega) (by omega)).trans y2, (h.cell (by omega) (by omega)).trans y3, (h.cell (by omega) (by omega)).trans y4⟩)
  have QS := hid (show ∀ w', Turn (fun b => w.heap.size + 3 ≤ b) w2 w' → (w'.cell? ⟨w.heap.size + 1 + 1, 0, none⟩ = some (.slice none 0 0) ∧ w'.cell? ⟨w.heap.size + 1 + 1, 1, none⟩ = some (.slice none 0 0) ∧ w'.cell? ⟨w.heap.size + 1 + 1, 2, none⟩ = some (.bool false) ∧ w'.cell? ⟨w.heap.size + 1 + 1, 3, none⟩ = some (.slice none 0 0) ∧ w'.cell? ⟨w.heap.size + 1 + 1, 4, none⟩ = some (.slice none 0 0) ∧ w'.frozen? ⟨w.heap.size + 1 + 1, 0, none⟩ = false ∧ w'.frozen? ⟨w.heap.size + 1 + 1, 1, none⟩ = false ∧ w'.frozen? ⟨w.heap.size + 1 + 1, 2, none⟩ = false ∧ w'.frozen? ⟨w.heap.size + 1 + 1, 3, none⟩ = false ∧ w'.frozen? ⟨w.heap.size + 1 + 1, 4, none⟩ = false) from fun w' h => ⟨(h.cell (by omega) (by omega)).trans q0, (h.cell (by omega) (by omega)).trans q1, (h.cell (by omega) (by omega)).trans q2, (h.cell (by omega) (by omega)).trans q3, (h.cell (by omega) (by omega)).trans q4, (h.frozen (by omega) (by omega)).trans qf0, (h.frozen (by omega) (by omega)).trans qf1, (h.frozen (by omega) (by omega)).trans qf2, (h.frozen (by omega) (by omega)).trans qf3, (h.frozen (by omega) (by omega)).trans qf4⟩)
  have hsL := hid hL.src
  clear q0 qf0 q1 qf1 q2 qf2 q3 qf3 q4 qf4 b1 b2 b3
  have BS := hid bs
  have z2 : w.heap.size + 1 + 1 < w2.heap.size := by omega
  clear bs
  have HW2 := hid hw2
  clear hw2
  have HX4 := hid (heap2 w2.drew (.cells #[] 56) (.cells #[.int .i64 (k : Int), .int .i64 kind, .int .i64 a, .int .i64 b, .int .i64 z] 56))
  have HX9 := hid (heap2 w2.drew (.cells #[.int .i64 (k : Int), .int .i64 kind, .int .i64 a, .int .i64 b, .int .i64 z] 56) (.cells #[] 56))
  go_region_held3 (fun w' => w'.cell? ⟨w.heap.size, 0, none⟩ = some (.slice A s.M.W.length c) ∧ w'.cell? ⟨w.heap.size, 1, none⟩ = some (.slice B s.M.G.length d) ∧ w'.cell? ⟨w.heap.size, 2, none⟩ = some (.bool s.M.bad) ∧ w'.cell? ⟨w.heap.size, 3, none⟩ = some (.slice AC s.C.length cC) ∧ w'.cell? ⟨w.heap.size, 4, none⟩ = some (.slice AL s.L.length cL) ∧ w'.cell? ⟨w.heap.size + 1, 0, none⟩ = some (.int .i64 (k : Int)) ∧ w'.cell? ⟨w.heap.size + 1, 1, none⟩ = some (.int .i64 kind) ∧ w'.cell? ⟨w.heap.size + 1, 2, none⟩ = some (.int .i64 a) ∧ w'.cell? ⟨w.heap.size + 1, 3, none⟩ = some (.int .i64 b) ∧ w'.cell? ⟨w.heap.size + 1, 4, none⟩ = some (.int .i64 z)) (exact KS.out _ (by repeat (first | (with_reducible exact Turn.refl _ _) | (with_reducible refine Turn.set ?_ (by simp) _ _) | (with_reducible refine Turn.drew ?_) | (with_reducible refine Turn.alloc ?_ _) | (with_reducible refine Turn.grown ?_ hg8 (fun g hg => by have h9 := BS.out; first | (injection hg with hg; omega) | (have h8 := (ho7.lt g hg).1; omega))) | (with_reducible refine Turn.grown ?_ hg7 (fun g hg => by have h9 := BS.out; first | (injection hg with hg; omega) | (have h8 := (ho7.lt g hg).1; omega))))))
    (first | ((refine step_append_onto (by rfl) _ _ _ (by rfl) _ 56 _ 5 40 Try.underlying26 infoEv rfl (by omega) (.slice A7 s.L.length c7) s.L.length (s.L.map evCells).flatten (by rfl) (own_step ho7 (boxed _ _)) ⟨w7.heap.size, 0, none⟩ 1 1 [.int .i64 (k : Int), .int .i64 kind, .int .i64 a, .int .i64 b, .int .i64 z] (by rfl) (by rfl) (World.news_of_block (heap_alloc_new w7 _)) (evCells_one ⟨k, kind, a, b, z⟩) (by omega) (by omega) (by have h8 := hg7.size; simp at h8 ⊢; omega) ?_); intro v8 w8 ho8 hg8 hat8; obtain ⟨A8, c8, rfl⟩ := own_val ho8; have t8 : Turn (fun b => w.heap.size + 3 ≤ b) w2 w8 := (by repeat (first | (with_reducible exact Turn.refl _ _) | (with_reducible refine Turn.set ?_ (by simp) _ _) | (with_reducible refine Turn.drew ?_) | (with_reducible refine Turn.alloc ?_ _) | (with_reducible refine Turn.grown ?_ hg8 (fun g hg => by have h9 := BS.out; first | (injection hg with hg; omega) | (have h8 := (ho7.lt g hg).1; omega))) | (with_reducible refine Turn.grown ?_ hg7 (fun g hg => by have h9 := BS.out; first | (injection hg with hg; omega) | (have h8 := (ho7.lt g hg).1; omega))))); obtain ⟨q0, q1, q2, q3, q4, qf0, qf1, qf2, qf3, qf4⟩ := QS.out _ t8) | ((refine step_append_onto (by rfl) _ _ _ (by rfl) _ 56 _ 5 40 Try.underlying26 infoEv rfl (by omega) (.slice A7 s.L.length c7) s.L.length (s.L.map evCells).flatten (by rfl) (ho7) ⟨w2.heap.size + 1, 0, none⟩ 1 1 [.int .i64 (k : Int), .int .i64 kind, .int .i64 a, .int .i64 b, .int .i64 z] (by rfl) (by rfl) (World.news_of_block (hx7)) (evCells_one ⟨k, kind, a, b, z⟩) (by omega) (by omega) (by have h8 := hg7.size; simp at h8 ⊢; omega) ?_); intro v8 w8 ho8 hg8 hat8; obtain ⟨A8, c8, rfl⟩ := own_val ho8; have t8 : Turn (fun b => w.heap.size + 3 ≤ b) w2 w8 := (by repeat (first | (with_reducible exact Turn.refl _ _) | (with_reducible refine Turn.set ?_ (by simp) _ _) | (with_reducible refine Turn.drew ?_) | (with_reducible refine Turn.alloc ?_ _) | (with_reducible refine Turn.grown ?_ hg8 (fun g hg => by have h9 := BS.out; first | (injection hg with hg; omega) | (have h8 := (ho7.lt g hg).1; omega))) | (with_reducible refine Turn.grown ?_ hg7 (fun g hg => by have h9 := BS.out; first | (injection hg with hg; omega) | (have h8 := (ho7.lt g hg).1; omega))))); obtain ⟨q0, q1, q2, q3, q4, qf0, qf1, qf2, qf3, qf4⟩ := QS.out _ t8) | ((refine step_append_onto (by rfl) _ _ _ (by rfl) _ 56 _ 5 40 Try.underlying26 infoEv rfl (by omega) (.slice A7 s.L.length c7) s.L.length (s.L.map evCells).flatten (by rfl) (ho7) ⟨w2.heap.size, 0, none⟩ 1 1 [.int .i64 (k : Int), .int .i64 kind, .int .i64 a, .int .i64 b, .int .i64 z] (by rfl) (by rfl) (World.news_of_block (hx7)) (evCells_one ⟨k, kind, a, b, z⟩) (by omega) (by omega) (by have h8 := hg7.size; simp at h8 ⊢; omega) ?_); intro v8 w8 ho8 hg8 hat8; obtain ⟨A8, c8, rfl⟩ := own_val ho8; have t8 : Turn (fun b => w.heap.size + 3 ≤ b) w2 w8 := (by repeat (first | (with_reducible exact Turn.refl _ _) | (with_reducible refine Turn.set ?_ (by simp) _ _) | (with_reducible refine Turn.drew ?_) | (with_reducible refine Turn.alloc ?_ _) | (with_reducible refine Turn.grown ?_ hg8 (fun g hg => by have h9 := BS.out; first | (injection hg with hg; omega) | (have h8 := (ho7.lt g hg).1; omega))) | (with_reducible refine Turn.grown ?_ hg7 (fun g hg => by have h9 := BS.out; first | (injection hg with hg; omega) | (have h8 := (ho7.lt g hg).1; omega))))); obtain ⟨q0, q1, q2, q3, q4, qf0, qf1, qf2, qf3, qf4⟩ := QS.out _ t8) | ((refine step_append_any (by rfl) _ _ _ (by rfl) 56 _ 5 40 Try.underlying26 infoEv rfl (by omega) (w2.heap.size) (by rfl) (heap_alloc_new w2.drew _) AL cL (s.L.map evCells) s.L.length (by simp) (by rfl) (hsL.out.step (bstep HW2.out (by repeat (first | (with_reducible exact Below.refl _ _) | (with_reducible refine Below.drew ?_) | (with_reducible refine bstep ?_ (boxed _ _)))))) (by omega) (by omega) ?_); intro v7 w7 ho7 hg7; obtain ⟨A7, c7, rfl⟩ := own_val ho7) | ((refine step_append_any (by rfl) _ _ _ (by rfl) 56 _ 5 40 Try.underlying26 infoEv rfl (by omega) (w2.heap.size) (by rfl) (HX4.out.1) AL cL (s.L.map evCells) s.L.length (by simp) (by rfl) (hsL.out.step (bstep HW2.out (by repeat (first | (with_reducible exact Below.refl _ _) | (with_reducible refine Below.drew ?_) | (with_reducible refine bstep ?_ (boxed _ _)))))) (by omega) (by omega) ?_); intro v7 w7 ho7 hg7; obtain ⟨A7, c7, rfl⟩ := own_val ho7; have hx7 := (hg7.block (w2.heap.size + 1) (by simp) (by simp)).trans HX4.out.2.1) | ((refine step_append_any (by rfl) _ _ _ (by rfl) 56 _ 5 40 Try.underlying26 infoEv rfl (by omega) (w2.heap.size + 1) (by rfl) (HX9.out.2.1) AL cL (s.L.map evCells) s.L.length (by simp) (by rfl) (hsL.out.step (bstep HW2.out (by repeat (first | (with_reducible exact Below.refl _ _) | (with_reducible refine Below.drew ?_) | (with_reducible refine bstep ?_ (boxed _ _)))))) (by omega) (by omega) ?_); intro v7 w7 ho7 hg7; obtain ⟨A7, c7, rfl⟩ := own_val ho7; have hx7 := (hg7.block w2.heap.size (by simp; omega) (by simp)).trans HX9.out.1))
  all_goals go_wp2_with fail
  all_goals refine bodyPost_ret (v := .agg #[.slice A s.M.W.length c, .slice B s.M.G.length d, .bool s.M.bad, .slice AC s.C.length cC, .slice A8 (s.L.length + 1) c8]) (by simp [results, Try.results34, go_sem, q0, q1, q2, q3, q4]) rfl ?_
  all_goals
    have key : ∀ w', Turn (fun b => b = w.heap.size + 1 + 1) w8 w' → RetSys w (syLog s ⟨k, kind, a, b, z⟩) (.returned (.agg #[.slice A s.M.W.length c, .slice B s.M.G.length d, .bool s.M.bad, .slice AC s.C.length cC, .slice A8 (s.L.length + 1) c8])) w' := fun w' hT => by
      have h9 := BS.out
      have h8 := HW2.out
      have hb8 : Below w.heap.size w w8 := h8.trans (t8.to_below h8.size (fun g hg => by omega))
      have hb' : Below w.heap.size w w' := hb8.trans (hT.to_below hb8.size (fun g hg => by omega))
      have h7 := own_turn ho8 hT (fun g hg hp => by have h6 := (ho8.lt g hg).1; omega)
      have e1 : (s.L.map evCells).flatten ++ [.int .i64 (k : Int), .int .i64 kind, .int .i64 a, .int .i64 b, .int .i64 z] = ((s.L ++ [(⟨k, kind, a, b, z⟩ : Evt)]).map evCells).flatten := by simp [evCells]
      rw [e1] at h7
      have e2 : s.L.length + 1 = (s.L ++ [(⟨k, kind, a, b, z⟩ : Evt)]).length := by simp
      rw [e2] at h7
      obtain ⟨A9, c9, e9, r9⟩ := ev_told h7
      obtain ⟨rfl, rfl⟩ : A8 = A9 ∧ c8 = c9 := by simpa using e9
      refine ⟨A, B, AC, A8, c, d, cC, c8, ?_, hW.step hb', hG.step hb', hC.step hb', r9, hb'⟩
      simp [syLog]
    exact key _ (turn5 _ _ _ _ _ _ _)
end Go.Proofs.Ytpagekhgeahmaaa
