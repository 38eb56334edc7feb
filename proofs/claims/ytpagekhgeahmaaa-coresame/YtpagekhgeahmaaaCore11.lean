/- Contracts of the document's answers for layer 3: the last frame is taken away, or changed. -/
import Derived.Test.YtpagekhgeahmaaaCore10
import Derived.Test.YtpagekhgeahmaaaCore9
import Derived.Test.YtpagekhgeahmaaaNoInt
namespace Go.Proofs.Ytpagekhgeahmaaa
open Go.RowKit
set_option linter.unusedVariables false
set_option linter.unusedSimpArgs false


set_option maxRecDepth 100000 in
set_option maxHeartbeats 8000000 in
theorem rback_out (A B AC AL : Option Addr) (c d cC cL : Nat) (s : Sy) (i z er : Int) (hi : i < 0 ∨ (s.C.length : Int) ≤ i) (w : World) (hW : Row w A s.M.W) (hG : Row w B s.M.G) (hC : RowC w AC s.C) (hL : RowE w AL s.L) (h2 : s.C.length ≤ 1000000) :
    Calls Try.prog 33 #[.agg #[.slice A s.M.W.length c, .slice B s.M.G.length d, .bool s.M.bad, .slice AC s.C.length cC, .slice AL s.L.length cL], .int .i64 i, .int .i64 z, .int .i64 er] w (RetSys w s) := by
  obtain ⟨b1, b2, bs⟩ := heap2 w (.cells #[.slice A s.M.W.length c, .slice B s.M.G.length d, .bool s.M.bad, .slice AC s.C.length cC, .slice AL s.L.length cL] 28) (.cells #[.slice none 0 0, .slice none 0 0, .bool false, .slice none 0 0, .slice none 0 0] 28)
  have hb : Below w.heap.size w ((w.alloc (.cells #[.slice A s.M.W.length c, .slice B s.M.G.length d, .bool s.M.bad, .slice AC s.C.length cC, .slice AL s.L.length cL] 28)).alloc (.cells #[.slice none 0 0, .slice none 0 0, .bool false, .slice none 0 0, .slice none 0 0] 28)) := bstep (boxed _ _) (boxed _ _)
  go_enter Try.func33, Try.ntmps33
  go_wp2_with fail
  generalize ((w.alloc (.cells #[.slice A s.M.W.length c, .slice B s.M.G.length d, .bool s.M.bad, .slice AC s.C.length cC, .slice AL s.L.length cL] 28)).alloc (.cells #[.slice none 0 0, .slice none 0 0, .bool false, .slice none 0 0, .slice none 0 0] 28)) = w2 at *
  refine (rtop_out _ _ _ _ _ _ _ _ s i _ h2 hi).mono ?_
  rintro e w3 ⟨rfl, hk⟩
  replace b1 := (hk.block w.heap.size (by omega)).trans b1
  replace b2 := (hk.block (w.heap.size + 1) (by omega)).trans b2
  replace hb := bstep hb hk
  have hz : w.heap.size + 1 < w3.heap.size := by have := hk.size; omega
  have hz0 : w.heap.size < w3.heap.size := by omega
  clear hk bs
  go_upto_region 2 with (fail)
  replace b1 := (Below.heap_alloc w3 (.cells #[.int .i64 0, .int .i64 0, .int .i64 0, .int .i64 0, .int .i64 0, .int .i64 0, .int .i64 0, .int .i64 0, .int .i64 0, .int .i64 0, .slice none 0 0] 42) _ hz0).trans b1
  replace b2 := (Below.heap_alloc w3 (.cells #[.int .i64 0, .int .i64 0, .int .i64 0, .int .i64 0, .int .i64 0, .int .i64 0, .int .i64 0, .int .i64 0, .int .i64 0, .int .i64 0, .slice none 0 0] 42) _ hz).trans b2
  replace hb := bstep hb (boxed w3 (.cells #[.int .i64 0, .int .i64 0, .int .i64 0, .int .i64 0, .int .i64 0, .int .i64 0, .int .i64 0, .int .i64 0, .int .i64 0, .int .i64 0, .slice none 0 0] 42))
  have s4 : w3.heap.size < (w3.alloc (.cells #[.int .i64 0, .int .i64 0, .int .i64 0, .int .i64 0, .int .i64 0, .int .i64 0, .int .i64 0, .int .i64 0, .int .i64 0, .int .i64 0, .slice none 0 0] 42)).heap.size := by simp
  generalize (w3.alloc (.cells #[.int .i64 0, .int .i64 0, .int .i64 0, .int .i64 0, .int .i64 0, .int .i64 0, .int .i64 0, .int .i64 0, .int .i64 0, .int .i64 0, .slice none 0 0] 42)) = w4 at *
  have p0 : w4.cell? ⟨w.heap.size, 0, none⟩ = some (.slice A s.M.W.length c) := cell_of_row w4 _ 0 _ _ _ b1
  have p1 : w4.cell? ⟨w.heap.size, 1, none⟩ = some (.slice B s.M.G.length d) := cell_of_row w4 _ 1 _ _ _ b1
  have p2 : w4.cell? ⟨w.heap.size, 2, none⟩ = some (.bool s.M.bad) := cell_of_row w4 _ 2 _ _ _ b1
  have p3 : w4.cell? ⟨w.heap.size, 3, none⟩ = some (.slice AC s.C.length cC) := cell_of_row w4 _ 3 _ _ _ b1
  have p4 : w4.cell? ⟨w.heap.size, 4, none⟩ = some (.slice AL s.L.length cL) := cell_of_row w4 _ 4 _ _ _ b1
  have q0 : w4.cell? ⟨w.heap.size + 1, 0, none⟩ = some (.slice none 0 0) := cell_of_row w4 _ 0 _ _ _ b2
  have q1 : w4.cell? ⟨w.heap.size + 1, 1, none⟩ = some (.slice none 0 0) := cell_of_row w4 _ 1 _ _ _ b2
  have q2 : w4.cell? ⟨w.heap.size + 1, 2, none⟩ = some (.bool false) := cell_of_row w4 _ 2 _ _ _ b2
  have q3 : w4.cell? ⟨w.heap.size + 1, 3, none⟩ = some (.slice none 0 0) := cell_of_row w4 _ 3 _ _ _ b2
  have q4 : w4.cell? ⟨w.heap.size + 1, 4, none⟩ = some (.slice none 0 0) := cell_of_row w4 _ 4 _ _ _ b2
  have qf0 : w4.frozen? ⟨w.heap.size + 1, 0, none⟩ = false := frozen_of_row w4 _ 0 _ _ b2
  have qf1 : w4.frozen? ⟨w.heap.size + 1, 1, none⟩ = false := frozen_of_row w4 _ 1 _ _ b2
  have qf2 : w4.frozen? ⟨w.heap.size + 1, 2, none⟩ = false := frozen_of_row w4 _ 2 _ _ b2
  have qf3 : w4.frozen? ⟨w.heap.size + 1, 3, none⟩ = false := frozen_of_row w4 _ 3 _ _ b2
  have qf4 : w4.frozen? ⟨w.heap.size + 1, 4, none⟩ = false := frozen_of_row w4 _ 4 _ _ b2
  clear b1 b2
  go_wp2
  refine bodyPost_ret (v := .agg #[.slice A s.M.W.length c, .slice B s.M.G.length d, .bool s.M.bad, .slice AC s.C.length cC, .slice AL s.L.length cL]) (by simp [results, Try.results33, go_sem, q0, q1, q2, q3, q4]) rfl ?_
  have key : ∀ w', Turn (fun b => b = w.heap.size + 1) w4 w' → RetSys w s (.returned (.agg #[.slice A s.M.W.length c, .slice B s.M.G.length d, .bool s.M.bad, .slice AC s.C.length cC, .slice AL s.L.length cL])) w' := fun w' hT => by
    have hb' : Below w.heap.size w w' := hb.trans (hT.to_below hb.size (fun g hg => by omega))
    exact ⟨A, B, AC, AL, c, d, cC, cL, rfl, hW.step hb', hG.step hb', hC.step hb', hL.step hb', hb'⟩
  exact key _ (turn5 _ _ _ _ _ _ _)

set_option maxRecDepth 100000 in
set_option maxHeartbeats 8000000 in
theorem rback_none (A B AC AL : Option Addr) (c d cC cL : Nat) (s : Sy) (k : Nat) (x : Co) (z er : Int) (hx : s.C[k]? = some x) (hF : x.F.length = 0) (w : World) (hW : Row w A s.M.W) (hG : Row w B s.M.G) (hC : RowC w AC s.C) (hL : RowE w AL s.L) (h2 : s.C.length ≤ 1000000) :
    Calls Try.prog 33 #[.agg #[.slice A s.M.W.length c, .slice B s.M.G.length d, .bool s.M.bad, .slice AC s.C.length cC, .slice AL s.L.length cL], .int .i64 k, .int .i64 z, .int .i64 er] w (RetSys w s) := by
  obtain ⟨b1, b2, bs⟩ := heap2 w (.cells #[.slice A s.M.W.length c, .slice B s.M.G.length d, .bool s.M.bad, .slice AC s.C.length cC, .slice AL s.L.length cL] 28) (.cells #[.slice none 0 0, .slice none 0 0, .bool false, .slice none 0 0, .slice none 0 0] 28)
  have hb : Below w.heap.size w ((w.alloc (.cells #[.slice A s.M.W.length c, .slice B s.M.G.length d, .bool s.M.bad, .slice AC s.C.length cC, .slice AL s.L.length cL] 28)).alloc (.cells #[.slice none 0 0, .slice none 0 0, .bool false, .slice none 0 0, .slice none 0 0] 28)) := bstep (boxed _ _) (boxed _ _)
  go_enter Try.func33, Try.ntmps33
  go_wp2_with fail
  generalize ((w.alloc (.cells #[.slice A s.M.W.length c, .slice B s.M.G.length d, .bool s.M.bad, .slice AC s.C.length cC, .slice AL s.L.length cL] 28)).alloc (.cells #[.slice none 0 0, .slice none 0 0, .bool false, .slice none 0 0, .slice none 0 0] 28)) = w2 at *
  refine (rtop_none _ _ _ _ _ _ _ _ s k x _ (hC.step hb) h2 hx hF).mono ?_
  rintro e w3 ⟨rfl, hk⟩
  replace b1 := (hk.block w.heap.size (by omega)).trans b1
  replace b2 := (hk.block (w.heap.size + 1) (by omega)).trans b2
  replace hb := bstep hb hk
  have hz : w.heap.size + 1 < w3.heap.size := by have := hk.size; omega
  have hz0 : w.heap.size < w3.heap.size := by omega
  clear hk bs
  go_upto_region 2 with (fail)
  replace b1 := (Below.heap_alloc w3 (.cells #[.int .i64 0, .int .i64 0, .int .i64 0, .int .i64 0, .int .i64 0, .int .i64 0, .int .i64 0, .int .i64 0, .int .i64 0, .int .i64 0, .slice none 0 0] 42) _ hz0).trans b1
  replace b2 := (Below.heap_alloc w3 (.cells #[.int .i64 0, .int .i64 0, .int .i64 0, .int .i64 0, .int .i64 0, .int .i64 0, .int .i64 0, .int .i64 0, .int .i64 0, .int .i64 0, .slice none 0 0] 42) _ hz).trans b2
  replace hb := bstep hb (boxed w3 (.cells #[.int .i64 0, .int .i64 0, .int .i64 0, .int .i64 0, .int .i64 0, .int .i64 0, .int .i64 0, .int .i64 0, .int .i64 0, .int .i64 0, .slice none 0 0] 42))
  have s4 : w3.heap.size < (w3.alloc (.cells #[.int .i64 0, .int .i64 0, .int .i64 0, .int .i64 0, .int .i64 0, .int .i64 0, .int .i64 0, .int .i64 0, .int .i64 0, .int .i64 0, .slice none 0 0] 42)).heap.size := by simp
  generalize (w3.alloc (.cells #[.int .i64 0, .int .i64 0, .int .i64 0, .int .i64 0, .int .i64 0, .int .i64 0, .int .i64 0, .int .i64 0, .int .i64 0, .int .i64 0, .slice none 0 0] 42)) = w4 at *
  have p0 : w4.cell? ⟨w.heap.size, 0, none⟩ = some (.slice A s.M.W.length c) := cell_of_row w4 _ 0 _ _ _ b1
  have p1 : w4.cell? ⟨w.heap.size, 1, none⟩ = some (.slice B s.M.G.length d) := cell_of_row w4 _ 1 _ _ _ b1
  have p2 : w4.cell? ⟨w.heap.size, 2, none⟩ = some (.bool s.M.bad) := cell_of_row w4 _ 2 _ _ _ b1
  have p3 : w4.cell? ⟨w.heap.size, 3, none⟩ = some (.slice AC s.C.length cC) := cell_of_row w4 _ 3 _ _ _ b1
  have p4 : w4.cell? ⟨w.heap.size, 4, none⟩ = some (.slice AL s.L.length cL) := cell_of_row w4 _ 4 _ _ _ b1
  have q0 : w4.cell? ⟨w.heap.size + 1, 0, none⟩ = some (.slice none 0 0) := cell_of_row w4 _ 0 _ _ _ b2
  have q1 : w4.cell? ⟨w.heap.size + 1, 1, none⟩ = some (.slice none 0 0) := cell_of_row w4 _ 1 _ _ _ b2
  have q2 : w4.cell? ⟨w.heap.size + 1, 2, none⟩ = some (.bool false) := cell_of_row w4 _ 2 _ _ _ b2
  have q3 : w4.cell? ⟨w.heap.size + 1, 3, none⟩ = some (.slice none 0 0) := cell_of_row w4 _ 3 _ _ _ b2
  have q4 : w4.cell? ⟨w.heap.size + 1, 4, none⟩ = some (.slice none 0 0) := cell_of_row w4 _ 4 _ _ _ b2
  have qf0 : w4.frozen? ⟨w.heap.size + 1, 0, none⟩ = false := frozen_of_row w4 _ 0 _ _ b2
  have qf1 : w4.frozen? ⟨w.heap.size + 1, 1, none⟩ = false := frozen_of_row w4 _ 1 _ _ b2
  have qf2 : w4.frozen? ⟨w.heap.size + 1, 2, none⟩ = false := frozen_of_row w4 _ 2 _ _ b2
  have qf3 : w4.frozen? ⟨w.heap.size + 1, 3, none⟩ = false := frozen_of_row w4 _ 3 _ _ b2
  have qf4 : w4.frozen? ⟨w.heap.size + 1, 4, none⟩ = false := frozen_of_row w4 _ 4 _ _ b2
  clear b1 b2
  go_wp2
  refine bodyPost_ret (v := .agg #[.slice A s.M.W.length c, .slice B s.M.G.length d, .bool s.M.bad, .slice AC s.C.length cC, .slice AL s.L.length cL]) (by simp [results, Try.results33, go_sem, q0, q1, q2, q3, q4]) rfl ?_
  have key : ∀ w', Turn (fun b => b = w.heap.size + 1) w4 w' → RetSys w s (.returned (.agg #[.slice A s.M.W.length c, .slice B s.M.G.length d, .bool s.M.bad, .slice AC s.C.length cC, .slice AL s.L.length cL])) w' := fun w' hT => by
    have hb' : Below w.heap.size w w' := hb.trans (hT.to_below hb.size (fun g hg => by omega))
    exact ⟨A, B, AC, AL, c, d, cC, cL, rfl, hW.step hb', hG.step hb', hC.step hb', hL.step hb', hb'⟩
  exact key _ (turn5 _ _ _ _ _ _ _)

set_option maxRecDepth 100000 in
set_option maxHeartbeats 16000000 in
theorem rback_yes (A B AC AL : Option Addr) (c d cC cL : Nat) (s : Sy) (k n : Nat) (x : Co) (z er : Int) (hx : s.C[k]? = some x) (hn : x.F.length = n + 1) (h3 : n ≤ 999999) (w : World) (hW : Row w A s.M.W) (hG : Row w B s.M.G) (hC : RowC w AC s.C) (hL : RowE w AL s.L) (h2 : s.C.length ≤ 1000000) :
    Calls Try.prog 33 #[.agg #[.slice A s.M.W.length c, .slice B s.M.G.length d, .bool s.M.bad, .slice AC s.C.length cC, .slice AL s.L.length cL], .int .i64 k, .int .i64 z, .int .i64 er] w (RetSys w (syWith s k (coBack x n z er))) := by
  obtain ⟨s', hs'⟩ : ∃ s', s' = syWith s k (coBack x n z er) := ⟨_, rfl⟩
  rw [← hs']
  have HS' := hid hs'
  clear hs'
  have hkl : k < s.C.length := (List.getElem?_eq_some_iff.1 hx).1
  obtain ⟨b0, o0, eA, hbl0, hat0⟩ := hC (by omega)
  obtain ⟨AF, AR, cF, cR, hc0, rF, rR, hcF⟩ := (hat0 k x hx).cs4
  subst eA
  have kl : (k : Int) < (s.C.length : Int) := by omega
  have HX := hid hx
  obtain ⟨f0, hf0⟩ : ∃ f, x.F[n]? = some f := ⟨_, List.getElem?_eq_getElem (by omega)⟩
  obtain ⟨g0, of0, eF, hgl0, hatF⟩ := rF (by omega)
  have hf8 := (hatF n f0 hf0).1
  obtain ⟨op0, pc0, Q0, ys⟩ := f0
  dsimp only at hf8
  obtain ⟨q0, q1, q2, q3, q4, q5, q6, q7, rfl⟩ := fr8 hf8
  have hf := hf0
  clear hf0 hf8 hx hatF
  obtain ⟨b1, b2, bs⟩ := heap2 w (.cells #[.slice A s.M.W.length c, .slice B s.M.G.length d, .bool s.M.bad, .slice (some ⟨b0, o0, none⟩) s.C.length cC, .slice AL s.L.length cL] 28) (.cells #[.slice none 0 0, .slice none 0 0, .bool false, .slice none 0 0, .slice none 0 0] 28)
  have hb : Below w.heap.size w ((w.alloc (.cells #[.slice A s.M.W.length c, .slice B s.M.G.length d, .bool s.M.bad, .slice (some ⟨b0, o0, none⟩) s.C.length cC, .slice AL s.L.length cL] 28)).alloc (.cells #[.slice none 0 0, .slice none 0 0, .bool false, .slice none 0 0, .slice none 0 0] 28)) := bstep (boxed _ _) (boxed _ _)
  go_enter Try.func33, Try.ntmps33
  go_wp2_with fail
  generalize ((w.alloc (.cells #[.slice A s.M.W.length c, .slice B s.M.G.length d, .bool s.M.bad, .slice (some ⟨b0, o0, none⟩) s.C.length cC, .slice AL s.L.length cL] 28)).alloc (.cells #[.slice none 0 0, .slice none 0 0, .bool false, .slice none 0 0, .slice none 0 0] 28)) = w2 at *
  refine (rtop_yes _ _ _ _ _ _ _ _ s k n x op0 pc0 q0 q1 q2 q3 q4 q5 q6 q7 ys _ (hC.step hb) h2 HX.out hn (by omega) hf).mono ?_
  rintro e w3 ⟨AS0, cS0, rfl, rS0, hk⟩
  replace b1 := (hk.block w.heap.size (by omega)).trans b1
  replace b2 := (hk.block (w.heap.size + 1) (by omega)).trans b2
  replace hb := bstep hb hk
  have hz : w.heap.size + 1 < w3.heap.size := by have := hk.size; omega
  have hz0 : w.heap.size < w3.heap.size := by omega
  clear hk bs
  go_upto_region 2 with (fail)
  replace b1 := (Below.heap_alloc w3 (.cells #[.int .i64 op0, .int .i64 pc0, .int .i64 q0, .int .i64 q1, .int .i64 q2, .int .i64 q3, .int .i64 q4, .int .i64 q5, .int .i64 q6, .int .i64 q7, .slice AS0 ys.length cS0] 42) _ hz0).trans b1
  replace b2 := (Below.heap_alloc w3 (.cells #[.int .i64 op0, .int .i64 pc0, .int .i64 q0, .int .i64 q1, .int .i64 q2, .int .i64 q3, .int .i64 q4, .int .i64 q5, .int .i64 q6, .int .i64 q7, .slice AS0 ys.length cS0] 42) _ hz).trans b2
  replace hb := bstep hb (boxed w3 (.cells #[.int .i64 op0, .int .i64 pc0, .int .i64 q0, .int .i64 q1, .int .i64 q2, .int .i64 q3, .int .i64 q4, .int .i64 q5, .int .i64 q6, .int .i64 q7, .slice AS0 ys.length cS0] 42))
  have s4 : w3.heap.size < (w3.alloc (.cells #[.int .i64 op0, .int .i64 pc0, .int .i64 q0, .int .i64 q1, .int .i64 q2, .int .i64 q3, .int .i64 q4, .int .i64 q5, .int .i64 q6, .int .i64 q7, .slice AS0 ys.length cS0] 42)).heap.size := by simp
  generalize (w3.alloc (.cells #[.int .i64 op0, .int .i64 pc0, .int .i64 q0, .int .i64 q1, .int .i64 q2, .int .i64 q3, .int .i64 q4, .int .i64 q5, .int .i64 q6, .int .i64 q7, .slice AS0 ys.length cS0] 42)) = w4 at *
  have u0 : w4.cell? ⟨b0, o0 + k * 7, none⟩ = some (.slice AF x.F.length cF) := (hb.cell hbl0).trans (hc0 0 _ rfl)
  have u1 : w4.cell? ⟨b0, o0 + k * 7 + 1, none⟩ = some (.int .i64 x.v) := (hb.cell hbl0).trans (hc0 1 _ rfl)
  have u2 : w4.cell? ⟨b0, o0 + k * 7 + 2, none⟩ = some (.int .i64 x.e) := (hb.cell hbl0).trans (hc0 2 _ rfl)
  have u3 : w4.cell? ⟨b0, o0 + k * 7 + 3, none⟩ = some (.int .i64 x.x0) := (hb.cell hbl0).trans (hc0 3 _ rfl)
  have u4 : w4.cell? ⟨b0, o0 + k * 7 + 4, none⟩ = some (.int .i64 x.x1) := (hb.cell hbl0).trans (hc0 4 _ rfl)
  have u5 : w4.cell? ⟨b0, o0 + k * 7 + 5, none⟩ = some (.int .i64 x.x2) := (hb.cell hbl0).trans (hc0 5 _ rfl)
  have u6 : w4.cell? ⟨b0, o0 + k * 7 + 6, none⟩ = some (.slice AR x.ret.length cR) := (hb.cell hbl0).trans (hc0 6 _ rfl)
  have p0 : w4.cell? ⟨w.heap.size, 0, none⟩ = some (.slice A s.M.W.length c) := cell_of_row w4 _ 0 _ _ _ b1
  have p1 : w4.cell? ⟨w.heap.size, 1, none⟩ = some (.slice B s.M.G.length d) := cell_of_row w4 _ 1 _ _ _ b1
  have p2 : w4.cell? ⟨w.heap.size, 2, none⟩ = some (.bool s.M.bad) := cell_of_row w4 _ 2 _ _ _ b1
  have p3 : w4.cell? ⟨w.heap.size, 3, none⟩ = some (.slice (some ⟨b0, o0, none⟩) s.C.length cC) := cell_of_row w4 _ 3 _ _ _ b1
  have p4 : w4.cell? ⟨w.heap.size, 4, none⟩ = some (.slice AL s.L.length cL) := cell_of_row w4 _ 4 _ _ _ b1
  have z4 : w.heap.size + 1 < w4.heap.size := by omega
  have z40 : w.heap.size < w4.heap.size := by omega
  clear s4 hz hz0 rS0
  have hcap : n ≤ cF := by omega
  have nl : (n : Int) ≤ (cF : Int) := by omega
  have hn2 : ((x.F.length : Int) - 1) = (n : Int) := by omega
  subst eF
  go_wp2_with fail
  have hb5 := bstep hb (boxed w4 (.cells #[.slice (some ⟨g0, of0, none⟩) n cF, .int .i64 z, .int .i64 er, .int .i64 x.x0, .int .i64 x.x1, .int .i64 x.x2, .slice AR x.ret.length cR] 65))
  clear hn2 u0 u1 u2 u3 u4 u5 u6 p0 p1 p2 p3 p4
  skip
  have hlen : (coBack x n z er).F.length = n := by simp [coBack]; omega
  have RW := rwith_any A B (some ⟨b0, o0, none⟩) AL c d cC cL s k (some ⟨g0, of0, none⟩) AR cF cR (coBack x n z er) (w4.alloc (.cells #[.slice (some ⟨g0, of0, none⟩) n cF, .int .i64 z, .int .i64 er, .int .i64 x.x0, .int .i64 x.x1, .int .i64 x.x2, .slice AR x.ret.length cR] 65)) (hW.step hb5) (hG.step hb5) (hC.step hb5) (hL.step hb5) h2 ((rF.take n).step hb5) (rR.step hb5) hkl (by simp [coBack]; omega)
  rw [hlen, ← HS'.out] at RW
  refine RW.mono ?_
  rintro e w6 ⟨A1, B1, C1, L1, c1, d1, cc1, cl1, rfl, rW, rG, rC, rL, hk6⟩
  have b6 := (hk6.block (w.heap.size + 1) (by simp; omega)).trans ((Below.heap_alloc w4 _ _ z4).trans b2)
  have hb6 := bstep hb5 hk6
  clear RW hk6
  have q0 : w6.cell? ⟨w.heap.size + 1, 0, none⟩ = some (.slice none 0 0) := cell_of_row w6 _ 0 _ _ _ b6
  have q1 : w6.cell? ⟨w.heap.size + 1, 1, none⟩ = some (.slice none 0 0) := cell_of_row w6 _ 1 _ _ _ b6
  have q2 : w6.cell? ⟨w.heap.size + 1, 2, none⟩ = some (.bool false) := cell_of_row w6 _ 2 _ _ _ b6
  have q3 : w6.cell? ⟨w.heap.size + 1, 3, none⟩ = some (.slice none 0 0) := cell_of_row w6 _ 3 _ _ _ b6
  have q4 : w6.cell? ⟨w.heap.size + 1, 4, none⟩ = some (.slice none 0 0) := cell_of_row w6 _ 4 _ _ _ b6
  have qf0 : w6.frozen? ⟨w.heap.size + 1, 0, none⟩ = false := frozen_of_row w6 _ 0 _ _ b6
  have qf1 : w6.frozen? ⟨w.heap.size + 1, 1, none⟩ = false := frozen_of_row w6 _ 1 _ _ b6
  have qf2 : w6.frozen? ⟨w.heap.size + 1, 2, none⟩ = false := frozen_of_row w6 _ 2 _ _ b6
  have qf3 : w6.frozen? ⟨w.heap.size + 1, 3, none⟩ = false := frozen_of_row w6 _ 3 _ _ b6
  have qf4 : w6.frozen? ⟨w.heap.size + 1, 4, none⟩ = false := frozen_of_row w6 _ 4 _ _ b6
  have NI := noInt_sys b6
  go_wp2
  refine bodyPost_ret (v := .agg #[.slice A1 s'.M.W.length c1, .slice B1 s'.M.G.length d1, .bool s'.M.bad, .slice C1 s'.C.length cc1, .slice L1 s'.L.length cl1]) (by simp [results, Try.results33, go_sem, q0, q1, q2, q3, q4]) rfl ?_
  exact ret_store rW rG rC rL (turn5 _ _ _ _ _ _ _) NI (hb6.trans ((turn5 _ _ _ _ _ _ _).to_below hb6.size (fun g hg => by omega)))
end Go.Proofs.Ytpagekhgeahmaaa
