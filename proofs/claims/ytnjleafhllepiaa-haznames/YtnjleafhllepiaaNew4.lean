/- Contract: a system of so many cores on a filled arena, by the document. -/
import Derived.Test.YtnjleafhllepiaaKSho
import Derived.Test.YtnjleafhllepiaaKFil
import Derived.Test.YtnjleafhllepiaaKStA
namespace Go.Proofs.Ytnjleafhllepiaa
open Go.RowKit
set_option linter.unusedVariables false
set_option linter.unusedSimpArgs false

def syFill (k n : Nat) : Sy := syMem (syNew k n) (pFill (syNew k n).M)
set_option maxRecDepth 100000 in
set_option maxHeartbeats 4000000 in
theorem rnew4_any (k n : Nat) (w : World) (h1 : 1 ≤ n) (h2 : n ≤ 200) (h3 : 1 ≤ k) (h4 : k ≤ 8) : Calls Try.prog 14 #[.int .i64 (k : Int), .int .i64 (n : Int)] w (RetSys w (syFill k n)) := by
  obtain ⟨s0, hs0⟩ : ∃ s, s = syNew k n := ⟨_, rfl⟩
  obtain ⟨s1, hs1⟩ : ∃ s, s = syFill k n := ⟨_, rfl⟩
  have HN := hid (show ∀ w, Calls Try.prog 39 #[.int .i64 (k : Int), .int .i64 (n : Int)] w (RetSys2 w s0 (.int .i64 0)) from fun w => by rw [hs0]; exact rsnew_yes k n w h1 h2 h3 h4)
  have HF := hid (show ∀ (A B : Option Addr) (a b : Nat) (w : World), Row w A s0.M.W → Row w B s0.M.G → Calls Try.prog 41 #[.agg #[.slice A s0.M.W.length a, .slice B s0.M.G.length b, .bool s0.M.bad]] w (RetMem w s1.M) from fun A B a b w k1 k2 => by have h9 := rfill_any A B a b s0.M w k1 k2 (by rw [hs0]; simp [syNew, mNew]; omega) (by rw [hs0]; simp [syNew, mNew]; omega) (by rw [hs0]; simp [syNew, mNew]; omega); rw [hs1]; rw [hs0] at h9 ⊢; exact h9)
  have HM := hid (show ∀ (A B C L A2 B2 : Option Addr) (a b c d a2 b2 : Nat) (w : World), RS w s0 A B C L → Row w A2 s1.M.W → Row w B2 s1.M.G → Calls Try.prog 40 #[.agg #[.slice A s0.M.W.length a, .slice B s0.M.G.length b, .bool s0.M.bad, .slice C s0.C.length c, .slice L s0.L.length d], .agg #[.slice A2 s1.M.W.length a2, .slice B2 s1.M.G.length b2, .bool s1.M.bad]] w fun e w' => e = .returned (.agg #[.slice A2 s1.M.W.length a2, .slice B2 s1.M.G.length b2, .bool s1.M.bad, .slice C s1.C.length c, .slice L s1.L.length d]) ∧ RS w' s1 A2 B2 C L ∧ Below w.heap.size w w' from fun A B C L A2 B2 a b c d a2 b2 w k1 k2 k3 => by have h9 := rmem3_any A B C L A2 B2 a b c d a2 b2 s0 s1.M w k1 k2 k3; have e9 : syMem s0 s1.M = s1 := (by rw [hs0, hs1]; rfl); rw [e9] at h9; have e8 : s0.C = s1.C := (by rw [hs0, hs1]; rfl); have e7 : s0.L = s1.L := (by rw [hs0, hs1]; rfl); rw [e8, e7] at h9 ⊢; exact h9)
  rw [← hs1]
  clear hs0 hs1
  have bR := heap_alloc_new w (.cells #[.slice none 0 0, .slice none 0 0, .bool false, .slice none 0 0, .slice none 0 0] 28)
  have hb : Below w.heap.size w (w.alloc (.cells #[.slice none 0 0, .slice none 0 0, .bool false, .slice none 0 0, .slice none 0 0] 28)) := boxed _ _
  have z0 : w.heap.size < (w.alloc (.cells #[.slice none 0 0, .slice none 0 0, .bool false, .slice none 0 0, .slice none 0 0] 28)).heap.size := by simp
  go_enter Try.func14, Try.ntmps14
  go_upto_region 1 with (fail)
  generalize w.alloc (.cells #[.slice none 0 0, .slice none 0 0, .bool false, .slice none 0 0, .slice none 0 0] 28) = w1 at *
  go_upto_region 2 with (go_at_call 39; (with_reducible refine (HN.out _).mono ?_); rintro e w2 ⟨A0, B0, C0, L0, a0, b0, c0, d0, rfl, rW, rG, rC, rL, hk⟩)
  have S0 : RS w2 s0 A0 B0 C0 L0 := ⟨rW, rG, rC, rL⟩
  have hj : Below w1.heap.size w1 (w2.alloc (.cells #[.slice A0 s0.M.W.length a0, .slice B0 s0.M.G.length b0, .bool s0.M.bad, .slice C0 s0.C.length c0, .slice L0 s0.L.length d0] 28)) := bstep hk (boxed _ _)
  have Bk := heap_alloc_new w2 (.cells #[.slice A0 s0.M.W.length a0, .slice B0 s0.M.G.length b0, .bool s0.M.bad, .slice C0 s0.C.length c0, .slice L0 s0.L.length d0] 28)
  replace S0 := S0.step (boxed w2 (.cells #[.slice A0 s0.M.W.length a0, .slice B0 s0.M.G.length b0, .bool s0.M.bad, .slice C0 s0.C.length c0, .slice L0 s0.L.length d0] 28))
  replace bR := (hj.block w.heap.size z0).trans bR
  replace hb := bstep hb hj
  replace z0 := Nat.lt_of_lt_of_le z0 hj.size
  have lt0 : w2.heap.size < (w2.alloc (.cells #[.slice A0 s0.M.W.length a0, .slice B0 s0.M.G.length b0, .bool s0.M.bad, .slice C0 s0.C.length c0, .slice L0 s0.L.length d0] 28)).heap.size := by simp
  clear hj hk rW rG rC rL
  obtain ⟨v0, hv⟩ : ∃ v, w2.heap.size = v := ⟨_, rfl⟩
  rw [hv] at Bk lt0 ⊢
  clear hv
  generalize w2.alloc (.cells #[.slice A0 s0.M.W.length a0, .slice B0 s0.M.G.length b0, .bool s0.M.bad, .slice C0 s0.C.length c0, .slice L0 s0.L.length d0] 28) = w3 at *
  have m0 : w3.cell? ⟨v0, 0, none⟩ = some (.slice A0 s0.M.W.length a0) := cell_of_row w3 _ 0 _ _ _ Bk
  have m1 : w3.cell? ⟨v0, 1, none⟩ = some (.slice B0 s0.M.G.length b0) := cell_of_row w3 _ 1 _ _ _ Bk
  have m2 : w3.cell? ⟨v0, 2, none⟩ = some (.bool s0.M.bad) := cell_of_row w3 _ 2 _ _ _ Bk
  have m3 : w3.cell? ⟨v0, 3, none⟩ = some (.slice C0 s0.C.length c0) := cell_of_row w3 _ 3 _ _ _ Bk
  have m4 : w3.cell? ⟨v0, 4, none⟩ = some (.slice L0 s0.L.length d0) := cell_of_row w3 _ 4 _ _ _ Bk
  go_upto_region 4 with (fail)
  go_region_with (first | (go_at_call 41; (with_reducible refine (HF.out A0 B0 a0 b0 _ (S0.W.step ((Below.refl _ _).drew)) (S0.G.step ((Below.refl _ _).drew))).mono ?_); rintro e w4 ⟨A1, B1, a1, b1, rfl, r1, r2, hk4⟩; have hj4 : Below w3.heap.size w3 w4 := bstep ((Below.refl _ _).drew) hk4; have K4 := (hj4.block v0 lt0).trans Bk; have u0 : w4.cell? ⟨v0, 0, none⟩ = some (.slice A0 s0.M.W.length a0) := cell_of_row w4 _ 0 _ _ _ K4; have u1 : w4.cell? ⟨v0, 1, none⟩ = some (.slice B0 s0.M.G.length b0) := cell_of_row w4 _ 1 _ _ _ K4; have u2 : w4.cell? ⟨v0, 2, none⟩ = some (.bool s0.M.bad) := cell_of_row w4 _ 2 _ _ _ K4; have u3 : w4.cell? ⟨v0, 3, none⟩ = some (.slice C0 s0.C.length c0) := cell_of_row w4 _ 3 _ _ _ K4; have u4 : w4.cell? ⟨v0, 4, none⟩ = some (.slice L0 s0.L.length d0) := cell_of_row w4 _ 4 _ _ _ K4) | (go_at_call 40; (with_reducible refine (HM.out A0 B0 C0 L0 A1 B1 a0 b0 c0 d0 a1 b1 _ (S0.step hj4) r1 r2).mono ?_); rintro e w5 ⟨rfl, S5, hk5⟩; have kR := (hk5.block w.heap.size (Nat.lt_of_lt_of_le z0 hj4.size)).trans ((hj4.block w.heap.size z0).trans bR); have kb := bstep hb (bstep hj4 hk5); have q0 : w5.cell? ⟨w.heap.size, 0, none⟩ = some (.slice none 0 0) := cell_of_row w5 _ 0 _ _ _ kR; have q1 : w5.cell? ⟨w.heap.size, 1, none⟩ = some (.slice none 0 0) := cell_of_row w5 _ 1 _ _ _ kR; have q2 : w5.cell? ⟨w.heap.size, 2, none⟩ = some (.bool false) := cell_of_row w5 _ 2 _ _ _ kR; have q3 : w5.cell? ⟨w.heap.size, 3, none⟩ = some (.slice none 0 0) := cell_of_row w5 _ 3 _ _ _ kR; have q4 : w5.cell? ⟨w.heap.size, 4, none⟩ = some (.slice none 0 0) := cell_of_row w5 _ 4 _ _ _ kR; have qf0 : w5.frozen? ⟨w.heap.size, 0, none⟩ = false := frozen_of_row w5 _ 0 _ _ kR; have qf1 : w5.frozen? ⟨w.heap.size, 1, none⟩ = false := frozen_of_row w5 _ 1 _ _ kR; have qf2 : w5.frozen? ⟨w.heap.size, 2, none⟩ = false := frozen_of_row w5 _ 2 _ _ kR; have qf3 : w5.frozen? ⟨w.heap.size, 3, none⟩ = false := frozen_of_row w5 _ 3 _ _ kR; have qf4 : w5.frozen? ⟨w.heap.size, 4, none⟩ = false := frozen_of_row w5 _ 4 _ _ kR))
  all_goals go_wp2_with fail
  all_goals
    refine bodyPost_ret (v := .agg #[.slice A1 s1.M.W.length a1, .slice B1 s1.M.G.length b1, .bool s1.M.bad, .slice C0 s1.C.length c0, .slice L0 s1.L.length d0]) (by simp [results, Try.results14, go_sem, q0, q1, q2, q3, q4]) rfl ?_
    exact ret_resV (Nat.le_refl _) kR kb S5.W S5.G S5.C S5.L
end Go.Proofs.Ytnjleafhllepiaa
