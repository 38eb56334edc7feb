/- A variable that holds a system, stored anew. No Go text but types. -/
import Derived.Test.YtlknpmdmnekedaaStk9
import Derived.Test.YtlknpmdmnekedaaKFil
import Derived.Test.YtlknpmdmnekedaaKWal

namespace Go.Proofs.Ytlknpmdmnekedaa
open Go.RowKit
set_option linter.unusedVariables false

theorem RS.turnN {w w' : World} {s : Sy} {A B C L : Option Addr} {b : Nat} (h : RS w s A B C L) (t : Turn (fun x => x = b) w w') (hn : NoInt w b) : RS w' s A B C L := ⟨h.W.turnN t hn, h.G.turnN t hn, h.C.turnN t hn, h.L.turnN t hn⟩
/-- A variable (block v) holds a system. -/
def VS (w : World) (v : Nat) (s : Sy) (A B C L : Option Addr) (a b c d : Nat) : Prop := w.heap[v]? = some (.cells #[.slice A s.M.W.length a, .slice B s.M.G.length b, .bool s.M.bad, .slice C s.C.length c, .slice L s.L.length d] 30 (0, 0))
theorem blk5 {w : World} {v T : Nat} {y0 y1 y2 y3 y4 : Value} (h : w.heap[v]? = some (.cells #[y0, y1, y2, y3, y4] T (0, 0))) (x0 x1 x2 x3 x4 : Value) :
    (((((w.setCell ⟨v, 0, none⟩ x0).setCell ⟨v, 1, none⟩ x1).setCell ⟨v, 2, none⟩ x2).setCell ⟨v, 3, none⟩ x3).setCell ⟨v, 4, none⟩ x4).heap[v]? = some (.cells #[x0, x1, x2, x3, x4] T (0, 0)) := by
  have e1 := heap_setCell_same w v 0 _ _ x0 h
  have e2 := heap_setCell_same _ v 1 _ _ x1 e1
  have e3 := heap_setCell_same _ v 2 _ _ x2 e2
  have e4 := heap_setCell_same _ v 3 _ _ x3 e3
  exact heap_setCell_same _ v 4 _ _ x4 e4
theorem row_of_blk {w : World} {g T : Nat} {xs : List Int} (h : w.heap[g]? = some (.cells (xs.map (Value.int .i64)).toArray T (0, 0))) : Row w (some ⟨g, 0, none⟩) xs := fun _ => by
  refine ⟨g, 0, rfl, (Array.getElem?_eq_some_iff.1 h).1, fun j x hx => ?_⟩
  rw [Nat.zero_add, cell_of_row w g j _ _ _ h]
  simp [hx]
end Go.Proofs.Ytlknpmdmnekedaa

/- Contract: the document's example for layer 4. -/
namespace Go.Proofs.Ytlknpmdmnekedaa
open Go.RowKit
set_option linter.unusedVariables false
set_option linter.unusedSimpArgs false

def e4s : Sy := syMem (syNew 1 3) (pFill (syNew 1 3).M)
def e4t : Nat → Sy
  | 0 => pCall e4s 0 ⟨1, 0, [0, 0, 0, 0, 0, 0, 0, 0], []⟩
  | k + 1 => pStep (e4t k) 0
def wordsIn (m : Ar) : Prop := ∀ x ∈ m.W, -9223372036854775808 ≤ x ∧ x ≤ 9223372036854775807
theorem e4n_few : SyFew (syNew 1 3) := by unfold SyFew; decide +kernel
theorem e4s_few : SyFew e4s := by unfold SyFew; decide +kernel
theorem e4t_few : ∀ k, k < 4 → SyFew (e4t k) ∧ 2 ≤ (e4t k).M.G.length ∧ (e4t k).L.length ≤ 999998 := by unfold SyFew; decide +kernel
theorem e4s_walk : pWalk e4s.M = some [1, 2, 3] := by decide +kernel
theorem e4t_walk : pWalk (e4t 3).M = some [2, 3] := by decide +kernel
theorem e4s_in : wordsIn e4s.M := by unfold wordsIn; decide +kernel
theorem e4t_in : wordsIn (e4t 3).M := by unfold wordsIn; decide +kernel
theorem e4t_c : (e4t 3).C = [⟨[], 1, 0, 0, 0, 0, []⟩] := by decide +kernel

/-- What a round of the example begins with. -/
def E4 (w0 : World) (v : Nat) (A3 : Option Addr) (i : Value) (wr : World) : Prop :=
  ∃ (k : Nat) (A B C L : Option Addr) (a b c d : Nat), k ≤ 3 ∧ i = .int .i64 k ∧ wr.heap[v]? = some (.cells #[.slice A (e4t k).M.W.length a, .slice B (e4t k).M.G.length b, .bool (e4t k).M.bad, .slice C (e4t k).C.length c, .slice L (e4t k).L.length d] 30 (0, 0)) ∧ RS wr (e4t k) A B C L ∧ Row wr A3 [1, 2, 3] ∧ Below w0.heap.size w0 wr

set_option maxRecDepth 100000 in
set_option maxHeartbeats 8000000 in
theorem shown4_any (w0 : World) : Calls Try.prog 11 #[] w0 fun e w' => e = .returned (.bool true) ∧ Below w0.heap.size w0 w' := by
  have hb : Below w0.heap.size w0 w0 := Below.refl _ _
  obtain ⟨s0, hs0⟩ : ∃ s, s = syNew 1 3 := ⟨_, rfl⟩
  obtain ⟨s1, hs1⟩ : ∃ s, s = e4s := ⟨_, rfl⟩
  have HN := hid (show ∀ w, Calls Try.prog 35 #[.int .i64 1, .int .i64 3] w (RetSys2 w s0 (.int .i64 0)) from fun w => by rw [hs0]; exact rsnew_yes 1 3 w (by omega) (by omega) (by omega) (by omega))
  have HF := hid (show ∀ (A B : Option Addr) (a b : Nat) (w : World), Row w A s0.M.W → Row w B s0.M.G → Calls Try.prog 37 #[.agg #[.slice A s0.M.W.length a, .slice B s0.M.G.length b, .bool s0.M.bad]] w (RetMem w s1.M) from fun A B a b w k1 k2 => by have h9 := fill_any A B a b s0.M w k1 k2 (by rw [hs0]; decide +kernel) (by rw [hs0]; decide +kernel) (by rw [hs0]; decide +kernel); rw [hs1]; rw [hs0] at h9 ⊢; exact h9)
  have HM := hid (show ∀ (A B C L A2 B2 : Option Addr) (a b c d a2 b2 : Nat) (w : World), RS w s0 A B C L → Row w A2 s1.M.W → Row w B2 s1.M.G → Calls Try.prog 36 #[.agg #[.slice A s0.M.W.length a, .slice B s0.M.G.length b, .bool s0.M.bad, .slice C s0.C.length c, .slice L s0.L.length d], .agg #[.slice A2 s1.M.W.length a2, .slice B2 s1.M.G.length b2, .bool s1.M.bad]] w fun e w' => e = .returned (.agg #[.slice A2 s1.M.W.length a2, .slice B2 s1.M.G.length b2, .bool s1.M.bad, .slice C s1.C.length c, .slice L s1.L.length d]) ∧ RS w' s1 A2 B2 C L ∧ Below w.heap.size w w' from fun A B C L A2 B2 a b c d a2 b2 w k1 k2 k3 => by have h9 := rmem3_any A B C L A2 B2 a b c d a2 b2 s0 s1.M w k1 k2 k3; have e9 : syMem s0 s1.M = s1 := (by rw [hs0, hs1]; rfl); rw [e9] at h9; have e8 : s0.C = s1.C := (by rw [hs0, hs1]; rfl); have e7 : s0.L = s1.L := (by rw [hs0, hs1]; rfl); rw [e8, e7] at h9 ⊢; exact h9)
  have HW1 := hid (show ∀ (A B : Option Addr) (a b : Nat) (w : World), Row w A s1.M.W → Row w B s1.M.G → Calls Try.prog 13 #[.agg #[.slice A s1.M.W.length a, .slice B s1.M.G.length b, .bool s1.M.bad]] w (RetInts w [1, 2, 3] true) from fun A B a b w k1 k2 => by have h9 := walk_any A B a b s1.M w k1 k2 (by rw [hs1]; exact (e4s_few).1) (by rw [hs1]; exact (e4s_few).2.1) (by rw [hs1]; decide +kernel) (by rw [hs1]; exact e4s_in); rw [hs1, e4s_walk] at h9; rw [hs1]; exact h9)
  obtain ⟨t3, ht3⟩ : ∃ s, s = e4t 3 := ⟨_, rfl⟩
  have HW2 := hid (show ∀ (A B : Option Addr) (a b : Nat) (w : World), Row w A t3.M.W → Row w B t3.M.G → Calls Try.prog 13 #[.agg #[.slice A t3.M.W.length a, .slice B t3.M.G.length b, .bool t3.M.bad]] w (RetInts w [2, 3] true) from fun A B a b w k1 k2 => by have h9 := walk_any A B a b t3.M w k1 k2 (by rw [ht3]; exact ((e4t_few 3 (by omega)).1).1) (by rw [ht3]; exact ((e4t_few 3 (by omega)).1).2.1) (by rw [ht3]; decide +kernel) (by rw [ht3]; exact e4t_in); rw [ht3, e4t_walk] at h9; rw [ht3]; exact h9)
  have HC := hid (show ∀ (A B C L : Option Addr) (a b c d : Nat) (w : World), RS w s1 A B C L → Calls Try.prog 16 #[.agg #[.slice A s1.M.W.length a, .slice B s1.M.G.length b, .bool s1.M.bad, .slice C s1.C.length c, .slice L s1.L.length d], .int .i64 0, .int .i64 1, .int .i64 0, .int .i64 0, .int .i64 0] w (RetSys w (e4t 0)) from fun A B C L a b c d w k1 => by have h9 := rcall_u A B C L a b c d s1 0 1 0 0 0 w (by rw [hs1]; exact e4s_few) k1; rw [hs1] at h9 ⊢; exact h9)
  have HS := hid (show ∀ (k : Nat) (A B C L : Option Addr) (a b c d : Nat) (w : World), k < 3 → RS w (e4t k) A B C L → Calls Try.prog 17 #[.agg #[.slice A (e4t k).M.W.length a, .slice B (e4t k).M.G.length b, .bool (e4t k).M.bad, .slice C (e4t k).C.length c, .slice L (e4t k).L.length d], .int .i64 0] w (RetSys w (e4t (k + 1))) from fun k A B C L a b c d w hk k1 => by have h8 := e4t_few k (by omega); exact step_any A B C L a b c d (e4t k) 0 w h8.1 h8.2.1 k1 h8.2.2)
  have HC3 := hid (show t3.C = [⟨[], 1, 0, 0, 0, 0, []⟩] by rw [ht3]; exact e4t_c)
  have HT3 := hid ht3
  clear hs0 hs1 ht3
  go_enter Try.func11, Try.ntmps11
  go_wp2_with fail
  refine (HN.out w0).mono ?_
  rintro e w1 ⟨A0, B0, C0, L0, a0, b0, c0, d0, rfl, rW, rG, rC, rL, hk⟩
  replace hb := bstep hb hk
  clear hk
  have S0 : RS w1 s0 A0 B0 C0 L0 := ⟨rW, rG, rC, rL⟩
  clear rW rG rC rL
  go_upto_region 2 with (fail)
  have Bk0 := heap_alloc_new w1 (.cells #[.slice A0 s0.M.W.length a0, .slice B0 s0.M.G.length b0, .bool s0.M.bad, .slice C0 s0.C.length c0, .slice L0 s0.L.length d0] 30)
  have lt0 : w1.heap.size < (w1.alloc (.cells #[.slice A0 s0.M.W.length a0, .slice B0 s0.M.G.length b0, .bool s0.M.bad, .slice C0 s0.C.length c0, .slice L0 s0.L.length d0] 30)).heap.size := by simp
  have hk : Below w1.heap.size w1 (w1.alloc (.cells #[.slice A0 s0.M.W.length a0, .slice B0 s0.M.G.length b0, .bool s0.M.bad, .slice C0 s0.C.length c0, .slice L0 s0.L.length d0] 30)) := boxed _ _
  have nw0 : w0.heap.size ≤ w1.heap.size := hb.size
  replace S0 := S0.step hk
  replace hb := bstep hb hk
  clear hk
  obtain ⟨v0, hv⟩ : ∃ v, w1.heap.size = v := ⟨_, rfl⟩
  replace nw0 := Nat.le_trans nw0 (Nat.le_of_eq hv)
  rw [hv] at Bk0 lt0 ⊢
  clear hv
  generalize (w1.alloc (.cells #[.slice A0 s0.M.W.length a0, .slice B0 s0.M.G.length b0, .bool s0.M.bad, .slice C0 s0.C.length c0, .slice L0 s0.L.length d0] 30)) = w2 at *
  have m0_0 : w2.cell? ⟨v0, 0, none⟩ = some (.slice A0 s0.M.W.length a0) := cell_of_row w2 _ 0 _ _ _ Bk0
  have m0_1 : w2.cell? ⟨v0, 1, none⟩ = some (.slice B0 s0.M.G.length b0) := cell_of_row w2 _ 1 _ _ _ Bk0
  have m0_2 : w2.cell? ⟨v0, 2, none⟩ = some (.bool s0.M.bad) := cell_of_row w2 _ 2 _ _ _ Bk0
  have m0_3 : w2.cell? ⟨v0, 3, none⟩ = some (.slice C0 s0.C.length c0) := cell_of_row w2 _ 3 _ _ _ Bk0
  have m0_4 : w2.cell? ⟨v0, 4, none⟩ = some (.slice L0 s0.L.length d0) := cell_of_row w2 _ 4 _ _ _ Bk0
  have m0_f0 : w2.frozen? ⟨v0, 0, none⟩ = false := frozen_of_row w2 _ 0 _ _ Bk0
  have m0_f1 : w2.frozen? ⟨v0, 1, none⟩ = false := frozen_of_row w2 _ 1 _ _ Bk0
  have m0_f2 : w2.frozen? ⟨v0, 2, none⟩ = false := frozen_of_row w2 _ 2 _ _ Bk0
  have m0_f3 : w2.frozen? ⟨v0, 3, none⟩ = false := frozen_of_row w2 _ 3 _ _ Bk0
  have m0_f4 : w2.frozen? ⟨v0, 4, none⟩ = false := frozen_of_row w2 _ 4 _ _ Bk0
  go_cut [1] from 13 (fun q wx => q = .pointer (some ⟨v0, 0, none⟩) ∧ ∃ (A1 B1 : Option Addr) (a1 b1 : Nat), wx.heap[v0]? = some (.cells #[.slice A1 s1.M.W.length a1, .slice B1 s1.M.G.length b1, .bool s1.M.bad, .slice C0 s1.C.length c0, .slice L0 s1.L.length d0] 30 (0, 0)) ∧ RS wx s1 A1 B1 C0 L0 ∧ Below w0.heap.size w0 wx)
  case first =>
    go_region_with (first | (go_at_call 37; (with_reducible refine (HF.out A0 B0 a0 b0 _ (S0.W.step ((Below.refl _ _).drew)) (S0.G.step ((Below.refl _ _).drew))).mono ?_); rintro e w3 ⟨A1, B1, a1, b1, rfl, r1, r2, hk3⟩; have hj3 : Below w2.heap.size w2 w3 := bstep ((Below.refl _ _).drew) hk3; have K3 := (hj3.block v0 lt0).trans Bk0; have u0 : w3.cell? ⟨v0, 0, none⟩ = some (.slice A0 s0.M.W.length a0) := cell_of_row w3 _ 0 _ _ _ K3; have u1 : w3.cell? ⟨v0, 1, none⟩ = some (.slice B0 s0.M.G.length b0) := cell_of_row w3 _ 1 _ _ _ K3; have u2 : w3.cell? ⟨v0, 2, none⟩ = some (.bool s0.M.bad) := cell_of_row w3 _ 2 _ _ _ K3; have u3 : w3.cell? ⟨v0, 3, none⟩ = some (.slice C0 s0.C.length c0) := cell_of_row w3 _ 3 _ _ _ K3; have u4 : w3.cell? ⟨v0, 4, none⟩ = some (.slice L0 s0.L.length d0) := cell_of_row w3 _ 4 _ _ _ K3) | (go_at_call 36; (with_reducible refine (HM.out A0 B0 C0 L0 A1 B1 a0 b0 c0 d0 a1 b1 _ (S0.step hj3) r1 r2).mono ?_); rintro e w4 ⟨rfl, S4, hk4⟩; have K4 := (hk4.block v0 (Nat.lt_of_lt_of_le lt0 hj3.size)).trans K3; have y0 : w4.cell? ⟨v0, 0, none⟩ = some (.slice A0 s0.M.W.length a0) := cell_of_row w4 _ 0 _ _ _ K4; have y1 : w4.cell? ⟨v0, 1, none⟩ = some (.slice B0 s0.M.G.length b0) := cell_of_row w4 _ 1 _ _ _ K4; have y2 : w4.cell? ⟨v0, 2, none⟩ = some (.bool s0.M.bad) := cell_of_row w4 _ 2 _ _ _ K4; have y3 : w4.cell? ⟨v0, 3, none⟩ = some (.slice C0 s0.C.length c0) := cell_of_row w4 _ 3 _ _ _ K4; have y4 : w4.cell? ⟨v0, 4, none⟩ = some (.slice L0 s0.L.length d0) := cell_of_row w4 _ 4 _ _ _ K4; have yf0 : w4.frozen? ⟨v0, 0, none⟩ = false := frozen_of_row w4 _ 0 _ _ K4; have yf1 : w4.frozen? ⟨v0, 1, none⟩ = false := frozen_of_row w4 _ 1 _ _ K4; have yf2 : w4.frozen? ⟨v0, 2, none⟩ = false := frozen_of_row w4 _ 2 _ _ K4; have yf3 : w4.frozen? ⟨v0, 3, none⟩ = false := frozen_of_row w4 _ 3 _ _ K4; have yf4 : w4.frozen? ⟨v0, 4, none⟩ = false := frozen_of_row w4 _ 4 _ _ K4))
    all_goals go_wp2_with fail
    all_goals go_meet
    all_goals exact ⟨rfl, A1, B1, a1, b1, blk5 K4 _ _ _ _ _, S4.turnN (turn5 _ _ _ _ _ _ _) (noInt_sys K4), (bstep hb (bstep hj3 hk4)).trans ((turn5 _ _ _ _ _ _ _).to_below (bstep hb (bstep hj3 hk4)).size (fun g hg => by rw [hg]; exact nw0))⟩
  case rest =>
    clear hb Bk0 lt0 S0 m0_0 m0_1 m0_2 m0_3 m0_4 m0_f0 m0_f1 m0_f2 m0_f3 m0_f4
    obtain ⟨rfl, A1, B1, a1, b1, Bk0, S1, hb⟩ := hcut
    have lt0 : v0 < wc.heap.size := (Array.getElem?_eq_some_iff.1 Bk0).1
    generalize wc = w5 at *
    have m0_0 : w5.cell? ⟨v0, 0, none⟩ = some (.slice A1 s1.M.W.length a1) := cell_of_row w5 _ 0 _ _ _ Bk0
    have m0_1 : w5.cell? ⟨v0, 1, none⟩ = some (.slice B1 s1.M.G.length b1) := cell_of_row w5 _ 1 _ _ _ Bk0
    have m0_2 : w5.cell? ⟨v0, 2, none⟩ = some (.bool s1.M.bad) := cell_of_row w5 _ 2 _ _ _ Bk0
    have m0_3 : w5.cell? ⟨v0, 3, none⟩ = some (.slice C0 s1.C.length c0) := cell_of_row w5 _ 3 _ _ _ Bk0
    have m0_4 : w5.cell? ⟨v0, 4, none⟩ = some (.slice L0 s1.L.length d0) := cell_of_row w5 _ 4 _ _ _ Bk0
    go_upto_region 4 with (go_at_call 13; (with_reducible refine (HW1.out A1 B1 a1 b1 _ S1.W S1.G).mono ?_); rintro e w6 ⟨A3, c3, rfl, r3, hk⟩)
    clear m0_0 m0_1 m0_2 m0_3 m0_4
    replace Bk0 := (hk.block v0 lt0).trans Bk0
    replace lt0 := Nat.lt_of_lt_of_le lt0 hk.size
    replace S1 := S1.step hk
    replace hb := bstep hb hk
    clear hk
    have m0_0 : w6.cell? ⟨v0, 0, none⟩ = some (.slice A1 s1.M.W.length a1) := cell_of_row w6 _ 0 _ _ _ Bk0
    have m0_1 : w6.cell? ⟨v0, 1, none⟩ = some (.slice B1 s1.M.G.length b1) := cell_of_row w6 _ 1 _ _ _ Bk0
    have m0_2 : w6.cell? ⟨v0, 2, none⟩ = some (.bool s1.M.bad) := cell_of_row w6 _ 2 _ _ _ Bk0
    have m0_3 : w6.cell? ⟨v0, 3, none⟩ = some (.slice C0 s1.C.length c0) := cell_of_row w6 _ 3 _ _ _ Bk0
    have m0_4 : w6.cell? ⟨v0, 4, none⟩ = some (.slice L0 s1.L.length d0) := cell_of_row w6 _ 4 _ _ _ Bk0
    go_wp2_with fail
    refine (HC.out A1 B1 C0 L0 a1 b1 c0 d0 _ S1).mono ?_
    rintro e w7 ⟨A5, B5, C5, L5, a5, b5, c5, d5, rfl, rW, rG, rC, rL, hk⟩
    clear m0_0 m0_1 m0_2 m0_3 m0_4
    replace Bk0 := (hk.block v0 lt0).trans Bk0
    replace lt0 := Nat.lt_of_lt_of_le lt0 hk.size
    replace S1 := S1.step hk
    replace r3 := r3.step hk
    replace hb := bstep hb hk
    clear hk
    have S5 : RS w7 (e4t 0) A5 B5 C5 L5 := ⟨rW, rG, rC, rL⟩
    clear rW rG rC rL
    go_upto_region 5 with (fail)
    have Bk5 := heap_alloc_new w7 (.cells #[.slice A5 (e4t 0).M.W.length a5, .slice B5 (e4t 0).M.G.length b5, .bool (e4t 0).M.bad, .slice C5 (e4t 0).C.length c5, .slice L5 (e4t 0).L.length d5] 30)
    have lt5 : w7.heap.size < (w7.alloc (.cells #[.slice A5 (e4t 0).M.W.length a5, .slice B5 (e4t 0).M.G.length b5, .bool (e4t 0).M.bad, .slice C5 (e4t 0).C.length c5, .slice L5 (e4t 0).L.length d5] 30)).heap.size := by simp
    have hk : Below w7.heap.size w7 (w7.alloc (.cells #[.slice A5 (e4t 0).M.W.length a5, .slice B5 (e4t 0).M.G.length b5, .bool (e4t 0).M.bad, .slice C5 (e4t 0).C.length c5, .slice L5 (e4t 0).L.length d5] 30)) := boxed _ _
    have nw5 : w0.heap.size ≤ w7.heap.size := hb.size
    replace Bk0 := (hk.block v0 lt0).trans Bk0
    replace lt0 := Nat.lt_of_lt_of_le lt0 hk.size
    replace S1 := S1.step hk
    replace r3 := r3.step hk
    replace S5 := S5.step hk
    replace hb := bstep hb hk
    clear hk
    obtain ⟨v5, hv⟩ : ∃ v, w7.heap.size = v := ⟨_, rfl⟩
    replace nw5 := Nat.le_trans nw5 (Nat.le_of_eq hv)
    rw [hv] at Bk5 lt5 ⊢
    clear hv
    generalize (w7.alloc (.cells #[.slice A5 (e4t 0).M.W.length a5, .slice B5 (e4t 0).M.G.length b5, .bool (e4t 0).M.bad, .slice C5 (e4t 0).C.length c5, .slice L5 (e4t 0).L.length d5] 30)) = w8 at *
    go_wp2_with fail
    go_loopw [6] (fun i wr => E4 w0 v5 A3 i wr) (fun i _ => 3 - (intOf i).toNat)
    case atStart => exact ⟨0, A5, B5, C5, L5, a5, b5, c5, d5, by omega, rfl, Bk5, S5, r3, hb⟩
    case round =>
      obtain ⟨k, A, B, C, L, a, b, c, d, hk3, rfl, kB, kS, kr, kb⟩ := hrel
      clear hb Bk0 lt0 Bk5 lt5 S1 S5 r3
      have lz : v5 < wr.heap.size := (Array.getElem?_eq_some_iff.1 kB).1
      by_cases hlt : k < 3
      · have p0 : wr.cell? ⟨v5, 0, none⟩ = some (.slice A (e4t k).M.W.length a) := cell_of_row wr _ 0 _ _ _ kB
        have p1 : wr.cell? ⟨v5, 1, none⟩ = some (.slice B (e4t k).M.G.length b) := cell_of_row wr _ 1 _ _ _ kB
        have p2 : wr.cell? ⟨v5, 2, none⟩ = some (.bool (e4t k).M.bad) := cell_of_row wr _ 2 _ _ _ kB
        have p3 : wr.cell? ⟨v5, 3, none⟩ = some (.slice C (e4t k).C.length c) := cell_of_row wr _ 3 _ _ _ kB
        have p4 : wr.cell? ⟨v5, 4, none⟩ = some (.slice L (e4t k).L.length d) := cell_of_row wr _ 4 _ _ _ kB
        have kl : (k : Int) < 3 := by omega
        go_wp2_with (go_at_call 17; (with_reducible refine (HS.out k A B C L a b c d _ hlt kS).mono ?_); rintro e w9 ⟨A9, B9, C9, L9, a9, b9, c9, d9, rfl, rW, rG, rC, rL, hk⟩; have K9 := (hk.block v5 lz).trans kB; have y0 : w9.cell? ⟨v5, 0, none⟩ = some (.slice A (e4t k).M.W.length a) := cell_of_row w9 _ 0 _ _ _ K9; have y1 : w9.cell? ⟨v5, 1, none⟩ = some (.slice B (e4t k).M.G.length b) := cell_of_row w9 _ 1 _ _ _ K9; have y2 : w9.cell? ⟨v5, 2, none⟩ = some (.bool (e4t k).M.bad) := cell_of_row w9 _ 2 _ _ _ K9; have y3 : w9.cell? ⟨v5, 3, none⟩ = some (.slice C (e4t k).C.length c) := cell_of_row w9 _ 3 _ _ _ K9; have y4 : w9.cell? ⟨v5, 4, none⟩ = some (.slice L (e4t k).L.length d) := cell_of_row w9 _ 4 _ _ _ K9; have yf0 : w9.frozen? ⟨v5, 0, none⟩ = false := frozen_of_row w9 _ 0 _ _ K9; have yf1 : w9.frozen? ⟨v5, 1, none⟩ = false := frozen_of_row w9 _ 1 _ _ K9; have yf2 : w9.frozen? ⟨v5, 2, none⟩ = false := frozen_of_row w9 _ 2 _ _ K9; have yf3 : w9.frozen? ⟨v5, 3, none⟩ = false := frozen_of_row w9 _ 3 _ _ K9; have yf4 : w9.frozen? ⟨v5, 4, none⟩ = false := frozen_of_row w9 _ 4 _ _ K9)
        have REL : E4 w0 v5 A3 (.int .i64 ((k + 1 : Nat) : Int)) ((((((w9.setCell ⟨v5, 0, none⟩ (.slice A9 (e4t (k + 1)).M.W.length a9)).setCell ⟨v5, 1, none⟩ (.slice B9 (e4t (k + 1)).M.G.length b9)).setCell ⟨v5, 2, none⟩ (.bool (e4t (k + 1)).M.bad)).setCell ⟨v5, 3, none⟩ (.slice C9 (e4t (k + 1)).C.length c9)).setCell ⟨v5, 4, none⟩ (.slice L9 (e4t (k + 1)).L.length d9))) := ⟨k + 1, A9, B9, C9, L9, a9, b9, c9, d9, by omega, rfl, blk5 K9 _ _ _ _ _, (RS.mk rW rG rC rL).turnN (turn5 _ _ _ _ _ _ _) (noInt_sys K9), (kr.step hk).turnN (turn5 _ _ _ _ _ _ _) (noInt_sys K9), (bstep kb hk).trans ((turn5 _ _ _ _ _ _ _).to_below (bstep kb hk).size (fun g hg => by rw [hg]; exact nw5))⟩
        go_roundw
        case rel => exact REL
        case measure => simp [intOf]; omega
      · have hk4 : k = 3 := by omega
        subst hk4
        rw [← HT3.out] at kB kS
        have p0 : wr.cell? ⟨v5, 0, none⟩ = some (.slice A t3.M.W.length a) := cell_of_row wr _ 0 _ _ _ kB
        have p1 : wr.cell? ⟨v5, 1, none⟩ = some (.slice B t3.M.G.length b) := cell_of_row wr _ 1 _ _ _ kB
        have p2 : wr.cell? ⟨v5, 2, none⟩ = some (.bool t3.M.bad) := cell_of_row wr _ 2 _ _ _ kB
        have p3 : wr.cell? ⟨v5, 3, none⟩ = some (.slice C t3.C.length c) := cell_of_row wr _ 3 _ _ _ kB
        have p4 : wr.cell? ⟨v5, 4, none⟩ = some (.slice L t3.L.length d) := cell_of_row wr _ 4 _ _ _ kB
        go_upto_region 10 with (go_at_call 13; (with_reducible refine (HW2.out A B a b _ kS.W kS.G).mono ?_); rintro e w9 ⟨A4, c4, rfl, r4, hk⟩)
        clear p0 p1 p2 p3 p4
        replace kB := (hk.block v5 lz).trans kB
        replace kS := kS.step hk
        replace kr := kr.step hk
        replace kb := bstep kb hk
        replace lz := Nat.lt_of_lt_of_le lz hk.size
        clear hk
        obtain ⟨bC, oC, eC, hbC, hatC⟩ := kS.C (by rw [HC3.out]; simp)
        obtain ⟨AFx, ARx, cFx, cRx, hcx, _, _⟩ := (hatC 0 _ (by rw [HC3.out]; rfl)).cs
        subst eC
        clear hatC
        have x0 : w9.cell? ⟨bC, oC, none⟩ = some (.slice AFx 0 cFx) := by have h := hcx 0 _ rfl; simpa using h
        have x1 : w9.cell? ⟨bC, oC + 1, none⟩ = some (.int .i64 1) := by have h := hcx 1 _ rfl; simpa using h
        have HL := hid (show t3.C.length = 1 by rw [HC3.out]; rfl)
        have hq : ((t3.C.length : Int) == 1) = true := by rw [HL.out]; rfl
        have hi : (0 : Int) < (t3.C.length : Int) := by rw [HL.out]; omega
        have hi2 : 0 < t3.C.length := by rw [HL.out]; omega
        clear hcx
        have p0 : w9.cell? ⟨v5, 0, none⟩ = some (.slice A t3.M.W.length a) := cell_of_row w9 _ 0 _ _ _ kB
        have p1 : w9.cell? ⟨v5, 1, none⟩ = some (.slice B t3.M.G.length b) := cell_of_row w9 _ 1 _ _ _ kB
        have p2 : w9.cell? ⟨v5, 2, none⟩ = some (.bool t3.M.bad) := cell_of_row w9 _ 2 _ _ _ kB
        have p3 : w9.cell? ⟨v5, 3, none⟩ = some (.slice (some ⟨bC, oC, none⟩) t3.C.length c) := cell_of_row w9 _ 3 _ _ _ kB
        have p4 : w9.cell? ⟨v5, 4, none⟩ = some (.slice L t3.L.length d) := cell_of_row w9 _ 4 _ _ _ kB
        have HI1 := hid (show ∀ (A B : Option Addr) (a b : Nat) (w : World), Row w A [1, 2, 3] → Row w B [1, 2, 3] → Calls Try.prog 32 #[.slice A 3 a, .slice B 3 b] w fun e w' => e = .returned (.bool true) ∧ Below w.heap.size w w' from fun A B a b w k1 k2 => rints_any A B a b [1, 2, 3] [1, 2, 3] w k1 k2 (by simp))
        have HI2 := hid (show ∀ (A B : Option Addr) (a b : Nat) (w : World), Row w A [2, 3] → Row w B [2, 3] → Calls Try.prog 32 #[.slice A 2 a, .slice B 2 b] w fun e w' => e = .returned (.bool true) ∧ Below w.heap.size w w' from fun A B a b w k1 k2 => rints_any A B a b [2, 3] [2, 3] w k1 k2 (by simp))
        have R1 : Row (w9.alloc (.cells #[.int .i64 1, .int .i64 2, .int .i64 3] 3)) (some ⟨w9.heap.size, 0, none⟩) [1, 2, 3] := row_of_blk (xs := [1, 2, 3]) (heap_alloc_new w9 _)
        go_wp2_with (first | (go_at_call 32; (with_reducible refine (HI1.out _ _ _ _ _ (kr.alloc _) R1).mono ?_); rintro e wI ⟨rfl, hkwI⟩; have R2 : Row (wI.alloc (.cells #[.int .i64 2, .int .i64 3] 3)) (some ⟨wI.heap.size, 0, none⟩) [2, 3] := row_of_blk (xs := [2, 3]) (heap_alloc_new wI _); have q1 : Below w9.heap.size w9 wI := bstep (boxed _ _) hkwI; have kB1 := (q1.block v5 lz).trans kB; have lz1 := Nat.lt_of_lt_of_le lz q1.size; have z0 := (q1.cell hbC).trans x0; have z1 := (q1.cell hbC).trans x1; have hbC1 := Nat.lt_of_lt_of_le hbC q1.size; have ss0 : wI.cell? ⟨v5, 0, none⟩ = some (.slice A t3.M.W.length a) := cell_of_row wI _ 0 _ _ _ kB1; have ss1 : wI.cell? ⟨v5, 1, none⟩ = some (.slice B t3.M.G.length b) := cell_of_row wI _ 1 _ _ _ kB1; have ss2 : wI.cell? ⟨v5, 2, none⟩ = some (.bool t3.M.bad) := cell_of_row wI _ 2 _ _ _ kB1; have ss3 : wI.cell? ⟨v5, 3, none⟩ = some (.slice (some ⟨bC, oC, none⟩) t3.C.length c) := cell_of_row wI _ 3 _ _ _ kB1; have ss4 : wI.cell? ⟨v5, 4, none⟩ = some (.slice L t3.L.length d) := cell_of_row wI _ 4 _ _ _ kB1) | (go_at_call 32; (with_reducible refine (HI2.out _ _ _ _ _ ((r4.step q1).alloc _) R2).mono ?_); rintro e wJ ⟨rfl, hkwJ⟩; have q2 : Below wI.heap.size wI wJ := bstep (boxed _ _) hkwJ; have kB2 := (q2.block v5 lz1).trans kB1; have y0 := (q2.cell hbC1).trans z0; have y1 := (q2.cell hbC1).trans z1; have tt0 : wJ.cell? ⟨v5, 0, none⟩ = some (.slice A t3.M.W.length a) := cell_of_row wJ _ 0 _ _ _ kB2; have tt1 : wJ.cell? ⟨v5, 1, none⟩ = some (.slice B t3.M.G.length b) := cell_of_row wJ _ 1 _ _ _ kB2; have tt2 : wJ.cell? ⟨v5, 2, none⟩ = some (.bool t3.M.bad) := cell_of_row wJ _ 2 _ _ _ kB2; have tt3 : wJ.cell? ⟨v5, 3, none⟩ = some (.slice (some ⟨bC, oC, none⟩) t3.C.length c) := cell_of_row wJ _ 3 _ _ _ kB2; have tt4 : wJ.cell? ⟨v5, 4, none⟩ = some (.slice L t3.L.length d) := cell_of_row wJ _ 4 _ _ _ kB2) | (go_at_call 38; (with_reducible refine (own4_any _ _).mono ?_); rintro e wK ⟨rfl, rfl⟩))
        go_ret
        exact ⟨rfl, bstep kb (bstep q1 q2)⟩
end Go.Proofs.Ytlknpmdmnekedaa
