/- Contracts: a step of OClear, by the program. -/
import Derived.Test.YthpflcknommpdaaKHzA
namespace Go.Proofs.Ythpflcknommpdaa
open Go.RowKit
set_option linter.unusedVariables false
set_option linter.unusedSimpArgs false

set_option maxRecDepth 100000 in
set_option maxHeartbeats 4000000 in
theorem clr_0 (A B C L : Option Addr) (a b c d : Nat) (s : Sy) (i : Int) (AS : Option Addr) (cS : Nat) (op r0 r1 r2 r3 r4 r5 r6 r7 : Int) (xs : List Int) (d0 : Sy) (w : World) (hs : SyFew s) (hg : 2 ≤ s.M.G.length) (h : RS w s A B C L) (hS : Row w AS xs) (h6 : xs.length ≤ 1000000)  :
    Calls Try.prog 44 #[.agg #[.slice A s.M.W.length a, .slice B s.M.G.length b, .bool s.M.bad, .slice C s.C.length c, .slice L s.L.length d], .int .i64 i, .agg #[.int .i64 op, .int .i64 0, .int .i64 r0, .int .i64 r1, .int .i64 r2, .int .i64 r3, .int .i64 r4, .int .i64 r5, .int .i64 r6, .int .i64 r7, .slice AS xs.length cS]] w (RetSysN w (pClr s i ⟨op, 0, [r0, r1, r2, r3, r4, r5, r6, r7], xs⟩ d0)) := by
  obtain ⟨s2, hs2⟩ : ∃ t, t = syMem s (mStore s.M (pPlace i 0) 0) := ⟨_, rfl⟩
  have HS2 := hid hs2
  have hst := mStore_len s.M (pPlace i 0) 0
  have lW : s2.M.W.length = s.M.W.length := by rw [hs2]; exact hst.1
  have lG : s2.M.G.length = s.M.G.length := by rw [hs2]; exact congrArg List.length hst.2
  have HW2 := hid lW
  have HG2 := hid lG
  have fw : SyFew s2 := by rw [hs2]; exact few_mem hs hst.1 (congrArg List.length hst.2)
  clear lW lG hst
  have HC := hid (show ∀ w', Row w' A s.M.W → Row w' B s.M.G → Calls Try.prog 79 #[.agg #[.slice A s.M.W.length a, .slice B s.M.G.length b, .bool s.M.bad], .int .i64 (pPlace i 0), .int .i64 0] w' (RetMemO w' A B s2.M) from fun w' k1 k2 => by have h9 := store_o A B a b s.M (pPlace i 0) 0 w' k1 k2 hs.1 hs.2.1 hg (pPlace_bd _ _).1 (pPlace_bd _ _).2; rw [hs2]; exact h9)
  have hres : pClr s i ⟨op, 0, [r0, r1, r2, r3, r4, r5, r6, r7], xs⟩ d0 = pSet s2 i ⟨op, 1, [r0, r1, r2, r3, r4, r5, r6, r7], xs⟩ := by unfold pClr; exact (if_neg (by simp)).trans ((if_neg (by simp)).trans (by rw [hs2] <;> rfl))
  rw [hres]
  clear hres hs2
  have h0 := hs.1
  have h1 := hs.2.1
  have H := SF.start w s A B C L a b c d #[.int .i64 op, .int .i64 0, .int .i64 r0, .int .i64 r1, .int .i64 r2, .int .i64 r3, .int .i64 r4, .int .i64 r5, .int .i64 r6, .int .i64 r7, .slice AS xs.length cS] h
  clear h
  go_enter Try.func44, Try.ntmps44
  go_upto_region 1 with (fail)
  generalize (((w.alloc (.cells #[.slice A s.M.W.length a, .slice B s.M.G.length b, .bool s.M.bad, .slice C s.C.length c, .slice L s.L.length d] 28)).alloc (.cells #[.int .i64 op, .int .i64 0, .int .i64 r0, .int .i64 r1, .int .i64 r2, .int .i64 r3, .int .i64 r4, .int .i64 r5, .int .i64 r6, .int .i64 r7, .slice AS xs.length cS] 55)).alloc (.cells #[.slice none 0 0, .slice none 0 0, .bool false, .slice none 0 0, .slice none 0 0] 28)) = w1 at *
  have z2 : w.heap.size + 1 + 1 < w1.heap.size := H.lt
  have z1 : w.heap.size + 1 < w1.heap.size := by omega
  have z0 : w.heap.size < w1.heap.size := by omega
  obtain ⟨p0, p1, p2, p3, p4⟩ := cells5 H.bS
  obtain ⟨-, f1⟩ := cells2 H.bF
  obtain ⟨pf0, pf1, pf2, pf3, pf4⟩ := frz5 H.bS
  obtain ⟨-, ff1⟩ := frz2 H.bF
  go_upto_region 3 with (fail)
  have HD := H.step ((Below.refl _ _).drew)
  go_cut [14] from 27 (fun s0 wx => s0 = .bool false ∧ ∃ (A2 B2 : Option Addr) (a2 b2 : Nat), SF w (syMem s s2.M) A2 B2 C L a2 b2 c d #[.int .i64 op, .int .i64 0, .int .i64 r0, .int .i64 r1, .int .i64 r2, .int .i64 r3, .int .i64 r4, .int .i64 r5, .int .i64 r6, .int .i64 r7, .slice AS xs.length cS] wx)
  case first =>
    go_region_with (first | (go_at_call 9; (with_reducible refine (place_w _ _ _).mono ?_); rintro e w3 ⟨rfl, rfl⟩) | (go_at_call 79; (with_reducible refine (HC.out _ HD.rW HD.rG).mono ?_); rintro e w4 ⟨A2, B2, a2, b2, rfl, s1, s3, hk4, F1, F2⟩; have KW := HD; have K4 := HD.step hk4; obtain ⟨v0, v1, v2, v3, v4⟩ := cells5 K4.bS; obtain ⟨vf0, vf1, vf2, vf3, vf4⟩ := frz5 K4.bS))
    all_goals go_wp2_with fail
    all_goals go_meet
    all_goals exact ⟨rfl, A2, B2, a2, b2, K4.putM s1 s3 (KW.whW F1 HW2.out) (KW.whG F2 HG2.out)⟩
  case rest =>
    obtain ⟨rfl, A2, B2, a2, b2, H2⟩ := hcut
    clear H z0 z1 z2 HC p0 p1 p2 p3 p4 f1 pf0 pf1 pf2 pf3 pf4 ff1
    have e2 : syMem s s2.M = s2 := by rw [HS2.out]; rfl
    rw [e2] at H2
    clear e2
    have H := H2
    clear H2
    have z2 : w.heap.size + 1 + 1 < wc.heap.size := H.lt
    have z1 : w.heap.size + 1 < wc.heap.size := by omega
    have z0 : w.heap.size < wc.heap.size := by omega
    clear HD
    obtain ⟨f0, f1, f2, f3, f4, f5, f6, f7, f8, f9, f10⟩ := cells11 H.bF
    obtain ⟨ff0, ff1, ff2, ff3, ff4, ff5, ff6, ff7, ff8, ff9, ff10⟩ := frz11 H.bF
    go_upto_region 5 with (fail)
    have K7 := H.putF 1 (.int .i64 1)
    clear H z0 z1 z2
    clear f0 f1 f2 f3 f4 f5 f6 f7 f8 f9 f10 ff0 ff1 ff2 ff3 ff4 ff5 ff6 ff7 ff8 ff9 ff10
    generalize wc.setCell ⟨w.heap.size + 1, 1, none⟩ (.int .i64 1) = w7 at *
    have H : SF w s2 A2 B2 C L a2 b2 c d #[.int .i64 op, .int .i64 1, .int .i64 r0, .int .i64 r1, .int .i64 r2, .int .i64 r3, .int .i64 r4, .int .i64 r5, .int .i64 r6, .int .i64 r7, .slice AS xs.length cS] w7 := K7
    clear K7
    have z2 : w.heap.size + 1 + 1 < w7.heap.size := H.lt
    have z1 : w.heap.size + 1 < w7.heap.size := by omega
    have z0 : w.heap.size < w7.heap.size := by omega
    obtain ⟨p0, p1, p2, p3, p4⟩ := cells5 H.bS
    obtain ⟨f0, f1, f2, f3, f4, f5, f6, f7, f8, f9, f10⟩ := cells11 H.bF
    go_wp2_with (go_at_call 45; (with_reducible refine (set_uN A2 B2 C L a2 b2 c d s2 i AS cS op 1 r0 r1 r2 r3 r4 r5 r6 r7 xs _ fw H.rs (hS.step H.be) h6).mono ?_); rintro e wz hN; have hz := hN.2; obtain ⟨A9, B9, C9, L9, a9, b9, c9, d9, he, _, _, _, _, _⟩ := hN.1 wz (Turn.refl _ _); subst he; have HN := hid hN; clear hN; have kR := (hz.block (w.heap.size + 1 + 1) z2).trans H.bR; have kb := bstep H.be hz; obtain ⟨q0, q1, q2, q3, q4⟩ := cells5 kR; obtain ⟨qf0, qf1, qf2, qf3, qf4⟩ := frz5 kR)
    refine bodyPost_ret (v := .agg #[.slice A9 (pSet s2 i ⟨op, 1, [r0, r1, r2, r3, r4, r5, r6, r7], xs⟩).M.W.length a9, .slice B9 (pSet s2 i ⟨op, 1, [r0, r1, r2, r3, r4, r5, r6, r7], xs⟩).M.G.length b9, .bool (pSet s2 i ⟨op, 1, [r0, r1, r2, r3, r4, r5, r6, r7], xs⟩).M.bad, .slice C9 (pSet s2 i ⟨op, 1, [r0, r1, r2, r3, r4, r5, r6, r7], xs⟩).C.length c9, .slice L9 (pSet s2 i ⟨op, 1, [r0, r1, r2, r3, r4, r5, r6, r7], xs⟩).L.length d9]) (by simp [results, Try.results44, go_sem, q0, q1, q2, q3, q4]) rfl ?_
    exact ret_resN _ _ _ _ _ HN.out z2 (by omega) kb

set_option maxRecDepth 100000 in
set_option maxHeartbeats 4000000 in
theorem clr_1 (A B C L : Option Addr) (a b c d : Nat) (s : Sy) (i : Int) (AS : Option Addr) (cS : Nat) (op r0 r1 r2 r3 r4 r5 r6 r7 : Int) (xs : List Int) (d0 : Sy) (w : World) (hs : SyFew s) (hg : 2 ≤ s.M.G.length) (h : RS w s A B C L) (hS : Row w AS xs) (h6 : xs.length ≤ 1000000)  :
    Calls Try.prog 44 #[.agg #[.slice A s.M.W.length a, .slice B s.M.G.length b, .bool s.M.bad, .slice C s.C.length c, .slice L s.L.length d], .int .i64 i, .agg #[.int .i64 op, .int .i64 1, .int .i64 r0, .int .i64 r1, .int .i64 r2, .int .i64 r3, .int .i64 r4, .int .i64 r5, .int .i64 r6, .int .i64 r7, .slice AS xs.length cS]] w (RetSysN w (pClr s i ⟨op, 1, [r0, r1, r2, r3, r4, r5, r6, r7], xs⟩ d0)) := by
  obtain ⟨s2, hs2⟩ : ∃ t, t = syMem s (mStore s.M (pPlace i 1) 0) := ⟨_, rfl⟩
  have HS2 := hid hs2
  have hst := mStore_len s.M (pPlace i 1) 0
  have lW : s2.M.W.length = s.M.W.length := by rw [hs2]; exact hst.1
  have lG : s2.M.G.length = s.M.G.length := by rw [hs2]; exact congrArg List.length hst.2
  have HW2 := hid lW
  have HG2 := hid lG
  have fw : SyFew s2 := by rw [hs2]; exact few_mem hs hst.1 (congrArg List.length hst.2)
  clear lW lG hst
  have HC := hid (show ∀ w', Row w' A s.M.W → Row w' B s.M.G → Calls Try.prog 79 #[.agg #[.slice A s.M.W.length a, .slice B s.M.G.length b, .bool s.M.bad], .int .i64 (pPlace i 1), .int .i64 0] w' (RetMemO w' A B s2.M) from fun w' k1 k2 => by have h9 := store_o A B a b s.M (pPlace i 1) 0 w' k1 k2 hs.1 hs.2.1 hg (pPlace_bd _ _).1 (pPlace_bd _ _).2; rw [hs2]; exact h9)
  have hres : pClr s i ⟨op, 1, [r0, r1, r2, r3, r4, r5, r6, r7], xs⟩ d0 = pSet s2 i ⟨op, 2, [r0, r1, r2, r3, r4, r5, r6, r7], xs⟩ := by unfold pClr; exact (if_neg (by simp)).trans ((if_neg (by simp)).trans (by rw [hs2] <;> rfl))
  rw [hres]
  clear hres hs2
  have h0 := hs.1
  have h1 := hs.2.1
  have H := SF.start w s A B C L a b c d #[.int .i64 op, .int .i64 1, .int .i64 r0, .int .i64 r1, .int .i64 r2, .int .i64 r3, .int .i64 r4, .int .i64 r5, .int .i64 r6, .int .i64 r7, .slice AS xs.length cS] h
  clear h
  go_enter Try.func44, Try.ntmps44
  go_upto_region 1 with (fail)
  generalize (((w.alloc (.cells #[.slice A s.M.W.length a, .slice B s.M.G.length b, .bool s.M.bad, .slice C s.C.length c, .slice L s.L.length d] 28)).alloc (.cells #[.int .i64 op, .int .i64 1, .int .i64 r0, .int .i64 r1, .int .i64 r2, .int .i64 r3, .int .i64 r4, .int .i64 r5, .int .i64 r6, .int .i64 r7, .slice AS xs.length cS] 55)).alloc (.cells #[.slice none 0 0, .slice none 0 0, .bool false, .slice none 0 0, .slice none 0 0] 28)) = w1 at *
  have z2 : w.heap.size + 1 + 1 < w1.heap.size := H.lt
  have z1 : w.heap.size + 1 < w1.heap.size := by omega
  have z0 : w.heap.size < w1.heap.size := by omega
  obtain ⟨p0, p1, p2, p3, p4⟩ := cells5 H.bS
  obtain ⟨-, f1⟩ := cells2 H.bF
  obtain ⟨pf0, pf1, pf2, pf3, pf4⟩ := frz5 H.bS
  obtain ⟨-, ff1⟩ := frz2 H.bF
  go_upto_region 3 with (fail)
  have HD := H.step ((Below.refl _ _).drew)
  go_cut [14] from 27 (fun s0 wx => s0 = .bool false ∧ ∃ (A2 B2 : Option Addr) (a2 b2 : Nat), SF w (syMem s s2.M) A2 B2 C L a2 b2 c d #[.int .i64 op, .int .i64 1, .int .i64 r0, .int .i64 r1, .int .i64 r2, .int .i64 r3, .int .i64 r4, .int .i64 r5, .int .i64 r6, .int .i64 r7, .slice AS xs.length cS] wx)
  case first =>
    go_region_with (first | (go_at_call 9; (with_reducible refine (place_w _ _ _).mono ?_); rintro e w3 ⟨rfl, rfl⟩) | (go_at_call 79; (with_reducible refine (HC.out _ HD.rW HD.rG).mono ?_); rintro e w4 ⟨A2, B2, a2, b2, rfl, s1, s3, hk4, F1, F2⟩; have KW := HD; have K4 := HD.step hk4; obtain ⟨v0, v1, v2, v3, v4⟩ := cells5 K4.bS; obtain ⟨vf0, vf1, vf2, vf3, vf4⟩ := frz5 K4.bS))
    all_goals go_wp2_with fail
    all_goals go_meet
    all_goals exact ⟨rfl, A2, B2, a2, b2, K4.putM s1 s3 (KW.whW F1 HW2.out) (KW.whG F2 HG2.out)⟩
  case rest =>
    obtain ⟨rfl, A2, B2, a2, b2, H2⟩ := hcut
    clear H z0 z1 z2 HC p0 p1 p2 p3 p4 f1 pf0 pf1 pf2 pf3 pf4 ff1
    have e2 : syMem s s2.M = s2 := by rw [HS2.out]; rfl
    rw [e2] at H2
    clear e2
    have H := H2
    clear H2
    have z2 : w.heap.size + 1 + 1 < wc.heap.size := H.lt
    have z1 : w.heap.size + 1 < wc.heap.size := by omega
    have z0 : w.heap.size < wc.heap.size := by omega
    clear HD
    obtain ⟨f0, f1, f2, f3, f4, f5, f6, f7, f8, f9, f10⟩ := cells11 H.bF
    obtain ⟨ff0, ff1, ff2, ff3, ff4, ff5, ff6, ff7, ff8, ff9, ff10⟩ := frz11 H.bF
    go_upto_region 5 with (fail)
    have K7 := H.putF 1 (.int .i64 2)
    clear H z0 z1 z2
    clear f0 f1 f2 f3 f4 f5 f6 f7 f8 f9 f10 ff0 ff1 ff2 ff3 ff4 ff5 ff6 ff7 ff8 ff9 ff10
    generalize wc.setCell ⟨w.heap.size + 1, 1, none⟩ (.int .i64 2) = w7 at *
    have H : SF w s2 A2 B2 C L a2 b2 c d #[.int .i64 op, .int .i64 2, .int .i64 r0, .int .i64 r1, .int .i64 r2, .int .i64 r3, .int .i64 r4, .int .i64 r5, .int .i64 r6, .int .i64 r7, .slice AS xs.length cS] w7 := K7
    clear K7
    have z2 : w.heap.size + 1 + 1 < w7.heap.size := H.lt
    have z1 : w.heap.size + 1 < w7.heap.size := by omega
    have z0 : w.heap.size < w7.heap.size := by omega
    obtain ⟨p0, p1, p2, p3, p4⟩ := cells5 H.bS
    obtain ⟨f0, f1, f2, f3, f4, f5, f6, f7, f8, f9, f10⟩ := cells11 H.bF
    go_wp2_with (go_at_call 45; (with_reducible refine (set_uN A2 B2 C L a2 b2 c d s2 i AS cS op 2 r0 r1 r2 r3 r4 r5 r6 r7 xs _ fw H.rs (hS.step H.be) h6).mono ?_); rintro e wz hN; have hz := hN.2; obtain ⟨A9, B9, C9, L9, a9, b9, c9, d9, he, _, _, _, _, _⟩ := hN.1 wz (Turn.refl _ _); subst he; have HN := hid hN; clear hN; have kR := (hz.block (w.heap.size + 1 + 1) z2).trans H.bR; have kb := bstep H.be hz; obtain ⟨q0, q1, q2, q3, q4⟩ := cells5 kR; obtain ⟨qf0, qf1, qf2, qf3, qf4⟩ := frz5 kR)
    refine bodyPost_ret (v := .agg #[.slice A9 (pSet s2 i ⟨op, 2, [r0, r1, r2, r3, r4, r5, r6, r7], xs⟩).M.W.length a9, .slice B9 (pSet s2 i ⟨op, 2, [r0, r1, r2, r3, r4, r5, r6, r7], xs⟩).M.G.length b9, .bool (pSet s2 i ⟨op, 2, [r0, r1, r2, r3, r4, r5, r6, r7], xs⟩).M.bad, .slice C9 (pSet s2 i ⟨op, 2, [r0, r1, r2, r3, r4, r5, r6, r7], xs⟩).C.length c9, .slice L9 (pSet s2 i ⟨op, 2, [r0, r1, r2, r3, r4, r5, r6, r7], xs⟩).L.length d9]) (by simp [results, Try.results44, go_sem, q0, q1, q2, q3, q4]) rfl ?_
    exact ret_resN _ _ _ _ _ HN.out z2 (by omega) kb

set_option maxRecDepth 100000 in
set_option maxHeartbeats 4000000 in
theorem clr_2 (A B C L : Option Addr) (a b c d : Nat) (s : Sy) (i : Int) (AS : Option Addr) (cS : Nat) (op r0 r1 r2 r3 r4 r5 r6 r7 : Int) (xs : List Int) (d0 : Sy) (w : World) (hs : SyFew s) (hg : 2 ≤ s.M.G.length) (h : RS w s A B C L) (hS : Row w AS xs) (h6 : xs.length ≤ 1000000)  :
    Calls Try.prog 44 #[.agg #[.slice A s.M.W.length a, .slice B s.M.G.length b, .bool s.M.bad, .slice C s.C.length c, .slice L s.L.length d], .int .i64 i, .agg #[.int .i64 op, .int .i64 2, .int .i64 r0, .int .i64 r1, .int .i64 r2, .int .i64 r3, .int .i64 r4, .int .i64 r5, .int .i64 r6, .int .i64 r7, .slice AS xs.length cS]] w (RetSysN w (pClr s i ⟨op, 2, [r0, r1, r2, r3, r4, r5, r6, r7], xs⟩ d0)) := by
  obtain ⟨s2, hs2⟩ : ∃ t, t = syMem s (mStore s.M (pPlace i 2) 0) := ⟨_, rfl⟩
  have HS2 := hid hs2
  have hst := mStore_len s.M (pPlace i 2) 0
  have lW : s2.M.W.length = s.M.W.length := by rw [hs2]; exact hst.1
  have lG : s2.M.G.length = s.M.G.length := by rw [hs2]; exact congrArg List.length hst.2
  have HW2 := hid lW
  have HG2 := hid lG
  have fw : SyFew s2 := by rw [hs2]; exact few_mem hs hst.1 (congrArg List.length hst.2)
  clear lW lG hst
  have HC := hid (show ∀ w', Row w' A s.M.W → Row w' B s.M.G → Calls Try.prog 79 #[.agg #[.slice A s.M.W.length a, .slice B s.M.G.length b, .bool s.M.bad], .int .i64 (pPlace i 2), .int .i64 0] w' (RetMemO w' A B s2.M) from fun w' k1 k2 => by have h9 := store_o A B a b s.M (pPlace i 2) 0 w' k1 k2 hs.1 hs.2.1 hg (pPlace_bd _ _).1 (pPlace_bd _ _).2; rw [hs2]; exact h9)
  have hres : pClr s i ⟨op, 2, [r0, r1, r2, r3, r4, r5, r6, r7], xs⟩ d0 = pBack s2 i 0 0 := by unfold pClr; exact (if_neg (by simp)).trans ((if_pos rfl).trans (by rw [hs2] <;> rfl))
  rw [hres]
  clear hres hs2
  have h0 := hs.1
  have h1 := hs.2.1
  have H := SF.start w s A B C L a b c d #[.int .i64 op, .int .i64 2, .int .i64 r0, .int .i64 r1, .int .i64 r2, .int .i64 r3, .int .i64 r4, .int .i64 r5, .int .i64 r6, .int .i64 r7, .slice AS xs.length cS] h
  clear h
  go_enter Try.func44, Try.ntmps44
  go_upto_region 1 with (fail)
  generalize (((w.alloc (.cells #[.slice A s.M.W.length a, .slice B s.M.G.length b, .bool s.M.bad, .slice C s.C.length c, .slice L s.L.length d] 28)).alloc (.cells #[.int .i64 op, .int .i64 2, .int .i64 r0, .int .i64 r1, .int .i64 r2, .int .i64 r3, .int .i64 r4, .int .i64 r5, .int .i64 r6, .int .i64 r7, .slice AS xs.length cS] 55)).alloc (.cells #[.slice none 0 0, .slice none 0 0, .bool false, .slice none 0 0, .slice none 0 0] 28)) = w1 at *
  have z2 : w.heap.size + 1 + 1 < w1.heap.size := H.lt
  have z1 : w.heap.size + 1 < w1.heap.size := by omega
  have z0 : w.heap.size < w1.heap.size := by omega
  obtain ⟨p0, p1, p2, p3, p4⟩ := cells5 H.bS
  obtain ⟨-, f1⟩ := cells2 H.bF
  obtain ⟨pf0, pf1, pf2, pf3, pf4⟩ := frz5 H.bS
  obtain ⟨-, ff1⟩ := frz2 H.bF
  go_upto_region 3 with (fail)
  have HD := H.step ((Below.refl _ _).drew)
  go_cut [14] from 27 (fun s0 wx => s0 = .bool false ∧ ∃ (A2 B2 : Option Addr) (a2 b2 : Nat), SF w (syMem s s2.M) A2 B2 C L a2 b2 c d #[.int .i64 op, .int .i64 2, .int .i64 r0, .int .i64 r1, .int .i64 r2, .int .i64 r3, .int .i64 r4, .int .i64 r5, .int .i64 r6, .int .i64 r7, .slice AS xs.length cS] wx)
  case first =>
    go_region_with (first | (go_at_call 9; (with_reducible refine (place_w _ _ _).mono ?_); rintro e w3 ⟨rfl, rfl⟩) | (go_at_call 79; (with_reducible refine (HC.out _ HD.rW HD.rG).mono ?_); rintro e w4 ⟨A2, B2, a2, b2, rfl, s1, s3, hk4, F1, F2⟩; have KW := HD; have K4 := HD.step hk4; obtain ⟨v0, v1, v2, v3, v4⟩ := cells5 K4.bS; obtain ⟨vf0, vf1, vf2, vf3, vf4⟩ := frz5 K4.bS))
    all_goals go_wp2_with fail
    all_goals go_meet
    all_goals exact ⟨rfl, A2, B2, a2, b2, K4.putM s1 s3 (KW.whW F1 HW2.out) (KW.whG F2 HG2.out)⟩
  case rest =>
    obtain ⟨rfl, A2, B2, a2, b2, H2⟩ := hcut
    clear H z0 z1 z2 HC p0 p1 p2 p3 p4 f1 pf0 pf1 pf2 pf3 pf4 ff1
    have e2 : syMem s s2.M = s2 := by rw [HS2.out]; rfl
    rw [e2] at H2
    clear e2
    have H := H2
    clear H2
    have z2 : w.heap.size + 1 + 1 < wc.heap.size := H.lt
    have z1 : w.heap.size + 1 < wc.heap.size := by omega
    have z0 : w.heap.size < wc.heap.size := by omega
    clear HD
    obtain ⟨f0, f1, f2, f3, f4, f5, f6, f7, f8, f9, f10⟩ := cells11 H.bF
    obtain ⟨ff0, ff1, ff2, ff3, ff4, ff5, ff6, ff7, ff8, ff9, ff10⟩ := frz11 H.bF
    go_upto_region 5 with (fail)
    have K7 := H.putF 1 (.int .i64 3)
    clear H z0 z1 z2
    clear f0 f1 f2 f3 f4 f5 f6 f7 f8 f9 f10 ff0 ff1 ff2 ff3 ff4 ff5 ff6 ff7 ff8 ff9 ff10
    generalize wc.setCell ⟨w.heap.size + 1, 1, none⟩ (.int .i64 3) = w7 at *
    have H : SF w s2 A2 B2 C L a2 b2 c d #[.int .i64 op, .int .i64 3, .int .i64 r0, .int .i64 r1, .int .i64 r2, .int .i64 r3, .int .i64 r4, .int .i64 r5, .int .i64 r6, .int .i64 r7, .slice AS xs.length cS] w7 := K7
    clear K7
    have z2 : w.heap.size + 1 + 1 < w7.heap.size := H.lt
    have z1 : w.heap.size + 1 < w7.heap.size := by omega
    have z0 : w.heap.size < w7.heap.size := by omega
    obtain ⟨p0, p1, p2, p3, p4⟩ := cells5 H.bS
    obtain ⟨f0, f1, f2, f3, f4, f5, f6, f7, f8, f9, f10⟩ := cells11 H.bF
    go_wp2_with (go_at_call 78; (with_reducible refine (back_uN A2 B2 C L a2 b2 c d s2 i 0 0 _ fw H.rs).mono ?_); rintro e wz hN; have hz := hN.2; obtain ⟨A9, B9, C9, L9, a9, b9, c9, d9, he, _, _, _, _, _⟩ := hN.1 wz (Turn.refl _ _); subst he; have HN := hid hN; clear hN; have kR := (hz.block (w.heap.size + 1 + 1) z2).trans H.bR; have kb := bstep H.be hz; obtain ⟨q0, q1, q2, q3, q4⟩ := cells5 kR; obtain ⟨qf0, qf1, qf2, qf3, qf4⟩ := frz5 kR)
    refine bodyPost_ret (v := .agg #[.slice A9 (pBack s2 i 0 0).M.W.length a9, .slice B9 (pBack s2 i 0 0).M.G.length b9, .bool (pBack s2 i 0 0).M.bad, .slice C9 (pBack s2 i 0 0).C.length c9, .slice L9 (pBack s2 i 0 0).L.length d9]) (by simp [results, Try.results44, go_sem, q0, q1, q2, q3, q4]) rfl ?_
    exact ret_resN _ _ _ _ _ HN.out z2 (by omega) kb

set_option maxRecDepth 100000 in
set_option maxHeartbeats 4000000 in
theorem clr_lo (A B C L : Option Addr) (a b c d : Nat) (s : Sy) (i : Int) (AS : Option Addr) (cS : Nat) (op pc r0 r1 r2 r3 r4 r5 r6 r7 : Int) (xs : List Int) (d0 : Sy) (w : World) (hs : SyFew s) (hg : 2 ≤ s.M.G.length) (h : RS w s A B C L) (hS : Row w AS xs) (h6 : xs.length ≤ 1000000) (q0 : pc < 0) (hd : d0 = pSet s i ⟨op, pc, [r0, r1, r2, r3, r4, r5, r6, r7], xs⟩) :
    Calls Try.prog 44 #[.agg #[.slice A s.M.W.length a, .slice B s.M.G.length b, .bool s.M.bad, .slice C s.C.length c, .slice L s.L.length d], .int .i64 i, .agg #[.int .i64 op, .int .i64 pc, .int .i64 r0, .int .i64 r1, .int .i64 r2, .int .i64 r3, .int .i64 r4, .int .i64 r5, .int .i64 r6, .int .i64 r7, .slice AS xs.length cS]] w (RetSysN w (pClr s i ⟨op, pc, [r0, r1, r2, r3, r4, r5, r6, r7], xs⟩ d0)) := by
  have hres : pClr s i ⟨op, pc, [r0, r1, r2, r3, r4, r5, r6, r7], xs⟩ d0 = pSet s i ⟨op, pc, [r0, r1, r2, r3, r4, r5, r6, r7], xs⟩ := by unfold pClr; rw [if_pos (Or.inl q0)]; exact hd
  rw [hres]
  clear hres hd
  have e0 : decide (pc < 0) = true := by simpa using q0
  clear q0
  have h0 := hs.1
  have h1 := hs.2.1
  have H := SF.start w s A B C L a b c d #[.int .i64 op, .int .i64 pc, .int .i64 r0, .int .i64 r1, .int .i64 r2, .int .i64 r3, .int .i64 r4, .int .i64 r5, .int .i64 r6, .int .i64 r7, .slice AS xs.length cS] h
  clear h
  go_enter Try.func44, Try.ntmps44
  go_upto_region 1 with (fail)
  generalize (((w.alloc (.cells #[.slice A s.M.W.length a, .slice B s.M.G.length b, .bool s.M.bad, .slice C s.C.length c, .slice L s.L.length d] 28)).alloc (.cells #[.int .i64 op, .int .i64 pc, .int .i64 r0, .int .i64 r1, .int .i64 r2, .int .i64 r3, .int .i64 r4, .int .i64 r5, .int .i64 r6, .int .i64 r7, .slice AS xs.length cS] 55)).alloc (.cells #[.slice none 0 0, .slice none 0 0, .bool false, .slice none 0 0, .slice none 0 0] 28)) = w1 at *
  have z2 : w.heap.size + 1 + 1 < w1.heap.size := H.lt
  have z1 : w.heap.size + 1 < w1.heap.size := by omega
  have z0 : w.heap.size < w1.heap.size := by omega
  obtain ⟨p0, p1, p2, p3, p4⟩ := cells5 H.bS
  obtain ⟨f0, f1, f2, f3, f4, f5, f6, f7, f8, f9, f10⟩ := cells11 H.bF
  go_wp2_with (go_at_call 45; (with_reducible refine (set_uN A B C L a b c d s i AS cS op pc r0 r1 r2 r3 r4 r5 r6 r7 xs _ hs H.rs (hS.step H.be) h6).mono ?_); rintro e wz hN; have hz := hN.2; obtain ⟨A9, B9, C9, L9, a9, b9, c9, d9, he, _, _, _, _, _⟩ := hN.1 wz (Turn.refl _ _); subst he; have HN := hid hN; clear hN; have kR := (hz.block (w.heap.size + 1 + 1) z2).trans H.bR; have kb := bstep H.be hz; obtain ⟨q0, q1, q2, q3, q4⟩ := cells5 kR; obtain ⟨qf0, qf1, qf2, qf3, qf4⟩ := frz5 kR)
  refine bodyPost_ret (v := .agg #[.slice A9 (pSet s i ⟨op, pc, [r0, r1, r2, r3, r4, r5, r6, r7], xs⟩).M.W.length a9, .slice B9 (pSet s i ⟨op, pc, [r0, r1, r2, r3, r4, r5, r6, r7], xs⟩).M.G.length b9, .bool (pSet s i ⟨op, pc, [r0, r1, r2, r3, r4, r5, r6, r7], xs⟩).M.bad, .slice C9 (pSet s i ⟨op, pc, [r0, r1, r2, r3, r4, r5, r6, r7], xs⟩).C.length c9, .slice L9 (pSet s i ⟨op, pc, [r0, r1, r2, r3, r4, r5, r6, r7], xs⟩).L.length d9]) (by simp [results, Try.results44, go_sem, q0, q1, q2, q3, q4]) rfl ?_
  exact ret_resN _ _ _ _ _ HN.out z2 (by omega) kb

set_option maxRecDepth 100000 in
set_option maxHeartbeats 4000000 in
theorem clr_hi (A B C L : Option Addr) (a b c d : Nat) (s : Sy) (i : Int) (AS : Option Addr) (cS : Nat) (op pc r0 r1 r2 r3 r4 r5 r6 r7 : Int) (xs : List Int) (d0 : Sy) (w : World) (hs : SyFew s) (hg : 2 ≤ s.M.G.length) (h : RS w s A B C L) (hS : Row w AS xs) (h6 : xs.length ≤ 1000000) (q0 : 2 < pc) (hd : d0 = pSet s i ⟨op, pc, [r0, r1, r2, r3, r4, r5, r6, r7], xs⟩) :
    Calls Try.prog 44 #[.agg #[.slice A s.M.W.length a, .slice B s.M.G.length b, .bool s.M.bad, .slice C s.C.length c, .slice L s.L.length d], .int .i64 i, .agg #[.int .i64 op, .int .i64 pc, .int .i64 r0, .int .i64 r1, .int .i64 r2, .int .i64 r3, .int .i64 r4, .int .i64 r5, .int .i64 r6, .int .i64 r7, .slice AS xs.length cS]] w (RetSysN w (pClr s i ⟨op, pc, [r0, r1, r2, r3, r4, r5, r6, r7], xs⟩ d0)) := by
  have hres : pClr s i ⟨op, pc, [r0, r1, r2, r3, r4, r5, r6, r7], xs⟩ d0 = pSet s i ⟨op, pc, [r0, r1, r2, r3, r4, r5, r6, r7], xs⟩ := by unfold pClr; rw [if_pos (Or.inr q0)]; exact hd
  rw [hres]
  clear hres hd
  have e0 : decide (pc < 0) = false := by simp; omega
  have e1 : decide (3 ≤ pc) = true := by simp; omega
  clear q0
  have h0 := hs.1
  have h1 := hs.2.1
  have H := SF.start w s A B C L a b c d #[.int .i64 op, .int .i64 pc, .int .i64 r0, .int .i64 r1, .int .i64 r2, .int .i64 r3, .int .i64 r4, .int .i64 r5, .int .i64 r6, .int .i64 r7, .slice AS xs.length cS] h
  clear h
  go_enter Try.func44, Try.ntmps44
  go_upto_region 1 with (fail)
  generalize (((w.alloc (.cells #[.slice A s.M.W.length a, .slice B s.M.G.length b, .bool s.M.bad, .slice C s.C.length c, .slice L s.L.length d] 28)).alloc (.cells #[.int .i64 op, .int .i64 pc, .int .i64 r0, .int .i64 r1, .int .i64 r2, .int .i64 r3, .int .i64 r4, .int .i64 r5, .int .i64 r6, .int .i64 r7, .slice AS xs.length cS] 55)).alloc (.cells #[.slice none 0 0, .slice none 0 0, .bool false, .slice none 0 0, .slice none 0 0] 28)) = w1 at *
  have z2 : w.heap.size + 1 + 1 < w1.heap.size := H.lt
  have z1 : w.heap.size + 1 < w1.heap.size := by omega
  have z0 : w.heap.size < w1.heap.size := by omega
  obtain ⟨p0, p1, p2, p3, p4⟩ := cells5 H.bS
  obtain ⟨f0, f1, f2, f3, f4, f5, f6, f7, f8, f9, f10⟩ := cells11 H.bF
  go_wp2_with (go_at_call 45; (with_reducible refine (set_uN A B C L a b c d s i AS cS op pc r0 r1 r2 r3 r4 r5 r6 r7 xs _ hs H.rs (hS.step H.be) h6).mono ?_); rintro e wz hN; have hz := hN.2; obtain ⟨A9, B9, C9, L9, a9, b9, c9, d9, he, _, _, _, _, _⟩ := hN.1 wz (Turn.refl _ _); subst he; have HN := hid hN; clear hN; have kR := (hz.block (w.heap.size + 1 + 1) z2).trans H.bR; have kb := bstep H.be hz; obtain ⟨q0, q1, q2, q3, q4⟩ := cells5 kR; obtain ⟨qf0, qf1, qf2, qf3, qf4⟩ := frz5 kR)
  refine bodyPost_ret (v := .agg #[.slice A9 (pSet s i ⟨op, pc, [r0, r1, r2, r3, r4, r5, r6, r7], xs⟩).M.W.length a9, .slice B9 (pSet s i ⟨op, pc, [r0, r1, r2, r3, r4, r5, r6, r7], xs⟩).M.G.length b9, .bool (pSet s i ⟨op, pc, [r0, r1, r2, r3, r4, r5, r6, r7], xs⟩).M.bad, .slice C9 (pSet s i ⟨op, pc, [r0, r1, r2, r3, r4, r5, r6, r7], xs⟩).C.length c9, .slice L9 (pSet s i ⟨op, pc, [r0, r1, r2, r3, r4, r5, r6, r7], xs⟩).L.length d9]) (by simp [results, Try.results44, go_sem, q0, q1, q2, q3, q4]) rfl ?_
  exact ret_resN _ _ _ _ _ HN.out z2 (by omega) kb

theorem clr_any (A B C L : Option Addr) (a b c d : Nat) (s : Sy) (i : Int) (AS : Option Addr) (cS : Nat) (op pc r0 r1 r2 r3 r4 r5 r6 r7 : Int) (xs : List Int) (d0 : Sy) (w : World) (hs : SyFew s) (hg : 2 ≤ s.M.G.length) (h : RS w s A B C L) (hS : Row w AS xs) (h6 : xs.length ≤ 1000000) (hd : d0 = pSet s i ⟨op, pc, [r0, r1, r2, r3, r4, r5, r6, r7], xs⟩) :
    Calls Try.prog 44 #[.agg #[.slice A s.M.W.length a, .slice B s.M.G.length b, .bool s.M.bad, .slice C s.C.length c, .slice L s.L.length d], .int .i64 i, .agg #[.int .i64 op, .int .i64 pc, .int .i64 r0, .int .i64 r1, .int .i64 r2, .int .i64 r3, .int .i64 r4, .int .i64 r5, .int .i64 r6, .int .i64 r7, .slice AS xs.length cS]] w (RetSysN w (pClr s i ⟨op, pc, [r0, r1, r2, r3, r4, r5, r6, r7], xs⟩ d0)) := by
  by_cases q0 : pc < 0
  · exact clr_lo A B C L a b c d s i AS cS op pc r0 r1 r2 r3 r4 r5 r6 r7 xs d0 w hs hg h hS h6 q0 hd
  · by_cases q1 : 2 < pc
    · exact clr_hi A B C L a b c d s i AS cS op pc r0 r1 r2 r3 r4 r5 r6 r7 xs d0 w hs hg h hS h6 q1 hd
    · obtain rfl | rfl | rfl : pc = 0 ∨ pc = 1 ∨ pc = 2 := by omega
      · exact clr_0 A B C L a b c d s i AS cS op r0 r1 r2 r3 r4 r5 r6 r7 xs d0 w hs hg h hS h6
      · exact clr_1 A B C L a b c d s i AS cS op r0 r1 r2 r3 r4 r5 r6 r7 xs d0 w hs hg h hS h6
      · exact clr_2 A B C L a b c d s i AS cS op r0 r1 r2 r3 r4 r5 r6 r7 xs d0 w hs hg h hS h6
end Go.Proofs.Ythpflcknommpdaa
