/- Contract: scan.look, by the program. -/
import Derived.Test.YthpflcknommpdaaScn5
namespace Go.Proofs.Ythpflcknommpdaa
open Go.RowKit
set_option linter.unusedVariables false
set_option linter.unusedSimpArgs false

theorem RowV.turn {V : Nat → Prop} {w w' : World} {A : Option Addr} {xs : List Int} (h : RowV V w A xs) (hb : Turn V w w') : RowV V w' A xs := fun w2 t => h w2 (hb.trans t)
set_option maxRecDepth 100000 in
set_option maxHeartbeats 4000000 in
theorem look_more1 (A B C L : Option Addr) (a b c d : Nat) (s : Sy) (i : Int) (AS : Option Addr) (cS : Nat) (op pc r0 r1 r2 r3 r4 r5 r6 r7 : Int) (xs : List Int) (w : World) (hs : SyFew s) (hg : 2 ≤ s.M.G.length) (h : RS w s A B C L) (hS : Row w AS xs) (h6 : xs.length ≤ 1000000) (hcS : xs.length ≤ cS) (hq : mVal s.M (wrap64 (8 + r0)) ≠ 0 ∧ xs.length < 24) (hu : 3 * (s.C.length : Int) ≤ (wrap64 (r0 + 1))) :
    Calls Try.prog 123 #[.agg #[.slice A s.M.W.length a, .slice B s.M.G.length b, .bool s.M.bad, .slice C s.C.length c, .slice L s.L.length d], .int .i64 i, .agg #[.int .i64 op, .int .i64 pc, .int .i64 r0, .int .i64 r1, .int .i64 r2, .int .i64 r3, .int .i64 r4, .int .i64 r5, .int .i64 r6, .int .i64 r7, .slice AS xs.length cS]] w (RetSysN w (pLook s i ⟨op, pc, [r0, r1, r2, r3, r4, r5, r6, r7], xs⟩)) := by
  obtain ⟨s2, hs2⟩ : ∃ t, t = syMem s (mLoad s.M (wrap64 (8 + r0))) := ⟨_, rfl⟩
  obtain ⟨vv, hvv⟩ : ∃ v, v = mVal s.M (wrap64 (8 + r0)) := ⟨_, rfl⟩
  obtain ⟨l, hl⟩ : ∃ l, l = pSeen xs vv := ⟨_, rfl⟩
  rw [← hvv] at hq
  have HC := hid (show ∀ w', Row w' A s.M.W → Row w' B s.M.G → Calls Try.prog 38 #[.agg #[.slice A s.M.W.length a, .slice B s.M.G.length b, .bool s.M.bad], .int .i64 (wrap64 (8 + r0))] w' (RetMem2O w' A B s2.M (.int .i64 vv)) from fun w' k1 k2 => by have h9 := load_o A B a b s.M (wrap64 (8 + r0)) w' k1 k2 hs.1 hs.2.1 hg (wrap64_bd _).1 (wrap64_bd _).2; rw [← hvv] at h9; rw [hs2]; exact h9)
  have lW : s2.M.W.length = s.M.W.length := by rw [hs2]; rfl
  have lG : s2.M.G.length = s.M.G.length := by rw [hs2]; rfl
  have lC : s2.C.length = s.C.length := by rw [hs2]; rfl
  have HW2 := hid lW
  have HG2 := hid lG
  have HLC := hid lC
  have fw : SyFew s2 := by rw [hs2]; exact few_mem hs rfl rfl
  have HS3 := hid (show syMem s s2.M = s2 by rw [hs2]; rfl)
  clear lW lG lC
  have hres : pLook s i ⟨op, pc, [r0, r1, r2, r3, r4, r5, r6, r7], xs⟩ = pSet s2 i ⟨op, 1, [(wrap64 (r0 + 1)), r1, r2, r3, r4, r5, r6, r7], l⟩ := by unfold pLook; rw [hl, hs2, hvv]; simp only [List.getD_cons_zero, if_pos hu]; rfl
  have hl2 : l = xs ++ [vv] := by rw [hl]; unfold pSeen; rw [if_pos hq]
  have hll : l.length ≤ 1000000 := by rw [hl2]; simp; omega
  have HMo := hid (show ∀ w', Row w' AS xs → Calls Try.prog 130 #[.slice AS xs.length cS, .int .i64 vv] w' (fun e w'' => ∃ (A' : Option Addr) (c' : Nat), e = .returned (.slice A' l.length c') ∧ Row w'' A' l ∧ l.length ≤ c' ∧ Below w'.heap.size w' w'' ∧ ∀ q, A' = some q → w'.heap.size ≤ q.block) from fun w' k1 => by have h9 := more_any AS cS xs vv w' k1 hcS h6; rw [← hl2] at h9; exact h9)
  have e1 : ¬ vv = 0 := hq.1
  have e3 : (vv != 0) = true := by simpa using hq.1
  have e2 : (xs.length : Int) < 24 := by have := hq.2; omega
  clear hl2
  rw [hres]
  obtain ⟨nx, hnx⟩ : ∃ n, n = (wrap64 (r0 + 1)) := ⟨_, rfl⟩
  rw [← hnx] at hu ⊢
  have HNX := hid hnx
  have HU := hid hu
  clear hnx
  clear hres hs2 hvv hq hl hu
  have h0 := hs.1
  have h1 := hs.2.1
  have H := SF.start w s A B C L a b c d #[.int .i64 op, .int .i64 pc, .int .i64 r0, .int .i64 r1, .int .i64 r2, .int .i64 r3, .int .i64 r4, .int .i64 r5, .int .i64 r6, .int .i64 r7, .slice AS xs.length cS] h
  clear h
  go_enter Try.func123, Try.ntmps123
  go_upto_region 2 with (fail)
  generalize (((w.alloc (.cells #[.slice A s.M.W.length a, .slice B s.M.G.length b, .bool s.M.bad, .slice C s.C.length c, .slice L s.L.length d] 28)).alloc (.cells #[.int .i64 op, .int .i64 pc, .int .i64 r0, .int .i64 r1, .int .i64 r2, .int .i64 r3, .int .i64 r4, .int .i64 r5, .int .i64 r6, .int .i64 r7, .slice AS xs.length cS] 55)).alloc (.cells #[.slice none 0 0, .slice none 0 0, .bool false, .slice none 0 0, .slice none 0 0] 28)) = w1 at *
  have z2 : w.heap.size + 1 + 1 < w1.heap.size := H.lt
  have z1 : w.heap.size + 1 < w1.heap.size := by omega
  have z0 : w.heap.size < w1.heap.size := by omega
  obtain ⟨p0, p1, p2, p3, p4⟩ := cells5 H.bS
  obtain ⟨f0, f1, f2, f3, f4, f5, f6, f7, f8, f9, f10⟩ := cells11 H.bF
  obtain ⟨pf0, pf1, pf2, pf3, pf4⟩ := frz5 H.bS
  obtain ⟨ff0, ff1, ff2, ff3, ff4, ff5, ff6, ff7, ff8, ff9, ff10⟩ := frz11 H.bF
  go_upto_region 3 with (go_at_call 38; (with_reducible refine (HC.out _ H.rW H.rG).mono ?_); rintro e w4 ⟨A2, B2, a2, b2, rfl, s1, s3, hk4, F1, F2⟩; have K4 := H.step hk4; obtain ⟨v0, v1, v2, v3, v4⟩ := cells5 K4.bS; obtain ⟨vf0, vf1, vf2, vf3, vf4⟩ := frz5 K4.bS)
  have K6 := K4.putM (m := s2.M) (a2 := a2) (b2 := b2) s1 s3 (H.whW F1 HW2.out) (H.whG F2 HG2.out)
  generalize (((w4.setCell ⟨w.heap.size, 0, none⟩ (.slice A2 s2.M.W.length a2)).setCell ⟨w.heap.size, 1, none⟩ (.slice B2 s2.M.G.length b2)).setCell ⟨w.heap.size, 2, none⟩ (.bool s2.M.bad)) = w6 at *
  clear H K4 F1 F2 s1 s3 hk4 z0 z1 z2 v0 vf0 v1 vf1 v2 vf2 v3 vf3 v4 vf4
  clear p0 p1 p2 p3 p4 f0 f1 f2 f3 f4 f5 f6 f7 f8 f9 f10 pf0 pf1 pf2 pf3 pf4 ff0 ff1 ff2 ff3 ff4 ff5 ff6 ff7 ff8 ff9 ff10
  have e9 : syMem s s2.M = s2 := HS3.out
  rw [e9] at K6
  clear e9
  have H : SF w s2 A2 B2 C L a2 b2 c d #[.int .i64 op, .int .i64 pc, .int .i64 r0, .int .i64 r1, .int .i64 r2, .int .i64 r3, .int .i64 r4, .int .i64 r5, .int .i64 r6, .int .i64 r7, .slice AS xs.length cS] w6 := K6
  clear K6
  have z2 : w.heap.size + 1 + 1 < w6.heap.size := H.lt
  have z1 : w.heap.size + 1 < w6.heap.size := by omega
  have z0 : w.heap.size < w6.heap.size := by omega
  obtain ⟨p0, p1, p2, p3, p4⟩ := cells5 H.bS
  obtain ⟨f0, f1, f2, f3, f4, f5, f6, f7, f8, f9, f10⟩ := cells11 H.bF
  obtain ⟨pf0, pf1, pf2, pf3, pf4⟩ := frz5 H.bS
  obtain ⟨ff0, ff1, ff2, ff3, ff4, ff5, ff6, ff7, ff8, ff9, ff10⟩ := frz11 H.bF
  go_upto_region 5 with (go_at_call 130; (with_reducible refine (HMo.out _ (hS.step H.be)).mono ?_); rintro e w7 ⟨A3, c3, rfl, rA3, hc3, hk7, hn7⟩; have K7 := H.step hk7; obtain ⟨-, -, -, -, -, -, -, -, -, -, g10⟩ := cells11 K7.bF; obtain ⟨-, -, -, -, -, -, -, -, -, -, gf10⟩ := frz11 K7.bF)
  have rV : RowV (V3 w) w7 A3 l := RowV.of rA3 (fun q e h => by have := hn7 q e; have := v3_bd h; omega)
  have rV2 : RowV (V3 w) (w7.setCell ⟨w.heap.size + 1, 10, none⟩ (.slice A3 l.length c3)) A3 l := rV.turn (Turn.set (p := V3 w) (Turn.refl _ _) (.inr (.inl rfl)) _ _)
  have K8 := K7.putF 10 (.slice A3 l.length c3)
  clear H K7 rV hk7 hn7 hc3 rA3 z0 z1 z2 g10 gf10
  clear p0 p1 p2 p3 p4 f0 f1 f2 f3 f4 f5 f6 f7 f8 f9 f10 pf0 pf1 pf2 pf3 pf4 ff0 ff1 ff2 ff3 ff4 ff5 ff6 ff7 ff8 ff9 ff10
  generalize w7.setCell ⟨w.heap.size + 1, 10, none⟩ (.slice A3 l.length c3) = w8 at *
  have H : SF w s2 A2 B2 C L a2 b2 c d #[.int .i64 op, .int .i64 pc, .int .i64 r0, .int .i64 r1, .int .i64 r2, .int .i64 r3, .int .i64 r4, .int .i64 r5, .int .i64 r6, .int .i64 r7, .slice A3 l.length c3] w8 := K8
  clear K8
  have z2 : w.heap.size + 1 + 1 < w8.heap.size := H.lt
  have z1 : w.heap.size + 1 < w8.heap.size := by omega
  have z0 : w.heap.size < w8.heap.size := by omega
  obtain ⟨p0, p1, p2, p3, p4⟩ := cells5 H.bS
  obtain ⟨f0, f1, f2, f3, f4, f5, f6, f7, f8, f9, f10⟩ := cells11 H.bF
  obtain ⟨pf0, pf1, pf2, pf3, pf4⟩ := frz5 H.bS
  obtain ⟨ff0, ff1, ff2, ff3, ff4, ff5, ff6, ff7, ff8, ff9, ff10⟩ := frz11 H.bF
  go_upto_region 6 with (fail)
  have rV3 : RowV (V3 w) (w8.setCell ⟨w.heap.size + 1, 2, none⟩ (.int .i64 (wrap64 (r0 + 1)))) A3 l := rV2.turn (Turn.set (p := V3 w) (Turn.refl _ _) (.inr (.inl rfl)) _ _)
  have K8 := H.putF 2 (.int .i64 (wrap64 (r0 + 1)))
  clear H rV2 z0 z1 z2
  clear p0 p1 p2 p3 p4 f0 f1 f2 f3 f4 f5 f6 f7 f8 f9 f10 pf0 pf1 pf2 pf3 pf4 ff0 ff1 ff2 ff3 ff4 ff5 ff6 ff7 ff8 ff9 ff10
  generalize w8.setCell ⟨w.heap.size + 1, 2, none⟩ (.int .i64 (wrap64 (r0 + 1))) = w9 at *
  have rV2 := rV3
  clear rV3
  have H : SF w s2 A2 B2 C L a2 b2 c d #[.int .i64 op, .int .i64 pc, .int .i64 (wrap64 (r0 + 1)), .int .i64 r1, .int .i64 r2, .int .i64 r3, .int .i64 r4, .int .i64 r5, .int .i64 r6, .int .i64 r7, .slice A3 l.length c3] w9 := K8
  clear K8
  have z2 : w.heap.size + 1 + 1 < w9.heap.size := H.lt
  have z1 : w.heap.size + 1 < w9.heap.size := by omega
  have z0 : w.heap.size < w9.heap.size := by omega
  have hm : wrap64 (3 * (s2.C.length : Int)) = 3 * (s2.C.length : Int) := by have := fw.2.2.1; unfold wrap64; omega
  have hu := HU.out
  rw [← HLC.out] at hu
  rw [← HNX.out] at H
  obtain ⟨p0, p1, p2, p3, p4⟩ := cells5 H.bS
  obtain ⟨f0, f1, f2, f3, f4, f5, f6, f7, f8, f9, f10⟩ := cells11 H.bF
  obtain ⟨pf0, pf1, pf2, pf3, pf4⟩ := frz5 H.bS
  obtain ⟨ff0, ff1, ff2, ff3, ff4, ff5, ff6, ff7, ff8, ff9, ff10⟩ := frz11 H.bF
  go_upto_region 7 with (fail)
  go_upto_region 8 with (fail)
  have rV3 : RowV (V3 w) (w9.setCell ⟨w.heap.size + 1, 1, none⟩ (.int .i64 1)) A3 l := rV2.turn (Turn.set (p := V3 w) (Turn.refl _ _) (.inr (.inl rfl)) _ _)
  have K8 := H.putF 1 (.int .i64 1)
  clear H rV2 z0 z1 z2
  clear p0 p1 p2 p3 p4 f0 f1 f2 f3 f4 f5 f6 f7 f8 f9 f10 pf0 pf1 pf2 pf3 pf4 ff0 ff1 ff2 ff3 ff4 ff5 ff6 ff7 ff8 ff9 ff10
  generalize w9.setCell ⟨w.heap.size + 1, 1, none⟩ (.int .i64 1) = wA at *
  have rV2 := rV3
  clear rV3
  have H : SF w s2 A2 B2 C L a2 b2 c d #[.int .i64 op, .int .i64 1, .int .i64 nx, .int .i64 r1, .int .i64 r2, .int .i64 r3, .int .i64 r4, .int .i64 r5, .int .i64 r6, .int .i64 r7, .slice A3 l.length c3] wA := K8
  clear K8
  have z2 : w.heap.size + 1 + 1 < wA.heap.size := H.lt
  have z1 : w.heap.size + 1 < wA.heap.size := by omega
  have z0 : w.heap.size < wA.heap.size := by omega
  obtain ⟨p0, p1, p2, p3, p4⟩ := cells5 H.bS
  obtain ⟨f0, f1, f2, f3, f4, f5, f6, f7, f8, f9, f10⟩ := cells11 H.bF
  clear hm hu
  go_wp2_with (go_at_call 45; (with_reducible refine (set_uN A2 B2 C L a2 b2 c d s2 i A3 c3 op 1 nx r1 r2 r3 r4 r5 r6 r7 l _ fw H.rs rV2.row hll).mono ?_); rintro e wz hN; have hz := hN.2; obtain ⟨A9, B9, C9, L9, a9, b9, c9, d9, he, _, _, _, _, _⟩ := hN.1 wz (Turn.refl _ _); subst he; have HN := hid hN; clear hN; have kR := (hz.block (w.heap.size + 1 + 1) z2).trans H.bR; have kb := bstep H.be hz; obtain ⟨q0, q1, q2, q3, q4⟩ := cells5 kR; obtain ⟨qf0, qf1, qf2, qf3, qf4⟩ := frz5 kR)
  refine bodyPost_ret (v := .agg #[.slice A9 (pSet s2 i ⟨op, 1, [nx, r1, r2, r3, r4, r5, r6, r7], l⟩).M.W.length a9, .slice B9 (pSet s2 i ⟨op, 1, [nx, r1, r2, r3, r4, r5, r6, r7], l⟩).M.G.length b9, .bool (pSet s2 i ⟨op, 1, [nx, r1, r2, r3, r4, r5, r6, r7], l⟩).M.bad, .slice C9 (pSet s2 i ⟨op, 1, [nx, r1, r2, r3, r4, r5, r6, r7], l⟩).C.length c9, .slice L9 (pSet s2 i ⟨op, 1, [nx, r1, r2, r3, r4, r5, r6, r7], l⟩).L.length d9]) (by simp [results, Try.results123, go_sem, q0, q1, q2, q3, q4]) rfl ?_
  exact ret_resN _ _ _ _ _ HN.out z2 (by omega) kb

set_option maxRecDepth 100000 in
set_option maxHeartbeats 4000000 in
theorem look_more0 (A B C L : Option Addr) (a b c d : Nat) (s : Sy) (i : Int) (AS : Option Addr) (cS : Nat) (op pc r0 r1 r2 r3 r4 r5 r6 r7 : Int) (xs : List Int) (w : World) (hs : SyFew s) (hg : 2 ≤ s.M.G.length) (h : RS w s A B C L) (hS : Row w AS xs) (h6 : xs.length ≤ 1000000) (hcS : xs.length ≤ cS) (hq : mVal s.M (wrap64 (8 + r0)) ≠ 0 ∧ xs.length < 24) (hu : ¬ 3 * (s.C.length : Int) ≤ (wrap64 (r0 + 1))) :
    Calls Try.prog 123 #[.agg #[.slice A s.M.W.length a, .slice B s.M.G.length b, .bool s.M.bad, .slice C s.C.length c, .slice L s.L.length d], .int .i64 i, .agg #[.int .i64 op, .int .i64 pc, .int .i64 r0, .int .i64 r1, .int .i64 r2, .int .i64 r3, .int .i64 r4, .int .i64 r5, .int .i64 r6, .int .i64 r7, .slice AS xs.length cS]] w (RetSysN w (pLook s i ⟨op, pc, [r0, r1, r2, r3, r4, r5, r6, r7], xs⟩)) := by
  obtain ⟨s2, hs2⟩ : ∃ t, t = syMem s (mLoad s.M (wrap64 (8 + r0))) := ⟨_, rfl⟩
  obtain ⟨vv, hvv⟩ : ∃ v, v = mVal s.M (wrap64 (8 + r0)) := ⟨_, rfl⟩
  obtain ⟨l, hl⟩ : ∃ l, l = pSeen xs vv := ⟨_, rfl⟩
  rw [← hvv] at hq
  have HC := hid (show ∀ w', Row w' A s.M.W → Row w' B s.M.G → Calls Try.prog 38 #[.agg #[.slice A s.M.W.length a, .slice B s.M.G.length b, .bool s.M.bad], .int .i64 (wrap64 (8 + r0))] w' (RetMem2O w' A B s2.M (.int .i64 vv)) from fun w' k1 k2 => by have h9 := load_o A B a b s.M (wrap64 (8 + r0)) w' k1 k2 hs.1 hs.2.1 hg (wrap64_bd _).1 (wrap64_bd _).2; rw [← hvv] at h9; rw [hs2]; exact h9)
  have lW : s2.M.W.length = s.M.W.length := by rw [hs2]; rfl
  have lG : s2.M.G.length = s.M.G.length := by rw [hs2]; rfl
  have lC : s2.C.length = s.C.length := by rw [hs2]; rfl
  have HW2 := hid lW
  have HG2 := hid lG
  have HLC := hid lC
  have fw : SyFew s2 := by rw [hs2]; exact few_mem hs rfl rfl
  have HS3 := hid (show syMem s s2.M = s2 by rw [hs2]; rfl)
  clear lW lG lC
  have hres : pLook s i ⟨op, pc, [r0, r1, r2, r3, r4, r5, r6, r7], xs⟩ = pSet s2 i ⟨op, pc, [(wrap64 (r0 + 1)), r1, r2, r3, r4, r5, r6, r7], l⟩ := by unfold pLook; rw [hl, hs2, hvv]; simp only [List.getD_cons_zero, if_neg hu]; rfl
  have hl2 : l = xs ++ [vv] := by rw [hl]; unfold pSeen; rw [if_pos hq]
  have hll : l.length ≤ 1000000 := by rw [hl2]; simp; omega
  have HMo := hid (show ∀ w', Row w' AS xs → Calls Try.prog 130 #[.slice AS xs.length cS, .int .i64 vv] w' (fun e w'' => ∃ (A' : Option Addr) (c' : Nat), e = .returned (.slice A' l.length c') ∧ Row w'' A' l ∧ l.length ≤ c' ∧ Below w'.heap.size w' w'' ∧ ∀ q, A' = some q → w'.heap.size ≤ q.block) from fun w' k1 => by have h9 := more_any AS cS xs vv w' k1 hcS h6; rw [← hl2] at h9; exact h9)
  have e1 : ¬ vv = 0 := hq.1
  have e3 : (vv != 0) = true := by simpa using hq.1
  have e2 : (xs.length : Int) < 24 := by have := hq.2; omega
  clear hl2
  rw [hres]
  obtain ⟨nx, hnx⟩ : ∃ n, n = (wrap64 (r0 + 1)) := ⟨_, rfl⟩
  rw [← hnx] at hu ⊢
  have HNX := hid hnx
  have HU := hid hu
  clear hnx
  clear hres hs2 hvv hq hl hu
  have h0 := hs.1
  have h1 := hs.2.1
  have H := SF.start w s A B C L a b c d #[.int .i64 op, .int .i64 pc, .int .i64 r0, .int .i64 r1, .int .i64 r2, .int .i64 r3, .int .i64 r4, .int .i64 r5, .int .i64 r6, .int .i64 r7, .slice AS xs.length cS] h
  clear h
  go_enter Try.func123, Try.ntmps123
  go_upto_region 2 with (fail)
  generalize (((w.alloc (.cells #[.slice A s.M.W.length a, .slice B s.M.G.length b, .bool s.M.bad, .slice C s.C.length c, .slice L s.L.length d] 28)).alloc (.cells #[.int .i64 op, .int .i64 pc, .int .i64 r0, .int .i64 r1, .int .i64 r2, .int .i64 r3, .int .i64 r4, .int .i64 r5, .int .i64 r6, .int .i64 r7, .slice AS xs.length cS] 55)).alloc (.cells #[.slice none 0 0, .slice none 0 0, .bool false, .slice none 0 0, .slice none 0 0] 28)) = w1 at *
  have z2 : w.heap.size + 1 + 1 < w1.heap.size := H.lt
  have z1 : w.heap.size + 1 < w1.heap.size := by omega
  have z0 : w.heap.size < w1.heap.size := by omega
  obtain ⟨p0, p1, p2, p3, p4⟩ := cells5 H.bS
  obtain ⟨f0, f1, f2, f3, f4, f5, f6, f7, f8, f9, f10⟩ := cells11 H.bF
  obtain ⟨pf0, pf1, pf2, pf3, pf4⟩ := frz5 H.bS
  obtain ⟨ff0, ff1, ff2, ff3, ff4, ff5, ff6, ff7, ff8, ff9, ff10⟩ := frz11 H.bF
  go_upto_region 3 with (go_at_call 38; (with_reducible refine (HC.out _ H.rW H.rG).mono ?_); rintro e w4 ⟨A2, B2, a2, b2, rfl, s1, s3, hk4, F1, F2⟩; have K4 := H.step hk4; obtain ⟨v0, v1, v2, v3, v4⟩ := cells5 K4.bS; obtain ⟨vf0, vf1, vf2, vf3, vf4⟩ := frz5 K4.bS)
  have K6 := K4.putM (m := s2.M) (a2 := a2) (b2 := b2) s1 s3 (H.whW F1 HW2.out) (H.whG F2 HG2.out)
  generalize (((w4.setCell ⟨w.heap.size, 0, none⟩ (.slice A2 s2.M.W.length a2)).setCell ⟨w.heap.size, 1, none⟩ (.slice B2 s2.M.G.length b2)).setCell ⟨w.heap.size, 2, none⟩ (.bool s2.M.bad)) = w6 at *
  clear H K4 F1 F2 s1 s3 hk4 z0 z1 z2 v0 vf0 v1 vf1 v2 vf2 v3 vf3 v4 vf4
  clear p0 p1 p2 p3 p4 f0 f1 f2 f3 f4 f5 f6 f7 f8 f9 f10 pf0 pf1 pf2 pf3 pf4 ff0 ff1 ff2 ff3 ff4 ff5 ff6 ff7 ff8 ff9 ff10
  have e9 : syMem s s2.M = s2 := HS3.out
  rw [e9] at K6
  clear e9
  have H : SF w s2 A2 B2 C L a2 b2 c d #[.int .i64 op, .int .i64 pc, .int .i64 r0, .int .i64 r1, .int .i64 r2, .int .i64 r3, .int .i64 r4, .int .i64 r5, .int .i64 r6, .int .i64 r7, .slice AS xs.length cS] w6 := K6
  clear K6
  have z2 : w.heap.size + 1 + 1 < w6.heap.size := H.lt
  have z1 : w.heap.size + 1 < w6.heap.size := by omega
  have z0 : w.heap.size < w6.heap.size := by omega
  obtain ⟨p0, p1, p2, p3, p4⟩ := cells5 H.bS
  obtain ⟨f0, f1, f2, f3, f4, f5, f6, f7, f8, f9, f10⟩ := cells11 H.bF
  obtain ⟨pf0, pf1, pf2, pf3, pf4⟩ := frz5 H.bS
  obtain ⟨ff0, ff1, ff2, ff3, ff4, ff5, ff6, ff7, ff8, ff9, ff10⟩ := frz11 H.bF
  go_upto_region 5 with (go_at_call 130; (with_reducible refine (HMo.out _ (hS.step H.be)).mono ?_); rintro e w7 ⟨A3, c3, rfl, rA3, hc3, hk7, hn7⟩; have K7 := H.step hk7; obtain ⟨-, -, -, -, -, -, -, -, -, -, g10⟩ := cells11 K7.bF; obtain ⟨-, -, -, -, -, -, -, -, -, -, gf10⟩ := frz11 K7.bF)
  have rV : RowV (V3 w) w7 A3 l := RowV.of rA3 (fun q e h => by have := hn7 q e; have := v3_bd h; omega)
  have rV2 : RowV (V3 w) (w7.setCell ⟨w.heap.size + 1, 10, none⟩ (.slice A3 l.length c3)) A3 l := rV.turn (Turn.set (p := V3 w) (Turn.refl _ _) (.inr (.inl rfl)) _ _)
  have K8 := K7.putF 10 (.slice A3 l.length c3)
  clear H K7 rV hk7 hn7 hc3 rA3 z0 z1 z2 g10 gf10
  clear p0 p1 p2 p3 p4 f0 f1 f2 f3 f4 f5 f6 f7 f8 f9 f10 pf0 pf1 pf2 pf3 pf4 ff0 ff1 ff2 ff3 ff4 ff5 ff6 ff7 ff8 ff9 ff10
  generalize w7.setCell ⟨w.heap.size + 1, 10, none⟩ (.slice A3 l.length c3) = w8 at *
  have H : SF w s2 A2 B2 C L a2 b2 c d #[.int .i64 op, .int .i64 pc, .int .i64 r0, .int .i64 r1, .int .i64 r2, .int .i64 r3, .int .i64 r4, .int .i64 r5, .int .i64 r6, .int .i64 r7, .slice A3 l.length c3] w8 := K8
  clear K8
  have z2 : w.heap.size + 1 + 1 < w8.heap.size := H.lt
  have z1 : w.heap.size + 1 < w8.heap.size := by omega
  have z0 : w.heap.size < w8.heap.size := by omega
  obtain ⟨p0, p1, p2, p3, p4⟩ := cells5 H.bS
  obtain ⟨f0, f1, f2, f3, f4, f5, f6, f7, f8, f9, f10⟩ := cells11 H.bF
  obtain ⟨pf0, pf1, pf2, pf3, pf4⟩ := frz5 H.bS
  obtain ⟨ff0, ff1, ff2, ff3, ff4, ff5, ff6, ff7, ff8, ff9, ff10⟩ := frz11 H.bF
  go_upto_region 6 with (fail)
  have rV3 : RowV (V3 w) (w8.setCell ⟨w.heap.size + 1, 2, none⟩ (.int .i64 (wrap64 (r0 + 1)))) A3 l := rV2.turn (Turn.set (p := V3 w) (Turn.refl _ _) (.inr (.inl rfl)) _ _)
  have K8 := H.putF 2 (.int .i64 (wrap64 (r0 + 1)))
  clear H rV2 z0 z1 z2
  clear p0 p1 p2 p3 p4 f0 f1 f2 f3 f4 f5 f6 f7 f8 f9 f10 pf0 pf1 pf2 pf3 pf4 ff0 ff1 ff2 ff3 ff4 ff5 ff6 ff7 ff8 ff9 ff10
  generalize w8.setCell ⟨w.heap.size + 1, 2, none⟩ (.int .i64 (wrap64 (r0 + 1))) = w9 at *
  have rV2 := rV3
  clear rV3
  have H : SF w s2 A2 B2 C L a2 b2 c d #[.int .i64 op, .int .i64 pc, .int .i64 (wrap64 (r0 + 1)), .int .i64 r1, .int .i64 r2, .int .i64 r3, .int .i64 r4, .int .i64 r5, .int .i64 r6, .int .i64 r7, .slice A3 l.length c3] w9 := K8
  clear K8
  have z2 : w.heap.size + 1 + 1 < w9.heap.size := H.lt
  have z1 : w.heap.size + 1 < w9.heap.size := by omega
  have z0 : w.heap.size < w9.heap.size := by omega
  have hm : wrap64 (3 * (s2.C.length : Int)) = 3 * (s2.C.length : Int) := by have := fw.2.2.1; unfold wrap64; omega
  have hu := HU.out
  rw [← HLC.out] at hu
  rw [← HNX.out] at H
  obtain ⟨p0, p1, p2, p3, p4⟩ := cells5 H.bS
  obtain ⟨f0, f1, f2, f3, f4, f5, f6, f7, f8, f9, f10⟩ := cells11 H.bF
  obtain ⟨pf0, pf1, pf2, pf3, pf4⟩ := frz5 H.bS
  obtain ⟨ff0, ff1, ff2, ff3, ff4, ff5, ff6, ff7, ff8, ff9, ff10⟩ := frz11 H.bF
  go_upto_region 8 with (fail)
  clear hm hu
  go_wp2_with (go_at_call 45; (with_reducible refine (set_uN A2 B2 C L a2 b2 c d s2 i A3 c3 op pc nx r1 r2 r3 r4 r5 r6 r7 l _ fw H.rs rV2.row hll).mono ?_); rintro e wz hN; have hz := hN.2; obtain ⟨A9, B9, C9, L9, a9, b9, c9, d9, he, _, _, _, _, _⟩ := hN.1 wz (Turn.refl _ _); subst he; have HN := hid hN; clear hN; have kR := (hz.block (w.heap.size + 1 + 1) z2).trans H.bR; have kb := bstep H.be hz; obtain ⟨q0, q1, q2, q3, q4⟩ := cells5 kR; obtain ⟨qf0, qf1, qf2, qf3, qf4⟩ := frz5 kR)
  refine bodyPost_ret (v := .agg #[.slice A9 (pSet s2 i ⟨op, pc, [nx, r1, r2, r3, r4, r5, r6, r7], l⟩).M.W.length a9, .slice B9 (pSet s2 i ⟨op, pc, [nx, r1, r2, r3, r4, r5, r6, r7], l⟩).M.G.length b9, .bool (pSet s2 i ⟨op, pc, [nx, r1, r2, r3, r4, r5, r6, r7], l⟩).M.bad, .slice C9 (pSet s2 i ⟨op, pc, [nx, r1, r2, r3, r4, r5, r6, r7], l⟩).C.length c9, .slice L9 (pSet s2 i ⟨op, pc, [nx, r1, r2, r3, r4, r5, r6, r7], l⟩).L.length d9]) (by simp [results, Try.results123, go_sem, q0, q1, q2, q3, q4]) rfl ?_
  exact ret_resN _ _ _ _ _ HN.out z2 (by omega) kb

set_option maxRecDepth 100000 in
set_option maxHeartbeats 4000000 in
theorem look_zero1 (A B C L : Option Addr) (a b c d : Nat) (s : Sy) (i : Int) (AS : Option Addr) (cS : Nat) (op pc r0 r1 r2 r3 r4 r5 r6 r7 : Int) (xs : List Int) (w : World) (hs : SyFew s) (hg : 2 ≤ s.M.G.length) (h : RS w s A B C L) (hS : Row w AS xs) (h6 : xs.length ≤ 1000000) (hcS : xs.length ≤ cS) (hq : mVal s.M (wrap64 (8 + r0)) = 0) (hu : 3 * (s.C.length : Int) ≤ (wrap64 (r0 + 1))) :
    Calls Try.prog 123 #[.agg #[.slice A s.M.W.length a, .slice B s.M.G.length b, .bool s.M.bad, .slice C s.C.length c, .slice L s.L.length d], .int .i64 i, .agg #[.int .i64 op, .int .i64 pc, .int .i64 r0, .int .i64 r1, .int .i64 r2, .int .i64 r3, .int .i64 r4, .int .i64 r5, .int .i64 r6, .int .i64 r7, .slice AS xs.length cS]] w (RetSysN w (pLook s i ⟨op, pc, [r0, r1, r2, r3, r4, r5, r6, r7], xs⟩)) := by
  obtain ⟨s2, hs2⟩ : ∃ t, t = syMem s (mLoad s.M (wrap64 (8 + r0))) := ⟨_, rfl⟩
  obtain ⟨vv, hvv⟩ : ∃ v, v = mVal s.M (wrap64 (8 + r0)) := ⟨_, rfl⟩
  obtain ⟨l, hl⟩ : ∃ l, l = pSeen xs vv := ⟨_, rfl⟩
  rw [← hvv] at hq
  have HC := hid (show ∀ w', Row w' A s.M.W → Row w' B s.M.G → Calls Try.prog 38 #[.agg #[.slice A s.M.W.length a, .slice B s.M.G.length b, .bool s.M.bad], .int .i64 (wrap64 (8 + r0))] w' (RetMem2O w' A B s2.M (.int .i64 vv)) from fun w' k1 k2 => by have h9 := load_o A B a b s.M (wrap64 (8 + r0)) w' k1 k2 hs.1 hs.2.1 hg (wrap64_bd _).1 (wrap64_bd _).2; rw [← hvv] at h9; rw [hs2]; exact h9)
  have lW : s2.M.W.length = s.M.W.length := by rw [hs2]; rfl
  have lG : s2.M.G.length = s.M.G.length := by rw [hs2]; rfl
  have lC : s2.C.length = s.C.length := by rw [hs2]; rfl
  have HW2 := hid lW
  have HG2 := hid lG
  have HLC := hid lC
  have fw : SyFew s2 := by rw [hs2]; exact few_mem hs rfl rfl
  have HS3 := hid (show syMem s s2.M = s2 by rw [hs2]; rfl)
  clear lW lG lC
  have hres : pLook s i ⟨op, pc, [r0, r1, r2, r3, r4, r5, r6, r7], xs⟩ = pSet s2 i ⟨op, 1, [(wrap64 (r0 + 1)), r1, r2, r3, r4, r5, r6, r7], l⟩ := by unfold pLook; rw [hl, hs2, hvv]; simp only [List.getD_cons_zero, if_pos hu]; rfl
  have hl2 : l = xs := by rw [hl]; unfold pSeen; rw [if_neg (by rw [hq]; simp)]
  subst hl2
  have hll := h6
  subst hq
  have hq := True.intro
  rw [hres]
  obtain ⟨nx, hnx⟩ : ∃ n, n = (wrap64 (r0 + 1)) := ⟨_, rfl⟩
  rw [← hnx] at hu ⊢
  have HNX := hid hnx
  have HU := hid hu
  clear hnx
  clear hres hs2 hvv hq hl hu
  have h0 := hs.1
  have h1 := hs.2.1
  have H := SF.start w s A B C L a b c d #[.int .i64 op, .int .i64 pc, .int .i64 r0, .int .i64 r1, .int .i64 r2, .int .i64 r3, .int .i64 r4, .int .i64 r5, .int .i64 r6, .int .i64 r7, .slice AS l.length cS] h
  clear h
  go_enter Try.func123, Try.ntmps123
  go_upto_region 2 with (fail)
  generalize (((w.alloc (.cells #[.slice A s.M.W.length a, .slice B s.M.G.length b, .bool s.M.bad, .slice C s.C.length c, .slice L s.L.length d] 28)).alloc (.cells #[.int .i64 op, .int .i64 pc, .int .i64 r0, .int .i64 r1, .int .i64 r2, .int .i64 r3, .int .i64 r4, .int .i64 r5, .int .i64 r6, .int .i64 r7, .slice AS l.length cS] 55)).alloc (.cells #[.slice none 0 0, .slice none 0 0, .bool false, .slice none 0 0, .slice none 0 0] 28)) = w1 at *
  have z2 : w.heap.size + 1 + 1 < w1.heap.size := H.lt
  have z1 : w.heap.size + 1 < w1.heap.size := by omega
  have z0 : w.heap.size < w1.heap.size := by omega
  obtain ⟨p0, p1, p2, p3, p4⟩ := cells5 H.bS
  obtain ⟨f0, f1, f2, f3, f4, f5, f6, f7, f8, f9, f10⟩ := cells11 H.bF
  obtain ⟨pf0, pf1, pf2, pf3, pf4⟩ := frz5 H.bS
  obtain ⟨ff0, ff1, ff2, ff3, ff4, ff5, ff6, ff7, ff8, ff9, ff10⟩ := frz11 H.bF
  go_upto_region 3 with (go_at_call 38; (with_reducible refine (HC.out _ H.rW H.rG).mono ?_); rintro e w4 ⟨A2, B2, a2, b2, rfl, s1, s3, hk4, F1, F2⟩; have K4 := H.step hk4; obtain ⟨v0, v1, v2, v3, v4⟩ := cells5 K4.bS; obtain ⟨vf0, vf1, vf2, vf3, vf4⟩ := frz5 K4.bS)
  have K6 := K4.putM (m := s2.M) (a2 := a2) (b2 := b2) s1 s3 (H.whW F1 HW2.out) (H.whG F2 HG2.out)
  generalize (((w4.setCell ⟨w.heap.size, 0, none⟩ (.slice A2 s2.M.W.length a2)).setCell ⟨w.heap.size, 1, none⟩ (.slice B2 s2.M.G.length b2)).setCell ⟨w.heap.size, 2, none⟩ (.bool s2.M.bad)) = w6 at *
  clear H K4 F1 F2 s1 s3 hk4 z0 z1 z2 v0 vf0 v1 vf1 v2 vf2 v3 vf3 v4 vf4
  clear p0 p1 p2 p3 p4 f0 f1 f2 f3 f4 f5 f6 f7 f8 f9 f10 pf0 pf1 pf2 pf3 pf4 ff0 ff1 ff2 ff3 ff4 ff5 ff6 ff7 ff8 ff9 ff10
  have e9 : syMem s s2.M = s2 := HS3.out
  rw [e9] at K6
  clear e9
  have H : SF w s2 A2 B2 C L a2 b2 c d #[.int .i64 op, .int .i64 pc, .int .i64 r0, .int .i64 r1, .int .i64 r2, .int .i64 r3, .int .i64 r4, .int .i64 r5, .int .i64 r6, .int .i64 r7, .slice AS l.length cS] w6 := K6
  clear K6
  have z2 : w.heap.size + 1 + 1 < w6.heap.size := H.lt
  have z1 : w.heap.size + 1 < w6.heap.size := by omega
  have z0 : w.heap.size < w6.heap.size := by omega
  obtain ⟨p0, p1, p2, p3, p4⟩ := cells5 H.bS
  obtain ⟨f0, f1, f2, f3, f4, f5, f6, f7, f8, f9, f10⟩ := cells11 H.bF
  obtain ⟨pf0, pf1, pf2, pf3, pf4⟩ := frz5 H.bS
  obtain ⟨ff0, ff1, ff2, ff3, ff4, ff5, ff6, ff7, ff8, ff9, ff10⟩ := frz11 H.bF
  go_upto_region 5 with (fail)
  have rV2 : RowV (V3 w) w6 AS l := RowV.old hS H.be (fun _ h => v3_ge h)
  clear p0 p1 p2 p3 p4 f0 f1 f2 f3 f4 f5 f6 f7 f8 f9 f10 pf0 pf1 pf2 pf3 pf4 ff0 ff1 ff2 ff3 ff4 ff5 ff6 ff7 ff8 ff9 ff10
  obtain ⟨p0, p1, p2, p3, p4⟩ := cells5 H.bS
  obtain ⟨f0, f1, f2, f3, f4, f5, f6, f7, f8, f9, f10⟩ := cells11 H.bF
  obtain ⟨pf0, pf1, pf2, pf3, pf4⟩ := frz5 H.bS
  obtain ⟨ff0, ff1, ff2, ff3, ff4, ff5, ff6, ff7, ff8, ff9, ff10⟩ := frz11 H.bF
  go_upto_region 6 with (fail)
  have rV3 : RowV (V3 w) (w6.setCell ⟨w.heap.size + 1, 2, none⟩ (.int .i64 (wrap64 (r0 + 1)))) AS l := rV2.turn (Turn.set (p := V3 w) (Turn.refl _ _) (.inr (.inl rfl)) _ _)
  have K8 := H.putF 2 (.int .i64 (wrap64 (r0 + 1)))
  clear H rV2 z0 z1 z2
  clear p0 p1 p2 p3 p4 f0 f1 f2 f3 f4 f5 f6 f7 f8 f9 f10 pf0 pf1 pf2 pf3 pf4 ff0 ff1 ff2 ff3 ff4 ff5 ff6 ff7 ff8 ff9 ff10
  generalize w6.setCell ⟨w.heap.size + 1, 2, none⟩ (.int .i64 (wrap64 (r0 + 1))) = w9 at *
  have rV2 := rV3
  clear rV3
  have H : SF w s2 A2 B2 C L a2 b2 c d #[.int .i64 op, .int .i64 pc, .int .i64 (wrap64 (r0 + 1)), .int .i64 r1, .int .i64 r2, .int .i64 r3, .int .i64 r4, .int .i64 r5, .int .i64 r6, .int .i64 r7, .slice AS l.length cS] w9 := K8
  clear K8
  have z2 : w.heap.size + 1 + 1 < w9.heap.size := H.lt
  have z1 : w.heap.size + 1 < w9.heap.size := by omega
  have z0 : w.heap.size < w9.heap.size := by omega
  have hm : wrap64 (3 * (s2.C.length : Int)) = 3 * (s2.C.length : Int) := by have := fw.2.2.1; unfold wrap64; omega
  have hu := HU.out
  rw [← HLC.out] at hu
  rw [← HNX.out] at H
  obtain ⟨p0, p1, p2, p3, p4⟩ := cells5 H.bS
  obtain ⟨f0, f1, f2, f3, f4, f5, f6, f7, f8, f9, f10⟩ := cells11 H.bF
  obtain ⟨pf0, pf1, pf2, pf3, pf4⟩ := frz5 H.bS
  obtain ⟨ff0, ff1, ff2, ff3, ff4, ff5, ff6, ff7, ff8, ff9, ff10⟩ := frz11 H.bF
  go_upto_region 7 with (fail)
  go_upto_region 8 with (fail)
  have rV3 : RowV (V3 w) (w9.setCell ⟨w.heap.size + 1, 1, none⟩ (.int .i64 1)) AS l := rV2.turn (Turn.set (p := V3 w) (Turn.refl _ _) (.inr (.inl rfl)) _ _)
  have K8 := H.putF 1 (.int .i64 1)
  clear H rV2 z0 z1 z2
  clear p0 p1 p2 p3 p4 f0 f1 f2 f3 f4 f5 f6 f7 f8 f9 f10 pf0 pf1 pf2 pf3 pf4 ff0 ff1 ff2 ff3 ff4 ff5 ff6 ff7 ff8 ff9 ff10
  generalize w9.setCell ⟨w.heap.size + 1, 1, none⟩ (.int .i64 1) = wA at *
  have rV2 := rV3
  clear rV3
  have H : SF w s2 A2 B2 C L a2 b2 c d #[.int .i64 op, .int .i64 1, .int .i64 nx, .int .i64 r1, .int .i64 r2, .int .i64 r3, .int .i64 r4, .int .i64 r5, .int .i64 r6, .int .i64 r7, .slice AS l.length cS] wA := K8
  clear K8
  have z2 : w.heap.size + 1 + 1 < wA.heap.size := H.lt
  have z1 : w.heap.size + 1 < wA.heap.size := by omega
  have z0 : w.heap.size < wA.heap.size := by omega
  obtain ⟨p0, p1, p2, p3, p4⟩ := cells5 H.bS
  obtain ⟨f0, f1, f2, f3, f4, f5, f6, f7, f8, f9, f10⟩ := cells11 H.bF
  clear hm hu
  go_wp2_with (go_at_call 45; (with_reducible refine (set_uN A2 B2 C L a2 b2 c d s2 i AS cS op 1 nx r1 r2 r3 r4 r5 r6 r7 l _ fw H.rs rV2.row hll).mono ?_); rintro e wz hN; have hz := hN.2; obtain ⟨A9, B9, C9, L9, a9, b9, c9, d9, he, _, _, _, _, _⟩ := hN.1 wz (Turn.refl _ _); subst he; have HN := hid hN; clear hN; have kR := (hz.block (w.heap.size + 1 + 1) z2).trans H.bR; have kb := bstep H.be hz; obtain ⟨q0, q1, q2, q3, q4⟩ := cells5 kR; obtain ⟨qf0, qf1, qf2, qf3, qf4⟩ := frz5 kR)
  refine bodyPost_ret (v := .agg #[.slice A9 (pSet s2 i ⟨op, 1, [nx, r1, r2, r3, r4, r5, r6, r7], l⟩).M.W.length a9, .slice B9 (pSet s2 i ⟨op, 1, [nx, r1, r2, r3, r4, r5, r6, r7], l⟩).M.G.length b9, .bool (pSet s2 i ⟨op, 1, [nx, r1, r2, r3, r4, r5, r6, r7], l⟩).M.bad, .slice C9 (pSet s2 i ⟨op, 1, [nx, r1, r2, r3, r4, r5, r6, r7], l⟩).C.length c9, .slice L9 (pSet s2 i ⟨op, 1, [nx, r1, r2, r3, r4, r5, r6, r7], l⟩).L.length d9]) (by simp [results, Try.results123, go_sem, q0, q1, q2, q3, q4]) rfl ?_
  exact ret_resN _ _ _ _ _ HN.out z2 (by omega) kb

set_option maxRecDepth 100000 in
set_option maxHeartbeats 4000000 in
theorem look_zero0 (A B C L : Option Addr) (a b c d : Nat) (s : Sy) (i : Int) (AS : Option Addr) (cS : Nat) (op pc r0 r1 r2 r3 r4 r5 r6 r7 : Int) (xs : List Int) (w : World) (hs : SyFew s) (hg : 2 ≤ s.M.G.length) (h : RS w s A B C L) (hS : Row w AS xs) (h6 : xs.length ≤ 1000000) (hcS : xs.length ≤ cS) (hq : mVal s.M (wrap64 (8 + r0)) = 0) (hu : ¬ 3 * (s.C.length : Int) ≤ (wrap64 (r0 + 1))) :
    Calls Try.prog 123 #[.agg #[.slice A s.M.W.length a, .slice B s.M.G.length b, .bool s.M.bad, .slice C s.C.length c, .slice L s.L.length d], .int .i64 i, .agg #[.int .i64 op, .int .i64 pc, .int .i64 r0, .int .i64 r1, .int .i64 r2, .int .i64 r3, .int .i64 r4, .int .i64 r5, .int .i64 r6, .int .i64 r7, .slice AS xs.length cS]] w (RetSysN w (pLook s i ⟨op, pc, [r0, r1, r2, r3, r4, r5, r6, r7], xs⟩)) := by
  obtain ⟨s2, hs2⟩ : ∃ t, t = syMem s (mLoad s.M (wrap64 (8 + r0))) := ⟨_, rfl⟩
  obtain ⟨vv, hvv⟩ : ∃ v, v = mVal s.M (wrap64 (8 + r0)) := ⟨_, rfl⟩
  obtain ⟨l, hl⟩ : ∃ l, l = pSeen xs vv := ⟨_, rfl⟩
  rw [← hvv] at hq
  have HC := hid (show ∀ w', Row w' A s.M.W → Row w' B s.M.G → Calls Try.prog 38 #[.agg #[.slice A s.M.W.length a, .slice B s.M.G.length b, .bool s.M.bad], .int .i64 (wrap64 (8 + r0))] w' (RetMem2O w' A B s2.M (.int .i64 vv)) from fun w' k1 k2 => by have h9 := load_o A B a b s.M (wrap64 (8 + r0)) w' k1 k2 hs.1 hs.2.1 hg (wrap64_bd _).1 (wrap64_bd _).2; rw [← hvv] at h9; rw [hs2]; exact h9)
  have lW : s2.M.W.length = s.M.W.length := by rw [hs2]; rfl
  have lG : s2.M.G.length = s.M.G.length := by rw [hs2]; rfl
  have lC : s2.C.length = s.C.length := by rw [hs2]; rfl
  have HW2 := hid lW
  have HG2 := hid lG
  have HLC := hid lC
  have fw : SyFew s2 := by rw [hs2]; exact few_mem hs rfl rfl
  have HS3 := hid (show syMem s s2.M = s2 by rw [hs2]; rfl)
  clear lW lG lC
  have hres : pLook s i ⟨op, pc, [r0, r1, r2, r3, r4, r5, r6, r7], xs⟩ = pSet s2 i ⟨op, pc, [(wrap64 (r0 + 1)), r1, r2, r3, r4, r5, r6, r7], l⟩ := by unfold pLook; rw [hl, hs2, hvv]; simp only [List.getD_cons_zero, if_neg hu]; rfl
  have hl2 : l = xs := by rw [hl]; unfold pSeen; rw [if_neg (by rw [hq]; simp)]
  subst hl2
  have hll := h6
  subst hq
  have hq := True.intro
  rw [hres]
  obtain ⟨nx, hnx⟩ : ∃ n, n = (wrap64 (r0 + 1)) := ⟨_, rfl⟩
  rw [← hnx] at hu ⊢
  have HNX := hid hnx
  have HU := hid hu
  clear hnx
  clear hres hs2 hvv hq hl hu
  have h0 := hs.1
  have h1 := hs.2.1
  have H := SF.start w s A B C L a b c d #[.int .i64 op, .int .i64 pc, .int .i64 r0, .int .i64 r1, .int .i64 r2, .int .i64 r3, .int .i64 r4, .int .i64 r5, .int .i64 r6, .int .i64 r7, .slice AS l.length cS] h
  clear h
  go_enter Try.func123, Try.ntmps123
  go_upto_region 2 with (fail)
  generalize (((w.alloc (.cells #[.slice A s.M.W.length a, .slice B s.M.G.length b, .bool s.M.bad, .slice C s.C.length c, .slice L s.L.length d] 28)).alloc (.cells #[.int .i64 op, .int .i64 pc, .int .i64 r0, .int .i64 r1, .int .i64 r2, .int .i64 r3, .int .i64 r4, .int .i64 r5, .int .i64 r6, .int .i64 r7, .slice AS l.length cS] 55)).alloc (.cells #[.slice none 0 0, .slice none 0 0, .bool false, .slice none 0 0, .slice none 0 0] 28)) = w1 at *
  have z2 : w.heap.size + 1 + 1 < w1.heap.size := H.lt
  have z1 : w.heap.size + 1 < w1.heap.size := by omega
  have z0 : w.heap.size < w1.heap.size := by omega
  obtain ⟨p0, p1, p2, p3, p4⟩ := cells5 H.bS
  obtain ⟨f0, f1, f2, f3, f4, f5, f6, f7, f8, f9, f10⟩ := cells11 H.bF
  obtain ⟨pf0, pf1, pf2, pf3, pf4⟩ := frz5 H.bS
  obtain ⟨ff0, ff1, ff2, ff3, ff4, ff5, ff6, ff7, ff8, ff9, ff10⟩ := frz11 H.bF
  go_upto_region 3 with (go_at_call 38; (with_reducible refine (HC.out _ H.rW H.rG).mono ?_); rintro e w4 ⟨A2, B2, a2, b2, rfl, s1, s3, hk4, F1, F2⟩; have K4 := H.step hk4; obtain ⟨v0, v1, v2, v3, v4⟩ := cells5 K4.bS; obtain ⟨vf0, vf1, vf2, vf3, vf4⟩ := frz5 K4.bS)
  have K6 := K4.putM (m := s2.M) (a2 := a2) (b2 := b2) s1 s3 (H.whW F1 HW2.out) (H.whG F2 HG2.out)
  generalize (((w4.setCell ⟨w.heap.size, 0, none⟩ (.slice A2 s2.M.W.length a2)).setCell ⟨w.heap.size, 1, none⟩ (.slice B2 s2.M.G.length b2)).setCell ⟨w.heap.size, 2, none⟩ (.bool s2.M.bad)) = w6 at *
  clear H K4 F1 F2 s1 s3 hk4 z0 z1 z2 v0 vf0 v1 vf1 v2 vf2 v3 vf3 v4 vf4
  clear p0 p1 p2 p3 p4 f0 f1 f2 f3 f4 f5 f6 f7 f8 f9 f10 pf0 pf1 pf2 pf3 pf4 ff0 ff1 ff2 ff3 ff4 ff5 ff6 ff7 ff8 ff9 ff10
  have e9 : syMem s s2.M = s2 := HS3.out
  rw [e9] at K6
  clear e9
  have H : SF w s2 A2 B2 C L a2 b2 c d #[.int .i64 op, .int .i64 pc, .int .i64 r0, .int .i64 r1, .int .i64 r2, .int .i64 r3, .int .i64 r4, .int .i64 r5, .int .i64 r6, .int .i64 r7, .slice AS l.length cS] w6 := K6
  clear K6
  have z2 : w.heap.size + 1 + 1 < w6.heap.size := H.lt
  have z1 : w.heap.size + 1 < w6.heap.size := by omega
  have z0 : w.heap.size < w6.heap.size := by omega
  obtain ⟨p0, p1, p2, p3, p4⟩ := cells5 H.bS
  obtain ⟨f0, f1, f2, f3, f4, f5, f6, f7, f8, f9, f10⟩ := cells11 H.bF
  obtain ⟨pf0, pf1, pf2, pf3, pf4⟩ := frz5 H.bS
  obtain ⟨ff0, ff1, ff2, ff3, ff4, ff5, ff6, ff7, ff8, ff9, ff10⟩ := frz11 H.bF
  go_upto_region 5 with (fail)
  have rV2 : RowV (V3 w) w6 AS l := RowV.old hS H.be (fun _ h => v3_ge h)
  clear p0 p1 p2 p3 p4 f0 f1 f2 f3 f4 f5 f6 f7 f8 f9 f10 pf0 pf1 pf2 pf3 pf4 ff0 ff1 ff2 ff3 ff4 ff5 ff6 ff7 ff8 ff9 ff10
  obtain ⟨p0, p1, p2, p3, p4⟩ := cells5 H.bS
  obtain ⟨f0, f1, f2, f3, f4, f5, f6, f7, f8, f9, f10⟩ := cells11 H.bF
  obtain ⟨pf0, pf1, pf2, pf3, pf4⟩ := frz5 H.bS
  obtain ⟨ff0, ff1, ff2, ff3, ff4, ff5, ff6, ff7, ff8, ff9, ff10⟩ := frz11 H.bF
  go_upto_region 6 with (fail)
  have rV3 : RowV (V3 w) (w6.setCell ⟨w.heap.size + 1, 2, none⟩ (.int .i64 (wrap64 (r0 + 1)))) AS l := rV2.turn (Turn.set (p := V3 w) (Turn.refl _ _) (.inr (.inl rfl)) _ _)
  have K8 := H.putF 2 (.int .i64 (wrap64 (r0 + 1)))
  clear H rV2 z0 z1 z2
  clear p0 p1 p2 p3 p4 f0 f1 f2 f3 f4 f5 f6 f7 f8 f9 f10 pf0 pf1 pf2 pf3 pf4 ff0 ff1 ff2 ff3 ff4 ff5 ff6 ff7 ff8 ff9 ff10
  generalize w6.setCell ⟨w.heap.size + 1, 2, none⟩ (.int .i64 (wrap64 (r0 + 1))) = w9 at *
  have rV2 := rV3
  clear rV3
  have H : SF w s2 A2 B2 C L a2 b2 c d #[.int .i64 op, .int .i64 pc, .int .i64 (wrap64 (r0 + 1)), .int .i64 r1, .int .i64 r2, .int .i64 r3, .int .i64 r4, .int .i64 r5, .int .i64 r6, .int .i64 r7, .slice AS l.length cS] w9 := K8
  clear K8
  have z2 : w.heap.size + 1 + 1 < w9.heap.size := H.lt
  have z1 : w.heap.size + 1 < w9.heap.size := by omega
  have z0 : w.heap.size < w9.heap.size := by omega
  have hm : wrap64 (3 * (s2.C.length : Int)) = 3 * (s2.C.length : Int) := by have := fw.2.2.1; unfold wrap64; omega
  have hu := HU.out
  rw [← HLC.out] at hu
  rw [← HNX.out] at H
  obtain ⟨p0, p1, p2, p3, p4⟩ := cells5 H.bS
  obtain ⟨f0, f1, f2, f3, f4, f5, f6, f7, f8, f9, f10⟩ := cells11 H.bF
  obtain ⟨pf0, pf1, pf2, pf3, pf4⟩ := frz5 H.bS
  obtain ⟨ff0, ff1, ff2, ff3, ff4, ff5, ff6, ff7, ff8, ff9, ff10⟩ := frz11 H.bF
  go_upto_region 8 with (fail)
  clear hm hu
  go_wp2_with (go_at_call 45; (with_reducible refine (set_uN A2 B2 C L a2 b2 c d s2 i AS cS op pc nx r1 r2 r3 r4 r5 r6 r7 l _ fw H.rs rV2.row hll).mono ?_); rintro e wz hN; have hz := hN.2; obtain ⟨A9, B9, C9, L9, a9, b9, c9, d9, he, _, _, _, _, _⟩ := hN.1 wz (Turn.refl _ _); subst he; have HN := hid hN; clear hN; have kR := (hz.block (w.heap.size + 1 + 1) z2).trans H.bR; have kb := bstep H.be hz; obtain ⟨q0, q1, q2, q3, q4⟩ := cells5 kR; obtain ⟨qf0, qf1, qf2, qf3, qf4⟩ := frz5 kR)
  refine bodyPost_ret (v := .agg #[.slice A9 (pSet s2 i ⟨op, pc, [nx, r1, r2, r3, r4, r5, r6, r7], l⟩).M.W.length a9, .slice B9 (pSet s2 i ⟨op, pc, [nx, r1, r2, r3, r4, r5, r6, r7], l⟩).M.G.length b9, .bool (pSet s2 i ⟨op, pc, [nx, r1, r2, r3, r4, r5, r6, r7], l⟩).M.bad, .slice C9 (pSet s2 i ⟨op, pc, [nx, r1, r2, r3, r4, r5, r6, r7], l⟩).C.length c9, .slice L9 (pSet s2 i ⟨op, pc, [nx, r1, r2, r3, r4, r5, r6, r7], l⟩).L.length d9]) (by simp [results, Try.results123, go_sem, q0, q1, q2, q3, q4]) rfl ?_
  exact ret_resN _ _ _ _ _ HN.out z2 (by omega) kb

set_option maxRecDepth 100000 in
set_option maxHeartbeats 4000000 in
theorem look_full1 (A B C L : Option Addr) (a b c d : Nat) (s : Sy) (i : Int) (AS : Option Addr) (cS : Nat) (op pc r0 r1 r2 r3 r4 r5 r6 r7 : Int) (xs : List Int) (w : World) (hs : SyFew s) (hg : 2 ≤ s.M.G.length) (h : RS w s A B C L) (hS : Row w AS xs) (h6 : xs.length ≤ 1000000) (hcS : xs.length ≤ cS) (hq : mVal s.M (wrap64 (8 + r0)) ≠ 0 ∧ 24 ≤ xs.length) (hu : 3 * (s.C.length : Int) ≤ (wrap64 (r0 + 1))) :
    Calls Try.prog 123 #[.agg #[.slice A s.M.W.length a, .slice B s.M.G.length b, .bool s.M.bad, .slice C s.C.length c, .slice L s.L.length d], .int .i64 i, .agg #[.int .i64 op, .int .i64 pc, .int .i64 r0, .int .i64 r1, .int .i64 r2, .int .i64 r3, .int .i64 r4, .int .i64 r5, .int .i64 r6, .int .i64 r7, .slice AS xs.length cS]] w (RetSysN w (pLook s i ⟨op, pc, [r0, r1, r2, r3, r4, r5, r6, r7], xs⟩)) := by
  obtain ⟨s2, hs2⟩ : ∃ t, t = syMem s (mLoad s.M (wrap64 (8 + r0))) := ⟨_, rfl⟩
  obtain ⟨vv, hvv⟩ : ∃ v, v = mVal s.M (wrap64 (8 + r0)) := ⟨_, rfl⟩
  obtain ⟨l, hl⟩ : ∃ l, l = pSeen xs vv := ⟨_, rfl⟩
  rw [← hvv] at hq
  have HC := hid (show ∀ w', Row w' A s.M.W → Row w' B s.M.G → Calls Try.prog 38 #[.agg #[.slice A s.M.W.length a, .slice B s.M.G.length b, .bool s.M.bad], .int .i64 (wrap64 (8 + r0))] w' (RetMem2O w' A B s2.M (.int .i64 vv)) from fun w' k1 k2 => by have h9 := load_o A B a b s.M (wrap64 (8 + r0)) w' k1 k2 hs.1 hs.2.1 hg (wrap64_bd _).1 (wrap64_bd _).2; rw [← hvv] at h9; rw [hs2]; exact h9)
  have lW : s2.M.W.length = s.M.W.length := by rw [hs2]; rfl
  have lG : s2.M.G.length = s.M.G.length := by rw [hs2]; rfl
  have lC : s2.C.length = s.C.length := by rw [hs2]; rfl
  have HW2 := hid lW
  have HG2 := hid lG
  have HLC := hid lC
  have fw : SyFew s2 := by rw [hs2]; exact few_mem hs rfl rfl
  have HS3 := hid (show syMem s s2.M = s2 by rw [hs2]; rfl)
  clear lW lG lC
  have hres : pLook s i ⟨op, pc, [r0, r1, r2, r3, r4, r5, r6, r7], xs⟩ = pSet s2 i ⟨op, 1, [(wrap64 (r0 + 1)), r1, r2, r3, r4, r5, r6, r7], l⟩ := by unfold pLook; rw [hl, hs2, hvv]; simp only [List.getD_cons_zero, if_pos hu]; rfl
  have hl2 : l = xs := by rw [hl]; unfold pSeen; rw [if_neg (by intro h; have := h.2; have := hq.2; omega)]
  subst hl2
  have hll := h6
  have e1 : ¬ vv = 0 := hq.1
  have e3 : (vv != 0) = true := by simpa using hq.1
  have e2 : ¬ (l.length : Int) < 24 := by have := hq.2; omega
  rw [hres]
  obtain ⟨nx, hnx⟩ : ∃ n, n = (wrap64 (r0 + 1)) := ⟨_, rfl⟩
  rw [← hnx] at hu ⊢
  have HNX := hid hnx
  have HU := hid hu
  clear hnx
  clear hres hs2 hvv hq hl hu
  have h0 := hs.1
  have h1 := hs.2.1
  have H := SF.start w s A B C L a b c d #[.int .i64 op, .int .i64 pc, .int .i64 r0, .int .i64 r1, .int .i64 r2, .int .i64 r3, .int .i64 r4, .int .i64 r5, .int .i64 r6, .int .i64 r7, .slice AS l.length cS] h
  clear h
  go_enter Try.func123, Try.ntmps123
  go_upto_region 2 with (fail)
  generalize (((w.alloc (.cells #[.slice A s.M.W.length a, .slice B s.M.G.length b, .bool s.M.bad, .slice C s.C.length c, .slice L s.L.length d] 28)).alloc (.cells #[.int .i64 op, .int .i64 pc, .int .i64 r0, .int .i64 r1, .int .i64 r2, .int .i64 r3, .int .i64 r4, .int .i64 r5, .int .i64 r6, .int .i64 r7, .slice AS l.length cS] 55)).alloc (.cells #[.slice none 0 0, .slice none 0 0, .bool false, .slice none 0 0, .slice none 0 0] 28)) = w1 at *
  have z2 : w.heap.size + 1 + 1 < w1.heap.size := H.lt
  have z1 : w.heap.size + 1 < w1.heap.size := by omega
  have z0 : w.heap.size < w1.heap.size := by omega
  obtain ⟨p0, p1, p2, p3, p4⟩ := cells5 H.bS
  obtain ⟨f0, f1, f2, f3, f4, f5, f6, f7, f8, f9, f10⟩ := cells11 H.bF
  obtain ⟨pf0, pf1, pf2, pf3, pf4⟩ := frz5 H.bS
  obtain ⟨ff0, ff1, ff2, ff3, ff4, ff5, ff6, ff7, ff8, ff9, ff10⟩ := frz11 H.bF
  go_upto_region 3 with (go_at_call 38; (with_reducible refine (HC.out _ H.rW H.rG).mono ?_); rintro e w4 ⟨A2, B2, a2, b2, rfl, s1, s3, hk4, F1, F2⟩; have K4 := H.step hk4; obtain ⟨v0, v1, v2, v3, v4⟩ := cells5 K4.bS; obtain ⟨vf0, vf1, vf2, vf3, vf4⟩ := frz5 K4.bS)
  have K6 := K4.putM (m := s2.M) (a2 := a2) (b2 := b2) s1 s3 (H.whW F1 HW2.out) (H.whG F2 HG2.out)
  generalize (((w4.setCell ⟨w.heap.size, 0, none⟩ (.slice A2 s2.M.W.length a2)).setCell ⟨w.heap.size, 1, none⟩ (.slice B2 s2.M.G.length b2)).setCell ⟨w.heap.size, 2, none⟩ (.bool s2.M.bad)) = w6 at *
  clear H K4 F1 F2 s1 s3 hk4 z0 z1 z2 v0 vf0 v1 vf1 v2 vf2 v3 vf3 v4 vf4
  clear p0 p1 p2 p3 p4 f0 f1 f2 f3 f4 f5 f6 f7 f8 f9 f10 pf0 pf1 pf2 pf3 pf4 ff0 ff1 ff2 ff3 ff4 ff5 ff6 ff7 ff8 ff9 ff10
  have e9 : syMem s s2.M = s2 := HS3.out
  rw [e9] at K6
  clear e9
  have H : SF w s2 A2 B2 C L a2 b2 c d #[.int .i64 op, .int .i64 pc, .int .i64 r0, .int .i64 r1, .int .i64 r2, .int .i64 r3, .int .i64 r4, .int .i64 r5, .int .i64 r6, .int .i64 r7, .slice AS l.length cS] w6 := K6
  clear K6
  have z2 : w.heap.size + 1 + 1 < w6.heap.size := H.lt
  have z1 : w.heap.size + 1 < w6.heap.size := by omega
  have z0 : w.heap.size < w6.heap.size := by omega
  obtain ⟨p0, p1, p2, p3, p4⟩ := cells5 H.bS
  obtain ⟨f0, f1, f2, f3, f4, f5, f6, f7, f8, f9, f10⟩ := cells11 H.bF
  obtain ⟨pf0, pf1, pf2, pf3, pf4⟩ := frz5 H.bS
  obtain ⟨ff0, ff1, ff2, ff3, ff4, ff5, ff6, ff7, ff8, ff9, ff10⟩ := frz11 H.bF
  go_upto_region 5 with (fail)
  have rV2 : RowV (V3 w) w6 AS l := RowV.old hS H.be (fun _ h => v3_ge h)
  clear p0 p1 p2 p3 p4 f0 f1 f2 f3 f4 f5 f6 f7 f8 f9 f10 pf0 pf1 pf2 pf3 pf4 ff0 ff1 ff2 ff3 ff4 ff5 ff6 ff7 ff8 ff9 ff10
  obtain ⟨p0, p1, p2, p3, p4⟩ := cells5 H.bS
  obtain ⟨f0, f1, f2, f3, f4, f5, f6, f7, f8, f9, f10⟩ := cells11 H.bF
  obtain ⟨pf0, pf1, pf2, pf3, pf4⟩ := frz5 H.bS
  obtain ⟨ff0, ff1, ff2, ff3, ff4, ff5, ff6, ff7, ff8, ff9, ff10⟩ := frz11 H.bF
  go_upto_region 6 with (fail)
  have rV3 : RowV (V3 w) (w6.setCell ⟨w.heap.size + 1, 2, none⟩ (.int .i64 (wrap64 (r0 + 1)))) AS l := rV2.turn (Turn.set (p := V3 w) (Turn.refl _ _) (.inr (.inl rfl)) _ _)
  have K8 := H.putF 2 (.int .i64 (wrap64 (r0 + 1)))
  clear H rV2 z0 z1 z2
  clear p0 p1 p2 p3 p4 f0 f1 f2 f3 f4 f5 f6 f7 f8 f9 f10 pf0 pf1 pf2 pf3 pf4 ff0 ff1 ff2 ff3 ff4 ff5 ff6 ff7 ff8 ff9 ff10
  generalize w6.setCell ⟨w.heap.size + 1, 2, none⟩ (.int .i64 (wrap64 (r0 + 1))) = w9 at *
  have rV2 := rV3
  clear rV3
  have H : SF w s2 A2 B2 C L a2 b2 c d #[.int .i64 op, .int .i64 pc, .int .i64 (wrap64 (r0 + 1)), .int .i64 r1, .int .i64 r2, .int .i64 r3, .int .i64 r4, .int .i64 r5, .int .i64 r6, .int .i64 r7, .slice AS l.length cS] w9 := K8
  clear K8
  have z2 : w.heap.size + 1 + 1 < w9.heap.size := H.lt
  have z1 : w.heap.size + 1 < w9.heap.size := by omega
  have z0 : w.heap.size < w9.heap.size := by omega
  have hm : wrap64 (3 * (s2.C.length : Int)) = 3 * (s2.C.length : Int) := by have := fw.2.2.1; unfold wrap64; omega
  have hu := HU.out
  rw [← HLC.out] at hu
  rw [← HNX.out] at H
  obtain ⟨p0, p1, p2, p3, p4⟩ := cells5 H.bS
  obtain ⟨f0, f1, f2, f3, f4, f5, f6, f7, f8, f9, f10⟩ := cells11 H.bF
  obtain ⟨pf0, pf1, pf2, pf3, pf4⟩ := frz5 H.bS
  obtain ⟨ff0, ff1, ff2, ff3, ff4, ff5, ff6, ff7, ff8, ff9, ff10⟩ := frz11 H.bF
  go_upto_region 7 with (fail)
  go_upto_region 8 with (fail)
  have rV3 : RowV (V3 w) (w9.setCell ⟨w.heap.size + 1, 1, none⟩ (.int .i64 1)) AS l := rV2.turn (Turn.set (p := V3 w) (Turn.refl _ _) (.inr (.inl rfl)) _ _)
  have K8 := H.putF 1 (.int .i64 1)
  clear H rV2 z0 z1 z2
  clear p0 p1 p2 p3 p4 f0 f1 f2 f3 f4 f5 f6 f7 f8 f9 f10 pf0 pf1 pf2 pf3 pf4 ff0 ff1 ff2 ff3 ff4 ff5 ff6 ff7 ff8 ff9 ff10
  generalize w9.setCell ⟨w.heap.size + 1, 1, none⟩ (.int .i64 1) = wA at *
  have rV2 := rV3
  clear rV3
  have H : SF w s2 A2 B2 C L a2 b2 c d #[.int .i64 op, .int .i64 1, .int .i64 nx, .int .i64 r1, .int .i64 r2, .int .i64 r3, .int .i64 r4, .int .i64 r5, .int .i64 r6, .int .i64 r7, .slice AS l.length cS] wA := K8
  clear K8
  have z2 : w.heap.size + 1 + 1 < wA.heap.size := H.lt
  have z1 : w.heap.size + 1 < wA.heap.size := by omega
  have z0 : w.heap.size < wA.heap.size := by omega
  obtain ⟨p0, p1, p2, p3, p4⟩ := cells5 H.bS
  obtain ⟨f0, f1, f2, f3, f4, f5, f6, f7, f8, f9, f10⟩ := cells11 H.bF
  clear hm hu
  go_wp2_with (go_at_call 45; (with_reducible refine (set_uN A2 B2 C L a2 b2 c d s2 i AS cS op 1 nx r1 r2 r3 r4 r5 r6 r7 l _ fw H.rs rV2.row hll).mono ?_); rintro e wz hN; have hz := hN.2; obtain ⟨A9, B9, C9, L9, a9, b9, c9, d9, he, _, _, _, _, _⟩ := hN.1 wz (Turn.refl _ _); subst he; have HN := hid hN; clear hN; have kR := (hz.block (w.heap.size + 1 + 1) z2).trans H.bR; have kb := bstep H.be hz; obtain ⟨q0, q1, q2, q3, q4⟩ := cells5 kR; obtain ⟨qf0, qf1, qf2, qf3, qf4⟩ := frz5 kR)
  refine bodyPost_ret (v := .agg #[.slice A9 (pSet s2 i ⟨op, 1, [nx, r1, r2, r3, r4, r5, r6, r7], l⟩).M.W.length a9, .slice B9 (pSet s2 i ⟨op, 1, [nx, r1, r2, r3, r4, r5, r6, r7], l⟩).M.G.length b9, .bool (pSet s2 i ⟨op, 1, [nx, r1, r2, r3, r4, r5, r6, r7], l⟩).M.bad, .slice C9 (pSet s2 i ⟨op, 1, [nx, r1, r2, r3, r4, r5, r6, r7], l⟩).C.length c9, .slice L9 (pSet s2 i ⟨op, 1, [nx, r1, r2, r3, r4, r5, r6, r7], l⟩).L.length d9]) (by simp [results, Try.results123, go_sem, q0, q1, q2, q3, q4]) rfl ?_
  exact ret_resN _ _ _ _ _ HN.out z2 (by omega) kb

set_option maxRecDepth 100000 in
set_option maxHeartbeats 4000000 in
theorem look_full0 (A B C L : Option Addr) (a b c d : Nat) (s : Sy) (i : Int) (AS : Option Addr) (cS : Nat) (op pc r0 r1 r2 r3 r4 r5 r6 r7 : Int) (xs : List Int) (w : World) (hs : SyFew s) (hg : 2 ≤ s.M.G.length) (h : RS w s A B C L) (hS : Row w AS xs) (h6 : xs.length ≤ 1000000) (hcS : xs.length ≤ cS) (hq : mVal s.M (wrap64 (8 + r0)) ≠ 0 ∧ 24 ≤ xs.length) (hu : ¬ 3 * (s.C.length : Int) ≤ (wrap64 (r0 + 1))) :
    Calls Try.prog 123 #[.agg #[.slice A s.M.W.length a, .slice B s.M.G.length b, .bool s.M.bad, .slice C s.C.length c, .slice L s.L.length d], .int .i64 i, .agg #[.int .i64 op, .int .i64 pc, .int .i64 r0, .int .i64 r1, .int .i64 r2, .int .i64 r3, .int .i64 r4, .int .i64 r5, .int .i64 r6, .int .i64 r7, .slice AS xs.length cS]] w (RetSysN w (pLook s i ⟨op, pc, [r0, r1, r2, r3, r4, r5, r6, r7], xs⟩)) := by
  obtain ⟨s2, hs2⟩ : ∃ t, t = syMem s (mLoad s.M (wrap64 (8 + r0))) := ⟨_, rfl⟩
  obtain ⟨vv, hvv⟩ : ∃ v, v = mVal s.M (wrap64 (8 + r0)) := ⟨_, rfl⟩
  obtain ⟨l, hl⟩ : ∃ l, l = pSeen xs vv := ⟨_, rfl⟩
  rw [← hvv] at hq
  have HC := hid (show ∀ w', Row w' A s.M.W → Row w' B s.M.G → Calls Try.prog 38 #[.agg #[.slice A s.M.W.length a, .slice B s.M.G.length b, .bool s.M.bad], .int .i64 (wrap64 (8 + r0))] w' (RetMem2O w' A B s2.M (.int .i64 vv)) from fun w' k1 k2 => by have h9 := load_o A B a b s.M (wrap64 (8 + r0)) w' k1 k2 hs.1 hs.2.1 hg (wrap64_bd _).1 (wrap64_bd _).2; rw [← hvv] at h9; rw [hs2]; exact h9)
  have lW : s2.M.W.length = s.M.W.length := by rw [hs2]; rfl
  have lG : s2.M.G.length = s.M.G.length := by rw [hs2]; rfl
  have lC : s2.C.length = s.C.length := by rw [hs2]; rfl
  have HW2 := hid lW
  have HG2 := hid lG
  have HLC := hid lC
  have fw : SyFew s2 := by rw [hs2]; exact few_mem hs rfl rfl
  have HS3 := hid (show syMem s s2.M = s2 by rw [hs2]; rfl)
  clear lW lG lC
  have hres : pLook s i ⟨op, pc, [r0, r1, r2, r3, r4, r5, r6, r7], xs⟩ = pSet s2 i ⟨op, pc, [(wrap64 (r0 + 1)), r1, r2, r3, r4, r5, r6, r7], l⟩ := by unfold pLook; rw [hl, hs2, hvv]; simp only [List.getD_cons_zero, if_neg hu]; rfl
  have hl2 : l = xs := by rw [hl]; unfold pSeen; rw [if_neg (by intro h; have := h.2; have := hq.2; omega)]
  subst hl2
  have hll := h6
  have e1 : ¬ vv = 0 := hq.1
  have e3 : (vv != 0) = true := by simpa using hq.1
  have e2 : ¬ (l.length : Int) < 24 := by have := hq.2; omega
  rw [hres]
  obtain ⟨nx, hnx⟩ : ∃ n, n = (wrap64 (r0 + 1)) := ⟨_, rfl⟩
  rw [← hnx] at hu ⊢
  have HNX := hid hnx
  have HU := hid hu
  clear hnx
  clear hres hs2 hvv hq hl hu
  have h0 := hs.1
  have h1 := hs.2.1
  have H := SF.start w s A B C L a b c d #[.int .i64 op, .int .i64 pc, .int .i64 r0, .int .i64 r1, .int .i64 r2, .int .i64 r3, .int .i64 r4, .int .i64 r5, .int .i64 r6, .int .i64 r7, .slice AS l.length cS] h
  clear h
  go_enter Try.func123, Try.ntmps123
  go_upto_region 2 with (fail)
  generalize (((w.alloc (.cells #[.slice A s.M.W.length a, .slice B s.M.G.length b, .bool s.M.bad, .slice C s.C.length c, .slice L s.L.length d] 28)).alloc (.cells #[.int .i64 op, .int .i64 pc, .int .i64 r0, .int .i64 r1, .int .i64 r2, .int .i64 r3, .int .i64 r4, .int .i64 r5, .int .i64 r6, .int .i64 r7, .slice AS l.length cS] 55)).alloc (.cells #[.slice none 0 0, .slice none 0 0, .bool false, .slice none 0 0, .slice none 0 0] 28)) = w1 at *
  have z2 : w.heap.size + 1 + 1 < w1.heap.size := H.lt
  have z1 : w.heap.size + 1 < w1.heap.size := by omega
  have z0 : w.heap.size < w1.heap.size := by omega
  obtain ⟨p0, p1, p2, p3, p4⟩ := cells5 H.bS
  obtain ⟨f0, f1, f2, f3, f4, f5, f6, f7, f8, f9, f10⟩ := cells11 H.bF
  obtain ⟨pf0, pf1, pf2, pf3, pf4⟩ := frz5 H.bS
  obtain ⟨ff0, ff1, ff2, ff3, ff4, ff5, ff6, ff7, ff8, ff9, ff10⟩ := frz11 H.bF
  go_upto_region 3 with (go_at_call 38; (with_reducible refine (HC.out _ H.rW H.rG).mono ?_); rintro e w4 ⟨A2, B2, a2, b2, rfl, s1, s3, hk4, F1, F2⟩; have K4 := H.step hk4; obtain ⟨v0, v1, v2, v3, v4⟩ := cells5 K4.bS; obtain ⟨vf0, vf1, vf2, vf3, vf4⟩ := frz5 K4.bS)
  have K6 := K4.putM (m := s2.M) (a2 := a2) (b2 := b2) s1 s3 (H.whW F1 HW2.out) (H.whG F2 HG2.out)
  generalize (((w4.setCell ⟨w.heap.size, 0, none⟩ (.slice A2 s2.M.W.length a2)).setCell ⟨w.heap.size, 1, none⟩ (.slice B2 s2.M.G.length b2)).setCell ⟨w.heap.size, 2, none⟩ (.bool s2.M.bad)) = w6 at *
  clear H K4 F1 F2 s1 s3 hk4 z0 z1 z2 v0 vf0 v1 vf1 v2 vf2 v3 vf3 v4 vf4
  clear p0 p1 p2 p3 p4 f0 f1 f2 f3 f4 f5 f6 f7 f8 f9 f10 pf0 pf1 pf2 pf3 pf4 ff0 ff1 ff2 ff3 ff4 ff5 ff6 ff7 ff8 ff9 ff10
  have e9 : syMem s s2.M = s2 := HS3.out
  rw [e9] at K6
  clear e9
  have H : SF w s2 A2 B2 C L a2 b2 c d #[.int .i64 op, .int .i64 pc, .int .i64 r0, .int .i64 r1, .int .i64 r2, .int .i64 r3, .int .i64 r4, .int .i64 r5, .int .i64 r6, .int .i64 r7, .slice AS l.length cS] w6 := K6
  clear K6
  have z2 : w.heap.size + 1 + 1 < w6.heap.size := H.lt
  have z1 : w.heap.size + 1 < w6.heap.size := by omega
  have z0 : w.heap.size < w6.heap.size := by omega
  obtain ⟨p0, p1, p2, p3, p4⟩ := cells5 H.bS
  obtain ⟨f0, f1, f2, f3, f4, f5, f6, f7, f8, f9, f10⟩ := cells11 H.bF
  obtain ⟨pf0, pf1, pf2, pf3, pf4⟩ := frz5 H.bS
  obtain ⟨ff0, ff1, ff2, ff3, ff4, ff5, ff6, ff7, ff8, ff9, ff10⟩ := frz11 H.bF
  go_upto_region 5 with (fail)
  have rV2 : RowV (V3 w) w6 AS l := RowV.old hS H.be (fun _ h => v3_ge h)
  clear p0 p1 p2 p3 p4 f0 f1 f2 f3 f4 f5 f6 f7 f8 f9 f10 pf0 pf1 pf2 pf3 pf4 ff0 ff1 ff2 ff3 ff4 ff5 ff6 ff7 ff8 ff9 ff10
  obtain ⟨p0, p1, p2, p3, p4⟩ := cells5 H.bS
  obtain ⟨f0, f1, f2, f3, f4, f5, f6, f7, f8, f9, f10⟩ := cells11 H.bF
  obtain ⟨pf0, pf1, pf2, pf3, pf4⟩ := frz5 H.bS
  obtain ⟨ff0, ff1, ff2, ff3, ff4, ff5, ff6, ff7, ff8, ff9, ff10⟩ := frz11 H.bF
  go_upto_region 6 with (fail)
  have rV3 : RowV (V3 w) (w6.setCell ⟨w.heap.size + 1, 2, none⟩ (.int .i64 (wrap64 (r0 + 1)))) AS l := rV2.turn (Turn.set (p := V3 w) (Turn.refl _ _) (.inr (.inl rfl)) _ _)
  have K8 := H.putF 2 (.int .i64 (wrap64 (r0 + 1)))
  clear H rV2 z0 z1 z2
  clear p0 p1 p2 p3 p4 f0 f1 f2 f3 f4 f5 f6 f7 f8 f9 f10 pf0 pf1 pf2 pf3 pf4 ff0 ff1 ff2 ff3 ff4 ff5 ff6 ff7 ff8 ff9 ff10
  generalize w6.setCell ⟨w.heap.size + 1, 2, none⟩ (.int .i64 (wrap64 (r0 + 1))) = w9 at *
  have rV2 := rV3
  clear rV3
  have H : SF w s2 A2 B2 C L a2 b2 c d #[.int .i64 op, .int .i64 pc, .int .i64 (wrap64 (r0 + 1)), .int .i64 r1, .int .i64 r2, .int .i64 r3, .int .i64 r4, .int .i64 r5, .int .i64 r6, .int .i64 r7, .slice AS l.length cS] w9 := K8
  clear K8
  have z2 : w.heap.size + 1 + 1 < w9.heap.size := H.lt
  have z1 : w.heap.size + 1 < w9.heap.size := by omega
  have z0 : w.heap.size < w9.heap.size := by omega
  have hm : wrap64 (3 * (s2.C.length : Int)) = 3 * (s2.C.length : Int) := by have := fw.2.2.1; unfold wrap64; omega
  have hu := HU.out
  rw [← HLC.out] at hu
  rw [← HNX.out] at H
  obtain ⟨p0, p1, p2, p3, p4⟩ := cells5 H.bS
  obtain ⟨f0, f1, f2, f3, f4, f5, f6, f7, f8, f9, f10⟩ := cells11 H.bF
  obtain ⟨pf0, pf1, pf2, pf3, pf4⟩ := frz5 H.bS
  obtain ⟨ff0, ff1, ff2, ff3, ff4, ff5, ff6, ff7, ff8, ff9, ff10⟩ := frz11 H.bF
  go_upto_region 8 with (fail)
  clear hm hu
  go_wp2_with (go_at_call 45; (with_reducible refine (set_uN A2 B2 C L a2 b2 c d s2 i AS cS op pc nx r1 r2 r3 r4 r5 r6 r7 l _ fw H.rs rV2.row hll).mono ?_); rintro e wz hN; have hz := hN.2; obtain ⟨A9, B9, C9, L9, a9, b9, c9, d9, he, _, _, _, _, _⟩ := hN.1 wz (Turn.refl _ _); subst he; have HN := hid hN; clear hN; have kR := (hz.block (w.heap.size + 1 + 1) z2).trans H.bR; have kb := bstep H.be hz; obtain ⟨q0, q1, q2, q3, q4⟩ := cells5 kR; obtain ⟨qf0, qf1, qf2, qf3, qf4⟩ := frz5 kR)
  refine bodyPost_ret (v := .agg #[.slice A9 (pSet s2 i ⟨op, pc, [nx, r1, r2, r3, r4, r5, r6, r7], l⟩).M.W.length a9, .slice B9 (pSet s2 i ⟨op, pc, [nx, r1, r2, r3, r4, r5, r6, r7], l⟩).M.G.length b9, .bool (pSet s2 i ⟨op, pc, [nx, r1, r2, r3, r4, r5, r6, r7], l⟩).M.bad, .slice C9 (pSet s2 i ⟨op, pc, [nx, r1, r2, r3, r4, r5, r6, r7], l⟩).C.length c9, .slice L9 (pSet s2 i ⟨op, pc, [nx, r1, r2, r3, r4, r5, r6, r7], l⟩).L.length d9]) (by simp [results, Try.results123, go_sem, q0, q1, q2, q3, q4]) rfl ?_
  exact ret_resN _ _ _ _ _ HN.out z2 (by omega) kb

theorem look_any (A B C L : Option Addr) (a b c d : Nat) (s : Sy) (i : Int) (AS : Option Addr) (cS : Nat) (op pc r0 r1 r2 r3 r4 r5 r6 r7 : Int) (xs : List Int) (w : World) (hs : SyFew s) (hg : 2 ≤ s.M.G.length) (h : RS w s A B C L) (hS : Row w AS xs) (h6 : xs.length ≤ 1000000) (hcS : xs.length ≤ cS)  :
    Calls Try.prog 123 #[.agg #[.slice A s.M.W.length a, .slice B s.M.G.length b, .bool s.M.bad, .slice C s.C.length c, .slice L s.L.length d], .int .i64 i, .agg #[.int .i64 op, .int .i64 pc, .int .i64 r0, .int .i64 r1, .int .i64 r2, .int .i64 r3, .int .i64 r4, .int .i64 r5, .int .i64 r6, .int .i64 r7, .slice AS xs.length cS]] w (RetSysN w (pLook s i ⟨op, pc, [r0, r1, r2, r3, r4, r5, r6, r7], xs⟩)) := by
  by_cases hu : 3 * (s.C.length : Int) ≤ (wrap64 (r0 + 1))
  · by_cases q0 : mVal s.M (wrap64 (8 + r0)) = 0
    · exact look_zero1 A B C L a b c d s i AS cS op pc r0 r1 r2 r3 r4 r5 r6 r7 xs w hs hg h hS h6 hcS q0 hu
    · by_cases q1 : xs.length < 24
      · exact look_more1 A B C L a b c d s i AS cS op pc r0 r1 r2 r3 r4 r5 r6 r7 xs w hs hg h hS h6 hcS ⟨q0, q1⟩ hu
      · exact look_full1 A B C L a b c d s i AS cS op pc r0 r1 r2 r3 r4 r5 r6 r7 xs w hs hg h hS h6 hcS ⟨q0, by omega⟩ hu
  · by_cases q0 : mVal s.M (wrap64 (8 + r0)) = 0
    · exact look_zero0 A B C L a b c d s i AS cS op pc r0 r1 r2 r3 r4 r5 r6 r7 xs w hs hg h hS h6 hcS q0 hu
    · by_cases q1 : xs.length < 24
      · exact look_more0 A B C L a b c d s i AS cS op pc r0 r1 r2 r3 r4 r5 r6 r7 xs w hs hg h hS h6 hcS ⟨q0, q1⟩ hu
      · exact look_full0 A B C L a b c d s i AS cS op pc r0 r1 r2 r3 r4 r5 r6 r7 xs w hs hg h hS h6 hcS ⟨q0, by omega⟩ hu
end Go.Proofs.Ythpflcknommpdaa
