/- ScanRetires, where it goes through. -/
import Derived.Test.YtiakabnfjegeeaaKShS
import Derived.Test.YtiakabnfjegeeaaKPla
import Derived.Test.YtiakabnfjegeeaaKScD
import Derived.Test.YtiakabnfjegeeaaKOpe

namespace Go.Proofs.Ytiakabnfjegeeaa
namespace ScanRetires
open Go.ChangeShapes Go.WideShapes Go.ChangeAt Go.RowKit
set_option linter.unusedVariables false
set_option linter.unusedSimpArgs false

set_option maxRecDepth 100000 in
set_option maxHeartbeats 80000000 in
theorem walk_low1 (A0 B0 C0 L0 : Option Addr) (a0 b0 c0 d0 : Nat) (s0 : Sy) (n1 n2 : Int) (w0 : World) (u0 : 0 ≤ n1) (u1 : n1 ≤ 255) (u2 : 0 ≤ n2) (u3 : n2 ≤ 255)
    (rW : Row w0 A0 s0.M.W) (rG : Row w0 B0 s0.M.G) (rC : RowC w0 C0 s0.C) (rL : RowE w0 L0 s0.L) (g0 : s0.M.W.length ≤ maxLen) (g1 : s0.M.G.length ≤ maxLen) (g2 : s0.C.length ≤ maxLen) (g3 : s0.L.length ≤ maxLen) (q0 : syMays4 s0 = true) (qF : ∀ (k : Nat) (x : Co), n1.tmod (s0.C.length : Int) = (k : Int) → s0.C[k]? = some x → x.F.length < 38 ∧ x.ret.length < 200) (qL : ∀ (k : Nat) (x : Co), n1.tmod (s0.C.length : Int) = (k : Int) → s0.C[k]? = some x → x.ret.length + 1 < 3 * s0.C.length + 1) (qG : ∀ q : Nat, n2.tmod ((s0.M.G.length : Int) - 1) = (q : Int) → s0.M.G.getD (q + 1) 0 = 1 ∧ (mTurn s0.M (1 + (q : Int)) 2).bad = false) :
    Calls Try.prog 4 #[.agg #[.slice A0 s0.M.W.length a0, .slice B0 s0.M.G.length b0, .bool s0.M.bad, .slice C0 s0.C.length c0, .slice L0 s0.L.length d0], .int .u8 n1, .int .u8 n2] w0 fun e w' => e = .returned (.bool true) ∧ Below w0.heap.size w0 w' := by
  have S0 : RS w0 s0 A0 B0 C0 L0 := ⟨rW, rG, rC, rL⟩
  have hb : Below w0.heap.size w0 w0 := Below.refl _ _
  have HC := rmay4_any A0 B0 C0 L0 a0 b0 c0 d0 s0
  rw [q0] at HC
  replace HC := hid (show ∀ w, RS w s0 A0 B0 C0 L0 → Calls Try.prog 17 #[.agg #[.slice A0 s0.M.W.length a0, .slice B0 s0.M.G.length b0, .bool s0.M.bad, .slice C0 s0.C.length c0, .slice L0 s0.L.length d0], .int .i64 40] w fun e w' => e = .returned (.bool true) ∧ Below w.heap.size w w' from fun w h => HC w h.G h.C g1 g0 g2 g3)
  clear rW rG rC rL g0 g1 g2 g3
  go_enter Try.func4, Try.ntmps4
  go_upto_region 1 with (fail)
  have Bk0 := heap_alloc_new w0 (.cells #[.slice A0 s0.M.W.length a0, .slice B0 s0.M.G.length b0, .bool s0.M.bad, .slice C0 s0.C.length c0, .slice L0 s0.L.length d0] 30)
  have lt0 : w0.heap.size < (w0.alloc (.cells #[.slice A0 s0.M.W.length a0, .slice B0 s0.M.G.length b0, .bool s0.M.bad, .slice C0 s0.C.length c0, .slice L0 s0.L.length d0] 30)).heap.size := by simp
  have hk : Below w0.heap.size w0 (w0.alloc (.cells #[.slice A0 s0.M.W.length a0, .slice B0 s0.M.G.length b0, .bool s0.M.bad, .slice C0 s0.C.length c0, .slice L0 s0.L.length d0] 30)) := boxed _ _
  replace S0 := S0.step hk
  replace hb := bstep hb hk
  clear hk
  obtain ⟨v0, hv⟩ : ∃ v, w0.heap.size = v := ⟨_, rfl⟩
  rw [hv] at Bk0 lt0 ⊢
  clear hv
  generalize (w0.alloc (.cells #[.slice A0 s0.M.W.length a0, .slice B0 s0.M.G.length b0, .bool s0.M.bad, .slice C0 s0.C.length c0, .slice L0 s0.L.length d0] 30)) = w1 at *
  go_wp2_with fail
  refine (shown6_any _).mono ?_
  rintro e w2 ⟨rfl, hk⟩
  replace Bk0 := (hk.block v0 lt0).trans Bk0
  replace lt0 := Nat.lt_of_lt_of_le lt0 hk.size
  replace S0 := S0.step hk
  replace hb := bstep hb hk
  clear hk
  go_upto_region 2 with (fail)
  obtain ⟨m0_0, m0_1, m0_2, m0_3, m0_4⟩ := cells5 Bk0
  go_upto_region 4 with (go_at_call 17; refine (HC.out _ S0).mono ?_; rintro e w3 ⟨rfl, hk⟩)
  clear m0_0 m0_1 m0_2 m0_3 m0_4
  replace Bk0 := (hk.block v0 lt0).trans Bk0
  replace lt0 := Nat.lt_of_lt_of_le lt0 hk.size
  replace S0 := S0.step hk
  replace hb := bstep hb hk
  clear hk
  clear HC
  have hmay : sySmall4 s0 = true ∧ syRight s0 = true := by simpa [syMays4] using q0
  have HF := hid (few_of_small (small_of4 hmay.1))
  have hsm := sySmall4_few hmay.1
  have hr := hmay.2
  simp only [syRight, Bool.and_eq_true, decide_eq_true_eq] at hr
  have HR := hid (Rt.of hr.1.1.1)
  obtain ⟨⟨⟨_, hc1⟩, hc8⟩, _⟩ := hr
  have HGB := hid hsm.1
  have HLB := hid hsm.2.2.2.1
  have HRB := hid (show ∀ x ∈ s0.C, x.ret.length ≤ 210 from fun x hx => (hsm.2.2.2.2 x hx).2.1)
  clear hmay q0 hsm
  obtain ⟨k, hk⟩ : ∃ k : Nat, n1.tmod (s0.C.length : Int) = (k : Int) := ⟨(n1.tmod (s0.C.length : Int)).toNat, by rw [Int.tmod_eq_emod_of_nonneg u0, Int.toNat_of_nonneg (Int.emod_nonneg _ (by omega))]⟩
  have hkl : k < s0.C.length := by have h9 := hk; rw [Int.tmod_eq_emod_of_nonneg u0] at h9; have := Int.emod_lt_of_pos n1 (show (0 : Int) < (s0.C.length : Int) by omega); omega
  obtain ⟨x, hx⟩ : ∃ x, s0.C[k]? = some x := ⟨_, List.getElem?_eq_getElem hkl⟩
  obtain ⟨gC, oC, eC, hbl, hat⟩ := S0.C (by omega)
  subst eC
  obtain ⟨AF, AR, cFq, cR, hcs, rF, rR, hcF⟩ := (hat k x hx).cs4
  clear hat
  have y0 : w3.cell? ⟨gC, oC + k * 7, none⟩ = some (.slice AF x.F.length cFq) := hcs 0 _ rfl
  have y6 : w3.cell? ⟨gC, oC + k * 7 + 6, none⟩ = some (.slice AR x.ret.length cR) := hcs 6 _ rfl
  have kl : (k : Int) < (s0.C.length : Int) := by omega
  have hne : ((s0.C.length : Int) == 0) = false := by rw [beq_eq_false_iff_ne]; omega
  have HX := hid hx
  clear hx hcs rF rR hcF
  obtain ⟨m0_0, m0_1, m0_2, m0_3, m0_4⟩ := cells5 Bk0
  have hxF : x.F.length < 38 := (qF k x hk HX.out).1
  have hxr : x.ret.length < 200 := (qF k x hk HX.out).2
  have HLL := hid (qL k x hk HX.out)
  clear qF qL
  have hq : decide ((38 : Int) ≤ (x.F.length : Int)) = false := by simp; omega
  have hq2 : decide ((200 : Int) ≤ (x.ret.length : Int)) = false := by simp; omega
  have gl2 : (2 : Int) ≤ (s0.M.G.length : Int) := by have := HR.out.g2; omega
  have gl3 : (s0.M.G.length : Int) ≤ 41 := by have := HGB.out; omega
  go_upto_region 7 with (fail)
  obtain ⟨q, hqe⟩ : ∃ q : Nat, n2.tmod ((s0.M.G.length : Int) - 1) = (q : Int) := ⟨(n2.tmod ((s0.M.G.length : Int) - 1)).toNat, by rw [Int.tmod_eq_emod_of_nonneg u2, Int.toNat_of_nonneg (Int.emod_nonneg _ (by omega))]⟩
  have hql : (q : Int) + 1 < (s0.M.G.length : Int) := by have h9 := hqe; rw [Int.tmod_eq_emod_of_nonneg u2] at h9; have := Int.emod_lt_of_pos n2 (show (0 : Int) < (s0.M.G.length : Int) - 1 by omega); omega
  have HGC := hid (qG q hqe)
  clear qG
  have hne3 : ((s0.M.G.length : Int) - 1 == 0) = false := by rw [beq_eq_false_iff_ne]; omega
  have q40 : (q : Int) ≤ 40 := by omega
  obtain ⟨s2, hs2⟩ : ∃ s, s = pCall s0 (k : Int) (frR (1 + (q : Int)) 0) := ⟨_, rfl⟩
  obtain ⟨s3, hs3⟩ : ∃ s, s = pScan s2 (k : Int) := ⟨_, rfl⟩
  have HK := hid (show ∀ (w : World), RS w s0 A0 B0 (some ⟨gC, oC, none⟩) L0 → Calls Try.prog 19 #[(.agg #[.slice A0 s0.M.W.length a0, .slice B0 s0.M.G.length b0, .bool s0.M.bad, .slice (some ⟨gC, oC, none⟩) s0.C.length c0, .slice L0 s0.L.length d0]), .int .i64 (k : Int), .int .i64 5, .int .i64 (1 + (q : Int)), .int .i64 0, .int .i64 0] w (RetSys w s2) from fun w h => by rw [hs2]; exact rcall_u A0 B0 (some ⟨gC, oC, none⟩) L0 a0 b0 c0 d0 s0 (k : Int) 5 (1 + (q : Int)) 0 0 w HF.out h)
  have HE2 := hid (show s2 = ⟨s0.M, s0.C.set k (cF x (x.F ++ [frR (1 + (q : Int)) 0])), s0.L⟩ from hs2.trans (core_call HX.out (by omega) _))
  obtain ⟨y, HY, HYR, HYC⟩ : ∃ y : Co, Hid (s3 = ⟨mTurn s0.M (1 + (q : Int)) 2, s0.C.set k y, s0.L⟩) ∧ Hid (y.ret = x.ret ++ [1 + (q : Int)]) ∧ Hid ((x.ret.length + 1 < 3 * s0.C.length + 1 ∧ y.F = x.F ∧ y.v = 1 + (q : Int)) ∨ (¬ x.ret.length + 1 < 3 * s0.C.length + 1 ∧ y.F = x.F ++ [frR (1 + (q : Int)) 1, frS 6 0])) := by
    by_cases hl : x.ret.length + 1 < 3 * s0.C.length + 1
    · exact ⟨⟨x.F, 1 + (q : Int), 0, x.x0, x.x1, x.x2, x.ret ++ [1 + (q : Int)]⟩, hid (by rw [hs3, hs2]; exact ret_low HX.out hxF hxr hl), hid rfl, hid (.inl ⟨hl, rfl, rfl⟩)⟩
    · exact ⟨⟨x.F ++ [frR (1 + (q : Int)) 1, frS 6 0], x.v, x.e, x.x0, x.x1, x.x2, x.ret ++ [1 + (q : Int)]⟩, hid (by rw [hs3, hs2]; exact ret_high HX.out hxF hxr hl), hid rfl, hid (.inr ⟨hl, rfl⟩)⟩
  have HF2 := hid (show SyFew s2 ∧ 2 ≤ s2.M.G.length ∧ s2.L.length ≤ 999998 by rw [hs2]; refine ⟨few_call HF.out (Nat.zero_le _) _, ?_, ?_⟩ <;> rw [← hs2, HE2.out] <;> first | exact HR.out.g2 | (have := HLB.out; show s0.L.length ≤ 999998; omega))
  have HS := hid (show ∀ (A B C L : Option Addr) (a b c d : Nat) (w : World), RS w s2 A B C L → Calls Try.prog 18 #[.agg #[.slice A s2.M.W.length a, .slice B s2.M.G.length b, .bool s2.M.bad, .slice C s2.C.length c, .slice L s2.L.length d], .int .i64 (k : Int)] w fun e w' => ∃ (A B C L : Option Addr) (a b c d : Nat), e = .returned (.agg #[.slice A s0.M.W.length a, .slice B s0.M.G.length b, .bool s3.M.bad, .slice C s0.C.length c, .slice L s0.L.length d]) ∧ RS w' s3 A B C L ∧ Below w.heap.size w w' from fun A B C L a b c d w h => by
      have h9 := scst_any A B C L a b c d s2 (k : Int) w HF2.out.1 HF2.out.2.1 h HF2.out.2.2 (fun f hf => by rw [HE2.out, core_top (s := ⟨s0.M, _, s0.L⟩) (set_get HX.out) rfl] at hf; obtain rfl := Option.some.inj hf; simp only [frR, List.getD_cons_zero]; unfold W64; omega)
      rw [← hs3] at h9
      refine h9.mono (fun e w' h => ?_)
      obtain ⟨A, B, C, L, a, b, c, d, e1, r1, r2, r3, r4, r5⟩ := h.weak
      rw [show s3.M.W.length = s0.M.W.length by rw [HY.out]; rfl, show s3.M.G.length = s0.M.G.length by rw [HY.out]; exact (mTurn_len _ _ _).2, show s3.C.length = s0.C.length by rw [HY.out]; simp, show s3.L.length = s0.L.length by rw [HY.out]] at e1
      exact ⟨A, B, C, L, a, b, c, d, e1, ⟨r1, r2, r3, r4⟩, r5⟩)
  clear hs2 hs3
  go_upto_region 8 with (fail)
  go_wp2_with fail
  refine (HK.out _ S0).mono ?_
  rintro e w4 ⟨A7, B7, C7, L7, a7, b7, c7, d7, rfl, tW, tG, tC, tL, hk9⟩
  clear y0 y6
  clear m0_0 m0_1 m0_2 m0_3 m0_4
  replace Bk0 := (hk9.block v0 lt0).trans Bk0
  replace lt0 := Nat.lt_of_lt_of_le lt0 hk9.size
  replace S0 := S0.step hk9
  replace hb := bstep hb hk9
  clear hk9
  have S7 : RS w4 s2 A7 B7 C7 L7 := ⟨tW, tG, tC, tL⟩
  clear tW tG tC tL
  go_wp2_with fail
  refine (HS.out _ _ _ _ _ _ _ _ _ S7).mono ?_
  rintro e w5 ⟨A8, B8, C8, L8, a8, b8, c8, d8, rfl, S8, hk9⟩
  clear S7
  replace Bk0 := (hk9.block v0 lt0).trans Bk0
  replace lt0 := Nat.lt_of_lt_of_le lt0 hk9.size
  replace S0 := S0.step hk9
  replace hb := bstep hb hk9
  clear hk9
  go_upto_region 9 with (fail)
  have Bk8 := heap_alloc_new w5 (.cells #[.slice A8 s0.M.W.length a8, .slice B8 s0.M.G.length b8, .bool s3.M.bad, .slice C8 s0.C.length c8, .slice L8 s0.L.length d8] 30)
  have lt8 : w5.heap.size < (w5.alloc (.cells #[.slice A8 s0.M.W.length a8, .slice B8 s0.M.G.length b8, .bool s3.M.bad, .slice C8 s0.C.length c8, .slice L8 s0.L.length d8] 30)).heap.size := by simp
  have hk : Below w5.heap.size w5 (w5.alloc (.cells #[.slice A8 s0.M.W.length a8, .slice B8 s0.M.G.length b8, .bool s3.M.bad, .slice C8 s0.C.length c8, .slice L8 s0.L.length d8] 30)) := boxed _ _
  have ne0_8 : v0 ≠ w5.heap.size := Nat.ne_of_lt lt0
  have nw8 : w0.heap.size ≤ w5.heap.size := hb.size
  replace Bk0 := (hk.block v0 lt0).trans Bk0
  replace lt0 := Nat.lt_of_lt_of_le lt0 hk.size
  replace S0 := S0.step hk
  replace S8 := S8.step hk
  replace hb := bstep hb hk
  clear hk
  obtain ⟨v8, hv⟩ : ∃ v, w5.heap.size = v := ⟨_, rfl⟩
  replace nw8 := Nat.le_trans nw8 (Nat.le_of_eq hv)
  rw [hv] at Bk8 lt8 ne0_8 ⊢
  clear hv
  generalize (w5.alloc (.cells #[.slice A8 s0.M.W.length a8, .slice B8 s0.M.G.length b8, .bool s3.M.bad, .slice C8 s0.C.length c8, .slice L8 s0.L.length d8] 30)) = w6 at *
  obtain ⟨m0_0, m0_1, m0_2, m0_3, m0_4⟩ := cells5 Bk0
  obtain ⟨m8_0, m8_1, m8_2, m8_3, m8_4⟩ := cells5 Bk8
  go_upto_region 11 with (fail)
  obtain ⟨gC2, oC2, eC2, hbl2, hat2⟩ := S0.C (by omega)
  injection eC2 with eC2
  injection eC2 with eC3 eC4
  subst eC3 eC4
  obtain ⟨AFy, ARy, cFy, cRy, hcy, rFy, rRy, hcFy⟩ := (hat2 k _ HX.out).cs4
  clear hat2
  have y0 : w6.cell? ⟨gC, oC + k * 7, none⟩ = some (.slice AFy x.F.length cFy) := hcy 0 _ rfl
  have y6 : w6.cell? ⟨gC, oC + k * 7 + 6, none⟩ = some (.slice ARy x.ret.length cRy) := hcy 6 _ rfl
  clear hcy
  go_upto_region 12 with (first | (at_builtin; (refine wpList_append_ontoR rfl _ _ _ rfl w6.heap.size Try.underlying24 infoI (.slice (some ⟨w6.heap.size, 0, none⟩) 0 0) 0 [] rfl rfl (own_empty (heap_alloc_new w6 _)) ARy cRy x.ret.length x.ret rfl rfl (rRy.step (boxed _ _)) (by simp; omega) (by simp) ?_); intro v9 wa ho9 hg9) | (at_builtin; (refine wpList_append_ontoR rfl _ _ _ rfl w6.heap.size Try.underlying24 infoI v9 _ ([] ++ x.ret) rfl rfl (own_step ho9 (boxed _ _)) _ _ 1 [1 + (q : Int)] rfl rfl (Blk.row (heap_alloc_new wa (.cells #[.int .i64 (1 + (q : Int))] 3))) (by simp; omega) (by have := hg9.size; simp at this ⊢; omega) ?_); intro v10 w7 ho10 hg10; obtain ⟨A10, c10, rfl, r10⟩ := own_row1 ho10 rfl))
  have hk : Below w6.heap.size w6 w7 := ((((Turn.refl (fun b => w6.heap.size ≤ b) w6).alloc _).grown hg9 (fun g hg => Nat.le_of_eq (Option.some.inj hg))).alloc _ |>.grown hg10 (fun g hg => (ho9.lt g hg).1)).to_below (Nat.le_refl _) (fun _ h => h)
  clear ho9 hg9 hg10 ho10 rFy rRy y0 y6
  clear m0_0 m0_1 m0_2 m0_3 m0_4 m8_0 m8_1 m8_2 m8_3 m8_4
  replace Bk0 := (hk.block v0 lt0).trans Bk0
  replace lt0 := Nat.lt_of_lt_of_le lt0 hk.size
  replace Bk8 := (hk.block v8 lt8).trans Bk8
  replace lt8 := Nat.lt_of_lt_of_le lt8 hk.size
  replace S0 := S0.step hk
  replace S8 := S8.step hk
  replace hb := bstep hb hk
  clear hk
  simp only [List.nil_append] at r10 ⊢
  obtain ⟨m0_0, m0_1, m0_2, m0_3, m0_4⟩ := cells5 Bk0
  obtain ⟨m8_0, m8_1, m8_2, m8_3, m8_4⟩ := cells5 Bk8
  have HLM := hid (show pLimit (s0.C.length : Int) = 3 * (s0.C.length : Int) + 1 from pLimit_in (by omega) (by omega))
  go_upto_region 13 with (go_at_call 15; (with_reducible refine (limit_any _ _).mono ?_); rintro e wz ⟨rfl, rfl⟩)
  have E3 := hid (show s3.M.W.length = s0.M.W.length ∧ s3.M.G.length = s0.M.G.length ∧ s3.C.length = s0.C.length ∧ s3.L.length = s0.L.length by rw [HY.out]; exact ⟨rfl, (mTurn_len _ _ _).2, by simp, rfl⟩)
  have FX := HF.out.2.2.2.2 x (List.mem_of_getElem? HX.out)
  have FEW3 : SyFew s3 := by
    rw [HY.out]
    refine few_mem (s := syWith s0 k y) (few_with HF.out ⟨?_, ?_, ?_⟩) rfl (mTurn_len _ _ _).2
    · rw [HYR.out]; simp; omega
    · rcases HYC.out with ⟨_, h9, _⟩ | ⟨_, h9⟩
      · rw [h9]; omega
      · rw [h9]; simp; omega
    · rcases HYC.out with ⟨_, h9, _⟩ | ⟨_, h9⟩
      · rw [h9]; exact FX.2.2
      · rw [h9]; intro f hf
        rcases List.mem_append.1 hf with h | h
        · exact FX.2.2 f h
        · simp at h; rcases h with rfl | rfl <;> simp [frR, frS]
  clear FX
  obtain ⟨scb, HB⟩ : ∃ b : Bool, Hid (b = decide (¬ x.ret.length + 1 < 3 * s0.C.length + 1)) := ⟨_, hid rfl⟩
  obtain ⟨op, pc, r0, r1, r2, r3, r4, r5, r6, r7, xs, isb, HTP, HSC⟩ : ∃ (op pc r0 r1 r2 r3 r4 r5 r6 r7 : Int) (xs : List Int) (isb : Bool), Hid (∀ (A B C L : Option Addr) (a b c d : Nat) (w : World), RS w s3 A B C L → Calls Try.prog 14 #[.agg #[.slice A s0.M.W.length a, .slice B s0.M.G.length b, .bool s3.M.bad, .slice C s0.C.length c, .slice L s0.L.length d], .int .i64 (k : Int)] w fun e w' => ∃ (A' : Option Addr) (c' : Nat), e = .returned (.tuple #[.agg #[.int .i64 op, .int .i64 pc, .int .i64 r0, .int .i64 r1, .int .i64 r2, .int .i64 r3, .int .i64 r4, .int .i64 r5, .int .i64 r6, .int .i64 r7, .slice A' xs.length c'], .bool isb]) ∧ Below w.heap.size w w') ∧ Hid ((isb && (op == 6) && decide (y.F.length = x.F.length + 2)) = scb) := by
    rcases HYC.out with ⟨hl, hF, hv⟩ | ⟨hl, hF⟩
    · rcases pTop_cases s3 (k : Int) FEW3 S8.C with hp | ⟨op, pc, r0, r1, r2, r3, r4, r5, r6, r7, xs, hp, h6⟩
      · refine ⟨0, 0, 0, 0, 0, 0, 0, 0, 0, 0, [], false, hid (fun A B C L a b c d w h => ?_), hid ?_⟩
        · have h9 := rtop_no A B C L a b c d s3 (k : Int) w FEW3 h hp
          rw [E3.out.1, E3.out.2.1, E3.out.2.2.1, E3.out.2.2.2] at h9
          exact h9.mono (fun e w' ⟨q1, q2⟩ => ⟨none, 0, q1, q2⟩)
        · rw [HB.out]; simp; omega
      · refine ⟨op, pc, r0, r1, r2, r3, r4, r5, r6, r7, xs, true, hid (fun A B C L a b c d w h => ?_), hid ?_⟩
        · have h9 := rtop_is A B C L a b c d s3 (k : Int) op pc r0 r1 r2 r3 r4 r5 r6 r7 xs w FEW3 h hp h6
          rw [E3.out.1, E3.out.2.1, E3.out.2.2.1, E3.out.2.2.2] at h9
          exact h9.mono (fun e w' ⟨A', c', q1, _, q2⟩ => ⟨A', c', q1, q2⟩)
        · rw [HB.out, hF]; simp; omega
    · have hp : pTop s3 (k : Int) = some (frS 6 0) := by rw [HY.out]; exact core_top (s := ⟨_, _, s0.L⟩) (F := x.F ++ [frR (1 + (q : Int)) 1]) (set_get HX.out) (by rw [hF]; simp)
      refine ⟨6, 0, 0, 0, 0, 0, 0, 0, 0, 0, [], true, hid (fun A B C L a b c d w h => ?_), hid ?_⟩
      · have h9 := rtop_is A B C L a b c d s3 (k : Int) 6 0 0 0 0 0 0 0 0 0 [] w FEW3 h hp (by simp)
        rw [E3.out.1, E3.out.2.1, E3.out.2.2.1, E3.out.2.2.2] at h9
        exact h9.mono (fun e w' ⟨A', c', q1, _, q2⟩ => ⟨A', c', q1, q2⟩)
      · rw [HB.out, hF]; simp; omega
  go_upto_region 14 with (go_at_call 14; (with_reducible refine (HTP.out _ _ _ _ _ _ _ _ _ S8).mono ?_); rintro e w8 ⟨AT, cT, rfl, hk⟩)
  clear m0_0 m0_1 m0_2 m0_3 m0_4 m8_0 m8_1 m8_2 m8_3 m8_4
  replace Bk0 := (hk.block v0 lt0).trans Bk0
  replace lt0 := Nat.lt_of_lt_of_le lt0 hk.size
  replace Bk8 := (hk.block v8 lt8).trans Bk8
  replace lt8 := Nat.lt_of_lt_of_le lt8 hk.size
  replace S0 := S0.step hk
  replace S8 := S8.step hk
  replace r10 := r10.step hk
  replace hb := bstep hb hk
  clear hk
  have BkT := heap_alloc_new w8 (.cells #[.int .i64 op, .int .i64 pc, .int .i64 r0, .int .i64 r1, .int .i64 r2, .int .i64 r3, .int .i64 r4, .int .i64 r5, .int .i64 r6, .int .i64 r7, .slice AT xs.length cT] 44)
  have ltT : w8.heap.size < (w8.alloc (.cells #[.int .i64 op, .int .i64 pc, .int .i64 r0, .int .i64 r1, .int .i64 r2, .int .i64 r3, .int .i64 r4, .int .i64 r5, .int .i64 r6, .int .i64 r7, .slice AT xs.length cT] 44)).heap.size := by simp
  have hk : Below w8.heap.size w8 (w8.alloc (.cells #[.int .i64 op, .int .i64 pc, .int .i64 r0, .int .i64 r1, .int .i64 r2, .int .i64 r3, .int .i64 r4, .int .i64 r5, .int .i64 r6, .int .i64 r7, .slice AT xs.length cT] 44)) := boxed _ _
  replace Bk0 := (hk.block v0 lt0).trans Bk0
  replace lt0 := Nat.lt_of_lt_of_le lt0 hk.size
  replace Bk8 := (hk.block v8 lt8).trans Bk8
  replace lt8 := Nat.lt_of_lt_of_le lt8 hk.size
  replace S0 := S0.step hk
  replace S8 := S8.step hk
  replace r10 := r10.step hk
  replace hb := bstep hb hk
  clear hk
  obtain ⟨vT, hv⟩ : ∃ v, w8.heap.size = v := ⟨_, rfl⟩
  rw [hv] at BkT ltT ⊢
  clear hv
  generalize (w8.alloc (.cells #[.int .i64 op, .int .i64 pc, .int .i64 r0, .int .i64 r1, .int .i64 r2, .int .i64 r3, .int .i64 r4, .int .i64 r5, .int .i64 r6, .int .i64 r7, .slice AT xs.length cT] 44)) = w9 at *
  obtain ⟨gC2, oC2, eC2, hbl2, hat2⟩ := S0.C (by omega)
  injection eC2 with eC2
  injection eC2 with eC3 eC4
  subst eC3 eC4
  obtain ⟨AFy, ARy, cFy, cRy, hcy, rFy, rRy, hcFy⟩ := (hat2 k _ HX.out).cs4
  clear hat2 rFy rRy hcFy
  have y0 : w9.cell? ⟨gC, oC + k * 7, none⟩ = some (.slice AFy x.F.length cFy) := hcy 0 _ rfl
  have y6 : w9.cell? ⟨gC, oC + k * 7 + 6, none⟩ = some (.slice ARy x.ret.length cRy) := hcy 6 _ rfl
  clear hcy
  obtain ⟨gD, oD, eD, hblD, hatD⟩ := S8.C (by rw [E3.out.2.2.1]; omega)
  subst eD
  obtain ⟨AFz, ARz, cFz, cRz, hcz, rFz, rRz, hcFz⟩ := (hatD k y (by rw [HY.out]; exact set_get HX.out)).cs4
  clear hatD hcFz rFz
  have z0 : w9.cell? ⟨gD, oD + k * 7, none⟩ = some (.slice AFz y.F.length cFz) := hcz 0 _ rfl
  have z1 : w9.cell? ⟨gD, oD + k * 7 + 1, none⟩ = some (.int .i64 y.v) := hcz 1 _ rfl
  have z6 : w9.cell? ⟨gD, oD + k * 7 + 6, none⟩ = some (.slice ARz y.ret.length cRz) := hcz 6 _ rfl
  clear hcz
  obtain ⟨m0_0, m0_1, m0_2, m0_3, m0_4⟩ := cells5 Bk0
  obtain ⟨m8_0, m8_1, m8_2, m8_3, m8_4⟩ := cells5 Bk8
  obtain ⟨mT_0, mT_1, mT_2, mT_3, mT_4, mT_5, mT_6, mT_7, mT_8, mT_9, mT_10⟩ := cells11 BkT
  have yF9 : y.F.length ≤ 1000 := by rcases HYC.out with ⟨_, h9, _⟩ | ⟨_, h9⟩ <;> rw [h9] <;> (try simp) <;> omega
  go_cut [15] from 103 (fun y15 wx => y15 = .bool scb ∧ Below w9.heap.size w9 wx)
  case first =>
    rcases Bool.eq_false_or_eq_true isb with hi | hi
    · subst hi
      rcases Bool.eq_false_or_eq_true (op == 6) with h6 | h6
      · by_cases hln : y.F.length = x.F.length + 2
        · have hlb : ((y.F.length : Int) == (x.F.length : Int) + 2) = true := by simp; omega
          have hs9 : scb = true := by have h9 := HSC.out; simpa [h6, hln] using h9.symm
          subst hs9
          clear hln
          go_quiet (fail)
          go_wp2_with fail
          go_meet
          exact ⟨rfl, bdrewN (Below.refl _ _) _⟩
        · have hlb : ((y.F.length : Int) == (x.F.length : Int) + 2) = false := by rw [beq_eq_false_iff_ne]; omega
          have hs9 : scb = false := by have h9 := HSC.out; simpa [h6, hln] using h9.symm
          subst hs9
          clear hln
          go_quiet (fail)
          go_wp2_with fail
          go_meet
          exact ⟨rfl, bdrewN (Below.refl _ _) _⟩
      · have hs9 : scb = false := by have h9 := HSC.out; simpa [h6] using h9.symm
        subst hs9
        go_quiet (fail)
        go_wp2_with fail
        go_meet
        exact ⟨rfl, bdrewN (Below.refl _ _) _⟩
    · subst hi
      have hs9 : scb = false := by have h9 := HSC.out; simpa using h9.symm
      subst hs9
      go_quiet (fail)
      go_wp2_with fail
      go_meet
      exact ⟨rfl, bdrewN (Below.refl _ _) _⟩
  case rest =>
    obtain ⟨rfl, hk⟩ := hcut
    clear HTP HSC
    clear m0_0 m0_1 m0_2 m0_3 m0_4 m8_0 m8_1 m8_2 m8_3 m8_4 mT_0 mT_1 mT_2 mT_3 mT_4 mT_5 mT_6 mT_7 mT_8 mT_9 mT_10
    replace z0 := (hk.cell hblD).trans z0
    replace z1 := (hk.cell hblD).trans z1
    replace z6 := (hk.cell hblD).trans z6
    replace y0 := (hk.cell hbl2).trans y0
    replace rRz := rRz.step hk
    replace hblD := Nat.lt_of_lt_of_le hblD hk.size
    replace hbl2 := Nat.lt_of_lt_of_le hbl2 hk.size
    clear y6
    obtain ⟨w10, hwc⟩ : ∃ v, v = wc := ⟨_, rfl⟩
    subst hwc
    replace Bk0 := (hk.block v0 lt0).trans Bk0
    replace lt0 := Nat.lt_of_lt_of_le lt0 hk.size
    replace Bk8 := (hk.block v8 lt8).trans Bk8
    replace lt8 := Nat.lt_of_lt_of_le lt8 hk.size
    replace BkT := (hk.block vT ltT).trans BkT
    replace ltT := Nat.lt_of_lt_of_le ltT hk.size
    replace S0 := S0.step hk
    replace S8 := S8.step hk
    replace r10 := r10.step hk
    replace hb := bstep hb hk
    clear hk
    clear BkT ltT
    have hbeg : decide (pLimit (s0.C.length : Int) ≤ (x.ret.length : Int) + 1) = scb := by rw [HLM.out, HB.out, decide_eq_decide]; omega
    rw [hbeg]
    clear hbeg HLM
    obtain ⟨m0_0, m0_1, m0_2, m0_3, m0_4⟩ := cells5 Bk0
    obtain ⟨m8_0, m8_1, m8_2, m8_3, m8_4⟩ := cells5 Bk8
    have HYR2 := hid (show (y.ret.length : Int) = (x.ret.length : Int) + 1 by rw [HYR.out]; simp)
    have HYL := hid (show y.ret.length = x.ret.length + 1 by rw [HYR.out]; simp)
    have HIN := hid (show ∀ (A B : Option Addr) (c d : Nat) (w : World), Row w A y.ret → Row w B (x.ret ++ [1 + (q : Int)]) → Calls Try.prog 20 #[.slice A y.ret.length c, .slice B (x.ret.length + 1) d] w fun e w' => e = .returned (.bool true) ∧ Below w.heap.size w w' from fun A B c d w h1 h2 => by rw [← HYR.out] at h2; have h9 := rints_any A B c d y.ret y.ret w h1 h2 (by have := HYL.out; omega); rw [show mInts y.ret y.ret = true by simp [mInts]] at h9; rw [HYL.out] at h9 ⊢; exact h9)
    have hfl : y.F.length ≤ 1000 := yF9
    clear yF9
    have hs9 : scb = false := by rw [HB.out]; have := HLL.out; simp; omega
    subst hs9
    have hlow : y.F = x.F ∧ y.v = 1 + (q : Int) := by
      rcases HYC.out with ⟨_, h1, h2⟩ | ⟨h0, _⟩
      · exact ⟨h1, h2⟩
      · have h9 := HB.out; simp at h9; omega
    have hne9 : ((y.F.length : Int) != (x.F.length : Int)) = false := by rw [hlow.1]; simp
    have hnv : (y.v != 1 + (q : Int)) = false := by rw [hlow.2]; simp
    clear hlow
    go_upto_region 15 with (fail)
    have KS := hid (show ∀ w', Below w10.heap.size w10 w' → (w'.cell? ⟨v8, 3, none⟩ = some (.slice (some ⟨gD, oD, none⟩) s0.C.length c8) ∧ w'.cell? ⟨v0, 3, none⟩ = some (.slice (some ⟨gC, oC, none⟩) s0.C.length c0) ∧ w'.cell? ⟨gD, oD + k * 7, none⟩ = some (.slice AFz y.F.length cFz) ∧ w'.cell? ⟨gD, oD + k * 7 + 1, none⟩ = some (.int .i64 y.v) ∧ w'.cell? ⟨gD, oD + k * 7 + 6, none⟩ = some (.slice ARz y.ret.length cRz) ∧ w'.cell? ⟨gC, oC + k * 7, none⟩ = some (.slice AFy x.F.length cFy)) from fun w' h => ⟨(h.cell lt8).trans m8_3, (h.cell lt0).trans m0_3, (h.cell hblD).trans z0, (h.cell hblD).trans z1, (h.cell hblD).trans z6, (h.cell hbl2).trans y0⟩)
    refine wp_region_held_drew (S := (fun w' => Below w10.heap.size w10 w')) (by kernel_rfl) ((Below.refl _ _).drew) (fun HT0 => ?_)
    try dsimp only at HT0
    generalize w10.drew = W0 at HT0 ⊢
    first
      | (refine wpAnyH_take (i := 0) (oi := { dst := some 127, op := _, type := _, pos := _, after := _, guard := _ }) (v := ?va345) rfl (by kernel_rfl) (by kernel_rfl) (by kernel_rfl) (fun _ _ _ h => h) (Or.inl ⟨by rfl, ?ha345⟩) HT0 ?_; (case ha345 => (intro w hSw; obtain ⟨x0, x1, x2, x3, x4, x5⟩ := KS.out w hSw; clear hSw; go_simp; try with_reducible rfl)); try simp only [Act.put, List.setIfInBounds_toArray, List.set_cons_zero, List.set_cons_succ])
      | (refine wpAnyH_take (i := 0) (oi := { dst := some 127, op := _, type := _, pos := _, after := _, guard := _ }) (v := undef) rfl (by kernel_rfl) (by kernel_rfl) (by kernel_rfl) (fun _ _ _ h => h) (Or.inr ⟨by rfl, rfl⟩) HT0 ?_; try simp only [Act.put, List.setIfInBounds_toArray, List.set_cons_zero, List.set_cons_succ])
    first
      | (refine wpAnyH_take (i := 1) (oi := { dst := some 128, op := _, type := _, pos := _, after := _, guard := _ }) (v := ?va346) rfl (by kernel_rfl) (by kernel_rfl) (by kernel_rfl) (fun _ _ _ h => h) (Or.inl ⟨by rfl, ?ha346⟩) HT0 ?_; (case ha346 => (intro w hSw; obtain ⟨x0, x1, x2, x3, x4, x5⟩ := KS.out w hSw; clear hSw; go_simp; try with_reducible rfl)); try simp only [Act.put, List.setIfInBounds_toArray, List.set_cons_zero, List.set_cons_succ])
      | (refine wpAnyH_take (i := 1) (oi := { dst := some 128, op := _, type := _, pos := _, after := _, guard := _ }) (v := undef) rfl (by kernel_rfl) (by kernel_rfl) (by kernel_rfl) (fun _ _ _ h => h) (Or.inr ⟨by rfl, rfl⟩) HT0 ?_; try simp only [Act.put, List.setIfInBounds_toArray, List.set_cons_zero, List.set_cons_succ])
    first
      | (refine wpAnyH_take (i := 2) (oi := { dst := some 129, op := _, type := _, pos := _, after := _, guard := _ }) (v := ?va347) rfl (by kernel_rfl) (by kernel_rfl) (by kernel_rfl) (fun _ _ _ h => h) (Or.inl ⟨by rfl, ?ha347⟩) HT0 ?_; (case ha347 => (intro w hSw; obtain ⟨x0, x1, x2, x3, x4, x5⟩ := KS.out w hSw; clear hSw; go_simp; try with_reducible rfl)); try simp only [Act.put, List.setIfInBounds_toArray, List.set_cons_zero, List.set_cons_succ])
      | (refine wpAnyH_take (i := 2) (oi := { dst := some 129, op := _, type := _, pos := _, after := _, guard := _ }) (v := undef) rfl (by kernel_rfl) (by kernel_rfl) (by kernel_rfl) (fun _ _ _ h => h) (Or.inr ⟨by rfl, rfl⟩) HT0 ?_; try simp only [Act.put, List.setIfInBounds_toArray, List.set_cons_zero, List.set_cons_succ])
    first
      | (refine wpAnyH_take (i := 3) (oi := { dst := some 130, op := _, type := _, pos := _, after := _, guard := _ }) (v := ?va348) rfl (by kernel_rfl) (by kernel_rfl) (by kernel_rfl) (fun _ _ _ h => h) (Or.inl ⟨by rfl, ?ha348⟩) HT0 ?_; (case ha348 => (intro w hSw; obtain ⟨x0, x1, x2, x3, x4, x5⟩ := KS.out w hSw; clear hSw; go_simp; try with_reducible rfl)); try simp only [Act.put, List.setIfInBounds_toArray, List.set_cons_zero, List.set_cons_succ])
      | (refine wpAnyH_take (i := 3) (oi := { dst := some 130, op := _, type := _, pos := _, after := _, guard := _ }) (v := undef) rfl (by kernel_rfl) (by kernel_rfl) (by kernel_rfl) (fun _ _ _ h => h) (Or.inr ⟨by rfl, rfl⟩) HT0 ?_; try simp only [Act.put, List.setIfInBounds_toArray, List.set_cons_zero, List.set_cons_succ])
    first
      | (refine wpAnyH_take (i := 4) (oi := { dst := some 131, op := _, type := _, pos := _, after := _, guard := _ }) (v := ?va349) rfl (by kernel_rfl) (by kernel_rfl) (by kernel_rfl) (fun _ _ _ h => h) (Or.inl ⟨by rfl, ?ha349⟩) HT0 ?_; (case ha349 => (intro w hSw; obtain ⟨x0, x1, x2, x3, x4, x5⟩ := KS.out w hSw; clear hSw; go_simp; try with_reducible rfl)); try simp only [Act.put, List.setIfInBounds_toArray, List.set_cons_zero, List.set_cons_succ])
      | (refine wpAnyH_take (i := 4) (oi := { dst := some 131, op := _, type := _, pos := _, after := _, guard := _ }) (v := undef) rfl (by kernel_rfl) (by kernel_rfl) (by kernel_rfl) (fun _ _ _ h => h) (Or.inr ⟨by rfl, rfl⟩) HT0 ?_; try simp only [Act.put, List.setIfInBounds_toArray, List.set_cons_zero, List.set_cons_succ])
    first
      | (refine wpAnyH_take (i := 5) (oi := { dst := some 132, op := _, type := _, pos := _, after := _, guard := _ }) (v := ?va350) rfl (by kernel_rfl) (by kernel_rfl) (by kernel_rfl) (fun _ _ _ h => h) (Or.inl ⟨by rfl, ?ha350⟩) HT0 ?_; (case ha350 => (intro w hSw; obtain ⟨x0, x1, x2, x3, x4, x5⟩ := KS.out w hSw; clear hSw; go_simp; try with_reducible rfl)); try simp only [Act.put, List.setIfInBounds_toArray, List.set_cons_zero, List.set_cons_succ])
      | (refine wpAnyH_take (i := 5) (oi := { dst := some 132, op := _, type := _, pos := _, after := _, guard := _ }) (v := undef) rfl (by kernel_rfl) (by kernel_rfl) (by kernel_rfl) (fun _ _ _ h => h) (Or.inr ⟨by rfl, rfl⟩) HT0 ?_; try simp only [Act.put, List.setIfInBounds_toArray, List.set_cons_zero, List.set_cons_succ])
    first
      | (refine wpAnyH_take (i := 6) (oi := { dst := some 133, op := _, type := _, pos := _, after := _, guard := _ }) (v := ?va351) rfl (by kernel_rfl) (by kernel_rfl) (by kernel_rfl) (fun _ _ _ h => h) (Or.inl ⟨by rfl, ?ha351⟩) HT0 ?_; (case ha351 => (intro w hSw; obtain ⟨x0, x1, x2, x3, x4, x5⟩ := KS.out w hSw; clear hSw; go_simp; try with_reducible rfl)); try simp only [Act.put, List.setIfInBounds_toArray, List.set_cons_zero, List.set_cons_succ])
      | (refine wpAnyH_take (i := 6) (oi := { dst := some 133, op := _, type := _, pos := _, after := _, guard := _ }) (v := undef) rfl (by kernel_rfl) (by kernel_rfl) (by kernel_rfl) (fun _ _ _ h => h) (Or.inr ⟨by rfl, rfl⟩) HT0 ?_; try simp only [Act.put, List.setIfInBounds_toArray, List.set_cons_zero, List.set_cons_succ])
    refine wpAnyH_ready (rs := [7]) (by kernel_rfl) (by simp) ?_
    refine AllReadyH.cons (o := { dst := some 134, op := _, type := _, pos := _, after := _, guard := _ }) rfl (fun K hK => ?_) AllReadyH.nil
    go_simp
    (go_at_call 20; (with_reducible refine (HIN.out _ _ _ _ _ (rRz.step HT0) (r10.step HT0)).mono ?_); rintro e wk1 ⟨rfl, hk1⟩)
    have HT1 := bstep HT0 hk1
    refine hK.out _ _ HT1 (fun _ => ?_)
    clear hK K
    try simp only [Act.put, List.setIfInBounds_toArray, List.set_cons_zero, List.set_cons_succ]
    first
      | (refine wpAnyH_take (i := 8) (oi := { dst := some 135, op := _, type := _, pos := _, after := _, guard := _ }) (v := ?va352) rfl (by kernel_rfl) (by kernel_rfl) (by kernel_rfl) (fun _ _ _ h => h) (Or.inl ⟨by rfl, ?ha352⟩) HT1 ?_; (case ha352 => (intro w hSw; obtain ⟨x0, x1, x2, x3, x4, x5⟩ := KS.out w hSw; clear hSw; go_simp; try with_reducible rfl)); try simp only [Act.put, List.setIfInBounds_toArray, List.set_cons_zero, List.set_cons_succ])
      | (refine wpAnyH_take (i := 8) (oi := { dst := some 135, op := _, type := _, pos := _, after := _, guard := _ }) (v := undef) rfl (by kernel_rfl) (by kernel_rfl) (by kernel_rfl) (fun _ _ _ h => h) (Or.inr ⟨by rfl, rfl⟩) HT1 ?_; try simp only [Act.put, List.setIfInBounds_toArray, List.set_cons_zero, List.set_cons_succ])
    first
      | (refine wpAnyH_take (i := 9) (oi := { dst := some 136, op := _, type := _, pos := _, after := _, guard := _ }) (v := ?va353) rfl (by kernel_rfl) (by kernel_rfl) (by kernel_rfl) (fun _ _ _ h => h) (Or.inl ⟨by rfl, ?ha353⟩) HT1 ?_; (case ha353 => (intro w hSw; obtain ⟨x0, x1, x2, x3, x4, x5⟩ := KS.out w hSw; clear hSw; go_simp; try with_reducible rfl)); try simp only [Act.put, List.setIfInBounds_toArray, List.set_cons_zero, List.set_cons_succ])
      | (refine wpAnyH_take (i := 9) (oi := { dst := some 136, op := _, type := _, pos := _, after := _, guard := _ }) (v := undef) rfl (by kernel_rfl) (by kernel_rfl) (by kernel_rfl) (fun _ _ _ h => h) (Or.inr ⟨by rfl, rfl⟩) HT1 ?_; try simp only [Act.put, List.setIfInBounds_toArray, List.set_cons_zero, List.set_cons_succ])
    first
      | (refine wpAnyH_take (i := 10) (oi := { dst := some 137, op := _, type := _, pos := _, after := _, guard := _ }) (v := ?va354) rfl (by kernel_rfl) (by kernel_rfl) (by kernel_rfl) (fun _ _ _ h => h) (Or.inl ⟨by rfl, ?ha354⟩) HT1 ?_; (case ha354 => (intro w hSw; obtain ⟨x0, x1, x2, x3, x4, x5⟩ := KS.out w hSw; clear hSw; go_simp; try with_reducible rfl)); try simp only [Act.put, List.setIfInBounds_toArray, List.set_cons_zero, List.set_cons_succ])
      | (refine wpAnyH_take (i := 10) (oi := { dst := some 137, op := _, type := _, pos := _, after := _, guard := _ }) (v := undef) rfl (by kernel_rfl) (by kernel_rfl) (by kernel_rfl) (fun _ _ _ h => h) (Or.inr ⟨by rfl, rfl⟩) HT1 ?_; try simp only [Act.put, List.setIfInBounds_toArray, List.set_cons_zero, List.set_cons_succ])
    first
      | (refine wpAnyH_take (i := 11) (oi := { dst := some 138, op := _, type := _, pos := _, after := _, guard := _ }) (v := ?va355) rfl (by kernel_rfl) (by kernel_rfl) (by kernel_rfl) (fun _ _ _ h => h) (Or.inl ⟨by rfl, ?ha355⟩) HT1 ?_; (case ha355 => (intro w hSw; obtain ⟨x0, x1, x2, x3, x4, x5⟩ := KS.out w hSw; clear hSw; go_simp; try with_reducible rfl)); try simp only [Act.put, List.setIfInBounds_toArray, List.set_cons_zero, List.set_cons_succ])
      | (refine wpAnyH_take (i := 11) (oi := { dst := some 138, op := _, type := _, pos := _, after := _, guard := _ }) (v := undef) rfl (by kernel_rfl) (by kernel_rfl) (by kernel_rfl) (fun _ _ _ h => h) (Or.inr ⟨by rfl, rfl⟩) HT1 ?_; try simp only [Act.put, List.setIfInBounds_toArray, List.set_cons_zero, List.set_cons_succ])
    first
      | (refine wpAnyH_take (i := 12) (oi := { dst := some 139, op := _, type := _, pos := _, after := _, guard := _ }) (v := ?va356) rfl (by kernel_rfl) (by kernel_rfl) (by kernel_rfl) (fun _ _ _ h => h) (Or.inl ⟨by rfl, ?ha356⟩) HT1 ?_; (case ha356 => (intro w hSw; obtain ⟨x0, x1, x2, x3, x4, x5⟩ := KS.out w hSw; clear hSw; go_simp; try with_reducible rfl)); try simp only [Act.put, List.setIfInBounds_toArray, List.set_cons_zero, List.set_cons_succ])
      | (refine wpAnyH_take (i := 12) (oi := { dst := some 139, op := _, type := _, pos := _, after := _, guard := _ }) (v := undef) rfl (by kernel_rfl) (by kernel_rfl) (by kernel_rfl) (fun _ _ _ h => h) (Or.inr ⟨by rfl, rfl⟩) HT1 ?_; try simp only [Act.put, List.setIfInBounds_toArray, List.set_cons_zero, List.set_cons_succ])
    first
      | (refine wpAnyH_take (i := 13) (oi := { dst := some 140, op := _, type := _, pos := _, after := _, guard := _ }) (v := ?va357) rfl (by kernel_rfl) (by kernel_rfl) (by kernel_rfl) (fun _ _ _ h => h) (Or.inl ⟨by rfl, ?ha357⟩) HT1 ?_; (case ha357 => (intro w hSw; obtain ⟨x0, x1, x2, x3, x4, x5⟩ := KS.out w hSw; clear hSw; go_simp; try with_reducible rfl)); try simp only [Act.put, List.setIfInBounds_toArray, List.set_cons_zero, List.set_cons_succ])
      | (refine wpAnyH_take (i := 13) (oi := { dst := some 140, op := _, type := _, pos := _, after := _, guard := _ }) (v := undef) rfl (by kernel_rfl) (by kernel_rfl) (by kernel_rfl) (fun _ _ _ h => h) (Or.inr ⟨by rfl, rfl⟩) HT1 ?_; try simp only [Act.put, List.setIfInBounds_toArray, List.set_cons_zero, List.set_cons_succ])
    first
      | (refine wpAnyH_take (i := 14) (oi := { dst := some 141, op := _, type := _, pos := _, after := _, guard := _ }) (v := ?va358) rfl (by kernel_rfl) (by kernel_rfl) (by kernel_rfl) (fun _ _ _ h => h) (Or.inl ⟨by rfl, ?ha358⟩) HT1 ?_; (case ha358 => (intro w hSw; obtain ⟨x0, x1, x2, x3, x4, x5⟩ := KS.out w hSw; clear hSw; go_simp; try with_reducible rfl)); try simp only [Act.put, List.setIfInBounds_toArray, List.set_cons_zero, List.set_cons_succ])
      | (refine wpAnyH_take (i := 14) (oi := { dst := some 141, op := _, type := _, pos := _, after := _, guard := _ }) (v := undef) rfl (by kernel_rfl) (by kernel_rfl) (by kernel_rfl) (fun _ _ _ h => h) (Or.inr ⟨by rfl, rfl⟩) HT1 ?_; try simp only [Act.put, List.setIfInBounds_toArray, List.set_cons_zero, List.set_cons_succ])
    first
      | (refine wpAnyH_take (i := 15) (oi := { dst := some 142, op := _, type := _, pos := _, after := _, guard := _ }) (v := ?va359) rfl (by kernel_rfl) (by kernel_rfl) (by kernel_rfl) (fun _ _ _ h => h) (Or.inl ⟨by rfl, ?ha359⟩) HT1 ?_; (case ha359 => (intro w hSw; obtain ⟨x0, x1, x2, x3, x4, x5⟩ := KS.out w hSw; clear hSw; go_simp; try with_reducible rfl)); try simp only [Act.put, List.setIfInBounds_toArray, List.set_cons_zero, List.set_cons_succ])
      | (refine wpAnyH_take (i := 15) (oi := { dst := some 142, op := _, type := _, pos := _, after := _, guard := _ }) (v := undef) rfl (by kernel_rfl) (by kernel_rfl) (by kernel_rfl) (fun _ _ _ h => h) (Or.inr ⟨by rfl, rfl⟩) HT1 ?_; try simp only [Act.put, List.setIfInBounds_toArray, List.set_cons_zero, List.set_cons_succ])
    first
      | (refine wpAnyH_take (i := 16) (oi := { dst := some 143, op := _, type := _, pos := _, after := _, guard := _ }) (v := ?va360) rfl (by kernel_rfl) (by kernel_rfl) (by kernel_rfl) (fun _ _ _ h => h) (Or.inl ⟨by rfl, ?ha360⟩) HT1 ?_; (case ha360 => (intro w hSw; obtain ⟨x0, x1, x2, x3, x4, x5⟩ := KS.out w hSw; clear hSw; go_simp; try with_reducible rfl)); try simp only [Act.put, List.setIfInBounds_toArray, List.set_cons_zero, List.set_cons_succ])
      | (refine wpAnyH_take (i := 16) (oi := { dst := some 143, op := _, type := _, pos := _, after := _, guard := _ }) (v := undef) rfl (by kernel_rfl) (by kernel_rfl) (by kernel_rfl) (fun _ _ _ h => h) (Or.inr ⟨by rfl, rfl⟩) HT1 ?_; try simp only [Act.put, List.setIfInBounds_toArray, List.set_cons_zero, List.set_cons_succ])
    first
      | (refine wpAnyH_take (i := 17) (oi := { dst := some 144, op := _, type := _, pos := _, after := _, guard := _ }) (v := ?va361) rfl (by kernel_rfl) (by kernel_rfl) (by kernel_rfl) (fun _ _ _ h => h) (Or.inl ⟨by rfl, ?ha361⟩) HT1 ?_; (case ha361 => (intro w hSw; obtain ⟨x0, x1, x2, x3, x4, x5⟩ := KS.out w hSw; clear hSw; go_simp; try with_reducible rfl)); try simp only [Act.put, List.setIfInBounds_toArray, List.set_cons_zero, List.set_cons_succ])
      | (refine wpAnyH_take (i := 17) (oi := { dst := some 144, op := _, type := _, pos := _, after := _, guard := _ }) (v := undef) rfl (by kernel_rfl) (by kernel_rfl) (by kernel_rfl) (fun _ _ _ h => h) (Or.inr ⟨by rfl, rfl⟩) HT1 ?_; try simp only [Act.put, List.setIfInBounds_toArray, List.set_cons_zero, List.set_cons_succ])
    first
      | (refine wpAnyH_take (i := 18) (oi := { dst := some 145, op := _, type := _, pos := _, after := _, guard := _ }) (v := ?va362) rfl (by kernel_rfl) (by kernel_rfl) (by kernel_rfl) (fun _ _ _ h => h) (Or.inl ⟨by rfl, ?ha362⟩) HT1 ?_; (case ha362 => (intro w hSw; obtain ⟨x0, x1, x2, x3, x4, x5⟩ := KS.out w hSw; clear hSw; go_simp; try with_reducible rfl)); try simp only [Act.put, List.setIfInBounds_toArray, List.set_cons_zero, List.set_cons_succ])
      | (refine wpAnyH_take (i := 18) (oi := { dst := some 145, op := _, type := _, pos := _, after := _, guard := _ }) (v := undef) rfl (by kernel_rfl) (by kernel_rfl) (by kernel_rfl) (fun _ _ _ h => h) (Or.inr ⟨by rfl, rfl⟩) HT1 ?_; try simp only [Act.put, List.setIfInBounds_toArray, List.set_cons_zero, List.set_cons_succ])
    first
      | (refine wpAnyH_take (i := 19) (oi := { dst := some 146, op := _, type := _, pos := _, after := _, guard := _ }) (v := ?va363) rfl (by kernel_rfl) (by kernel_rfl) (by kernel_rfl) (fun _ _ _ h => h) (Or.inl ⟨by rfl, ?ha363⟩) HT1 ?_; (case ha363 => (intro w hSw; obtain ⟨x0, x1, x2, x3, x4, x5⟩ := KS.out w hSw; clear hSw; go_simp; try with_reducible rfl)); try simp only [Act.put, List.setIfInBounds_toArray, List.set_cons_zero, List.set_cons_succ])
      | (refine wpAnyH_take (i := 19) (oi := { dst := some 146, op := _, type := _, pos := _, after := _, guard := _ }) (v := undef) rfl (by kernel_rfl) (by kernel_rfl) (by kernel_rfl) (fun _ _ _ h => h) (Or.inr ⟨by rfl, rfl⟩) HT1 ?_; try simp only [Act.put, List.setIfInBounds_toArray, List.set_cons_zero, List.set_cons_succ])
    first
      | (refine wpAnyH_take (i := 20) (oi := { dst := some 147, op := _, type := _, pos := _, after := _, guard := _ }) (v := ?va364) rfl (by kernel_rfl) (by kernel_rfl) (by kernel_rfl) (fun _ _ _ h => h) (Or.inl ⟨by rfl, ?ha364⟩) HT1 ?_; (case ha364 => (intro w hSw; obtain ⟨x0, x1, x2, x3, x4, x5⟩ := KS.out w hSw; clear hSw; go_simp; try with_reducible rfl)); try simp only [Act.put, List.setIfInBounds_toArray, List.set_cons_zero, List.set_cons_succ])
      | (refine wpAnyH_take (i := 20) (oi := { dst := some 147, op := _, type := _, pos := _, after := _, guard := _ }) (v := undef) rfl (by kernel_rfl) (by kernel_rfl) (by kernel_rfl) (fun _ _ _ h => h) (Or.inr ⟨by rfl, rfl⟩) HT1 ?_; try simp only [Act.put, List.setIfInBounds_toArray, List.set_cons_zero, List.set_cons_succ])
    first
      | (refine wpAnyH_take (i := 21) (oi := { dst := some 148, op := _, type := _, pos := _, after := _, guard := _ }) (v := ?va365) rfl (by kernel_rfl) (by kernel_rfl) (by kernel_rfl) (fun _ _ _ h => h) (Or.inl ⟨by rfl, ?ha365⟩) HT1 ?_; (case ha365 => (intro w hSw; obtain ⟨x0, x1, x2, x3, x4, x5⟩ := KS.out w hSw; clear hSw; go_simp; try with_reducible rfl)); try simp only [Act.put, List.setIfInBounds_toArray, List.set_cons_zero, List.set_cons_succ])
      | (refine wpAnyH_take (i := 21) (oi := { dst := some 148, op := _, type := _, pos := _, after := _, guard := _ }) (v := undef) rfl (by kernel_rfl) (by kernel_rfl) (by kernel_rfl) (fun _ _ _ h => h) (Or.inr ⟨by rfl, rfl⟩) HT1 ?_; try simp only [Act.put, List.setIfInBounds_toArray, List.set_cons_zero, List.set_cons_succ])
    first
      | (refine wpAnyH_take (i := 22) (oi := { dst := some 149, op := _, type := _, pos := _, after := _, guard := _ }) (v := ?va366) rfl (by kernel_rfl) (by kernel_rfl) (by kernel_rfl) (fun _ _ _ h => h) (Or.inl ⟨by rfl, ?ha366⟩) HT1 ?_; (case ha366 => (intro w hSw; obtain ⟨x0, x1, x2, x3, x4, x5⟩ := KS.out w hSw; clear hSw; go_simp; try with_reducible rfl)); try simp only [Act.put, List.setIfInBounds_toArray, List.set_cons_zero, List.set_cons_succ])
      | (refine wpAnyH_take (i := 22) (oi := { dst := some 149, op := _, type := _, pos := _, after := _, guard := _ }) (v := undef) rfl (by kernel_rfl) (by kernel_rfl) (by kernel_rfl) (fun _ _ _ h => h) (Or.inr ⟨by rfl, rfl⟩) HT1 ?_; try simp only [Act.put, List.setIfInBounds_toArray, List.set_cons_zero, List.set_cons_succ])
    first
      | (refine wpAnyH_take (i := 23) (oi := { dst := some 150, op := _, type := _, pos := _, after := _, guard := _ }) (v := ?va367) rfl (by kernel_rfl) (by kernel_rfl) (by kernel_rfl) (fun _ _ _ h => h) (Or.inl ⟨by rfl, ?ha367⟩) HT1 ?_; (case ha367 => (intro w hSw; obtain ⟨x0, x1, x2, x3, x4, x5⟩ := KS.out w hSw; clear hSw; go_simp; try with_reducible rfl)); try simp only [Act.put, List.setIfInBounds_toArray, List.set_cons_zero, List.set_cons_succ])
      | (refine wpAnyH_take (i := 23) (oi := { dst := some 150, op := _, type := _, pos := _, after := _, guard := _ }) (v := undef) rfl (by kernel_rfl) (by kernel_rfl) (by kernel_rfl) (fun _ _ _ h => h) (Or.inr ⟨by rfl, rfl⟩) HT1 ?_; try simp only [Act.put, List.setIfInBounds_toArray, List.set_cons_zero, List.set_cons_succ])
    first
      | (refine wpAnyH_take (i := 24) (oi := { dst := some 151, op := _, type := _, pos := _, after := _, guard := _ }) (v := ?va368) rfl (by kernel_rfl) (by kernel_rfl) (by kernel_rfl) (fun _ _ _ h => h) (Or.inl ⟨by rfl, ?ha368⟩) HT1 ?_; (case ha368 => (intro w hSw; obtain ⟨x0, x1, x2, x3, x4, x5⟩ := KS.out w hSw; clear hSw; go_simp; try with_reducible rfl)); try simp only [Act.put, List.setIfInBounds_toArray, List.set_cons_zero, List.set_cons_succ])
      | (refine wpAnyH_take (i := 24) (oi := { dst := some 151, op := _, type := _, pos := _, after := _, guard := _ }) (v := undef) rfl (by kernel_rfl) (by kernel_rfl) (by kernel_rfl) (fun _ _ _ h => h) (Or.inr ⟨by rfl, rfl⟩) HT1 ?_; try simp only [Act.put, List.setIfInBounds_toArray, List.set_cons_zero, List.set_cons_succ])
    first
      | (refine wpAnyH_take (i := 25) (oi := { dst := some 152, op := _, type := _, pos := _, after := _, guard := _ }) (v := ?va369) rfl (by kernel_rfl) (by kernel_rfl) (by kernel_rfl) (fun _ _ _ h => h) (Or.inl ⟨by rfl, ?ha369⟩) HT1 ?_; (case ha369 => (intro w hSw; obtain ⟨x0, x1, x2, x3, x4, x5⟩ := KS.out w hSw; clear hSw; go_simp; try with_reducible rfl)); try simp only [Act.put, List.setIfInBounds_toArray, List.set_cons_zero, List.set_cons_succ])
      | (refine wpAnyH_take (i := 25) (oi := { dst := some 152, op := _, type := _, pos := _, after := _, guard := _ }) (v := undef) rfl (by kernel_rfl) (by kernel_rfl) (by kernel_rfl) (fun _ _ _ h => h) (Or.inr ⟨by rfl, rfl⟩) HT1 ?_; try simp only [Act.put, List.setIfInBounds_toArray, List.set_cons_zero, List.set_cons_succ])
    first
      | (refine wpAnyH_take (i := 26) (oi := { dst := some 153, op := _, type := _, pos := _, after := _, guard := _ }) (v := ?va370) rfl (by kernel_rfl) (by kernel_rfl) (by kernel_rfl) (fun _ _ _ h => h) (Or.inl ⟨by rfl, ?ha370⟩) HT1 ?_; (case ha370 => (intro w hSw; obtain ⟨x0, x1, x2, x3, x4, x5⟩ := KS.out w hSw; clear hSw; go_simp; try with_reducible rfl)); try simp only [Act.put, List.setIfInBounds_toArray, List.set_cons_zero, List.set_cons_succ])
      | (refine wpAnyH_take (i := 26) (oi := { dst := some 153, op := _, type := _, pos := _, after := _, guard := _ }) (v := undef) rfl (by kernel_rfl) (by kernel_rfl) (by kernel_rfl) (fun _ _ _ h => h) (Or.inr ⟨by rfl, rfl⟩) HT1 ?_; try simp only [Act.put, List.setIfInBounds_toArray, List.set_cons_zero, List.set_cons_succ])
    first
      | (refine wpAnyH_take (i := 27) (oi := { dst := some 154, op := _, type := _, pos := _, after := _, guard := _ }) (v := ?va371) rfl (by kernel_rfl) (by kernel_rfl) (by kernel_rfl) (fun _ _ _ h => h) (Or.inl ⟨by rfl, ?ha371⟩) HT1 ?_; (case ha371 => (intro w hSw; obtain ⟨x0, x1, x2, x3, x4, x5⟩ := KS.out w hSw; clear hSw; go_simp; try with_reducible rfl)); try simp only [Act.put, List.setIfInBounds_toArray, List.set_cons_zero, List.set_cons_succ])
      | (refine wpAnyH_take (i := 27) (oi := { dst := some 154, op := _, type := _, pos := _, after := _, guard := _ }) (v := undef) rfl (by kernel_rfl) (by kernel_rfl) (by kernel_rfl) (fun _ _ _ h => h) (Or.inr ⟨by rfl, rfl⟩) HT1 ?_; try simp only [Act.put, List.setIfInBounds_toArray, List.set_cons_zero, List.set_cons_succ])
    first
      | (refine wpAnyH_take (i := 28) (oi := { dst := some 155, op := _, type := _, pos := _, after := _, guard := _ }) (v := ?va372) rfl (by kernel_rfl) (by kernel_rfl) (by kernel_rfl) (fun _ _ _ h => h) (Or.inl ⟨by rfl, ?ha372⟩) HT1 ?_; (case ha372 => (intro w hSw; obtain ⟨x0, x1, x2, x3, x4, x5⟩ := KS.out w hSw; clear hSw; go_simp; try with_reducible rfl)); try simp only [Act.put, List.setIfInBounds_toArray, List.set_cons_zero, List.set_cons_succ])
      | (refine wpAnyH_take (i := 28) (oi := { dst := some 155, op := _, type := _, pos := _, after := _, guard := _ }) (v := undef) rfl (by kernel_rfl) (by kernel_rfl) (by kernel_rfl) (fun _ _ _ h => h) (Or.inr ⟨by rfl, rfl⟩) HT1 ?_; try simp only [Act.put, List.setIfInBounds_toArray, List.set_cons_zero, List.set_cons_succ])
    first
      | (refine wpAnyH_take (i := 29) (oi := { dst := some 156, op := _, type := _, pos := _, after := _, guard := _ }) (v := ?va373) rfl (by kernel_rfl) (by kernel_rfl) (by kernel_rfl) (fun _ _ _ h => h) (Or.inl ⟨by rfl, ?ha373⟩) HT1 ?_; (case ha373 => (intro w hSw; obtain ⟨x0, x1, x2, x3, x4, x5⟩ := KS.out w hSw; clear hSw; go_simp; try with_reducible rfl)); try simp only [Act.put, List.setIfInBounds_toArray, List.set_cons_zero, List.set_cons_succ])
      | (refine wpAnyH_take (i := 29) (oi := { dst := some 156, op := _, type := _, pos := _, after := _, guard := _ }) (v := undef) rfl (by kernel_rfl) (by kernel_rfl) (by kernel_rfl) (fun _ _ _ h => h) (Or.inr ⟨by rfl, rfl⟩) HT1 ?_; try simp only [Act.put, List.setIfInBounds_toArray, List.set_cons_zero, List.set_cons_succ])
    first
      | (refine wpAnyH_take (i := 30) (oi := { dst := some 157, op := _, type := _, pos := _, after := _, guard := _ }) (v := ?va374) rfl (by kernel_rfl) (by kernel_rfl) (by kernel_rfl) (fun _ _ _ h => h) (Or.inl ⟨by rfl, ?ha374⟩) HT1 ?_; (case ha374 => (intro w hSw; obtain ⟨x0, x1, x2, x3, x4, x5⟩ := KS.out w hSw; clear hSw; go_simp; try with_reducible rfl)); try simp only [Act.put, List.setIfInBounds_toArray, List.set_cons_zero, List.set_cons_succ])
      | (refine wpAnyH_take (i := 30) (oi := { dst := some 157, op := _, type := _, pos := _, after := _, guard := _ }) (v := undef) rfl (by kernel_rfl) (by kernel_rfl) (by kernel_rfl) (fun _ _ _ h => h) (Or.inr ⟨by rfl, rfl⟩) HT1 ?_; try simp only [Act.put, List.setIfInBounds_toArray, List.set_cons_zero, List.set_cons_succ])
    first
      | (refine wpAnyH_take (i := 31) (oi := { dst := some 158, op := _, type := _, pos := _, after := _, guard := _ }) (v := ?va375) rfl (by kernel_rfl) (by kernel_rfl) (by kernel_rfl) (fun _ _ _ h => h) (Or.inl ⟨by rfl, ?ha375⟩) HT1 ?_; (case ha375 => (intro w hSw; obtain ⟨x0, x1, x2, x3, x4, x5⟩ := KS.out w hSw; clear hSw; go_simp; try with_reducible rfl)); try simp only [Act.put, List.setIfInBounds_toArray, List.set_cons_zero, List.set_cons_succ])
      | (refine wpAnyH_take (i := 31) (oi := { dst := some 158, op := _, type := _, pos := _, after := _, guard := _ }) (v := undef) rfl (by kernel_rfl) (by kernel_rfl) (by kernel_rfl) (fun _ _ _ h => h) (Or.inr ⟨by rfl, rfl⟩) HT1 ?_; try simp only [Act.put, List.setIfInBounds_toArray, List.set_cons_zero, List.set_cons_succ])
    first
      | (refine wpAnyH_take (i := 32) (oi := { dst := some 159, op := _, type := _, pos := _, after := _, guard := _ }) (v := ?va376) rfl (by kernel_rfl) (by kernel_rfl) (by kernel_rfl) (fun _ _ _ h => h) (Or.inl ⟨by rfl, ?ha376⟩) HT1 ?_; (case ha376 => (intro w hSw; obtain ⟨x0, x1, x2, x3, x4, x5⟩ := KS.out w hSw; clear hSw; go_simp; try with_reducible rfl)); try simp only [Act.put, List.setIfInBounds_toArray, List.set_cons_zero, List.set_cons_succ])
      | (refine wpAnyH_take (i := 32) (oi := { dst := some 159, op := _, type := _, pos := _, after := _, guard := _ }) (v := undef) rfl (by kernel_rfl) (by kernel_rfl) (by kernel_rfl) (fun _ _ _ h => h) (Or.inr ⟨by rfl, rfl⟩) HT1 ?_; try simp only [Act.put, List.setIfInBounds_toArray, List.set_cons_zero, List.set_cons_succ])
    first
      | (refine wpAnyH_take (i := 33) (oi := { dst := some 160, op := _, type := _, pos := _, after := _, guard := _ }) (v := ?va377) rfl (by kernel_rfl) (by kernel_rfl) (by kernel_rfl) (fun _ _ _ h => h) (Or.inl ⟨by rfl, ?ha377⟩) HT1 ?_; (case ha377 => (intro w hSw; obtain ⟨x0, x1, x2, x3, x4, x5⟩ := KS.out w hSw; clear hSw; go_simp; try with_reducible rfl)); try simp only [Act.put, List.setIfInBounds_toArray, List.set_cons_zero, List.set_cons_succ])
      | (refine wpAnyH_take (i := 33) (oi := { dst := some 160, op := _, type := _, pos := _, after := _, guard := _ }) (v := undef) rfl (by kernel_rfl) (by kernel_rfl) (by kernel_rfl) (fun _ _ _ h => h) (Or.inr ⟨by rfl, rfl⟩) HT1 ?_; try simp only [Act.put, List.setIfInBounds_toArray, List.set_cons_zero, List.set_cons_succ])
    first
      | (refine wpAnyH_take (i := 34) (oi := { dst := some 161, op := _, type := _, pos := _, after := _, guard := _ }) (v := ?va378) rfl (by kernel_rfl) (by kernel_rfl) (by kernel_rfl) (fun _ _ _ h => h) (Or.inl ⟨by rfl, ?ha378⟩) HT1 ?_; (case ha378 => (intro w hSw; obtain ⟨x0, x1, x2, x3, x4, x5⟩ := KS.out w hSw; clear hSw; go_simp; try with_reducible rfl)); try simp only [Act.put, List.setIfInBounds_toArray, List.set_cons_zero, List.set_cons_succ])
      | (refine wpAnyH_take (i := 34) (oi := { dst := some 161, op := _, type := _, pos := _, after := _, guard := _ }) (v := undef) rfl (by kernel_rfl) (by kernel_rfl) (by kernel_rfl) (fun _ _ _ h => h) (Or.inr ⟨by rfl, rfl⟩) HT1 ?_; try simp only [Act.put, List.setIfInBounds_toArray, List.set_cons_zero, List.set_cons_succ])
    first
      | (refine wpAnyH_take (i := 35) (oi := { dst := some 162, op := _, type := _, pos := _, after := _, guard := _ }) (v := ?va379) rfl (by kernel_rfl) (by kernel_rfl) (by kernel_rfl) (fun _ _ _ h => h) (Or.inl ⟨by rfl, ?ha379⟩) HT1 ?_; (case ha379 => (intro w hSw; obtain ⟨x0, x1, x2, x3, x4, x5⟩ := KS.out w hSw; clear hSw; go_simp; try with_reducible rfl)); try simp only [Act.put, List.setIfInBounds_toArray, List.set_cons_zero, List.set_cons_succ])
      | (refine wpAnyH_take (i := 35) (oi := { dst := some 162, op := _, type := _, pos := _, after := _, guard := _ }) (v := undef) rfl (by kernel_rfl) (by kernel_rfl) (by kernel_rfl) (fun _ _ _ h => h) (Or.inr ⟨by rfl, rfl⟩) HT1 ?_; try simp only [Act.put, List.setIfInBounds_toArray, List.set_cons_zero, List.set_cons_succ])
    first
      | (refine wpAnyH_take (i := 36) (oi := { dst := some 163, op := _, type := _, pos := _, after := _, guard := _ }) (v := ?va380) rfl (by kernel_rfl) (by kernel_rfl) (by kernel_rfl) (fun _ _ _ h => h) (Or.inl ⟨by rfl, ?ha380⟩) HT1 ?_; (case ha380 => (intro w hSw; obtain ⟨x0, x1, x2, x3, x4, x5⟩ := KS.out w hSw; clear hSw; go_simp; try with_reducible rfl)); try simp only [Act.put, List.setIfInBounds_toArray, List.set_cons_zero, List.set_cons_succ])
      | (refine wpAnyH_take (i := 36) (oi := { dst := some 163, op := _, type := _, pos := _, after := _, guard := _ }) (v := undef) rfl (by kernel_rfl) (by kernel_rfl) (by kernel_rfl) (fun _ _ _ h => h) (Or.inr ⟨by rfl, rfl⟩) HT1 ?_; try simp only [Act.put, List.setIfInBounds_toArray, List.set_cons_zero, List.set_cons_succ])
    first
      | (refine wpAnyH_take (i := 37) (oi := { dst := some 164, op := _, type := _, pos := _, after := _, guard := _ }) (v := ?va381) rfl (by kernel_rfl) (by kernel_rfl) (by kernel_rfl) (fun _ _ _ h => h) (Or.inl ⟨by rfl, ?ha381⟩) HT1 ?_; (case ha381 => (intro w hSw; obtain ⟨x0, x1, x2, x3, x4, x5⟩ := KS.out w hSw; clear hSw; go_simp; try with_reducible rfl)); try simp only [Act.put, List.setIfInBounds_toArray, List.set_cons_zero, List.set_cons_succ])
      | (refine wpAnyH_take (i := 37) (oi := { dst := some 164, op := _, type := _, pos := _, after := _, guard := _ }) (v := undef) rfl (by kernel_rfl) (by kernel_rfl) (by kernel_rfl) (fun _ _ _ h => h) (Or.inr ⟨by rfl, rfl⟩) HT1 ?_; try simp only [Act.put, List.setIfInBounds_toArray, List.set_cons_zero, List.set_cons_succ])
    first
      | (refine wpAnyH_take (i := 38) (oi := { dst := some 165, op := _, type := _, pos := _, after := _, guard := _ }) (v := ?va382) rfl (by kernel_rfl) (by kernel_rfl) (by kernel_rfl) (fun _ _ _ h => h) (Or.inl ⟨by rfl, ?ha382⟩) HT1 ?_; (case ha382 => (intro w hSw; obtain ⟨x0, x1, x2, x3, x4, x5⟩ := KS.out w hSw; clear hSw; go_simp; try with_reducible rfl)); try simp only [Act.put, List.setIfInBounds_toArray, List.set_cons_zero, List.set_cons_succ])
      | (refine wpAnyH_take (i := 38) (oi := { dst := some 165, op := _, type := _, pos := _, after := _, guard := _ }) (v := undef) rfl (by kernel_rfl) (by kernel_rfl) (by kernel_rfl) (fun _ _ _ h => h) (Or.inr ⟨by rfl, rfl⟩) HT1 ?_; try simp only [Act.put, List.setIfInBounds_toArray, List.set_cons_zero, List.set_cons_succ])
    first
      | (refine wpAnyH_take (i := 39) (oi := { dst := some 166, op := _, type := _, pos := _, after := _, guard := _ }) (v := ?va383) rfl (by kernel_rfl) (by kernel_rfl) (by kernel_rfl) (fun _ _ _ h => h) (Or.inl ⟨by rfl, ?ha383⟩) HT1 ?_; (case ha383 => (intro w hSw; obtain ⟨x0, x1, x2, x3, x4, x5⟩ := KS.out w hSw; clear hSw; go_simp; try with_reducible rfl)); try simp only [Act.put, List.setIfInBounds_toArray, List.set_cons_zero, List.set_cons_succ])
      | (refine wpAnyH_take (i := 39) (oi := { dst := some 166, op := _, type := _, pos := _, after := _, guard := _ }) (v := undef) rfl (by kernel_rfl) (by kernel_rfl) (by kernel_rfl) (fun _ _ _ h => h) (Or.inr ⟨by rfl, rfl⟩) HT1 ?_; try simp only [Act.put, List.setIfInBounds_toArray, List.set_cons_zero, List.set_cons_succ])
    first
      | (refine wpAnyH_take (i := 40) (oi := { dst := some 167, op := _, type := _, pos := _, after := _, guard := _ }) (v := ?va384) rfl (by kernel_rfl) (by kernel_rfl) (by kernel_rfl) (fun _ _ _ h => h) (Or.inl ⟨by rfl, ?ha384⟩) HT1 ?_; (case ha384 => (intro w hSw; obtain ⟨x0, x1, x2, x3, x4, x5⟩ := KS.out w hSw; clear hSw; go_simp; try with_reducible rfl)); try simp only [Act.put, List.setIfInBounds_toArray, List.set_cons_zero, List.set_cons_succ])
      | (refine wpAnyH_take (i := 40) (oi := { dst := some 167, op := _, type := _, pos := _, after := _, guard := _ }) (v := undef) rfl (by kernel_rfl) (by kernel_rfl) (by kernel_rfl) (fun _ _ _ h => h) (Or.inr ⟨by rfl, rfl⟩) HT1 ?_; try simp only [Act.put, List.setIfInBounds_toArray, List.set_cons_zero, List.set_cons_succ])
    first
      | (refine wpAnyH_take (i := 41) (oi := { dst := some 168, op := _, type := _, pos := _, after := _, guard := _ }) (v := ?va385) rfl (by kernel_rfl) (by kernel_rfl) (by kernel_rfl) (fun _ _ _ h => h) (Or.inl ⟨by rfl, ?ha385⟩) HT1 ?_; (case ha385 => (intro w hSw; obtain ⟨x0, x1, x2, x3, x4, x5⟩ := KS.out w hSw; clear hSw; go_simp; try with_reducible rfl)); try simp only [Act.put, List.setIfInBounds_toArray, List.set_cons_zero, List.set_cons_succ])
      | (refine wpAnyH_take (i := 41) (oi := { dst := some 168, op := _, type := _, pos := _, after := _, guard := _ }) (v := undef) rfl (by kernel_rfl) (by kernel_rfl) (by kernel_rfl) (fun _ _ _ h => h) (Or.inr ⟨by rfl, rfl⟩) HT1 ?_; try simp only [Act.put, List.setIfInBounds_toArray, List.set_cons_zero, List.set_cons_succ])
    first
      | (refine wpAnyH_take (i := 42) (oi := { dst := some 169, op := _, type := _, pos := _, after := _, guard := _ }) (v := ?va386) rfl (by kernel_rfl) (by kernel_rfl) (by kernel_rfl) (fun _ _ _ h => h) (Or.inl ⟨by rfl, ?ha386⟩) HT1 ?_; (case ha386 => (intro w hSw; obtain ⟨x0, x1, x2, x3, x4, x5⟩ := KS.out w hSw; clear hSw; go_simp; try with_reducible rfl)); try simp only [Act.put, List.setIfInBounds_toArray, List.set_cons_zero, List.set_cons_succ])
      | (refine wpAnyH_take (i := 42) (oi := { dst := some 169, op := _, type := _, pos := _, after := _, guard := _ }) (v := undef) rfl (by kernel_rfl) (by kernel_rfl) (by kernel_rfl) (fun _ _ _ h => h) (Or.inr ⟨by rfl, rfl⟩) HT1 ?_; try simp only [Act.put, List.setIfInBounds_toArray, List.set_cons_zero, List.set_cons_succ])
    first
      | (refine wpAnyH_take (i := 43) (oi := { dst := some 170, op := _, type := _, pos := _, after := _, guard := _ }) (v := ?va387) rfl (by kernel_rfl) (by kernel_rfl) (by kernel_rfl) (fun _ _ _ h => h) (Or.inl ⟨by rfl, ?ha387⟩) HT1 ?_; (case ha387 => (intro w hSw; obtain ⟨x0, x1, x2, x3, x4, x5⟩ := KS.out w hSw; clear hSw; go_simp; try with_reducible rfl)); try simp only [Act.put, List.setIfInBounds_toArray, List.set_cons_zero, List.set_cons_succ])
      | (refine wpAnyH_take (i := 43) (oi := { dst := some 170, op := _, type := _, pos := _, after := _, guard := _ }) (v := undef) rfl (by kernel_rfl) (by kernel_rfl) (by kernel_rfl) (fun _ _ _ h => h) (Or.inr ⟨by rfl, rfl⟩) HT1 ?_; try simp only [Act.put, List.setIfInBounds_toArray, List.set_cons_zero, List.set_cons_succ])
    first
      | (refine wpAnyH_take (i := 44) (oi := { dst := some 171, op := _, type := _, pos := _, after := _, guard := _ }) (v := ?va388) rfl (by kernel_rfl) (by kernel_rfl) (by kernel_rfl) (fun _ _ _ h => h) (Or.inl ⟨by rfl, ?ha388⟩) HT1 ?_; (case ha388 => (intro w hSw; obtain ⟨x0, x1, x2, x3, x4, x5⟩ := KS.out w hSw; clear hSw; go_simp; try with_reducible rfl)); try simp only [Act.put, List.setIfInBounds_toArray, List.set_cons_zero, List.set_cons_succ])
      | (refine wpAnyH_take (i := 44) (oi := { dst := some 171, op := _, type := _, pos := _, after := _, guard := _ }) (v := undef) rfl (by kernel_rfl) (by kernel_rfl) (by kernel_rfl) (fun _ _ _ h => h) (Or.inr ⟨by rfl, rfl⟩) HT1 ?_; try simp only [Act.put, List.setIfInBounds_toArray, List.set_cons_zero, List.set_cons_succ])
    refine wpAnyH_done (by kernel_rfl) ?_ _
    replace hb := bstep hb HT1
    replace S0 := S0.step HT1
    replace S8 := S8.step HT1
    replace Bk0 := (HT1.block v0 lt0).trans Bk0
    replace lt0 := Nat.lt_of_lt_of_le lt0 HT1.size
    replace Bk8 := (HT1.block v8 lt8).trans Bk8
    replace lt8 := Nat.lt_of_lt_of_le lt8 HT1.size
    clear HT1 HT0 hk1 KS z0 z1 z6 y0 m0_0 m0_1 m0_2 m0_3 m0_4 m8_0 m8_1 m8_2 m8_3 m8_4 r10 rRz
    go_upto_region 17 with (fail)
    generalize wk1 = wA at *
    obtain ⟨p, hp⟩ : ∃ p : Nat, 1 + (q : Int) = (p : Int) := ⟨q + 1, by omega⟩
    rw [hp]
    have hp1 : 1 ≤ p := by omega
    have hp2 : p < s0.M.G.length := by omega
    have pl : (p : Int) < (s0.M.G.length : Int) := by omega
    have pl0 : (0 : Int) ≤ (p : Int) := by omega
    have HTT := turn_two (m := s0.M) hp1 hp2
    rw [← hp] at HTT
    have hMe : s3.M = mTurn s0.M (1 + (q : Int)) 2 := by rw [HY.out]
    rw [← hMe] at HTT
    clear hMe
    obtain ⟨gG, oG, eG, hbG, hatG⟩ := S0.G (by omega)
    obtain ⟨gH, oH, eH, hbH, hatH⟩ := S8.G (by rw [E3.out.2.1]; omega)
    subst eG eH
    have cS : wA.cell? ⟨gG, oG + p, none⟩ = some (.int .i64 (s0.M.G.getD p 0)) := hatG p _ (by rw [List.getD_eq_getElem?_getD, List.getElem?_eq_getElem hp2]; rfl)
    have cT : wA.cell? ⟨gH, oH + p, none⟩ = some (.int .i64 (s3.M.G.getD p 0)) := hatH p _ (by rw [List.getD_eq_getElem?_getD, List.getElem?_eq_getElem (show p < s3.M.G.length by rw [E3.out.2.1]; exact hp2)]; rfl)
    clear hatG hatH
    obtain ⟨-, m0_1⟩ := cells2 Bk0
    obtain ⟨-, m8_1, m8_2⟩ := cells3 Bk8
    obtain ⟨m0_0, -, m0_2, m0_3, m0_4⟩ := cells5 Bk0
    obtain ⟨m8_0, -, -, m8_3, m8_4⟩ := cells5 Bk8
    obtain ⟨nr, hnr⟩ : ∃ n, n = (pRetired s0).length := ⟨_, rfl⟩
    have hnr2 : nr ≤ 9 * 210 := by rw [hnr]; exact pRetired_le (by omega) HRB.out
    have hnr3 : (pRetired s3).length = nr + 1 := by rw [hnr, HY.out]; exact retired_more HX.out HYR.out
    have HR1 := hid (show ∀ (w : World), RS w s3 A8 (some ⟨gH, oH, none⟩) (some ⟨gD, oD, none⟩) L8 → Calls Try.prog 11 #[.agg #[.slice A8 s0.M.W.length a8, .slice (some ⟨gH, oH, none⟩) s0.M.G.length b8, .bool s3.M.bad, .slice (some ⟨gD, oD, none⟩) s0.C.length c8, .slice L8 s0.L.length d8]] w fun e w' => ∃ (A' : Option Addr) (c' : Nat), e = .returned (.slice A' (nr + 1) c') ∧ Below w.heap.size w w' from fun w k1 => by have h9 := retired_any A8 (some ⟨gH, oH, none⟩) (some ⟨gD, oD, none⟩) L8 a8 b8 c8 d8 s3 w k1.C (by rw [E3.out.2.2.1]; omega) (by omega); rw [E3.out.1, E3.out.2.1, E3.out.2.2.1, E3.out.2.2.2] at h9; exact h9.mono (fun e w' ⟨A', c', h1, _, h2⟩ => ⟨A', c', by rw [← hnr3]; exact h1, h2⟩))
    have HR2 := hid (show ∀ (w : World), RS w s0 A0 (some ⟨gG, oG, none⟩) (some ⟨gC, oC, none⟩) L0 → Calls Try.prog 21 #[.agg #[.slice A0 s0.M.W.length a0, .slice (some ⟨gG, oG, none⟩) s0.M.G.length b0, .bool s0.M.bad, .slice (some ⟨gC, oC, none⟩) s0.C.length c0, .slice L0 s0.L.length d0]] w fun e w' => ∃ (A' : Option Addr) (c' : Nat), e = .returned (.slice A' nr c') ∧ Below w.heap.size w w' from fun w k1 => by have h9 := rretired_any A0 (some ⟨gG, oG, none⟩) (some ⟨gC, oC, none⟩) L0 a0 b0 c0 d0 s0 w k1.C (by omega) (by omega); exact h9.mono (fun e w' ⟨A', c', h1, _, h2⟩ => ⟨A', c', by rw [hnr]; exact h1, h2⟩))
    have nrl : (nr : Int) ≤ 2000 := by omega
    have nr0 : (0 : Int) ≤ (nr : Int) := by omega
    have hnw : IntKind.i64.wrap ((nr : Int) + 1) = (nr : Int) + 1 := IntWalk.i64_in _ (by omega)
    clear hnr hnr2 hnr3
    have hcase : s0.M.G.getD p 0 = 1 ∧ s3.M.bad = false := by
      have h9 := HGC.out
      rw [show q + 1 = p by omega] at h9
      rw [HY.out]
      exact h9
    obtain ⟨h1, h2⟩ := hcase
    have HBD := hid h2
    have hbd : s3.M.bad = false := h2
    rw [HTT.1 h1] at cT
    rw [h1] at cS
    clear h1 h2 HTT hbd
    obtain ⟨bd, hbq⟩ : ∃ b, b = s3.M.bad := ⟨_, rfl⟩
    rw [← hbq] at m8_2 HR1
    have hbv : bd = false := hbq.trans HBD.out
    clear hbq HBD
    subst hbv
    have KS := hid (show ∀ w', Below wA.heap.size wA w' → (w'.cell? ⟨v0, 0, none⟩ = some (.slice A0 s0.M.W.length a0) ∧ w'.cell? ⟨v0, 1, none⟩ = some (.slice (some ⟨gG, oG, none⟩) s0.M.G.length b0) ∧ w'.cell? ⟨v0, 2, none⟩ = some (.bool s0.M.bad) ∧ w'.cell? ⟨v0, 3, none⟩ = some (.slice (some ⟨gC, oC, none⟩) s0.C.length c0) ∧ w'.cell? ⟨v0, 4, none⟩ = some (.slice L0 s0.L.length d0) ∧ w'.cell? ⟨v8, 0, none⟩ = some (.slice A8 s0.M.W.length a8) ∧ w'.cell? ⟨v8, 1, none⟩ = some (.slice (some ⟨gH, oH, none⟩) s0.M.G.length b8) ∧ w'.cell? ⟨v8, 2, none⟩ = some (.bool false) ∧ w'.cell? ⟨v8, 3, none⟩ = some (.slice (some ⟨gD, oD, none⟩) s0.C.length c8) ∧ w'.cell? ⟨v8, 4, none⟩ = some (.slice L8 s0.L.length d8) ∧ w'.cell? ⟨gG, oG + p, none⟩ = some (.int .i64 1) ∧ w'.cell? ⟨gH, oH + p, none⟩ = some (.int .i64 2)) from fun w' h => ⟨(h.cell lt0).trans m0_0, (h.cell lt0).trans m0_1, (h.cell lt0).trans m0_2, (h.cell lt0).trans m0_3, (h.cell lt0).trans m0_4, (h.cell lt8).trans m8_0, (h.cell lt8).trans m8_1, (h.cell lt8).trans m8_2, (h.cell lt8).trans m8_3, (h.cell lt8).trans m8_4, (h.cell hbG).trans cS, (h.cell hbH).trans cT⟩)
    refine wp_region_held_drew (S := (fun w' => Below wA.heap.size wA w')) (by kernel_rfl) ((Below.refl _ _).drew) (fun HT0 => ?_)
    try dsimp only at HT0
    generalize wA.drew = W0 at HT0 ⊢
    first
      | (refine wpAnyH_take (i := 0) (oi := { dst := some 172, op := _, type := _, pos := _, after := _, guard := _ }) (v := ?vb389) rfl (by kernel_rfl) (by kernel_rfl) (by kernel_rfl) (fun _ _ _ h => h) (Or.inl ⟨by rfl, ?hb389⟩) HT0 ?_; (case hb389 => (intro w hSw; obtain ⟨x0, x1, x2, x3, x4, x5, x6, x7, x8, x9, x10, x11⟩ := KS.out w hSw; clear hSw; go_simp; try with_reducible rfl)); try simp only [Act.put, List.setIfInBounds_toArray, List.set_cons_zero, List.set_cons_succ])
      | (refine wpAnyH_take (i := 0) (oi := { dst := some 172, op := _, type := _, pos := _, after := _, guard := _ }) (v := undef) rfl (by kernel_rfl) (by kernel_rfl) (by kernel_rfl) (fun _ _ _ h => h) (Or.inr ⟨by rfl, rfl⟩) HT0 ?_; try simp only [Act.put, List.setIfInBounds_toArray, List.set_cons_zero, List.set_cons_succ])
    first
      | (refine wpAnyH_take (i := 1) (oi := { dst := some 173, op := _, type := _, pos := _, after := _, guard := _ }) (v := ?vb390) rfl (by kernel_rfl) (by kernel_rfl) (by kernel_rfl) (fun _ _ _ h => h) (Or.inl ⟨by rfl, ?hb390⟩) HT0 ?_; (case hb390 => (intro w hSw; obtain ⟨x0, x1, x2, x3, x4, x5, x6, x7, x8, x9, x10, x11⟩ := KS.out w hSw; clear hSw; go_simp; try with_reducible rfl)); try simp only [Act.put, List.setIfInBounds_toArray, List.set_cons_zero, List.set_cons_succ])
      | (refine wpAnyH_take (i := 1) (oi := { dst := some 173, op := _, type := _, pos := _, after := _, guard := _ }) (v := undef) rfl (by kernel_rfl) (by kernel_rfl) (by kernel_rfl) (fun _ _ _ h => h) (Or.inr ⟨by rfl, rfl⟩) HT0 ?_; try simp only [Act.put, List.setIfInBounds_toArray, List.set_cons_zero, List.set_cons_succ])
    first
      | (refine wpAnyH_take (i := 2) (oi := { dst := some 174, op := _, type := _, pos := _, after := _, guard := _ }) (v := ?vb391) rfl (by kernel_rfl) (by kernel_rfl) (by kernel_rfl) (fun _ _ _ h => h) (Or.inl ⟨by rfl, ?hb391⟩) HT0 ?_; (case hb391 => (intro w hSw; obtain ⟨x0, x1, x2, x3, x4, x5, x6, x7, x8, x9, x10, x11⟩ := KS.out w hSw; clear hSw; go_simp; try with_reducible rfl)); try simp only [Act.put, List.setIfInBounds_toArray, List.set_cons_zero, List.set_cons_succ])
      | (refine wpAnyH_take (i := 2) (oi := { dst := some 174, op := _, type := _, pos := _, after := _, guard := _ }) (v := undef) rfl (by kernel_rfl) (by kernel_rfl) (by kernel_rfl) (fun _ _ _ h => h) (Or.inr ⟨by rfl, rfl⟩) HT0 ?_; try simp only [Act.put, List.setIfInBounds_toArray, List.set_cons_zero, List.set_cons_succ])
    first
      | (refine wpAnyH_take (i := 3) (oi := { dst := some 175, op := _, type := _, pos := _, after := _, guard := _ }) (v := ?vb392) rfl (by kernel_rfl) (by kernel_rfl) (by kernel_rfl) (fun _ _ _ h => h) (Or.inl ⟨by rfl, ?hb392⟩) HT0 ?_; (case hb392 => (intro w hSw; obtain ⟨x0, x1, x2, x3, x4, x5, x6, x7, x8, x9, x10, x11⟩ := KS.out w hSw; clear hSw; go_simp; try with_reducible rfl)); try simp only [Act.put, List.setIfInBounds_toArray, List.set_cons_zero, List.set_cons_succ])
      | (refine wpAnyH_take (i := 3) (oi := { dst := some 175, op := _, type := _, pos := _, after := _, guard := _ }) (v := undef) rfl (by kernel_rfl) (by kernel_rfl) (by kernel_rfl) (fun _ _ _ h => h) (Or.inr ⟨by rfl, rfl⟩) HT0 ?_; try simp only [Act.put, List.setIfInBounds_toArray, List.set_cons_zero, List.set_cons_succ])
    first
      | (refine wpAnyH_take (i := 4) (oi := { dst := some 176, op := _, type := _, pos := _, after := _, guard := _ }) (v := ?vb393) rfl (by kernel_rfl) (by kernel_rfl) (by kernel_rfl) (fun _ _ _ h => h) (Or.inl ⟨by rfl, ?hb393⟩) HT0 ?_; (case hb393 => (intro w hSw; obtain ⟨x0, x1, x2, x3, x4, x5, x6, x7, x8, x9, x10, x11⟩ := KS.out w hSw; clear hSw; go_simp; try with_reducible rfl)); try simp only [Act.put, List.setIfInBounds_toArray, List.set_cons_zero, List.set_cons_succ])
      | (refine wpAnyH_take (i := 4) (oi := { dst := some 176, op := _, type := _, pos := _, after := _, guard := _ }) (v := undef) rfl (by kernel_rfl) (by kernel_rfl) (by kernel_rfl) (fun _ _ _ h => h) (Or.inr ⟨by rfl, rfl⟩) HT0 ?_; try simp only [Act.put, List.setIfInBounds_toArray, List.set_cons_zero, List.set_cons_succ])
    first
      | (refine wpAnyH_take (i := 5) (oi := { dst := some 177, op := _, type := _, pos := _, after := _, guard := _ }) (v := ?vb394) rfl (by kernel_rfl) (by kernel_rfl) (by kernel_rfl) (fun _ _ _ h => h) (Or.inl ⟨by rfl, ?hb394⟩) HT0 ?_; (case hb394 => (intro w hSw; obtain ⟨x0, x1, x2, x3, x4, x5, x6, x7, x8, x9, x10, x11⟩ := KS.out w hSw; clear hSw; go_simp; try with_reducible rfl)); try simp only [Act.put, List.setIfInBounds_toArray, List.set_cons_zero, List.set_cons_succ])
      | (refine wpAnyH_take (i := 5) (oi := { dst := some 177, op := _, type := _, pos := _, after := _, guard := _ }) (v := undef) rfl (by kernel_rfl) (by kernel_rfl) (by kernel_rfl) (fun _ _ _ h => h) (Or.inr ⟨by rfl, rfl⟩) HT0 ?_; try simp only [Act.put, List.setIfInBounds_toArray, List.set_cons_zero, List.set_cons_succ])
    first
      | (refine wpAnyH_take (i := 6) (oi := { dst := some 178, op := _, type := _, pos := _, after := _, guard := _ }) (v := ?vb395) rfl (by kernel_rfl) (by kernel_rfl) (by kernel_rfl) (fun _ _ _ h => h) (Or.inl ⟨by rfl, ?hb395⟩) HT0 ?_; (case hb395 => (intro w hSw; obtain ⟨x0, x1, x2, x3, x4, x5, x6, x7, x8, x9, x10, x11⟩ := KS.out w hSw; clear hSw; go_simp; try with_reducible rfl)); try simp only [Act.put, List.setIfInBounds_toArray, List.set_cons_zero, List.set_cons_succ])
      | (refine wpAnyH_take (i := 6) (oi := { dst := some 178, op := _, type := _, pos := _, after := _, guard := _ }) (v := undef) rfl (by kernel_rfl) (by kernel_rfl) (by kernel_rfl) (fun _ _ _ h => h) (Or.inr ⟨by rfl, rfl⟩) HT0 ?_; try simp only [Act.put, List.setIfInBounds_toArray, List.set_cons_zero, List.set_cons_succ])
    first
      | (refine wpAnyH_take (i := 7) (oi := { dst := some 179, op := _, type := _, pos := _, after := _, guard := _ }) (v := ?vb396) rfl (by kernel_rfl) (by kernel_rfl) (by kernel_rfl) (fun _ _ _ h => h) (Or.inl ⟨by rfl, ?hb396⟩) HT0 ?_; (case hb396 => (intro w hSw; obtain ⟨x0, x1, x2, x3, x4, x5, x6, x7, x8, x9, x10, x11⟩ := KS.out w hSw; clear hSw; go_simp; try with_reducible rfl)); try simp only [Act.put, List.setIfInBounds_toArray, List.set_cons_zero, List.set_cons_succ])
      | (refine wpAnyH_take (i := 7) (oi := { dst := some 179, op := _, type := _, pos := _, after := _, guard := _ }) (v := undef) rfl (by kernel_rfl) (by kernel_rfl) (by kernel_rfl) (fun _ _ _ h => h) (Or.inr ⟨by rfl, rfl⟩) HT0 ?_; try simp only [Act.put, List.setIfInBounds_toArray, List.set_cons_zero, List.set_cons_succ])
    first
      | (refine wpAnyH_take (i := 8) (oi := { dst := some 180, op := _, type := _, pos := _, after := _, guard := _ }) (v := ?vb397) rfl (by kernel_rfl) (by kernel_rfl) (by kernel_rfl) (fun _ _ _ h => h) (Or.inl ⟨by rfl, ?hb397⟩) HT0 ?_; (case hb397 => (intro w hSw; obtain ⟨x0, x1, x2, x3, x4, x5, x6, x7, x8, x9, x10, x11⟩ := KS.out w hSw; clear hSw; go_simp; try with_reducible rfl)); try simp only [Act.put, List.setIfInBounds_toArray, List.set_cons_zero, List.set_cons_succ])
      | (refine wpAnyH_take (i := 8) (oi := { dst := some 180, op := _, type := _, pos := _, after := _, guard := _ }) (v := undef) rfl (by kernel_rfl) (by kernel_rfl) (by kernel_rfl) (fun _ _ _ h => h) (Or.inr ⟨by rfl, rfl⟩) HT0 ?_; try simp only [Act.put, List.setIfInBounds_toArray, List.set_cons_zero, List.set_cons_succ])
    first
      | (refine wpAnyH_take (i := 9) (oi := { dst := some 181, op := _, type := _, pos := _, after := _, guard := _ }) (v := ?vb398) rfl (by kernel_rfl) (by kernel_rfl) (by kernel_rfl) (fun _ _ _ h => h) (Or.inl ⟨by rfl, ?hb398⟩) HT0 ?_; (case hb398 => (intro w hSw; obtain ⟨x0, x1, x2, x3, x4, x5, x6, x7, x8, x9, x10, x11⟩ := KS.out w hSw; clear hSw; go_simp; try with_reducible rfl)); try simp only [Act.put, List.setIfInBounds_toArray, List.set_cons_zero, List.set_cons_succ])
      | (refine wpAnyH_take (i := 9) (oi := { dst := some 181, op := _, type := _, pos := _, after := _, guard := _ }) (v := undef) rfl (by kernel_rfl) (by kernel_rfl) (by kernel_rfl) (fun _ _ _ h => h) (Or.inr ⟨by rfl, rfl⟩) HT0 ?_; try simp only [Act.put, List.setIfInBounds_toArray, List.set_cons_zero, List.set_cons_succ])
    first
      | (refine wpAnyH_take (i := 10) (oi := { dst := some 182, op := _, type := _, pos := _, after := _, guard := _ }) (v := ?vb399) rfl (by kernel_rfl) (by kernel_rfl) (by kernel_rfl) (fun _ _ _ h => h) (Or.inl ⟨by rfl, ?hb399⟩) HT0 ?_; (case hb399 => (intro w hSw; obtain ⟨x0, x1, x2, x3, x4, x5, x6, x7, x8, x9, x10, x11⟩ := KS.out w hSw; clear hSw; go_simp; try with_reducible rfl)); try simp only [Act.put, List.setIfInBounds_toArray, List.set_cons_zero, List.set_cons_succ])
      | (refine wpAnyH_take (i := 10) (oi := { dst := some 182, op := _, type := _, pos := _, after := _, guard := _ }) (v := undef) rfl (by kernel_rfl) (by kernel_rfl) (by kernel_rfl) (fun _ _ _ h => h) (Or.inr ⟨by rfl, rfl⟩) HT0 ?_; try simp only [Act.put, List.setIfInBounds_toArray, List.set_cons_zero, List.set_cons_succ])
    first
      | (refine wpAnyH_take (i := 11) (oi := { dst := some 183, op := _, type := _, pos := _, after := _, guard := _ }) (v := ?vb400) rfl (by kernel_rfl) (by kernel_rfl) (by kernel_rfl) (fun _ _ _ h => h) (Or.inl ⟨by rfl, ?hb400⟩) HT0 ?_; (case hb400 => (intro w hSw; obtain ⟨x0, x1, x2, x3, x4, x5, x6, x7, x8, x9, x10, x11⟩ := KS.out w hSw; clear hSw; go_simp; try with_reducible rfl)); try simp only [Act.put, List.setIfInBounds_toArray, List.set_cons_zero, List.set_cons_succ])
      | (refine wpAnyH_take (i := 11) (oi := { dst := some 183, op := _, type := _, pos := _, after := _, guard := _ }) (v := undef) rfl (by kernel_rfl) (by kernel_rfl) (by kernel_rfl) (fun _ _ _ h => h) (Or.inr ⟨by rfl, rfl⟩) HT0 ?_; try simp only [Act.put, List.setIfInBounds_toArray, List.set_cons_zero, List.set_cons_succ])
    first
      | (refine wpAnyH_take (i := 12) (oi := { dst := some 184, op := _, type := _, pos := _, after := _, guard := _ }) (v := ?vb401) rfl (by kernel_rfl) (by kernel_rfl) (by kernel_rfl) (fun _ _ _ h => h) (Or.inl ⟨by rfl, ?hb401⟩) HT0 ?_; (case hb401 => (intro w hSw; obtain ⟨x0, x1, x2, x3, x4, x5, x6, x7, x8, x9, x10, x11⟩ := KS.out w hSw; clear hSw; go_simp; try with_reducible rfl)); try simp only [Act.put, List.setIfInBounds_toArray, List.set_cons_zero, List.set_cons_succ])
      | (refine wpAnyH_take (i := 12) (oi := { dst := some 184, op := _, type := _, pos := _, after := _, guard := _ }) (v := undef) rfl (by kernel_rfl) (by kernel_rfl) (by kernel_rfl) (fun _ _ _ h => h) (Or.inr ⟨by rfl, rfl⟩) HT0 ?_; try simp only [Act.put, List.setIfInBounds_toArray, List.set_cons_zero, List.set_cons_succ])
    first
      | (refine wpAnyH_take (i := 13) (oi := { dst := some 185, op := _, type := _, pos := _, after := _, guard := _ }) (v := ?vb402) rfl (by kernel_rfl) (by kernel_rfl) (by kernel_rfl) (fun _ _ _ h => h) (Or.inl ⟨by rfl, ?hb402⟩) HT0 ?_; (case hb402 => (intro w hSw; obtain ⟨x0, x1, x2, x3, x4, x5, x6, x7, x8, x9, x10, x11⟩ := KS.out w hSw; clear hSw; go_simp; try with_reducible rfl)); try simp only [Act.put, List.setIfInBounds_toArray, List.set_cons_zero, List.set_cons_succ])
      | (refine wpAnyH_take (i := 13) (oi := { dst := some 185, op := _, type := _, pos := _, after := _, guard := _ }) (v := undef) rfl (by kernel_rfl) (by kernel_rfl) (by kernel_rfl) (fun _ _ _ h => h) (Or.inr ⟨by rfl, rfl⟩) HT0 ?_; try simp only [Act.put, List.setIfInBounds_toArray, List.set_cons_zero, List.set_cons_succ])
    first
      | (refine wpAnyH_take (i := 14) (oi := { dst := some 186, op := _, type := _, pos := _, after := _, guard := _ }) (v := ?vb403) rfl (by kernel_rfl) (by kernel_rfl) (by kernel_rfl) (fun _ _ _ h => h) (Or.inl ⟨by rfl, ?hb403⟩) HT0 ?_; (case hb403 => (intro w hSw; obtain ⟨x0, x1, x2, x3, x4, x5, x6, x7, x8, x9, x10, x11⟩ := KS.out w hSw; clear hSw; go_simp; try with_reducible rfl)); try simp only [Act.put, List.setIfInBounds_toArray, List.set_cons_zero, List.set_cons_succ])
      | (refine wpAnyH_take (i := 14) (oi := { dst := some 186, op := _, type := _, pos := _, after := _, guard := _ }) (v := undef) rfl (by kernel_rfl) (by kernel_rfl) (by kernel_rfl) (fun _ _ _ h => h) (Or.inr ⟨by rfl, rfl⟩) HT0 ?_; try simp only [Act.put, List.setIfInBounds_toArray, List.set_cons_zero, List.set_cons_succ])
    first
      | (refine wpAnyH_take (i := 15) (oi := { dst := some 187, op := _, type := _, pos := _, after := _, guard := _ }) (v := ?vb404) rfl (by kernel_rfl) (by kernel_rfl) (by kernel_rfl) (fun _ _ _ h => h) (Or.inl ⟨by rfl, ?hb404⟩) HT0 ?_; (case hb404 => (intro w hSw; obtain ⟨x0, x1, x2, x3, x4, x5, x6, x7, x8, x9, x10, x11⟩ := KS.out w hSw; clear hSw; go_simp; try with_reducible rfl)); try simp only [Act.put, List.setIfInBounds_toArray, List.set_cons_zero, List.set_cons_succ])
      | (refine wpAnyH_take (i := 15) (oi := { dst := some 187, op := _, type := _, pos := _, after := _, guard := _ }) (v := undef) rfl (by kernel_rfl) (by kernel_rfl) (by kernel_rfl) (fun _ _ _ h => h) (Or.inr ⟨by rfl, rfl⟩) HT0 ?_; try simp only [Act.put, List.setIfInBounds_toArray, List.set_cons_zero, List.set_cons_succ])
    first
      | (refine wpAnyH_take (i := 16) (oi := { dst := some 188, op := _, type := _, pos := _, after := _, guard := _ }) (v := ?vb405) rfl (by kernel_rfl) (by kernel_rfl) (by kernel_rfl) (fun _ _ _ h => h) (Or.inl ⟨by rfl, ?hb405⟩) HT0 ?_; (case hb405 => (intro w hSw; obtain ⟨x0, x1, x2, x3, x4, x5, x6, x7, x8, x9, x10, x11⟩ := KS.out w hSw; clear hSw; go_simp; try with_reducible rfl)); try simp only [Act.put, List.setIfInBounds_toArray, List.set_cons_zero, List.set_cons_succ])
      | (refine wpAnyH_take (i := 16) (oi := { dst := some 188, op := _, type := _, pos := _, after := _, guard := _ }) (v := undef) rfl (by kernel_rfl) (by kernel_rfl) (by kernel_rfl) (fun _ _ _ h => h) (Or.inr ⟨by rfl, rfl⟩) HT0 ?_; try simp only [Act.put, List.setIfInBounds_toArray, List.set_cons_zero, List.set_cons_succ])
    first
      | (refine wpAnyH_take (i := 17) (oi := { dst := some 189, op := _, type := _, pos := _, after := _, guard := _ }) (v := ?vb406) rfl (by kernel_rfl) (by kernel_rfl) (by kernel_rfl) (fun _ _ _ h => h) (Or.inl ⟨by rfl, ?hb406⟩) HT0 ?_; (case hb406 => (intro w hSw; obtain ⟨x0, x1, x2, x3, x4, x5, x6, x7, x8, x9, x10, x11⟩ := KS.out w hSw; clear hSw; go_simp; try with_reducible rfl)); try simp only [Act.put, List.setIfInBounds_toArray, List.set_cons_zero, List.set_cons_succ])
      | (refine wpAnyH_take (i := 17) (oi := { dst := some 189, op := _, type := _, pos := _, after := _, guard := _ }) (v := undef) rfl (by kernel_rfl) (by kernel_rfl) (by kernel_rfl) (fun _ _ _ h => h) (Or.inr ⟨by rfl, rfl⟩) HT0 ?_; try simp only [Act.put, List.setIfInBounds_toArray, List.set_cons_zero, List.set_cons_succ])
    first
      | (refine wpAnyH_take (i := 18) (oi := { dst := some 190, op := _, type := _, pos := _, after := _, guard := _ }) (v := ?vb407) rfl (by kernel_rfl) (by kernel_rfl) (by kernel_rfl) (fun _ _ _ h => h) (Or.inl ⟨by rfl, ?hb407⟩) HT0 ?_; (case hb407 => (intro w hSw; obtain ⟨x0, x1, x2, x3, x4, x5, x6, x7, x8, x9, x10, x11⟩ := KS.out w hSw; clear hSw; go_simp; try with_reducible rfl)); try simp only [Act.put, List.setIfInBounds_toArray, List.set_cons_zero, List.set_cons_succ])
      | (refine wpAnyH_take (i := 18) (oi := { dst := some 190, op := _, type := _, pos := _, after := _, guard := _ }) (v := undef) rfl (by kernel_rfl) (by kernel_rfl) (by kernel_rfl) (fun _ _ _ h => h) (Or.inr ⟨by rfl, rfl⟩) HT0 ?_; try simp only [Act.put, List.setIfInBounds_toArray, List.set_cons_zero, List.set_cons_succ])
    first
      | (refine wpAnyH_take (i := 19) (oi := { dst := some 191, op := _, type := _, pos := _, after := _, guard := _ }) (v := ?vb408) rfl (by kernel_rfl) (by kernel_rfl) (by kernel_rfl) (fun _ _ _ h => h) (Or.inl ⟨by rfl, ?hb408⟩) HT0 ?_; (case hb408 => (intro w hSw; obtain ⟨x0, x1, x2, x3, x4, x5, x6, x7, x8, x9, x10, x11⟩ := KS.out w hSw; clear hSw; go_simp; try with_reducible rfl)); try simp only [Act.put, List.setIfInBounds_toArray, List.set_cons_zero, List.set_cons_succ])
      | (refine wpAnyH_take (i := 19) (oi := { dst := some 191, op := _, type := _, pos := _, after := _, guard := _ }) (v := undef) rfl (by kernel_rfl) (by kernel_rfl) (by kernel_rfl) (fun _ _ _ h => h) (Or.inr ⟨by rfl, rfl⟩) HT0 ?_; try simp only [Act.put, List.setIfInBounds_toArray, List.set_cons_zero, List.set_cons_succ])
    first
      | (refine wpAnyH_take (i := 20) (oi := { dst := some 192, op := _, type := _, pos := _, after := _, guard := _ }) (v := ?vb409) rfl (by kernel_rfl) (by kernel_rfl) (by kernel_rfl) (fun _ _ _ h => h) (Or.inl ⟨by rfl, ?hb409⟩) HT0 ?_; (case hb409 => (intro w hSw; obtain ⟨x0, x1, x2, x3, x4, x5, x6, x7, x8, x9, x10, x11⟩ := KS.out w hSw; clear hSw; go_simp; try with_reducible rfl)); try simp only [Act.put, List.setIfInBounds_toArray, List.set_cons_zero, List.set_cons_succ])
      | (refine wpAnyH_take (i := 20) (oi := { dst := some 192, op := _, type := _, pos := _, after := _, guard := _ }) (v := undef) rfl (by kernel_rfl) (by kernel_rfl) (by kernel_rfl) (fun _ _ _ h => h) (Or.inr ⟨by rfl, rfl⟩) HT0 ?_; try simp only [Act.put, List.setIfInBounds_toArray, List.set_cons_zero, List.set_cons_succ])
    first
      | (refine wpAnyH_take (i := 21) (oi := { dst := some 193, op := _, type := _, pos := _, after := _, guard := _ }) (v := ?vb410) rfl (by kernel_rfl) (by kernel_rfl) (by kernel_rfl) (fun _ _ _ h => h) (Or.inl ⟨by rfl, ?hb410⟩) HT0 ?_; (case hb410 => (intro w hSw; obtain ⟨x0, x1, x2, x3, x4, x5, x6, x7, x8, x9, x10, x11⟩ := KS.out w hSw; clear hSw; go_simp; try with_reducible rfl)); try simp only [Act.put, List.setIfInBounds_toArray, List.set_cons_zero, List.set_cons_succ])
      | (refine wpAnyH_take (i := 21) (oi := { dst := some 193, op := _, type := _, pos := _, after := _, guard := _ }) (v := undef) rfl (by kernel_rfl) (by kernel_rfl) (by kernel_rfl) (fun _ _ _ h => h) (Or.inr ⟨by rfl, rfl⟩) HT0 ?_; try simp only [Act.put, List.setIfInBounds_toArray, List.set_cons_zero, List.set_cons_succ])
    first
      | (refine wpAnyH_take (i := 22) (oi := { dst := some 194, op := _, type := _, pos := _, after := _, guard := _ }) (v := ?vb411) rfl (by kernel_rfl) (by kernel_rfl) (by kernel_rfl) (fun _ _ _ h => h) (Or.inl ⟨by rfl, ?hb411⟩) HT0 ?_; (case hb411 => (intro w hSw; obtain ⟨x0, x1, x2, x3, x4, x5, x6, x7, x8, x9, x10, x11⟩ := KS.out w hSw; clear hSw; go_simp; try with_reducible rfl)); try simp only [Act.put, List.setIfInBounds_toArray, List.set_cons_zero, List.set_cons_succ])
      | (refine wpAnyH_take (i := 22) (oi := { dst := some 194, op := _, type := _, pos := _, after := _, guard := _ }) (v := undef) rfl (by kernel_rfl) (by kernel_rfl) (by kernel_rfl) (fun _ _ _ h => h) (Or.inr ⟨by rfl, rfl⟩) HT0 ?_; try simp only [Act.put, List.setIfInBounds_toArray, List.set_cons_zero, List.set_cons_succ])
    first
      | (refine wpAnyH_take (i := 23) (oi := { dst := some 195, op := _, type := _, pos := _, after := _, guard := _ }) (v := ?vb412) rfl (by kernel_rfl) (by kernel_rfl) (by kernel_rfl) (fun _ _ _ h => h) (Or.inl ⟨by rfl, ?hb412⟩) HT0 ?_; (case hb412 => (intro w hSw; obtain ⟨x0, x1, x2, x3, x4, x5, x6, x7, x8, x9, x10, x11⟩ := KS.out w hSw; clear hSw; go_simp; try with_reducible rfl)); try simp only [Act.put, List.setIfInBounds_toArray, List.set_cons_zero, List.set_cons_succ])
      | (refine wpAnyH_take (i := 23) (oi := { dst := some 195, op := _, type := _, pos := _, after := _, guard := _ }) (v := undef) rfl (by kernel_rfl) (by kernel_rfl) (by kernel_rfl) (fun _ _ _ h => h) (Or.inr ⟨by rfl, rfl⟩) HT0 ?_; try simp only [Act.put, List.setIfInBounds_toArray, List.set_cons_zero, List.set_cons_succ])
    first
      | (refine wpAnyH_take (i := 24) (oi := { dst := some 196, op := _, type := _, pos := _, after := _, guard := _ }) (v := ?vb413) rfl (by kernel_rfl) (by kernel_rfl) (by kernel_rfl) (fun _ _ _ h => h) (Or.inl ⟨by rfl, ?hb413⟩) HT0 ?_; (case hb413 => (intro w hSw; obtain ⟨x0, x1, x2, x3, x4, x5, x6, x7, x8, x9, x10, x11⟩ := KS.out w hSw; clear hSw; go_simp; try with_reducible rfl)); try simp only [Act.put, List.setIfInBounds_toArray, List.set_cons_zero, List.set_cons_succ])
      | (refine wpAnyH_take (i := 24) (oi := { dst := some 196, op := _, type := _, pos := _, after := _, guard := _ }) (v := undef) rfl (by kernel_rfl) (by kernel_rfl) (by kernel_rfl) (fun _ _ _ h => h) (Or.inr ⟨by rfl, rfl⟩) HT0 ?_; try simp only [Act.put, List.setIfInBounds_toArray, List.set_cons_zero, List.set_cons_succ])
    first
      | (refine wpAnyH_take (i := 25) (oi := { dst := some 197, op := _, type := _, pos := _, after := _, guard := _ }) (v := ?vb414) rfl (by kernel_rfl) (by kernel_rfl) (by kernel_rfl) (fun _ _ _ h => h) (Or.inl ⟨by rfl, ?hb414⟩) HT0 ?_; (case hb414 => (intro w hSw; obtain ⟨x0, x1, x2, x3, x4, x5, x6, x7, x8, x9, x10, x11⟩ := KS.out w hSw; clear hSw; go_simp; try with_reducible rfl)); try simp only [Act.put, List.setIfInBounds_toArray, List.set_cons_zero, List.set_cons_succ])
      | (refine wpAnyH_take (i := 25) (oi := { dst := some 197, op := _, type := _, pos := _, after := _, guard := _ }) (v := undef) rfl (by kernel_rfl) (by kernel_rfl) (by kernel_rfl) (fun _ _ _ h => h) (Or.inr ⟨by rfl, rfl⟩) HT0 ?_; try simp only [Act.put, List.setIfInBounds_toArray, List.set_cons_zero, List.set_cons_succ])
    first
      | (refine wpAnyH_take (i := 26) (oi := { dst := some 198, op := _, type := _, pos := _, after := _, guard := _ }) (v := ?vb415) rfl (by kernel_rfl) (by kernel_rfl) (by kernel_rfl) (fun _ _ _ h => h) (Or.inl ⟨by rfl, ?hb415⟩) HT0 ?_; (case hb415 => (intro w hSw; obtain ⟨x0, x1, x2, x3, x4, x5, x6, x7, x8, x9, x10, x11⟩ := KS.out w hSw; clear hSw; go_simp; try with_reducible rfl)); try simp only [Act.put, List.setIfInBounds_toArray, List.set_cons_zero, List.set_cons_succ])
      | (refine wpAnyH_take (i := 26) (oi := { dst := some 198, op := _, type := _, pos := _, after := _, guard := _ }) (v := undef) rfl (by kernel_rfl) (by kernel_rfl) (by kernel_rfl) (fun _ _ _ h => h) (Or.inr ⟨by rfl, rfl⟩) HT0 ?_; try simp only [Act.put, List.setIfInBounds_toArray, List.set_cons_zero, List.set_cons_succ])
    first
      | (refine wpAnyH_take (i := 27) (oi := { dst := some 199, op := _, type := _, pos := _, after := _, guard := _ }) (v := ?vb416) rfl (by kernel_rfl) (by kernel_rfl) (by kernel_rfl) (fun _ _ _ h => h) (Or.inl ⟨by rfl, ?hb416⟩) HT0 ?_; (case hb416 => (intro w hSw; obtain ⟨x0, x1, x2, x3, x4, x5, x6, x7, x8, x9, x10, x11⟩ := KS.out w hSw; clear hSw; go_simp; try with_reducible rfl)); try simp only [Act.put, List.setIfInBounds_toArray, List.set_cons_zero, List.set_cons_succ])
      | (refine wpAnyH_take (i := 27) (oi := { dst := some 199, op := _, type := _, pos := _, after := _, guard := _ }) (v := undef) rfl (by kernel_rfl) (by kernel_rfl) (by kernel_rfl) (fun _ _ _ h => h) (Or.inr ⟨by rfl, rfl⟩) HT0 ?_; try simp only [Act.put, List.setIfInBounds_toArray, List.set_cons_zero, List.set_cons_succ])
    first
      | (refine wpAnyH_take (i := 28) (oi := { dst := some 200, op := _, type := _, pos := _, after := _, guard := _ }) (v := ?vb417) rfl (by kernel_rfl) (by kernel_rfl) (by kernel_rfl) (fun _ _ _ h => h) (Or.inl ⟨by rfl, ?hb417⟩) HT0 ?_; (case hb417 => (intro w hSw; obtain ⟨x0, x1, x2, x3, x4, x5, x6, x7, x8, x9, x10, x11⟩ := KS.out w hSw; clear hSw; go_simp; try with_reducible rfl)); try simp only [Act.put, List.setIfInBounds_toArray, List.set_cons_zero, List.set_cons_succ])
      | (refine wpAnyH_take (i := 28) (oi := { dst := some 200, op := _, type := _, pos := _, after := _, guard := _ }) (v := undef) rfl (by kernel_rfl) (by kernel_rfl) (by kernel_rfl) (fun _ _ _ h => h) (Or.inr ⟨by rfl, rfl⟩) HT0 ?_; try simp only [Act.put, List.setIfInBounds_toArray, List.set_cons_zero, List.set_cons_succ])
    first
      | (refine wpAnyH_take (i := 29) (oi := { dst := some 201, op := _, type := _, pos := _, after := _, guard := _ }) (v := ?vb418) rfl (by kernel_rfl) (by kernel_rfl) (by kernel_rfl) (fun _ _ _ h => h) (Or.inl ⟨by rfl, ?hb418⟩) HT0 ?_; (case hb418 => (intro w hSw; obtain ⟨x0, x1, x2, x3, x4, x5, x6, x7, x8, x9, x10, x11⟩ := KS.out w hSw; clear hSw; go_simp; try with_reducible rfl)); try simp only [Act.put, List.setIfInBounds_toArray, List.set_cons_zero, List.set_cons_succ])
      | (refine wpAnyH_take (i := 29) (oi := { dst := some 201, op := _, type := _, pos := _, after := _, guard := _ }) (v := undef) rfl (by kernel_rfl) (by kernel_rfl) (by kernel_rfl) (fun _ _ _ h => h) (Or.inr ⟨by rfl, rfl⟩) HT0 ?_; try simp only [Act.put, List.setIfInBounds_toArray, List.set_cons_zero, List.set_cons_succ])
    first
      | (refine wpAnyH_take (i := 30) (oi := { dst := some 202, op := _, type := _, pos := _, after := _, guard := _ }) (v := ?vb419) rfl (by kernel_rfl) (by kernel_rfl) (by kernel_rfl) (fun _ _ _ h => h) (Or.inl ⟨by rfl, ?hb419⟩) HT0 ?_; (case hb419 => (intro w hSw; obtain ⟨x0, x1, x2, x3, x4, x5, x6, x7, x8, x9, x10, x11⟩ := KS.out w hSw; clear hSw; go_simp; try with_reducible rfl)); try simp only [Act.put, List.setIfInBounds_toArray, List.set_cons_zero, List.set_cons_succ])
      | (refine wpAnyH_take (i := 30) (oi := { dst := some 202, op := _, type := _, pos := _, after := _, guard := _ }) (v := undef) rfl (by kernel_rfl) (by kernel_rfl) (by kernel_rfl) (fun _ _ _ h => h) (Or.inr ⟨by rfl, rfl⟩) HT0 ?_; try simp only [Act.put, List.setIfInBounds_toArray, List.set_cons_zero, List.set_cons_succ])
    first
      | (refine wpAnyH_take (i := 31) (oi := { dst := some 203, op := _, type := _, pos := _, after := _, guard := _ }) (v := ?vb420) rfl (by kernel_rfl) (by kernel_rfl) (by kernel_rfl) (fun _ _ _ h => h) (Or.inl ⟨by rfl, ?hb420⟩) HT0 ?_; (case hb420 => (intro w hSw; obtain ⟨x0, x1, x2, x3, x4, x5, x6, x7, x8, x9, x10, x11⟩ := KS.out w hSw; clear hSw; go_simp; try with_reducible rfl)); try simp only [Act.put, List.setIfInBounds_toArray, List.set_cons_zero, List.set_cons_succ])
      | (refine wpAnyH_take (i := 31) (oi := { dst := some 203, op := _, type := _, pos := _, after := _, guard := _ }) (v := undef) rfl (by kernel_rfl) (by kernel_rfl) (by kernel_rfl) (fun _ _ _ h => h) (Or.inr ⟨by rfl, rfl⟩) HT0 ?_; try simp only [Act.put, List.setIfInBounds_toArray, List.set_cons_zero, List.set_cons_succ])
    first
      | (refine wpAnyH_take (i := 32) (oi := { dst := some 204, op := _, type := _, pos := _, after := _, guard := _ }) (v := ?vb421) rfl (by kernel_rfl) (by kernel_rfl) (by kernel_rfl) (fun _ _ _ h => h) (Or.inl ⟨by rfl, ?hb421⟩) HT0 ?_; (case hb421 => (intro w hSw; obtain ⟨x0, x1, x2, x3, x4, x5, x6, x7, x8, x9, x10, x11⟩ := KS.out w hSw; clear hSw; go_simp; try with_reducible rfl)); try simp only [Act.put, List.setIfInBounds_toArray, List.set_cons_zero, List.set_cons_succ])
      | (refine wpAnyH_take (i := 32) (oi := { dst := some 204, op := _, type := _, pos := _, after := _, guard := _ }) (v := undef) rfl (by kernel_rfl) (by kernel_rfl) (by kernel_rfl) (fun _ _ _ h => h) (Or.inr ⟨by rfl, rfl⟩) HT0 ?_; try simp only [Act.put, List.setIfInBounds_toArray, List.set_cons_zero, List.set_cons_succ])
    first
      | (refine wpAnyH_take (i := 33) (oi := { dst := some 205, op := _, type := _, pos := _, after := _, guard := _ }) (v := ?vb422) rfl (by kernel_rfl) (by kernel_rfl) (by kernel_rfl) (fun _ _ _ h => h) (Or.inl ⟨by rfl, ?hb422⟩) HT0 ?_; (case hb422 => (intro w hSw; obtain ⟨x0, x1, x2, x3, x4, x5, x6, x7, x8, x9, x10, x11⟩ := KS.out w hSw; clear hSw; go_simp; try with_reducible rfl)); try simp only [Act.put, List.setIfInBounds_toArray, List.set_cons_zero, List.set_cons_succ])
      | (refine wpAnyH_take (i := 33) (oi := { dst := some 205, op := _, type := _, pos := _, after := _, guard := _ }) (v := undef) rfl (by kernel_rfl) (by kernel_rfl) (by kernel_rfl) (fun _ _ _ h => h) (Or.inr ⟨by rfl, rfl⟩) HT0 ?_; try simp only [Act.put, List.setIfInBounds_toArray, List.set_cons_zero, List.set_cons_succ])
    first
      | (refine wpAnyH_take (i := 34) (oi := { dst := some 206, op := _, type := _, pos := _, after := _, guard := _ }) (v := ?vb423) rfl (by kernel_rfl) (by kernel_rfl) (by kernel_rfl) (fun _ _ _ h => h) (Or.inl ⟨by rfl, ?hb423⟩) HT0 ?_; (case hb423 => (intro w hSw; obtain ⟨x0, x1, x2, x3, x4, x5, x6, x7, x8, x9, x10, x11⟩ := KS.out w hSw; clear hSw; go_simp; try with_reducible rfl)); try simp only [Act.put, List.setIfInBounds_toArray, List.set_cons_zero, List.set_cons_succ])
      | (refine wpAnyH_take (i := 34) (oi := { dst := some 206, op := _, type := _, pos := _, after := _, guard := _ }) (v := undef) rfl (by kernel_rfl) (by kernel_rfl) (by kernel_rfl) (fun _ _ _ h => h) (Or.inr ⟨by rfl, rfl⟩) HT0 ?_; try simp only [Act.put, List.setIfInBounds_toArray, List.set_cons_zero, List.set_cons_succ])
    first
      | (refine wpAnyH_take (i := 37) (oi := { dst := some 209, op := _, type := _, pos := _, after := _, guard := _ }) (v := ?vb424) rfl (by kernel_rfl) (by kernel_rfl) (by kernel_rfl) (fun _ _ _ h => h) (Or.inl ⟨by rfl, ?hb424⟩) HT0 ?_; (case hb424 => (intro w hSw; obtain ⟨x0, x1, x2, x3, x4, x5, x6, x7, x8, x9, x10, x11⟩ := KS.out w hSw; clear hSw; go_simp; try with_reducible rfl)); try simp only [Act.put, List.setIfInBounds_toArray, List.set_cons_zero, List.set_cons_succ])
      | (refine wpAnyH_take (i := 37) (oi := { dst := some 209, op := _, type := _, pos := _, after := _, guard := _ }) (v := undef) rfl (by kernel_rfl) (by kernel_rfl) (by kernel_rfl) (fun _ _ _ h => h) (Or.inr ⟨by rfl, rfl⟩) HT0 ?_; try simp only [Act.put, List.setIfInBounds_toArray, List.set_cons_zero, List.set_cons_succ])
    refine wpAnyH_ready (rs := [35]) (by kernel_rfl) (by simp) ?_
    refine AllReadyH.cons (o := { dst := some 207, op := _, type := _, pos := _, after := _, guard := _ }) rfl (fun K hK => ?_) AllReadyH.nil
    go_simp
    (go_at_call 11; (with_reducible refine (HR1.out _ (S8.step HT0)).mono ?_); rintro e wk1 ⟨AR1, cR1, rfl, hk1⟩)
    have HT1 := bstep HT0 hk1
    refine hK.out _ _ HT1 (fun _ => ?_)
    clear hK K
    try simp only [Act.put, List.setIfInBounds_toArray, List.set_cons_zero, List.set_cons_succ]
    first
      | (refine wpAnyH_take (i := 36) (oi := { dst := some 208, op := _, type := _, pos := _, after := _, guard := _ }) (v := ?vb425) rfl (by kernel_rfl) (by kernel_rfl) (by kernel_rfl) (fun _ _ _ h => h) (Or.inl ⟨by rfl, ?hb425⟩) HT1 ?_; (case hb425 => (intro w hSw; obtain ⟨x0, x1, x2, x3, x4, x5, x6, x7, x8, x9, x10, x11⟩ := KS.out w hSw; clear hSw; go_simp; try with_reducible rfl)); try simp only [Act.put, List.setIfInBounds_toArray, List.set_cons_zero, List.set_cons_succ])
      | (refine wpAnyH_take (i := 36) (oi := { dst := some 208, op := _, type := _, pos := _, after := _, guard := _ }) (v := undef) rfl (by kernel_rfl) (by kernel_rfl) (by kernel_rfl) (fun _ _ _ h => h) (Or.inr ⟨by rfl, rfl⟩) HT1 ?_; try simp only [Act.put, List.setIfInBounds_toArray, List.set_cons_zero, List.set_cons_succ])
    refine wpAnyH_ready (rs := [38]) (by kernel_rfl) (by simp) ?_
    refine AllReadyH.cons (o := { dst := some 210, op := _, type := _, pos := _, after := _, guard := _ }) rfl (fun K hK => ?_) AllReadyH.nil
    go_simp
    (go_at_call 21; (with_reducible refine (HR2.out _ (S0.step HT1)).mono ?_); rintro e wk2 ⟨AR2, cR2, rfl, hk2⟩)
    have HT2 := bstep HT1 hk2
    refine hK.out _ _ HT2 (fun _ => ?_)
    clear hK K
    try simp only [Act.put, List.setIfInBounds_toArray, List.set_cons_zero, List.set_cons_succ]
    first
      | (refine wpAnyH_take (i := 39) (oi := { dst := some 211, op := _, type := _, pos := _, after := _, guard := _ }) (v := ?vb426) rfl (by kernel_rfl) (by kernel_rfl) (by kernel_rfl) (fun _ _ _ h => h) (Or.inl ⟨by rfl, ?hb426⟩) HT2 ?_; (case hb426 => (intro w hSw; obtain ⟨x0, x1, x2, x3, x4, x5, x6, x7, x8, x9, x10, x11⟩ := KS.out w hSw; clear hSw; go_simp; try with_reducible rfl)); try simp only [Act.put, List.setIfInBounds_toArray, List.set_cons_zero, List.set_cons_succ])
      | (refine wpAnyH_take (i := 39) (oi := { dst := some 211, op := _, type := _, pos := _, after := _, guard := _ }) (v := undef) rfl (by kernel_rfl) (by kernel_rfl) (by kernel_rfl) (fun _ _ _ h => h) (Or.inr ⟨by rfl, rfl⟩) HT2 ?_; try simp only [Act.put, List.setIfInBounds_toArray, List.set_cons_zero, List.set_cons_succ])
    first
      | (refine wpAnyH_take (i := 40) (oi := { dst := some 212, op := _, type := _, pos := _, after := _, guard := _ }) (v := ?vb427) rfl (by kernel_rfl) (by kernel_rfl) (by kernel_rfl) (fun _ _ _ h => h) (Or.inl ⟨by rfl, ?hb427⟩) HT2 ?_; (case hb427 => (intro w hSw; obtain ⟨x0, x1, x2, x3, x4, x5, x6, x7, x8, x9, x10, x11⟩ := KS.out w hSw; clear hSw; go_simp; try with_reducible rfl)); try simp only [Act.put, List.setIfInBounds_toArray, List.set_cons_zero, List.set_cons_succ])
      | (refine wpAnyH_take (i := 40) (oi := { dst := some 212, op := _, type := _, pos := _, after := _, guard := _ }) (v := undef) rfl (by kernel_rfl) (by kernel_rfl) (by kernel_rfl) (fun _ _ _ h => h) (Or.inr ⟨by rfl, rfl⟩) HT2 ?_; try simp only [Act.put, List.setIfInBounds_toArray, List.set_cons_zero, List.set_cons_succ])
    first
      | (refine wpAnyH_take (i := 41) (oi := { dst := some 213, op := _, type := _, pos := _, after := _, guard := _ }) (v := ?vb428) rfl (by kernel_rfl) (by kernel_rfl) (by kernel_rfl) (fun _ _ _ h => h) (Or.inl ⟨by rfl, ?hb428⟩) HT2 ?_; (case hb428 => (intro w hSw; obtain ⟨x0, x1, x2, x3, x4, x5, x6, x7, x8, x9, x10, x11⟩ := KS.out w hSw; clear hSw; go_simp; try with_reducible rfl)); try simp only [Act.put, List.setIfInBounds_toArray, List.set_cons_zero, List.set_cons_succ])
      | (refine wpAnyH_take (i := 41) (oi := { dst := some 213, op := _, type := _, pos := _, after := _, guard := _ }) (v := undef) rfl (by kernel_rfl) (by kernel_rfl) (by kernel_rfl) (fun _ _ _ h => h) (Or.inr ⟨by rfl, rfl⟩) HT2 ?_; try simp only [Act.put, List.setIfInBounds_toArray, List.set_cons_zero, List.set_cons_succ])
    first
      | (refine wpAnyH_take (i := 42) (oi := { dst := some 214, op := _, type := _, pos := _, after := _, guard := _ }) (v := ?vb429) rfl (by kernel_rfl) (by kernel_rfl) (by kernel_rfl) (fun _ _ _ h => h) (Or.inl ⟨by rfl, ?hb429⟩) HT2 ?_; (case hb429 => (intro w hSw; obtain ⟨x0, x1, x2, x3, x4, x5, x6, x7, x8, x9, x10, x11⟩ := KS.out w hSw; clear hSw; go_simp; try with_reducible rfl)); try simp only [Act.put, List.setIfInBounds_toArray, List.set_cons_zero, List.set_cons_succ])
      | (refine wpAnyH_take (i := 42) (oi := { dst := some 214, op := _, type := _, pos := _, after := _, guard := _ }) (v := undef) rfl (by kernel_rfl) (by kernel_rfl) (by kernel_rfl) (fun _ _ _ h => h) (Or.inr ⟨by rfl, rfl⟩) HT2 ?_; try simp only [Act.put, List.setIfInBounds_toArray, List.set_cons_zero, List.set_cons_succ])
    first
      | (refine wpAnyH_take (i := 43) (oi := { dst := some 6, op := _, type := _, pos := _, after := _, guard := _ }) (v := ?vb430) rfl (by kernel_rfl) (by kernel_rfl) (by kernel_rfl) (fun _ _ _ h => h) (Or.inl ⟨by rfl, ?hb430⟩) HT2 ?_; (case hb430 => (intro w hSw; obtain ⟨x0, x1, x2, x3, x4, x5, x6, x7, x8, x9, x10, x11⟩ := KS.out w hSw; clear hSw; go_simp; try with_reducible rfl)); try simp only [Act.put, List.setIfInBounds_toArray, List.set_cons_zero, List.set_cons_succ])
      | (refine wpAnyH_take (i := 43) (oi := { dst := some 6, op := _, type := _, pos := _, after := _, guard := _ }) (v := undef) rfl (by kernel_rfl) (by kernel_rfl) (by kernel_rfl) (fun _ _ _ h => h) (Or.inr ⟨by rfl, rfl⟩) HT2 ?_; try simp only [Act.put, List.setIfInBounds_toArray, List.set_cons_zero, List.set_cons_succ])
    refine wpAnyH_done (by kernel_rfl) ?_ _
    go_wp2_with fail
    go_ret
    exact ⟨rfl, bstep hb HT2⟩

end ScanRetires
end Go.Proofs.Ytiakabnfjegeeaa

/- ScanRetires, where it goes through. -/
namespace Go.Proofs.Ytiakabnfjegeeaa
namespace ScanRetires
open Go.ChangeShapes Go.WideShapes Go.ChangeAt Go.RowKit
set_option linter.unusedVariables false
set_option linter.unusedSimpArgs false

set_option maxRecDepth 100000 in
set_option maxHeartbeats 80000000 in
theorem walk_low2 (A0 B0 C0 L0 : Option Addr) (a0 b0 c0 d0 : Nat) (s0 : Sy) (n1 n2 : Int) (w0 : World) (u0 : 0 ≤ n1) (u1 : n1 ≤ 255) (u2 : 0 ≤ n2) (u3 : n2 ≤ 255)
    (rW : Row w0 A0 s0.M.W) (rG : Row w0 B0 s0.M.G) (rC : RowC w0 C0 s0.C) (rL : RowE w0 L0 s0.L) (g0 : s0.M.W.length ≤ maxLen) (g1 : s0.M.G.length ≤ maxLen) (g2 : s0.C.length ≤ maxLen) (g3 : s0.L.length ≤ maxLen) (q0 : syMays4 s0 = true) (qF : ∀ (k : Nat) (x : Co), n1.tmod (s0.C.length : Int) = (k : Int) → s0.C[k]? = some x → x.F.length < 38 ∧ x.ret.length < 200) (qL : ∀ (k : Nat) (x : Co), n1.tmod (s0.C.length : Int) = (k : Int) → s0.C[k]? = some x → x.ret.length + 1 < 3 * s0.C.length + 1) (qG : ∀ q : Nat, n2.tmod ((s0.M.G.length : Int) - 1) = (q : Int) → ¬ s0.M.G.getD (q + 1) 0 = 1 ∧ (mTurn s0.M (1 + (q : Int)) 2).bad = true) :
    Calls Try.prog 4 #[.agg #[.slice A0 s0.M.W.length a0, .slice B0 s0.M.G.length b0, .bool s0.M.bad, .slice C0 s0.C.length c0, .slice L0 s0.L.length d0], .int .u8 n1, .int .u8 n2] w0 fun e w' => e = .returned (.bool true) ∧ Below w0.heap.size w0 w' := by
  have S0 : RS w0 s0 A0 B0 C0 L0 := ⟨rW, rG, rC, rL⟩
  have hb : Below w0.heap.size w0 w0 := Below.refl _ _
  have HC := rmay4_any A0 B0 C0 L0 a0 b0 c0 d0 s0
  rw [q0] at HC
  replace HC := hid (show ∀ w, RS w s0 A0 B0 C0 L0 → Calls Try.prog 17 #[.agg #[.slice A0 s0.M.W.length a0, .slice B0 s0.M.G.length b0, .bool s0.M.bad, .slice C0 s0.C.length c0, .slice L0 s0.L.length d0], .int .i64 40] w fun e w' => e = .returned (.bool true) ∧ Below w.heap.size w w' from fun w h => HC w h.G h.C g1 g0 g2 g3)
  clear rW rG rC rL g0 g1 g2 g3
  go_enter Try.func4, Try.ntmps4
  go_upto_region 1 with (fail)
  have Bk0 := heap_alloc_new w0 (.cells #[.slice A0 s0.M.W.length a0, .slice B0 s0.M.G.length b0, .bool s0.M.bad, .slice C0 s0.C.length c0, .slice L0 s0.L.length d0] 30)
  have lt0 : w0.heap.size < (w0.alloc (.cells #[.slice A0 s0.M.W.length a0, .slice B0 s0.M.G.length b0, .bool s0.M.bad, .slice C0 s0.C.length c0, .slice L0 s0.L.length d0] 30)).heap.size := by simp
  have hk : Below w0.heap.size w0 (w0.alloc (.cells #[.slice A0 s0.M.W.length a0, .slice B0 s0.M.G.length b0, .bool s0.M.bad, .slice C0 s0.C.length c0, .slice L0 s0.L.length d0] 30)) := boxed _ _
  replace S0 := S0.step hk
  replace hb := bstep hb hk
  clear hk
  obtain ⟨v0, hv⟩ : ∃ v, w0.heap.size = v := ⟨_, rfl⟩
  rw [hv] at Bk0 lt0 ⊢
  clear hv
  generalize (w0.alloc (.cells #[.slice A0 s0.M.W.length a0, .slice B0 s0.M.G.length b0, .bool s0.M.bad, .slice C0 s0.C.length c0, .slice L0 s0.L.length d0] 30)) = w1 at *
  go_wp2_with fail
  refine (shown6_any _).mono ?_
  rintro e w2 ⟨rfl, hk⟩
  replace Bk0 := (hk.block v0 lt0).trans Bk0
  replace lt0 := Nat.lt_of_lt_of_le lt0 hk.size
  replace S0 := S0.step hk
  replace hb := bstep hb hk
  clear hk
  go_upto_region 2 with (fail)
  obtain ⟨m0_0, m0_1, m0_2, m0_3, m0_4⟩ := cells5 Bk0
  go_upto_region 4 with (go_at_call 17; refine (HC.out _ S0).mono ?_; rintro e w3 ⟨rfl, hk⟩)
  clear m0_0 m0_1 m0_2 m0_3 m0_4
  replace Bk0 := (hk.block v0 lt0).trans Bk0
  replace lt0 := Nat.lt_of_lt_of_le lt0 hk.size
  replace S0 := S0.step hk
  replace hb := bstep hb hk
  clear hk
  clear HC
  have hmay : sySmall4 s0 = true ∧ syRight s0 = true := by simpa [syMays4] using q0
  have HF := hid (few_of_small (small_of4 hmay.1))
  have hsm := sySmall4_few hmay.1
  have hr := hmay.2
  simp only [syRight, Bool.and_eq_true, decide_eq_true_eq] at hr
  have HR := hid (Rt.of hr.1.1.1)
  obtain ⟨⟨⟨_, hc1⟩, hc8⟩, _⟩ := hr
  have HGB := hid hsm.1
  have HLB := hid hsm.2.2.2.1
  have HRB := hid (show ∀ x ∈ s0.C, x.ret.length ≤ 210 from fun x hx => (hsm.2.2.2.2 x hx).2.1)
  clear hmay q0 hsm
  obtain ⟨k, hk⟩ : ∃ k : Nat, n1.tmod (s0.C.length : Int) = (k : Int) := ⟨(n1.tmod (s0.C.length : Int)).toNat, by rw [Int.tmod_eq_emod_of_nonneg u0, Int.toNat_of_nonneg (Int.emod_nonneg _ (by omega))]⟩
  have hkl : k < s0.C.length := by have h9 := hk; rw [Int.tmod_eq_emod_of_nonneg u0] at h9; have := Int.emod_lt_of_pos n1 (show (0 : Int) < (s0.C.length : Int) by omega); omega
  obtain ⟨x, hx⟩ : ∃ x, s0.C[k]? = some x := ⟨_, List.getElem?_eq_getElem hkl⟩
  obtain ⟨gC, oC, eC, hbl, hat⟩ := S0.C (by omega)
  subst eC
  obtain ⟨AF, AR, cFq, cR, hcs, rF, rR, hcF⟩ := (hat k x hx).cs4
  clear hat
  have y0 : w3.cell? ⟨gC, oC + k * 7, none⟩ = some (.slice AF x.F.length cFq) := hcs 0 _ rfl
  have y6 : w3.cell? ⟨gC, oC + k * 7 + 6, none⟩ = some (.slice AR x.ret.length cR) := hcs 6 _ rfl
  have kl : (k : Int) < (s0.C.length : Int) := by omega
  have hne : ((s0.C.length : Int) == 0) = false := by rw [beq_eq_false_iff_ne]; omega
  have HX := hid hx
  clear hx hcs rF rR hcF
  obtain ⟨m0_0, m0_1, m0_2, m0_3, m0_4⟩ := cells5 Bk0
  have hxF : x.F.length < 38 := (qF k x hk HX.out).1
  have hxr : x.ret.length < 200 := (qF k x hk HX.out).2
  have HLL := hid (qL k x hk HX.out)
  clear qF qL
  have hq : decide ((38 : Int) ≤ (x.F.length : Int)) = false := by simp; omega
  have hq2 : decide ((200 : Int) ≤ (x.ret.length : Int)) = false := by simp; omega
  have gl2 : (2 : Int) ≤ (s0.M.G.length : Int) := by have := HR.out.g2; omega
  have gl3 : (s0.M.G.length : Int) ≤ 41 := by have := HGB.out; omega
  go_upto_region 7 with (fail)
  obtain ⟨q, hqe⟩ : ∃ q : Nat, n2.tmod ((s0.M.G.length : Int) - 1) = (q : Int) := ⟨(n2.tmod ((s0.M.G.length : Int) - 1)).toNat, by rw [Int.tmod_eq_emod_of_nonneg u2, Int.toNat_of_nonneg (Int.emod_nonneg _ (by omega))]⟩
  have hql : (q : Int) + 1 < (s0.M.G.length : Int) := by have h9 := hqe; rw [Int.tmod_eq_emod_of_nonneg u2] at h9; have := Int.emod_lt_of_pos n2 (show (0 : Int) < (s0.M.G.length : Int) - 1 by omega); omega
  have HGC := hid (qG q hqe)
  clear qG
  have hne3 : ((s0.M.G.length : Int) - 1 == 0) = false := by rw [beq_eq_false_iff_ne]; omega
  have q40 : (q : Int) ≤ 40 := by omega
  obtain ⟨s2, hs2⟩ : ∃ s, s = pCall s0 (k : Int) (frR (1 + (q : Int)) 0) := ⟨_, rfl⟩
  obtain ⟨s3, hs3⟩ : ∃ s, s = pScan s2 (k : Int) := ⟨_, rfl⟩
  have HK := hid (show ∀ (w : World), RS w s0 A0 B0 (some ⟨gC, oC, none⟩) L0 → Calls Try.prog 19 #[(.agg #[.slice A0 s0.M.W.length a0, .slice B0 s0.M.G.length b0, .bool s0.M.bad, .slice (some ⟨gC, oC, none⟩) s0.C.length c0, .slice L0 s0.L.length d0]), .int .i64 (k : Int), .int .i64 5, .int .i64 (1 + (q : Int)), .int .i64 0, .int .i64 0] w (RetSys w s2) from fun w h => by rw [hs2]; exact rcall_u A0 B0 (some ⟨gC, oC, none⟩) L0 a0 b0 c0 d0 s0 (k : Int) 5 (1 + (q : Int)) 0 0 w HF.out h)
  have HE2 := hid (show s2 = ⟨s0.M, s0.C.set k (cF x (x.F ++ [frR (1 + (q : Int)) 0])), s0.L⟩ from hs2.trans (core_call HX.out (by omega) _))
  obtain ⟨y, HY, HYR, HYC⟩ : ∃ y : Co, Hid (s3 = ⟨mTurn s0.M (1 + (q : Int)) 2, s0.C.set k y, s0.L⟩) ∧ Hid (y.ret = x.ret ++ [1 + (q : Int)]) ∧ Hid ((x.ret.length + 1 < 3 * s0.C.length + 1 ∧ y.F = x.F ∧ y.v = 1 + (q : Int)) ∨ (¬ x.ret.length + 1 < 3 * s0.C.length + 1 ∧ y.F = x.F ++ [frR (1 + (q : Int)) 1, frS 6 0])) := by
    by_cases hl : x.ret.length + 1 < 3 * s0.C.length + 1
    · exact ⟨⟨x.F, 1 + (q : Int), 0, x.x0, x.x1, x.x2, x.ret ++ [1 + (q : Int)]⟩, hid (by rw [hs3, hs2]; exact ret_low HX.out hxF hxr hl), hid rfl, hid (.inl ⟨hl, rfl, rfl⟩)⟩
    · exact ⟨⟨x.F ++ [frR (1 + (q : Int)) 1, frS 6 0], x.v, x.e, x.x0, x.x1, x.x2, x.ret ++ [1 + (q : Int)]⟩, hid (by rw [hs3, hs2]; exact ret_high HX.out hxF hxr hl), hid rfl, hid (.inr ⟨hl, rfl⟩)⟩
  have HF2 := hid (show SyFew s2 ∧ 2 ≤ s2.M.G.length ∧ s2.L.length ≤ 999998 by rw [hs2]; refine ⟨few_call HF.out (Nat.zero_le _) _, ?_, ?_⟩ <;> rw [← hs2, HE2.out] <;> first | exact HR.out.g2 | (have := HLB.out; show s0.L.length ≤ 999998; omega))
  have HS := hid (show ∀ (A B C L : Option Addr) (a b c d : Nat) (w : World), RS w s2 A B C L → Calls Try.prog 18 #[.agg #[.slice A s2.M.W.length a, .slice B s2.M.G.length b, .bool s2.M.bad, .slice C s2.C.length c, .slice L s2.L.length d], .int .i64 (k : Int)] w fun e w' => ∃ (A B C L : Option Addr) (a b c d : Nat), e = .returned (.agg #[.slice A s0.M.W.length a, .slice B s0.M.G.length b, .bool s3.M.bad, .slice C s0.C.length c, .slice L s0.L.length d]) ∧ RS w' s3 A B C L ∧ Below w.heap.size w w' from fun A B C L a b c d w h => by
      have h9 := scst_any A B C L a b c d s2 (k : Int) w HF2.out.1 HF2.out.2.1 h HF2.out.2.2 (fun f hf => by rw [HE2.out, core_top (s := ⟨s0.M, _, s0.L⟩) (set_get HX.out) rfl] at hf; obtain rfl := Option.some.inj hf; simp only [frR, List.getD_cons_zero]; unfold W64; omega)
      rw [← hs3] at h9
      refine h9.mono (fun e w' h => ?_)
      obtain ⟨A, B, C, L, a, b, c, d, e1, r1, r2, r3, r4, r5⟩ := h.weak
      rw [show s3.M.W.length = s0.M.W.length by rw [HY.out]; rfl, show s3.M.G.length = s0.M.G.length by rw [HY.out]; exact (mTurn_len _ _ _).2, show s3.C.length = s0.C.length by rw [HY.out]; simp, show s3.L.length = s0.L.length by rw [HY.out]] at e1
      exact ⟨A, B, C, L, a, b, c, d, e1, ⟨r1, r2, r3, r4⟩, r5⟩)
  clear hs2 hs3
  go_upto_region 8 with (fail)
  go_wp2_with fail
  refine (HK.out _ S0).mono ?_
  rintro e w4 ⟨A7, B7, C7, L7, a7, b7, c7, d7, rfl, tW, tG, tC, tL, hk9⟩
  clear y0 y6
  clear m0_0 m0_1 m0_2 m0_3 m0_4
  replace Bk0 := (hk9.block v0 lt0).trans Bk0
  replace lt0 := Nat.lt_of_lt_of_le lt0 hk9.size
  replace S0 := S0.step hk9
  replace hb := bstep hb hk9
  clear hk9
  have S7 : RS w4 s2 A7 B7 C7 L7 := ⟨tW, tG, tC, tL⟩
  clear tW tG tC tL
  go_wp2_with fail
  refine (HS.out _ _ _ _ _ _ _ _ _ S7).mono ?_
  rintro e w5 ⟨A8, B8, C8, L8, a8, b8, c8, d8, rfl, S8, hk9⟩
  clear S7
  replace Bk0 := (hk9.block v0 lt0).trans Bk0
  replace lt0 := Nat.lt_of_lt_of_le lt0 hk9.size
  replace S0 := S0.step hk9
  replace hb := bstep hb hk9
  clear hk9
  go_upto_region 9 with (fail)
  have Bk8 := heap_alloc_new w5 (.cells #[.slice A8 s0.M.W.length a8, .slice B8 s0.M.G.length b8, .bool s3.M.bad, .slice C8 s0.C.length c8, .slice L8 s0.L.length d8] 30)
  have lt8 : w5.heap.size < (w5.alloc (.cells #[.slice A8 s0.M.W.length a8, .slice B8 s0.M.G.length b8, .bool s3.M.bad, .slice C8 s0.C.length c8, .slice L8 s0.L.length d8] 30)).heap.size := by simp
  have hk : Below w5.heap.size w5 (w5.alloc (.cells #[.slice A8 s0.M.W.length a8, .slice B8 s0.M.G.length b8, .bool s3.M.bad, .slice C8 s0.C.length c8, .slice L8 s0.L.length d8] 30)) := boxed _ _
  have ne0_8 : v0 ≠ w5.heap.size := Nat.ne_of_lt lt0
  have nw8 : w0.heap.size ≤ w5.heap.size := hb.size
  replace Bk0 := (hk.block v0 lt0).trans Bk0
  replace lt0 := Nat.lt_of_lt_of_le lt0 hk.size
  replace S0 := S0.step hk
  replace S8 := S8.step hk
  replace hb := bstep hb hk
  clear hk
  obtain ⟨v8, hv⟩ : ∃ v, w5.heap.size = v := ⟨_, rfl⟩
  replace nw8 := Nat.le_trans nw8 (Nat.le_of_eq hv)
  rw [hv] at Bk8 lt8 ne0_8 ⊢
  clear hv
  generalize (w5.alloc (.cells #[.slice A8 s0.M.W.length a8, .slice B8 s0.M.G.length b8, .bool s3.M.bad, .slice C8 s0.C.length c8, .slice L8 s0.L.length d8] 30)) = w6 at *
  obtain ⟨m0_0, m0_1, m0_2, m0_3, m0_4⟩ := cells5 Bk0
  obtain ⟨m8_0, m8_1, m8_2, m8_3, m8_4⟩ := cells5 Bk8
  go_upto_region 11 with (fail)
  obtain ⟨gC2, oC2, eC2, hbl2, hat2⟩ := S0.C (by omega)
  injection eC2 with eC2
  injection eC2 with eC3 eC4
  subst eC3 eC4
  obtain ⟨AFy, ARy, cFy, cRy, hcy, rFy, rRy, hcFy⟩ := (hat2 k _ HX.out).cs4
  clear hat2
  have y0 : w6.cell? ⟨gC, oC + k * 7, none⟩ = some (.slice AFy x.F.length cFy) := hcy 0 _ rfl
  have y6 : w6.cell? ⟨gC, oC + k * 7 + 6, none⟩ = some (.slice ARy x.ret.length cRy) := hcy 6 _ rfl
  clear hcy
  go_upto_region 12 with (first | (at_builtin; (refine wpList_append_ontoR rfl _ _ _ rfl w6.heap.size Try.underlying24 infoI (.slice (some ⟨w6.heap.size, 0, none⟩) 0 0) 0 [] rfl rfl (own_empty (heap_alloc_new w6 _)) ARy cRy x.ret.length x.ret rfl rfl (rRy.step (boxed _ _)) (by simp; omega) (by simp) ?_); intro v9 wa ho9 hg9) | (at_builtin; (refine wpList_append_ontoR rfl _ _ _ rfl w6.heap.size Try.underlying24 infoI v9 _ ([] ++ x.ret) rfl rfl (own_step ho9 (boxed _ _)) _ _ 1 [1 + (q : Int)] rfl rfl (Blk.row (heap_alloc_new wa (.cells #[.int .i64 (1 + (q : Int))] 3))) (by simp; omega) (by have := hg9.size; simp at this ⊢; omega) ?_); intro v10 w7 ho10 hg10; obtain ⟨A10, c10, rfl, r10⟩ := own_row1 ho10 rfl))
  have hk : Below w6.heap.size w6 w7 := ((((Turn.refl (fun b => w6.heap.size ≤ b) w6).alloc _).grown hg9 (fun g hg => Nat.le_of_eq (Option.some.inj hg))).alloc _ |>.grown hg10 (fun g hg => (ho9.lt g hg).1)).to_below (Nat.le_refl _) (fun _ h => h)
  clear ho9 hg9 hg10 ho10 rFy rRy y0 y6
  clear m0_0 m0_1 m0_2 m0_3 m0_4 m8_0 m8_1 m8_2 m8_3 m8_4
  replace Bk0 := (hk.block v0 lt0).trans Bk0
  replace lt0 := Nat.lt_of_lt_of_le lt0 hk.size
  replace Bk8 := (hk.block v8 lt8).trans Bk8
  replace lt8 := Nat.lt_of_lt_of_le lt8 hk.size
  replace S0 := S0.step hk
  replace S8 := S8.step hk
  replace hb := bstep hb hk
  clear hk
  simp only [List.nil_append] at r10 ⊢
  obtain ⟨m0_0, m0_1, m0_2, m0_3, m0_4⟩ := cells5 Bk0
  obtain ⟨m8_0, m8_1, m8_2, m8_3, m8_4⟩ := cells5 Bk8
  have HLM := hid (show pLimit (s0.C.length : Int) = 3 * (s0.C.length : Int) + 1 from pLimit_in (by omega) (by omega))
  go_upto_region 13 with (go_at_call 15; (with_reducible refine (limit_any _ _).mono ?_); rintro e wz ⟨rfl, rfl⟩)
  have E3 := hid (show s3.M.W.length = s0.M.W.length ∧ s3.M.G.length = s0.M.G.length ∧ s3.C.length = s0.C.length ∧ s3.L.length = s0.L.length by rw [HY.out]; exact ⟨rfl, (mTurn_len _ _ _).2, by simp, rfl⟩)
  have FX := HF.out.2.2.2.2 x (List.mem_of_getElem? HX.out)
  have FEW3 : SyFew s3 := by
    rw [HY.out]
    refine few_mem (s := syWith s0 k y) (few_with HF.out ⟨?_, ?_, ?_⟩) rfl (mTurn_len _ _ _).2
    · rw [HYR.out]; simp; omega
    · rcases HYC.out with ⟨_, h9, _⟩ | ⟨_, h9⟩
      · rw [h9]; omega
      · rw [h9]; simp; omega
    · rcases HYC.out with ⟨_, h9, _⟩ | ⟨_, h9⟩
      · rw [h9]; exact FX.2.2
      · rw [h9]; intro f hf
        rcases List.mem_append.1 hf with h | h
        · exact FX.2.2 f h
        · simp at h; rcases h with rfl | rfl <;> simp [frR, frS]
  clear FX
  obtain ⟨scb, HB⟩ : ∃ b : Bool, Hid (b = decide (¬ x.ret.length + 1 < 3 * s0.C.length + 1)) := ⟨_, hid rfl⟩
  obtain ⟨op, pc, r0, r1, r2, r3, r4, r5, r6, r7, xs, isb, HTP, HSC⟩ : ∃ (op pc r0 r1 r2 r3 r4 r5 r6 r7 : Int) (xs : List Int) (isb : Bool), Hid (∀ (A B C L : Option Addr) (a b c d : Nat) (w : World), RS w s3 A B C L → Calls Try.prog 14 #[.agg #[.slice A s0.M.W.length a, .slice B s0.M.G.length b, .bool s3.M.bad, .slice C s0.C.length c, .slice L s0.L.length d], .int .i64 (k : Int)] w fun e w' => ∃ (A' : Option Addr) (c' : Nat), e = .returned (.tuple #[.agg #[.int .i64 op, .int .i64 pc, .int .i64 r0, .int .i64 r1, .int .i64 r2, .int .i64 r3, .int .i64 r4, .int .i64 r5, .int .i64 r6, .int .i64 r7, .slice A' xs.length c'], .bool isb]) ∧ Below w.heap.size w w') ∧ Hid ((isb && (op == 6) && decide (y.F.length = x.F.length + 2)) = scb) := by
    rcases HYC.out with ⟨hl, hF, hv⟩ | ⟨hl, hF⟩
    · rcases pTop_cases s3 (k : Int) FEW3 S8.C with hp | ⟨op, pc, r0, r1, r2, r3, r4, r5, r6, r7, xs, hp, h6⟩
      · refine ⟨0, 0, 0, 0, 0, 0, 0, 0, 0, 0, [], false, hid (fun A B C L a b c d w h => ?_), hid ?_⟩
        · have h9 := rtop_no A B C L a b c d s3 (k : Int) w FEW3 h hp
          rw [E3.out.1, E3.out.2.1, E3.out.2.2.1, E3.out.2.2.2] at h9
          exact h9.mono (fun e w' ⟨q1, q2⟩ => ⟨none, 0, q1, q2⟩)
        · rw [HB.out]; simp; omega
      · refine ⟨op, pc, r0, r1, r2, r3, r4, r5, r6, r7, xs, true, hid (fun A B C L a b c d w h => ?_), hid ?_⟩
        · have h9 := rtop_is A B C L a b c d s3 (k : Int) op pc r0 r1 r2 r3 r4 r5 r6 r7 xs w FEW3 h hp h6
          rw [E3.out.1, E3.out.2.1, E3.out.2.2.1, E3.out.2.2.2] at h9
          exact h9.mono (fun e w' ⟨A', c', q1, _, q2⟩ => ⟨A', c', q1, q2⟩)
        · rw [HB.out, hF]; simp; omega
    · have hp : pTop s3 (k : Int) = some (frS 6 0) := by rw [HY.out]; exact core_top (s := ⟨_, _, s0.L⟩) (F := x.F ++ [frR (1 + (q : Int)) 1]) (set_get HX.out) (by rw [hF]; simp)
      refine ⟨6, 0, 0, 0, 0, 0, 0, 0, 0, 0, [], true, hid (fun A B C L a b c d w h => ?_), hid ?_⟩
      · have h9 := rtop_is A B C L a b c d s3 (k : Int) 6 0 0 0 0 0 0 0 0 0 [] w FEW3 h hp (by simp)
        rw [E3.out.1, E3.out.2.1, E3.out.2.2.1, E3.out.2.2.2] at h9
        exact h9.mono (fun e w' ⟨A', c', q1, _, q2⟩ => ⟨A', c', q1, q2⟩)
      · rw [HB.out, hF]; simp; omega
  go_upto_region 14 with (go_at_call 14; (with_reducible refine (HTP.out _ _ _ _ _ _ _ _ _ S8).mono ?_); rintro e w8 ⟨AT, cT, rfl, hk⟩)
  clear m0_0 m0_1 m0_2 m0_3 m0_4 m8_0 m8_1 m8_2 m8_3 m8_4
  replace Bk0 := (hk.block v0 lt0).trans Bk0
  replace lt0 := Nat.lt_of_lt_of_le lt0 hk.size
  replace Bk8 := (hk.block v8 lt8).trans Bk8
  replace lt8 := Nat.lt_of_lt_of_le lt8 hk.size
  replace S0 := S0.step hk
  replace S8 := S8.step hk
  replace r10 := r10.step hk
  replace hb := bstep hb hk
  clear hk
  have BkT := heap_alloc_new w8 (.cells #[.int .i64 op, .int .i64 pc, .int .i64 r0, .int .i64 r1, .int .i64 r2, .int .i64 r3, .int .i64 r4, .int .i64 r5, .int .i64 r6, .int .i64 r7, .slice AT xs.length cT] 44)
  have ltT : w8.heap.size < (w8.alloc (.cells #[.int .i64 op, .int .i64 pc, .int .i64 r0, .int .i64 r1, .int .i64 r2, .int .i64 r3, .int .i64 r4, .int .i64 r5, .int .i64 r6, .int .i64 r7, .slice AT xs.length cT] 44)).heap.size := by simp
  have hk : Below w8.heap.size w8 (w8.alloc (.cells #[.int .i64 op, .int .i64 pc, .int .i64 r0, .int .i64 r1, .int .i64 r2, .int .i64 r3, .int .i64 r4, .int .i64 r5, .int .i64 r6, .int .i64 r7, .slice AT xs.length cT] 44)) := boxed _ _
  replace Bk0 := (hk.block v0 lt0).trans Bk0
  replace lt0 := Nat.lt_of_lt_of_le lt0 hk.size
  replace Bk8 := (hk.block v8 lt8).trans Bk8
  replace lt8 := Nat.lt_of_lt_of_le lt8 hk.size
  replace S0 := S0.step hk
  replace S8 := S8.step hk
  replace r10 := r10.step hk
  replace hb := bstep hb hk
  clear hk
  obtain ⟨vT, hv⟩ : ∃ v, w8.heap.size = v := ⟨_, rfl⟩
  rw [hv] at BkT ltT ⊢
  clear hv
  generalize (w8.alloc (.cells #[.int .i64 op, .int .i64 pc, .int .i64 r0, .int .i64 r1, .int .i64 r2, .int .i64 r3, .int .i64 r4, .int .i64 r5, .int .i64 r6, .int .i64 r7, .slice AT xs.length cT] 44)) = w9 at *
  obtain ⟨gC2, oC2, eC2, hbl2, hat2⟩ := S0.C (by omega)
  injection eC2 with eC2
  injection eC2 with eC3 eC4
  subst eC3 eC4
  obtain ⟨AFy, ARy, cFy, cRy, hcy, rFy, rRy, hcFy⟩ := (hat2 k _ HX.out).cs4
  clear hat2 rFy rRy hcFy
  have y0 : w9.cell? ⟨gC, oC + k * 7, none⟩ = some (.slice AFy x.F.length cFy) := hcy 0 _ rfl
  have y6 : w9.cell? ⟨gC, oC + k * 7 + 6, none⟩ = some (.slice ARy x.ret.length cRy) := hcy 6 _ rfl
  clear hcy
  obtain ⟨gD, oD, eD, hblD, hatD⟩ := S8.C (by rw [E3.out.2.2.1]; omega)
  subst eD
  obtain ⟨AFz, ARz, cFz, cRz, hcz, rFz, rRz, hcFz⟩ := (hatD k y (by rw [HY.out]; exact set_get HX.out)).cs4
  clear hatD hcFz rFz
  have z0 : w9.cell? ⟨gD, oD + k * 7, none⟩ = some (.slice AFz y.F.length cFz) := hcz 0 _ rfl
  have z1 : w9.cell? ⟨gD, oD + k * 7 + 1, none⟩ = some (.int .i64 y.v) := hcz 1 _ rfl
  have z6 : w9.cell? ⟨gD, oD + k * 7 + 6, none⟩ = some (.slice ARz y.ret.length cRz) := hcz 6 _ rfl
  clear hcz
  obtain ⟨m0_0, m0_1, m0_2, m0_3, m0_4⟩ := cells5 Bk0
  obtain ⟨m8_0, m8_1, m8_2, m8_3, m8_4⟩ := cells5 Bk8
  obtain ⟨mT_0, mT_1, mT_2, mT_3, mT_4, mT_5, mT_6, mT_7, mT_8, mT_9, mT_10⟩ := cells11 BkT
  have yF9 : y.F.length ≤ 1000 := by rcases HYC.out with ⟨_, h9, _⟩ | ⟨_, h9⟩ <;> rw [h9] <;> (try simp) <;> omega
  go_cut [15] from 103 (fun y15 wx => y15 = .bool scb ∧ Below w9.heap.size w9 wx)
  case first =>
    rcases Bool.eq_false_or_eq_true isb with hi | hi
    · subst hi
      rcases Bool.eq_false_or_eq_true (op == 6) with h6 | h6
      · by_cases hln : y.F.length = x.F.length + 2
        · have hlb : ((y.F.length : Int) == (x.F.length : Int) + 2) = true := by simp; omega
          have hs9 : scb = true := by have h9 := HSC.out; simpa [h6, hln] using h9.symm
          subst hs9
          clear hln
          go_quiet (fail)
          go_wp2_with fail
          go_meet
          exact ⟨rfl, bdrewN (Below.refl _ _) _⟩
        · have hlb : ((y.F.length : Int) == (x.F.length : Int) + 2) = false := by rw [beq_eq_false_iff_ne]; omega
          have hs9 : scb = false := by have h9 := HSC.out; simpa [h6, hln] using h9.symm
          subst hs9
          clear hln
          go_quiet (fail)
          go_wp2_with fail
          go_meet
          exact ⟨rfl, bdrewN (Below.refl _ _) _⟩
      · have hs9 : scb = false := by have h9 := HSC.out; simpa [h6] using h9.symm
        subst hs9
        go_quiet (fail)
        go_wp2_with fail
        go_meet
        exact ⟨rfl, bdrewN (Below.refl _ _) _⟩
    · subst hi
      have hs9 : scb = false := by have h9 := HSC.out; simpa using h9.symm
      subst hs9
      go_quiet (fail)
      go_wp2_with fail
      go_meet
      exact ⟨rfl, bdrewN (Below.refl _ _) _⟩
  case rest =>
    obtain ⟨rfl, hk⟩ := hcut
    clear HTP HSC
    clear m0_0 m0_1 m0_2 m0_3 m0_4 m8_0 m8_1 m8_2 m8_3 m8_4 mT_0 mT_1 mT_2 mT_3 mT_4 mT_5 mT_6 mT_7 mT_8 mT_9 mT_10
    replace z0 := (hk.cell hblD).trans z0
    replace z1 := (hk.cell hblD).trans z1
    replace z6 := (hk.cell hblD).trans z6
    replace y0 := (hk.cell hbl2).trans y0
    replace rRz := rRz.step hk
    replace hblD := Nat.lt_of_lt_of_le hblD hk.size
    replace hbl2 := Nat.lt_of_lt_of_le hbl2 hk.size
    clear y6
    obtain ⟨w10, hwc⟩ : ∃ v, v = wc := ⟨_, rfl⟩
    subst hwc
    replace Bk0 := (hk.block v0 lt0).trans Bk0
    replace lt0 := Nat.lt_of_lt_of_le lt0 hk.size
    replace Bk8 := (hk.block v8 lt8).trans Bk8
    replace lt8 := Nat.lt_of_lt_of_le lt8 hk.size
    replace BkT := (hk.block vT ltT).trans BkT
    replace ltT := Nat.lt_of_lt_of_le ltT hk.size
    replace S0 := S0.step hk
    replace S8 := S8.step hk
    replace r10 := r10.step hk
    replace hb := bstep hb hk
    clear hk
    clear BkT ltT
    have hbeg : decide (pLimit (s0.C.length : Int) ≤ (x.ret.length : Int) + 1) = scb := by rw [HLM.out, HB.out, decide_eq_decide]; omega
    rw [hbeg]
    clear hbeg HLM
    obtain ⟨m0_0, m0_1, m0_2, m0_3, m0_4⟩ := cells5 Bk0
    obtain ⟨m8_0, m8_1, m8_2, m8_3, m8_4⟩ := cells5 Bk8
    have HYR2 := hid (show (y.ret.length : Int) = (x.ret.length : Int) + 1 by rw [HYR.out]; simp)
    have HYL := hid (show y.ret.length = x.ret.length + 1 by rw [HYR.out]; simp)
    have HIN := hid (show ∀ (A B : Option Addr) (c d : Nat) (w : World), Row w A y.ret → Row w B (x.ret ++ [1 + (q : Int)]) → Calls Try.prog 20 #[.slice A y.ret.length c, .slice B (x.ret.length + 1) d] w fun e w' => e = .returned (.bool true) ∧ Below w.heap.size w w' from fun A B c d w h1 h2 => by rw [← HYR.out] at h2; have h9 := rints_any A B c d y.ret y.ret w h1 h2 (by have := HYL.out; omega); rw [show mInts y.ret y.ret = true by simp [mInts]] at h9; rw [HYL.out] at h9 ⊢; exact h9)
    have hfl : y.F.length ≤ 1000 := yF9
    clear yF9
    have hs9 : scb = false := by rw [HB.out]; have := HLL.out; simp; omega
    subst hs9
    have hlow : y.F = x.F ∧ y.v = 1 + (q : Int) := by
      rcases HYC.out with ⟨_, h1, h2⟩ | ⟨h0, _⟩
      · exact ⟨h1, h2⟩
      · have h9 := HB.out; simp at h9; omega
    have hne9 : ((y.F.length : Int) != (x.F.length : Int)) = false := by rw [hlow.1]; simp
    have hnv : (y.v != 1 + (q : Int)) = false := by rw [hlow.2]; simp
    clear hlow
    go_upto_region 15 with (fail)
    have KS := hid (show ∀ w', Below w10.heap.size w10 w' → (w'.cell? ⟨v8, 3, none⟩ = some (.slice (some ⟨gD, oD, none⟩) s0.C.length c8) ∧ w'.cell? ⟨v0, 3, none⟩ = some (.slice (some ⟨gC, oC, none⟩) s0.C.length c0) ∧ w'.cell? ⟨gD, oD + k * 7, none⟩ = some (.slice AFz y.F.length cFz) ∧ w'.cell? ⟨gD, oD + k * 7 + 1, none⟩ = some (.int .i64 y.v) ∧ w'.cell? ⟨gD, oD + k * 7 + 6, none⟩ = some (.slice ARz y.ret.length cRz) ∧ w'.cell? ⟨gC, oC + k * 7, none⟩ = some (.slice AFy x.F.length cFy)) from fun w' h => ⟨(h.cell lt8).trans m8_3, (h.cell lt0).trans m0_3, (h.cell hblD).trans z0, (h.cell hblD).trans z1, (h.cell hblD).trans z6, (h.cell hbl2).trans y0⟩)
    refine wp_region_held_drew (S := (fun w' => Below w10.heap.size w10 w')) (by kernel_rfl) ((Below.refl _ _).drew) (fun HT0 => ?_)
    try dsimp only at HT0
    generalize w10.drew = W0 at HT0 ⊢
    first
      | (refine wpAnyH_take (i := 0) (oi := { dst := some 127, op := _, type := _, pos := _, after := _, guard := _ }) (v := ?va431) rfl (by kernel_rfl) (by kernel_rfl) (by kernel_rfl) (fun _ _ _ h => h) (Or.inl ⟨by rfl, ?ha431⟩) HT0 ?_; (case ha431 => (intro w hSw; obtain ⟨x0, x1, x2, x3, x4, x5⟩ := KS.out w hSw; clear hSw; go_simp; try with_reducible rfl)); try simp only [Act.put, List.setIfInBounds_toArray, List.set_cons_zero, List.set_cons_succ])
      | (refine wpAnyH_take (i := 0) (oi := { dst := some 127, op := _, type := _, pos := _, after := _, guard := _ }) (v := undef) rfl (by kernel_rfl) (by kernel_rfl) (by kernel_rfl) (fun _ _ _ h => h) (Or.inr ⟨by rfl, rfl⟩) HT0 ?_; try simp only [Act.put, List.setIfInBounds_toArray, List.set_cons_zero, List.set_cons_succ])
    first
      | (refine wpAnyH_take (i := 1) (oi := { dst := some 128, op := _, type := _, pos := _, after := _, guard := _ }) (v := ?va432) rfl (by kernel_rfl) (by kernel_rfl) (by kernel_rfl) (fun _ _ _ h => h) (Or.inl ⟨by rfl, ?ha432⟩) HT0 ?_; (case ha432 => (intro w hSw; obtain ⟨x0, x1, x2, x3, x4, x5⟩ := KS.out w hSw; clear hSw; go_simp; try with_reducible rfl)); try simp only [Act.put, List.setIfInBounds_toArray, List.set_cons_zero, List.set_cons_succ])
      | (refine wpAnyH_take (i := 1) (oi := { dst := some 128, op := _, type := _, pos := _, after := _, guard := _ }) (v := undef) rfl (by kernel_rfl) (by kernel_rfl) (by kernel_rfl) (fun _ _ _ h => h) (Or.inr ⟨by rfl, rfl⟩) HT0 ?_; try simp only [Act.put, List.setIfInBounds_toArray, List.set_cons_zero, List.set_cons_succ])
    first
      | (refine wpAnyH_take (i := 2) (oi := { dst := some 129, op := _, type := _, pos := _, after := _, guard := _ }) (v := ?va433) rfl (by kernel_rfl) (by kernel_rfl) (by kernel_rfl) (fun _ _ _ h => h) (Or.inl ⟨by rfl, ?ha433⟩) HT0 ?_; (case ha433 => (intro w hSw; obtain ⟨x0, x1, x2, x3, x4, x5⟩ := KS.out w hSw; clear hSw; go_simp; try with_reducible rfl)); try simp only [Act.put, List.setIfInBounds_toArray, List.set_cons_zero, List.set_cons_succ])
      | (refine wpAnyH_take (i := 2) (oi := { dst := some 129, op := _, type := _, pos := _, after := _, guard := _ }) (v := undef) rfl (by kernel_rfl) (by kernel_rfl) (by kernel_rfl) (fun _ _ _ h => h) (Or.inr ⟨by rfl, rfl⟩) HT0 ?_; try simp only [Act.put, List.setIfInBounds_toArray, List.set_cons_zero, List.set_cons_succ])
    first
      | (refine wpAnyH_take (i := 3) (oi := { dst := some 130, op := _, type := _, pos := _, after := _, guard := _ }) (v := ?va434) rfl (by kernel_rfl) (by kernel_rfl) (by kernel_rfl) (fun _ _ _ h => h) (Or.inl ⟨by rfl, ?ha434⟩) HT0 ?_; (case ha434 => (intro w hSw; obtain ⟨x0, x1, x2, x3, x4, x5⟩ := KS.out w hSw; clear hSw; go_simp; try with_reducible rfl)); try simp only [Act.put, List.setIfInBounds_toArray, List.set_cons_zero, List.set_cons_succ])
      | (refine wpAnyH_take (i := 3) (oi := { dst := some 130, op := _, type := _, pos := _, after := _, guard := _ }) (v := undef) rfl (by kernel_rfl) (by kernel_rfl) (by kernel_rfl) (fun _ _ _ h => h) (Or.inr ⟨by rfl, rfl⟩) HT0 ?_; try simp only [Act.put, List.setIfInBounds_toArray, List.set_cons_zero, List.set_cons_succ])
    first
      | (refine wpAnyH_take (i := 4) (oi := { dst := some 131, op := _, type := _, pos := _, after := _, guard := _ }) (v := ?va435) rfl (by kernel_rfl) (by kernel_rfl) (by kernel_rfl) (fun _ _ _ h => h) (Or.inl ⟨by rfl, ?ha435⟩) HT0 ?_; (case ha435 => (intro w hSw; obtain ⟨x0, x1, x2, x3, x4, x5⟩ := KS.out w hSw; clear hSw; go_simp; try with_reducible rfl)); try simp only [Act.put, List.setIfInBounds_toArray, List.set_cons_zero, List.set_cons_succ])
      | (refine wpAnyH_take (i := 4) (oi := { dst := some 131, op := _, type := _, pos := _, after := _, guard := _ }) (v := undef) rfl (by kernel_rfl) (by kernel_rfl) (by kernel_rfl) (fun _ _ _ h => h) (Or.inr ⟨by rfl, rfl⟩) HT0 ?_; try simp only [Act.put, List.setIfInBounds_toArray, List.set_cons_zero, List.set_cons_succ])
    first
      | (refine wpAnyH_take (i := 5) (oi := { dst := some 132, op := _, type := _, pos := _, after := _, guard := _ }) (v := ?va436) rfl (by kernel_rfl) (by kernel_rfl) (by kernel_rfl) (fun _ _ _ h => h) (Or.inl ⟨by rfl, ?ha436⟩) HT0 ?_; (case ha436 => (intro w hSw; obtain ⟨x0, x1, x2, x3, x4, x5⟩ := KS.out w hSw; clear hSw; go_simp; try with_reducible rfl)); try simp only [Act.put, List.setIfInBounds_toArray, List.set_cons_zero, List.set_cons_succ])
      | (refine wpAnyH_take (i := 5) (oi := { dst := some 132, op := _, type := _, pos := _, after := _, guard := _ }) (v := undef) rfl (by kernel_rfl) (by kernel_rfl) (by kernel_rfl) (fun _ _ _ h => h) (Or.inr ⟨by rfl, rfl⟩) HT0 ?_; try simp only [Act.put, List.setIfInBounds_toArray, List.set_cons_zero, List.set_cons_succ])
    first
      | (refine wpAnyH_take (i := 6) (oi := { dst := some 133, op := _, type := _, pos := _, after := _, guard := _ }) (v := ?va437) rfl (by kernel_rfl) (by kernel_rfl) (by kernel_rfl) (fun _ _ _ h => h) (Or.inl ⟨by rfl, ?ha437⟩) HT0 ?_; (case ha437 => (intro w hSw; obtain ⟨x0, x1, x2, x3, x4, x5⟩ := KS.out w hSw; clear hSw; go_simp; try with_reducible rfl)); try simp only [Act.put, List.setIfInBounds_toArray, List.set_cons_zero, List.set_cons_succ])
      | (refine wpAnyH_take (i := 6) (oi := { dst := some 133, op := _, type := _, pos := _, after := _, guard := _ }) (v := undef) rfl (by kernel_rfl) (by kernel_rfl) (by kernel_rfl) (fun _ _ _ h => h) (Or.inr ⟨by rfl, rfl⟩) HT0 ?_; try simp only [Act.put, List.setIfInBounds_toArray, List.set_cons_zero, List.set_cons_succ])
    refine wpAnyH_ready (rs := [7]) (by kernel_rfl) (by simp) ?_
    refine AllReadyH.cons (o := { dst := some 134, op := _, type := _, pos := _, after := _, guard := _ }) rfl (fun K hK => ?_) AllReadyH.nil
    go_simp
    (go_at_call 20; (with_reducible refine (HIN.out _ _ _ _ _ (rRz.step HT0) (r10.step HT0)).mono ?_); rintro e wk1 ⟨rfl, hk1⟩)
    have HT1 := bstep HT0 hk1
    refine hK.out _ _ HT1 (fun _ => ?_)
    clear hK K
    try simp only [Act.put, List.setIfInBounds_toArray, List.set_cons_zero, List.set_cons_succ]
    first
      | (refine wpAnyH_take (i := 8) (oi := { dst := some 135, op := _, type := _, pos := _, after := _, guard := _ }) (v := ?va438) rfl (by kernel_rfl) (by kernel_rfl) (by kernel_rfl) (fun _ _ _ h => h) (Or.inl ⟨by rfl, ?ha438⟩) HT1 ?_; (case ha438 => (intro w hSw; obtain ⟨x0, x1, x2, x3, x4, x5⟩ := KS.out w hSw; clear hSw; go_simp; try with_reducible rfl)); try simp only [Act.put, List.setIfInBounds_toArray, List.set_cons_zero, List.set_cons_succ])
      | (refine wpAnyH_take (i := 8) (oi := { dst := some 135, op := _, type := _, pos := _, after := _, guard := _ }) (v := undef) rfl (by kernel_rfl) (by kernel_rfl) (by kernel_rfl) (fun _ _ _ h => h) (Or.inr ⟨by rfl, rfl⟩) HT1 ?_; try simp only [Act.put, List.setIfInBounds_toArray, List.set_cons_zero, List.set_cons_succ])
    first
      | (refine wpAnyH_take (i := 9) (oi := { dst := some 136, op := _, type := _, pos := _, after := _, guard := _ }) (v := ?va439) rfl (by kernel_rfl) (by kernel_rfl) (by kernel_rfl) (fun _ _ _ h => h) (Or.inl ⟨by rfl, ?ha439⟩) HT1 ?_; (case ha439 => (intro w hSw; obtain ⟨x0, x1, x2, x3, x4, x5⟩ := KS.out w hSw; clear hSw; go_simp; try with_reducible rfl)); try simp only [Act.put, List.setIfInBounds_toArray, List.set_cons_zero, List.set_cons_succ])
      | (refine wpAnyH_take (i := 9) (oi := { dst := some 136, op := _, type := _, pos := _, after := _, guard := _ }) (v := undef) rfl (by kernel_rfl) (by kernel_rfl) (by kernel_rfl) (fun _ _ _ h => h) (Or.inr ⟨by rfl, rfl⟩) HT1 ?_; try simp only [Act.put, List.setIfInBounds_toArray, List.set_cons_zero, List.set_cons_succ])
    first
      | (refine wpAnyH_take (i := 10) (oi := { dst := some 137, op := _, type := _, pos := _, after := _, guard := _ }) (v := ?va440) rfl (by kernel_rfl) (by kernel_rfl) (by kernel_rfl) (fun _ _ _ h => h) (Or.inl ⟨by rfl, ?ha440⟩) HT1 ?_; (case ha440 => (intro w hSw; obtain ⟨x0, x1, x2, x3, x4, x5⟩ := KS.out w hSw; clear hSw; go_simp; try with_reducible rfl)); try simp only [Act.put, List.setIfInBounds_toArray, List.set_cons_zero, List.set_cons_succ])
      | (refine wpAnyH_take (i := 10) (oi := { dst := some 137, op := _, type := _, pos := _, after := _, guard := _ }) (v := undef) rfl (by kernel_rfl) (by kernel_rfl) (by kernel_rfl) (fun _ _ _ h => h) (Or.inr ⟨by rfl, rfl⟩) HT1 ?_; try simp only [Act.put, List.setIfInBounds_toArray, List.set_cons_zero, List.set_cons_succ])
    first
      | (refine wpAnyH_take (i := 11) (oi := { dst := some 138, op := _, type := _, pos := _, after := _, guard := _ }) (v := ?va441) rfl (by kernel_rfl) (by kernel_rfl) (by kernel_rfl) (fun _ _ _ h => h) (Or.inl ⟨by rfl, ?ha441⟩) HT1 ?_; (case ha441 => (intro w hSw; obtain ⟨x0, x1, x2, x3, x4, x5⟩ := KS.out w hSw; clear hSw; go_simp; try with_reducible rfl)); try simp only [Act.put, List.setIfInBounds_toArray, List.set_cons_zero, List.set_cons_succ])
      | (refine wpAnyH_take (i := 11) (oi := { dst := some 138, op := _, type := _, pos := _, after := _, guard := _ }) (v := undef) rfl (by kernel_rfl) (by kernel_rfl) (by kernel_rfl) (fun _ _ _ h => h) (Or.inr ⟨by rfl, rfl⟩) HT1 ?_; try simp only [Act.put, List.setIfInBounds_toArray, List.set_cons_zero, List.set_cons_succ])
    first
      | (refine wpAnyH_take (i := 12) (oi := { dst := some 139, op := _, type := _, pos := _, after := _, guard := _ }) (v := ?va442) rfl (by kernel_rfl) (by kernel_rfl) (by kernel_rfl) (fun _ _ _ h => h) (Or.inl ⟨by rfl, ?ha442⟩) HT1 ?_; (case ha442 => (intro w hSw; obtain ⟨x0, x1, x2, x3, x4, x5⟩ := KS.out w hSw; clear hSw; go_simp; try with_reducible rfl)); try simp only [Act.put, List.setIfInBounds_toArray, List.set_cons_zero, List.set_cons_succ])
      | (refine wpAnyH_take (i := 12) (oi := { dst := some 139, op := _, type := _, pos := _, after := _, guard := _ }) (v := undef) rfl (by kernel_rfl) (by kernel_rfl) (by kernel_rfl) (fun _ _ _ h => h) (Or.inr ⟨by rfl, rfl⟩) HT1 ?_; try simp only [Act.put, List.setIfInBounds_toArray, List.set_cons_zero, List.set_cons_succ])
    first
      | (refine wpAnyH_take (i := 13) (oi := { dst := some 140, op := _, type := _, pos := _, after := _, guard := _ }) (v := ?va443) rfl (by kernel_rfl) (by kernel_rfl) (by kernel_rfl) (fun _ _ _ h => h) (Or.inl ⟨by rfl, ?ha443⟩) HT1 ?_; (case ha443 => (intro w hSw; obtain ⟨x0, x1, x2, x3, x4, x5⟩ := KS.out w hSw; clear hSw; go_simp; try with_reducible rfl)); try simp only [Act.put, List.setIfInBounds_toArray, List.set_cons_zero, List.set_cons_succ])
      | (refine wpAnyH_take (i := 13) (oi := { dst := some 140, op := _, type := _, pos := _, after := _, guard := _ }) (v := undef) rfl (by kernel_rfl) (by kernel_rfl) (by kernel_rfl) (fun _ _ _ h => h) (Or.inr ⟨by rfl, rfl⟩) HT1 ?_; try simp only [Act.put, List.setIfInBounds_toArray, List.set_cons_zero, List.set_cons_succ])
    first
      | (refine wpAnyH_take (i := 14) (oi := { dst := some 141, op := _, type := _, pos := _, after := _, guard := _ }) (v := ?va444) rfl (by kernel_rfl) (by kernel_rfl) (by kernel_rfl) (fun _ _ _ h => h) (Or.inl ⟨by rfl, ?ha444⟩) HT1 ?_; (case ha444 => (intro w hSw; obtain ⟨x0, x1, x2, x3, x4, x5⟩ := KS.out w hSw; clear hSw; go_simp; try with_reducible rfl)); try simp only [Act.put, List.setIfInBounds_toArray, List.set_cons_zero, List.set_cons_succ])
      | (refine wpAnyH_take (i := 14) (oi := { dst := some 141, op := _, type := _, pos := _, after := _, guard := _ }) (v := undef) rfl (by kernel_rfl) (by kernel_rfl) (by kernel_rfl) (fun _ _ _ h => h) (Or.inr ⟨by rfl, rfl⟩) HT1 ?_; try simp only [Act.put, List.setIfInBounds_toArray, List.set_cons_zero, List.set_cons_succ])
    first
      | (refine wpAnyH_take (i := 15) (oi := { dst := some 142, op := _, type := _, pos := _, after := _, guard := _ }) (v := ?va445) rfl (by kernel_rfl) (by kernel_rfl) (by kernel_rfl) (fun _ _ _ h => h) (Or.inl ⟨by rfl, ?ha445⟩) HT1 ?_; (case ha445 => (intro w hSw; obtain ⟨x0, x1, x2, x3, x4, x5⟩ := KS.out w hSw; clear hSw; go_simp; try with_reducible rfl)); try simp only [Act.put, List.setIfInBounds_toArray, List.set_cons_zero, List.set_cons_succ])
      | (refine wpAnyH_take (i := 15) (oi := { dst := some 142, op := _, type := _, pos := _, after := _, guard := _ }) (v := undef) rfl (by kernel_rfl) (by kernel_rfl) (by kernel_rfl) (fun _ _ _ h => h) (Or.inr ⟨by rfl, rfl⟩) HT1 ?_; try simp only [Act.put, List.setIfInBounds_toArray, List.set_cons_zero, List.set_cons_succ])
    first
      | (refine wpAnyH_take (i := 16) (oi := { dst := some 143, op := _, type := _, pos := _, after := _, guard := _ }) (v := ?va446) rfl (by kernel_rfl) (by kernel_rfl) (by kernel_rfl) (fun _ _ _ h => h) (Or.inl ⟨by rfl, ?ha446⟩) HT1 ?_; (case ha446 => (intro w hSw; obtain ⟨x0, x1, x2, x3, x4, x5⟩ := KS.out w hSw; clear hSw; go_simp; try with_reducible rfl)); try simp only [Act.put, List.setIfInBounds_toArray, List.set_cons_zero, List.set_cons_succ])
      | (refine wpAnyH_take (i := 16) (oi := { dst := some 143, op := _, type := _, pos := _, after := _, guard := _ }) (v := undef) rfl (by kernel_rfl) (by kernel_rfl) (by kernel_rfl) (fun _ _ _ h => h) (Or.inr ⟨by rfl, rfl⟩) HT1 ?_; try simp only [Act.put, List.setIfInBounds_toArray, List.set_cons_zero, List.set_cons_succ])
    first
      | (refine wpAnyH_take (i := 17) (oi := { dst := some 144, op := _, type := _, pos := _, after := _, guard := _ }) (v := ?va447) rfl (by kernel_rfl) (by kernel_rfl) (by kernel_rfl) (fun _ _ _ h => h) (Or.inl ⟨by rfl, ?ha447⟩) HT1 ?_; (case ha447 => (intro w hSw; obtain ⟨x0, x1, x2, x3, x4, x5⟩ := KS.out w hSw; clear hSw; go_simp; try with_reducible rfl)); try simp only [Act.put, List.setIfInBounds_toArray, List.set_cons_zero, List.set_cons_succ])
      | (refine wpAnyH_take (i := 17) (oi := { dst := some 144, op := _, type := _, pos := _, after := _, guard := _ }) (v := undef) rfl (by kernel_rfl) (by kernel_rfl) (by kernel_rfl) (fun _ _ _ h => h) (Or.inr ⟨by rfl, rfl⟩) HT1 ?_; try simp only [Act.put, List.setIfInBounds_toArray, List.set_cons_zero, List.set_cons_succ])
    first
      | (refine wpAnyH_take (i := 18) (oi := { dst := some 145, op := _, type := _, pos := _, after := _, guard := _ }) (v := ?va448) rfl (by kernel_rfl) (by kernel_rfl) (by kernel_rfl) (fun _ _ _ h => h) (Or.inl ⟨by rfl, ?ha448⟩) HT1 ?_; (case ha448 => (intro w hSw; obtain ⟨x0, x1, x2, x3, x4, x5⟩ := KS.out w hSw; clear hSw; go_simp; try with_reducible rfl)); try simp only [Act.put, List.setIfInBounds_toArray, List.set_cons_zero, List.set_cons_succ])
      | (refine wpAnyH_take (i := 18) (oi := { dst := some 145, op := _, type := _, pos := _, after := _, guard := _ }) (v := undef) rfl (by kernel_rfl) (by kernel_rfl) (by kernel_rfl) (fun _ _ _ h => h) (Or.inr ⟨by rfl, rfl⟩) HT1 ?_; try simp only [Act.put, List.setIfInBounds_toArray, List.set_cons_zero, List.set_cons_succ])
    first
      | (refine wpAnyH_take (i := 19) (oi := { dst := some 146, op := _, type := _, pos := _, after := _, guard := _ }) (v := ?va449) rfl (by kernel_rfl) (by kernel_rfl) (by kernel_rfl) (fun _ _ _ h => h) (Or.inl ⟨by rfl, ?ha449⟩) HT1 ?_; (case ha449 => (intro w hSw; obtain ⟨x0, x1, x2, x3, x4, x5⟩ := KS.out w hSw; clear hSw; go_simp; try with_reducible rfl)); try simp only [Act.put, List.setIfInBounds_toArray, List.set_cons_zero, List.set_cons_succ])
      | (refine wpAnyH_take (i := 19) (oi := { dst := some 146, op := _, type := _, pos := _, after := _, guard := _ }) (v := undef) rfl (by kernel_rfl) (by kernel_rfl) (by kernel_rfl) (fun _ _ _ h => h) (Or.inr ⟨by rfl, rfl⟩) HT1 ?_; try simp only [Act.put, List.setIfInBounds_toArray, List.set_cons_zero, List.set_cons_succ])
    first
      | (refine wpAnyH_take (i := 20) (oi := { dst := some 147, op := _, type := _, pos := _, after := _, guard := _ }) (v := ?va450) rfl (by kernel_rfl) (by kernel_rfl) (by kernel_rfl) (fun _ _ _ h => h) (Or.inl ⟨by rfl, ?ha450⟩) HT1 ?_; (case ha450 => (intro w hSw; obtain ⟨x0, x1, x2, x3, x4, x5⟩ := KS.out w hSw; clear hSw; go_simp; try with_reducible rfl)); try simp only [Act.put, List.setIfInBounds_toArray, List.set_cons_zero, List.set_cons_succ])
      | (refine wpAnyH_take (i := 20) (oi := { dst := some 147, op := _, type := _, pos := _, after := _, guard := _ }) (v := undef) rfl (by kernel_rfl) (by kernel_rfl) (by kernel_rfl) (fun _ _ _ h => h) (Or.inr ⟨by rfl, rfl⟩) HT1 ?_; try simp only [Act.put, List.setIfInBounds_toArray, List.set_cons_zero, List.set_cons_succ])
    first
      | (refine wpAnyH_take (i := 21) (oi := { dst := some 148, op := _, type := _, pos := _, after := _, guard := _ }) (v := ?va451) rfl (by kernel_rfl) (by kernel_rfl) (by kernel_rfl) (fun _ _ _ h => h) (Or.inl ⟨by rfl, ?ha451⟩) HT1 ?_; (case ha451 => (intro w hSw; obtain ⟨x0, x1, x2, x3, x4, x5⟩ := KS.out w hSw; clear hSw; go_simp; try with_reducible rfl)); try simp only [Act.put, List.setIfInBounds_toArray, List.set_cons_zero, List.set_cons_succ])
      | (refine wpAnyH_take (i := 21) (oi := { dst := some 148, op := _, type := _, pos := _, after := _, guard := _ }) (v := undef) rfl (by kernel_rfl) (by kernel_rfl) (by kernel_rfl) (fun _ _ _ h => h) (Or.inr ⟨by rfl, rfl⟩) HT1 ?_; try simp only [Act.put, List.setIfInBounds_toArray, List.set_cons_zero, List.set_cons_succ])
    first
      | (refine wpAnyH_take (i := 22) (oi := { dst := some 149, op := _, type := _, pos := _, after := _, guard := _ }) (v := ?va452) rfl (by kernel_rfl) (by kernel_rfl) (by kernel_rfl) (fun _ _ _ h => h) (Or.inl ⟨by rfl, ?ha452⟩) HT1 ?_; (case ha452 => (intro w hSw; obtain ⟨x0, x1, x2, x3, x4, x5⟩ := KS.out w hSw; clear hSw; go_simp; try with_reducible rfl)); try simp only [Act.put, List.setIfInBounds_toArray, List.set_cons_zero, List.set_cons_succ])
      | (refine wpAnyH_take (i := 22) (oi := { dst := some 149, op := _, type := _, pos := _, after := _, guard := _ }) (v := undef) rfl (by kernel_rfl) (by kernel_rfl) (by kernel_rfl) (fun _ _ _ h => h) (Or.inr ⟨by rfl, rfl⟩) HT1 ?_; try simp only [Act.put, List.setIfInBounds_toArray, List.set_cons_zero, List.set_cons_succ])
    first
      | (refine wpAnyH_take (i := 23) (oi := { dst := some 150, op := _, type := _, pos := _, after := _, guard := _ }) (v := ?va453) rfl (by kernel_rfl) (by kernel_rfl) (by kernel_rfl) (fun _ _ _ h => h) (Or.inl ⟨by rfl, ?ha453⟩) HT1 ?_; (case ha453 => (intro w hSw; obtain ⟨x0, x1, x2, x3, x4, x5⟩ := KS.out w hSw; clear hSw; go_simp; try with_reducible rfl)); try simp only [Act.put, List.setIfInBounds_toArray, List.set_cons_zero, List.set_cons_succ])
      | (refine wpAnyH_take (i := 23) (oi := { dst := some 150, op := _, type := _, pos := _, after := _, guard := _ }) (v := undef) rfl (by kernel_rfl) (by kernel_rfl) (by kernel_rfl) (fun _ _ _ h => h) (Or.inr ⟨by rfl, rfl⟩) HT1 ?_; try simp only [Act.put, List.setIfInBounds_toArray, List.set_cons_zero, List.set_cons_succ])
    first
      | (refine wpAnyH_take (i := 24) (oi := { dst := some 151, op := _, type := _, pos := _, after := _, guard := _ }) (v := ?va454) rfl (by kernel_rfl) (by kernel_rfl) (by kernel_rfl) (fun _ _ _ h => h) (Or.inl ⟨by rfl, ?ha454⟩) HT1 ?_; (case ha454 => (intro w hSw; obtain ⟨x0, x1, x2, x3, x4, x5⟩ := KS.out w hSw; clear hSw; go_simp; try with_reducible rfl)); try simp only [Act.put, List.setIfInBounds_toArray, List.set_cons_zero, List.set_cons_succ])
      | (refine wpAnyH_take (i := 24) (oi := { dst := some 151, op := _, type := _, pos := _, after := _, guard := _ }) (v := undef) rfl (by kernel_rfl) (by kernel_rfl) (by kernel_rfl) (fun _ _ _ h => h) (Or.inr ⟨by rfl, rfl⟩) HT1 ?_; try simp only [Act.put, List.setIfInBounds_toArray, List.set_cons_zero, List.set_cons_succ])
    first
      | (refine wpAnyH_take (i := 25) (oi := { dst := some 152, op := _, type := _, pos := _, after := _, guard := _ }) (v := ?va455) rfl (by kernel_rfl) (by kernel_rfl) (by kernel_rfl) (fun _ _ _ h => h) (Or.inl ⟨by rfl, ?ha455⟩) HT1 ?_; (case ha455 => (intro w hSw; obtain ⟨x0, x1, x2, x3, x4, x5⟩ := KS.out w hSw; clear hSw; go_simp; try with_reducible rfl)); try simp only [Act.put, List.setIfInBounds_toArray, List.set_cons_zero, List.set_cons_succ])
      | (refine wpAnyH_take (i := 25) (oi := { dst := some 152, op := _, type := _, pos := _, after := _, guard := _ }) (v := undef) rfl (by kernel_rfl) (by kernel_rfl) (by kernel_rfl) (fun _ _ _ h => h) (Or.inr ⟨by rfl, rfl⟩) HT1 ?_; try simp only [Act.put, List.setIfInBounds_toArray, List.set_cons_zero, List.set_cons_succ])
    first
      | (refine wpAnyH_take (i := 26) (oi := { dst := some 153, op := _, type := _, pos := _, after := _, guard := _ }) (v := ?va456) rfl (by kernel_rfl) (by kernel_rfl) (by kernel_rfl) (fun _ _ _ h => h) (Or.inl ⟨by rfl, ?ha456⟩) HT1 ?_; (case ha456 => (intro w hSw; obtain ⟨x0, x1, x2, x3, x4, x5⟩ := KS.out w hSw; clear hSw; go_simp; try with_reducible rfl)); try simp only [Act.put, List.setIfInBounds_toArray, List.set_cons_zero, List.set_cons_succ])
      | (refine wpAnyH_take (i := 26) (oi := { dst := some 153, op := _, type := _, pos := _, after := _, guard := _ }) (v := undef) rfl (by kernel_rfl) (by kernel_rfl) (by kernel_rfl) (fun _ _ _ h => h) (Or.inr ⟨by rfl, rfl⟩) HT1 ?_; try simp only [Act.put, List.setIfInBounds_toArray, List.set_cons_zero, List.set_cons_succ])
    first
      | (refine wpAnyH_take (i := 27) (oi := { dst := some 154, op := _, type := _, pos := _, after := _, guard := _ }) (v := ?va457) rfl (by kernel_rfl) (by kernel_rfl) (by kernel_rfl) (fun _ _ _ h => h) (Or.inl ⟨by rfl, ?ha457⟩) HT1 ?_; (case ha457 => (intro w hSw; obtain ⟨x0, x1, x2, x3, x4, x5⟩ := KS.out w hSw; clear hSw; go_simp; try with_reducible rfl)); try simp only [Act.put, List.setIfInBounds_toArray, List.set_cons_zero, List.set_cons_succ])
      | (refine wpAnyH_take (i := 27) (oi := { dst := some 154, op := _, type := _, pos := _, after := _, guard := _ }) (v := undef) rfl (by kernel_rfl) (by kernel_rfl) (by kernel_rfl) (fun _ _ _ h => h) (Or.inr ⟨by rfl, rfl⟩) HT1 ?_; try simp only [Act.put, List.setIfInBounds_toArray, List.set_cons_zero, List.set_cons_succ])
    first
      | (refine wpAnyH_take (i := 28) (oi := { dst := some 155, op := _, type := _, pos := _, after := _, guard := _ }) (v := ?va458) rfl (by kernel_rfl) (by kernel_rfl) (by kernel_rfl) (fun _ _ _ h => h) (Or.inl ⟨by rfl, ?ha458⟩) HT1 ?_; (case ha458 => (intro w hSw; obtain ⟨x0, x1, x2, x3, x4, x5⟩ := KS.out w hSw; clear hSw; go_simp; try with_reducible rfl)); try simp only [Act.put, List.setIfInBounds_toArray, List.set_cons_zero, List.set_cons_succ])
      | (refine wpAnyH_take (i := 28) (oi := { dst := some 155, op := _, type := _, pos := _, after := _, guard := _ }) (v := undef) rfl (by kernel_rfl) (by kernel_rfl) (by kernel_rfl) (fun _ _ _ h => h) (Or.inr ⟨by rfl, rfl⟩) HT1 ?_; try simp only [Act.put, List.setIfInBounds_toArray, List.set_cons_zero, List.set_cons_succ])
    first
      | (refine wpAnyH_take (i := 29) (oi := { dst := some 156, op := _, type := _, pos := _, after := _, guard := _ }) (v := ?va459) rfl (by kernel_rfl) (by kernel_rfl) (by kernel_rfl) (fun _ _ _ h => h) (Or.inl ⟨by rfl, ?ha459⟩) HT1 ?_; (case ha459 => (intro w hSw; obtain ⟨x0, x1, x2, x3, x4, x5⟩ := KS.out w hSw; clear hSw; go_simp; try with_reducible rfl)); try simp only [Act.put, List.setIfInBounds_toArray, List.set_cons_zero, List.set_cons_succ])
      | (refine wpAnyH_take (i := 29) (oi := { dst := some 156, op := _, type := _, pos := _, after := _, guard := _ }) (v := undef) rfl (by kernel_rfl) (by kernel_rfl) (by kernel_rfl) (fun _ _ _ h => h) (Or.inr ⟨by rfl, rfl⟩) HT1 ?_; try simp only [Act.put, List.setIfInBounds_toArray, List.set_cons_zero, List.set_cons_succ])
    first
      | (refine wpAnyH_take (i := 30) (oi := { dst := some 157, op := _, type := _, pos := _, after := _, guard := _ }) (v := ?va460) rfl (by kernel_rfl) (by kernel_rfl) (by kernel_rfl) (fun _ _ _ h => h) (Or.inl ⟨by rfl, ?ha460⟩) HT1 ?_; (case ha460 => (intro w hSw; obtain ⟨x0, x1, x2, x3, x4, x5⟩ := KS.out w hSw; clear hSw; go_simp; try with_reducible rfl)); try simp only [Act.put, List.setIfInBounds_toArray, List.set_cons_zero, List.set_cons_succ])
      | (refine wpAnyH_take (i := 30) (oi := { dst := some 157, op := _, type := _, pos := _, after := _, guard := _ }) (v := undef) rfl (by kernel_rfl) (by kernel_rfl) (by kernel_rfl) (fun _ _ _ h => h) (Or.inr ⟨by rfl, rfl⟩) HT1 ?_; try simp only [Act.put, List.setIfInBounds_toArray, List.set_cons_zero, List.set_cons_succ])
    first
      | (refine wpAnyH_take (i := 31) (oi := { dst := some 158, op := _, type := _, pos := _, after := _, guard := _ }) (v := ?va461) rfl (by kernel_rfl) (by kernel_rfl) (by kernel_rfl) (fun _ _ _ h => h) (Or.inl ⟨by rfl, ?ha461⟩) HT1 ?_; (case ha461 => (intro w hSw; obtain ⟨x0, x1, x2, x3, x4, x5⟩ := KS.out w hSw; clear hSw; go_simp; try with_reducible rfl)); try simp only [Act.put, List.setIfInBounds_toArray, List.set_cons_zero, List.set_cons_succ])
      | (refine wpAnyH_take (i := 31) (oi := { dst := some 158, op := _, type := _, pos := _, after := _, guard := _ }) (v := undef) rfl (by kernel_rfl) (by kernel_rfl) (by kernel_rfl) (fun _ _ _ h => h) (Or.inr ⟨by rfl, rfl⟩) HT1 ?_; try simp only [Act.put, List.setIfInBounds_toArray, List.set_cons_zero, List.set_cons_succ])
    first
      | (refine wpAnyH_take (i := 32) (oi := { dst := some 159, op := _, type := _, pos := _, after := _, guard := _ }) (v := ?va462) rfl (by kernel_rfl) (by kernel_rfl) (by kernel_rfl) (fun _ _ _ h => h) (Or.inl ⟨by rfl, ?ha462⟩) HT1 ?_; (case ha462 => (intro w hSw; obtain ⟨x0, x1, x2, x3, x4, x5⟩ := KS.out w hSw; clear hSw; go_simp; try with_reducible rfl)); try simp only [Act.put, List.setIfInBounds_toArray, List.set_cons_zero, List.set_cons_succ])
      | (refine wpAnyH_take (i := 32) (oi := { dst := some 159, op := _, type := _, pos := _, after := _, guard := _ }) (v := undef) rfl (by kernel_rfl) (by kernel_rfl) (by kernel_rfl) (fun _ _ _ h => h) (Or.inr ⟨by rfl, rfl⟩) HT1 ?_; try simp only [Act.put, List.setIfInBounds_toArray, List.set_cons_zero, List.set_cons_succ])
    first
      | (refine wpAnyH_take (i := 33) (oi := { dst := some 160, op := _, type := _, pos := _, after := _, guard := _ }) (v := ?va463) rfl (by kernel_rfl) (by kernel_rfl) (by kernel_rfl) (fun _ _ _ h => h) (Or.inl ⟨by rfl, ?ha463⟩) HT1 ?_; (case ha463 => (intro w hSw; obtain ⟨x0, x1, x2, x3, x4, x5⟩ := KS.out w hSw; clear hSw; go_simp; try with_reducible rfl)); try simp only [Act.put, List.setIfInBounds_toArray, List.set_cons_zero, List.set_cons_succ])
      | (refine wpAnyH_take (i := 33) (oi := { dst := some 160, op := _, type := _, pos := _, after := _, guard := _ }) (v := undef) rfl (by kernel_rfl) (by kernel_rfl) (by kernel_rfl) (fun _ _ _ h => h) (Or.inr ⟨by rfl, rfl⟩) HT1 ?_; try simp only [Act.put, List.setIfInBounds_toArray, List.set_cons_zero, List.set_cons_succ])
    first
      | (refine wpAnyH_take (i := 34) (oi := { dst := some 161, op := _, type := _, pos := _, after := _, guard := _ }) (v := ?va464) rfl (by kernel_rfl) (by kernel_rfl) (by kernel_rfl) (fun _ _ _ h => h) (Or.inl ⟨by rfl, ?ha464⟩) HT1 ?_; (case ha464 => (intro w hSw; obtain ⟨x0, x1, x2, x3, x4, x5⟩ := KS.out w hSw; clear hSw; go_simp; try with_reducible rfl)); try simp only [Act.put, List.setIfInBounds_toArray, List.set_cons_zero, List.set_cons_succ])
      | (refine wpAnyH_take (i := 34) (oi := { dst := some 161, op := _, type := _, pos := _, after := _, guard := _ }) (v := undef) rfl (by kernel_rfl) (by kernel_rfl) (by kernel_rfl) (fun _ _ _ h => h) (Or.inr ⟨by rfl, rfl⟩) HT1 ?_; try simp only [Act.put, List.setIfInBounds_toArray, List.set_cons_zero, List.set_cons_succ])
    first
      | (refine wpAnyH_take (i := 35) (oi := { dst := some 162, op := _, type := _, pos := _, after := _, guard := _ }) (v := ?va465) rfl (by kernel_rfl) (by kernel_rfl) (by kernel_rfl) (fun _ _ _ h => h) (Or.inl ⟨by rfl, ?ha465⟩) HT1 ?_; (case ha465 => (intro w hSw; obtain ⟨x0, x1, x2, x3, x4, x5⟩ := KS.out w hSw; clear hSw; go_simp; try with_reducible rfl)); try simp only [Act.put, List.setIfInBounds_toArray, List.set_cons_zero, List.set_cons_succ])
      | (refine wpAnyH_take (i := 35) (oi := { dst := some 162, op := _, type := _, pos := _, after := _, guard := _ }) (v := undef) rfl (by kernel_rfl) (by kernel_rfl) (by kernel_rfl) (fun _ _ _ h => h) (Or.inr ⟨by rfl, rfl⟩) HT1 ?_; try simp only [Act.put, List.setIfInBounds_toArray, List.set_cons_zero, List.set_cons_succ])
    first
      | (refine wpAnyH_take (i := 36) (oi := { dst := some 163, op := _, type := _, pos := _, after := _, guard := _ }) (v := ?va466) rfl (by kernel_rfl) (by kernel_rfl) (by kernel_rfl) (fun _ _ _ h => h) (Or.inl ⟨by rfl, ?ha466⟩) HT1 ?_; (case ha466 => (intro w hSw; obtain ⟨x0, x1, x2, x3, x4, x5⟩ := KS.out w hSw; clear hSw; go_simp; try with_reducible rfl)); try simp only [Act.put, List.setIfInBounds_toArray, List.set_cons_zero, List.set_cons_succ])
      | (refine wpAnyH_take (i := 36) (oi := { dst := some 163, op := _, type := _, pos := _, after := _, guard := _ }) (v := undef) rfl (by kernel_rfl) (by kernel_rfl) (by kernel_rfl) (fun _ _ _ h => h) (Or.inr ⟨by rfl, rfl⟩) HT1 ?_; try simp only [Act.put, List.setIfInBounds_toArray, List.set_cons_zero, List.set_cons_succ])
    first
      | (refine wpAnyH_take (i := 37) (oi := { dst := some 164, op := _, type := _, pos := _, after := _, guard := _ }) (v := ?va467) rfl (by kernel_rfl) (by kernel_rfl) (by kernel_rfl) (fun _ _ _ h => h) (Or.inl ⟨by rfl, ?ha467⟩) HT1 ?_; (case ha467 => (intro w hSw; obtain ⟨x0, x1, x2, x3, x4, x5⟩ := KS.out w hSw; clear hSw; go_simp; try with_reducible rfl)); try simp only [Act.put, List.setIfInBounds_toArray, List.set_cons_zero, List.set_cons_succ])
      | (refine wpAnyH_take (i := 37) (oi := { dst := some 164, op := _, type := _, pos := _, after := _, guard := _ }) (v := undef) rfl (by kernel_rfl) (by kernel_rfl) (by kernel_rfl) (fun _ _ _ h => h) (Or.inr ⟨by rfl, rfl⟩) HT1 ?_; try simp only [Act.put, List.setIfInBounds_toArray, List.set_cons_zero, List.set_cons_succ])
    first
      | (refine wpAnyH_take (i := 38) (oi := { dst := some 165, op := _, type := _, pos := _, after := _, guard := _ }) (v := ?va468) rfl (by kernel_rfl) (by kernel_rfl) (by kernel_rfl) (fun _ _ _ h => h) (Or.inl ⟨by rfl, ?ha468⟩) HT1 ?_; (case ha468 => (intro w hSw; obtain ⟨x0, x1, x2, x3, x4, x5⟩ := KS.out w hSw; clear hSw; go_simp; try with_reducible rfl)); try simp only [Act.put, List.setIfInBounds_toArray, List.set_cons_zero, List.set_cons_succ])
      | (refine wpAnyH_take (i := 38) (oi := { dst := some 165, op := _, type := _, pos := _, after := _, guard := _ }) (v := undef) rfl (by kernel_rfl) (by kernel_rfl) (by kernel_rfl) (fun _ _ _ h => h) (Or.inr ⟨by rfl, rfl⟩) HT1 ?_; try simp only [Act.put, List.setIfInBounds_toArray, List.set_cons_zero, List.set_cons_succ])
    first
      | (refine wpAnyH_take (i := 39) (oi := { dst := some 166, op := _, type := _, pos := _, after := _, guard := _ }) (v := ?va469) rfl (by kernel_rfl) (by kernel_rfl) (by kernel_rfl) (fun _ _ _ h => h) (Or.inl ⟨by rfl, ?ha469⟩) HT1 ?_; (case ha469 => (intro w hSw; obtain ⟨x0, x1, x2, x3, x4, x5⟩ := KS.out w hSw; clear hSw; go_simp; try with_reducible rfl)); try simp only [Act.put, List.setIfInBounds_toArray, List.set_cons_zero, List.set_cons_succ])
      | (refine wpAnyH_take (i := 39) (oi := { dst := some 166, op := _, type := _, pos := _, after := _, guard := _ }) (v := undef) rfl (by kernel_rfl) (by kernel_rfl) (by kernel_rfl) (fun _ _ _ h => h) (Or.inr ⟨by rfl, rfl⟩) HT1 ?_; try simp only [Act.put, List.setIfInBounds_toArray, List.set_cons_zero, List.set_cons_succ])
    first
      | (refine wpAnyH_take (i := 40) (oi := { dst := some 167, op := _, type := _, pos := _, after := _, guard := _ }) (v := ?va470) rfl (by kernel_rfl) (by kernel_rfl) (by kernel_rfl) (fun _ _ _ h => h) (Or.inl ⟨by rfl, ?ha470⟩) HT1 ?_; (case ha470 => (intro w hSw; obtain ⟨x0, x1, x2, x3, x4, x5⟩ := KS.out w hSw; clear hSw; go_simp; try with_reducible rfl)); try simp only [Act.put, List.setIfInBounds_toArray, List.set_cons_zero, List.set_cons_succ])
      | (refine wpAnyH_take (i := 40) (oi := { dst := some 167, op := _, type := _, pos := _, after := _, guard := _ }) (v := undef) rfl (by kernel_rfl) (by kernel_rfl) (by kernel_rfl) (fun _ _ _ h => h) (Or.inr ⟨by rfl, rfl⟩) HT1 ?_; try simp only [Act.put, List.setIfInBounds_toArray, List.set_cons_zero, List.set_cons_succ])
    first
      | (refine wpAnyH_take (i := 41) (oi := { dst := some 168, op := _, type := _, pos := _, after := _, guard := _ }) (v := ?va471) rfl (by kernel_rfl) (by kernel_rfl) (by kernel_rfl) (fun _ _ _ h => h) (Or.inl ⟨by rfl, ?ha471⟩) HT1 ?_; (case ha471 => (intro w hSw; obtain ⟨x0, x1, x2, x3, x4, x5⟩ := KS.out w hSw; clear hSw; go_simp; try with_reducible rfl)); try simp only [Act.put, List.setIfInBounds_toArray, List.set_cons_zero, List.set_cons_succ])
      | (refine wpAnyH_take (i := 41) (oi := { dst := some 168, op := _, type := _, pos := _, after := _, guard := _ }) (v := undef) rfl (by kernel_rfl) (by kernel_rfl) (by kernel_rfl) (fun _ _ _ h => h) (Or.inr ⟨by rfl, rfl⟩) HT1 ?_; try simp only [Act.put, List.setIfInBounds_toArray, List.set_cons_zero, List.set_cons_succ])
    first
      | (refine wpAnyH_take (i := 42) (oi := { dst := some 169, op := _, type := _, pos := _, after := _, guard := _ }) (v := ?va472) rfl (by kernel_rfl) (by kernel_rfl) (by kernel_rfl) (fun _ _ _ h => h) (Or.inl ⟨by rfl, ?ha472⟩) HT1 ?_; (case ha472 => (intro w hSw; obtain ⟨x0, x1, x2, x3, x4, x5⟩ := KS.out w hSw; clear hSw; go_simp; try with_reducible rfl)); try simp only [Act.put, List.setIfInBounds_toArray, List.set_cons_zero, List.set_cons_succ])
      | (refine wpAnyH_take (i := 42) (oi := { dst := some 169, op := _, type := _, pos := _, after := _, guard := _ }) (v := undef) rfl (by kernel_rfl) (by kernel_rfl) (by kernel_rfl) (fun _ _ _ h => h) (Or.inr ⟨by rfl, rfl⟩) HT1 ?_; try simp only [Act.put, List.setIfInBounds_toArray, List.set_cons_zero, List.set_cons_succ])
    first
      | (refine wpAnyH_take (i := 43) (oi := { dst := some 170, op := _, type := _, pos := _, after := _, guard := _ }) (v := ?va473) rfl (by kernel_rfl) (by kernel_rfl) (by kernel_rfl) (fun _ _ _ h => h) (Or.inl ⟨by rfl, ?ha473⟩) HT1 ?_; (case ha473 => (intro w hSw; obtain ⟨x0, x1, x2, x3, x4, x5⟩ := KS.out w hSw; clear hSw; go_simp; try with_reducible rfl)); try simp only [Act.put, List.setIfInBounds_toArray, List.set_cons_zero, List.set_cons_succ])
      | (refine wpAnyH_take (i := 43) (oi := { dst := some 170, op := _, type := _, pos := _, after := _, guard := _ }) (v := undef) rfl (by kernel_rfl) (by kernel_rfl) (by kernel_rfl) (fun _ _ _ h => h) (Or.inr ⟨by rfl, rfl⟩) HT1 ?_; try simp only [Act.put, List.setIfInBounds_toArray, List.set_cons_zero, List.set_cons_succ])
    first
      | (refine wpAnyH_take (i := 44) (oi := { dst := some 171, op := _, type := _, pos := _, after := _, guard := _ }) (v := ?va474) rfl (by kernel_rfl) (by kernel_rfl) (by kernel_rfl) (fun _ _ _ h => h) (Or.inl ⟨by rfl, ?ha474⟩) HT1 ?_; (case ha474 => (intro w hSw; obtain ⟨x0, x1, x2, x3, x4, x5⟩ := KS.out w hSw; clear hSw; go_simp; try with_reducible rfl)); try simp only [Act.put, List.setIfInBounds_toArray, List.set_cons_zero, List.set_cons_succ])
      | (refine wpAnyH_take (i := 44) (oi := { dst := some 171, op := _, type := _, pos := _, after := _, guard := _ }) (v := undef) rfl (by kernel_rfl) (by kernel_rfl) (by kernel_rfl) (fun _ _ _ h => h) (Or.inr ⟨by rfl, rfl⟩) HT1 ?_; try simp only [Act.put, List.setIfInBounds_toArray, List.set_cons_zero, List.set_cons_succ])
    refine wpAnyH_done (by kernel_rfl) ?_ _
    replace hb := bstep hb HT1
    replace S0 := S0.step HT1
    replace S8 := S8.step HT1
    replace Bk0 := (HT1.block v0 lt0).trans Bk0
    replace lt0 := Nat.lt_of_lt_of_le lt0 HT1.size
    replace Bk8 := (HT1.block v8 lt8).trans Bk8
    replace lt8 := Nat.lt_of_lt_of_le lt8 HT1.size
    clear HT1 HT0 hk1 KS z0 z1 z6 y0 m0_0 m0_1 m0_2 m0_3 m0_4 m8_0 m8_1 m8_2 m8_3 m8_4 r10 rRz
    go_upto_region 17 with (fail)
    generalize wk1 = wA at *
    obtain ⟨p, hp⟩ : ∃ p : Nat, 1 + (q : Int) = (p : Int) := ⟨q + 1, by omega⟩
    rw [hp]
    have hp1 : 1 ≤ p := by omega
    have hp2 : p < s0.M.G.length := by omega
    have pl : (p : Int) < (s0.M.G.length : Int) := by omega
    have pl0 : (0 : Int) ≤ (p : Int) := by omega
    have HTT := turn_two (m := s0.M) hp1 hp2
    rw [← hp] at HTT
    have hMe : s3.M = mTurn s0.M (1 + (q : Int)) 2 := by rw [HY.out]
    rw [← hMe] at HTT
    clear hMe
    obtain ⟨gG, oG, eG, hbG, hatG⟩ := S0.G (by omega)
    obtain ⟨gH, oH, eH, hbH, hatH⟩ := S8.G (by rw [E3.out.2.1]; omega)
    subst eG eH
    have cS : wA.cell? ⟨gG, oG + p, none⟩ = some (.int .i64 (s0.M.G.getD p 0)) := hatG p _ (by rw [List.getD_eq_getElem?_getD, List.getElem?_eq_getElem hp2]; rfl)
    have cT : wA.cell? ⟨gH, oH + p, none⟩ = some (.int .i64 (s3.M.G.getD p 0)) := hatH p _ (by rw [List.getD_eq_getElem?_getD, List.getElem?_eq_getElem (show p < s3.M.G.length by rw [E3.out.2.1]; exact hp2)]; rfl)
    clear hatG hatH
    obtain ⟨-, m0_1⟩ := cells2 Bk0
    obtain ⟨-, m8_1, m8_2⟩ := cells3 Bk8
    obtain ⟨m0_0, -, m0_2, m0_3, m0_4⟩ := cells5 Bk0
    obtain ⟨m8_0, -, -, m8_3, m8_4⟩ := cells5 Bk8
    obtain ⟨nr, hnr⟩ : ∃ n, n = (pRetired s0).length := ⟨_, rfl⟩
    have hnr2 : nr ≤ 9 * 210 := by rw [hnr]; exact pRetired_le (by omega) HRB.out
    have hnr3 : (pRetired s3).length = nr + 1 := by rw [hnr, HY.out]; exact retired_more HX.out HYR.out
    have HR1 := hid (show ∀ (w : World), RS w s3 A8 (some ⟨gH, oH, none⟩) (some ⟨gD, oD, none⟩) L8 → Calls Try.prog 11 #[.agg #[.slice A8 s0.M.W.length a8, .slice (some ⟨gH, oH, none⟩) s0.M.G.length b8, .bool s3.M.bad, .slice (some ⟨gD, oD, none⟩) s0.C.length c8, .slice L8 s0.L.length d8]] w fun e w' => ∃ (A' : Option Addr) (c' : Nat), e = .returned (.slice A' (nr + 1) c') ∧ Below w.heap.size w w' from fun w k1 => by have h9 := retired_any A8 (some ⟨gH, oH, none⟩) (some ⟨gD, oD, none⟩) L8 a8 b8 c8 d8 s3 w k1.C (by rw [E3.out.2.2.1]; omega) (by omega); rw [E3.out.1, E3.out.2.1, E3.out.2.2.1, E3.out.2.2.2] at h9; exact h9.mono (fun e w' ⟨A', c', h1, _, h2⟩ => ⟨A', c', by rw [← hnr3]; exact h1, h2⟩))
    have HR2 := hid (show ∀ (w : World), RS w s0 A0 (some ⟨gG, oG, none⟩) (some ⟨gC, oC, none⟩) L0 → Calls Try.prog 21 #[.agg #[.slice A0 s0.M.W.length a0, .slice (some ⟨gG, oG, none⟩) s0.M.G.length b0, .bool s0.M.bad, .slice (some ⟨gC, oC, none⟩) s0.C.length c0, .slice L0 s0.L.length d0]] w fun e w' => ∃ (A' : Option Addr) (c' : Nat), e = .returned (.slice A' nr c') ∧ Below w.heap.size w w' from fun w k1 => by have h9 := rretired_any A0 (some ⟨gG, oG, none⟩) (some ⟨gC, oC, none⟩) L0 a0 b0 c0 d0 s0 w k1.C (by omega) (by omega); exact h9.mono (fun e w' ⟨A', c', h1, _, h2⟩ => ⟨A', c', by rw [hnr]; exact h1, h2⟩))
    have nrl : (nr : Int) ≤ 2000 := by omega
    have nr0 : (0 : Int) ≤ (nr : Int) := by omega
    have hnw : IntKind.i64.wrap ((nr : Int) + 1) = (nr : Int) + 1 := IntWalk.i64_in _ (by omega)
    clear hnr hnr2 hnr3
    have hcase : ¬ s0.M.G.getD p 0 = 1 ∧ s3.M.bad = true := by
      have h9 := HGC.out
      rw [show q + 1 = p by omega] at h9
      rw [HY.out]
      exact h9
    obtain ⟨h1, h2⟩ := hcase
    have HBD := hid h2
    have hbd : s3.M.bad = true := h2
    obtain ⟨gv, hgv⟩ : ∃ g, g = s0.M.G.getD p 0 := ⟨_, rfl⟩
    obtain ⟨hv9, hhv⟩ : ∃ g, g = s3.M.G.getD p 0 := ⟨_, rfl⟩
    rw [← hgv] at cS h1
    rw [← hhv] at cT
    have hgn : (gv != 1) = true := by simpa using h1
    clear h1 h2 HTT hbd hgv hhv
    obtain ⟨bd, hbq⟩ : ∃ b, b = s3.M.bad := ⟨_, rfl⟩
    rw [← hbq] at m8_2 HR1
    have hbv : bd = true := hbq.trans HBD.out
    clear hbq HBD
    subst hbv
    have KS := hid (show ∀ w', Below wA.heap.size wA w' → (w'.cell? ⟨v0, 0, none⟩ = some (.slice A0 s0.M.W.length a0) ∧ w'.cell? ⟨v0, 1, none⟩ = some (.slice (some ⟨gG, oG, none⟩) s0.M.G.length b0) ∧ w'.cell? ⟨v0, 2, none⟩ = some (.bool s0.M.bad) ∧ w'.cell? ⟨v0, 3, none⟩ = some (.slice (some ⟨gC, oC, none⟩) s0.C.length c0) ∧ w'.cell? ⟨v0, 4, none⟩ = some (.slice L0 s0.L.length d0) ∧ w'.cell? ⟨v8, 0, none⟩ = some (.slice A8 s0.M.W.length a8) ∧ w'.cell? ⟨v8, 1, none⟩ = some (.slice (some ⟨gH, oH, none⟩) s0.M.G.length b8) ∧ w'.cell? ⟨v8, 2, none⟩ = some (.bool true) ∧ w'.cell? ⟨v8, 3, none⟩ = some (.slice (some ⟨gD, oD, none⟩) s0.C.length c8) ∧ w'.cell? ⟨v8, 4, none⟩ = some (.slice L8 s0.L.length d8) ∧ w'.cell? ⟨gG, oG + p, none⟩ = some (.int .i64 gv) ∧ w'.cell? ⟨gH, oH + p, none⟩ = some (.int .i64 hv9)) from fun w' h => ⟨(h.cell lt0).trans m0_0, (h.cell lt0).trans m0_1, (h.cell lt0).trans m0_2, (h.cell lt0).trans m0_3, (h.cell lt0).trans m0_4, (h.cell lt8).trans m8_0, (h.cell lt8).trans m8_1, (h.cell lt8).trans m8_2, (h.cell lt8).trans m8_3, (h.cell lt8).trans m8_4, (h.cell hbG).trans cS, (h.cell hbH).trans cT⟩)
    refine wp_region_held_drew (S := (fun w' => Below wA.heap.size wA w')) (by kernel_rfl) ((Below.refl _ _).drew) (fun HT0 => ?_)
    try dsimp only at HT0
    generalize wA.drew = W0 at HT0 ⊢
    first
      | (refine wpAnyH_take (i := 0) (oi := { dst := some 172, op := _, type := _, pos := _, after := _, guard := _ }) (v := ?vb475) rfl (by kernel_rfl) (by kernel_rfl) (by kernel_rfl) (fun _ _ _ h => h) (Or.inl ⟨by rfl, ?hb475⟩) HT0 ?_; (case hb475 => (intro w hSw; obtain ⟨x0, x1, x2, x3, x4, x5, x6, x7, x8, x9, x10, x11⟩ := KS.out w hSw; clear hSw; go_simp; try with_reducible rfl)); try simp only [Act.put, List.setIfInBounds_toArray, List.set_cons_zero, List.set_cons_succ])
      | (refine wpAnyH_take (i := 0) (oi := { dst := some 172, op := _, type := _, pos := _, after := _, guard := _ }) (v := undef) rfl (by kernel_rfl) (by kernel_rfl) (by kernel_rfl) (fun _ _ _ h => h) (Or.inr ⟨by rfl, rfl⟩) HT0 ?_; try simp only [Act.put, List.setIfInBounds_toArray, List.set_cons_zero, List.set_cons_succ])
    first
      | (refine wpAnyH_take (i := 1) (oi := { dst := some 173, op := _, type := _, pos := _, after := _, guard := _ }) (v := ?vb476) rfl (by kernel_rfl) (by kernel_rfl) (by kernel_rfl) (fun _ _ _ h => h) (Or.inl ⟨by rfl, ?hb476⟩) HT0 ?_; (case hb476 => (intro w hSw; obtain ⟨x0, x1, x2, x3, x4, x5, x6, x7, x8, x9, x10, x11⟩ := KS.out w hSw; clear hSw; go_simp; try with_reducible rfl)); try simp only [Act.put, List.setIfInBounds_toArray, List.set_cons_zero, List.set_cons_succ])
      | (refine wpAnyH_take (i := 1) (oi := { dst := some 173, op := _, type := _, pos := _, after := _, guard := _ }) (v := undef) rfl (by kernel_rfl) (by kernel_rfl) (by kernel_rfl) (fun _ _ _ h => h) (Or.inr ⟨by rfl, rfl⟩) HT0 ?_; try simp only [Act.put, List.setIfInBounds_toArray, List.set_cons_zero, List.set_cons_succ])
    first
      | (refine wpAnyH_take (i := 2) (oi := { dst := some 174, op := _, type := _, pos := _, after := _, guard := _ }) (v := ?vb477) rfl (by kernel_rfl) (by kernel_rfl) (by kernel_rfl) (fun _ _ _ h => h) (Or.inl ⟨by rfl, ?hb477⟩) HT0 ?_; (case hb477 => (intro w hSw; obtain ⟨x0, x1, x2, x3, x4, x5, x6, x7, x8, x9, x10, x11⟩ := KS.out w hSw; clear hSw; go_simp; try with_reducible rfl)); try simp only [Act.put, List.setIfInBounds_toArray, List.set_cons_zero, List.set_cons_succ])
      | (refine wpAnyH_take (i := 2) (oi := { dst := some 174, op := _, type := _, pos := _, after := _, guard := _ }) (v := undef) rfl (by kernel_rfl) (by kernel_rfl) (by kernel_rfl) (fun _ _ _ h => h) (Or.inr ⟨by rfl, rfl⟩) HT0 ?_; try simp only [Act.put, List.setIfInBounds_toArray, List.set_cons_zero, List.set_cons_succ])
    first
      | (refine wpAnyH_take (i := 3) (oi := { dst := some 175, op := _, type := _, pos := _, after := _, guard := _ }) (v := ?vb478) rfl (by kernel_rfl) (by kernel_rfl) (by kernel_rfl) (fun _ _ _ h => h) (Or.inl ⟨by rfl, ?hb478⟩) HT0 ?_; (case hb478 => (intro w hSw; obtain ⟨x0, x1, x2, x3, x4, x5, x6, x7, x8, x9, x10, x11⟩ := KS.out w hSw; clear hSw; go_simp; try with_reducible rfl)); try simp only [Act.put, List.setIfInBounds_toArray, List.set_cons_zero, List.set_cons_succ])
      | (refine wpAnyH_take (i := 3) (oi := { dst := some 175, op := _, type := _, pos := _, after := _, guard := _ }) (v := undef) rfl (by kernel_rfl) (by kernel_rfl) (by kernel_rfl) (fun _ _ _ h => h) (Or.inr ⟨by rfl, rfl⟩) HT0 ?_; try simp only [Act.put, List.setIfInBounds_toArray, List.set_cons_zero, List.set_cons_succ])
    first
      | (refine wpAnyH_take (i := 4) (oi := { dst := some 176, op := _, type := _, pos := _, after := _, guard := _ }) (v := ?vb479) rfl (by kernel_rfl) (by kernel_rfl) (by kernel_rfl) (fun _ _ _ h => h) (Or.inl ⟨by rfl, ?hb479⟩) HT0 ?_; (case hb479 => (intro w hSw; obtain ⟨x0, x1, x2, x3, x4, x5, x6, x7, x8, x9, x10, x11⟩ := KS.out w hSw; clear hSw; go_simp; try with_reducible rfl)); try simp only [Act.put, List.setIfInBounds_toArray, List.set_cons_zero, List.set_cons_succ])
      | (refine wpAnyH_take (i := 4) (oi := { dst := some 176, op := _, type := _, pos := _, after := _, guard := _ }) (v := undef) rfl (by kernel_rfl) (by kernel_rfl) (by kernel_rfl) (fun _ _ _ h => h) (Or.inr ⟨by rfl, rfl⟩) HT0 ?_; try simp only [Act.put, List.setIfInBounds_toArray, List.set_cons_zero, List.set_cons_succ])
    first
      | (refine wpAnyH_take (i := 5) (oi := { dst := some 177, op := _, type := _, pos := _, after := _, guard := _ }) (v := ?vb480) rfl (by kernel_rfl) (by kernel_rfl) (by kernel_rfl) (fun _ _ _ h => h) (Or.inl ⟨by rfl, ?hb480⟩) HT0 ?_; (case hb480 => (intro w hSw; obtain ⟨x0, x1, x2, x3, x4, x5, x6, x7, x8, x9, x10, x11⟩ := KS.out w hSw; clear hSw; go_simp; try with_reducible rfl)); try simp only [Act.put, List.setIfInBounds_toArray, List.set_cons_zero, List.set_cons_succ])
      | (refine wpAnyH_take (i := 5) (oi := { dst := some 177, op := _, type := _, pos := _, after := _, guard := _ }) (v := undef) rfl (by kernel_rfl) (by kernel_rfl) (by kernel_rfl) (fun _ _ _ h => h) (Or.inr ⟨by rfl, rfl⟩) HT0 ?_; try simp only [Act.put, List.setIfInBounds_toArray, List.set_cons_zero, List.set_cons_succ])
    first
      | (refine wpAnyH_take (i := 6) (oi := { dst := some 178, op := _, type := _, pos := _, after := _, guard := _ }) (v := ?vb481) rfl (by kernel_rfl) (by kernel_rfl) (by kernel_rfl) (fun _ _ _ h => h) (Or.inl ⟨by rfl, ?hb481⟩) HT0 ?_; (case hb481 => (intro w hSw; obtain ⟨x0, x1, x2, x3, x4, x5, x6, x7, x8, x9, x10, x11⟩ := KS.out w hSw; clear hSw; go_simp; try with_reducible rfl)); try simp only [Act.put, List.setIfInBounds_toArray, List.set_cons_zero, List.set_cons_succ])
      | (refine wpAnyH_take (i := 6) (oi := { dst := some 178, op := _, type := _, pos := _, after := _, guard := _ }) (v := undef) rfl (by kernel_rfl) (by kernel_rfl) (by kernel_rfl) (fun _ _ _ h => h) (Or.inr ⟨by rfl, rfl⟩) HT0 ?_; try simp only [Act.put, List.setIfInBounds_toArray, List.set_cons_zero, List.set_cons_succ])
    first
      | (refine wpAnyH_take (i := 7) (oi := { dst := some 179, op := _, type := _, pos := _, after := _, guard := _ }) (v := ?vb482) rfl (by kernel_rfl) (by kernel_rfl) (by kernel_rfl) (fun _ _ _ h => h) (Or.inl ⟨by rfl, ?hb482⟩) HT0 ?_; (case hb482 => (intro w hSw; obtain ⟨x0, x1, x2, x3, x4, x5, x6, x7, x8, x9, x10, x11⟩ := KS.out w hSw; clear hSw; go_simp; try with_reducible rfl)); try simp only [Act.put, List.setIfInBounds_toArray, List.set_cons_zero, List.set_cons_succ])
      | (refine wpAnyH_take (i := 7) (oi := { dst := some 179, op := _, type := _, pos := _, after := _, guard := _ }) (v := undef) rfl (by kernel_rfl) (by kernel_rfl) (by kernel_rfl) (fun _ _ _ h => h) (Or.inr ⟨by rfl, rfl⟩) HT0 ?_; try simp only [Act.put, List.setIfInBounds_toArray, List.set_cons_zero, List.set_cons_succ])
    first
      | (refine wpAnyH_take (i := 8) (oi := { dst := some 180, op := _, type := _, pos := _, after := _, guard := _ }) (v := ?vb483) rfl (by kernel_rfl) (by kernel_rfl) (by kernel_rfl) (fun _ _ _ h => h) (Or.inl ⟨by rfl, ?hb483⟩) HT0 ?_; (case hb483 => (intro w hSw; obtain ⟨x0, x1, x2, x3, x4, x5, x6, x7, x8, x9, x10, x11⟩ := KS.out w hSw; clear hSw; go_simp; try with_reducible rfl)); try simp only [Act.put, List.setIfInBounds_toArray, List.set_cons_zero, List.set_cons_succ])
      | (refine wpAnyH_take (i := 8) (oi := { dst := some 180, op := _, type := _, pos := _, after := _, guard := _ }) (v := undef) rfl (by kernel_rfl) (by kernel_rfl) (by kernel_rfl) (fun _ _ _ h => h) (Or.inr ⟨by rfl, rfl⟩) HT0 ?_; try simp only [Act.put, List.setIfInBounds_toArray, List.set_cons_zero, List.set_cons_succ])
    first
      | (refine wpAnyH_take (i := 9) (oi := { dst := some 181, op := _, type := _, pos := _, after := _, guard := _ }) (v := ?vb484) rfl (by kernel_rfl) (by kernel_rfl) (by kernel_rfl) (fun _ _ _ h => h) (Or.inl ⟨by rfl, ?hb484⟩) HT0 ?_; (case hb484 => (intro w hSw; obtain ⟨x0, x1, x2, x3, x4, x5, x6, x7, x8, x9, x10, x11⟩ := KS.out w hSw; clear hSw; go_simp; try with_reducible rfl)); try simp only [Act.put, List.setIfInBounds_toArray, List.set_cons_zero, List.set_cons_succ])
      | (refine wpAnyH_take (i := 9) (oi := { dst := some 181, op := _, type := _, pos := _, after := _, guard := _ }) (v := undef) rfl (by kernel_rfl) (by kernel_rfl) (by kernel_rfl) (fun _ _ _ h => h) (Or.inr ⟨by rfl, rfl⟩) HT0 ?_; try simp only [Act.put, List.setIfInBounds_toArray, List.set_cons_zero, List.set_cons_succ])
    first
      | (refine wpAnyH_take (i := 10) (oi := { dst := some 182, op := _, type := _, pos := _, after := _, guard := _ }) (v := ?vb485) rfl (by kernel_rfl) (by kernel_rfl) (by kernel_rfl) (fun _ _ _ h => h) (Or.inl ⟨by rfl, ?hb485⟩) HT0 ?_; (case hb485 => (intro w hSw; obtain ⟨x0, x1, x2, x3, x4, x5, x6, x7, x8, x9, x10, x11⟩ := KS.out w hSw; clear hSw; go_simp; try with_reducible rfl)); try simp only [Act.put, List.setIfInBounds_toArray, List.set_cons_zero, List.set_cons_succ])
      | (refine wpAnyH_take (i := 10) (oi := { dst := some 182, op := _, type := _, pos := _, after := _, guard := _ }) (v := undef) rfl (by kernel_rfl) (by kernel_rfl) (by kernel_rfl) (fun _ _ _ h => h) (Or.inr ⟨by rfl, rfl⟩) HT0 ?_; try simp only [Act.put, List.setIfInBounds_toArray, List.set_cons_zero, List.set_cons_succ])
    first
      | (refine wpAnyH_take (i := 11) (oi := { dst := some 183, op := _, type := _, pos := _, after := _, guard := _ }) (v := ?vb486) rfl (by kernel_rfl) (by kernel_rfl) (by kernel_rfl) (fun _ _ _ h => h) (Or.inl ⟨by rfl, ?hb486⟩) HT0 ?_; (case hb486 => (intro w hSw; obtain ⟨x0, x1, x2, x3, x4, x5, x6, x7, x8, x9, x10, x11⟩ := KS.out w hSw; clear hSw; go_simp; try with_reducible rfl)); try simp only [Act.put, List.setIfInBounds_toArray, List.set_cons_zero, List.set_cons_succ])
      | (refine wpAnyH_take (i := 11) (oi := { dst := some 183, op := _, type := _, pos := _, after := _, guard := _ }) (v := undef) rfl (by kernel_rfl) (by kernel_rfl) (by kernel_rfl) (fun _ _ _ h => h) (Or.inr ⟨by rfl, rfl⟩) HT0 ?_; try simp only [Act.put, List.setIfInBounds_toArray, List.set_cons_zero, List.set_cons_succ])
    first
      | (refine wpAnyH_take (i := 12) (oi := { dst := some 184, op := _, type := _, pos := _, after := _, guard := _ }) (v := ?vb487) rfl (by kernel_rfl) (by kernel_rfl) (by kernel_rfl) (fun _ _ _ h => h) (Or.inl ⟨by rfl, ?hb487⟩) HT0 ?_; (case hb487 => (intro w hSw; obtain ⟨x0, x1, x2, x3, x4, x5, x6, x7, x8, x9, x10, x11⟩ := KS.out w hSw; clear hSw; go_simp; try with_reducible rfl)); try simp only [Act.put, List.setIfInBounds_toArray, List.set_cons_zero, List.set_cons_succ])
      | (refine wpAnyH_take (i := 12) (oi := { dst := some 184, op := _, type := _, pos := _, after := _, guard := _ }) (v := undef) rfl (by kernel_rfl) (by kernel_rfl) (by kernel_rfl) (fun _ _ _ h => h) (Or.inr ⟨by rfl, rfl⟩) HT0 ?_; try simp only [Act.put, List.setIfInBounds_toArray, List.set_cons_zero, List.set_cons_succ])
    first
      | (refine wpAnyH_take (i := 13) (oi := { dst := some 185, op := _, type := _, pos := _, after := _, guard := _ }) (v := ?vb488) rfl (by kernel_rfl) (by kernel_rfl) (by kernel_rfl) (fun _ _ _ h => h) (Or.inl ⟨by rfl, ?hb488⟩) HT0 ?_; (case hb488 => (intro w hSw; obtain ⟨x0, x1, x2, x3, x4, x5, x6, x7, x8, x9, x10, x11⟩ := KS.out w hSw; clear hSw; go_simp; try with_reducible rfl)); try simp only [Act.put, List.setIfInBounds_toArray, List.set_cons_zero, List.set_cons_succ])
      | (refine wpAnyH_take (i := 13) (oi := { dst := some 185, op := _, type := _, pos := _, after := _, guard := _ }) (v := undef) rfl (by kernel_rfl) (by kernel_rfl) (by kernel_rfl) (fun _ _ _ h => h) (Or.inr ⟨by rfl, rfl⟩) HT0 ?_; try simp only [Act.put, List.setIfInBounds_toArray, List.set_cons_zero, List.set_cons_succ])
    first
      | (refine wpAnyH_take (i := 14) (oi := { dst := some 186, op := _, type := _, pos := _, after := _, guard := _ }) (v := ?vb489) rfl (by kernel_rfl) (by kernel_rfl) (by kernel_rfl) (fun _ _ _ h => h) (Or.inl ⟨by rfl, ?hb489⟩) HT0 ?_; (case hb489 => (intro w hSw; obtain ⟨x0, x1, x2, x3, x4, x5, x6, x7, x8, x9, x10, x11⟩ := KS.out w hSw; clear hSw; go_simp; try with_reducible rfl)); try simp only [Act.put, List.setIfInBounds_toArray, List.set_cons_zero, List.set_cons_succ])
      | (refine wpAnyH_take (i := 14) (oi := { dst := some 186, op := _, type := _, pos := _, after := _, guard := _ }) (v := undef) rfl (by kernel_rfl) (by kernel_rfl) (by kernel_rfl) (fun _ _ _ h => h) (Or.inr ⟨by rfl, rfl⟩) HT0 ?_; try simp only [Act.put, List.setIfInBounds_toArray, List.set_cons_zero, List.set_cons_succ])
    first
      | (refine wpAnyH_take (i := 15) (oi := { dst := some 187, op := _, type := _, pos := _, after := _, guard := _ }) (v := ?vb490) rfl (by kernel_rfl) (by kernel_rfl) (by kernel_rfl) (fun _ _ _ h => h) (Or.inl ⟨by rfl, ?hb490⟩) HT0 ?_; (case hb490 => (intro w hSw; obtain ⟨x0, x1, x2, x3, x4, x5, x6, x7, x8, x9, x10, x11⟩ := KS.out w hSw; clear hSw; go_simp; try with_reducible rfl)); try simp only [Act.put, List.setIfInBounds_toArray, List.set_cons_zero, List.set_cons_succ])
      | (refine wpAnyH_take (i := 15) (oi := { dst := some 187, op := _, type := _, pos := _, after := _, guard := _ }) (v := undef) rfl (by kernel_rfl) (by kernel_rfl) (by kernel_rfl) (fun _ _ _ h => h) (Or.inr ⟨by rfl, rfl⟩) HT0 ?_; try simp only [Act.put, List.setIfInBounds_toArray, List.set_cons_zero, List.set_cons_succ])
    first
      | (refine wpAnyH_take (i := 16) (oi := { dst := some 188, op := _, type := _, pos := _, after := _, guard := _ }) (v := ?vb491) rfl (by kernel_rfl) (by kernel_rfl) (by kernel_rfl) (fun _ _ _ h => h) (Or.inl ⟨by rfl, ?hb491⟩) HT0 ?_; (case hb491 => (intro w hSw; obtain ⟨x0, x1, x2, x3, x4, x5, x6, x7, x8, x9, x10, x11⟩ := KS.out w hSw; clear hSw; go_simp; try with_reducible rfl)); try simp only [Act.put, List.setIfInBounds_toArray, List.set_cons_zero, List.set_cons_succ])
      | (refine wpAnyH_take (i := 16) (oi := { dst := some 188, op := _, type := _, pos := _, after := _, guard := _ }) (v := undef) rfl (by kernel_rfl) (by kernel_rfl) (by kernel_rfl) (fun _ _ _ h => h) (Or.inr ⟨by rfl, rfl⟩) HT0 ?_; try simp only [Act.put, List.setIfInBounds_toArray, List.set_cons_zero, List.set_cons_succ])
    first
      | (refine wpAnyH_take (i := 17) (oi := { dst := some 189, op := _, type := _, pos := _, after := _, guard := _ }) (v := ?vb492) rfl (by kernel_rfl) (by kernel_rfl) (by kernel_rfl) (fun _ _ _ h => h) (Or.inl ⟨by rfl, ?hb492⟩) HT0 ?_; (case hb492 => (intro w hSw; obtain ⟨x0, x1, x2, x3, x4, x5, x6, x7, x8, x9, x10, x11⟩ := KS.out w hSw; clear hSw; go_simp; try with_reducible rfl)); try simp only [Act.put, List.setIfInBounds_toArray, List.set_cons_zero, List.set_cons_succ])
      | (refine wpAnyH_take (i := 17) (oi := { dst := some 189, op := _, type := _, pos := _, after := _, guard := _ }) (v := undef) rfl (by kernel_rfl) (by kernel_rfl) (by kernel_rfl) (fun _ _ _ h => h) (Or.inr ⟨by rfl, rfl⟩) HT0 ?_; try simp only [Act.put, List.setIfInBounds_toArray, List.set_cons_zero, List.set_cons_succ])
    first
      | (refine wpAnyH_take (i := 18) (oi := { dst := some 190, op := _, type := _, pos := _, after := _, guard := _ }) (v := ?vb493) rfl (by kernel_rfl) (by kernel_rfl) (by kernel_rfl) (fun _ _ _ h => h) (Or.inl ⟨by rfl, ?hb493⟩) HT0 ?_; (case hb493 => (intro w hSw; obtain ⟨x0, x1, x2, x3, x4, x5, x6, x7, x8, x9, x10, x11⟩ := KS.out w hSw; clear hSw; go_simp; try with_reducible rfl)); try simp only [Act.put, List.setIfInBounds_toArray, List.set_cons_zero, List.set_cons_succ])
      | (refine wpAnyH_take (i := 18) (oi := { dst := some 190, op := _, type := _, pos := _, after := _, guard := _ }) (v := undef) rfl (by kernel_rfl) (by kernel_rfl) (by kernel_rfl) (fun _ _ _ h => h) (Or.inr ⟨by rfl, rfl⟩) HT0 ?_; try simp only [Act.put, List.setIfInBounds_toArray, List.set_cons_zero, List.set_cons_succ])
    first
      | (refine wpAnyH_take (i := 19) (oi := { dst := some 191, op := _, type := _, pos := _, after := _, guard := _ }) (v := ?vb494) rfl (by kernel_rfl) (by kernel_rfl) (by kernel_rfl) (fun _ _ _ h => h) (Or.inl ⟨by rfl, ?hb494⟩) HT0 ?_; (case hb494 => (intro w hSw; obtain ⟨x0, x1, x2, x3, x4, x5, x6, x7, x8, x9, x10, x11⟩ := KS.out w hSw; clear hSw; go_simp; try with_reducible rfl)); try simp only [Act.put, List.setIfInBounds_toArray, List.set_cons_zero, List.set_cons_succ])
      | (refine wpAnyH_take (i := 19) (oi := { dst := some 191, op := _, type := _, pos := _, after := _, guard := _ }) (v := undef) rfl (by kernel_rfl) (by kernel_rfl) (by kernel_rfl) (fun _ _ _ h => h) (Or.inr ⟨by rfl, rfl⟩) HT0 ?_; try simp only [Act.put, List.setIfInBounds_toArray, List.set_cons_zero, List.set_cons_succ])
    first
      | (refine wpAnyH_take (i := 20) (oi := { dst := some 192, op := _, type := _, pos := _, after := _, guard := _ }) (v := ?vb495) rfl (by kernel_rfl) (by kernel_rfl) (by kernel_rfl) (fun _ _ _ h => h) (Or.inl ⟨by rfl, ?hb495⟩) HT0 ?_; (case hb495 => (intro w hSw; obtain ⟨x0, x1, x2, x3, x4, x5, x6, x7, x8, x9, x10, x11⟩ := KS.out w hSw; clear hSw; go_simp; try with_reducible rfl)); try simp only [Act.put, List.setIfInBounds_toArray, List.set_cons_zero, List.set_cons_succ])
      | (refine wpAnyH_take (i := 20) (oi := { dst := some 192, op := _, type := _, pos := _, after := _, guard := _ }) (v := undef) rfl (by kernel_rfl) (by kernel_rfl) (by kernel_rfl) (fun _ _ _ h => h) (Or.inr ⟨by rfl, rfl⟩) HT0 ?_; try simp only [Act.put, List.setIfInBounds_toArray, List.set_cons_zero, List.set_cons_succ])
    first
      | (refine wpAnyH_take (i := 21) (oi := { dst := some 193, op := _, type := _, pos := _, after := _, guard := _ }) (v := ?vb496) rfl (by kernel_rfl) (by kernel_rfl) (by kernel_rfl) (fun _ _ _ h => h) (Or.inl ⟨by rfl, ?hb496⟩) HT0 ?_; (case hb496 => (intro w hSw; obtain ⟨x0, x1, x2, x3, x4, x5, x6, x7, x8, x9, x10, x11⟩ := KS.out w hSw; clear hSw; go_simp; try with_reducible rfl)); try simp only [Act.put, List.setIfInBounds_toArray, List.set_cons_zero, List.set_cons_succ])
      | (refine wpAnyH_take (i := 21) (oi := { dst := some 193, op := _, type := _, pos := _, after := _, guard := _ }) (v := undef) rfl (by kernel_rfl) (by kernel_rfl) (by kernel_rfl) (fun _ _ _ h => h) (Or.inr ⟨by rfl, rfl⟩) HT0 ?_; try simp only [Act.put, List.setIfInBounds_toArray, List.set_cons_zero, List.set_cons_succ])
    first
      | (refine wpAnyH_take (i := 22) (oi := { dst := some 194, op := _, type := _, pos := _, after := _, guard := _ }) (v := ?vb497) rfl (by kernel_rfl) (by kernel_rfl) (by kernel_rfl) (fun _ _ _ h => h) (Or.inl ⟨by rfl, ?hb497⟩) HT0 ?_; (case hb497 => (intro w hSw; obtain ⟨x0, x1, x2, x3, x4, x5, x6, x7, x8, x9, x10, x11⟩ := KS.out w hSw; clear hSw; go_simp; try with_reducible rfl)); try simp only [Act.put, List.setIfInBounds_toArray, List.set_cons_zero, List.set_cons_succ])
      | (refine wpAnyH_take (i := 22) (oi := { dst := some 194, op := _, type := _, pos := _, after := _, guard := _ }) (v := undef) rfl (by kernel_rfl) (by kernel_rfl) (by kernel_rfl) (fun _ _ _ h => h) (Or.inr ⟨by rfl, rfl⟩) HT0 ?_; try simp only [Act.put, List.setIfInBounds_toArray, List.set_cons_zero, List.set_cons_succ])
    first
      | (refine wpAnyH_take (i := 23) (oi := { dst := some 195, op := _, type := _, pos := _, after := _, guard := _ }) (v := ?vb498) rfl (by kernel_rfl) (by kernel_rfl) (by kernel_rfl) (fun _ _ _ h => h) (Or.inl ⟨by rfl, ?hb498⟩) HT0 ?_; (case hb498 => (intro w hSw; obtain ⟨x0, x1, x2, x3, x4, x5, x6, x7, x8, x9, x10, x11⟩ := KS.out w hSw; clear hSw; go_simp; try with_reducible rfl)); try simp only [Act.put, List.setIfInBounds_toArray, List.set_cons_zero, List.set_cons_succ])
      | (refine wpAnyH_take (i := 23) (oi := { dst := some 195, op := _, type := _, pos := _, after := _, guard := _ }) (v := undef) rfl (by kernel_rfl) (by kernel_rfl) (by kernel_rfl) (fun _ _ _ h => h) (Or.inr ⟨by rfl, rfl⟩) HT0 ?_; try simp only [Act.put, List.setIfInBounds_toArray, List.set_cons_zero, List.set_cons_succ])
    first
      | (refine wpAnyH_take (i := 24) (oi := { dst := some 196, op := _, type := _, pos := _, after := _, guard := _ }) (v := ?vb499) rfl (by kernel_rfl) (by kernel_rfl) (by kernel_rfl) (fun _ _ _ h => h) (Or.inl ⟨by rfl, ?hb499⟩) HT0 ?_; (case hb499 => (intro w hSw; obtain ⟨x0, x1, x2, x3, x4, x5, x6, x7, x8, x9, x10, x11⟩ := KS.out w hSw; clear hSw; go_simp; try with_reducible rfl)); try simp only [Act.put, List.setIfInBounds_toArray, List.set_cons_zero, List.set_cons_succ])
      | (refine wpAnyH_take (i := 24) (oi := { dst := some 196, op := _, type := _, pos := _, after := _, guard := _ }) (v := undef) rfl (by kernel_rfl) (by kernel_rfl) (by kernel_rfl) (fun _ _ _ h => h) (Or.inr ⟨by rfl, rfl⟩) HT0 ?_; try simp only [Act.put, List.setIfInBounds_toArray, List.set_cons_zero, List.set_cons_succ])
    first
      | (refine wpAnyH_take (i := 25) (oi := { dst := some 197, op := _, type := _, pos := _, after := _, guard := _ }) (v := ?vb500) rfl (by kernel_rfl) (by kernel_rfl) (by kernel_rfl) (fun _ _ _ h => h) (Or.inl ⟨by rfl, ?hb500⟩) HT0 ?_; (case hb500 => (intro w hSw; obtain ⟨x0, x1, x2, x3, x4, x5, x6, x7, x8, x9, x10, x11⟩ := KS.out w hSw; clear hSw; go_simp; try with_reducible rfl)); try simp only [Act.put, List.setIfInBounds_toArray, List.set_cons_zero, List.set_cons_succ])
      | (refine wpAnyH_take (i := 25) (oi := { dst := some 197, op := _, type := _, pos := _, after := _, guard := _ }) (v := undef) rfl (by kernel_rfl) (by kernel_rfl) (by kernel_rfl) (fun _ _ _ h => h) (Or.inr ⟨by rfl, rfl⟩) HT0 ?_; try simp only [Act.put, List.setIfInBounds_toArray, List.set_cons_zero, List.set_cons_succ])
    first
      | (refine wpAnyH_take (i := 26) (oi := { dst := some 198, op := _, type := _, pos := _, after := _, guard := _ }) (v := ?vb501) rfl (by kernel_rfl) (by kernel_rfl) (by kernel_rfl) (fun _ _ _ h => h) (Or.inl ⟨by rfl, ?hb501⟩) HT0 ?_; (case hb501 => (intro w hSw; obtain ⟨x0, x1, x2, x3, x4, x5, x6, x7, x8, x9, x10, x11⟩ := KS.out w hSw; clear hSw; go_simp; try with_reducible rfl)); try simp only [Act.put, List.setIfInBounds_toArray, List.set_cons_zero, List.set_cons_succ])
      | (refine wpAnyH_take (i := 26) (oi := { dst := some 198, op := _, type := _, pos := _, after := _, guard := _ }) (v := undef) rfl (by kernel_rfl) (by kernel_rfl) (by kernel_rfl) (fun _ _ _ h => h) (Or.inr ⟨by rfl, rfl⟩) HT0 ?_; try simp only [Act.put, List.setIfInBounds_toArray, List.set_cons_zero, List.set_cons_succ])
    first
      | (refine wpAnyH_take (i := 27) (oi := { dst := some 199, op := _, type := _, pos := _, after := _, guard := _ }) (v := ?vb502) rfl (by kernel_rfl) (by kernel_rfl) (by kernel_rfl) (fun _ _ _ h => h) (Or.inl ⟨by rfl, ?hb502⟩) HT0 ?_; (case hb502 => (intro w hSw; obtain ⟨x0, x1, x2, x3, x4, x5, x6, x7, x8, x9, x10, x11⟩ := KS.out w hSw; clear hSw; go_simp; try with_reducible rfl)); try simp only [Act.put, List.setIfInBounds_toArray, List.set_cons_zero, List.set_cons_succ])
      | (refine wpAnyH_take (i := 27) (oi := { dst := some 199, op := _, type := _, pos := _, after := _, guard := _ }) (v := undef) rfl (by kernel_rfl) (by kernel_rfl) (by kernel_rfl) (fun _ _ _ h => h) (Or.inr ⟨by rfl, rfl⟩) HT0 ?_; try simp only [Act.put, List.setIfInBounds_toArray, List.set_cons_zero, List.set_cons_succ])
    first
      | (refine wpAnyH_take (i := 28) (oi := { dst := some 200, op := _, type := _, pos := _, after := _, guard := _ }) (v := ?vb503) rfl (by kernel_rfl) (by kernel_rfl) (by kernel_rfl) (fun _ _ _ h => h) (Or.inl ⟨by rfl, ?hb503⟩) HT0 ?_; (case hb503 => (intro w hSw; obtain ⟨x0, x1, x2, x3, x4, x5, x6, x7, x8, x9, x10, x11⟩ := KS.out w hSw; clear hSw; go_simp; try with_reducible rfl)); try simp only [Act.put, List.setIfInBounds_toArray, List.set_cons_zero, List.set_cons_succ])
      | (refine wpAnyH_take (i := 28) (oi := { dst := some 200, op := _, type := _, pos := _, after := _, guard := _ }) (v := undef) rfl (by kernel_rfl) (by kernel_rfl) (by kernel_rfl) (fun _ _ _ h => h) (Or.inr ⟨by rfl, rfl⟩) HT0 ?_; try simp only [Act.put, List.setIfInBounds_toArray, List.set_cons_zero, List.set_cons_succ])
    first
      | (refine wpAnyH_take (i := 29) (oi := { dst := some 201, op := _, type := _, pos := _, after := _, guard := _ }) (v := ?vb504) rfl (by kernel_rfl) (by kernel_rfl) (by kernel_rfl) (fun _ _ _ h => h) (Or.inl ⟨by rfl, ?hb504⟩) HT0 ?_; (case hb504 => (intro w hSw; obtain ⟨x0, x1, x2, x3, x4, x5, x6, x7, x8, x9, x10, x11⟩ := KS.out w hSw; clear hSw; go_simp; try with_reducible rfl)); try simp only [Act.put, List.setIfInBounds_toArray, List.set_cons_zero, List.set_cons_succ])
      | (refine wpAnyH_take (i := 29) (oi := { dst := some 201, op := _, type := _, pos := _, after := _, guard := _ }) (v := undef) rfl (by kernel_rfl) (by kernel_rfl) (by kernel_rfl) (fun _ _ _ h => h) (Or.inr ⟨by rfl, rfl⟩) HT0 ?_; try simp only [Act.put, List.setIfInBounds_toArray, List.set_cons_zero, List.set_cons_succ])
    first
      | (refine wpAnyH_take (i := 30) (oi := { dst := some 202, op := _, type := _, pos := _, after := _, guard := _ }) (v := ?vb505) rfl (by kernel_rfl) (by kernel_rfl) (by kernel_rfl) (fun _ _ _ h => h) (Or.inl ⟨by rfl, ?hb505⟩) HT0 ?_; (case hb505 => (intro w hSw; obtain ⟨x0, x1, x2, x3, x4, x5, x6, x7, x8, x9, x10, x11⟩ := KS.out w hSw; clear hSw; go_simp; try with_reducible rfl)); try simp only [Act.put, List.setIfInBounds_toArray, List.set_cons_zero, List.set_cons_succ])
      | (refine wpAnyH_take (i := 30) (oi := { dst := some 202, op := _, type := _, pos := _, after := _, guard := _ }) (v := undef) rfl (by kernel_rfl) (by kernel_rfl) (by kernel_rfl) (fun _ _ _ h => h) (Or.inr ⟨by rfl, rfl⟩) HT0 ?_; try simp only [Act.put, List.setIfInBounds_toArray, List.set_cons_zero, List.set_cons_succ])
    first
      | (refine wpAnyH_take (i := 31) (oi := { dst := some 203, op := _, type := _, pos := _, after := _, guard := _ }) (v := ?vb506) rfl (by kernel_rfl) (by kernel_rfl) (by kernel_rfl) (fun _ _ _ h => h) (Or.inl ⟨by rfl, ?hb506⟩) HT0 ?_; (case hb506 => (intro w hSw; obtain ⟨x0, x1, x2, x3, x4, x5, x6, x7, x8, x9, x10, x11⟩ := KS.out w hSw; clear hSw; go_simp; try with_reducible rfl)); try simp only [Act.put, List.setIfInBounds_toArray, List.set_cons_zero, List.set_cons_succ])
      | (refine wpAnyH_take (i := 31) (oi := { dst := some 203, op := _, type := _, pos := _, after := _, guard := _ }) (v := undef) rfl (by kernel_rfl) (by kernel_rfl) (by kernel_rfl) (fun _ _ _ h => h) (Or.inr ⟨by rfl, rfl⟩) HT0 ?_; try simp only [Act.put, List.setIfInBounds_toArray, List.set_cons_zero, List.set_cons_succ])
    first
      | (refine wpAnyH_take (i := 32) (oi := { dst := some 204, op := _, type := _, pos := _, after := _, guard := _ }) (v := ?vb507) rfl (by kernel_rfl) (by kernel_rfl) (by kernel_rfl) (fun _ _ _ h => h) (Or.inl ⟨by rfl, ?hb507⟩) HT0 ?_; (case hb507 => (intro w hSw; obtain ⟨x0, x1, x2, x3, x4, x5, x6, x7, x8, x9, x10, x11⟩ := KS.out w hSw; clear hSw; go_simp; try with_reducible rfl)); try simp only [Act.put, List.setIfInBounds_toArray, List.set_cons_zero, List.set_cons_succ])
      | (refine wpAnyH_take (i := 32) (oi := { dst := some 204, op := _, type := _, pos := _, after := _, guard := _ }) (v := undef) rfl (by kernel_rfl) (by kernel_rfl) (by kernel_rfl) (fun _ _ _ h => h) (Or.inr ⟨by rfl, rfl⟩) HT0 ?_; try simp only [Act.put, List.setIfInBounds_toArray, List.set_cons_zero, List.set_cons_succ])
    first
      | (refine wpAnyH_take (i := 33) (oi := { dst := some 205, op := _, type := _, pos := _, after := _, guard := _ }) (v := ?vb508) rfl (by kernel_rfl) (by kernel_rfl) (by kernel_rfl) (fun _ _ _ h => h) (Or.inl ⟨by rfl, ?hb508⟩) HT0 ?_; (case hb508 => (intro w hSw; obtain ⟨x0, x1, x2, x3, x4, x5, x6, x7, x8, x9, x10, x11⟩ := KS.out w hSw; clear hSw; go_simp; try with_reducible rfl)); try simp only [Act.put, List.setIfInBounds_toArray, List.set_cons_zero, List.set_cons_succ])
      | (refine wpAnyH_take (i := 33) (oi := { dst := some 205, op := _, type := _, pos := _, after := _, guard := _ }) (v := undef) rfl (by kernel_rfl) (by kernel_rfl) (by kernel_rfl) (fun _ _ _ h => h) (Or.inr ⟨by rfl, rfl⟩) HT0 ?_; try simp only [Act.put, List.setIfInBounds_toArray, List.set_cons_zero, List.set_cons_succ])
    first
      | (refine wpAnyH_take (i := 34) (oi := { dst := some 206, op := _, type := _, pos := _, after := _, guard := _ }) (v := ?vb509) rfl (by kernel_rfl) (by kernel_rfl) (by kernel_rfl) (fun _ _ _ h => h) (Or.inl ⟨by rfl, ?hb509⟩) HT0 ?_; (case hb509 => (intro w hSw; obtain ⟨x0, x1, x2, x3, x4, x5, x6, x7, x8, x9, x10, x11⟩ := KS.out w hSw; clear hSw; go_simp; try with_reducible rfl)); try simp only [Act.put, List.setIfInBounds_toArray, List.set_cons_zero, List.set_cons_succ])
      | (refine wpAnyH_take (i := 34) (oi := { dst := some 206, op := _, type := _, pos := _, after := _, guard := _ }) (v := undef) rfl (by kernel_rfl) (by kernel_rfl) (by kernel_rfl) (fun _ _ _ h => h) (Or.inr ⟨by rfl, rfl⟩) HT0 ?_; try simp only [Act.put, List.setIfInBounds_toArray, List.set_cons_zero, List.set_cons_succ])
    first
      | (refine wpAnyH_take (i := 37) (oi := { dst := some 209, op := _, type := _, pos := _, after := _, guard := _ }) (v := ?vb510) rfl (by kernel_rfl) (by kernel_rfl) (by kernel_rfl) (fun _ _ _ h => h) (Or.inl ⟨by rfl, ?hb510⟩) HT0 ?_; (case hb510 => (intro w hSw; obtain ⟨x0, x1, x2, x3, x4, x5, x6, x7, x8, x9, x10, x11⟩ := KS.out w hSw; clear hSw; go_simp; try with_reducible rfl)); try simp only [Act.put, List.setIfInBounds_toArray, List.set_cons_zero, List.set_cons_succ])
      | (refine wpAnyH_take (i := 37) (oi := { dst := some 209, op := _, type := _, pos := _, after := _, guard := _ }) (v := undef) rfl (by kernel_rfl) (by kernel_rfl) (by kernel_rfl) (fun _ _ _ h => h) (Or.inr ⟨by rfl, rfl⟩) HT0 ?_; try simp only [Act.put, List.setIfInBounds_toArray, List.set_cons_zero, List.set_cons_succ])
    refine wpAnyH_ready (rs := [35]) (by kernel_rfl) (by simp) ?_
    refine AllReadyH.cons (o := { dst := some 207, op := _, type := _, pos := _, after := _, guard := _ }) rfl (fun K hK => ?_) AllReadyH.nil
    go_simp
    (go_at_call 11; (with_reducible refine (HR1.out _ (S8.step HT0)).mono ?_); rintro e wk1 ⟨AR1, cR1, rfl, hk1⟩)
    have HT1 := bstep HT0 hk1
    refine hK.out _ _ HT1 (fun _ => ?_)
    clear hK K
    try simp only [Act.put, List.setIfInBounds_toArray, List.set_cons_zero, List.set_cons_succ]
    first
      | (refine wpAnyH_take (i := 36) (oi := { dst := some 208, op := _, type := _, pos := _, after := _, guard := _ }) (v := ?vb511) rfl (by kernel_rfl) (by kernel_rfl) (by kernel_rfl) (fun _ _ _ h => h) (Or.inl ⟨by rfl, ?hb511⟩) HT1 ?_; (case hb511 => (intro w hSw; obtain ⟨x0, x1, x2, x3, x4, x5, x6, x7, x8, x9, x10, x11⟩ := KS.out w hSw; clear hSw; go_simp; try with_reducible rfl)); try simp only [Act.put, List.setIfInBounds_toArray, List.set_cons_zero, List.set_cons_succ])
      | (refine wpAnyH_take (i := 36) (oi := { dst := some 208, op := _, type := _, pos := _, after := _, guard := _ }) (v := undef) rfl (by kernel_rfl) (by kernel_rfl) (by kernel_rfl) (fun _ _ _ h => h) (Or.inr ⟨by rfl, rfl⟩) HT1 ?_; try simp only [Act.put, List.setIfInBounds_toArray, List.set_cons_zero, List.set_cons_succ])
    refine wpAnyH_ready (rs := [38]) (by kernel_rfl) (by simp) ?_
    refine AllReadyH.cons (o := { dst := some 210, op := _, type := _, pos := _, after := _, guard := _ }) rfl (fun K hK => ?_) AllReadyH.nil
    go_simp
    (go_at_call 21; (with_reducible refine (HR2.out _ (S0.step HT1)).mono ?_); rintro e wk2 ⟨AR2, cR2, rfl, hk2⟩)
    have HT2 := bstep HT1 hk2
    refine hK.out _ _ HT2 (fun _ => ?_)
    clear hK K
    try simp only [Act.put, List.setIfInBounds_toArray, List.set_cons_zero, List.set_cons_succ]
    first
      | (refine wpAnyH_take (i := 39) (oi := { dst := some 211, op := _, type := _, pos := _, after := _, guard := _ }) (v := ?vb512) rfl (by kernel_rfl) (by kernel_rfl) (by kernel_rfl) (fun _ _ _ h => h) (Or.inl ⟨by rfl, ?hb512⟩) HT2 ?_; (case hb512 => (intro w hSw; obtain ⟨x0, x1, x2, x3, x4, x5, x6, x7, x8, x9, x10, x11⟩ := KS.out w hSw; clear hSw; go_simp; try with_reducible rfl)); try simp only [Act.put, List.setIfInBounds_toArray, List.set_cons_zero, List.set_cons_succ])
      | (refine wpAnyH_take (i := 39) (oi := { dst := some 211, op := _, type := _, pos := _, after := _, guard := _ }) (v := undef) rfl (by kernel_rfl) (by kernel_rfl) (by kernel_rfl) (fun _ _ _ h => h) (Or.inr ⟨by rfl, rfl⟩) HT2 ?_; try simp only [Act.put, List.setIfInBounds_toArray, List.set_cons_zero, List.set_cons_succ])
    first
      | (refine wpAnyH_take (i := 40) (oi := { dst := some 212, op := _, type := _, pos := _, after := _, guard := _ }) (v := ?vb513) rfl (by kernel_rfl) (by kernel_rfl) (by kernel_rfl) (fun _ _ _ h => h) (Or.inl ⟨by rfl, ?hb513⟩) HT2 ?_; (case hb513 => (intro w hSw; obtain ⟨x0, x1, x2, x3, x4, x5, x6, x7, x8, x9, x10, x11⟩ := KS.out w hSw; clear hSw; go_simp; try with_reducible rfl)); try simp only [Act.put, List.setIfInBounds_toArray, List.set_cons_zero, List.set_cons_succ])
      | (refine wpAnyH_take (i := 40) (oi := { dst := some 212, op := _, type := _, pos := _, after := _, guard := _ }) (v := undef) rfl (by kernel_rfl) (by kernel_rfl) (by kernel_rfl) (fun _ _ _ h => h) (Or.inr ⟨by rfl, rfl⟩) HT2 ?_; try simp only [Act.put, List.setIfInBounds_toArray, List.set_cons_zero, List.set_cons_succ])
    first
      | (refine wpAnyH_take (i := 41) (oi := { dst := some 213, op := _, type := _, pos := _, after := _, guard := _ }) (v := ?vb514) rfl (by kernel_rfl) (by kernel_rfl) (by kernel_rfl) (fun _ _ _ h => h) (Or.inl ⟨by rfl, ?hb514⟩) HT2 ?_; (case hb514 => (intro w hSw; obtain ⟨x0, x1, x2, x3, x4, x5, x6, x7, x8, x9, x10, x11⟩ := KS.out w hSw; clear hSw; go_simp; try with_reducible rfl)); try simp only [Act.put, List.setIfInBounds_toArray, List.set_cons_zero, List.set_cons_succ])
      | (refine wpAnyH_take (i := 41) (oi := { dst := some 213, op := _, type := _, pos := _, after := _, guard := _ }) (v := undef) rfl (by kernel_rfl) (by kernel_rfl) (by kernel_rfl) (fun _ _ _ h => h) (Or.inr ⟨by rfl, rfl⟩) HT2 ?_; try simp only [Act.put, List.setIfInBounds_toArray, List.set_cons_zero, List.set_cons_succ])
    first
      | (refine wpAnyH_take (i := 42) (oi := { dst := some 214, op := _, type := _, pos := _, after := _, guard := _ }) (v := ?vb515) rfl (by kernel_rfl) (by kernel_rfl) (by kernel_rfl) (fun _ _ _ h => h) (Or.inl ⟨by rfl, ?hb515⟩) HT2 ?_; (case hb515 => (intro w hSw; obtain ⟨x0, x1, x2, x3, x4, x5, x6, x7, x8, x9, x10, x11⟩ := KS.out w hSw; clear hSw; go_simp; try with_reducible rfl)); try simp only [Act.put, List.setIfInBounds_toArray, List.set_cons_zero, List.set_cons_succ])
      | (refine wpAnyH_take (i := 42) (oi := { dst := some 214, op := _, type := _, pos := _, after := _, guard := _ }) (v := undef) rfl (by kernel_rfl) (by kernel_rfl) (by kernel_rfl) (fun _ _ _ h => h) (Or.inr ⟨by rfl, rfl⟩) HT2 ?_; try simp only [Act.put, List.setIfInBounds_toArray, List.set_cons_zero, List.set_cons_succ])
    first
      | (refine wpAnyH_take (i := 43) (oi := { dst := some 6, op := _, type := _, pos := _, after := _, guard := _ }) (v := ?vb516) rfl (by kernel_rfl) (by kernel_rfl) (by kernel_rfl) (fun _ _ _ h => h) (Or.inl ⟨by rfl, ?hb516⟩) HT2 ?_; (case hb516 => (intro w hSw; obtain ⟨x0, x1, x2, x3, x4, x5, x6, x7, x8, x9, x10, x11⟩ := KS.out w hSw; clear hSw; go_simp; try with_reducible rfl)); try simp only [Act.put, List.setIfInBounds_toArray, List.set_cons_zero, List.set_cons_succ])
      | (refine wpAnyH_take (i := 43) (oi := { dst := some 6, op := _, type := _, pos := _, after := _, guard := _ }) (v := undef) rfl (by kernel_rfl) (by kernel_rfl) (by kernel_rfl) (fun _ _ _ h => h) (Or.inr ⟨by rfl, rfl⟩) HT2 ?_; try simp only [Act.put, List.setIfInBounds_toArray, List.set_cons_zero, List.set_cons_succ])
    refine wpAnyH_done (by kernel_rfl) ?_ _
    go_wp2_with fail
    go_ret
    exact ⟨rfl, bstep hb HT2⟩

end ScanRetires
end Go.Proofs.Ytiakabnfjegeeaa
