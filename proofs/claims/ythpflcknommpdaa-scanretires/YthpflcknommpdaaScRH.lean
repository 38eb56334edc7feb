/- ScanRetires, where it goes through. -/
import Derived.Test.YthpflcknommpdaaKShS
import Derived.Test.YthpflcknommpdaaKPla
import Derived.Test.YthpflcknommpdaaKScD
import Derived.Test.YthpflcknommpdaaKStA
import Derived.Test.YthpflcknommpdaaKOpe
namespace Go.Proofs.Ythpflcknommpdaa
namespace ScanRetires
open Go.ChangeShapes Go.WideShapes Go.ChangeAt Go.RowKit
set_option linter.unusedVariables false
set_option linter.unusedSimpArgs false

set_option maxRecDepth 100000 in
set_option maxHeartbeats 80000000 in
theorem walk_high (A0 B0 C0 L0 : Option Addr) (a0 b0 c0 d0 : Nat) (s0 : Sy) (n1 n2 : Int) (w0 : World) (u0 : 0 ≤ n1) (u1 : n1 ≤ 255) (u2 : 0 ≤ n2) (u3 : n2 ≤ 255)
    (rW : Row w0 A0 s0.M.W) (rG : Row w0 B0 s0.M.G) (rC : RowC w0 C0 s0.C) (rL : RowE w0 L0 s0.L) (g0 : s0.M.W.length ≤ maxLen) (g1 : s0.M.G.length ≤ maxLen) (g2 : s0.C.length ≤ maxLen) (g3 : s0.L.length ≤ maxLen) (q0 : syMays4 s0 = true) (qF : ∀ (k : Nat) (x : Co), n1.tmod (s0.C.length : Int) = (k : Int) → s0.C[k]? = some x → x.F.length < 38 ∧ x.ret.length < 200) (qL : ∀ (k : Nat) (x : Co), n1.tmod (s0.C.length : Int) = (k : Int) → s0.C[k]? = some x → ¬ x.ret.length + 1 < 3 * s0.C.length + 1) :
    Calls Try.prog 5 #[.agg #[.slice A0 s0.M.W.length a0, .slice B0 s0.M.G.length b0, .bool s0.M.bad, .slice C0 s0.C.length c0, .slice L0 s0.L.length d0], .int .u8 n1, .int .u8 n2] w0 fun e w' => e = .returned (.bool true) ∧ Below w0.heap.size w0 w' := by
  have S0 : RS w0 s0 A0 B0 C0 L0 := ⟨rW, rG, rC, rL⟩
  have hb : Below w0.heap.size w0 w0 := Below.refl _ _
  have HC := rmay4_any A0 B0 C0 L0 a0 b0 c0 d0 s0
  rw [q0] at HC
  replace HC := hid (show ∀ w, RS w s0 A0 B0 C0 L0 → Calls Try.prog 8 #[.agg #[.slice A0 s0.M.W.length a0, .slice B0 s0.M.G.length b0, .bool s0.M.bad, .slice C0 s0.C.length c0, .slice L0 s0.L.length d0], .int .i64 40] w fun e w' => e = .returned (.bool true) ∧ Below w.heap.size w w' from fun w h => HC w h.G h.C g1 g0 g2 g3)
  clear rW rG rC rL g0 g1 g2 g3
  go_enter Try.func5, Try.ntmps5
  go_upto_region 1 with (fail)
  have Bk0 := heap_alloc_new w0 (.cells #[.slice A0 s0.M.W.length a0, .slice B0 s0.M.G.length b0, .bool s0.M.bad, .slice C0 s0.C.length c0, .slice L0 s0.L.length d0] 28)
  have lt0 : w0.heap.size < (w0.alloc (.cells #[.slice A0 s0.M.W.length a0, .slice B0 s0.M.G.length b0, .bool s0.M.bad, .slice C0 s0.C.length c0, .slice L0 s0.L.length d0] 28)).heap.size := by simp
  have hk : Below w0.heap.size w0 (w0.alloc (.cells #[.slice A0 s0.M.W.length a0, .slice B0 s0.M.G.length b0, .bool s0.M.bad, .slice C0 s0.C.length c0, .slice L0 s0.L.length d0] 28)) := boxed _ _
  replace S0 := S0.step hk
  replace hb := bstep hb hk
  clear hk
  obtain ⟨v0, hv⟩ : ∃ v, w0.heap.size = v := ⟨_, rfl⟩
  rw [hv] at Bk0 lt0 ⊢
  clear hv
  generalize (w0.alloc (.cells #[.slice A0 s0.M.W.length a0, .slice B0 s0.M.G.length b0, .bool s0.M.bad, .slice C0 s0.C.length c0, .slice L0 s0.L.length d0] 28)) = w1 at *
  go_wp2_with fail
  refine (shown6_any _).mono ?_
  rintro e w2 ⟨rfl, hk⟩
  replace Bk0 := (hk.block v0 lt0).trans Bk0
  replace lt0 := Nat.lt_of_lt_of_le lt0 hk.size
  replace S0 := S0.step hk
  replace hb := bstep hb hk
  clear hk
  go_upto_region 2 with (fail)
  obtain ⟨m0_0, m0_1, m0_2, m0_3, m0_4⟩ := cells5 Bk0
  go_upto_region 4 with (go_at_call 8; refine (HC.out _ S0).mono ?_; rintro e w3 ⟨rfl, hk⟩)
  clear m0_0 m0_1 m0_2 m0_3 m0_4
  replace Bk0 := (hk.block v0 lt0).trans Bk0
  replace lt0 := Nat.lt_of_lt_of_le lt0 hk.size
  replace S0 := S0.step hk
  replace hb := bstep hb hk
  clear hk
  clear HC
  have hmay : sySmall4 s0 = true ∧ syRight s0 = true := by simpa [syMays4] using q0
  have HF := hid (few_of_small (small_of4 hmay.1))
  have hsm := sySmall4_few hmay.1
  have hr := hmay.2
  simp only [syRight, Bool.and_eq_true, decide_eq_true_eq] at hr
  have HR := hid (Rt.of hr.1.1.1)
  obtain ⟨⟨⟨_, hc1⟩, hc8⟩, _⟩ := hr
  have HGB := hid hsm.1
  have HLB := hid hsm.2.2.2.1
  have HRB := hid (show ∀ x ∈ s0.C, x.ret.length ≤ 210 from fun x hx => (hsm.2.2.2.2 x hx).2.1)
  clear hmay q0 hsm
  obtain ⟨k, hk⟩ : ∃ k : Nat, n1.tmod (s0.C.length : Int) = (k : Int) := ⟨(n1.tmod (s0.C.length : Int)).toNat, by rw [Int.tmod_eq_emod_of_nonneg u0, Int.toNat_of_nonneg (Int.emod_nonneg _ (by omega))]⟩
  have hkl : k < s0.C.length := by have h9 := hk; rw [Int.tmod_eq_emod_of_nonneg u0] at h9; have := Int.emod_lt_of_pos n1 (show (0 : Int) < (s0.C.length : Int) by omega); omega
  obtain ⟨x, hx⟩ : ∃ x, s0.C[k]? = some x := ⟨_, List.getElem?_eq_getElem hkl⟩
  obtain ⟨gC, oC, eC, hbl, hat⟩ := S0.C (by omega)
  subst eC
  obtain ⟨AF, AR, cFq, cR, hcs, rF, rR, hcF⟩ := (hat k x hx).cs4
  clear hat
  have y0 : w3.cell? ⟨gC, oC + k * 7, none⟩ = some (.slice AF x.F.length cFq) := hcs 0 _ rfl
  have y6 : w3.cell? ⟨gC, oC + k * 7 + 6, none⟩ = some (.slice AR x.ret.length cR) := hcs 6 _ rfl
  have kl : (k : Int) < (s0.C.length : Int) := by omega
  have hne : ((s0.C.length : Int) == 0) = false := by rw [beq_eq_false_iff_ne]; omega
  have HX := hid hx
  clear hx hcs rF rR hcF
  obtain ⟨m0_0, m0_1, m0_2, m0_3, m0_4⟩ := cells5 Bk0
  have hxF : x.F.length < 38 := (qF k x hk HX.out).1
  have hxr : x.ret.length < 200 := (qF k x hk HX.out).2
  have HLL := hid (qL k x hk HX.out)
  clear qF qL
  have hq : decide ((38 : Int) ≤ (x.F.length : Int)) = false := by simp; omega
  have hq2 : decide ((200 : Int) ≤ (x.ret.length : Int)) = false := by simp; omega
  have gl2 : (2 : Int) ≤ (s0.M.G.length : Int) := by have := HR.out.g2; omega
  have gl3 : (s0.M.G.length : Int) ≤ 41 := by have := HGB.out; omega
  go_upto_region 7 with (fail)
  obtain ⟨q, hqe⟩ : ∃ q : Nat, n2.tmod ((s0.M.G.length : Int) - 1) = (q : Int) := ⟨(n2.tmod ((s0.M.G.length : Int) - 1)).toNat, by rw [Int.tmod_eq_emod_of_nonneg u2, Int.toNat_of_nonneg (Int.emod_nonneg _ (by omega))]⟩
  have hql : (q : Int) + 1 < (s0.M.G.length : Int) := by have h9 := hqe; rw [Int.tmod_eq_emod_of_nonneg u2] at h9; have := Int.emod_lt_of_pos n2 (show (0 : Int) < (s0.M.G.length : Int) - 1 by omega); omega
  have hne3 : ((s0.M.G.length : Int) - 1 == 0) = false := by rw [beq_eq_false_iff_ne]; omega
  have q40 : (q : Int) ≤ 40 := by omega
  obtain ⟨s2, hs2⟩ : ∃ s, s = pCall s0 (k : Int) (frR (1 + (q : Int)) 0) := ⟨_, rfl⟩
  obtain ⟨s3, hs3⟩ : ∃ s, s = pScan s2 (k : Int) := ⟨_, rfl⟩
  have HK := hid (show ∀ (w : World), RS w s0 A0 B0 (some ⟨gC, oC, none⟩) L0 → Calls Try.prog 29 #[(.agg #[.slice A0 s0.M.W.length a0, .slice B0 s0.M.G.length b0, .bool s0.M.bad, .slice (some ⟨gC, oC, none⟩) s0.C.length c0, .slice L0 s0.L.length d0]), .int .i64 (k : Int), .int .i64 5, .int .i64 (1 + (q : Int)), .int .i64 0, .int .i64 0] w (RetSys w s2) from fun w h => by rw [hs2]; exact rcall_u A0 B0 (some ⟨gC, oC, none⟩) L0 a0 b0 c0 d0 s0 (k : Int) 5 (1 + (q : Int)) 0 0 w HF.out h)
  have HE2 := hid (show s2 = ⟨s0.M, s0.C.set k (cF x (x.F ++ [frR (1 + (q : Int)) 0])), s0.L⟩ from hs2.trans (core_call HX.out (by omega) _))
  obtain ⟨y, HY, HYR, HYC⟩ : ∃ y : Co, Hid (s3 = ⟨mTurn s0.M (1 + (q : Int)) 2, s0.C.set k y, s0.L⟩) ∧ Hid (y.ret = x.ret ++ [1 + (q : Int)]) ∧ Hid ((x.ret.length + 1 < 3 * s0.C.length + 1 ∧ y.F = x.F ∧ y.v = 1 + (q : Int)) ∨ (¬ x.ret.length + 1 < 3 * s0.C.length + 1 ∧ y.F = x.F ++ [frR (1 + (q : Int)) 1, frS 6 0])) := by
    by_cases hl : x.ret.length + 1 < 3 * s0.C.length + 1
    · exact ⟨⟨x.F, 1 + (q : Int), 0, x.x0, x.x1, x.x2, x.ret ++ [1 + (q : Int)]⟩, hid (by rw [hs3, hs2]; exact ret_low HX.out hxF hxr hl), hid rfl, hid (.inl ⟨hl, rfl, rfl⟩)⟩
    · exact ⟨⟨x.F ++ [frR (1 + (q : Int)) 1, frS 6 0], x.v, x.e, x.x0, x.x1, x.x2, x.ret ++ [1 + (q : Int)]⟩, hid (by rw [hs3, hs2]; exact ret_high HX.out hxF hxr hl), hid rfl, hid (.inr ⟨hl, rfl⟩)⟩
  have HF2 := hid (show SyFew s2 ∧ 2 ≤ s2.M.G.length ∧ s2.L.length ≤ 999998 by rw [hs2]; refine ⟨few_call HF.out (Nat.zero_le _) _, ?_, ?_⟩ <;> rw [← hs2, HE2.out] <;> first | exact HR.out.g2 | (have := HLB.out; show s0.L.length ≤ 999998; omega))
  have HS := hid (show ∀ (A B C L : Option Addr) (a b c d : Nat) (w : World), RS w s2 A B C L → Calls Try.prog 28 #[.agg #[.slice A s2.M.W.length a, .slice B s2.M.G.length b, .bool s2.M.bad, .slice C s2.C.length c, .slice L s2.L.length d], .int .i64 (k : Int)] w fun e w' => ∃ (A B C L : Option Addr) (a b c d : Nat), e = .returned (.agg #[.slice A s0.M.W.length a, .slice B s0.M.G.length b, .bool s3.M.bad, .slice C s0.C.length c, .slice L s0.L.length d]) ∧ RS w' s3 A B C L ∧ Below w.heap.size w w' from fun A B C L a b c d w h => by
      have h9 := scst_any A B C L a b c d s2 (k : Int) w HF2.out.1 HF2.out.2.1 h HF2.out.2.2 (fun f hf => by rw [HE2.out, core_top (s := ⟨s0.M, _, s0.L⟩) (set_get HX.out) rfl] at hf; obtain rfl := Option.some.inj hf; simp only [frR, List.getD_cons_zero]; unfold W64; omega)
      rw [← hs3] at h9
      refine h9.mono (fun e w' h => ?_)
      obtain ⟨A, B, C, L, a, b, c, d, e1, r1, r2, r3, r4, r5⟩ := h.weak
      rw [show s3.M.W.length = s0.M.W.length by rw [HY.out]; rfl, show s3.M.G.length = s0.M.G.length by rw [HY.out]; exact (mTurn_len _ _ _).2, show s3.C.length = s0.C.length by rw [HY.out]; simp, show s3.L.length = s0.L.length by rw [HY.out]] at e1
      exact ⟨A, B, C, L, a, b, c, d, e1, ⟨r1, r2, r3, r4⟩, r5⟩)
  clear hs2 hs3
  go_upto_region 8 with (fail)
  go_wp2_with fail
  refine (HK.out _ S0).mono ?_
  rintro e w4 ⟨A7, B7, C7, L7, a7, b7, c7, d7, rfl, tW, tG, tC, tL, hk9⟩
  clear y0 y6
  clear m0_0 m0_1 m0_2 m0_3 m0_4
  replace Bk0 := (hk9.block v0 lt0).trans Bk0
  replace lt0 := Nat.lt_of_lt_of_le lt0 hk9.size
  replace S0 := S0.step hk9
  replace hb := bstep hb hk9
  clear hk9
  have S7 : RS w4 s2 A7 B7 C7 L7 := ⟨tW, tG, tC, tL⟩
  clear tW tG tC tL
  go_wp2_with fail
  refine (HS.out _ _ _ _ _ _ _ _ _ S7).mono ?_
  rintro e w5 ⟨A8, B8, C8, L8, a8, b8, c8, d8, rfl, S8, hk9⟩
  clear S7
  replace Bk0 := (hk9.block v0 lt0).trans Bk0
  replace lt0 := Nat.lt_of_lt_of_le lt0 hk9.size
  replace S0 := S0.step hk9
  replace hb := bstep hb hk9
  clear hk9
  go_upto_region 9 with (fail)
  have Bk8 := heap_alloc_new w5 (.cells #[.slice A8 s0.M.W.length a8, .slice B8 s0.M.G.length b8, .bool s3.M.bad, .slice C8 s0.C.length c8, .slice L8 s0.L.length d8] 28)
  have lt8 : w5.heap.size < (w5.alloc (.cells #[.slice A8 s0.M.W.length a8, .slice B8 s0.M.G.length b8, .bool s3.M.bad, .slice C8 s0.C.length c8, .slice L8 s0.L.length d8] 28)).heap.size := by simp
  have hk : Below w5.heap.size w5 (w5.alloc (.cells #[.slice A8 s0.M.W.length a8, .slice B8 s0.M.G.length b8, .bool s3.M.bad, .slice C8 s0.C.length c8, .slice L8 s0.L.length d8] 28)) := boxed _ _
  have ne0_8 : v0 ≠ w5.heap.size := Nat.ne_of_lt lt0
  have nw8 : w0.heap.size ≤ w5.heap.size := hb.size
  replace Bk0 := (hk.block v0 lt0).trans Bk0
  replace lt0 := Nat.lt_of_lt_of_le lt0 hk.size
  replace S0 := S0.step hk
  replace S8 := S8.step hk
  replace hb := bstep hb hk
  clear hk
  obtain ⟨v8, hv⟩ : ∃ v, w5.heap.size = v := ⟨_, rfl⟩
  replace nw8 := Nat.le_trans nw8 (Nat.le_of_eq hv)
  rw [hv] at Bk8 lt8 ne0_8 ⊢
  clear hv
  generalize (w5.alloc (.cells #[.slice A8 s0.M.W.length a8, .slice B8 s0.M.G.length b8, .bool s3.M.bad, .slice C8 s0.C.length c8, .slice L8 s0.L.length d8] 28)) = w6 at *
  obtain ⟨m0_0, m0_1, m0_2, m0_3, m0_4⟩ := cells5 Bk0
  obtain ⟨m8_0, m8_1, m8_2, m8_3, m8_4⟩ := cells5 Bk8
  go_upto_region 11 with (fail)
  obtain ⟨gC2, oC2, eC2, hbl2, hat2⟩ := S0.C (by omega)
  injection eC2 with eC2
  injection eC2 with eC3 eC4
  subst eC3 eC4
  obtain ⟨AFy, ARy, cFy, cRy, hcy, rFy, rRy, hcFy⟩ := (hat2 k _ HX.out).cs4
  clear hat2
  have y0 : w6.cell? ⟨gC, oC + k * 7, none⟩ = some (.slice AFy x.F.length cFy) := hcy 0 _ rfl
  have y6 : w6.cell? ⟨gC, oC + k * 7 + 6, none⟩ = some (.slice ARy x.ret.length cRy) := hcy 6 _ rfl
  clear hcy
  go_upto_region 12 with (first | (at_builtin; (refine wpList_append_ontoR rfl _ _ _ rfl w6.heap.size Try.underlying22 infoI (.slice (some ⟨w6.heap.size, 0, none⟩) 0 0) 0 [] rfl rfl (own_empty (heap_alloc_new w6 _)) ARy cRy x.ret.length x.ret rfl rfl (rRy.step (boxed _ _)) (by simp; omega) (by simp) ?_); intro v9 wa ho9 hg9) | (at_builtin; (refine wpList_append_ontoR rfl _ _ _ rfl w6.heap.size Try.underlying22 infoI v9 _ ([] ++ x.ret) rfl rfl (own_step ho9 (boxed _ _)) _ _ 1 [1 + (q : Int)] rfl rfl (Blk.row (heap_alloc_new wa (.cells #[.int .i64 (1 + (q : Int))] 3))) (by simp; omega) (by have := hg9.size; simp at this ⊢; omega) ?_); intro v10 w7 ho10 hg10; obtain ⟨A10, c10, rfl, r10⟩ := own_row1 ho10 rfl))
  have hk : Below w6.heap.size w6 w7 := ((((Turn.refl (fun b => w6.heap.size ≤ b) w6).alloc _).grown hg9 (fun g hg => Nat.le_of_eq (Option.some.inj hg))).alloc _ |>.grown hg10 (fun g hg => (ho9.lt g hg).1)).to_below (Nat.le_refl _) (fun _ h => h)
  clear ho9 hg9 hg10 ho10 rFy rRy y0 y6
  clear m0_0 m0_1 m0_2 m0_3 m0_4 m8_0 m8_1 m8_2 m8_3 m8_4
  replace Bk0 := (hk.block v0 lt0).trans Bk0
  replace lt0 := Nat.lt_of_lt_of_le lt0 hk.size
  replace Bk8 := (hk.block v8 lt8).trans Bk8
  replace lt8 := Nat.lt_of_lt_of_le lt8 hk.size
  replace S0 := S0.step hk
  replace S8 := S8.step hk
  replace hb := bstep hb hk
  clear hk
  simp only [List.nil_append] at r10 ⊢
  obtain ⟨m0_0, m0_1, m0_2, m0_3, m0_4⟩ := cells5 Bk0
  obtain ⟨m8_0, m8_1, m8_2, m8_3, m8_4⟩ := cells5 Bk8
  have HLM := hid (show pLimit (s0.C.length : Int) = 3 * (s0.C.length : Int) + 1 from pLimit_in (by omega) (by omega))
  go_upto_region 13 with (go_at_call 26; (with_reducible refine (limit_any _ _).mono ?_); rintro e wz ⟨rfl, rfl⟩)
  have E3 := hid (show s3.M.W.length = s0.M.W.length ∧ s3.M.G.length = s0.M.G.length ∧ s3.C.length = s0.C.length ∧ s3.L.length = s0.L.length by rw [HY.out]; exact ⟨rfl, (mTurn_len _ _ _).2, by simp, rfl⟩)
  have FX := HF.out.2.2.2.2 x (List.mem_of_getElem? HX.out)
  have FEW3 : SyFew s3 := by
    rw [HY.out]
    refine few_mem (s := syWith s0 k y) (few_with HF.out ⟨?_, ?_, ?_⟩) rfl (mTurn_len _ _ _).2
    · rw [HYR.out]; simp; omega
    · rcases HYC.out with ⟨_, h9, _⟩ | ⟨_, h9⟩
      · rw [h9]; omega
      · rw [h9]; simp; omega
    · rcases HYC.out with ⟨_, h9, _⟩ | ⟨_, h9⟩
      · rw [h9]; exact FX.2.2
      · rw [h9]; intro f hf
        rcases List.mem_append.1 hf with h | h
        · exact FX.2.2 f h
        · simp at h; rcases h with rfl | rfl <;> simp [frR, frS]
  clear FX
  obtain ⟨scb, HB⟩ : ∃ b : Bool, Hid (b = decide (¬ x.ret.length + 1 < 3 * s0.C.length + 1)) := ⟨_, hid rfl⟩
  obtain ⟨op, pc, r0, r1, r2, r3, r4, r5, r6, r7, xs, isb, HTP, HSC⟩ : ∃ (op pc r0 r1 r2 r3 r4 r5 r6 r7 : Int) (xs : List Int) (isb : Bool), Hid (∀ (A B C L : Option Addr) (a b c d : Nat) (w : World), RS w s3 A B C L → Calls Try.prog 25 #[.agg #[.slice A s0.M.W.length a, .slice B s0.M.G.length b, .bool s3.M.bad, .slice C s0.C.length c, .slice L s0.L.length d], .int .i64 (k : Int)] w fun e w' => ∃ (A' : Option Addr) (c' : Nat), e = .returned (.tuple #[.agg #[.int .i64 op, .int .i64 pc, .int .i64 r0, .int .i64 r1, .int .i64 r2, .int .i64 r3, .int .i64 r4, .int .i64 r5, .int .i64 r6, .int .i64 r7, .slice A' xs.length c'], .bool isb]) ∧ Below w.heap.size w w') ∧ Hid ((isb && (op == 6) && decide (y.F.length = x.F.length + 2)) = scb) := by
    rcases HYC.out with ⟨hl, hF, hv⟩ | ⟨hl, hF⟩
    · rcases pTop_cases s3 (k : Int) FEW3 S8.C with hp | ⟨op, pc, r0, r1, r2, r3, r4, r5, r6, r7, xs, hp, h6⟩
      · refine ⟨0, 0, 0, 0, 0, 0, 0, 0, 0, 0, [], false, hid (fun A B C L a b c d w h => ?_), hid ?_⟩
        · have h9 := rtop_no A B C L a b c d s3 (k : Int) w FEW3 h hp
          rw [E3.out.1, E3.out.2.1, E3.out.2.2.1, E3.out.2.2.2] at h9
          exact h9.mono (fun e w' ⟨q1, q2⟩ => ⟨none, 0, q1, q2⟩)
        · rw [HB.out]; simp; omega
      · refine ⟨op, pc, r0, r1, r2, r3, r4, r5, r6, r7, xs, true, hid (fun A B C L a b c d w h => ?_), hid ?_⟩
        · have h9 := rtop_is A B C L a b c d s3 (k : Int) op pc r0 r1 r2 r3 r4 r5 r6 r7 xs w FEW3 h hp h6
          rw [E3.out.1, E3.out.2.1, E3.out.2.2.1, E3.out.2.2.2] at h9
          exact h9.mono (fun e w' ⟨A', c', q1, _, q2⟩ => ⟨A', c', q1, q2⟩)
        · rw [HB.out, hF]; simp; omega
    · have hp : pTop s3 (k : Int) = some (frS 6 0) := by rw [HY.out]; exact core_top (s := ⟨_, _, s0.L⟩) (F := x.F ++ [frR (1 + (q : Int)) 1]) (set_get HX.out) (by rw [hF]; simp)
      refine ⟨6, 0, 0, 0, 0, 0, 0, 0, 0, 0, [], true, hid (fun A B C L a b c d w h => ?_), hid ?_⟩
      · have h9 := rtop_is A B C L a b c d s3 (k : Int) 6 0 0 0 0 0 0 0 0 0 [] w FEW3 h hp (by simp)
        rw [E3.out.1, E3.out.2.1, E3.out.2.2.1, E3.out.2.2.2] at h9
        exact h9.mono (fun e w' ⟨A', c', q1, _, q2⟩ => ⟨A', c', q1, q2⟩)
      · rw [HB.out, hF]; simp; omega
  go_upto_region 14 with (go_at_call 25; (with_reducible refine (HTP.out _ _ _ _ _ _ _ _ _ S8).mono ?_); rintro e w8 ⟨AT, cT, rfl, hk⟩)
  clear m0_0 m0_1 m0_2 m0_3 m0_4 m8_0 m8_1 m8_2 m8_3 m8_4
  replace Bk0 := (hk.block v0 lt0).trans Bk0
  replace lt0 := Nat.lt_of_lt_of_le lt0 hk.size
  replace Bk8 := (hk.block v8 lt8).trans Bk8
  replace lt8 := Nat.lt_of_lt_of_le lt8 hk.size
  replace S0 := S0.step hk
  replace S8 := S8.step hk
  replace r10 := r10.step hk
  replace hb := bstep hb hk
  clear hk
  have BkT := heap_alloc_new w8 (.cells #[.int .i64 op, .int .i64 pc, .int .i64 r0, .int .i64 r1, .int .i64 r2, .int .i64 r3, .int .i64 r4, .int .i64 r5, .int .i64 r6, .int .i64 r7, .slice AT xs.length cT] 55)
  have ltT : w8.heap.size < (w8.alloc (.cells #[.int .i64 op, .int .i64 pc, .int .i64 r0, .int .i64 r1, .int .i64 r2, .int .i64 r3, .int .i64 r4, .int .i64 r5, .int .i64 r6, .int .i64 r7, .slice AT xs.length cT] 55)).heap.size := by simp
  have hk : Below w8.heap.size w8 (w8.alloc (.cells #[.int .i64 op, .int .i64 pc, .int .i64 r0, .int .i64 r1, .int .i64 r2, .int .i64 r3, .int .i64 r4, .int .i64 r5, .int .i64 r6, .int .i64 r7, .slice AT xs.length cT] 55)) := boxed _ _
  replace Bk0 := (hk.block v0 lt0).trans Bk0
  replace lt0 := Nat.lt_of_lt_of_le lt0 hk.size
  replace Bk8 := (hk.block v8 lt8).trans Bk8
  replace lt8 := Nat.lt_of_lt_of_le lt8 hk.size
  replace S0 := S0.step hk
  replace S8 := S8.step hk
  replace r10 := r10.step hk
  replace hb := bstep hb hk
  clear hk
  obtain ⟨vT, hv⟩ : ∃ v, w8.heap.size = v := ⟨_, rfl⟩
  rw [hv] at BkT ltT ⊢
  clear hv
  generalize (w8.alloc (.cells #[.int .i64 op, .int .i64 pc, .int .i64 r0, .int .i64 r1, .int .i64 r2, .int .i64 r3, .int .i64 r4, .int .i64 r5, .int .i64 r6, .int .i64 r7, .slice AT xs.length cT] 55)) = w9 at *
  obtain ⟨gC2, oC2, eC2, hbl2, hat2⟩ := S0.C (by omega)
  injection eC2 with eC2
  injection eC2 with eC3 eC4
  subst eC3 eC4
  obtain ⟨AFy, ARy, cFy, cRy, hcy, rFy, rRy, hcFy⟩ := (hat2 k _ HX.out).cs4
  clear hat2 rFy rRy hcFy
  have y0 : w9.cell? ⟨gC, oC + k * 7, none⟩ = some (.slice AFy x.F.length cFy) := hcy 0 _ rfl
  have y6 : w9.cell? ⟨gC, oC + k * 7 + 6, none⟩ = some (.slice ARy x.ret.length cRy) := hcy 6 _ rfl
  clear hcy
  obtain ⟨gD, oD, eD, hblD, hatD⟩ := S8.C (by rw [E3.out.2.2.1]; omega)
  subst eD
  obtain ⟨AFz, ARz, cFz, cRz, hcz, rFz, rRz, hcFz⟩ := (hatD k y (by rw [HY.out]; exact set_get HX.out)).cs4
  clear hatD hcFz rFz
  have z0 : w9.cell? ⟨gD, oD + k * 7, none⟩ = some (.slice AFz y.F.length cFz) := hcz 0 _ rfl
  have z1 : w9.cell? ⟨gD, oD + k * 7 + 1, none⟩ = some (.int .i64 y.v) := hcz 1 _ rfl
  have z6 : w9.cell? ⟨gD, oD + k * 7 + 6, none⟩ = some (.slice ARz y.ret.length cRz) := hcz 6 _ rfl
  clear hcz
  obtain ⟨m0_0, m0_1, m0_2, m0_3, m0_4⟩ := cells5 Bk0
  obtain ⟨m8_0, m8_1, m8_2, m8_3, m8_4⟩ := cells5 Bk8
  obtain ⟨mT_0, mT_1, mT_2, mT_3, mT_4, mT_5, mT_6, mT_7, mT_8, mT_9, mT_10⟩ := cells11 BkT
  have yF9 : y.F.length ≤ 1000 := by rcases HYC.out with ⟨_, h9, _⟩ | ⟨_, h9⟩ <;> rw [h9] <;> (try simp) <;> omega
  go_cut [15] from 103 (fun y15 wx => y15 = .bool scb ∧ Below w9.heap.size w9 wx)
  case first =>
    rcases Bool.eq_false_or_eq_true isb with hi | hi
    · subst hi
      rcases Bool.eq_false_or_eq_true (op == 6) with h6 | h6
      · by_cases hln : y.F.length = x.F.length + 2
        · have hlb : ((y.F.length : Int) == (x.F.length : Int) + 2) = true := by simp; omega
          have hs9 : scb = true := by have h9 := HSC.out; simpa [h6, hln] using h9.symm
          subst hs9
          clear hln
          go_quiet (fail)
          go_wp2_with fail
          go_meet
          exact ⟨rfl, bdrewN (Below.refl _ _) _⟩
        · have hlb : ((y.F.length : Int) == (x.F.length : Int) + 2) = false := by rw [beq_eq_false_iff_ne]; omega
          have hs9 : scb = false := by have h9 := HSC.out; simpa [h6, hln] using h9.symm
          subst hs9
          clear hln
          go_quiet (fail)
          go_wp2_with fail
          go_meet
          exact ⟨rfl, bdrewN (Below.refl _ _) _⟩
      · have hs9 : scb = false := by have h9 := HSC.out; simpa [h6] using h9.symm
        subst hs9
        go_quiet (fail)
        go_wp2_with fail
        go_meet
        exact ⟨rfl, bdrewN (Below.refl _ _) _⟩
    · subst hi
      have hs9 : scb = false := by have h9 := HSC.out; simpa using h9.symm
      subst hs9
      go_quiet (fail)
      go_wp2_with fail
      go_meet
      exact ⟨rfl, bdrewN (Below.refl _ _) _⟩
  case rest =>
    obtain ⟨rfl, hk⟩ := hcut
    clear HTP HSC
    clear m0_0 m0_1 m0_2 m0_3 m0_4 m8_0 m8_1 m8_2 m8_3 m8_4 mT_0 mT_1 mT_2 mT_3 mT_4 mT_5 mT_6 mT_7 mT_8 mT_9 mT_10
    replace z0 := (hk.cell hblD).trans z0
    replace z1 := (hk.cell hblD).trans z1
    replace z6 := (hk.cell hblD).trans z6
    replace y0 := (hk.cell hbl2).trans y0
    replace rRz := rRz.step hk
    replace hblD := Nat.lt_of_lt_of_le hblD hk.size
    replace hbl2 := Nat.lt_of_lt_of_le hbl2 hk.size
    clear y6
    obtain ⟨w10, hwc⟩ : ∃ v, v = wc := ⟨_, rfl⟩
    subst hwc
    replace Bk0 := (hk.block v0 lt0).trans Bk0
    replace lt0 := Nat.lt_of_lt_of_le lt0 hk.size
    replace Bk8 := (hk.block v8 lt8).trans Bk8
    replace lt8 := Nat.lt_of_lt_of_le lt8 hk.size
    replace BkT := (hk.block vT ltT).trans BkT
    replace ltT := Nat.lt_of_lt_of_le ltT hk.size
    replace S0 := S0.step hk
    replace S8 := S8.step hk
    replace r10 := r10.step hk
    replace hb := bstep hb hk
    clear hk
    clear BkT ltT
    have hbeg : decide (pLimit (s0.C.length : Int) ≤ (x.ret.length : Int) + 1) = scb := by rw [HLM.out, HB.out, decide_eq_decide]; omega
    rw [hbeg]
    clear hbeg HLM
    obtain ⟨m0_0, m0_1, m0_2, m0_3, m0_4⟩ := cells5 Bk0
    obtain ⟨m8_0, m8_1, m8_2, m8_3, m8_4⟩ := cells5 Bk8
    have HYR2 := hid (show (y.ret.length : Int) = (x.ret.length : Int) + 1 by rw [HYR.out]; simp)
    have HYL := hid (show y.ret.length = x.ret.length + 1 by rw [HYR.out]; simp)
    have HIN := hid (show ∀ (A B : Option Addr) (c d : Nat) (w : World), Row w A y.ret → Row w B (x.ret ++ [1 + (q : Int)]) → Calls Try.prog 30 #[.slice A y.ret.length c, .slice B (x.ret.length + 1) d] w fun e w' => e = .returned (.bool true) ∧ Below w.heap.size w w' from fun A B c d w h1 h2 => by rw [← HYR.out] at h2; have h9 := rints_any A B c d y.ret y.ret w h1 h2 (by have := HYL.out; omega); rw [show mInts y.ret y.ret = true by simp [mInts]] at h9; rw [HYL.out] at h9 ⊢; exact h9)
    have hfl : y.F.length ≤ 1000 := yF9
    clear yF9
    have hs9 : scb = true := by rw [HB.out]; have := HLL.out; simp; omega
    subst hs9
    go_upto_region 15 with (fail)
    have KS := hid (show ∀ w', Below w10.heap.size w10 w' → (w'.cell? ⟨v8, 3, none⟩ = some (.slice (some ⟨gD, oD, none⟩) s0.C.length c8) ∧ w'.cell? ⟨v0, 3, none⟩ = some (.slice (some ⟨gC, oC, none⟩) s0.C.length c0) ∧ w'.cell? ⟨gD, oD + k * 7, none⟩ = some (.slice AFz y.F.length cFz) ∧ w'.cell? ⟨gD, oD + k * 7 + 1, none⟩ = some (.int .i64 y.v) ∧ w'.cell? ⟨gD, oD + k * 7 + 6, none⟩ = some (.slice ARz y.ret.length cRz) ∧ w'.cell? ⟨gC, oC + k * 7, none⟩ = some (.slice AFy x.F.length cFy)) from fun w' h => ⟨(h.cell lt8).trans m8_3, (h.cell lt0).trans m0_3, (h.cell hblD).trans z0, (h.cell hblD).trans z1, (h.cell hblD).trans z6, (h.cell hbl2).trans y0⟩)
    refine wp_region_held_drew (S := (fun w' => Below w10.heap.size w10 w')) (by kernel_rfl) ((Below.refl _ _).drew) (fun HT0 => ?_)
    try dsimp only at HT0
    generalize w10.drew = W0 at HT0 ⊢
    refine tkW (oi := ⟨some 127, _, _, _, _, _⟩) (v := ?v1) 0 rfl (by kernel_rfl) (by kernel_rfl) (by kernel_rfl) (fun _ _ _ h => h) (by rfl) ?h1 HT0 ?_
    case h1 => (intro w hS; clear hS; go_simp; try with_reducible rfl)
    try simp only [Act.put, pA, pZ, pS]
    refine tkW (oi := ⟨some 128, _, _, _, _, _⟩) (v := ?v2) 1 rfl (by kernel_rfl) (by kernel_rfl) (by kernel_rfl) (fun _ _ _ h => h) (by rfl) ?h2 HT0 ?_
    case h2 => (intro w hS; obtain ⟨x0, x1, x2, x3, x4, x5⟩ := KS.out w hS; clear hS; go_simp; try with_reducible rfl)
    try simp only [Act.put, pA, pZ, pS]
    refine tkW (oi := ⟨some 129, _, _, _, _, _⟩) (v := ?v3) 2 rfl (by kernel_rfl) (by kernel_rfl) (by kernel_rfl) (fun _ _ _ h => h) (by rfl) ?h3 HT0 ?_
    case h3 => (intro w hS; clear hS; go_simp; try with_reducible rfl)
    try simp only [Act.put, pA, pZ, pS]
    refine tkW (oi := ⟨some 130, _, _, _, _, _⟩) (v := ?v4) 3 rfl (by kernel_rfl) (by kernel_rfl) (by kernel_rfl) (fun _ _ _ h => h) (by rfl) ?h4 HT0 ?_
    case h4 => (intro w hS; clear hS; go_simp; try with_reducible rfl)
    try simp only [Act.put, pA, pZ, pS]
    refine tkW (oi := ⟨some 131, _, _, _, _, _⟩) (v := ?v5) 4 rfl (by kernel_rfl) (by kernel_rfl) (by kernel_rfl) (fun _ _ _ h => h) (by rfl) ?h5 HT0 ?_
    case h5 => (intro w hS; clear hS; go_simp; try with_reducible rfl)
    try simp only [Act.put, pA, pZ, pS]
    refine tkW (oi := ⟨some 132, _, _, _, _, _⟩) (v := ?v6) 5 rfl (by kernel_rfl) (by kernel_rfl) (by kernel_rfl) (fun _ _ _ h => h) (by rfl) ?h6 HT0 ?_
    case h6 => (intro w hS; obtain ⟨x0, x1, x2, x3, x4, x5⟩ := KS.out w hS; clear hS; go_simp; try with_reducible rfl)
    try simp only [Act.put, pA, pZ, pS]
    refine tkW (oi := ⟨some 133, _, _, _, _, _⟩) (v := ?v7) 6 rfl (by kernel_rfl) (by kernel_rfl) (by kernel_rfl) (fun _ _ _ h => h) (by rfl) ?h7 HT0 ?_
    case h7 => (intro w hS; clear hS; go_simp; try with_reducible rfl)
    try simp only [Act.put, pA, pZ, pS]
    refine wpAnyH_ready (rs := [7]) (by kernel_rfl) (by simp) ?_
    refine AllReadyH.cons (o := { dst := some 134, op := _, type := _, pos := _, after := _, guard := _ }) rfl (fun K hK => ?_) AllReadyH.nil
    go_simp
    (go_at_call 30; (with_reducible refine (HIN.out _ _ _ _ _ (rRz.step HT0) (r10.step HT0)).mono ?_); rintro e wk1 ⟨rfl, hk1⟩)
    have HT1 := bstep HT0 hk1
    refine hK.out _ _ HT1 (fun _ => ?_)
    clear hK K
    try simp only [Act.put, List.setIfInBounds_toArray, List.set_cons_zero, List.set_cons_succ]
    refine tkW (oi := ⟨some 135, _, _, _, _, _⟩) (v := ?v8) 8 rfl (by kernel_rfl) (by kernel_rfl) (by kernel_rfl) (fun _ _ _ h => h) (by rfl) ?h8 HT1 ?_
    case h8 => (intro w hS; clear hS; go_simp; try with_reducible rfl)
    try simp only [Act.put, pA, pZ, pS]
    refine tkW (oi := ⟨some 136, _, _, _, _, _⟩) (v := ?v9) 9 rfl (by kernel_rfl) (by kernel_rfl) (by kernel_rfl) (fun _ _ _ h => h) (by rfl) ?h9 HT1 ?_
    case h9 => (intro w hS; clear hS; go_simp; try with_reducible rfl)
    try simp only [Act.put, pA, pZ, pS]
    refine tkW (oi := ⟨some 137, _, _, _, _, _⟩) (v := ?v10) 10 rfl (by kernel_rfl) (by kernel_rfl) (by kernel_rfl) (fun _ _ _ h => h) (by rfl) ?h10 HT1 ?_
    case h10 => (intro w hS; clear hS; go_simp; try with_reducible rfl)
    try simp only [Act.put, pA, pZ, pS]
    refine tkW (oi := ⟨some 138, _, _, _, _, _⟩) (v := ?v11) 11 rfl (by kernel_rfl) (by kernel_rfl) (by kernel_rfl) (fun _ _ _ h => h) (by rfl) ?h11 HT1 ?_
    case h11 => (intro w hS; clear hS; go_simp; try with_reducible rfl)
    try simp only [Act.put, pA, pZ, pS]
    refine tkW (oi := ⟨some 139, _, _, _, _, _⟩) (v := ?v12) 12 rfl (by kernel_rfl) (by kernel_rfl) (by kernel_rfl) (fun _ _ _ h => h) (by rfl) ?h12 HT1 ?_
    case h12 => (intro w hS; clear hS; go_simp; try with_reducible rfl)
    try simp only [Act.put, pA, pZ, pS]
    refine tkW (oi := ⟨some 140, _, _, _, _, _⟩) (v := ?v13) 13 rfl (by kernel_rfl) (by kernel_rfl) (by kernel_rfl) (fun _ _ _ h => h) (by rfl) ?h13 HT1 ?_
    case h13 => (intro w hS; clear hS; go_simp; try with_reducible rfl)
    try simp only [Act.put, pA, pZ, pS]
    refine tkW (oi := ⟨some 141, _, _, _, _, _⟩) (v := ?v14) 14 rfl (by kernel_rfl) (by kernel_rfl) (by kernel_rfl) (fun _ _ _ h => h) (by rfl) ?h14 HT1 ?_
    case h14 => (intro w hS; clear hS; go_simp; try with_reducible rfl)
    try simp only [Act.put, pA, pZ, pS]
    refine tkW (oi := ⟨some 142, _, _, _, _, _⟩) (v := ?v15) 15 rfl (by kernel_rfl) (by kernel_rfl) (by kernel_rfl) (fun _ _ _ h => h) (by rfl) ?h15 HT1 ?_
    case h15 => (intro w hS; clear hS; go_simp; try with_reducible rfl)
    try simp only [Act.put, pA, pZ, pS]
    refine tkW (oi := ⟨some 143, _, _, _, _, _⟩) (v := ?v16) 16 rfl (by kernel_rfl) (by kernel_rfl) (by kernel_rfl) (fun _ _ _ h => h) (by rfl) ?h16 HT1 ?_
    case h16 => (intro w hS; clear hS; go_simp; try with_reducible rfl)
    try simp only [Act.put, pA, pZ, pS]
    refine tkW (oi := ⟨some 144, _, _, _, _, _⟩) (v := ?v17) 17 rfl (by kernel_rfl) (by kernel_rfl) (by kernel_rfl) (fun _ _ _ h => h) (by rfl) ?h17 HT1 ?_
    case h17 => (intro w hS; clear hS; go_simp; try with_reducible rfl)
    try simp only [Act.put, pA, pZ, pS]
    refine tkU (oi := ⟨some 145, _, _, _, _, _⟩) 18 rfl (by kernel_rfl) (by kernel_rfl) (by kernel_rfl) (fun _ _ _ h => h) (by rfl) HT1 ?_
    try simp only [Act.put, pA, pZ, pS]
    refine tkU (oi := ⟨some 146, _, _, _, _, _⟩) 19 rfl (by kernel_rfl) (by kernel_rfl) (by kernel_rfl) (fun _ _ _ h => h) (by rfl) HT1 ?_
    try simp only [Act.put, pA, pZ, pS]
    refine tkU (oi := ⟨some 147, _, _, _, _, _⟩) 20 rfl (by kernel_rfl) (by kernel_rfl) (by kernel_rfl) (fun _ _ _ h => h) (by rfl) HT1 ?_
    try simp only [Act.put, pA, pZ, pS]
    refine tkU (oi := ⟨some 148, _, _, _, _, _⟩) 21 rfl (by kernel_rfl) (by kernel_rfl) (by kernel_rfl) (fun _ _ _ h => h) (by rfl) HT1 ?_
    try simp only [Act.put, pA, pZ, pS]
    refine tkU (oi := ⟨some 149, _, _, _, _, _⟩) 22 rfl (by kernel_rfl) (by kernel_rfl) (by kernel_rfl) (fun _ _ _ h => h) (by rfl) HT1 ?_
    try simp only [Act.put, pA, pZ, pS]
    refine tkU (oi := ⟨some 150, _, _, _, _, _⟩) 23 rfl (by kernel_rfl) (by kernel_rfl) (by kernel_rfl) (fun _ _ _ h => h) (by rfl) HT1 ?_
    try simp only [Act.put, pA, pZ, pS]
    refine tkU (oi := ⟨some 151, _, _, _, _, _⟩) 24 rfl (by kernel_rfl) (by kernel_rfl) (by kernel_rfl) (fun _ _ _ h => h) (by rfl) HT1 ?_
    try simp only [Act.put, pA, pZ, pS]
    refine tkU (oi := ⟨some 152, _, _, _, _, _⟩) 25 rfl (by kernel_rfl) (by kernel_rfl) (by kernel_rfl) (fun _ _ _ h => h) (by rfl) HT1 ?_
    try simp only [Act.put, pA, pZ, pS]
    refine tkU (oi := ⟨some 153, _, _, _, _, _⟩) 26 rfl (by kernel_rfl) (by kernel_rfl) (by kernel_rfl) (fun _ _ _ h => h) (by rfl) HT1 ?_
    try simp only [Act.put, pA, pZ, pS]
    refine tkU (oi := ⟨some 154, _, _, _, _, _⟩) 27 rfl (by kernel_rfl) (by kernel_rfl) (by kernel_rfl) (fun _ _ _ h => h) (by rfl) HT1 ?_
    try simp only [Act.put, pA, pZ, pS]
    refine tkU (oi := ⟨some 155, _, _, _, _, _⟩) 28 rfl (by kernel_rfl) (by kernel_rfl) (by kernel_rfl) (fun _ _ _ h => h) (by rfl) HT1 ?_
    try simp only [Act.put, pA, pZ, pS]
    refine tkU (oi := ⟨some 156, _, _, _, _, _⟩) 29 rfl (by kernel_rfl) (by kernel_rfl) (by kernel_rfl) (fun _ _ _ h => h) (by rfl) HT1 ?_
    try simp only [Act.put, pA, pZ, pS]
    refine tkU (oi := ⟨some 157, _, _, _, _, _⟩) 30 rfl (by kernel_rfl) (by kernel_rfl) (by kernel_rfl) (fun _ _ _ h => h) (by rfl) HT1 ?_
    try simp only [Act.put, pA, pZ, pS]
    refine tkU (oi := ⟨some 158, _, _, _, _, _⟩) 31 rfl (by kernel_rfl) (by kernel_rfl) (by kernel_rfl) (fun _ _ _ h => h) (by rfl) HT1 ?_
    try simp only [Act.put, pA, pZ, pS]
    refine tkU (oi := ⟨some 159, _, _, _, _, _⟩) 32 rfl (by kernel_rfl) (by kernel_rfl) (by kernel_rfl) (fun _ _ _ h => h) (by rfl) HT1 ?_
    try simp only [Act.put, pA, pZ, pS]
    refine tkU (oi := ⟨some 160, _, _, _, _, _⟩) 33 rfl (by kernel_rfl) (by kernel_rfl) (by kernel_rfl) (fun _ _ _ h => h) (by rfl) HT1 ?_
    try simp only [Act.put, pA, pZ, pS]
    refine tkU (oi := ⟨some 161, _, _, _, _, _⟩) 34 rfl (by kernel_rfl) (by kernel_rfl) (by kernel_rfl) (fun _ _ _ h => h) (by rfl) HT1 ?_
    try simp only [Act.put, pA, pZ, pS]
    refine tkU (oi := ⟨some 162, _, _, _, _, _⟩) 35 rfl (by kernel_rfl) (by kernel_rfl) (by kernel_rfl) (fun _ _ _ h => h) (by rfl) HT1 ?_
    try simp only [Act.put, pA, pZ, pS]
    refine tkU (oi := ⟨some 163, _, _, _, _, _⟩) 36 rfl (by kernel_rfl) (by kernel_rfl) (by kernel_rfl) (fun _ _ _ h => h) (by rfl) HT1 ?_
    try simp only [Act.put, pA, pZ, pS]
    refine tkU (oi := ⟨some 164, _, _, _, _, _⟩) 37 rfl (by kernel_rfl) (by kernel_rfl) (by kernel_rfl) (fun _ _ _ h => h) (by rfl) HT1 ?_
    try simp only [Act.put, pA, pZ, pS]
    refine tkU (oi := ⟨some 165, _, _, _, _, _⟩) 38 rfl (by kernel_rfl) (by kernel_rfl) (by kernel_rfl) (fun _ _ _ h => h) (by rfl) HT1 ?_
    try simp only [Act.put, pA, pZ, pS]
    refine tkU (oi := ⟨some 166, _, _, _, _, _⟩) 39 rfl (by kernel_rfl) (by kernel_rfl) (by kernel_rfl) (fun _ _ _ h => h) (by rfl) HT1 ?_
    try simp only [Act.put, pA, pZ, pS]
    refine tkU (oi := ⟨some 167, _, _, _, _, _⟩) 40 rfl (by kernel_rfl) (by kernel_rfl) (by kernel_rfl) (fun _ _ _ h => h) (by rfl) HT1 ?_
    try simp only [Act.put, pA, pZ, pS]
    refine tkU (oi := ⟨some 168, _, _, _, _, _⟩) 41 rfl (by kernel_rfl) (by kernel_rfl) (by kernel_rfl) (fun _ _ _ h => h) (by rfl) HT1 ?_
    try simp only [Act.put, pA, pZ, pS]
    refine tkU (oi := ⟨some 169, _, _, _, _, _⟩) 42 rfl (by kernel_rfl) (by kernel_rfl) (by kernel_rfl) (fun _ _ _ h => h) (by rfl) HT1 ?_
    try simp only [Act.put, pA, pZ, pS]
    refine tkW (oi := ⟨some 170, _, _, _, _, _⟩) (v := ?v43) 43 rfl (by kernel_rfl) (by kernel_rfl) (by kernel_rfl) (fun _ _ _ h => h) (by rfl) ?h43 HT1 ?_
    case h43 => (intro w hS; clear hS; go_simp; try with_reducible rfl)
    try simp only [Act.put, pA, pZ, pS]
    refine tkW (oi := ⟨some 171, _, _, _, _, _⟩) (v := ?v44) 44 rfl (by kernel_rfl) (by kernel_rfl) (by kernel_rfl) (fun _ _ _ h => h) (by rfl) ?h44 HT1 ?_
    case h44 => (intro w hS; clear hS; go_simp; try with_reducible rfl)
    try simp only [Act.put, pA, pZ, pS]
    refine wpAnyH_done (by kernel_rfl) ?_ _
    replace hb := bstep hb HT1
    replace S0 := S0.step HT1
    replace S8 := S8.step HT1
    replace Bk0 := (HT1.block v0 lt0).trans Bk0
    replace lt0 := Nat.lt_of_lt_of_le lt0 HT1.size
    replace Bk8 := (HT1.block v8 lt8).trans Bk8
    replace lt8 := Nat.lt_of_lt_of_le lt8 HT1.size
    clear HT1 HT0 hk1 KS z0 z1 z6 y0 m0_0 m0_1 m0_2 m0_3 m0_4 m8_0 m8_1 m8_2 m8_3 m8_4 r10 rRz
    go_upto_region 17 with (fail)
    generalize wk1 = wA at *
    obtain ⟨p, hp⟩ : ∃ p : Nat, 1 + (q : Int) = (p : Int) := ⟨q + 1, by omega⟩
    rw [hp]
    have hp1 : 1 ≤ p := by omega
    have hp2 : p < s0.M.G.length := by omega
    have pl : (p : Int) < (s0.M.G.length : Int) := by omega
    have pl0 : (0 : Int) ≤ (p : Int) := by omega
    have HTT := turn_two (m := s0.M) hp1 hp2
    rw [← hp] at HTT
    have hMe : s3.M = mTurn s0.M (1 + (q : Int)) 2 := by rw [HY.out]
    rw [← hMe] at HTT
    clear hMe
    obtain ⟨gG, oG, eG, hbG, hatG⟩ := S0.G (by omega)
    obtain ⟨gH, oH, eH, hbH, hatH⟩ := S8.G (by rw [E3.out.2.1]; omega)
    subst eG eH
    have cS : wA.cell? ⟨gG, oG + p, none⟩ = some (.int .i64 (s0.M.G.getD p 0)) := hatG p _ (by rw [List.getD_eq_getElem?_getD, List.getElem?_eq_getElem hp2]; rfl)
    have cT : wA.cell? ⟨gH, oH + p, none⟩ = some (.int .i64 (s3.M.G.getD p 0)) := hatH p _ (by rw [List.getD_eq_getElem?_getD, List.getElem?_eq_getElem (show p < s3.M.G.length by rw [E3.out.2.1]; exact hp2)]; rfl)
    clear hatG hatH
    obtain ⟨-, m0_1⟩ := cells2 Bk0
    obtain ⟨-, m8_1, m8_2⟩ := cells3 Bk8
    obtain ⟨m0_0, -, m0_2, m0_3, m0_4⟩ := cells5 Bk0
    obtain ⟨m8_0, -, -, m8_3, m8_4⟩ := cells5 Bk8
    obtain ⟨nr, hnr⟩ : ∃ n, n = (pRetired s0).length := ⟨_, rfl⟩
    have hnr2 : nr ≤ 9 * 210 := by rw [hnr]; exact pRetired_le (by omega) HRB.out
    have hnr3 : (pRetired s3).length = nr + 1 := by rw [hnr, HY.out]; exact retired_more HX.out HYR.out
    have HR1 := hid (show ∀ (w : World), RS w s3 A8 (some ⟨gH, oH, none⟩) (some ⟨gD, oD, none⟩) L8 → Calls Try.prog 22 #[.agg #[.slice A8 s0.M.W.length a8, .slice (some ⟨gH, oH, none⟩) s0.M.G.length b8, .bool s3.M.bad, .slice (some ⟨gD, oD, none⟩) s0.C.length c8, .slice L8 s0.L.length d8]] w fun e w' => ∃ (A' : Option Addr) (c' : Nat), e = .returned (.slice A' (nr + 1) c') ∧ Below w.heap.size w w' from fun w k1 => by have h9 := retired_any A8 (some ⟨gH, oH, none⟩) (some ⟨gD, oD, none⟩) L8 a8 b8 c8 d8 s3 w k1.C (by rw [E3.out.2.2.1]; omega) (by omega); rw [E3.out.1, E3.out.2.1, E3.out.2.2.1, E3.out.2.2.2] at h9; exact h9.mono (fun e w' ⟨A', c', h1, _, h2⟩ => ⟨A', c', by rw [← hnr3]; exact h1, h2⟩))
    have HR2 := hid (show ∀ (w : World), RS w s0 A0 (some ⟨gG, oG, none⟩) (some ⟨gC, oC, none⟩) L0 → Calls Try.prog 31 #[.agg #[.slice A0 s0.M.W.length a0, .slice (some ⟨gG, oG, none⟩) s0.M.G.length b0, .bool s0.M.bad, .slice (some ⟨gC, oC, none⟩) s0.C.length c0, .slice L0 s0.L.length d0]] w fun e w' => ∃ (A' : Option Addr) (c' : Nat), e = .returned (.slice A' nr c') ∧ Below w.heap.size w w' from fun w k1 => by have h9 := rretired_any A0 (some ⟨gG, oG, none⟩) (some ⟨gC, oC, none⟩) L0 a0 b0 c0 d0 s0 w k1.C (by omega) (by omega); exact h9.mono (fun e w' ⟨A', c', h1, _, h2⟩ => ⟨A', c', by rw [hnr]; exact h1, h2⟩))
    have nrl : (nr : Int) ≤ 2000 := by omega
    have nr0 : (0 : Int) ≤ (nr : Int) := by omega
    have hnw : IntKind.i64.wrap ((nr : Int) + 1) = (nr : Int) + 1 := IntWalk.i64_in _ (by omega)
    clear hnr hnr2 hnr3
    have hcase : (s0.M.G.getD p 0 = 1 ∧ s3.M.bad = true) ∨ (s0.M.G.getD p 0 = 1 ∧ s3.M.bad = false) ∨ (¬ s0.M.G.getD p 0 = 1 ∧ s3.M.bad = true) := by
      rcases Bool.eq_false_or_eq_true s3.M.bad with h1 | h1 <;> by_cases h2 : s0.M.G.getD p 0 = 1
      · exact Or.inl ⟨h2, h1⟩
      · exact Or.inr (Or.inr ⟨h2, h1⟩)
      · exact Or.inr (Or.inl ⟨h2, h1⟩)
      · rcases HTT.2 with h3 | h3
        · rw [h1] at h3; cases h3
        · exact absurd h3 h2
    rcases hcase with hcase | hcase | hcase
    · obtain ⟨h1, h2⟩ := hcase
      have HBD := hid h2
      have hbd : s3.M.bad = true := h2
      rw [HTT.1 h1] at cT
      rw [h1] at cS
      clear h1 h2 HTT hbd
      obtain ⟨bd, hbq⟩ : ∃ b, b = s3.M.bad := ⟨_, rfl⟩
      rw [← hbq] at m8_2 HR1
      have hbv : bd = true := hbq.trans HBD.out
      clear hbq HBD
      subst hbv
      have KS := hid (show ∀ w', Below wA.heap.size wA w' → (w'.cell? ⟨v0, 0, none⟩ = some (.slice A0 s0.M.W.length a0) ∧ w'.cell? ⟨v0, 1, none⟩ = some (.slice (some ⟨gG, oG, none⟩) s0.M.G.length b0) ∧ w'.cell? ⟨v0, 2, none⟩ = some (.bool s0.M.bad) ∧ w'.cell? ⟨v0, 3, none⟩ = some (.slice (some ⟨gC, oC, none⟩) s0.C.length c0) ∧ w'.cell? ⟨v0, 4, none⟩ = some (.slice L0 s0.L.length d0) ∧ w'.cell? ⟨v8, 0, none⟩ = some (.slice A8 s0.M.W.length a8) ∧ w'.cell? ⟨v8, 1, none⟩ = some (.slice (some ⟨gH, oH, none⟩) s0.M.G.length b8) ∧ w'.cell? ⟨v8, 2, none⟩ = some (.bool true) ∧ w'.cell? ⟨v8, 3, none⟩ = some (.slice (some ⟨gD, oD, none⟩) s0.C.length c8) ∧ w'.cell? ⟨v8, 4, none⟩ = some (.slice L8 s0.L.length d8) ∧ w'.cell? ⟨gG, oG + p, none⟩ = some (.int .i64 1) ∧ w'.cell? ⟨gH, oH + p, none⟩ = some (.int .i64 2)) from fun w' h => ⟨(h.cell lt0).trans m0_0, (h.cell lt0).trans m0_1, (h.cell lt0).trans m0_2, (h.cell lt0).trans m0_3, (h.cell lt0).trans m0_4, (h.cell lt8).trans m8_0, (h.cell lt8).trans m8_1, (h.cell lt8).trans m8_2, (h.cell lt8).trans m8_3, (h.cell lt8).trans m8_4, (h.cell hbG).trans cS, (h.cell hbH).trans cT⟩)
      refine wp_region_held_drew (S := (fun w' => Below wA.heap.size wA w')) (by kernel_rfl) ((Below.refl _ _).drew) (fun HT0 => ?_)
      try dsimp only at HT0
      generalize wA.drew = W0 at HT0 ⊢
      refine tkW (oi := ⟨some 172, _, _, _, _, _⟩) (v := ?v45) 0 rfl (by kernel_rfl) (by kernel_rfl) (by kernel_rfl) (fun _ _ _ h => h) (by rfl) ?h45 HT0 ?_
      case h45 => (intro w hS; clear hS; go_simp; try with_reducible rfl)
      try simp only [Act.put, pA, pZ, pS]
      refine tkW (oi := ⟨some 173, _, _, _, _, _⟩) (v := ?v46) 1 rfl (by kernel_rfl) (by kernel_rfl) (by kernel_rfl) (fun _ _ _ h => h) (by rfl) ?h46 HT0 ?_
      case h46 => (intro w hS; clear hS; go_simp; try with_reducible rfl)
      try simp only [Act.put, pA, pZ, pS]
      refine tkW (oi := ⟨some 174, _, _, _, _, _⟩) (v := ?v47) 2 rfl (by kernel_rfl) (by kernel_rfl) (by kernel_rfl) (fun _ _ _ h => h) (by rfl) ?h47 HT0 ?_
      case h47 => (intro w hS; clear hS; go_simp; try with_reducible rfl)
      try simp only [Act.put, pA, pZ, pS]
      refine tkW (oi := ⟨some 175, _, _, _, _, _⟩) (v := ?v48) 3 rfl (by kernel_rfl) (by kernel_rfl) (by kernel_rfl) (fun _ _ _ h => h) (by rfl) ?h48 HT0 ?_
      case h48 => (intro w hS; clear hS; go_simp; try with_reducible rfl)
      try simp only [Act.put, pA, pZ, pS]
      refine tkW (oi := ⟨some 176, _, _, _, _, _⟩) (v := ?v49) 4 rfl (by kernel_rfl) (by kernel_rfl) (by kernel_rfl) (fun _ _ _ h => h) (by rfl) ?h49 HT0 ?_
      case h49 => (intro w hS; obtain ⟨x0, x1, x2, x3, x4, x5, x6, x7, x8, x9, x10, x11⟩ := KS.out w hS; clear hS; go_simp; try with_reducible rfl)
      try simp only [Act.put, pA, pZ, pS]
      refine tkW (oi := ⟨some 177, _, _, _, _, _⟩) (v := ?v50) 5 rfl (by kernel_rfl) (by kernel_rfl) (by kernel_rfl) (fun _ _ _ h => h) (by rfl) ?h50 HT0 ?_
      case h50 => (intro w hS; clear hS; go_simp; try with_reducible rfl)
      try simp only [Act.put, pA, pZ, pS]
      refine tkW (oi := ⟨some 178, _, _, _, _, _⟩) (v := ?v51) 6 rfl (by kernel_rfl) (by kernel_rfl) (by kernel_rfl) (fun _ _ _ h => h) (by rfl) ?h51 HT0 ?_
      case h51 => (intro w hS; clear hS; go_simp; try with_reducible rfl)
      try simp only [Act.put, pA, pZ, pS]
      refine tkW (oi := ⟨some 179, _, _, _, _, _⟩) (v := ?v52) 7 rfl (by kernel_rfl) (by kernel_rfl) (by kernel_rfl) (fun _ _ _ h => h) (by rfl) ?h52 HT0 ?_
      case h52 => (intro w hS; obtain ⟨x0, x1, x2, x3, x4, x5, x6, x7, x8, x9, x10, x11⟩ := KS.out w hS; clear hS; go_simp; try with_reducible rfl)
      try simp only [Act.put, pA, pZ, pS]
      refine tkW (oi := ⟨some 180, _, _, _, _, _⟩) (v := ?v53) 8 rfl (by kernel_rfl) (by kernel_rfl) (by kernel_rfl) (fun _ _ _ h => h) (by rfl) ?h53 HT0 ?_
      case h53 => (intro w hS; clear hS; go_simp; try with_reducible rfl)
      try simp only [Act.put, pA, pZ, pS]
      refine tkW (oi := ⟨some 181, _, _, _, _, _⟩) (v := ?v54) 9 rfl (by kernel_rfl) (by kernel_rfl) (by kernel_rfl) (fun _ _ _ h => h) (by rfl) ?h54 HT0 ?_
      case h54 => (intro w hS; clear hS; go_simp; try with_reducible rfl)
      try simp only [Act.put, pA, pZ, pS]
      refine tkW (oi := ⟨some 182, _, _, _, _, _⟩) (v := ?v55) 10 rfl (by kernel_rfl) (by kernel_rfl) (by kernel_rfl) (fun _ _ _ h => h) (by rfl) ?h55 HT0 ?_
      case h55 => (intro w hS; clear hS; go_simp; try with_reducible rfl)
      try simp only [Act.put, pA, pZ, pS]
      refine tkW (oi := ⟨some 183, _, _, _, _, _⟩) (v := ?v56) 11 rfl (by kernel_rfl) (by kernel_rfl) (by kernel_rfl) (fun _ _ _ h => h) (by rfl) ?h56 HT0 ?_
      case h56 => (intro w hS; clear hS; go_simp; try with_reducible rfl)
      try simp only [Act.put, pA, pZ, pS]
      refine tkW (oi := ⟨some 184, _, _, _, _, _⟩) (v := ?v57) 12 rfl (by kernel_rfl) (by kernel_rfl) (by kernel_rfl) (fun _ _ _ h => h) (by rfl) ?h57 HT0 ?_
      case h57 => (intro w hS; obtain ⟨x0, x1, x2, x3, x4, x5, x6, x7, x8, x9, x10, x11⟩ := KS.out w hS; clear hS; go_simp; try with_reducible rfl)
      try simp only [Act.put, pA, pZ, pS]
      refine tkW (oi := ⟨some 185, _, _, _, _, _⟩) (v := ?v58) 13 rfl (by kernel_rfl) (by kernel_rfl) (by kernel_rfl) (fun _ _ _ h => h) (by rfl) ?h58 HT0 ?_
      case h58 => (intro w hS; clear hS; go_simp; try with_reducible rfl)
      try simp only [Act.put, pA, pZ, pS]
      refine tkW (oi := ⟨some 186, _, _, _, _, _⟩) (v := ?v59) 14 rfl (by kernel_rfl) (by kernel_rfl) (by kernel_rfl) (fun _ _ _ h => h) (by rfl) ?h59 HT0 ?_
      case h59 => (intro w hS; clear hS; go_simp; try with_reducible rfl)
      try simp only [Act.put, pA, pZ, pS]
      refine tkW (oi := ⟨some 187, _, _, _, _, _⟩) (v := ?v60) 15 rfl (by kernel_rfl) (by kernel_rfl) (by kernel_rfl) (fun _ _ _ h => h) (by rfl) ?h60 HT0 ?_
      case h60 => (intro w hS; obtain ⟨x0, x1, x2, x3, x4, x5, x6, x7, x8, x9, x10, x11⟩ := KS.out w hS; clear hS; go_simp; try with_reducible rfl)
      try simp only [Act.put, pA, pZ, pS]
      refine tkW (oi := ⟨some 188, _, _, _, _, _⟩) (v := ?v61) 16 rfl (by kernel_rfl) (by kernel_rfl) (by kernel_rfl) (fun _ _ _ h => h) (by rfl) ?h61 HT0 ?_
      case h61 => (intro w hS; clear hS; go_simp; try with_reducible rfl)
      try simp only [Act.put, pA, pZ, pS]
      refine tkW (oi := ⟨some 189, _, _, _, _, _⟩) (v := ?v62) 17 rfl (by kernel_rfl) (by kernel_rfl) (by kernel_rfl) (fun _ _ _ h => h) (by rfl) ?h62 HT0 ?_
      case h62 => (intro w hS; clear hS; go_simp; try with_reducible rfl)
      try simp only [Act.put, pA, pZ, pS]
      refine tkW (oi := ⟨some 190, _, _, _, _, _⟩) (v := ?v63) 18 rfl (by kernel_rfl) (by kernel_rfl) (by kernel_rfl) (fun _ _ _ h => h) (by rfl) ?h63 HT0 ?_
      case h63 => (intro w hS; clear hS; go_simp; try with_reducible rfl)
      try simp only [Act.put, pA, pZ, pS]
      refine tkW (oi := ⟨some 191, _, _, _, _, _⟩) (v := ?v64) 19 rfl (by kernel_rfl) (by kernel_rfl) (by kernel_rfl) (fun _ _ _ h => h) (by rfl) ?h64 HT0 ?_
      case h64 => (intro w hS; clear hS; go_simp; try with_reducible rfl)
      try simp only [Act.put, pA, pZ, pS]
      refine tkW (oi := ⟨some 192, _, _, _, _, _⟩) (v := ?v65) 20 rfl (by kernel_rfl) (by kernel_rfl) (by kernel_rfl) (fun _ _ _ h => h) (by rfl) ?h65 HT0 ?_
      case h65 => (intro w hS; clear hS; go_simp; try with_reducible rfl)
      try simp only [Act.put, pA, pZ, pS]
      refine tkW (oi := ⟨some 193, _, _, _, _, _⟩) (v := ?v66) 21 rfl (by kernel_rfl) (by kernel_rfl) (by kernel_rfl) (fun _ _ _ h => h) (by rfl) ?h66 HT0 ?_
      case h66 => (intro w hS; clear hS; go_simp; try with_reducible rfl)
      try simp only [Act.put, pA, pZ, pS]
      refine tkW (oi := ⟨some 194, _, _, _, _, _⟩) (v := ?v67) 22 rfl (by kernel_rfl) (by kernel_rfl) (by kernel_rfl) (fun _ _ _ h => h) (by rfl) ?h67 HT0 ?_
      case h67 => (intro w hS; obtain ⟨x0, x1, x2, x3, x4, x5, x6, x7, x8, x9, x10, x11⟩ := KS.out w hS; clear hS; go_simp; try with_reducible rfl)
      try simp only [Act.put, pA, pZ, pS]
      refine tkW (oi := ⟨some 195, _, _, _, _, _⟩) (v := ?v68) 23 rfl (by kernel_rfl) (by kernel_rfl) (by kernel_rfl) (fun _ _ _ h => h) (by rfl) ?h68 HT0 ?_
      case h68 => (intro w hS; clear hS; go_simp; try with_reducible rfl)
      try simp only [Act.put, pA, pZ, pS]
      refine tkU (oi := ⟨some 196, _, _, _, _, _⟩) 24 rfl (by kernel_rfl) (by kernel_rfl) (by kernel_rfl) (fun _ _ _ h => h) (by rfl) HT0 ?_
      try simp only [Act.put, pA, pZ, pS]
      refine tkU (oi := ⟨some 197, _, _, _, _, _⟩) 25 rfl (by kernel_rfl) (by kernel_rfl) (by kernel_rfl) (fun _ _ _ h => h) (by rfl) HT0 ?_
      try simp only [Act.put, pA, pZ, pS]
      refine tkU (oi := ⟨some 198, _, _, _, _, _⟩) 26 rfl (by kernel_rfl) (by kernel_rfl) (by kernel_rfl) (fun _ _ _ h => h) (by rfl) HT0 ?_
      try simp only [Act.put, pA, pZ, pS]
      refine tkU (oi := ⟨some 199, _, _, _, _, _⟩) 27 rfl (by kernel_rfl) (by kernel_rfl) (by kernel_rfl) (fun _ _ _ h => h) (by rfl) HT0 ?_
      try simp only [Act.put, pA, pZ, pS]
      refine tkU (oi := ⟨some 200, _, _, _, _, _⟩) 28 rfl (by kernel_rfl) (by kernel_rfl) (by kernel_rfl) (fun _ _ _ h => h) (by rfl) HT0 ?_
      try simp only [Act.put, pA, pZ, pS]
      refine tkU (oi := ⟨some 201, _, _, _, _, _⟩) 29 rfl (by kernel_rfl) (by kernel_rfl) (by kernel_rfl) (fun _ _ _ h => h) (by rfl) HT0 ?_
      try simp only [Act.put, pA, pZ, pS]
      refine tkU (oi := ⟨some 202, _, _, _, _, _⟩) 30 rfl (by kernel_rfl) (by kernel_rfl) (by kernel_rfl) (fun _ _ _ h => h) (by rfl) HT0 ?_
      try simp only [Act.put, pA, pZ, pS]
      refine tkW (oi := ⟨some 203, _, _, _, _, _⟩) (v := ?v76) 31 rfl (by kernel_rfl) (by kernel_rfl) (by kernel_rfl) (fun _ _ _ h => h) (by rfl) ?h76 HT0 ?_
      case h76 => (intro w hS; clear hS; go_simp; try with_reducible rfl)
      try simp only [Act.put, pA, pZ, pS]
      refine tkW (oi := ⟨some 204, _, _, _, _, _⟩) (v := ?v77) 32 rfl (by kernel_rfl) (by kernel_rfl) (by kernel_rfl) (fun _ _ _ h => h) (by rfl) ?h77 HT0 ?_
      case h77 => (intro w hS; clear hS; go_simp; try with_reducible rfl)
      try simp only [Act.put, pA, pZ, pS]
      refine tkW (oi := ⟨some 205, _, _, _, _, _⟩) (v := ?v78) 33 rfl (by kernel_rfl) (by kernel_rfl) (by kernel_rfl) (fun _ _ _ h => h) (by rfl) ?h78 HT0 ?_
      case h78 => (intro w hS; clear hS; go_simp; try with_reducible rfl)
      try simp only [Act.put, pA, pZ, pS]
      refine tkW (oi := ⟨some 206, _, _, _, _, _⟩) (v := ?v79) 34 rfl (by kernel_rfl) (by kernel_rfl) (by kernel_rfl) (fun _ _ _ h => h) (by rfl) ?h79 HT0 ?_
      case h79 => (intro w hS; obtain ⟨x0, x1, x2, x3, x4, x5, x6, x7, x8, x9, x10, x11⟩ := KS.out w hS; clear hS; go_simp; try with_reducible rfl)
      try simp only [Act.put, pA, pZ, pS]
      refine tkW (oi := ⟨some 209, _, _, _, _, _⟩) (v := ?v80) 37 rfl (by kernel_rfl) (by kernel_rfl) (by kernel_rfl) (fun _ _ _ h => h) (by rfl) ?h80 HT0 ?_
      case h80 => (intro w hS; obtain ⟨x0, x1, x2, x3, x4, x5, x6, x7, x8, x9, x10, x11⟩ := KS.out w hS; clear hS; go_simp; try with_reducible rfl)
      try simp only [Act.put, pA, pZ, pS]
      refine wpAnyH_ready (rs := [35]) (by kernel_rfl) (by simp) ?_
      refine AllReadyH.cons (o := { dst := some 207, op := _, type := _, pos := _, after := _, guard := _ }) rfl (fun K hK => ?_) AllReadyH.nil
      go_simp
      (go_at_call 22; (with_reducible refine (HR1.out _ (S8.step HT0)).mono ?_); rintro e wk1 ⟨AR1, cR1, rfl, hk1⟩)
      have HT1 := bstep HT0 hk1
      refine hK.out _ _ HT1 (fun _ => ?_)
      clear hK K
      try simp only [Act.put, List.setIfInBounds_toArray, List.set_cons_zero, List.set_cons_succ]
      refine tkW (oi := ⟨some 208, _, _, _, _, _⟩) (v := ?v81) 36 rfl (by kernel_rfl) (by kernel_rfl) (by kernel_rfl) (fun _ _ _ h => h) (by rfl) ?h81 HT1 ?_
      case h81 => (intro w hS; clear hS; go_simp; try with_reducible rfl)
      try simp only [Act.put, pA, pZ, pS]
      refine wpAnyH_ready (rs := [38]) (by kernel_rfl) (by simp) ?_
      refine AllReadyH.cons (o := { dst := some 210, op := _, type := _, pos := _, after := _, guard := _ }) rfl (fun K hK => ?_) AllReadyH.nil
      go_simp
      (go_at_call 31; (with_reducible refine (HR2.out _ (S0.step HT1)).mono ?_); rintro e wk2 ⟨AR2, cR2, rfl, hk2⟩)
      have HT2 := bstep HT1 hk2
      refine hK.out _ _ HT2 (fun _ => ?_)
      clear hK K
      try simp only [Act.put, List.setIfInBounds_toArray, List.set_cons_zero, List.set_cons_succ]
      refine tkW (oi := ⟨some 211, _, _, _, _, _⟩) (v := ?v82) 39 rfl (by kernel_rfl) (by kernel_rfl) (by kernel_rfl) (fun _ _ _ h => h) (by rfl) ?h82 HT2 ?_
      case h82 => (intro w hS; clear hS; go_simp; try with_reducible rfl)
      try simp only [Act.put, pA, pZ, pS]
      refine tkW (oi := ⟨some 212, _, _, _, _, _⟩) (v := ?v83) 40 rfl (by kernel_rfl) (by kernel_rfl) (by kernel_rfl) (fun _ _ _ h => h) (by rfl) ?h83 HT2 ?_
      case h83 => (intro w hS; clear hS; go_simp; try with_reducible rfl)
      try simp only [Act.put, pA, pZ, pS]
      refine tkW (oi := ⟨some 213, _, _, _, _, _⟩) (v := ?v84) 41 rfl (by kernel_rfl) (by kernel_rfl) (by kernel_rfl) (fun _ _ _ h => h) (by rfl) ?h84 HT2 ?_
      case h84 => (intro w hS; clear hS; go_simp; try with_reducible rfl)
      try simp only [Act.put, pA, pZ, pS]
      refine tkW (oi := ⟨some 214, _, _, _, _, _⟩) (v := ?v85) 42 rfl (by kernel_rfl) (by kernel_rfl) (by kernel_rfl) (fun _ _ _ h => h) (by rfl) ?h85 HT2 ?_
      case h85 => (intro w hS; clear hS; go_simp; try with_reducible rfl)
      try simp only [Act.put, pA, pZ, pS]
      refine tkW (oi := ⟨some 6, _, _, _, _, _⟩) (v := ?v86) 43 rfl (by kernel_rfl) (by kernel_rfl) (by kernel_rfl) (fun _ _ _ h => h) (by rfl) ?h86 HT2 ?_
      case h86 => (intro w hS; clear hS; go_simp; try with_reducible rfl)
      try simp only [Act.put, pA, pZ, pS]
      refine wpAnyH_done (by kernel_rfl) ?_ _
      go_wp2_with fail
      go_ret
      exact ⟨rfl, bstep hb HT2⟩
    · obtain ⟨h1, h2⟩ := hcase
      have HBD := hid h2
      have hbd : s3.M.bad = false := h2
      rw [HTT.1 h1] at cT
      rw [h1] at cS
      clear h1 h2 HTT hbd
      obtain ⟨bd, hbq⟩ : ∃ b, b = s3.M.bad := ⟨_, rfl⟩
      rw [← hbq] at m8_2 HR1
      have hbv : bd = false := hbq.trans HBD.out
      clear hbq HBD
      subst hbv
      have KS := hid (show ∀ w', Below wA.heap.size wA w' → (w'.cell? ⟨v0, 0, none⟩ = some (.slice A0 s0.M.W.length a0) ∧ w'.cell? ⟨v0, 1, none⟩ = some (.slice (some ⟨gG, oG, none⟩) s0.M.G.length b0) ∧ w'.cell? ⟨v0, 2, none⟩ = some (.bool s0.M.bad) ∧ w'.cell? ⟨v0, 3, none⟩ = some (.slice (some ⟨gC, oC, none⟩) s0.C.length c0) ∧ w'.cell? ⟨v0, 4, none⟩ = some (.slice L0 s0.L.length d0) ∧ w'.cell? ⟨v8, 0, none⟩ = some (.slice A8 s0.M.W.length a8) ∧ w'.cell? ⟨v8, 1, none⟩ = some (.slice (some ⟨gH, oH, none⟩) s0.M.G.length b8) ∧ w'.cell? ⟨v8, 2, none⟩ = some (.bool false) ∧ w'.cell? ⟨v8, 3, none⟩ = some (.slice (some ⟨gD, oD, none⟩) s0.C.length c8) ∧ w'.cell? ⟨v8, 4, none⟩ = some (.slice L8 s0.L.length d8) ∧ w'.cell? ⟨gG, oG + p, none⟩ = some (.int .i64 1) ∧ w'.cell? ⟨gH, oH + p, none⟩ = some (.int .i64 2)) from fun w' h => ⟨(h.cell lt0).trans m0_0, (h.cell lt0).trans m0_1, (h.cell lt0).trans m0_2, (h.cell lt0).trans m0_3, (h.cell lt0).trans m0_4, (h.cell lt8).trans m8_0, (h.cell lt8).trans m8_1, (h.cell lt8).trans m8_2, (h.cell lt8).trans m8_3, (h.cell lt8).trans m8_4, (h.cell hbG).trans cS, (h.cell hbH).trans cT⟩)
      refine wp_region_held_drew (S := (fun w' => Below wA.heap.size wA w')) (by kernel_rfl) ((Below.refl _ _).drew) (fun HT0 => ?_)
      try dsimp only at HT0
      generalize wA.drew = W0 at HT0 ⊢
      refine tkW (oi := ⟨some 172, _, _, _, _, _⟩) (v := ?v87) 0 rfl (by kernel_rfl) (by kernel_rfl) (by kernel_rfl) (fun _ _ _ h => h) (by rfl) ?h87 HT0 ?_
      case h87 => (intro w hS; clear hS; go_simp; try with_reducible rfl)
      try simp only [Act.put, pA, pZ, pS]
      refine tkW (oi := ⟨some 173, _, _, _, _, _⟩) (v := ?v88) 1 rfl (by kernel_rfl) (by kernel_rfl) (by kernel_rfl) (fun _ _ _ h => h) (by rfl) ?h88 HT0 ?_
      case h88 => (intro w hS; clear hS; go_simp; try with_reducible rfl)
      try simp only [Act.put, pA, pZ, pS]
      refine tkW (oi := ⟨some 174, _, _, _, _, _⟩) (v := ?v89) 2 rfl (by kernel_rfl) (by kernel_rfl) (by kernel_rfl) (fun _ _ _ h => h) (by rfl) ?h89 HT0 ?_
      case h89 => (intro w hS; clear hS; go_simp; try with_reducible rfl)
      try simp only [Act.put, pA, pZ, pS]
      refine tkW (oi := ⟨some 175, _, _, _, _, _⟩) (v := ?v90) 3 rfl (by kernel_rfl) (by kernel_rfl) (by kernel_rfl) (fun _ _ _ h => h) (by rfl) ?h90 HT0 ?_
      case h90 => (intro w hS; clear hS; go_simp; try with_reducible rfl)
      try simp only [Act.put, pA, pZ, pS]
      refine tkW (oi := ⟨some 176, _, _, _, _, _⟩) (v := ?v91) 4 rfl (by kernel_rfl) (by kernel_rfl) (by kernel_rfl) (fun _ _ _ h => h) (by rfl) ?h91 HT0 ?_
      case h91 => (intro w hS; obtain ⟨x0, x1, x2, x3, x4, x5, x6, x7, x8, x9, x10, x11⟩ := KS.out w hS; clear hS; go_simp; try with_reducible rfl)
      try simp only [Act.put, pA, pZ, pS]
      refine tkW (oi := ⟨some 177, _, _, _, _, _⟩) (v := ?v92) 5 rfl (by kernel_rfl) (by kernel_rfl) (by kernel_rfl) (fun _ _ _ h => h) (by rfl) ?h92 HT0 ?_
      case h92 => (intro w hS; clear hS; go_simp; try with_reducible rfl)
      try simp only [Act.put, pA, pZ, pS]
      refine tkW (oi := ⟨some 178, _, _, _, _, _⟩) (v := ?v93) 6 rfl (by kernel_rfl) (by kernel_rfl) (by kernel_rfl) (fun _ _ _ h => h) (by rfl) ?h93 HT0 ?_
      case h93 => (intro w hS; clear hS; go_simp; try with_reducible rfl)
      try simp only [Act.put, pA, pZ, pS]
      refine tkW (oi := ⟨some 179, _, _, _, _, _⟩) (v := ?v94) 7 rfl (by kernel_rfl) (by kernel_rfl) (by kernel_rfl) (fun _ _ _ h => h) (by rfl) ?h94 HT0 ?_
      case h94 => (intro w hS; obtain ⟨x0, x1, x2, x3, x4, x5, x6, x7, x8, x9, x10, x11⟩ := KS.out w hS; clear hS; go_simp; try with_reducible rfl)
      try simp only [Act.put, pA, pZ, pS]
      refine tkW (oi := ⟨some 180, _, _, _, _, _⟩) (v := ?v95) 8 rfl (by kernel_rfl) (by kernel_rfl) (by kernel_rfl) (fun _ _ _ h => h) (by rfl) ?h95 HT0 ?_
      case h95 => (intro w hS; clear hS; go_simp; try with_reducible rfl)
      try simp only [Act.put, pA, pZ, pS]
      refine tkW (oi := ⟨some 181, _, _, _, _, _⟩) (v := ?v96) 9 rfl (by kernel_rfl) (by kernel_rfl) (by kernel_rfl) (fun _ _ _ h => h) (by rfl) ?h96 HT0 ?_
      case h96 => (intro w hS; clear hS; go_simp; try with_reducible rfl)
      try simp only [Act.put, pA, pZ, pS]
      refine tkW (oi := ⟨some 182, _, _, _, _, _⟩) (v := ?v97) 10 rfl (by kernel_rfl) (by kernel_rfl) (by kernel_rfl) (fun _ _ _ h => h) (by rfl) ?h97 HT0 ?_
      case h97 => (intro w hS; clear hS; go_simp; try with_reducible rfl)
      try simp only [Act.put, pA, pZ, pS]
      refine tkW (oi := ⟨some 183, _, _, _, _, _⟩) (v := ?v98) 11 rfl (by kernel_rfl) (by kernel_rfl) (by kernel_rfl) (fun _ _ _ h => h) (by rfl) ?h98 HT0 ?_
      case h98 => (intro w hS; clear hS; go_simp; try with_reducible rfl)
      try simp only [Act.put, pA, pZ, pS]
      refine tkW (oi := ⟨some 184, _, _, _, _, _⟩) (v := ?v99) 12 rfl (by kernel_rfl) (by kernel_rfl) (by kernel_rfl) (fun _ _ _ h => h) (by rfl) ?h99 HT0 ?_
      case h99 => (intro w hS; obtain ⟨x0, x1, x2, x3, x4, x5, x6, x7, x8, x9, x10, x11⟩ := KS.out w hS; clear hS; go_simp; try with_reducible rfl)
      try simp only [Act.put, pA, pZ, pS]
      refine tkW (oi := ⟨some 185, _, _, _, _, _⟩) (v := ?v100) 13 rfl (by kernel_rfl) (by kernel_rfl) (by kernel_rfl) (fun _ _ _ h => h) (by rfl) ?h100 HT0 ?_
      case h100 => (intro w hS; clear hS; go_simp; try with_reducible rfl)
      try simp only [Act.put, pA, pZ, pS]
      refine tkW (oi := ⟨some 186, _, _, _, _, _⟩) (v := ?v101) 14 rfl (by kernel_rfl) (by kernel_rfl) (by kernel_rfl) (fun _ _ _ h => h) (by rfl) ?h101 HT0 ?_
      case h101 => (intro w hS; clear hS; go_simp; try with_reducible rfl)
      try simp only [Act.put, pA, pZ, pS]
      refine tkW (oi := ⟨some 187, _, _, _, _, _⟩) (v := ?v102) 15 rfl (by kernel_rfl) (by kernel_rfl) (by kernel_rfl) (fun _ _ _ h => h) (by rfl) ?h102 HT0 ?_
      case h102 => (intro w hS; obtain ⟨x0, x1, x2, x3, x4, x5, x6, x7, x8, x9, x10, x11⟩ := KS.out w hS; clear hS; go_simp; try with_reducible rfl)
      try simp only [Act.put, pA, pZ, pS]
      refine tkW (oi := ⟨some 188, _, _, _, _, _⟩) (v := ?v103) 16 rfl (by kernel_rfl) (by kernel_rfl) (by kernel_rfl) (fun _ _ _ h => h) (by rfl) ?h103 HT0 ?_
      case h103 => (intro w hS; clear hS; go_simp; try with_reducible rfl)
      try simp only [Act.put, pA, pZ, pS]
      refine tkW (oi := ⟨some 189, _, _, _, _, _⟩) (v := ?v104) 17 rfl (by kernel_rfl) (by kernel_rfl) (by kernel_rfl) (fun _ _ _ h => h) (by rfl) ?h104 HT0 ?_
      case h104 => (intro w hS; clear hS; go_simp; try with_reducible rfl)
      try simp only [Act.put, pA, pZ, pS]
      refine tkW (oi := ⟨some 190, _, _, _, _, _⟩) (v := ?v105) 18 rfl (by kernel_rfl) (by kernel_rfl) (by kernel_rfl) (fun _ _ _ h => h) (by rfl) ?h105 HT0 ?_
      case h105 => (intro w hS; clear hS; go_simp; try with_reducible rfl)
      try simp only [Act.put, pA, pZ, pS]
      refine tkW (oi := ⟨some 191, _, _, _, _, _⟩) (v := ?v106) 19 rfl (by kernel_rfl) (by kernel_rfl) (by kernel_rfl) (fun _ _ _ h => h) (by rfl) ?h106 HT0 ?_
      case h106 => (intro w hS; clear hS; go_simp; try with_reducible rfl)
      try simp only [Act.put, pA, pZ, pS]
      refine tkW (oi := ⟨some 192, _, _, _, _, _⟩) (v := ?v107) 20 rfl (by kernel_rfl) (by kernel_rfl) (by kernel_rfl) (fun _ _ _ h => h) (by rfl) ?h107 HT0 ?_
      case h107 => (intro w hS; clear hS; go_simp; try with_reducible rfl)
      try simp only [Act.put, pA, pZ, pS]
      refine tkW (oi := ⟨some 193, _, _, _, _, _⟩) (v := ?v108) 21 rfl (by kernel_rfl) (by kernel_rfl) (by kernel_rfl) (fun _ _ _ h => h) (by rfl) ?h108 HT0 ?_
      case h108 => (intro w hS; clear hS; go_simp; try with_reducible rfl)
      try simp only [Act.put, pA, pZ, pS]
      refine tkW (oi := ⟨some 194, _, _, _, _, _⟩) (v := ?v109) 22 rfl (by kernel_rfl) (by kernel_rfl) (by kernel_rfl) (fun _ _ _ h => h) (by rfl) ?h109 HT0 ?_
      case h109 => (intro w hS; obtain ⟨x0, x1, x2, x3, x4, x5, x6, x7, x8, x9, x10, x11⟩ := KS.out w hS; clear hS; go_simp; try with_reducible rfl)
      try simp only [Act.put, pA, pZ, pS]
      refine tkW (oi := ⟨some 195, _, _, _, _, _⟩) (v := ?v110) 23 rfl (by kernel_rfl) (by kernel_rfl) (by kernel_rfl) (fun _ _ _ h => h) (by rfl) ?h110 HT0 ?_
      case h110 => (intro w hS; clear hS; go_simp; try with_reducible rfl)
      try simp only [Act.put, pA, pZ, pS]
      refine tkW (oi := ⟨some 196, _, _, _, _, _⟩) (v := ?v111) 24 rfl (by kernel_rfl) (by kernel_rfl) (by kernel_rfl) (fun _ _ _ h => h) (by rfl) ?h111 HT0 ?_
      case h111 => (intro w hS; clear hS; go_simp; try with_reducible rfl)
      try simp only [Act.put, pA, pZ, pS]
      refine tkW (oi := ⟨some 197, _, _, _, _, _⟩) (v := ?v112) 25 rfl (by kernel_rfl) (by kernel_rfl) (by kernel_rfl) (fun _ _ _ h => h) (by rfl) ?h112 HT0 ?_
      case h112 => (intro w hS; clear hS; go_simp; try with_reducible rfl)
      try simp only [Act.put, pA, pZ, pS]
      refine tkW (oi := ⟨some 198, _, _, _, _, _⟩) (v := ?v113) 26 rfl (by kernel_rfl) (by kernel_rfl) (by kernel_rfl) (fun _ _ _ h => h) (by rfl) ?h113 HT0 ?_
      case h113 => (intro w hS; obtain ⟨x0, x1, x2, x3, x4, x5, x6, x7, x8, x9, x10, x11⟩ := KS.out w hS; clear hS; go_simp; try with_reducible rfl)
      try simp only [Act.put, pA, pZ, pS]
      refine tkW (oi := ⟨some 199, _, _, _, _, _⟩) (v := ?v114) 27 rfl (by kernel_rfl) (by kernel_rfl) (by kernel_rfl) (fun _ _ _ h => h) (by rfl) ?h114 HT0 ?_
      case h114 => (intro w hS; clear hS; go_simp; try with_reducible rfl)
      try simp only [Act.put, pA, pZ, pS]
      refine tkW (oi := ⟨some 200, _, _, _, _, _⟩) (v := ?v115) 28 rfl (by kernel_rfl) (by kernel_rfl) (by kernel_rfl) (fun _ _ _ h => h) (by rfl) ?h115 HT0 ?_
      case h115 => (intro w hS; clear hS; go_simp; try with_reducible rfl)
      try simp only [Act.put, pA, pZ, pS]
      refine tkW (oi := ⟨some 201, _, _, _, _, _⟩) (v := ?v116) 29 rfl (by kernel_rfl) (by kernel_rfl) (by kernel_rfl) (fun _ _ _ h => h) (by rfl) ?h116 HT0 ?_
      case h116 => (intro w hS; obtain ⟨x0, x1, x2, x3, x4, x5, x6, x7, x8, x9, x10, x11⟩ := KS.out w hS; clear hS; go_simp; try with_reducible rfl)
      try simp only [Act.put, pA, pZ, pS]
      refine tkW (oi := ⟨some 202, _, _, _, _, _⟩) (v := ?v117) 30 rfl (by kernel_rfl) (by kernel_rfl) (by kernel_rfl) (fun _ _ _ h => h) (by rfl) ?h117 HT0 ?_
      case h117 => (intro w hS; clear hS; go_simp; try with_reducible rfl)
      try simp only [Act.put, pA, pZ, pS]
      refine tkW (oi := ⟨some 203, _, _, _, _, _⟩) (v := ?v118) 31 rfl (by kernel_rfl) (by kernel_rfl) (by kernel_rfl) (fun _ _ _ h => h) (by rfl) ?h118 HT0 ?_
      case h118 => (intro w hS; clear hS; go_simp; try with_reducible rfl)
      try simp only [Act.put, pA, pZ, pS]
      refine tkW (oi := ⟨some 204, _, _, _, _, _⟩) (v := ?v119) 32 rfl (by kernel_rfl) (by kernel_rfl) (by kernel_rfl) (fun _ _ _ h => h) (by rfl) ?h119 HT0 ?_
      case h119 => (intro w hS; clear hS; go_simp; try with_reducible rfl)
      try simp only [Act.put, pA, pZ, pS]
      refine tkW (oi := ⟨some 205, _, _, _, _, _⟩) (v := ?v120) 33 rfl (by kernel_rfl) (by kernel_rfl) (by kernel_rfl) (fun _ _ _ h => h) (by rfl) ?h120 HT0 ?_
      case h120 => (intro w hS; clear hS; go_simp; try with_reducible rfl)
      try simp only [Act.put, pA, pZ, pS]
      refine tkW (oi := ⟨some 206, _, _, _, _, _⟩) (v := ?v121) 34 rfl (by kernel_rfl) (by kernel_rfl) (by kernel_rfl) (fun _ _ _ h => h) (by rfl) ?h121 HT0 ?_
      case h121 => (intro w hS; obtain ⟨x0, x1, x2, x3, x4, x5, x6, x7, x8, x9, x10, x11⟩ := KS.out w hS; clear hS; go_simp; try with_reducible rfl)
      try simp only [Act.put, pA, pZ, pS]
      refine tkW (oi := ⟨some 209, _, _, _, _, _⟩) (v := ?v122) 37 rfl (by kernel_rfl) (by kernel_rfl) (by kernel_rfl) (fun _ _ _ h => h) (by rfl) ?h122 HT0 ?_
      case h122 => (intro w hS; obtain ⟨x0, x1, x2, x3, x4, x5, x6, x7, x8, x9, x10, x11⟩ := KS.out w hS; clear hS; go_simp; try with_reducible rfl)
      try simp only [Act.put, pA, pZ, pS]
      refine wpAnyH_ready (rs := [35]) (by kernel_rfl) (by simp) ?_
      refine AllReadyH.cons (o := { dst := some 207, op := _, type := _, pos := _, after := _, guard := _ }) rfl (fun K hK => ?_) AllReadyH.nil
      go_simp
      (go_at_call 22; (with_reducible refine (HR1.out _ (S8.step HT0)).mono ?_); rintro e wk1 ⟨AR1, cR1, rfl, hk1⟩)
      have HT1 := bstep HT0 hk1
      refine hK.out _ _ HT1 (fun _ => ?_)
      clear hK K
      try simp only [Act.put, List.setIfInBounds_toArray, List.set_cons_zero, List.set_cons_succ]
      refine tkW (oi := ⟨some 208, _, _, _, _, _⟩) (v := ?v123) 36 rfl (by kernel_rfl) (by kernel_rfl) (by kernel_rfl) (fun _ _ _ h => h) (by rfl) ?h123 HT1 ?_
      case h123 => (intro w hS; clear hS; go_simp; try with_reducible rfl)
      try simp only [Act.put, pA, pZ, pS]
      refine wpAnyH_ready (rs := [38]) (by kernel_rfl) (by simp) ?_
      refine AllReadyH.cons (o := { dst := some 210, op := _, type := _, pos := _, after := _, guard := _ }) rfl (fun K hK => ?_) AllReadyH.nil
      go_simp
      (go_at_call 31; (with_reducible refine (HR2.out _ (S0.step HT1)).mono ?_); rintro e wk2 ⟨AR2, cR2, rfl, hk2⟩)
      have HT2 := bstep HT1 hk2
      refine hK.out _ _ HT2 (fun _ => ?_)
      clear hK K
      try simp only [Act.put, List.setIfInBounds_toArray, List.set_cons_zero, List.set_cons_succ]
      refine tkW (oi := ⟨some 211, _, _, _, _, _⟩) (v := ?v124) 39 rfl (by kernel_rfl) (by kernel_rfl) (by kernel_rfl) (fun _ _ _ h => h) (by rfl) ?h124 HT2 ?_
      case h124 => (intro w hS; clear hS; go_simp; try with_reducible rfl)
      try simp only [Act.put, pA, pZ, pS]
      refine tkW (oi := ⟨some 212, _, _, _, _, _⟩) (v := ?v125) 40 rfl (by kernel_rfl) (by kernel_rfl) (by kernel_rfl) (fun _ _ _ h => h) (by rfl) ?h125 HT2 ?_
      case h125 => (intro w hS; clear hS; go_simp; try with_reducible rfl)
      try simp only [Act.put, pA, pZ, pS]
      refine tkW (oi := ⟨some 213, _, _, _, _, _⟩) (v := ?v126) 41 rfl (by kernel_rfl) (by kernel_rfl) (by kernel_rfl) (fun _ _ _ h => h) (by rfl) ?h126 HT2 ?_
      case h126 => (intro w hS; clear hS; go_simp; try with_reducible rfl)
      try simp only [Act.put, pA, pZ, pS]
      refine tkW (oi := ⟨some 214, _, _, _, _, _⟩) (v := ?v127) 42 rfl (by kernel_rfl) (by kernel_rfl) (by kernel_rfl) (fun _ _ _ h => h) (by rfl) ?h127 HT2 ?_
      case h127 => (intro w hS; clear hS; go_simp; try with_reducible rfl)
      try simp only [Act.put, pA, pZ, pS]
      refine tkW (oi := ⟨some 6, _, _, _, _, _⟩) (v := ?v128) 43 rfl (by kernel_rfl) (by kernel_rfl) (by kernel_rfl) (fun _ _ _ h => h) (by rfl) ?h128 HT2 ?_
      case h128 => (intro w hS; clear hS; go_simp; try with_reducible rfl)
      try simp only [Act.put, pA, pZ, pS]
      refine wpAnyH_done (by kernel_rfl) ?_ _
      go_wp2_with fail
      go_ret
      exact ⟨rfl, bstep hb HT2⟩
    · obtain ⟨h1, h2⟩ := hcase
      have HBD := hid h2
      have hbd : s3.M.bad = true := h2
      obtain ⟨gv, hgv⟩ : ∃ g, g = s0.M.G.getD p 0 := ⟨_, rfl⟩
      obtain ⟨hv9, hhv⟩ : ∃ g, g = s3.M.G.getD p 0 := ⟨_, rfl⟩
      rw [← hgv] at cS h1
      rw [← hhv] at cT
      have hgn : (gv != 1) = true := by simpa using h1
      clear h1 h2 HTT hbd hgv hhv
      obtain ⟨bd, hbq⟩ : ∃ b, b = s3.M.bad := ⟨_, rfl⟩
      rw [← hbq] at m8_2 HR1
      have hbv : bd = true := hbq.trans HBD.out
      clear hbq HBD
      subst hbv
      have KS := hid (show ∀ w', Below wA.heap.size wA w' → (w'.cell? ⟨v0, 0, none⟩ = some (.slice A0 s0.M.W.length a0) ∧ w'.cell? ⟨v0, 1, none⟩ = some (.slice (some ⟨gG, oG, none⟩) s0.M.G.length b0) ∧ w'.cell? ⟨v0, 2, none⟩ = some (.bool s0.M.bad) ∧ w'.cell? ⟨v0, 3, none⟩ = some (.slice (some ⟨gC, oC, none⟩) s0.C.length c0) ∧ w'.cell? ⟨v0, 4, none⟩ = some (.slice L0 s0.L.length d0) ∧ w'.cell? ⟨v8, 0, none⟩ = some (.slice A8 s0.M.W.length a8) ∧ w'.cell? ⟨v8, 1, none⟩ = some (.slice (some ⟨gH, oH, none⟩) s0.M.G.length b8) ∧ w'.cell? ⟨v8, 2, none⟩ = some (.bool true) ∧ w'.cell? ⟨v8, 3, none⟩ = some (.slice (some ⟨gD, oD, none⟩) s0.C.length c8) ∧ w'.cell? ⟨v8, 4, none⟩ = some (.slice L8 s0.L.length d8) ∧ w'.cell? ⟨gG, oG + p, none⟩ = some (.int .i64 gv) ∧ w'.cell? ⟨gH, oH + p, none⟩ = some (.int .i64 hv9)) from fun w' h => ⟨(h.cell lt0).trans m0_0, (h.cell lt0).trans m0_1, (h.cell lt0).trans m0_2, (h.cell lt0).trans m0_3, (h.cell lt0).trans m0_4, (h.cell lt8).trans m8_0, (h.cell lt8).trans m8_1, (h.cell lt8).trans m8_2, (h.cell lt8).trans m8_3, (h.cell lt8).trans m8_4, (h.cell hbG).trans cS, (h.cell hbH).trans cT⟩)
      refine wp_region_held_drew (S := (fun w' => Below wA.heap.size wA w')) (by kernel_rfl) ((Below.refl _ _).drew) (fun HT0 => ?_)
      try dsimp only at HT0
      generalize wA.drew = W0 at HT0 ⊢
      refine tkW (oi := ⟨some 172, _, _, _, _, _⟩) (v := ?v129) 0 rfl (by kernel_rfl) (by kernel_rfl) (by kernel_rfl) (fun _ _ _ h => h) (by rfl) ?h129 HT0 ?_
      case h129 => (intro w hS; clear hS; go_simp; try with_reducible rfl)
      try simp only [Act.put, pA, pZ, pS]
      refine tkW (oi := ⟨some 173, _, _, _, _, _⟩) (v := ?v130) 1 rfl (by kernel_rfl) (by kernel_rfl) (by kernel_rfl) (fun _ _ _ h => h) (by rfl) ?h130 HT0 ?_
      case h130 => (intro w hS; clear hS; go_simp; try with_reducible rfl)
      try simp only [Act.put, pA, pZ, pS]
      refine tkW (oi := ⟨some 174, _, _, _, _, _⟩) (v := ?v131) 2 rfl (by kernel_rfl) (by kernel_rfl) (by kernel_rfl) (fun _ _ _ h => h) (by rfl) ?h131 HT0 ?_
      case h131 => (intro w hS; clear hS; go_simp; try with_reducible rfl)
      try simp only [Act.put, pA, pZ, pS]
      refine tkW (oi := ⟨some 175, _, _, _, _, _⟩) (v := ?v132) 3 rfl (by kernel_rfl) (by kernel_rfl) (by kernel_rfl) (fun _ _ _ h => h) (by rfl) ?h132 HT0 ?_
      case h132 => (intro w hS; clear hS; go_simp; try with_reducible rfl)
      try simp only [Act.put, pA, pZ, pS]
      refine tkW (oi := ⟨some 176, _, _, _, _, _⟩) (v := ?v133) 4 rfl (by kernel_rfl) (by kernel_rfl) (by kernel_rfl) (fun _ _ _ h => h) (by rfl) ?h133 HT0 ?_
      case h133 => (intro w hS; obtain ⟨x0, x1, x2, x3, x4, x5, x6, x7, x8, x9, x10, x11⟩ := KS.out w hS; clear hS; go_simp; try with_reducible rfl)
      try simp only [Act.put, pA, pZ, pS]
      refine tkW (oi := ⟨some 177, _, _, _, _, _⟩) (v := ?v134) 5 rfl (by kernel_rfl) (by kernel_rfl) (by kernel_rfl) (fun _ _ _ h => h) (by rfl) ?h134 HT0 ?_
      case h134 => (intro w hS; clear hS; go_simp; try with_reducible rfl)
      try simp only [Act.put, pA, pZ, pS]
      refine tkW (oi := ⟨some 178, _, _, _, _, _⟩) (v := ?v135) 6 rfl (by kernel_rfl) (by kernel_rfl) (by kernel_rfl) (fun _ _ _ h => h) (by rfl) ?h135 HT0 ?_
      case h135 => (intro w hS; clear hS; go_simp; try with_reducible rfl)
      try simp only [Act.put, pA, pZ, pS]
      refine tkW (oi := ⟨some 179, _, _, _, _, _⟩) (v := ?v136) 7 rfl (by kernel_rfl) (by kernel_rfl) (by kernel_rfl) (fun _ _ _ h => h) (by rfl) ?h136 HT0 ?_
      case h136 => (intro w hS; obtain ⟨x0, x1, x2, x3, x4, x5, x6, x7, x8, x9, x10, x11⟩ := KS.out w hS; clear hS; go_simp; try with_reducible rfl)
      try simp only [Act.put, pA, pZ, pS]
      refine tkW (oi := ⟨some 180, _, _, _, _, _⟩) (v := ?v137) 8 rfl (by kernel_rfl) (by kernel_rfl) (by kernel_rfl) (fun _ _ _ h => h) (by rfl) ?h137 HT0 ?_
      case h137 => (intro w hS; clear hS; go_simp; try with_reducible rfl)
      try simp only [Act.put, pA, pZ, pS]
      refine tkW (oi := ⟨some 181, _, _, _, _, _⟩) (v := ?v138) 9 rfl (by kernel_rfl) (by kernel_rfl) (by kernel_rfl) (fun _ _ _ h => h) (by rfl) ?h138 HT0 ?_
      case h138 => (intro w hS; clear hS; go_simp; try with_reducible rfl)
      try simp only [Act.put, pA, pZ, pS]
      refine tkU (oi := ⟨some 182, _, _, _, _, _⟩) 10 rfl (by kernel_rfl) (by kernel_rfl) (by kernel_rfl) (fun _ _ _ h => h) (by rfl) HT0 ?_
      try simp only [Act.put, pA, pZ, pS]
      refine tkU (oi := ⟨some 183, _, _, _, _, _⟩) 11 rfl (by kernel_rfl) (by kernel_rfl) (by kernel_rfl) (fun _ _ _ h => h) (by rfl) HT0 ?_
      try simp only [Act.put, pA, pZ, pS]
      refine tkU (oi := ⟨some 184, _, _, _, _, _⟩) 12 rfl (by kernel_rfl) (by kernel_rfl) (by kernel_rfl) (fun _ _ _ h => h) (by rfl) HT0 ?_
      try simp only [Act.put, pA, pZ, pS]
      refine tkU (oi := ⟨some 185, _, _, _, _, _⟩) 13 rfl (by kernel_rfl) (by kernel_rfl) (by kernel_rfl) (fun _ _ _ h => h) (by rfl) HT0 ?_
      try simp only [Act.put, pA, pZ, pS]
      refine tkU (oi := ⟨some 186, _, _, _, _, _⟩) 14 rfl (by kernel_rfl) (by kernel_rfl) (by kernel_rfl) (fun _ _ _ h => h) (by rfl) HT0 ?_
      try simp only [Act.put, pA, pZ, pS]
      refine tkU (oi := ⟨some 187, _, _, _, _, _⟩) 15 rfl (by kernel_rfl) (by kernel_rfl) (by kernel_rfl) (fun _ _ _ h => h) (by rfl) HT0 ?_
      try simp only [Act.put, pA, pZ, pS]
      refine tkU (oi := ⟨some 188, _, _, _, _, _⟩) 16 rfl (by kernel_rfl) (by kernel_rfl) (by kernel_rfl) (fun _ _ _ h => h) (by rfl) HT0 ?_
      try simp only [Act.put, pA, pZ, pS]
      refine tkW (oi := ⟨some 189, _, _, _, _, _⟩) (v := ?v146) 17 rfl (by kernel_rfl) (by kernel_rfl) (by kernel_rfl) (fun _ _ _ h => h) (by rfl) ?h146 HT0 ?_
      case h146 => (intro w hS; clear hS; go_simp; try with_reducible rfl)
      try simp only [Act.put, pA, pZ, pS]
      refine tkW (oi := ⟨some 190, _, _, _, _, _⟩) (v := ?v147) 18 rfl (by kernel_rfl) (by kernel_rfl) (by kernel_rfl) (fun _ _ _ h => h) (by rfl) ?h147 HT0 ?_
      case h147 => (intro w hS; clear hS; go_simp; try with_reducible rfl)
      try simp only [Act.put, pA, pZ, pS]
      refine tkW (oi := ⟨some 191, _, _, _, _, _⟩) (v := ?v148) 19 rfl (by kernel_rfl) (by kernel_rfl) (by kernel_rfl) (fun _ _ _ h => h) (by rfl) ?h148 HT0 ?_
      case h148 => (intro w hS; clear hS; go_simp; try with_reducible rfl)
      try simp only [Act.put, pA, pZ, pS]
      refine tkW (oi := ⟨some 192, _, _, _, _, _⟩) (v := ?v149) 20 rfl (by kernel_rfl) (by kernel_rfl) (by kernel_rfl) (fun _ _ _ h => h) (by rfl) ?h149 HT0 ?_
      case h149 => (intro w hS; clear hS; go_simp; try with_reducible rfl)
      try simp only [Act.put, pA, pZ, pS]
      refine tkW (oi := ⟨some 193, _, _, _, _, _⟩) (v := ?v150) 21 rfl (by kernel_rfl) (by kernel_rfl) (by kernel_rfl) (fun _ _ _ h => h) (by rfl) ?h150 HT0 ?_
      case h150 => (intro w hS; clear hS; go_simp; try with_reducible rfl)
      try simp only [Act.put, pA, pZ, pS]
      refine tkW (oi := ⟨some 194, _, _, _, _, _⟩) (v := ?v151) 22 rfl (by kernel_rfl) (by kernel_rfl) (by kernel_rfl) (fun _ _ _ h => h) (by rfl) ?h151 HT0 ?_
      case h151 => (intro w hS; obtain ⟨x0, x1, x2, x3, x4, x5, x6, x7, x8, x9, x10, x11⟩ := KS.out w hS; clear hS; go_simp; try with_reducible rfl)
      try simp only [Act.put, pA, pZ, pS]
      refine tkW (oi := ⟨some 195, _, _, _, _, _⟩) (v := ?v152) 23 rfl (by kernel_rfl) (by kernel_rfl) (by kernel_rfl) (fun _ _ _ h => h) (by rfl) ?h152 HT0 ?_
      case h152 => (intro w hS; clear hS; go_simp; try with_reducible rfl)
      try simp only [Act.put, pA, pZ, pS]
      refine tkU (oi := ⟨some 196, _, _, _, _, _⟩) 24 rfl (by kernel_rfl) (by kernel_rfl) (by kernel_rfl) (fun _ _ _ h => h) (by rfl) HT0 ?_
      try simp only [Act.put, pA, pZ, pS]
      refine tkU (oi := ⟨some 197, _, _, _, _, _⟩) 25 rfl (by kernel_rfl) (by kernel_rfl) (by kernel_rfl) (fun _ _ _ h => h) (by rfl) HT0 ?_
      try simp only [Act.put, pA, pZ, pS]
      refine tkU (oi := ⟨some 198, _, _, _, _, _⟩) 26 rfl (by kernel_rfl) (by kernel_rfl) (by kernel_rfl) (fun _ _ _ h => h) (by rfl) HT0 ?_
      try simp only [Act.put, pA, pZ, pS]
      refine tkU (oi := ⟨some 199, _, _, _, _, _⟩) 27 rfl (by kernel_rfl) (by kernel_rfl) (by kernel_rfl) (fun _ _ _ h => h) (by rfl) HT0 ?_
      try simp only [Act.put, pA, pZ, pS]
      refine tkU (oi := ⟨some 200, _, _, _, _, _⟩) 28 rfl (by kernel_rfl) (by kernel_rfl) (by kernel_rfl) (fun _ _ _ h => h) (by rfl) HT0 ?_
      try simp only [Act.put, pA, pZ, pS]
      refine tkU (oi := ⟨some 201, _, _, _, _, _⟩) 29 rfl (by kernel_rfl) (by kernel_rfl) (by kernel_rfl) (fun _ _ _ h => h) (by rfl) HT0 ?_
      try simp only [Act.put, pA, pZ, pS]
      refine tkU (oi := ⟨some 202, _, _, _, _, _⟩) 30 rfl (by kernel_rfl) (by kernel_rfl) (by kernel_rfl) (fun _ _ _ h => h) (by rfl) HT0 ?_
      try simp only [Act.put, pA, pZ, pS]
      refine tkW (oi := ⟨some 203, _, _, _, _, _⟩) (v := ?v160) 31 rfl (by kernel_rfl) (by kernel_rfl) (by kernel_rfl) (fun _ _ _ h => h) (by rfl) ?h160 HT0 ?_
      case h160 => (intro w hS; clear hS; go_simp; try with_reducible rfl)
      try simp only [Act.put, pA, pZ, pS]
      refine tkW (oi := ⟨some 204, _, _, _, _, _⟩) (v := ?v161) 32 rfl (by kernel_rfl) (by kernel_rfl) (by kernel_rfl) (fun _ _ _ h => h) (by rfl) ?h161 HT0 ?_
      case h161 => (intro w hS; clear hS; go_simp; try with_reducible rfl)
      try simp only [Act.put, pA, pZ, pS]
      refine tkW (oi := ⟨some 205, _, _, _, _, _⟩) (v := ?v162) 33 rfl (by kernel_rfl) (by kernel_rfl) (by kernel_rfl) (fun _ _ _ h => h) (by rfl) ?h162 HT0 ?_
      case h162 => (intro w hS; clear hS; go_simp; try with_reducible rfl)
      try simp only [Act.put, pA, pZ, pS]
      refine tkW (oi := ⟨some 206, _, _, _, _, _⟩) (v := ?v163) 34 rfl (by kernel_rfl) (by kernel_rfl) (by kernel_rfl) (fun _ _ _ h => h) (by rfl) ?h163 HT0 ?_
      case h163 => (intro w hS; obtain ⟨x0, x1, x2, x3, x4, x5, x6, x7, x8, x9, x10, x11⟩ := KS.out w hS; clear hS; go_simp; try with_reducible rfl)
      try simp only [Act.put, pA, pZ, pS]
      refine tkW (oi := ⟨some 209, _, _, _, _, _⟩) (v := ?v164) 37 rfl (by kernel_rfl) (by kernel_rfl) (by kernel_rfl) (fun _ _ _ h => h) (by rfl) ?h164 HT0 ?_
      case h164 => (intro w hS; obtain ⟨x0, x1, x2, x3, x4, x5, x6, x7, x8, x9, x10, x11⟩ := KS.out w hS; clear hS; go_simp; try with_reducible rfl)
      try simp only [Act.put, pA, pZ, pS]
      refine wpAnyH_ready (rs := [35]) (by kernel_rfl) (by simp) ?_
      refine AllReadyH.cons (o := { dst := some 207, op := _, type := _, pos := _, after := _, guard := _ }) rfl (fun K hK => ?_) AllReadyH.nil
      go_simp
      (go_at_call 22; (with_reducible refine (HR1.out _ (S8.step HT0)).mono ?_); rintro e wk1 ⟨AR1, cR1, rfl, hk1⟩)
      have HT1 := bstep HT0 hk1
      refine hK.out _ _ HT1 (fun _ => ?_)
      clear hK K
      try simp only [Act.put, List.setIfInBounds_toArray, List.set_cons_zero, List.set_cons_succ]
      refine tkW (oi := ⟨some 208, _, _, _, _, _⟩) (v := ?v165) 36 rfl (by kernel_rfl) (by kernel_rfl) (by kernel_rfl) (fun _ _ _ h => h) (by rfl) ?h165 HT1 ?_
      case h165 => (intro w hS; clear hS; go_simp; try with_reducible rfl)
      try simp only [Act.put, pA, pZ, pS]
      refine wpAnyH_ready (rs := [38]) (by kernel_rfl) (by simp) ?_
      refine AllReadyH.cons (o := { dst := some 210, op := _, type := _, pos := _, after := _, guard := _ }) rfl (fun K hK => ?_) AllReadyH.nil
      go_simp
      (go_at_call 31; (with_reducible refine (HR2.out _ (S0.step HT1)).mono ?_); rintro e wk2 ⟨AR2, cR2, rfl, hk2⟩)
      have HT2 := bstep HT1 hk2
      refine hK.out _ _ HT2 (fun _ => ?_)
      clear hK K
      try simp only [Act.put, List.setIfInBounds_toArray, List.set_cons_zero, List.set_cons_succ]
      refine tkW (oi := ⟨some 211, _, _, _, _, _⟩) (v := ?v166) 39 rfl (by kernel_rfl) (by kernel_rfl) (by kernel_rfl) (fun _ _ _ h => h) (by rfl) ?h166 HT2 ?_
      case h166 => (intro w hS; clear hS; go_simp; try with_reducible rfl)
      try simp only [Act.put, pA, pZ, pS]
      refine tkW (oi := ⟨some 212, _, _, _, _, _⟩) (v := ?v167) 40 rfl (by kernel_rfl) (by kernel_rfl) (by kernel_rfl) (fun _ _ _ h => h) (by rfl) ?h167 HT2 ?_
      case h167 => (intro w hS; clear hS; go_simp; try with_reducible rfl)
      try simp only [Act.put, pA, pZ, pS]
      refine tkW (oi := ⟨some 213, _, _, _, _, _⟩) (v := ?v168) 41 rfl (by kernel_rfl) (by kernel_rfl) (by kernel_rfl) (fun _ _ _ h => h) (by rfl) ?h168 HT2 ?_
      case h168 => (intro w hS; clear hS; go_simp; try with_reducible rfl)
      try simp only [Act.put, pA, pZ, pS]
      refine tkW (oi := ⟨some 214, _, _, _, _, _⟩) (v := ?v169) 42 rfl (by kernel_rfl) (by kernel_rfl) (by kernel_rfl) (fun _ _ _ h => h) (by rfl) ?h169 HT2 ?_
      case h169 => (intro w hS; clear hS; go_simp; try with_reducible rfl)
      try simp only [Act.put, pA, pZ, pS]
      refine tkW (oi := ⟨some 6, _, _, _, _, _⟩) (v := ?v170) 43 rfl (by kernel_rfl) (by kernel_rfl) (by kernel_rfl) (fun _ _ _ h => h) (by rfl) ?h170 HT2 ?_
      case h170 => (intro w hS; clear hS; go_simp; try with_reducible rfl)
      try simp only [Act.put, pA, pZ, pS]
      refine wpAnyH_done (by kernel_rfl) ?_ _
      go_wp2_with fail
      go_ret
      exact ⟨rfl, bstep hb HT2⟩

end ScanRetires
end Go.Proofs.Ythpflcknommpdaa
