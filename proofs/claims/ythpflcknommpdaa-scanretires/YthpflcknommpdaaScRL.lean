/- ScanRetires, where it goes through. -/
import Derived.Test.YthpflcknommpdaaKShS
import Derived.Test.YthpflcknommpdaaKPla
import Derived.Test.YthpflcknommpdaaKScD
import Derived.Test.YthpflcknommpdaaKStA
import Derived.Test.YthpflcknommpdaaKOpe
namespace Go.Proofs.Ythpflcknommpdaa
namespace ScanRetires
open Go.ChangeShapes Go.WideShapes Go.ChangeAt Go.RowKit
set_option linter.unusedVariables false
set_option linter.unusedSimpArgs false

set_option maxRecDepth 100000 in
set_option maxHeartbeats 80000000 in
theorem walk_low (A0 B0 C0 L0 : Option Addr) (a0 b0 c0 d0 : Nat) (s0 : Sy) (n1 n2 : Int) (w0 : World) (u0 : 0 ≤ n1) (u1 : n1 ≤ 255) (u2 : 0 ≤ n2) (u3 : n2 ≤ 255)
    (rW : Row w0 A0 s0.M.W) (rG : Row w0 B0 s0.M.G) (rC : RowC w0 C0 s0.C) (rL : RowE w0 L0 s0.L) (g0 : s0.M.W.length ≤ maxLen) (g1 : s0.M.G.length ≤ maxLen) (g2 : s0.C.length ≤ maxLen) (g3 : s0.L.length ≤ maxLen) (q0 : syMays4 s0 = true) (qF : ∀ (k : Nat) (x : Co), n1.tmod (s0.C.length : Int) = (k : Int) → s0.C[k]? = some x → x.F.length < 38 ∧ x.ret.length < 200) (qL : ∀ (k : Nat) (x : Co), n1.tmod (s0.C.length : Int) = (k : Int) → s0.C[k]? = some x → x.ret.length + 1 < 3 * s0.C.length + 1) :
    Calls Try.prog 5 #[.agg #[.slice A0 s0.M.W.length a0, .slice B0 s0.M.G.length b0, .bool s0.M.bad, .slice C0 s0.C.length c0, .slice L0 s0.L.length d0], .int .u8 n1, .int .u8 n2] w0 fun e w' => e = .returned (.bool true) ∧ Below w0.heap.size w0 w' := by
  have S0 : RS w0 s0 A0 B0 C0 L0 := ⟨rW, rG, rC, rL⟩
  have hb : Below w0.heap.size w0 w0 := Below.refl _ _
  have HC := rmay4_any A0 B0 C0 L0 a0 b0 c0 d0 s0
  rw [q0] at HC
  replace HC := hid (show ∀ w, RS w s0 A0 B0 C0 L0 → Calls Try.prog 8 #[.agg #[.slice A0 s0.M.W.length a0, .slice B0 s0.M.G.length b0, .bool s0.M.bad, .slice C0 s0.C.length c0, .slice L0 s0.L.length d0], .int .i64 40] w fun e w' => e = .returned (.bool true) ∧ Below w.heap.size w w' from fun w h => HC w h.G h.C g1 g0 g2 g3)
  clear rW rG rC rL g0 g1 g2 g3
  go_enter Try.func5, Try.ntmps5
  go_upto_region 1 with (fail)
  have Bk0 := heap_alloc_new w0 (.cells #[.slice A0 s0.M.W.length a0, .slice B0 s0.M.G.length b0, .bool s0.M.bad, .slice C0 s0.C.length c0, .slice L0 s0.L.length d0] 28)
  have lt0 : w0.heap.size < (w0.alloc (.cells #[.slice A0 s0.M.W.length a0, .slice B0 s0.M.G.length b0, .bool s0.M.bad, .slice C0 s0.C.length c0, .slice L0 s0.L.length d0] 28)).heap.size := by simp
  have hk : Below w0.heap.size w0 (w0.alloc (.cells #[.slice A0 s0.M.W.length a0, .slice B0 s0.M.G.length b0, .bool s0.M.bad, .slice C0 s0.C.length c0, .slice L0 s0.L.length d0] 28)) := boxed _ _
  replace S0 := S0.step hk
  replace hb := bstep hb hk
  clear hk
  obtain ⟨v0, hv⟩ : ∃ v, w0.heap.size = v := ⟨_, rfl⟩
  rw [hv] at Bk0 lt0 ⊢
  clear hv
  generalize (w0.alloc (.cells #[.slice A0 s0.M.W.length a0, .slice B0 s0.M.G.length b0, .bool s0.M.bad, .slice C0 s0.C.length c0, .slice L0 s0.L.length d0] 28)) = w1 at *
  go_wp2_with fail
  refine (shown6_any _).mono ?_
  rintro e w2 ⟨rfl, hk⟩
  replace Bk0 := (hk.block v0 lt0).trans Bk0
  replace lt0 := Nat.lt_of_lt_of_le lt0 hk.size
  replace S0 := S0.step hk
  replace hb := bstep hb hk
  clear hk
  go_upto_region 2 with (fail)
  obtain ⟨m0_0, m0_1, m0_2, m0_3, m0_4⟩ := cells5 Bk0
  go_upto_region 4 with (go_at_call 8; refine (HC.out _ S0).mono ?_; rintro e w3 ⟨rfl, hk⟩)
  clear m0_0 m0_1 m0_2 m0_3 m0_4
  replace Bk0 := (hk.block v0 lt0).trans Bk0
  replace lt0 := Nat.lt_of_lt_of_le lt0 hk.size
  replace S0 := S0.step hk
  replace hb := bstep hb hk
  clear hk
  clear HC
  have hmay : sySmall4 s0 = true ∧ syRight s0 = true := by simpa [syMays4] using q0
  have HF := hid (few_of_small (small_of4 hmay.1))
  have hsm := sySmall4_few hmay.1
  have hr := hmay.2
  simp only [syRight, Bool.and_eq_true, decide_eq_true_eq] at hr
  have HR := hid (Rt.of hr.1.1.1)
  obtain ⟨⟨⟨_, hc1⟩, hc8⟩, _⟩ := hr
  have HGB := hid hsm.1
  have HLB := hid hsm.2.2.2.1
  have HRB := hid (show ∀ x ∈ s0.C, x.ret.length ≤ 210 from fun x hx => (hsm.2.2.2.2 x hx).2.1)
  clear hmay q0 hsm
  obtain ⟨k, hk⟩ : ∃ k : Nat, n1.tmod (s0.C.length : Int) = (k : Int) := ⟨(n1.tmod (s0.C.length : Int)).toNat, by rw [Int.tmod_eq_emod_of_nonneg u0, Int.toNat_of_nonneg (Int.emod_nonneg _ (by omega))]⟩
  have hkl : k < s0.C.length := by have h9 := hk; rw [Int.tmod_eq_emod_of_nonneg u0] at h9; have := Int.emod_lt_of_pos n1 (show (0 : Int) < (s0.C.length : Int) by omega); omega
  obtain ⟨x, hx⟩ : ∃ x, s0.C[k]? = some x := ⟨_, List.getElem?_eq_getElem hkl⟩
  obtain ⟨gC, oC, eC, hbl, hat⟩ := S0.C (by omega)
  subst eC
  obtain ⟨AF, AR, cFq, cR, hcs, rF, rR, hcF⟩ := (hat k x hx).cs4
  clear hat
  have y0 : w3.cell? ⟨gC, oC + k * 7, none⟩ = some (.slice AF x.F.length cFq) := hcs 0 _ rfl
  have y6 : w3.cell? ⟨gC, oC + k * 7 + 6, none⟩ = some (.slice AR x.ret.length cR) := hcs 6 _ rfl
  have kl : (k : Int) < (s0.C.length : Int) := by omega
  have hne : ((s0.C.length : Int) == 0) = false := by rw [beq_eq_false_iff_ne]; omega
  have HX := hid hx
  clear hx hcs rF rR hcF
  obtain ⟨m0_0, m0_1, m0_2, m0_3, m0_4⟩ := cells5 Bk0
  have hxF : x.F.length < 38 := (qF k x hk HX.out).1
  have hxr : x.ret.length < 200 := (qF k x hk HX.out).2
  have HLL := hid (qL k x hk HX.out)
  clear qF qL
  have hq : decide ((38 : Int) ≤ (x.F.length : Int)) = false := by simp; omega
  have hq2 : decide ((200 : Int) ≤ (x.ret.length : Int)) = false := by simp; omega
  have gl2 : (2 : Int) ≤ (s0.M.G.length : Int) := by have := HR.out.g2; omega
  have gl3 : (s0.M.G.length : Int) ≤ 41 := by have := HGB.out; omega
  go_upto_region 7 with (fail)
  obtain ⟨q, hqe⟩ : ∃ q : Nat, n2.tmod ((s0.M.G.length : Int) - 1) = (q : Int) := ⟨(n2.tmod ((s0.M.G.length : Int) - 1)).toNat, by rw [Int.tmod_eq_emod_of_nonneg u2, Int.toNat_of_nonneg (Int.emod_nonneg _ (by omega))]⟩
  have hql : (q : Int) + 1 < (s0.M.G.length : Int) := by have h9 := hqe; rw [Int.tmod_eq_emod_of_nonneg u2] at h9; have := Int.emod_lt_of_pos n2 (show (0 : Int) < (s0.M.G.length : Int) - 1 by omega); omega
  have hne3 : ((s0.M.G.length : Int) - 1 == 0) = false := by rw [beq_eq_false_iff_ne]; omega
  have q40 : (q : Int) ≤ 40 := by omega
  obtain ⟨s2, hs2⟩ : ∃ s, s = pCall s0 (k : Int) (frR (1 + (q : Int)) 0) := ⟨_, rfl⟩
  obtain ⟨s3, hs3⟩ : ∃ s, s = pScan s2 (k : Int) := ⟨_, rfl⟩
  have HK := hid (show ∀ (w : World), RS w s0 A0 B0 (some ⟨gC, oC, none⟩) L0 → Calls Try.prog 29 #[(.agg #[.slice A0 s0.M.W.length a0, .slice B0 s0.M.G.length b0, .bool s0.M.bad, .slice (some ⟨gC, oC, none⟩) s0.C.length c0, .slice L0 s0.L.length d0]), .int .i64 (k : Int), .int .i64 5, .int .i64 (1 + (q : Int)), .int .i64 0, .int .i64 0] w (RetSys w s2) from fun w h => by rw [hs2]; exact rcall_u A0 B0 (some ⟨gC, oC, none⟩) L0 a0 b0 c0 d0 s0 (k : Int) 5 (1 + (q : Int)) 0 0 w HF.out h)
  have HE2 := hid (show s2 = ⟨s0.M, s0.C.set k (cF x (x.F ++ [frR (1 + (q : Int)) 0])), s0.L⟩ from hs2.trans (core_call HX.out (by omega) _))
  obtain ⟨y, HY, HYR, HYC⟩ : ∃ y : Co, Hid (s3 = ⟨mTurn s0.M (1 + (q : Int)) 2, s0.C.set k y, s0.L⟩) ∧ Hid (y.ret = x.ret ++ [1 + (q : Int)]) ∧ Hid ((x.ret.length + 1 < 3 * s0.C.length + 1 ∧ y.F = x.F ∧ y.v = 1 + (q : Int)) ∨ (¬ x.ret.length + 1 < 3 * s0.C.length + 1 ∧ y.F = x.F ++ [frR (1 + (q : Int)) 1, frS 6 0])) := by
    by_cases hl : x.ret.length + 1 < 3 * s0.C.length + 1
    · exact ⟨⟨x.F, 1 + (q : Int), 0, x.x0, x.x1, x.x2, x.ret ++ [1 + (q : Int)]⟩, hid (by rw [hs3, hs2]; exact ret_low HX.out hxF hxr hl), hid rfl, hid (.inl ⟨hl, rfl, rfl⟩)⟩
    · exact ⟨⟨x.F ++ [frR (1 + (q : Int)) 1, frS 6 0], x.v, x.e, x.x0, x.x1, x.x2, x.ret ++ [1 + (q : Int)]⟩, hid (by rw [hs3, hs2]; exact ret_high HX.out hxF hxr hl), hid rfl, hid (.inr ⟨hl, rfl⟩)⟩
  have HF2 := hid (show SyFew s2 ∧ 2 ≤ s2.M.G.length ∧ s2.L.length ≤ 999998 by rw [hs2]; refine ⟨few_call HF.out (Nat.zero_le _) _, ?_, ?_⟩ <;> rw [← hs2, HE2.out] <;> first | exact HR.out.g2 | (have := HLB.out; show s0.L.length ≤ 999998; omega))
  have HS := hid (show ∀ (A B C L : Option Addr) (a b c d : Nat) (w : World), RS w s2 A B C L → Calls Try.prog 28 #[.agg #[.slice A s2.M.W.length a, .slice B s2.M.G.length b, .bool s2.M.bad, .slice C s2.C.length c, .slice L s2.L.length d], .int .i64 (k : Int)] w fun e w' => ∃ (A B C L : Option Addr) (a b c d : Nat), e = .returned (.agg #[.slice A s0.M.W.length a, .slice B s0.M.G.length b, .bool s3.M.bad, .slice C s0.C.length c, .slice L s0.L.length d]) ∧ RS w' s3 A B C L ∧ Below w.heap.size w w' from fun A B C L a b c d w h => by
      have h9 := scst_any A B C L a b c d s2 (k : Int) w HF2.out.1 HF2.out.2.1 h HF2.out.2.2 (fun f hf => by rw [HE2.out, core_top (s := ⟨s0.M, _, s0.L⟩) (set_get HX.out) rfl] at hf; obtain rfl := Option.some.inj hf; simp only [frR, List.getD_cons_zero]; unfold W64; omega)
      rw [← hs3] at h9
      refine h9.mono (fun e w' h => ?_)
      obtain ⟨A, B, C, L, a, b, c, d, e1, r1, r2, r3, r4, r5⟩ := h.weak
      rw [show s3.M.W.length = s0.M.W.length by rw [HY.out]; rfl, show s3.M.G.length = s0.M.G.length by rw [HY.out]; exact (mTurn_len _ _ _).2, show s3.C.length = s0.C.length by rw [HY.out]; simp, show s3.L.length = s0.L.length by rw [HY.out]] at e1
      exact ⟨A, B, C, L, a, b, c, d, e1, ⟨r1, r2, r3, r4⟩, r5⟩)
  clear hs2 hs3
  go_upto_region 8 with (fail)
  go_wp2_with fail
  refine (HK.out _ S0).mono ?_
  rintro e w4 ⟨A7, B7, C7, L7, a7, b7, c7, d7, rfl, tW, tG, tC, tL, hk9⟩
  clear y0 y6
  clear m0_0 m0_1 m0_2 m0_3 m0_4
  replace Bk0 := (hk9.block v0 lt0).trans Bk0
  replace lt0 := Nat.lt_of_lt_of_le lt0 hk9.size
  replace S0 := S0.step hk9
  replace hb := bstep hb hk9
  clear hk9
  have S7 : RS w4 s2 A7 B7 C7 L7 := ⟨tW, tG, tC, tL⟩
  clear tW tG tC tL
  go_wp2_with fail
  refine (HS.out _ _ _ _ _ _ _ _ _ S7).mono ?_
  rintro e w5 ⟨A8, B8, C8, L8, a8, b8, c8, d8, rfl, S8, hk9⟩
  clear S7
  replace Bk0 := (hk9.block v0 lt0).trans Bk0
  replace lt0 := Nat.lt_of_lt_of_le lt0 hk9.size
  replace S0 := S0.step hk9
  replace hb := bstep hb hk9
  clear hk9
  go_upto_region 9 with (fail)
  have Bk8 := heap_alloc_new w5 (.cells #[.slice A8 s0.M.W.length a8, .slice B8 s0.M.G.length b8, .bool s3.M.bad, .slice C8 s0.C.length c8, .slice L8 s0.L.length d8] 28)
  have lt8 : w5.heap.size < (w5.alloc (.cells #[.slice A8 s0.M.W.length a8, .slice B8 s0.M.G.length b8, .bool s3.M.bad, .slice C8 s0.C.length c8, .slice L8 s0.L.length d8] 28)).heap.size := by simp
  have hk : Below w5.heap.size w5 (w5.alloc (.cells #[.slice A8 s0.M.W.length a8, .slice B8 s0.M.G.length b8, .bool s3.M.bad, .slice C8 s0.C.length c8, .slice L8 s0.L.length d8] 28)) := boxed _ _
  have ne0_8 : v0 ≠ w5.heap.size := Nat.ne_of_lt lt0
  have nw8 : w0.heap.size ≤ w5.heap.size := hb.size
  replace Bk0 := (hk.block v0 lt0).trans Bk0
  replace lt0 := Nat.lt_of_lt_of_le lt0 hk.size
  replace S0 := S0.step hk
  replace S8 := S8.step hk
  replace hb := bstep hb hk
  clear hk
  obtain ⟨v8, hv⟩ : ∃ v, w5.heap.size = v := ⟨_, rfl⟩
  replace nw8 := Nat.le_trans nw8 (Nat.le_of_eq hv)
  rw [hv] at Bk8 lt8 ne0_8 ⊢
  clear hv
  generalize (w5.alloc (.cells #[.slice A8 s0.M.W.length a8, .slice B8 s0.M.G.length b8, .bool s3.M.bad, .slice C8 s0.C.length c8, .slice L8 s0.L.length d8] 28)) = w6 at *
  obtain ⟨m0_0, m0_1, m0_2, m0_3, m0_4⟩ := cells5 Bk0
  obtain ⟨m8_0, m8_1, m8_2, m8_3, m8_4⟩ := cells5 Bk8
  go_upto_region 11 with (fail)
  obtain ⟨gC2, oC2, eC2, hbl2, hat2⟩ := S0.C (by omega)
  injection eC2 with eC2
  injection eC2 with eC3 eC4
  subst eC3 eC4
  obtain ⟨AFy, ARy, cFy, cRy, hcy, rFy, rRy, hcFy⟩ := (hat2 k _ HX.out).cs4
  clear hat2
  have y0 : w6.cell? ⟨gC, oC + k * 7, none⟩ = some (.slice AFy x.F.length cFy) := hcy 0 _ rfl
  have y6 : w6.cell? ⟨gC, oC + k * 7 + 6, none⟩ = some (.slice ARy x.ret.length cRy) := hcy 6 _ rfl
  clear hcy
  go_upto_region 12 with (first | (at_builtin; (refine wpList_append_ontoR rfl _ _ _ rfl w6.heap.size Try.underlying22 infoI (.slice (some ⟨w6.heap.size, 0, none⟩) 0 0) 0 [] rfl rfl (own_empty (heap_alloc_new w6 _)) ARy cRy x.ret.length x.ret rfl rfl (rRy.step (boxed _ _)) (by simp; omega) (by simp) ?_); intro v9 wa ho9 hg9) | (at_builtin; (refine wpList_append_ontoR rfl _ _ _ rfl w6.heap.size Try.underlying22 infoI v9 _ ([] ++ x.ret) rfl rfl (own_step ho9 (boxed _ _)) _ _ 1 [1 + (q : Int)] rfl rfl (Blk.row (heap_alloc_new wa (.cells #[.int .i64 (1 + (q : Int))] 3))) (by simp; omega) (by have := hg9.size; simp at this ⊢; omega) ?_); intro v10 w7 ho10 hg10; obtain ⟨A10, c10, rfl, r10⟩ := own_row1 ho10 rfl))
  have hk : Below w6.heap.size w6 w7 := ((((Turn.refl (fun b => w6.heap.size ≤ b) w6).alloc _).grown hg9 (fun g hg => Nat.le_of_eq (Option.some.inj hg))).alloc _ |>.grown hg10 (fun g hg => (ho9.lt g hg).1)).to_below (Nat.le_refl _) (fun _ h => h)
  clear ho9 hg9 hg10 ho10 rFy rRy y0 y6
  clear m0_0 m0_1 m0_2 m0_3 m0_4 m8_0 m8_1 m8_2 m8_3 m8_4
  replace Bk0 := (hk.block v0 lt0).trans Bk0
  replace lt0 := Nat.lt_of_lt_of_le lt0 hk.size
  replace Bk8 := (hk.block v8 lt8).trans Bk8
  replace lt8 := Nat.lt_of_lt_of_le lt8 hk.size
  replace S0 := S0.step hk
  replace S8 := S8.step hk
  replace hb := bstep hb hk
  clear hk
  simp only [List.nil_append] at r10 ⊢
  obtain ⟨m0_0, m0_1, m0_2, m0_3, m0_4⟩ := cells5 Bk0
  obtain ⟨m8_0, m8_1, m8_2, m8_3, m8_4⟩ := cells5 Bk8
  have HLM := hid (show pLimit (s0.C.length : Int) = 3 * (s0.C.length : Int) + 1 from pLimit_in (by omega) (by omega))
  go_upto_region 13 with (go_at_call 26; (with_reducible refine (limit_any _ _).mono ?_); rintro e wz ⟨rfl, rfl⟩)
  have E3 := hid (show s3.M.W.length = s0.M.W.length ∧ s3.M.G.length = s0.M.G.length ∧ s3.C.length = s0.C.length ∧ s3.L.length = s0.L.length by rw [HY.out]; exact ⟨rfl, (mTurn_len _ _ _).2, by simp, rfl⟩)
  have FX := HF.out.2.2.2.2 x (List.mem_of_getElem? HX.out)
  have FEW3 : SyFew s3 := by
    rw [HY.out]
    refine few_mem (s := syWith s0 k y) (few_with HF.out ⟨?_, ?_, ?_⟩) rfl (mTurn_len _ _ _).2
    · rw [HYR.out]; simp; omega
    · rcases HYC.out with ⟨_, h9, _⟩ | ⟨_, h9⟩
      · rw [h9]; omega
      · rw [h9]; simp; omega
    · rcases HYC.out with ⟨_, h9, _⟩ | ⟨_, h9⟩
      · rw [h9]; exact FX.2.2
      · rw [h9]; intro f hf
        rcases List.mem_append.1 hf with h | h
        · exact FX.2.2 f h
        · simp at h; rcases h with rfl | rfl <;> simp [frR, frS]
  clear FX
  obtain ⟨scb, HB⟩ : ∃ b : Bool, Hid (b = decide (¬ x.ret.length + 1 < 3 * s0.C.length + 1)) := ⟨_, hid rfl⟩
  obtain ⟨op, pc, r0, r1, r2, r3, r4, r5, r6, r7, xs, isb, HTP, HSC⟩ : ∃ (op pc r0 r1 r2 r3 r4 r5 r6 r7 : Int) (xs : List Int) (isb : Bool), Hid (∀ (A B C L : Option Addr) (a b c d : Nat) (w : World), RS w s3 A B C L → Calls Try.prog 25 #[.agg #[.slice A s0.M.W.length a, .slice B s0.M.G.length b, .bool s3.M.bad, .slice C s0.C.length c, .slice L s0.L.length d], .int .i64 (k : Int)] w fun e w' => ∃ (A' : Option Addr) (c' : Nat), e = .returned (.tuple #[.agg #[.int .i64 op, .int .i64 pc, .int .i64 r0, .int .i64 r1, .int .i64 r2, .int .i64 r3, .int .i64 r4, .int .i64 r5, .int .i64 r6, .int .i64 r7, .slice A' xs.length c'], .bool isb]) ∧ Below w.heap.size w w') ∧ Hid ((isb && (op == 6) && decide (y.F.length = x.F.length + 2)) = scb) := by
    rcases HYC.out with ⟨hl, hF, hv⟩ | ⟨hl, hF⟩
    · rcases pTop_cases s3 (k : Int) FEW3 S8.C with hp | ⟨op, pc, r0, r1, r2, r3, r4, r5, r6, r7, xs, hp, h6⟩
      · refine ⟨0, 0, 0, 0, 0, 0, 0, 0, 0, 0, [], false, hid (fun A B C L a b c d w h => ?_), hid ?_⟩
        · have h9 := rtop_no A B C L a b c d s3 (k : Int) w FEW3 h hp
          rw [E3.out.1, E3.out.2.1, E3.out.2.2.1, E3.out.2.2.2] at h9
          exact h9.mono (fun e w' ⟨q1, q2⟩ => ⟨none, 0, q1, q2⟩)
        · rw [HB.out]; simp; omega
      · refine ⟨op, pc, r0, r1, r2, r3, r4, r5, r6, r7, xs, true, hid (fun A B C L a b c d w h => ?_), hid ?_⟩
        · have h9 := rtop_is A B C L a b c d s3 (k : Int) op pc r0 r1 r2 r3 r4 r5 r6 r7 xs w FEW3 h hp h6
          rw [E3.out.1, E3.out.2.1, E3.out.2.2.1, E3.out.2.2.2] at h9
          exact h9.mono (fun e w' ⟨A', c', q1, _, q2⟩ => ⟨A', c', q1, q2⟩)
        · rw [HB.out, hF]; simp; omega
    · have hp : pTop s3 (k : Int) = some (frS 6 0) := by rw [HY.out]; exact core_top (s := ⟨_, _, s0.L⟩) (F := x.F ++ [frR (1 + (q : Int)) 1]) (set_get HX.out) (by rw [hF]; simp)
      refine ⟨6, 0, 0, 0, 0, 0, 0, 0, 0, 0, [], true, hid (fun A B C L a b c d w h => ?_), hid ?_⟩
      · have h9 := rtop_is A B C L a b c d s3 (k : Int) 6 0 0 0 0 0 0 0 0 0 [] w FEW3 h hp (by simp)
        rw [E3.out.1, E3.out.2.1, E3.out.2.2.1, E3.out.2.2.2] at h9
        exact h9.mono (fun e w' ⟨A', c', q1, _, q2⟩ => ⟨A', c', q1, q2⟩)
      · rw [HB.out, hF]; simp; omega
  go_upto_region 14 with (go_at_call 25; (with_reducible refine (HTP.out _ _ _ _ _ _ _ _ _ S8).mono ?_); rintro e w8 ⟨AT, cT, rfl, hk⟩)
  clear m0_0 m0_1 m0_2 m0_3 m0_4 m8_0 m8_1 m8_2 m8_3 m8_4
  replace Bk0 := (hk.block v0 lt0).trans Bk0
  replace lt0 := Nat.lt_of_lt_of_le lt0 hk.size
  replace Bk8 := (hk.block v8 lt8).trans Bk8
  replace lt8 := Nat.lt_of_lt_of_le lt8 hk.size
  replace S0 := S0.step hk
  replace S8 := S8.step hk
  replace r10 := r10.step hk
  replace hb := bstep hb hk
  clear hk
  have BkT := heap_alloc_new w8 (.cells #[.int .i64 op, .int .i64 pc, .int .i64 r0, .int .i64 r1, .int .i64 r2, .int .i64 r3, .int .i64 r4, .int .i64 r5, .int .i64 r6, .int .i64 r7, .slice AT xs.length cT] 55)
  have ltT : w8.heap.size < (w8.alloc (.cells #[.int .i64 op, .int .i64 pc, .int .i64 r0, .int .i64 r1, .int .i64 r2, .int .i64 r3, .int .i64 r4, .int .i64 r5, .int .i64 r6, .int .i64 r7, .slice AT xs.length cT] 55)).heap.size := by simp
  have hk : Below w8.heap.size w8 (w8.alloc (.cells #[.int .i64 op, .int .i64 pc, .int .i64 r0, .int .i64 r1, .int .i64 r2, .int .i64 r3, .int .i64 r4, .int .i64 r5, .int .i64 r6, .int .i64 r7, .slice AT xs.length cT] 55)) := boxed _ _
  replace Bk0 := (hk.block v0 lt0).trans Bk0
  replace lt0 := Nat.lt_of_lt_of_le lt0 hk.size
  replace Bk8 := (hk.block v8 lt8).trans Bk8
  replace lt8 := Nat.lt_of_lt_of_le lt8 hk.size
  replace S0 := S0.step hk
  replace S8 := S8.step hk
  replace r10 := r10.step hk
  replace hb := bstep hb hk
  clear hk
  obtain ⟨vT, hv⟩ : ∃ v, w8.heap.size = v := ⟨_, rfl⟩
  rw [hv] at BkT ltT ⊢
  clear hv
  generalize (w8.alloc (.cells #[.int .i64 op, .int .i64 pc, .int .i64 r0, .int .i64 r1, .int .i64 r2, .int .i64 r3, .int .i64 r4, .int .i64 r5, .int .i64 r6, .int .i64 r7, .slice AT xs.length cT] 55)) = w9 at *
  obtain ⟨gC2, oC2, eC2, hbl2, hat2⟩ := S0.C (by omega)
  injection eC2 with eC2
  injection eC2 with eC3 eC4
  subst eC3 eC4
  obtain ⟨AFy, ARy, cFy, cRy, hcy, rFy, rRy, hcFy⟩ := (hat2 k _ HX.out).cs4
  clear hat2 rFy rRy hcFy
  have y0 : w9.cell? ⟨gC, oC + k * 7, none⟩ = some (.slice AFy x.F.length cFy) := hcy 0 _ rfl
  have y6 : w9.cell? ⟨gC, oC + k * 7 + 6, none⟩ = some (.slice ARy x.ret.length cRy) := hcy 6 _ rfl
  clear hcy
  obtain ⟨gD, oD, eD, hblD, hatD⟩ := S8.C (by rw [E3.out.2.2.1]; omega)
  subst eD
  obtain ⟨AFz, ARz, cFz, cRz, hcz, rFz, rRz, hcFz⟩ := (hatD k y (by rw [HY.out]; exact set_get HX.out)).cs4
  clear hatD hcFz rFz
  have z0 : w9.cell? ⟨gD, oD + k * 7, none⟩ = some (.slice AFz y.F.length cFz) := hcz 0 _ rfl
  have z1 : w9.cell? ⟨gD, oD + k * 7 + 1, none⟩ = some (.int .i64 y.v) := hcz 1 _ rfl
  have z6 : w9.cell? ⟨gD, oD + k * 7 + 6, none⟩ = some (.slice ARz y.ret.length cRz) := hcz 6 _ rfl
  clear hcz
  obtain ⟨m0_0, m0_1, m0_2, m0_3, m0_4⟩ := cells5 Bk0
  obtain ⟨m8_0, m8_1, m8_2, m8_3, m8_4⟩ := cells5 Bk8
  obtain ⟨mT_0, mT_1, mT_2, mT_3, mT_4, mT_5, mT_6, mT_7, mT_8, mT_9, mT_10⟩ := cells11 BkT
  have yF9 : y.F.length ≤ 1000 := by rcases HYC.out with ⟨_, h9, _⟩ | ⟨_, h9⟩ <;> rw [h9] <;> (try simp) <;> omega
  go_cut [15] from 103 (fun y15 wx => y15 = .bool scb ∧ Below w9.heap.size w9 wx)
  case first =>
    rcases Bool.eq_false_or_eq_true isb with hi | hi
    · subst hi
      rcases Bool.eq_false_or_eq_true (op == 6) with h6 | h6
      · by_cases hln : y.F.length = x.F.length + 2
        · have hlb : ((y.F.length : Int) == (x.F.length : Int) + 2) = true := by simp; omega
          have hs9 : scb = true := by have h9 := HSC.out; simpa [h6, hln] using h9.symm
          subst hs9
          clear hln
          go_quiet (fail)
          go_wp2_with fail
          go_meet
          exact ⟨rfl, bdrewN (Below.refl _ _) _⟩
        · have hlb : ((y.F.length : Int) == (x.F.length : Int) + 2) = false := by rw [beq_eq_false_iff_ne]; omega
          have hs9 : scb = false := by have h9 := HSC.out; simpa [h6, hln] using h9.symm
          subst hs9
          clear hln
          go_quiet (fail)
          go_wp2_with fail
          go_meet
          exact ⟨rfl, bdrewN (Below.refl _ _) _⟩
      · have hs9 : scb = false := by have h9 := HSC.out; simpa [h6] using h9.symm
        subst hs9
        go_quiet (fail)
        go_wp2_with fail
        go_meet
        exact ⟨rfl, bdrewN (Below.refl _ _) _⟩
    · subst hi
      have hs9 : scb = false := by have h9 := HSC.out; simpa using h9.symm
      subst hs9
      go_quiet (fail)
      go_wp2_with fail
      go_meet
      exact ⟨rfl, bdrewN (Below.refl _ _) _⟩
  case rest =>
    obtain ⟨rfl, hk⟩ := hcut
    clear HTP HSC
    clear m0_0 m0_1 m0_2 m0_3 m0_4 m8_0 m8_1 m8_2 m8_3 m8_4 mT_0 mT_1 mT_2 mT_3 mT_4 mT_5 mT_6 mT_7 mT_8 mT_9 mT_10
    replace z0 := (hk.cell hblD).trans z0
    replace z1 := (hk.cell hblD).trans z1
    replace z6 := (hk.cell hblD).trans z6
    replace y0 := (hk.cell hbl2).trans y0
    replace rRz := rRz.step hk
    replace hblD := Nat.lt_of_lt_of_le hblD hk.size
    replace hbl2 := Nat.lt_of_lt_of_le hbl2 hk.size
    clear y6
    obtain ⟨w10, hwc⟩ : ∃ v, v = wc := ⟨_, rfl⟩
    subst hwc
    replace Bk0 := (hk.block v0 lt0).trans Bk0
    replace lt0 := Nat.lt_of_lt_of_le lt0 hk.size
    replace Bk8 := (hk.block v8 lt8).trans Bk8
    replace lt8 := Nat.lt_of_lt_of_le lt8 hk.size
    replace BkT := (hk.block vT ltT).trans BkT
    replace ltT := Nat.lt_of_lt_of_le ltT hk.size
    replace S0 := S0.step hk
    replace S8 := S8.step hk
    replace r10 := r10.step hk
    replace hb := bstep hb hk
    clear hk
    clear BkT ltT
    have hbeg : decide (pLimit (s0.C.length : Int) ≤ (x.ret.length : Int) + 1) = scb := by rw [HLM.out, HB.out, decide_eq_decide]; omega
    rw [hbeg]
    clear hbeg HLM
    obtain ⟨m0_0, m0_1, m0_2, m0_3, m0_4⟩ := cells5 Bk0
    obtain ⟨m8_0, m8_1, m8_2, m8_3, m8_4⟩ := cells5 Bk8
    have HYR2 := hid (show (y.ret.length : Int) = (x.ret.length : Int) + 1 by rw [HYR.out]; simp)
    have HYL := hid (show y.ret.length = x.ret.length + 1 by rw [HYR.out]; simp)
    have HIN := hid (show ∀ (A B : Option Addr) (c d : Nat) (w : World), Row w A y.ret → Row w B (x.ret ++ [1 + (q : Int)]) → Calls Try.prog 30 #[.slice A y.ret.length c, .slice B (x.ret.length + 1) d] w fun e w' => e = .returned (.bool true) ∧ Below w.heap.size w w' from fun A B c d w h1 h2 => by rw [← HYR.out] at h2; have h9 := rints_any A B c d y.ret y.ret w h1 h2 (by have := HYL.out; omega); rw [show mInts y.ret y.ret = true by simp [mInts]] at h9; rw [HYL.out] at h9 ⊢; exact h9)
    have hfl : y.F.length ≤ 1000 := yF9
    clear yF9
    have hs9 : scb = false := by rw [HB.out]; have := HLL.out; simp; omega
    subst hs9
    have hlow : y.F = x.F ∧ y.v = 1 + (q : Int) := by
      rcases HYC.out with ⟨_, h1, h2⟩ | ⟨h0, _⟩
      · exact ⟨h1, h2⟩
      · have h9 := HB.out; simp at h9; omega
    have hne9 : ((y.F.length : Int) != (x.F.length : Int)) = false := by rw [hlow.1]; simp
    have hnv : (y.v != 1 + (q : Int)) = false := by rw [hlow.2]; simp
    clear hlow
    go_upto_region 15 with (fail)
    have KS := hid (show ∀ w', Below w10.heap.size w10 w' → (w'.cell? ⟨v8, 3, none⟩ = some (.slice (some ⟨gD, oD, none⟩) s0.C.length c8) ∧ w'.cell? ⟨v0, 3, none⟩ = some (.slice (some ⟨gC, oC, none⟩) s0.C.length c0) ∧ w'.cell? ⟨gD, oD + k * 7, none⟩ = some (.slice AFz y.F.length cFz) ∧ w'.cell? ⟨gD, oD + k * 7 + 1, none⟩ = some (.int .i64 y.v) ∧ w'.cell? ⟨gD, oD + k * 7 + 6, none⟩ = some (.slice ARz y.ret.length cRz) ∧ w'.cell? ⟨gC, oC + k * 7, none⟩ = some (.slice AFy x.F.length cFy)) from fun w' h => ⟨(h.cell lt8).trans m8_3, (h.cell lt0).trans m0_3, (h.cell hblD).trans z0, (h.cell hblD).trans z1, (h.cell hblD).trans z6, (h.cell hbl2).trans y0⟩)
    refine wp_region_held_drew (S := (fun w' => Below w10.heap.size w10 w')) (by kernel_rfl) ((Below.refl _ _).drew) (fun HT0 => ?_)
    try dsimp only at HT0
    generalize w10.drew = W0 at HT0 ⊢
    refine tkW (oi := ⟨some 127, _, _, _, _, _⟩) (v := ?v171) 0 rfl (by kernel_rfl) (by kernel_rfl) (by kernel_rfl) (fun _ _ _ h => h) (by rfl) ?h171 HT0 ?_
    case h171 => (intro w hS; clear hS; go_simp; try with_reducible rfl)
    try simp only [Act.put, pA, pZ, pS]
    refine tkW (oi := ⟨some 128, _, _, _, _, _⟩) (v := ?v172) 1 rfl (by kernel_rfl) (by kernel_rfl) (by kernel_rfl) (fun _ _ _ h => h) (by rfl) ?h172 HT0 ?_
    case h172 => (intro w hS; obtain ⟨x0, x1, x2, x3, x4, x5⟩ := KS.out w hS; clear hS; go_simp; try with_reducible rfl)
    try simp only [Act.put, pA, pZ, pS]
    refine tkW (oi := ⟨some 129, _, _, _, _, _⟩) (v := ?v173) 2 rfl (by kernel_rfl) (by kernel_rfl) (by kernel_rfl) (fun _ _ _ h => h) (by rfl) ?h173 HT0 ?_
    case h173 => (intro w hS; clear hS; go_simp; try with_reducible rfl)
    try simp only [Act.put, pA, pZ, pS]
    refine tkW (oi := ⟨some 130, _, _, _, _, _⟩) (v := ?v174) 3 rfl (by kernel_rfl) (by kernel_rfl) (by kernel_rfl) (fun _ _ _ h => h) (by rfl) ?h174 HT0 ?_
    case h174 => (intro w hS; clear hS; go_simp; try with_reducible rfl)
    try simp only [Act.put, pA, pZ, pS]
    refine tkW (oi := ⟨some 131, _, _, _, _, _⟩) (v := ?v175) 4 rfl (by kernel_rfl) (by kernel_rfl) (by kernel_rfl) (fun _ _ _ h => h) (by rfl) ?h175 HT0 ?_
    case h175 => (intro w hS; clear hS; go_simp; try with_reducible rfl)
    try simp only [Act.put, pA, pZ, pS]
    refine tkW (oi := ⟨some 132, _, _, _, _, _⟩) (v := ?v176) 5 rfl (by kernel_rfl) (by kernel_rfl) (by kernel_rfl) (fun _ _ _ h => h) (by rfl) ?h176 HT0 ?_
    case h176 => (intro w hS; obtain ⟨x0, x1, x2, x3, x4, x5⟩ := KS.out w hS; clear hS; go_simp; try with_reducible rfl)
    try simp only [Act.put, pA, pZ, pS]
    refine tkW (oi := ⟨some 133, _, _, _, _, _⟩) (v := ?v177) 6 rfl (by kernel_rfl) (by kernel_rfl) (by kernel_rfl) (fun _ _ _ h => h) (by rfl) ?h177 HT0 ?_
    case h177 => (intro w hS; clear hS; go_simp; try with_reducible rfl)
    try simp only [Act.put, pA, pZ, pS]
    refine wpAnyH_ready (rs := [7]) (by kernel_rfl) (by simp) ?_
    refine AllReadyH.cons (o := { dst := some 134, op := _, type := _, pos := _, after := _, guard := _ }) rfl (fun K hK => ?_) AllReadyH.nil
    go_simp
    (go_at_call 30; (with_reducible refine (HIN.out _ _ _ _ _ (rRz.step HT0) (r10.step HT0)).mono ?_); rintro e wk1 ⟨rfl, hk1⟩)
    have HT1 := bstep HT0 hk1
    refine hK.out _ _ HT1 (fun _ => ?_)
    clear hK K
    try simp only [Act.put, List.setIfInBounds_toArray, List.set_cons_zero, List.set_cons_succ]
    refine tkW (oi := ⟨some 135, _, _, _, _, _⟩) (v := ?v178) 8 rfl (by kernel_rfl) (by kernel_rfl) (by kernel_rfl) (fun _ _ _ h => h) (by rfl) ?h178 HT1 ?_
    case h178 => (intro w hS; clear hS; go_simp; try with_reducible rfl)
    try simp only [Act.put, pA, pZ, pS]
    refine tkW (oi := ⟨some 136, _, _, _, _, _⟩) (v := ?v179) 9 rfl (by kernel_rfl) (by kernel_rfl) (by kernel_rfl) (fun _ _ _ h => h) (by rfl) ?h179 HT1 ?_
    case h179 => (intro w hS; clear hS; go_simp; try with_reducible rfl)
    try simp only [Act.put, pA, pZ, pS]
    refine tkW (oi := ⟨some 137, _, _, _, _, _⟩) (v := ?v180) 10 rfl (by kernel_rfl) (by kernel_rfl) (by kernel_rfl) (fun _ _ _ h => h) (by rfl) ?h180 HT1 ?_
    case h180 => (intro w hS; clear hS; go_simp; try with_reducible rfl)
    try simp only [Act.put, pA, pZ, pS]
    refine tkW (oi := ⟨some 138, _, _, _, _, _⟩) (v := ?v181) 11 rfl (by kernel_rfl) (by kernel_rfl) (by kernel_rfl) (fun _ _ _ h => h) (by rfl) ?h181 HT1 ?_
    case h181 => (intro w hS; clear hS; go_simp; try with_reducible rfl)
    try simp only [Act.put, pA, pZ, pS]
    refine tkW (oi := ⟨some 139, _, _, _, _, _⟩) (v := ?v182) 12 rfl (by kernel_rfl) (by kernel_rfl) (by kernel_rfl) (fun _ _ _ h => h) (by rfl) ?h182 HT1 ?_
    case h182 => (intro w hS; clear hS; go_simp; try with_reducible rfl)
    try simp only [Act.put, pA, pZ, pS]
    refine tkW (oi := ⟨some 140, _, _, _, _, _⟩) (v := ?v183) 13 rfl (by kernel_rfl) (by kernel_rfl) (by kernel_rfl) (fun _ _ _ h => h) (by rfl) ?h183 HT1 ?_
    case h183 => (intro w hS; clear hS; go_simp; try with_reducible rfl)
    try simp only [Act.put, pA, pZ, pS]
    refine tkW (oi := ⟨some 141, _, _, _, _, _⟩) (v := ?v184) 14 rfl (by kernel_rfl) (by kernel_rfl) (by kernel_rfl) (fun _ _ _ h => h) (by rfl) ?h184 HT1 ?_
    case h184 => (intro w hS; clear hS; go_simp; try with_reducible rfl)
    try simp only [Act.put, pA, pZ, pS]
    refine tkW (oi := ⟨some 142, _, _, _, _, _⟩) (v := ?v185) 15 rfl (by kernel_rfl) (by kernel_rfl) (by kernel_rfl) (fun _ _ _ h => h) (by rfl) ?h185 HT1 ?_
    case h185 => (intro w hS; clear hS; go_simp; try with_reducible rfl)
    try simp only [Act.put, pA, pZ, pS]
    refine tkW (oi := ⟨some 143, _, _, _, _, _⟩) (v := ?v186) 16 rfl (by kernel_rfl) (by kernel_rfl) (by kernel_rfl) (fun _ _ _ h => h) (by rfl) ?h186 HT1 ?_
    case h186 => (intro w hS; clear hS; go_simp; try with_reducible rfl)
    try simp only [Act.put, pA, pZ, pS]
    refine tkW (oi := ⟨some 144, _, _, _, _, _⟩) (v := ?v187) 17 rfl (by kernel_rfl) (by kernel_rfl) (by kernel_rfl) (fun _ _ _ h => h) (by rfl) ?h187 HT1 ?_
    case h187 => (intro w hS; clear hS; go_simp; try with_reducible rfl)
    try simp only [Act.put, pA, pZ, pS]
    refine tkW (oi := ⟨some 145, _, _, _, _, _⟩) (v := ?v188) 18 rfl (by kernel_rfl) (by kernel_rfl) (by kernel_rfl) (fun _ _ _ h => h) (by rfl) ?h188 HT1 ?_
    case h188 => (intro w hS; clear hS; go_simp; try with_reducible rfl)
    try simp only [Act.put, pA, pZ, pS]
    refine tkW (oi := ⟨some 146, _, _, _, _, _⟩) (v := ?v189) 19 rfl (by kernel_rfl) (by kernel_rfl) (by kernel_rfl) (fun _ _ _ h => h) (by rfl) ?h189 HT1 ?_
    case h189 => (intro w hS; obtain ⟨x0, x1, x2, x3, x4, x5⟩ := KS.out w hS; clear hS; go_simp; try with_reducible rfl)
    try simp only [Act.put, pA, pZ, pS]
    refine tkW (oi := ⟨some 147, _, _, _, _, _⟩) (v := ?v190) 20 rfl (by kernel_rfl) (by kernel_rfl) (by kernel_rfl) (fun _ _ _ h => h) (by rfl) ?h190 HT1 ?_
    case h190 => (intro w hS; clear hS; go_simp; try with_reducible rfl)
    try simp only [Act.put, pA, pZ, pS]
    refine tkW (oi := ⟨some 148, _, _, _, _, _⟩) (v := ?v191) 21 rfl (by kernel_rfl) (by kernel_rfl) (by kernel_rfl) (fun _ _ _ h => h) (by rfl) ?h191 HT1 ?_
    case h191 => (intro w hS; clear hS; go_simp; try with_reducible rfl)
    try simp only [Act.put, pA, pZ, pS]
    refine tkW (oi := ⟨some 149, _, _, _, _, _⟩) (v := ?v192) 22 rfl (by kernel_rfl) (by kernel_rfl) (by kernel_rfl) (fun _ _ _ h => h) (by rfl) ?h192 HT1 ?_
    case h192 => (intro w hS; clear hS; go_simp; try with_reducible rfl)
    try simp only [Act.put, pA, pZ, pS]
    refine tkW (oi := ⟨some 150, _, _, _, _, _⟩) (v := ?v193) 23 rfl (by kernel_rfl) (by kernel_rfl) (by kernel_rfl) (fun _ _ _ h => h) (by rfl) ?h193 HT1 ?_
    case h193 => (intro w hS; obtain ⟨x0, x1, x2, x3, x4, x5⟩ := KS.out w hS; clear hS; go_simp; try with_reducible rfl)
    try simp only [Act.put, pA, pZ, pS]
    refine tkW (oi := ⟨some 151, _, _, _, _, _⟩) (v := ?v194) 24 rfl (by kernel_rfl) (by kernel_rfl) (by kernel_rfl) (fun _ _ _ h => h) (by rfl) ?h194 HT1 ?_
    case h194 => (intro w hS; clear hS; go_simp; try with_reducible rfl)
    try simp only [Act.put, pA, pZ, pS]
    refine tkW (oi := ⟨some 152, _, _, _, _, _⟩) (v := ?v195) 25 rfl (by kernel_rfl) (by kernel_rfl) (by kernel_rfl) (fun _ _ _ h => h) (by rfl) ?h195 HT1 ?_
    case h195 => (intro w hS; clear hS; go_simp; try with_reducible rfl)
    try simp only [Act.put, pA, pZ, pS]
    refine tkW (oi := ⟨some 153, _, _, _, _, _⟩) (v := ?v196) 26 rfl (by kernel_rfl) (by kernel_rfl) (by kernel_rfl) (fun _ _ _ h => h) (by rfl) ?h196 HT1 ?_
    case h196 => (intro w hS; obtain ⟨x0, x1, x2, x3, x4, x5⟩ := KS.out w hS; clear hS; go_simp; try with_reducible rfl)
    try simp only [Act.put, pA, pZ, pS]
    refine tkW (oi := ⟨some 154, _, _, _, _, _⟩) (v := ?v197) 27 rfl (by kernel_rfl) (by kernel_rfl) (by kernel_rfl) (fun _ _ _ h => h) (by rfl) ?h197 HT1 ?_
    case h197 => (intro w hS; clear hS; go_simp; try with_reducible rfl)
    try simp only [Act.put, pA, pZ, pS]
    refine tkW (oi := ⟨some 155, _, _, _, _, _⟩) (v := ?v198) 28 rfl (by kernel_rfl) (by kernel_rfl) (by kernel_rfl) (fun _ _ _ h => h) (by rfl) ?h198 HT1 ?_
    case h198 => (intro w hS; clear hS; go_simp; try with_reducible rfl)
    try simp only [Act.put, pA, pZ, pS]
    refine tkW (oi := ⟨some 156, _, _, _, _, _⟩) (v := ?v199) 29 rfl (by kernel_rfl) (by kernel_rfl) (by kernel_rfl) (fun _ _ _ h => h) (by rfl) ?h199 HT1 ?_
    case h199 => (intro w hS; clear hS; go_simp; try with_reducible rfl)
    try simp only [Act.put, pA, pZ, pS]
    refine tkW (oi := ⟨some 157, _, _, _, _, _⟩) (v := ?v200) 30 rfl (by kernel_rfl) (by kernel_rfl) (by kernel_rfl) (fun _ _ _ h => h) (by rfl) ?h200 HT1 ?_
    case h200 => (intro w hS; obtain ⟨x0, x1, x2, x3, x4, x5⟩ := KS.out w hS; clear hS; go_simp; try with_reducible rfl)
    try simp only [Act.put, pA, pZ, pS]
    refine tkW (oi := ⟨some 158, _, _, _, _, _⟩) (v := ?v201) 31 rfl (by kernel_rfl) (by kernel_rfl) (by kernel_rfl) (fun _ _ _ h => h) (by rfl) ?h201 HT1 ?_
    case h201 => (intro w hS; clear hS; go_simp; try with_reducible rfl)
    try simp only [Act.put, pA, pZ, pS]
    refine tkW (oi := ⟨some 159, _, _, _, _, _⟩) (v := ?v202) 32 rfl (by kernel_rfl) (by kernel_rfl) (by kernel_rfl) (fun _ _ _ h => h) (by rfl) ?h202 HT1 ?_
    case h202 => (intro w hS; clear hS; go_simp; try with_reducible rfl)
    try simp only [Act.put, pA, pZ, pS]
    refine tkW (oi := ⟨some 160, _, _, _, _, _⟩) (v := ?v203) 33 rfl (by kernel_rfl) (by kernel_rfl) (by kernel_rfl) (fun _ _ _ h => h) (by rfl) ?h203 HT1 ?_
    case h203 => (intro w hS; clear hS; go_simp; try with_reducible rfl)
    try simp only [Act.put, pA, pZ, pS]
    refine tkW (oi := ⟨some 161, _, _, _, _, _⟩) (v := ?v204) 34 rfl (by kernel_rfl) (by kernel_rfl) (by kernel_rfl) (fun _ _ _ h => h) (by rfl) ?h204 HT1 ?_
    case h204 => (intro w hS; clear hS; go_simp; try with_reducible rfl)
    try simp only [Act.put, pA, pZ, pS]
    refine tkW (oi := ⟨some 162, _, _, _, _, _⟩) (v := ?v205) 35 rfl (by kernel_rfl) (by kernel_rfl) (by kernel_rfl) (fun _ _ _ h => h) (by rfl) ?h205 HT1 ?_
    case h205 => (intro w hS; obtain ⟨x0, x1, x2, x3, x4, x5⟩ := KS.out w hS; clear hS; go_simp; try with_reducible rfl)
    try simp only [Act.put, pA, pZ, pS]
    refine tkW (oi := ⟨some 163, _, _, _, _, _⟩) (v := ?v206) 36 rfl (by kernel_rfl) (by kernel_rfl) (by kernel_rfl) (fun _ _ _ h => h) (by rfl) ?h206 HT1 ?_
    case h206 => (intro w hS; clear hS; go_simp; try with_reducible rfl)
    try simp only [Act.put, pA, pZ, pS]
    refine tkW (oi := ⟨some 164, _, _, _, _, _⟩) (v := ?v207) 37 rfl (by kernel_rfl) (by kernel_rfl) (by kernel_rfl) (fun _ _ _ h => h) (by rfl) ?h207 HT1 ?_
    case h207 => (intro w hS; clear hS; go_simp; try with_reducible rfl)
    try simp only [Act.put, pA, pZ, pS]
    refine tkW (oi := ⟨some 165, _, _, _, _, _⟩) (v := ?v208) 38 rfl (by kernel_rfl) (by kernel_rfl) (by kernel_rfl) (fun _ _ _ h => h) (by rfl) ?h208 HT1 ?_
    case h208 => (intro w hS; clear hS; go_simp; try with_reducible rfl)
    try simp only [Act.put, pA, pZ, pS]
    refine tkW (oi := ⟨some 166, _, _, _, _, _⟩) (v := ?v209) 39 rfl (by kernel_rfl) (by kernel_rfl) (by kernel_rfl) (fun _ _ _ h => h) (by rfl) ?h209 HT1 ?_
    case h209 => (intro w hS; obtain ⟨x0, x1, x2, x3, x4, x5⟩ := KS.out w hS; clear hS; go_simp; try with_reducible rfl)
    try simp only [Act.put, pA, pZ, pS]
    refine tkW (oi := ⟨some 167, _, _, _, _, _⟩) (v := ?v210) 40 rfl (by kernel_rfl) (by kernel_rfl) (by kernel_rfl) (fun _ _ _ h => h) (by rfl) ?h210 HT1 ?_
    case h210 => (intro w hS; clear hS; go_simp; try with_reducible rfl)
    try simp only [Act.put, pA, pZ, pS]
    refine tkW (oi := ⟨some 168, _, _, _, _, _⟩) (v := ?v211) 41 rfl (by kernel_rfl) (by kernel_rfl) (by kernel_rfl) (fun _ _ _ h => h) (by rfl) ?h211 HT1 ?_
    case h211 => (intro w hS; clear hS; go_simp; try with_reducible rfl)
    try simp only [Act.put, pA, pZ, pS]
    refine tkW (oi := ⟨some 169, _, _, _, _, _⟩) (v := ?v212) 42 rfl (by kernel_rfl) (by kernel_rfl) (by kernel_rfl) (fun _ _ _ h => h) (by rfl) ?h212 HT1 ?_
    case h212 => (intro w hS; clear hS; go_simp; try with_reducible rfl)
    try simp only [Act.put, pA, pZ, pS]
    refine tkW (oi := ⟨some 170, _, _, _, _, _⟩) (v := ?v213) 43 rfl (by kernel_rfl) (by kernel_rfl) (by kernel_rfl) (fun _ _ _ h => h) (by rfl) ?h213 HT1 ?_
    case h213 => (intro w hS; clear hS; go_simp; try with_reducible rfl)
    try simp only [Act.put, pA, pZ, pS]
    refine tkW (oi := ⟨some 171, _, _, _, _, _⟩) (v := ?v214) 44 rfl (by kernel_rfl) (by kernel_rfl) (by kernel_rfl) (fun _ _ _ h => h) (by rfl) ?h214 HT1 ?_
    case h214 => (intro w hS; clear hS; go_simp; try with_reducible rfl)
    try simp only [Act.put, pA, pZ, pS]
    refine wpAnyH_done (by kernel_rfl) ?_ _
    replace hb := bstep hb HT1
    replace S0 := S0.step HT1
    replace S8 := S8.step HT1
    replace Bk0 := (HT1.block v0 lt0).trans Bk0
    replace lt0 := Nat.lt_of_lt_of_le lt0 HT1.size
    replace Bk8 := (HT1.block v8 lt8).trans Bk8
    replace lt8 := Nat.lt_of_lt_of_le lt8 HT1.size
    clear HT1 HT0 hk1 KS z0 z1 z6 y0 m0_0 m0_1 m0_2 m0_3 m0_4 m8_0 m8_1 m8_2 m8_3 m8_4 r10 rRz
    go_upto_region 17 with (fail)
    generalize wk1 = wA at *
    obtain ⟨p, hp⟩ : ∃ p : Nat, 1 + (q : Int) = (p : Int) := ⟨q + 1, by omega⟩
    rw [hp]
    have hp1 : 1 ≤ p := by omega
    have hp2 : p < s0.M.G.length := by omega
    have pl : (p : Int) < (s0.M.G.length : Int) := by omega
    have pl0 : (0 : Int) ≤ (p : Int) := by omega
    have HTT := turn_two (m := s0.M) hp1 hp2
    rw [← hp] at HTT
    have hMe : s3.M = mTurn s0.M (1 + (q : Int)) 2 := by rw [HY.out]
    rw [← hMe] at HTT
    clear hMe
    obtain ⟨gG, oG, eG, hbG, hatG⟩ := S0.G (by omega)
    obtain ⟨gH, oH, eH, hbH, hatH⟩ := S8.G (by rw [E3.out.2.1]; omega)
    subst eG eH
    have cS : wA.cell? ⟨gG, oG + p, none⟩ = some (.int .i64 (s0.M.G.getD p 0)) := hatG p _ (by rw [List.getD_eq_getElem?_getD, List.getElem?_eq_getElem hp2]; rfl)
    have cT : wA.cell? ⟨gH, oH + p, none⟩ = some (.int .i64 (s3.M.G.getD p 0)) := hatH p _ (by rw [List.getD_eq_getElem?_getD, List.getElem?_eq_getElem (show p < s3.M.G.length by rw [E3.out.2.1]; exact hp2)]; rfl)
    clear hatG hatH
    obtain ⟨-, m0_1⟩ := cells2 Bk0
    obtain ⟨-, m8_1, m8_2⟩ := cells3 Bk8
    obtain ⟨m0_0, -, m0_2, m0_3, m0_4⟩ := cells5 Bk0
    obtain ⟨m8_0, -, -, m8_3, m8_4⟩ := cells5 Bk8
    obtain ⟨nr, hnr⟩ : ∃ n, n = (pRetired s0).length := ⟨_, rfl⟩
    have hnr2 : nr ≤ 9 * 210 := by rw [hnr]; exact pRetired_le (by omega) HRB.out
    have hnr3 : (pRetired s3).length = nr + 1 := by rw [hnr, HY.out]; exact retired_more HX.out HYR.out
    have HR1 := hid (show ∀ (w : World), RS w s3 A8 (some ⟨gH, oH, none⟩) (some ⟨gD, oD, none⟩) L8 → Calls Try.prog 22 #[.agg #[.slice A8 s0.M.W.length a8, .slice (some ⟨gH, oH, none⟩) s0.M.G.length b8, .bool s3.M.bad, .slice (some ⟨gD, oD, none⟩) s0.C.length c8, .slice L8 s0.L.length d8]] w fun e w' => ∃ (A' : Option Addr) (c' : Nat), e = .returned (.slice A' (nr + 1) c') ∧ Below w.heap.size w w' from fun w k1 => by have h9 := retired_any A8 (some ⟨gH, oH, none⟩) (some ⟨gD, oD, none⟩) L8 a8 b8 c8 d8 s3 w k1.C (by rw [E3.out.2.2.1]; omega) (by omega); rw [E3.out.1, E3.out.2.1, E3.out.2.2.1, E3.out.2.2.2] at h9; exact h9.mono (fun e w' ⟨A', c', h1, _, h2⟩ => ⟨A', c', by rw [← hnr3]; exact h1, h2⟩))
    have HR2 := hid (show ∀ (w : World), RS w s0 A0 (some ⟨gG, oG, none⟩) (some ⟨gC, oC, none⟩) L0 → Calls Try.prog 31 #[.agg #[.slice A0 s0.M.W.length a0, .slice (some ⟨gG, oG, none⟩) s0.M.G.length b0, .bool s0.M.bad, .slice (some ⟨gC, oC, none⟩) s0.C.length c0, .slice L0 s0.L.length d0]] w fun e w' => ∃ (A' : Option Addr) (c' : Nat), e = .returned (.slice A' nr c') ∧ Below w.heap.size w w' from fun w k1 => by have h9 := rretired_any A0 (some ⟨gG, oG, none⟩) (some ⟨gC, oC, none⟩) L0 a0 b0 c0 d0 s0 w k1.C (by omega) (by omega); exact h9.mono (fun e w' ⟨A', c', h1, _, h2⟩ => ⟨A', c', by rw [hnr]; exact h1, h2⟩))
    have nrl : (nr : Int) ≤ 2000 := by omega
    have nr0 : (0 : Int) ≤ (nr : Int) := by omega
    have hnw : IntKind.i64.wrap ((nr : Int) + 1) = (nr : Int) + 1 := IntWalk.i64_in _ (by omega)
    clear hnr hnr2 hnr3
    have hcase : (s0.M.G.getD p 0 = 1 ∧ s3.M.bad = true) ∨ (s0.M.G.getD p 0 = 1 ∧ s3.M.bad = false) ∨ (¬ s0.M.G.getD p 0 = 1 ∧ s3.M.bad = true) := by
      rcases Bool.eq_false_or_eq_true s3.M.bad with h1 | h1 <;> by_cases h2 : s0.M.G.getD p 0 = 1
      · exact Or.inl ⟨h2, h1⟩
      · exact Or.inr (Or.inr ⟨h2, h1⟩)
      · exact Or.inr (Or.inl ⟨h2, h1⟩)
      · rcases HTT.2 with h3 | h3
        · rw [h1] at h3; cases h3
        · exact absurd h3 h2
    rcases hcase with hcase | hcase | hcase
    · obtain ⟨h1, h2⟩ := hcase
      have HBD := hid h2
      have hbd : s3.M.bad = true := h2
      rw [HTT.1 h1] at cT
      rw [h1] at cS
      clear h1 h2 HTT hbd
      obtain ⟨bd, hbq⟩ : ∃ b, b = s3.M.bad := ⟨_, rfl⟩
      rw [← hbq] at m8_2 HR1
      have hbv : bd = true := hbq.trans HBD.out
      clear hbq HBD
      subst hbv
      have KS := hid (show ∀ w', Below wA.heap.size wA w' → (w'.cell? ⟨v0, 0, none⟩ = some (.slice A0 s0.M.W.length a0) ∧ w'.cell? ⟨v0, 1, none⟩ = some (.slice (some ⟨gG, oG, none⟩) s0.M.G.length b0) ∧ w'.cell? ⟨v0, 2, none⟩ = some (.bool s0.M.bad) ∧ w'.cell? ⟨v0, 3, none⟩ = some (.slice (some ⟨gC, oC, none⟩) s0.C.length c0) ∧ w'.cell? ⟨v0, 4, none⟩ = some (.slice L0 s0.L.length d0) ∧ w'.cell? ⟨v8, 0, none⟩ = some (.slice A8 s0.M.W.length a8) ∧ w'.cell? ⟨v8, 1, none⟩ = some (.slice (some ⟨gH, oH, none⟩) s0.M.G.length b8) ∧ w'.cell? ⟨v8, 2, none⟩ = some (.bool true) ∧ w'.cell? ⟨v8, 3, none⟩ = some (.slice (some ⟨gD, oD, none⟩) s0.C.length c8) ∧ w'.cell? ⟨v8, 4, none⟩ = some (.slice L8 s0.L.length d8) ∧ w'.cell? ⟨gG, oG + p, none⟩ = some (.int .i64 1) ∧ w'.cell? ⟨gH, oH + p, none⟩ = some (.int .i64 2)) from fun w' h => ⟨(h.cell lt0).trans m0_0, (h.cell lt0).trans m0_1, (h.cell lt0).trans m0_2, (h.cell lt0).trans m0_3, (h.cell lt0).trans m0_4, (h.cell lt8).trans m8_0, (h.cell lt8).trans m8_1, (h.cell lt8).trans m8_2, (h.cell lt8).trans m8_3, (h.cell lt8).trans m8_4, (h.cell hbG).trans cS, (h.cell hbH).trans cT⟩)
      refine wp_region_held_drew (S := (fun w' => Below wA.heap.size wA w')) (by kernel_rfl) ((Below.refl _ _).drew) (fun HT0 => ?_)
      try dsimp only at HT0
      generalize wA.drew = W0 at HT0 ⊢
      refine tkW (oi := ⟨some 172, _, _, _, _, _⟩) (v := ?v215) 0 rfl (by kernel_rfl) (by kernel_rfl) (by kernel_rfl) (fun _ _ _ h => h) (by rfl) ?h215 HT0 ?_
      case h215 => (intro w hS; clear hS; go_simp; try with_reducible rfl)
      try simp only [Act.put, pA, pZ, pS]
      refine tkW (oi := ⟨some 173, _, _, _, _, _⟩) (v := ?v216) 1 rfl (by kernel_rfl) (by kernel_rfl) (by kernel_rfl) (fun _ _ _ h => h) (by rfl) ?h216 HT0 ?_
      case h216 => (intro w hS; clear hS; go_simp; try with_reducible rfl)
      try simp only [Act.put, pA, pZ, pS]
      refine tkW (oi := ⟨some 174, _, _, _, _, _⟩) (v := ?v217) 2 rfl (by kernel_rfl) (by kernel_rfl) (by kernel_rfl) (fun _ _ _ h => h) (by rfl) ?h217 HT0 ?_
      case h217 => (intro w hS; clear hS; go_simp; try with_reducible rfl)
      try simp only [Act.put, pA, pZ, pS]
      refine tkW (oi := ⟨some 175, _, _, _, _, _⟩) (v := ?v218) 3 rfl (by kernel_rfl) (by kernel_rfl) (by kernel_rfl) (fun _ _ _ h => h) (by rfl) ?h218 HT0 ?_
      case h218 => (intro w hS; clear hS; go_simp; try with_reducible rfl)
      try simp only [Act.put, pA, pZ, pS]
      refine tkW (oi := ⟨some 176, _, _, _, _, _⟩) (v := ?v219) 4 rfl (by kernel_rfl) (by kernel_rfl) (by kernel_rfl) (fun _ _ _ h => h) (by rfl) ?h219 HT0 ?_
      case h219 => (intro w hS; obtain ⟨x0, x1, x2, x3, x4, x5, x6, x7, x8, x9, x10, x11⟩ := KS.out w hS; clear hS; go_simp; try with_reducible rfl)
      try simp only [Act.put, pA, pZ, pS]
      refine tkW (oi := ⟨some 177, _, _, _, _, _⟩) (v := ?v220) 5 rfl (by kernel_rfl) (by kernel_rfl) (by kernel_rfl) (fun _ _ _ h => h) (by rfl) ?h220 HT0 ?_
      case h220 => (intro w hS; clear hS; go_simp; try with_reducible rfl)
      try simp only [Act.put, pA, pZ, pS]
      refine tkW (oi := ⟨some 178, _, _, _, _, _⟩) (v := ?v221) 6 rfl (by kernel_rfl) (by kernel_rfl) (by kernel_rfl) (fun _ _ _ h => h) (by rfl) ?h221 HT0 ?_
      case h221 => (intro w hS; clear hS; go_simp; try with_reducible rfl)
      try simp only [Act.put, pA, pZ, pS]
      refine tkW (oi := ⟨some 179, _, _, _, _, _⟩) (v := ?v222) 7 rfl (by kernel_rfl) (by kernel_rfl) (by kernel_rfl) (fun _ _ _ h => h) (by rfl) ?h222 HT0 ?_
      case h222 => (intro w hS; obtain ⟨x0, x1, x2, x3, x4, x5, x6, x7, x8, x9, x10, x11⟩ := KS.out w hS; clear hS; go_simp; try with_reducible rfl)
      try simp only [Act.put, pA, pZ, pS]
      refine tkW (oi := ⟨some 180, _, _, _, _, _⟩) (v := ?v223) 8 rfl (by kernel_rfl) (by kernel_rfl) (by kernel_rfl) (fun _ _ _ h => h) (by rfl) ?h223 HT0 ?_
      case h223 => (intro w hS; clear hS; go_simp; try with_reducible rfl)
      try simp only [Act.put, pA, pZ, pS]
      refine tkW (oi := ⟨some 181, _, _, _, _, _⟩) (v := ?v224) 9 rfl (by kernel_rfl) (by kernel_rfl) (by kernel_rfl) (fun _ _ _ h => h) (by rfl) ?h224 HT0 ?_
      case h224 => (intro w hS; clear hS; go_simp; try with_reducible rfl)
      try simp only [Act.put, pA, pZ, pS]
      refine tkW (oi := ⟨some 182, _, _, _, _, _⟩) (v := ?v225) 10 rfl (by kernel_rfl) (by kernel_rfl) (by kernel_rfl) (fun _ _ _ h => h) (by rfl) ?h225 HT0 ?_
      case h225 => (intro w hS; clear hS; go_simp; try with_reducible rfl)
      try simp only [Act.put, pA, pZ, pS]
      refine tkW (oi := ⟨some 183, _, _, _, _, _⟩) (v := ?v226) 11 rfl (by kernel_rfl) (by kernel_rfl) (by kernel_rfl) (fun _ _ _ h => h) (by rfl) ?h226 HT0 ?_
      case h226 => (intro w hS; clear hS; go_simp; try with_reducible rfl)
      try simp only [Act.put, pA, pZ, pS]
      refine tkW (oi := ⟨some 184, _, _, _, _, _⟩) (v := ?v227) 12 rfl (by kernel_rfl) (by kernel_rfl) (by kernel_rfl) (fun _ _ _ h => h) (by rfl) ?h227 HT0 ?_
      case h227 => (intro w hS; obtain ⟨x0, x1, x2, x3, x4, x5, x6, x7, x8, x9, x10, x11⟩ := KS.out w hS; clear hS; go_simp; try with_reducible rfl)
      try simp only [Act.put, pA, pZ, pS]
      refine tkW (oi := ⟨some 185, _, _, _, _, _⟩) (v := ?v228) 13 rfl (by kernel_rfl) (by kernel_rfl) (by kernel_rfl) (fun _ _ _ h => h) (by rfl) ?h228 HT0 ?_
      case h228 => (intro w hS; clear hS; go_simp; try with_reducible rfl)
      try simp only [Act.put, pA, pZ, pS]
      refine tkW (oi := ⟨some 186, _, _, _, _, _⟩) (v := ?v229) 14 rfl (by kernel_rfl) (by kernel_rfl) (by kernel_rfl) (fun _ _ _ h => h) (by rfl) ?h229 HT0 ?_
      case h229 => (intro w hS; clear hS; go_simp; try with_reducible rfl)
      try simp only [Act.put, pA, pZ, pS]
      refine tkW (oi := ⟨some 187, _, _, _, _, _⟩) (v := ?v230) 15 rfl (by kernel_rfl) (by kernel_rfl) (by kernel_rfl) (fun _ _ _ h => h) (by rfl) ?h230 HT0 ?_
      case h230 => (intro w hS; obtain ⟨x0, x1, x2, x3, x4, x5, x6, x7, x8, x9, x10, x11⟩ := KS.out w hS; clear hS; go_simp; try with_reducible rfl)
      try simp only [Act.put, pA, pZ, pS]
      refine tkW (oi := ⟨some 188, _, _, _, _, _⟩) (v := ?v231) 16 rfl (by kernel_rfl) (by kernel_rfl) (by kernel_rfl) (fun _ _ _ h => h) (by rfl) ?h231 HT0 ?_
      case h231 => (intro w hS; clear hS; go_simp; try with_reducible rfl)
      try simp only [Act.put, pA, pZ, pS]
      refine tkW (oi := ⟨some 189, _, _, _, _, _⟩) (v := ?v232) 17 rfl (by kernel_rfl) (by kernel_rfl) (by kernel_rfl) (fun _ _ _ h => h) (by rfl) ?h232 HT0 ?_
      case h232 => (intro w hS; clear hS; go_simp; try with_reducible rfl)
      try simp only [Act.put, pA, pZ, pS]
      refine tkW (oi := ⟨some 190, _, _, _, _, _⟩) (v := ?v233) 18 rfl (by kernel_rfl) (by kernel_rfl) (by kernel_rfl) (fun _ _ _ h => h) (by rfl) ?h233 HT0 ?_
      case h233 => (intro w hS; clear hS; go_simp; try with_reducible rfl)
      try simp only [Act.put, pA, pZ, pS]
      refine tkW (oi := ⟨some 191, _, _, _, _, _⟩) (v := ?v234) 19 rfl (by kernel_rfl) (by kernel_rfl) (by kernel_rfl) (fun _ _ _ h => h) (by rfl) ?h234 HT0 ?_
      case h234 => (intro w hS; clear hS; go_simp; try with_reducible rfl)
      try simp only [Act.put, pA, pZ, pS]
      refine tkW (oi := ⟨some 192, _, _, _, _, _⟩) (v := ?v235) 20 rfl (by kernel_rfl) (by kernel_rfl) (by kernel_rfl) (fun _ _ _ h => h) (by rfl) ?h235 HT0 ?_
      case h235 => (intro w hS; clear hS; go_simp; try with_reducible rfl)
      try simp only [Act.put, pA, pZ, pS]
      refine tkW (oi := ⟨some 193, _, _, _, _, _⟩) (v := ?v236) 21 rfl (by kernel_rfl) (by kernel_rfl) (by kernel_rfl) (fun _ _ _ h => h) (by rfl) ?h236 HT0 ?_
      case h236 => (intro w hS; clear hS; go_simp; try with_reducible rfl)
      try simp only [Act.put, pA, pZ, pS]
      refine tkW (oi := ⟨some 194, _, _, _, _, _⟩) (v := ?v237) 22 rfl (by kernel_rfl) (by kernel_rfl) (by kernel_rfl) (fun _ _ _ h => h) (by rfl) ?h237 HT0 ?_
      case h237 => (intro w hS; obtain ⟨x0, x1, x2, x3, x4, x5, x6, x7, x8, x9, x10, x11⟩ := KS.out w hS; clear hS; go_simp; try with_reducible rfl)
      try simp only [Act.put, pA, pZ, pS]
      refine tkW (oi := ⟨some 195, _, _, _, _, _⟩) (v := ?v238) 23 rfl (by kernel_rfl) (by kernel_rfl) (by kernel_rfl) (fun _ _ _ h => h) (by rfl) ?h238 HT0 ?_
      case h238 => (intro w hS; clear hS; go_simp; try with_reducible rfl)
      try simp only [Act.put, pA, pZ, pS]
      refine tkU (oi := ⟨some 196, _, _, _, _, _⟩) 24 rfl (by kernel_rfl) (by kernel_rfl) (by kernel_rfl) (fun _ _ _ h => h) (by rfl) HT0 ?_
      try simp only [Act.put, pA, pZ, pS]
      refine tkU (oi := ⟨some 197, _, _, _, _, _⟩) 25 rfl (by kernel_rfl) (by kernel_rfl) (by kernel_rfl) (fun _ _ _ h => h) (by rfl) HT0 ?_
      try simp only [Act.put, pA, pZ, pS]
      refine tkU (oi := ⟨some 198, _, _, _, _, _⟩) 26 rfl (by kernel_rfl) (by kernel_rfl) (by kernel_rfl) (fun _ _ _ h => h) (by rfl) HT0 ?_
      try simp only [Act.put, pA, pZ, pS]
      refine tkU (oi := ⟨some 199, _, _, _, _, _⟩) 27 rfl (by kernel_rfl) (by kernel_rfl) (by kernel_rfl) (fun _ _ _ h => h) (by rfl) HT0 ?_
      try simp only [Act.put, pA, pZ, pS]
      refine tkU (oi := ⟨some 200, _, _, _, _, _⟩) 28 rfl (by kernel_rfl) (by kernel_rfl) (by kernel_rfl) (fun _ _ _ h => h) (by rfl) HT0 ?_
      try simp only [Act.put, pA, pZ, pS]
      refine tkU (oi := ⟨some 201, _, _, _, _, _⟩) 29 rfl (by kernel_rfl) (by kernel_rfl) (by kernel_rfl) (fun _ _ _ h => h) (by rfl) HT0 ?_
      try simp only [Act.put, pA, pZ, pS]
      refine tkU (oi := ⟨some 202, _, _, _, _, _⟩) 30 rfl (by kernel_rfl) (by kernel_rfl) (by kernel_rfl) (fun _ _ _ h => h) (by rfl) HT0 ?_
      try simp only [Act.put, pA, pZ, pS]
      refine tkW (oi := ⟨some 203, _, _, _, _, _⟩) (v := ?v246) 31 rfl (by kernel_rfl) (by kernel_rfl) (by kernel_rfl) (fun _ _ _ h => h) (by rfl) ?h246 HT0 ?_
      case h246 => (intro w hS; clear hS; go_simp; try with_reducible rfl)
      try simp only [Act.put, pA, pZ, pS]
      refine tkW (oi := ⟨some 204, _, _, _, _, _⟩) (v := ?v247) 32 rfl (by kernel_rfl) (by kernel_rfl) (by kernel_rfl) (fun _ _ _ h => h) (by rfl) ?h247 HT0 ?_
      case h247 => (intro w hS; clear hS; go_simp; try with_reducible rfl)
      try simp only [Act.put, pA, pZ, pS]
      refine tkW (oi := ⟨some 205, _, _, _, _, _⟩) (v := ?v248) 33 rfl (by kernel_rfl) (by kernel_rfl) (by kernel_rfl) (fun _ _ _ h => h) (by rfl) ?h248 HT0 ?_
      case h248 => (intro w hS; clear hS; go_simp; try with_reducible rfl)
      try simp only [Act.put, pA, pZ, pS]
      refine tkW (oi := ⟨some 206, _, _, _, _, _⟩) (v := ?v249) 34 rfl (by kernel_rfl) (by kernel_rfl) (by kernel_rfl) (fun _ _ _ h => h) (by rfl) ?h249 HT0 ?_
      case h249 => (intro w hS; obtain ⟨x0, x1, x2, x3, x4, x5, x6, x7, x8, x9, x10, x11⟩ := KS.out w hS; clear hS; go_simp; try with_reducible rfl)
      try simp only [Act.put, pA, pZ, pS]
      refine tkW (oi := ⟨some 209, _, _, _, _, _⟩) (v := ?v250) 37 rfl (by kernel_rfl) (by kernel_rfl) (by kernel_rfl) (fun _ _ _ h => h) (by rfl) ?h250 HT0 ?_
      case h250 => (intro w hS; obtain ⟨x0, x1, x2, x3, x4, x5, x6, x7, x8, x9, x10, x11⟩ := KS.out w hS; clear hS; go_simp; try with_reducible rfl)
      try simp only [Act.put, pA, pZ, pS]
      refine wpAnyH_ready (rs := [35]) (by kernel_rfl) (by simp) ?_
      refine AllReadyH.cons (o := { dst := some 207, op := _, type := _, pos := _, after := _, guard := _ }) rfl (fun K hK => ?_) AllReadyH.nil
      go_simp
      (go_at_call 22; (with_reducible refine (HR1.out _ (S8.step HT0)).mono ?_); rintro e wk1 ⟨AR1, cR1, rfl, hk1⟩)
      have HT1 := bstep HT0 hk1
      refine hK.out _ _ HT1 (fun _ => ?_)
      clear hK K
      try simp only [Act.put, List.setIfInBounds_toArray, List.set_cons_zero, List.set_cons_succ]
      refine tkW (oi := ⟨some 208, _, _, _, _, _⟩) (v := ?v251) 36 rfl (by kernel_rfl) (by kernel_rfl) (by kernel_rfl) (fun _ _ _ h => h) (by rfl) ?h251 HT1 ?_
      case h251 => (intro w hS; clear hS; go_simp; try with_reducible rfl)
      try simp only [Act.put, pA, pZ, pS]
      refine wpAnyH_ready (rs := [38]) (by kernel_rfl) (by simp) ?_
      refine AllReadyH.cons (o := { dst := some 210, op := _, type := _, pos := _, after := _, guard := _ }) rfl (fun K hK => ?_) AllReadyH.nil
      go_simp
      (go_at_call 31; (with_reducible refine (HR2.out _ (S0.step HT1)).mono ?_); rintro e wk2 ⟨AR2, cR2, rfl, hk2⟩)
      have HT2 := bstep HT1 hk2
      refine hK.out _ _ HT2 (fun _ => ?_)
      clear hK K
      try simp only [Act.put, List.setIfInBounds_toArray, List.set_cons_zero, List.set_cons_succ]
      refine tkW (oi := ⟨some 211, _, _, _, _, _⟩) (v := ?v252) 39 rfl (by kernel_rfl) (by kernel_rfl) (by kernel_rfl) (fun _ _ _ h => h) (by rfl) ?h252 HT2 ?_
      case h252 => (intro w hS; clear hS; go_simp; try with_reducible rfl)
      try simp only [Act.put, pA, pZ, pS]
      refine tkW (oi := ⟨some 212, _, _, _, _, _⟩) (v := ?v253) 40 rfl (by kernel_rfl) (by kernel_rfl) (by kernel_rfl) (fun _ _ _ h => h) (by rfl) ?h253 HT2 ?_
      case h253 => (intro w hS; clear hS; go_simp; try with_reducible rfl)
      try simp only [Act.put, pA, pZ, pS]
      refine tkW (oi := ⟨some 213, _, _, _, _, _⟩) (v := ?v254) 41 rfl (by kernel_rfl) (by kernel_rfl) (by kernel_rfl) (fun _ _ _ h => h) (by rfl) ?h254 HT2 ?_
      case h254 => (intro w hS; clear hS; go_simp; try with_reducible rfl)
      try simp only [Act.put, pA, pZ, pS]
      refine tkW (oi := ⟨some 214, _, _, _, _, _⟩) (v := ?v255) 42 rfl (by kernel_rfl) (by kernel_rfl) (by kernel_rfl) (fun _ _ _ h => h) (by rfl) ?h255 HT2 ?_
      case h255 => (intro w hS; clear hS; go_simp; try with_reducible rfl)
      try simp only [Act.put, pA, pZ, pS]
      refine tkW (oi := ⟨some 6, _, _, _, _, _⟩) (v := ?v256) 43 rfl (by kernel_rfl) (by kernel_rfl) (by kernel_rfl) (fun _ _ _ h => h) (by rfl) ?h256 HT2 ?_
      case h256 => (intro w hS; clear hS; go_simp; try with_reducible rfl)
      try simp only [Act.put, pA, pZ, pS]
      refine wpAnyH_done (by kernel_rfl) ?_ _
      go_wp2_with fail
      go_ret
      exact ⟨rfl, bstep hb HT2⟩
    · obtain ⟨h1, h2⟩ := hcase
      have HBD := hid h2
      have hbd : s3.M.bad = false := h2
      rw [HTT.1 h1] at cT
      rw [h1] at cS
      clear h1 h2 HTT hbd
      obtain ⟨bd, hbq⟩ : ∃ b, b = s3.M.bad := ⟨_, rfl⟩
      rw [← hbq] at m8_2 HR1
      have hbv : bd = false := hbq.trans HBD.out
      clear hbq HBD
      subst hbv
      have KS := hid (show ∀ w', Below wA.heap.size wA w' → (w'.cell? ⟨v0, 0, none⟩ = some (.slice A0 s0.M.W.length a0) ∧ w'.cell? ⟨v0, 1, none⟩ = some (.slice (some ⟨gG, oG, none⟩) s0.M.G.length b0) ∧ w'.cell? ⟨v0, 2, none⟩ = some (.bool s0.M.bad) ∧ w'.cell? ⟨v0, 3, none⟩ = some (.slice (some ⟨gC, oC, none⟩) s0.C.length c0) ∧ w'.cell? ⟨v0, 4, none⟩ = some (.slice L0 s0.L.length d0) ∧ w'.cell? ⟨v8, 0, none⟩ = some (.slice A8 s0.M.W.length a8) ∧ w'.cell? ⟨v8, 1, none⟩ = some (.slice (some ⟨gH, oH, none⟩) s0.M.G.length b8) ∧ w'.cell? ⟨v8, 2, none⟩ = some (.bool false) ∧ w'.cell? ⟨v8, 3, none⟩ = some (.slice (some ⟨gD, oD, none⟩) s0.C.length c8) ∧ w'.cell? ⟨v8, 4, none⟩ = some (.slice L8 s0.L.length d8) ∧ w'.cell? ⟨gG, oG + p, none⟩ = some (.int .i64 1) ∧ w'.cell? ⟨gH, oH + p, none⟩ = some (.int .i64 2)) from fun w' h => ⟨(h.cell lt0).trans m0_0, (h.cell lt0).trans m0_1, (h.cell lt0).trans m0_2, (h.cell lt0).trans m0_3, (h.cell lt0).trans m0_4, (h.cell lt8).trans m8_0, (h.cell lt8).trans m8_1, (h.cell lt8).trans m8_2, (h.cell lt8).trans m8_3, (h.cell lt8).trans m8_4, (h.cell hbG).trans cS, (h.cell hbH).trans cT⟩)
      refine wp_region_held_drew (S := (fun w' => Below wA.heap.size wA w')) (by kernel_rfl) ((Below.refl _ _).drew) (fun HT0 => ?_)
      try dsimp only at HT0
      generalize wA.drew = W0 at HT0 ⊢
      refine tkW (oi := ⟨some 172, _, _, _, _, _⟩) (v := ?v257) 0 rfl (by kernel_rfl) (by kernel_rfl) (by kernel_rfl) (fun _ _ _ h => h) (by rfl) ?h257 HT0 ?_
      case h257 => (intro w hS; clear hS; go_simp; try with_reducible rfl)
      try simp only [Act.put, pA, pZ, pS]
      refine tkW (oi := ⟨some 173, _, _, _, _, _⟩) (v := ?v258) 1 rfl (by kernel_rfl) (by kernel_rfl) (by kernel_rfl) (fun _ _ _ h => h) (by rfl) ?h258 HT0 ?_
      case h258 => (intro w hS; clear hS; go_simp; try with_reducible rfl)
      try simp only [Act.put, pA, pZ, pS]
      refine tkW (oi := ⟨some 174, _, _, _, _, _⟩) (v := ?v259) 2 rfl (by kernel_rfl) (by kernel_rfl) (by kernel_rfl) (fun _ _ _ h => h) (by rfl) ?h259 HT0 ?_
      case h259 => (intro w hS; clear hS; go_simp; try with_reducible rfl)
      try simp only [Act.put, pA, pZ, pS]
      refine tkW (oi := ⟨some 175, _, _, _, _, _⟩) (v := ?v260) 3 rfl (by kernel_rfl) (by kernel_rfl) (by kernel_rfl) (fun _ _ _ h => h) (by rfl) ?h260 HT0 ?_
      case h260 => (intro w hS; clear hS; go_simp; try with_reducible rfl)
      try simp only [Act.put, pA, pZ, pS]
      refine tkW (oi := ⟨some 176, _, _, _, _, _⟩) (v := ?v261) 4 rfl (by kernel_rfl) (by kernel_rfl) (by kernel_rfl) (fun _ _ _ h => h) (by rfl) ?h261 HT0 ?_
      case h261 => (intro w hS; obtain ⟨x0, x1, x2, x3, x4, x5, x6, x7, x8, x9, x10, x11⟩ := KS.out w hS; clear hS; go_simp; try with_reducible rfl)
      try simp only [Act.put, pA, pZ, pS]
      refine tkW (oi := ⟨some 177, _, _, _, _, _⟩) (v := ?v262) 5 rfl (by kernel_rfl) (by kernel_rfl) (by kernel_rfl) (fun _ _ _ h => h) (by rfl) ?h262 HT0 ?_
      case h262 => (intro w hS; clear hS; go_simp; try with_reducible rfl)
      try simp only [Act.put, pA, pZ, pS]
      refine tkW (oi := ⟨some 178, _, _, _, _, _⟩) (v := ?v263) 6 rfl (by kernel_rfl) (by kernel_rfl) (by kernel_rfl) (fun _ _ _ h => h) (by rfl) ?h263 HT0 ?_
      case h263 => (intro w hS; clear hS; go_simp; try with_reducible rfl)
      try simp only [Act.put, pA, pZ, pS]
      refine tkW (oi := ⟨some 179, _, _, _, _, _⟩) (v := ?v264) 7 rfl (by kernel_rfl) (by kernel_rfl) (by kernel_rfl) (fun _ _ _ h => h) (by rfl) ?h264 HT0 ?_
      case h264 => (intro w hS; obtain ⟨x0, x1, x2, x3, x4, x5, x6, x7, x8, x9, x10, x11⟩ := KS.out w hS; clear hS; go_simp; try with_reducible rfl)
      try simp only [Act.put, pA, pZ, pS]
      refine tkW (oi := ⟨some 180, _, _, _, _, _⟩) (v := ?v265) 8 rfl (by kernel_rfl) (by kernel_rfl) (by kernel_rfl) (fun _ _ _ h => h) (by rfl) ?h265 HT0 ?_
      case h265 => (intro w hS; clear hS; go_simp; try with_reducible rfl)
      try simp only [Act.put, pA, pZ, pS]
      refine tkW (oi := ⟨some 181, _, _, _, _, _⟩) (v := ?v266) 9 rfl (by kernel_rfl) (by kernel_rfl) (by kernel_rfl) (fun _ _ _ h => h) (by rfl) ?h266 HT0 ?_
      case h266 => (intro w hS; clear hS; go_simp; try with_reducible rfl)
      try simp only [Act.put, pA, pZ, pS]
      refine tkW (oi := ⟨some 182, _, _, _, _, _⟩) (v := ?v267) 10 rfl (by kernel_rfl) (by kernel_rfl) (by kernel_rfl) (fun _ _ _ h => h) (by rfl) ?h267 HT0 ?_
      case h267 => (intro w hS; clear hS; go_simp; try with_reducible rfl)
      try simp only [Act.put, pA, pZ, pS]
      refine tkW (oi := ⟨some 183, _, _, _, _, _⟩) (v := ?v268) 11 rfl (by kernel_rfl) (by kernel_rfl) (by kernel_rfl) (fun _ _ _ h => h) (by rfl) ?h268 HT0 ?_
      case h268 => (intro w hS; clear hS; go_simp; try with_reducible rfl)
      try simp only [Act.put, pA, pZ, pS]
      refine tkW (oi := ⟨some 184, _, _, _, _, _⟩) (v := ?v269) 12 rfl (by kernel_rfl) (by kernel_rfl) (by kernel_rfl) (fun _ _ _ h => h) (by rfl) ?h269 HT0 ?_
      case h269 => (intro w hS; obtain ⟨x0, x1, x2, x3, x4, x5, x6, x7, x8, x9, x10, x11⟩ := KS.out w hS; clear hS; go_simp; try with_reducible rfl)
      try simp only [Act.put, pA, pZ, pS]
      refine tkW (oi := ⟨some 185, _, _, _, _, _⟩) (v := ?v270) 13 rfl (by kernel_rfl) (by kernel_rfl) (by kernel_rfl) (fun _ _ _ h => h) (by rfl) ?h270 HT0 ?_
      case h270 => (intro w hS; clear hS; go_simp; try with_reducible rfl)
      try simp only [Act.put, pA, pZ, pS]
      refine tkW (oi := ⟨some 186, _, _, _, _, _⟩) (v := ?v271) 14 rfl (by kernel_rfl) (by kernel_rfl) (by kernel_rfl) (fun _ _ _ h => h) (by rfl) ?h271 HT0 ?_
      case h271 => (intro w hS; clear hS; go_simp; try with_reducible rfl)
      try simp only [Act.put, pA, pZ, pS]
      refine tkW (oi := ⟨some 187, _, _, _, _, _⟩) (v := ?v272) 15 rfl (by kernel_rfl) (by kernel_rfl) (by kernel_rfl) (fun _ _ _ h => h) (by rfl) ?h272 HT0 ?_
      case h272 => (intro w hS; obtain ⟨x0, x1, x2, x3, x4, x5, x6, x7, x8, x9, x10, x11⟩ := KS.out w hS; clear hS; go_simp; try with_reducible rfl)
      try simp only [Act.put, pA, pZ, pS]
      refine tkW (oi := ⟨some 188, _, _, _, _, _⟩) (v := ?v273) 16 rfl (by kernel_rfl) (by kernel_rfl) (by kernel_rfl) (fun _ _ _ h => h) (by rfl) ?h273 HT0 ?_
      case h273 => (intro w hS; clear hS; go_simp; try with_reducible rfl)
      try simp only [Act.put, pA, pZ, pS]
      refine tkW (oi := ⟨some 189, _, _, _, _, _⟩) (v := ?v274) 17 rfl (by kernel_rfl) (by kernel_rfl) (by kernel_rfl) (fun _ _ _ h => h) (by rfl) ?h274 HT0 ?_
      case h274 => (intro w hS; clear hS; go_simp; try with_reducible rfl)
      try simp only [Act.put, pA, pZ, pS]
      refine tkW (oi := ⟨some 190, _, _, _, _, _⟩) (v := ?v275) 18 rfl (by kernel_rfl) (by kernel_rfl) (by kernel_rfl) (fun _ _ _ h => h) (by rfl) ?h275 HT0 ?_
      case h275 => (intro w hS; clear hS; go_simp; try with_reducible rfl)
      try simp only [Act.put, pA, pZ, pS]
      refine tkW (oi := ⟨some 191, _, _, _, _, _⟩) (v := ?v276) 19 rfl (by kernel_rfl) (by kernel_rfl) (by kernel_rfl) (fun _ _ _ h => h) (by rfl) ?h276 HT0 ?_
      case h276 => (intro w hS; clear hS; go_simp; try with_reducible rfl)
      try simp only [Act.put, pA, pZ, pS]
      refine tkW (oi := ⟨some 192, _, _, _, _, _⟩) (v := ?v277) 20 rfl (by kernel_rfl) (by kernel_rfl) (by kernel_rfl) (fun _ _ _ h => h) (by rfl) ?h277 HT0 ?_
      case h277 => (intro w hS; clear hS; go_simp; try with_reducible rfl)
      try simp only [Act.put, pA, pZ, pS]
      refine tkW (oi := ⟨some 193, _, _, _, _, _⟩) (v := ?v278) 21 rfl (by kernel_rfl) (by kernel_rfl) (by kernel_rfl) (fun _ _ _ h => h) (by rfl) ?h278 HT0 ?_
      case h278 => (intro w hS; clear hS; go_simp; try with_reducible rfl)
      try simp only [Act.put, pA, pZ, pS]
      refine tkW (oi := ⟨some 194, _, _, _, _, _⟩) (v := ?v279) 22 rfl (by kernel_rfl) (by kernel_rfl) (by kernel_rfl) (fun _ _ _ h => h) (by rfl) ?h279 HT0 ?_
      case h279 => (intro w hS; obtain ⟨x0, x1, x2, x3, x4, x5, x6, x7, x8, x9, x10, x11⟩ := KS.out w hS; clear hS; go_simp; try with_reducible rfl)
      try simp only [Act.put, pA, pZ, pS]
      refine tkW (oi := ⟨some 195, _, _, _, _, _⟩) (v := ?v280) 23 rfl (by kernel_rfl) (by kernel_rfl) (by kernel_rfl) (fun _ _ _ h => h) (by rfl) ?h280 HT0 ?_
      case h280 => (intro w hS; clear hS; go_simp; try with_reducible rfl)
      try simp only [Act.put, pA, pZ, pS]
      refine tkW (oi := ⟨some 196, _, _, _, _, _⟩) (v := ?v281) 24 rfl (by kernel_rfl) (by kernel_rfl) (by kernel_rfl) (fun _ _ _ h => h) (by rfl) ?h281 HT0 ?_
      case h281 => (intro w hS; clear hS; go_simp; try with_reducible rfl)
      try simp only [Act.put, pA, pZ, pS]
      refine tkW (oi := ⟨some 197, _, _, _, _, _⟩) (v := ?v282) 25 rfl (by kernel_rfl) (by kernel_rfl) (by kernel_rfl) (fun _ _ _ h => h) (by rfl) ?h282 HT0 ?_
      case h282 => (intro w hS; clear hS; go_simp; try with_reducible rfl)
      try simp only [Act.put, pA, pZ, pS]
      refine tkW (oi := ⟨some 198, _, _, _, _, _⟩) (v := ?v283) 26 rfl (by kernel_rfl) (by kernel_rfl) (by kernel_rfl) (fun _ _ _ h => h) (by rfl) ?h283 HT0 ?_
      case h283 => (intro w hS; obtain ⟨x0, x1, x2, x3, x4, x5, x6, x7, x8, x9, x10, x11⟩ := KS.out w hS; clear hS; go_simp; try with_reducible rfl)
      try simp only [Act.put, pA, pZ, pS]
      refine tkW (oi := ⟨some 199, _, _, _, _, _⟩) (v := ?v284) 27 rfl (by kernel_rfl) (by kernel_rfl) (by kernel_rfl) (fun _ _ _ h => h) (by rfl) ?h284 HT0 ?_
      case h284 => (intro w hS; clear hS; go_simp; try with_reducible rfl)
      try simp only [Act.put, pA, pZ, pS]
      refine tkW (oi := ⟨some 200, _, _, _, _, _⟩) (v := ?v285) 28 rfl (by kernel_rfl) (by kernel_rfl) (by kernel_rfl) (fun _ _ _ h => h) (by rfl) ?h285 HT0 ?_
      case h285 => (intro w hS; clear hS; go_simp; try with_reducible rfl)
      try simp only [Act.put, pA, pZ, pS]
      refine tkW (oi := ⟨some 201, _, _, _, _, _⟩) (v := ?v286) 29 rfl (by kernel_rfl) (by kernel_rfl) (by kernel_rfl) (fun _ _ _ h => h) (by rfl) ?h286 HT0 ?_
      case h286 => (intro w hS; obtain ⟨x0, x1, x2, x3, x4, x5, x6, x7, x8, x9, x10, x11⟩ := KS.out w hS; clear hS; go_simp; try with_reducible rfl)
      try simp only [Act.put, pA, pZ, pS]
      refine tkW (oi := ⟨some 202, _, _, _, _, _⟩) (v := ?v287) 30 rfl (by kernel_rfl) (by kernel_rfl) (by kernel_rfl) (fun _ _ _ h => h) (by rfl) ?h287 HT0 ?_
      case h287 => (intro w hS; clear hS; go_simp; try with_reducible rfl)
      try simp only [Act.put, pA, pZ, pS]
      refine tkW (oi := ⟨some 203, _, _, _, _, _⟩) (v := ?v288) 31 rfl (by kernel_rfl) (by kernel_rfl) (by kernel_rfl) (fun _ _ _ h => h) (by rfl) ?h288 HT0 ?_
      case h288 => (intro w hS; clear hS; go_simp; try with_reducible rfl)
      try simp only [Act.put, pA, pZ, pS]
      refine tkW (oi := ⟨some 204, _, _, _, _, _⟩) (v := ?v289) 32 rfl (by kernel_rfl) (by kernel_rfl) (by kernel_rfl) (fun _ _ _ h => h) (by rfl) ?h289 HT0 ?_
      case h289 => (intro w hS; clear hS; go_simp; try with_reducible rfl)
      try simp only [Act.put, pA, pZ, pS]
      refine tkW (oi := ⟨some 205, _, _, _, _, _⟩) (v := ?v290) 33 rfl (by kernel_rfl) (by kernel_rfl) (by kernel_rfl) (fun _ _ _ h => h) (by rfl) ?h290 HT0 ?_
      case h290 => (intro w hS; clear hS; go_simp; try with_reducible rfl)
      try simp only [Act.put, pA, pZ, pS]
      refine tkW (oi := ⟨some 206, _, _, _, _, _⟩) (v := ?v291) 34 rfl (by kernel_rfl) (by kernel_rfl) (by kernel_rfl) (fun _ _ _ h => h) (by rfl) ?h291 HT0 ?_
      case h291 => (intro w hS; obtain ⟨x0, x1, x2, x3, x4, x5, x6, x7, x8, x9, x10, x11⟩ := KS.out w hS; clear hS; go_simp; try with_reducible rfl)
      try simp only [Act.put, pA, pZ, pS]
      refine tkW (oi := ⟨some 209, _, _, _, _, _⟩) (v := ?v292) 37 rfl (by kernel_rfl) (by kernel_rfl) (by kernel_rfl) (fun _ _ _ h => h) (by rfl) ?h292 HT0 ?_
      case h292 => (intro w hS; obtain ⟨x0, x1, x2, x3, x4, x5, x6, x7, x8, x9, x10, x11⟩ := KS.out w hS; clear hS; go_simp; try with_reducible rfl)
      try simp only [Act.put, pA, pZ, pS]
      refine wpAnyH_ready (rs := [35]) (by kernel_rfl) (by simp) ?_
      refine AllReadyH.cons (o := { dst := some 207, op := _, type := _, pos := _, after := _, guard := _ }) rfl (fun K hK => ?_) AllReadyH.nil
      go_simp
      (go_at_call 22; (with_reducible refine (HR1.out _ (S8.step HT0)).mono ?_); rintro e wk1 ⟨AR1, cR1, rfl, hk1⟩)
      have HT1 := bstep HT0 hk1
      refine hK.out _ _ HT1 (fun _ => ?_)
      clear hK K
      try simp only [Act.put, List.setIfInBounds_toArray, List.set_cons_zero, List.set_cons_succ]
      refine tkW (oi := ⟨some 208, _, _, _, _, _⟩) (v := ?v293) 36 rfl (by kernel_rfl) (by kernel_rfl) (by kernel_rfl) (fun _ _ _ h => h) (by rfl) ?h293 HT1 ?_
      case h293 => (intro w hS; clear hS; go_simp; try with_reducible rfl)
      try simp only [Act.put, pA, pZ, pS]
      refine wpAnyH_ready (rs := [38]) (by kernel_rfl) (by simp) ?_
      refine AllReadyH.cons (o := { dst := some 210, op := _, type := _, pos := _, after := _, guard := _ }) rfl (fun K hK => ?_) AllReadyH.nil
      go_simp
      (go_at_call 31; (with_reducible refine (HR2.out _ (S0.step HT1)).mono ?_); rintro e wk2 ⟨AR2, cR2, rfl, hk2⟩)
      have HT2 := bstep HT1 hk2
      refine hK.out _ _ HT2 (fun _ => ?_)
      clear hK K
      try simp only [Act.put, List.setIfInBounds_toArray, List.set_cons_zero, List.set_cons_succ]
      refine tkW (oi := ⟨some 211, _, _, _, _, _⟩) (v := ?v294) 39 rfl (by kernel_rfl) (by kernel_rfl) (by kernel_rfl) (fun _ _ _ h => h) (by rfl) ?h294 HT2 ?_
      case h294 => (intro w hS; clear hS; go_simp; try with_reducible rfl)
      try simp only [Act.put, pA, pZ, pS]
      refine tkW (oi := ⟨some 212, _, _, _, _, _⟩) (v := ?v295) 40 rfl (by kernel_rfl) (by kernel_rfl) (by kernel_rfl) (fun _ _ _ h => h) (by rfl) ?h295 HT2 ?_
      case h295 => (intro w hS; clear hS; go_simp; try with_reducible rfl)
      try simp only [Act.put, pA, pZ, pS]
      refine tkW (oi := ⟨some 213, _, _, _, _, _⟩) (v := ?v296) 41 rfl (by kernel_rfl) (by kernel_rfl) (by kernel_rfl) (fun _ _ _ h => h) (by rfl) ?h296 HT2 ?_
      case h296 => (intro w hS; clear hS; go_simp; try with_reducible rfl)
      try simp only [Act.put, pA, pZ, pS]
      refine tkW (oi := ⟨some 214, _, _, _, _, _⟩) (v := ?v297) 42 rfl (by kernel_rfl) (by kernel_rfl) (by kernel_rfl) (fun _ _ _ h => h) (by rfl) ?h297 HT2 ?_
      case h297 => (intro w hS; clear hS; go_simp; try with_reducible rfl)
      try simp only [Act.put, pA, pZ, pS]
      refine tkW (oi := ⟨some 6, _, _, _, _, _⟩) (v := ?v298) 43 rfl (by kernel_rfl) (by kernel_rfl) (by kernel_rfl) (fun _ _ _ h => h) (by rfl) ?h298 HT2 ?_
      case h298 => (intro w hS; clear hS; go_simp; try with_reducible rfl)
      try simp only [Act.put, pA, pZ, pS]
      refine wpAnyH_done (by kernel_rfl) ?_ _
      go_wp2_with fail
      go_ret
      exact ⟨rfl, bstep hb HT2⟩
    · obtain ⟨h1, h2⟩ := hcase
      have HBD := hid h2
      have hbd : s3.M.bad = true := h2
      obtain ⟨gv, hgv⟩ : ∃ g, g = s0.M.G.getD p 0 := ⟨_, rfl⟩
      obtain ⟨hv9, hhv⟩ : ∃ g, g = s3.M.G.getD p 0 := ⟨_, rfl⟩
      rw [← hgv] at cS h1
      rw [← hhv] at cT
      have hgn : (gv != 1) = true := by simpa using h1
      clear h1 h2 HTT hbd hgv hhv
      obtain ⟨bd, hbq⟩ : ∃ b, b = s3.M.bad := ⟨_, rfl⟩
      rw [← hbq] at m8_2 HR1
      have hbv : bd = true := hbq.trans HBD.out
      clear hbq HBD
      subst hbv
      have KS := hid (show ∀ w', Below wA.heap.size wA w' → (w'.cell? ⟨v0, 0, none⟩ = some (.slice A0 s0.M.W.length a0) ∧ w'.cell? ⟨v0, 1, none⟩ = some (.slice (some ⟨gG, oG, none⟩) s0.M.G.length b0) ∧ w'.cell? ⟨v0, 2, none⟩ = some (.bool s0.M.bad) ∧ w'.cell? ⟨v0, 3, none⟩ = some (.slice (some ⟨gC, oC, none⟩) s0.C.length c0) ∧ w'.cell? ⟨v0, 4, none⟩ = some (.slice L0 s0.L.length d0) ∧ w'.cell? ⟨v8, 0, none⟩ = some (.slice A8 s0.M.W.length a8) ∧ w'.cell? ⟨v8, 1, none⟩ = some (.slice (some ⟨gH, oH, none⟩) s0.M.G.length b8) ∧ w'.cell? ⟨v8, 2, none⟩ = some (.bool true) ∧ w'.cell? ⟨v8, 3, none⟩ = some (.slice (some ⟨gD, oD, none⟩) s0.C.length c8) ∧ w'.cell? ⟨v8, 4, none⟩ = some (.slice L8 s0.L.length d8) ∧ w'.cell? ⟨gG, oG + p, none⟩ = some (.int .i64 gv) ∧ w'.cell? ⟨gH, oH + p, none⟩ = some (.int .i64 hv9)) from fun w' h => ⟨(h.cell lt0).trans m0_0, (h.cell lt0).trans m0_1, (h.cell lt0).trans m0_2, (h.cell lt0).trans m0_3, (h.cell lt0).trans m0_4, (h.cell lt8).trans m8_0, (h.cell lt8).trans m8_1, (h.cell lt8).trans m8_2, (h.cell lt8).trans m8_3, (h.cell lt8).trans m8_4, (h.cell hbG).trans cS, (h.cell hbH).trans cT⟩)
      refine wp_region_held_drew (S := (fun w' => Below wA.heap.size wA w')) (by kernel_rfl) ((Below.refl _ _).drew) (fun HT0 => ?_)
      try dsimp only at HT0
      generalize wA.drew = W0 at HT0 ⊢
      refine tkW (oi := ⟨some 172, _, _, _, _, _⟩) (v := ?v299) 0 rfl (by kernel_rfl) (by kernel_rfl) (by kernel_rfl) (fun _ _ _ h => h) (by rfl) ?h299 HT0 ?_
      case h299 => (intro w hS; clear hS; go_simp; try with_reducible rfl)
      try simp only [Act.put, pA, pZ, pS]
      refine tkW (oi := ⟨some 173, _, _, _, _, _⟩) (v := ?v300) 1 rfl (by kernel_rfl) (by kernel_rfl) (by kernel_rfl) (fun _ _ _ h => h) (by rfl) ?h300 HT0 ?_
      case h300 => (intro w hS; clear hS; go_simp; try with_reducible rfl)
      try simp only [Act.put, pA, pZ, pS]
      refine tkW (oi := ⟨some 174, _, _, _, _, _⟩) (v := ?v301) 2 rfl (by kernel_rfl) (by kernel_rfl) (by kernel_rfl) (fun _ _ _ h => h) (by rfl) ?h301 HT0 ?_
      case h301 => (intro w hS; clear hS; go_simp; try with_reducible rfl)
      try simp only [Act.put, pA, pZ, pS]
      refine tkW (oi := ⟨some 175, _, _, _, _, _⟩) (v := ?v302) 3 rfl (by kernel_rfl) (by kernel_rfl) (by kernel_rfl) (fun _ _ _ h => h) (by rfl) ?h302 HT0 ?_
      case h302 => (intro w hS; clear hS; go_simp; try with_reducible rfl)
      try simp only [Act.put, pA, pZ, pS]
      refine tkW (oi := ⟨some 176, _, _, _, _, _⟩) (v := ?v303) 4 rfl (by kernel_rfl) (by kernel_rfl) (by kernel_rfl) (fun _ _ _ h => h) (by rfl) ?h303 HT0 ?_
      case h303 => (intro w hS; obtain ⟨x0, x1, x2, x3, x4, x5, x6, x7, x8, x9, x10, x11⟩ := KS.out w hS; clear hS; go_simp; try with_reducible rfl)
      try simp only [Act.put, pA, pZ, pS]
      refine tkW (oi := ⟨some 177, _, _, _, _, _⟩) (v := ?v304) 5 rfl (by kernel_rfl) (by kernel_rfl) (by kernel_rfl) (fun _ _ _ h => h) (by rfl) ?h304 HT0 ?_
      case h304 => (intro w hS; clear hS; go_simp; try with_reducible rfl)
      try simp only [Act.put, pA, pZ, pS]
      refine tkW (oi := ⟨some 178, _, _, _, _, _⟩) (v := ?v305) 6 rfl (by kernel_rfl) (by kernel_rfl) (by kernel_rfl) (fun _ _ _ h => h) (by rfl) ?h305 HT0 ?_
      case h305 => (intro w hS; clear hS; go_simp; try with_reducible rfl)
      try simp only [Act.put, pA, pZ, pS]
      refine tkW (oi := ⟨some 179, _, _, _, _, _⟩) (v := ?v306) 7 rfl (by kernel_rfl) (by kernel_rfl) (by kernel_rfl) (fun _ _ _ h => h) (by rfl) ?h306 HT0 ?_
      case h306 => (intro w hS; obtain ⟨x0, x1, x2, x3, x4, x5, x6, x7, x8, x9, x10, x11⟩ := KS.out w hS; clear hS; go_simp; try with_reducible rfl)
      try simp only [Act.put, pA, pZ, pS]
      refine tkW (oi := ⟨some 180, _, _, _, _, _⟩) (v := ?v307) 8 rfl (by kernel_rfl) (by kernel_rfl) (by kernel_rfl) (fun _ _ _ h => h) (by rfl) ?h307 HT0 ?_
      case h307 => (intro w hS; clear hS; go_simp; try with_reducible rfl)
      try simp only [Act.put, pA, pZ, pS]
      refine tkW (oi := ⟨some 181, _, _, _, _, _⟩) (v := ?v308) 9 rfl (by kernel_rfl) (by kernel_rfl) (by kernel_rfl) (fun _ _ _ h => h) (by rfl) ?h308 HT0 ?_
      case h308 => (intro w hS; clear hS; go_simp; try with_reducible rfl)
      try simp only [Act.put, pA, pZ, pS]
      refine tkU (oi := ⟨some 182, _, _, _, _, _⟩) 10 rfl (by kernel_rfl) (by kernel_rfl) (by kernel_rfl) (fun _ _ _ h => h) (by rfl) HT0 ?_
      try simp only [Act.put, pA, pZ, pS]
      refine tkU (oi := ⟨some 183, _, _, _, _, _⟩) 11 rfl (by kernel_rfl) (by kernel_rfl) (by kernel_rfl) (fun _ _ _ h => h) (by rfl) HT0 ?_
      try simp only [Act.put, pA, pZ, pS]
      refine tkU (oi := ⟨some 184, _, _, _, _, _⟩) 12 rfl (by kernel_rfl) (by kernel_rfl) (by kernel_rfl) (fun _ _ _ h => h) (by rfl) HT0 ?_
      try simp only [Act.put, pA, pZ, pS]
      refine tkU (oi := ⟨some 185, _, _, _, _, _⟩) 13 rfl (by kernel_rfl) (by kernel_rfl) (by kernel_rfl) (fun _ _ _ h => h) (by rfl) HT0 ?_
      try simp only [Act.put, pA, pZ, pS]
      refine tkU (oi := ⟨some 186, _, _, _, _, _⟩) 14 rfl (by kernel_rfl) (by kernel_rfl) (by kernel_rfl) (fun _ _ _ h => h) (by rfl) HT0 ?_
      try simp only [Act.put, pA, pZ, pS]
      refine tkU (oi := ⟨some 187, _, _, _, _, _⟩) 15 rfl (by kernel_rfl) (by kernel_rfl) (by kernel_rfl) (fun _ _ _ h => h) (by rfl) HT0 ?_
      try simp only [Act.put, pA, pZ, pS]
      refine tkU (oi := ⟨some 188, _, _, _, _, _⟩) 16 rfl (by kernel_rfl) (by kernel_rfl) (by kernel_rfl) (fun _ _ _ h => h) (by rfl) HT0 ?_
      try simp only [Act.put, pA, pZ, pS]
      refine tkW (oi := ⟨some 189, _, _, _, _, _⟩) (v := ?v316) 17 rfl (by kernel_rfl) (by kernel_rfl) (by kernel_rfl) (fun _ _ _ h => h) (by rfl) ?h316 HT0 ?_
      case h316 => (intro w hS; clear hS; go_simp; try with_reducible rfl)
      try simp only [Act.put, pA, pZ, pS]
      refine tkW (oi := ⟨some 190, _, _, _, _, _⟩) (v := ?v317) 18 rfl (by kernel_rfl) (by kernel_rfl) (by kernel_rfl) (fun _ _ _ h => h) (by rfl) ?h317 HT0 ?_
      case h317 => (intro w hS; clear hS; go_simp; try with_reducible rfl)
      try simp only [Act.put, pA, pZ, pS]
      refine tkW (oi := ⟨some 191, _, _, _, _, _⟩) (v := ?v318) 19 rfl (by kernel_rfl) (by kernel_rfl) (by kernel_rfl) (fun _ _ _ h => h) (by rfl) ?h318 HT0 ?_
      case h318 => (intro w hS; clear hS; go_simp; try with_reducible rfl)
      try simp only [Act.put, pA, pZ, pS]
      refine tkW (oi := ⟨some 192, _, _, _, _, _⟩) (v := ?v319) 20 rfl (by kernel_rfl) (by kernel_rfl) (by kernel_rfl) (fun _ _ _ h => h) (by rfl) ?h319 HT0 ?_
      case h319 => (intro w hS; clear hS; go_simp; try with_reducible rfl)
      try simp only [Act.put, pA, pZ, pS]
      refine tkW (oi := ⟨some 193, _, _, _, _, _⟩) (v := ?v320) 21 rfl (by kernel_rfl) (by kernel_rfl) (by kernel_rfl) (fun _ _ _ h => h) (by rfl) ?h320 HT0 ?_
      case h320 => (intro w hS; clear hS; go_simp; try with_reducible rfl)
      try simp only [Act.put, pA, pZ, pS]
      refine tkW (oi := ⟨some 194, _, _, _, _, _⟩) (v := ?v321) 22 rfl (by kernel_rfl) (by kernel_rfl) (by kernel_rfl) (fun _ _ _ h => h) (by rfl) ?h321 HT0 ?_
      case h321 => (intro w hS; obtain ⟨x0, x1, x2, x3, x4, x5, x6, x7, x8, x9, x10, x11⟩ := KS.out w hS; clear hS; go_simp; try with_reducible rfl)
      try simp only [Act.put, pA, pZ, pS]
      refine tkW (oi := ⟨some 195, _, _, _, _, _⟩) (v := ?v322) 23 rfl (by kernel_rfl) (by kernel_rfl) (by kernel_rfl) (fun _ _ _ h => h) (by rfl) ?h322 HT0 ?_
      case h322 => (intro w hS; clear hS; go_simp; try with_reducible rfl)
      try simp only [Act.put, pA, pZ, pS]
      refine tkU (oi := ⟨some 196, _, _, _, _, _⟩) 24 rfl (by kernel_rfl) (by kernel_rfl) (by kernel_rfl) (fun _ _ _ h => h) (by rfl) HT0 ?_
      try simp only [Act.put, pA, pZ, pS]
      refine tkU (oi := ⟨some 197, _, _, _, _, _⟩) 25 rfl (by kernel_rfl) (by kernel_rfl) (by kernel_rfl) (fun _ _ _ h => h) (by rfl) HT0 ?_
      try simp only [Act.put, pA, pZ, pS]
      refine tkU (oi := ⟨some 198, _, _, _, _, _⟩) 26 rfl (by kernel_rfl) (by kernel_rfl) (by kernel_rfl) (fun _ _ _ h => h) (by rfl) HT0 ?_
      try simp only [Act.put, pA, pZ, pS]
      refine tkU (oi := ⟨some 199, _, _, _, _, _⟩) 27 rfl (by kernel_rfl) (by kernel_rfl) (by kernel_rfl) (fun _ _ _ h => h) (by rfl) HT0 ?_
      try simp only [Act.put, pA, pZ, pS]
      refine tkU (oi := ⟨some 200, _, _, _, _, _⟩) 28 rfl (by kernel_rfl) (by kernel_rfl) (by kernel_rfl) (fun _ _ _ h => h) (by rfl) HT0 ?_
      try simp only [Act.put, pA, pZ, pS]
      refine tkU (oi := ⟨some 201, _, _, _, _, _⟩) 29 rfl (by kernel_rfl) (by kernel_rfl) (by kernel_rfl) (fun _ _ _ h => h) (by rfl) HT0 ?_
      try simp only [Act.put, pA, pZ, pS]
      refine tkU (oi := ⟨some 202, _, _, _, _, _⟩) 30 rfl (by kernel_rfl) (by kernel_rfl) (by kernel_rfl) (fun _ _ _ h => h) (by rfl) HT0 ?_
      try simp only [Act.put, pA, pZ, pS]
      refine tkW (oi := ⟨some 203, _, _, _, _, _⟩) (v := ?v330) 31 rfl (by kernel_rfl) (by kernel_rfl) (by kernel_rfl) (fun _ _ _ h => h) (by rfl) ?h330 HT0 ?_
      case h330 => (intro w hS; clear hS; go_simp; try with_reducible rfl)
      try simp only [Act.put, pA, pZ, pS]
      refine tkW (oi := ⟨some 204, _, _, _, _, _⟩) (v := ?v331) 32 rfl (by kernel_rfl) (by kernel_rfl) (by kernel_rfl) (fun _ _ _ h => h) (by rfl) ?h331 HT0 ?_
      case h331 => (intro w hS; clear hS; go_simp; try with_reducible rfl)
      try simp only [Act.put, pA, pZ, pS]
      refine tkW (oi := ⟨some 205, _, _, _, _, _⟩) (v := ?v332) 33 rfl (by kernel_rfl) (by kernel_rfl) (by kernel_rfl) (fun _ _ _ h => h) (by rfl) ?h332 HT0 ?_
      case h332 => (intro w hS; clear hS; go_simp; try with_reducible rfl)
      try simp only [Act.put, pA, pZ, pS]
      refine tkW (oi := ⟨some 206, _, _, _, _, _⟩) (v := ?v333) 34 rfl (by kernel_rfl) (by kernel_rfl) (by kernel_rfl) (fun _ _ _ h => h) (by rfl) ?h333 HT0 ?_
      case h333 => (intro w hS; obtain ⟨x0, x1, x2, x3, x4, x5, x6, x7, x8, x9, x10, x11⟩ := KS.out w hS; clear hS; go_simp; try with_reducible rfl)
      try simp only [Act.put, pA, pZ, pS]
      refine tkW (oi := ⟨some 209, _, _, _, _, _⟩) (v := ?v334) 37 rfl (by kernel_rfl) (by kernel_rfl) (by kernel_rfl) (fun _ _ _ h => h) (by rfl) ?h334 HT0 ?_
      case h334 => (intro w hS; obtain ⟨x0, x1, x2, x3, x4, x5, x6, x7, x8, x9, x10, x11⟩ := KS.out w hS; clear hS; go_simp; try with_reducible rfl)
      try simp only [Act.put, pA, pZ, pS]
      refine wpAnyH_ready (rs := [35]) (by kernel_rfl) (by simp) ?_
      refine AllReadyH.cons (o := { dst := some 207, op := _, type := _, pos := _, after := _, guard := _ }) rfl (fun K hK => ?_) AllReadyH.nil
      go_simp
      (go_at_call 22; (with_reducible refine (HR1.out _ (S8.step HT0)).mono ?_); rintro e wk1 ⟨AR1, cR1, rfl, hk1⟩)
      have HT1 := bstep HT0 hk1
      refine hK.out _ _ HT1 (fun _ => ?_)
      clear hK K
      try simp only [Act.put, List.setIfInBounds_toArray, List.set_cons_zero, List.set_cons_succ]
      refine tkW (oi := ⟨some 208, _, _, _, _, _⟩) (v := ?v335) 36 rfl (by kernel_rfl) (by kernel_rfl) (by kernel_rfl) (fun _ _ _ h => h) (by rfl) ?h335 HT1 ?_
      case h335 => (intro w hS; clear hS; go_simp; try with_reducible rfl)
      try simp only [Act.put, pA, pZ, pS]
      refine wpAnyH_ready (rs := [38]) (by kernel_rfl) (by simp) ?_
      refine AllReadyH.cons (o := { dst := some 210, op := _, type := _, pos := _, after := _, guard := _ }) rfl (fun K hK => ?_) AllReadyH.nil
      go_simp
      (go_at_call 31; (with_reducible refine (HR2.out _ (S0.step HT1)).mono ?_); rintro e wk2 ⟨AR2, cR2, rfl, hk2⟩)
      have HT2 := bstep HT1 hk2
      refine hK.out _ _ HT2 (fun _ => ?_)
      clear hK K
      try simp only [Act.put, List.setIfInBounds_toArray, List.set_cons_zero, List.set_cons_succ]
      refine tkW (oi := ⟨some 211, _, _, _, _, _⟩) (v := ?v336) 39 rfl (by kernel_rfl) (by kernel_rfl) (by kernel_rfl) (fun _ _ _ h => h) (by rfl) ?h336 HT2 ?_
      case h336 => (intro w hS; clear hS; go_simp; try with_reducible rfl)
      try simp only [Act.put, pA, pZ, pS]
      refine tkW (oi := ⟨some 212, _, _, _, _, _⟩) (v := ?v337) 40 rfl (by kernel_rfl) (by kernel_rfl) (by kernel_rfl) (fun _ _ _ h => h) (by rfl) ?h337 HT2 ?_
      case h337 => (intro w hS; clear hS; go_simp; try with_reducible rfl)
      try simp only [Act.put, pA, pZ, pS]
      refine tkW (oi := ⟨some 213, _, _, _, _, _⟩) (v := ?v338) 41 rfl (by kernel_rfl) (by kernel_rfl) (by kernel_rfl) (fun _ _ _ h => h) (by rfl) ?h338 HT2 ?_
      case h338 => (intro w hS; clear hS; go_simp; try with_reducible rfl)
      try simp only [Act.put, pA, pZ, pS]
      refine tkW (oi := ⟨some 214, _, _, _, _, _⟩) (v := ?v339) 42 rfl (by kernel_rfl) (by kernel_rfl) (by kernel_rfl) (fun _ _ _ h => h) (by rfl) ?h339 HT2 ?_
      case h339 => (intro w hS; clear hS; go_simp; try with_reducible rfl)
      try simp only [Act.put, pA, pZ, pS]
      refine tkW (oi := ⟨some 6, _, _, _, _, _⟩) (v := ?v340) 43 rfl (by kernel_rfl) (by kernel_rfl) (by kernel_rfl) (fun _ _ _ h => h) (by rfl) ?h340 HT2 ?_
      case h340 => (intro w hS; clear hS; go_simp; try with_reducible rfl)
      try simp only [Act.put, pA, pZ, pS]
      refine wpAnyH_done (by kernel_rfl) ?_ _
      go_wp2_with fail
      go_ret
      exact ⟨rfl, bstep hb HT2⟩

end ScanRetires
end Go.Proofs.Ythpflcknommpdaa
