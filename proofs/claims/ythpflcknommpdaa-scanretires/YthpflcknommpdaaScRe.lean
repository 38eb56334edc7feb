/- ScanRetires' ways out: no right system, a deep core, a core that has retired much. -/
import Derived.Test.YthpflcknommpdaaKShS
import Derived.Test.YthpflcknommpdaaKPla
import Derived.Test.YthpflcknommpdaaKOpe
namespace Go.Proofs.Ythpflcknommpdaa
namespace ScanRetires
open Go.ChangeShapes Go.WideShapes Go.ChangeAt Go.RowKit
set_option linter.unusedVariables false
set_option linter.unusedSimpArgs false

set_option maxRecDepth 100000 in
set_option maxHeartbeats 8000000 in
theorem walk_not (A0 B0 C0 L0 : Option Addr) (a0 b0 c0 d0 : Nat) (s0 : Sy) (n1 n2 : Int) (w0 : World) (u0 : 0 ≤ n1) (u1 : n1 ≤ 255) (u2 : 0 ≤ n2) (u3 : n2 ≤ 255)
    (rW : Row w0 A0 s0.M.W) (rG : Row w0 B0 s0.M.G) (rC : RowC w0 C0 s0.C) (rL : RowE w0 L0 s0.L) (g0 : s0.M.W.length ≤ maxLen) (g1 : s0.M.G.length ≤ maxLen) (g2 : s0.C.length ≤ maxLen) (g3 : s0.L.length ≤ maxLen) (q0 : syMays4 s0 = false) :
    Calls Try.prog 5 #[.agg #[.slice A0 s0.M.W.length a0, .slice B0 s0.M.G.length b0, .bool s0.M.bad, .slice C0 s0.C.length c0, .slice L0 s0.L.length d0], .int .u8 n1, .int .u8 n2] w0 fun e w' => e = .returned (.bool true) ∧ Below w0.heap.size w0 w' := by
  have S0 : RS w0 s0 A0 B0 C0 L0 := ⟨rW, rG, rC, rL⟩
  have hb : Below w0.heap.size w0 w0 := Below.refl _ _
  have HC := rmay4_any A0 B0 C0 L0 a0 b0 c0 d0 s0
  rw [q0] at HC
  replace HC := hid (show ∀ w, RS w s0 A0 B0 C0 L0 → Calls Try.prog 8 #[.agg #[.slice A0 s0.M.W.length a0, .slice B0 s0.M.G.length b0, .bool s0.M.bad, .slice C0 s0.C.length c0, .slice L0 s0.L.length d0], .int .i64 40] w fun e w' => e = .returned (.bool false) ∧ Below w.heap.size w w' from fun w h => HC w h.G h.C g1 g0 g2 g3)
  clear rW rG rC rL g0 g1 g2 g3
  go_enter Try.func5, Try.ntmps5
  go_upto_region 1 with (fail)
  have Bk0 := heap_alloc_new w0 (.cells #[.slice A0 s0.M.W.length a0, .slice B0 s0.M.G.length b0, .bool s0.M.bad, .slice C0 s0.C.length c0, .slice L0 s0.L.length d0] 28)
  have lt0 : w0.heap.size < (w0.alloc (.cells #[.slice A0 s0.M.W.length a0, .slice B0 s0.M.G.length b0, .bool s0.M.bad, .slice C0 s0.C.length c0, .slice L0 s0.L.length d0] 28)).heap.size := by simp
  have hk : Below w0.heap.size w0 (w0.alloc (.cells #[.slice A0 s0.M.W.length a0, .slice B0 s0.M.G.length b0, .bool s0.M.bad, .slice C0 s0.C.length c0, .slice L0 s0.L.length d0] 28)) := boxed _ _
  replace S0 := S0.step hk
  replace hb := bstep hb hk
  clear hk
  obtain ⟨v0, hv⟩ : ∃ v, w0.heap.size = v := ⟨_, rfl⟩
  rw [hv] at Bk0 lt0 ⊢
  clear hv
  generalize (w0.alloc (.cells #[.slice A0 s0.M.W.length a0, .slice B0 s0.M.G.length b0, .bool s0.M.bad, .slice C0 s0.C.length c0, .slice L0 s0.L.length d0] 28)) = w1 at *
  go_wp2_with fail
  refine (shown6_any _).mono ?_
  rintro e w2 ⟨rfl, hk⟩
  replace Bk0 := (hk.block v0 lt0).trans Bk0
  replace lt0 := Nat.lt_of_lt_of_le lt0 hk.size
  replace S0 := S0.step hk
  replace hb := bstep hb hk
  clear hk
  go_upto_region 2 with (fail)
  obtain ⟨m0_0, m0_1, m0_2, m0_3, m0_4⟩ := cells5 Bk0
  go_wp2_with (go_at_call 8; refine (HC.out _ S0).mono ?_; rintro e wm ⟨rfl, hk⟩)
  go_ret
  exact ⟨rfl, bstep hb hk⟩

set_option maxRecDepth 100000 in
set_option maxHeartbeats 8000000 in
theorem walk_deep (A0 B0 C0 L0 : Option Addr) (a0 b0 c0 d0 : Nat) (s0 : Sy) (n1 n2 : Int) (w0 : World) (u0 : 0 ≤ n1) (u1 : n1 ≤ 255) (u2 : 0 ≤ n2) (u3 : n2 ≤ 255)
    (rW : Row w0 A0 s0.M.W) (rG : Row w0 B0 s0.M.G) (rC : RowC w0 C0 s0.C) (rL : RowE w0 L0 s0.L) (g0 : s0.M.W.length ≤ maxLen) (g1 : s0.M.G.length ≤ maxLen) (g2 : s0.C.length ≤ maxLen) (g3 : s0.L.length ≤ maxLen) (q0 : syMays4 s0 = true) (qF : ∀ (k : Nat) (x : Co), n1.tmod (s0.C.length : Int) = (k : Int) → s0.C[k]? = some x → 38 ≤ x.F.length) :
    Calls Try.prog 5 #[.agg #[.slice A0 s0.M.W.length a0, .slice B0 s0.M.G.length b0, .bool s0.M.bad, .slice C0 s0.C.length c0, .slice L0 s0.L.length d0], .int .u8 n1, .int .u8 n2] w0 fun e w' => e = .returned (.bool true) ∧ Below w0.heap.size w0 w' := by
  have S0 : RS w0 s0 A0 B0 C0 L0 := ⟨rW, rG, rC, rL⟩
  have hb : Below w0.heap.size w0 w0 := Below.refl _ _
  have HC := rmay4_any A0 B0 C0 L0 a0 b0 c0 d0 s0
  rw [q0] at HC
  replace HC := hid (show ∀ w, RS w s0 A0 B0 C0 L0 → Calls Try.prog 8 #[.agg #[.slice A0 s0.M.W.length a0, .slice B0 s0.M.G.length b0, .bool s0.M.bad, .slice C0 s0.C.length c0, .slice L0 s0.L.length d0], .int .i64 40] w fun e w' => e = .returned (.bool true) ∧ Below w.heap.size w w' from fun w h => HC w h.G h.C g1 g0 g2 g3)
  clear rW rG rC rL g0 g1 g2 g3
  go_enter Try.func5, Try.ntmps5
  go_upto_region 1 with (fail)
  have Bk0 := heap_alloc_new w0 (.cells #[.slice A0 s0.M.W.length a0, .slice B0 s0.M.G.length b0, .bool s0.M.bad, .slice C0 s0.C.length c0, .slice L0 s0.L.length d0] 28)
  have lt0 : w0.heap.size < (w0.alloc (.cells #[.slice A0 s0.M.W.length a0, .slice B0 s0.M.G.length b0, .bool s0.M.bad, .slice C0 s0.C.length c0, .slice L0 s0.L.length d0] 28)).heap.size := by simp
  have hk : Below w0.heap.size w0 (w0.alloc (.cells #[.slice A0 s0.M.W.length a0, .slice B0 s0.M.G.length b0, .bool s0.M.bad, .slice C0 s0.C.length c0, .slice L0 s0.L.length d0] 28)) := boxed _ _
  replace S0 := S0.step hk
  replace hb := bstep hb hk
  clear hk
  obtain ⟨v0, hv⟩ : ∃ v, w0.heap.size = v := ⟨_, rfl⟩
  rw [hv] at Bk0 lt0 ⊢
  clear hv
  generalize (w0.alloc (.cells #[.slice A0 s0.M.W.length a0, .slice B0 s0.M.G.length b0, .bool s0.M.bad, .slice C0 s0.C.length c0, .slice L0 s0.L.length d0] 28)) = w1 at *
  go_wp2_with fail
  refine (shown6_any _).mono ?_
  rintro e w2 ⟨rfl, hk⟩
  replace Bk0 := (hk.block v0 lt0).trans Bk0
  replace lt0 := Nat.lt_of_lt_of_le lt0 hk.size
  replace S0 := S0.step hk
  replace hb := bstep hb hk
  clear hk
  go_upto_region 2 with (fail)
  obtain ⟨m0_0, m0_1, m0_2, m0_3, m0_4⟩ := cells5 Bk0
  go_upto_region 4 with (go_at_call 8; refine (HC.out _ S0).mono ?_; rintro e w3 ⟨rfl, hk⟩)
  clear m0_0 m0_1 m0_2 m0_3 m0_4
  replace Bk0 := (hk.block v0 lt0).trans Bk0
  replace lt0 := Nat.lt_of_lt_of_le lt0 hk.size
  replace S0 := S0.step hk
  replace hb := bstep hb hk
  clear hk
  clear HC
  have hmay : sySmall4 s0 = true ∧ syRight s0 = true := by simpa [syMays4] using q0
  have HF := hid (few_of_small (small_of4 hmay.1))
  have hsm := sySmall4_few hmay.1
  have hr := hmay.2
  simp only [syRight, Bool.and_eq_true, decide_eq_true_eq] at hr
  have HR := hid (Rt.of hr.1.1.1)
  obtain ⟨⟨⟨_, hc1⟩, hc8⟩, _⟩ := hr
  have HGB := hid hsm.1
  have HLB := hid hsm.2.2.2.1
  have HRB := hid (show ∀ x ∈ s0.C, x.ret.length ≤ 210 from fun x hx => (hsm.2.2.2.2 x hx).2.1)
  clear hmay q0 hsm
  obtain ⟨k, hk⟩ : ∃ k : Nat, n1.tmod (s0.C.length : Int) = (k : Int) := ⟨(n1.tmod (s0.C.length : Int)).toNat, by rw [Int.tmod_eq_emod_of_nonneg u0, Int.toNat_of_nonneg (Int.emod_nonneg _ (by omega))]⟩
  have hkl : k < s0.C.length := by have h9 := hk; rw [Int.tmod_eq_emod_of_nonneg u0] at h9; have := Int.emod_lt_of_pos n1 (show (0 : Int) < (s0.C.length : Int) by omega); omega
  obtain ⟨x, hx⟩ : ∃ x, s0.C[k]? = some x := ⟨_, List.getElem?_eq_getElem hkl⟩
  obtain ⟨gC, oC, eC, hbl, hat⟩ := S0.C (by omega)
  subst eC
  obtain ⟨AF, AR, cFq, cR, hcs, rF, rR, hcF⟩ := (hat k x hx).cs4
  clear hat
  have y0 : w3.cell? ⟨gC, oC + k * 7, none⟩ = some (.slice AF x.F.length cFq) := hcs 0 _ rfl
  have y6 : w3.cell? ⟨gC, oC + k * 7 + 6, none⟩ = some (.slice AR x.ret.length cR) := hcs 6 _ rfl
  have kl : (k : Int) < (s0.C.length : Int) := by omega
  have hne : ((s0.C.length : Int) == 0) = false := by rw [beq_eq_false_iff_ne]; omega
  have HX := hid hx
  clear hx hcs rF rR hcF
  obtain ⟨m0_0, m0_1, m0_2, m0_3, m0_4⟩ := cells5 Bk0
  have hq : decide ((38 : Int) ≤ (x.F.length : Int)) = true := by simpa using (show (38 : Int) ≤ (x.F.length : Int) by have := qF k x hk HX.out; omega)
  go_wp2_with fail
  go_ret
  exact ⟨rfl, hb⟩

set_option maxRecDepth 100000 in
set_option maxHeartbeats 8000000 in
theorem walk_much (A0 B0 C0 L0 : Option Addr) (a0 b0 c0 d0 : Nat) (s0 : Sy) (n1 n2 : Int) (w0 : World) (u0 : 0 ≤ n1) (u1 : n1 ≤ 255) (u2 : 0 ≤ n2) (u3 : n2 ≤ 255)
    (rW : Row w0 A0 s0.M.W) (rG : Row w0 B0 s0.M.G) (rC : RowC w0 C0 s0.C) (rL : RowE w0 L0 s0.L) (g0 : s0.M.W.length ≤ maxLen) (g1 : s0.M.G.length ≤ maxLen) (g2 : s0.C.length ≤ maxLen) (g3 : s0.L.length ≤ maxLen) (q0 : syMays4 s0 = true) (qF : ∀ (k : Nat) (x : Co), n1.tmod (s0.C.length : Int) = (k : Int) → s0.C[k]? = some x → x.F.length < 38 ∧ 200 ≤ x.ret.length) :
    Calls Try.prog 5 #[.agg #[.slice A0 s0.M.W.length a0, .slice B0 s0.M.G.length b0, .bool s0.M.bad, .slice C0 s0.C.length c0, .slice L0 s0.L.length d0], .int .u8 n1, .int .u8 n2] w0 fun e w' => e = .returned (.bool true) ∧ Below w0.heap.size w0 w' := by
  have S0 : RS w0 s0 A0 B0 C0 L0 := ⟨rW, rG, rC, rL⟩
  have hb : Below w0.heap.size w0 w0 := Below.refl _ _
  have HC := rmay4_any A0 B0 C0 L0 a0 b0 c0 d0 s0
  rw [q0] at HC
  replace HC := hid (show ∀ w, RS w s0 A0 B0 C0 L0 → Calls Try.prog 8 #[.agg #[.slice A0 s0.M.W.length a0, .slice B0 s0.M.G.length b0, .bool s0.M.bad, .slice C0 s0.C.length c0, .slice L0 s0.L.length d0], .int .i64 40] w fun e w' => e = .returned (.bool true) ∧ Below w.heap.size w w' from fun w h => HC w h.G h.C g1 g0 g2 g3)
  clear rW rG rC rL g0 g1 g2 g3
  go_enter Try.func5, Try.ntmps5
  go_upto_region 1 with (fail)
  have Bk0 := heap_alloc_new w0 (.cells #[.slice A0 s0.M.W.length a0, .slice B0 s0.M.G.length b0, .bool s0.M.bad, .slice C0 s0.C.length c0, .slice L0 s0.L.length d0] 28)
  have lt0 : w0.heap.size < (w0.alloc (.cells #[.slice A0 s0.M.W.length a0, .slice B0 s0.M.G.length b0, .bool s0.M.bad, .slice C0 s0.C.length c0, .slice L0 s0.L.length d0] 28)).heap.size := by simp
  have hk : Below w0.heap.size w0 (w0.alloc (.cells #[.slice A0 s0.M.W.length a0, .slice B0 s0.M.G.length b0, .bool s0.M.bad, .slice C0 s0.C.length c0, .slice L0 s0.L.length d0] 28)) := boxed _ _
  replace S0 := S0.step hk
  replace hb := bstep hb hk
  clear hk
  obtain ⟨v0, hv⟩ : ∃ v, w0.heap.size = v := ⟨_, rfl⟩
  rw [hv] at Bk0 lt0 ⊢
  clear hv
  generalize (w0.alloc (.cells #[.slice A0 s0.M.W.length a0, .slice B0 s0.M.G.length b0, .bool s0.M.bad, .slice C0 s0.C.length c0, .slice L0 s0.L.length d0] 28)) = w1 at *
  go_wp2_with fail
  refine (shown6_any _).mono ?_
  rintro e w2 ⟨rfl, hk⟩
  replace Bk0 := (hk.block v0 lt0).trans Bk0
  replace lt0 := Nat.lt_of_lt_of_le lt0 hk.size
  replace S0 := S0.step hk
  replace hb := bstep hb hk
  clear hk
  go_upto_region 2 with (fail)
  obtain ⟨m0_0, m0_1, m0_2, m0_3, m0_4⟩ := cells5 Bk0
  go_upto_region 4 with (go_at_call 8; refine (HC.out _ S0).mono ?_; rintro e w3 ⟨rfl, hk⟩)
  clear m0_0 m0_1 m0_2 m0_3 m0_4
  replace Bk0 := (hk.block v0 lt0).trans Bk0
  replace lt0 := Nat.lt_of_lt_of_le lt0 hk.size
  replace S0 := S0.step hk
  replace hb := bstep hb hk
  clear hk
  clear HC
  have hmay : sySmall4 s0 = true ∧ syRight s0 = true := by simpa [syMays4] using q0
  have HF := hid (few_of_small (small_of4 hmay.1))
  have hsm := sySmall4_few hmay.1
  have hr := hmay.2
  simp only [syRight, Bool.and_eq_true, decide_eq_true_eq] at hr
  have HR := hid (Rt.of hr.1.1.1)
  obtain ⟨⟨⟨_, hc1⟩, hc8⟩, _⟩ := hr
  have HGB := hid hsm.1
  have HLB := hid hsm.2.2.2.1
  have HRB := hid (show ∀ x ∈ s0.C, x.ret.length ≤ 210 from fun x hx => (hsm.2.2.2.2 x hx).2.1)
  clear hmay q0 hsm
  obtain ⟨k, hk⟩ : ∃ k : Nat, n1.tmod (s0.C.length : Int) = (k : Int) := ⟨(n1.tmod (s0.C.length : Int)).toNat, by rw [Int.tmod_eq_emod_of_nonneg u0, Int.toNat_of_nonneg (Int.emod_nonneg _ (by omega))]⟩
  have hkl : k < s0.C.length := by have h9 := hk; rw [Int.tmod_eq_emod_of_nonneg u0] at h9; have := Int.emod_lt_of_pos n1 (show (0 : Int) < (s0.C.length : Int) by omega); omega
  obtain ⟨x, hx⟩ : ∃ x, s0.C[k]? = some x := ⟨_, List.getElem?_eq_getElem hkl⟩
  obtain ⟨gC, oC, eC, hbl, hat⟩ := S0.C (by omega)
  subst eC
  obtain ⟨AF, AR, cFq, cR, hcs, rF, rR, hcF⟩ := (hat k x hx).cs4
  clear hat
  have y0 : w3.cell? ⟨gC, oC + k * 7, none⟩ = some (.slice AF x.F.length cFq) := hcs 0 _ rfl
  have y6 : w3.cell? ⟨gC, oC + k * 7 + 6, none⟩ = some (.slice AR x.ret.length cR) := hcs 6 _ rfl
  have kl : (k : Int) < (s0.C.length : Int) := by omega
  have hne : ((s0.C.length : Int) == 0) = false := by rw [beq_eq_false_iff_ne]; omega
  have HX := hid hx
  clear hx hcs rF rR hcF
  obtain ⟨m0_0, m0_1, m0_2, m0_3, m0_4⟩ := cells5 Bk0
  have hq : decide ((38 : Int) ≤ (x.F.length : Int)) = false := by have := (qF k x hk HX.out).1; simp; omega
  have hq2 : decide ((200 : Int) ≤ (x.ret.length : Int)) = true := by simpa using (show (200 : Int) ≤ (x.ret.length : Int) by have := (qF k x hk HX.out).2; omega)
  go_wp2_with fail
  go_ret
  exact ⟨rfl, hb⟩

end ScanRetires
end Go.Proofs.Ythpflcknommpdaa
