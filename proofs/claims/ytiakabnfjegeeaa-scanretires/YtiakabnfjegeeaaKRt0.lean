/- ScanRetires' ways out: no right system, a deep core, a core that has retired much. -/
import Derived.Test.YtiakabnfjegeeaaKShS
import Derived.Test.YtiakabnfjegeeaaKPla
import Derived.Test.YtiakabnfjegeeaaKOpe
import Derived.Test.YtiakabnfjegeeaaKScD

namespace Go.Proofs.Ytiakabnfjegeeaa
namespace ScanRetires
open Go.ChangeShapes Go.WideShapes Go.ChangeAt Go.RowKit
set_option linter.unusedVariables false
set_option linter.unusedSimpArgs false

set_option maxRecDepth 100000 in
set_option maxHeartbeats 8000000 in
theorem walk_not (A0 B0 C0 L0 : Option Addr) (a0 b0 c0 d0 : Nat) (s0 : Sy) (n1 n2 : Int) (w0 : World) (u0 : 0 ≤ n1) (u1 : n1 ≤ 255) (u2 : 0 ≤ n2) (u3 : n2 ≤ 255)
    (rW : Row w0 A0 s0.M.W) (rG : Row w0 B0 s0.M.G) (rC : RowC w0 C0 s0.C) (rL : RowE w0 L0 s0.L) (g0 : s0.M.W.length ≤ maxLen) (g1 : s0.M.G.length ≤ maxLen) (g2 : s0.C.length ≤ maxLen) (g3 : s0.L.length ≤ maxLen) (q0 : syMays4 s0 = false) :
    Calls Try.prog 4 #[.agg #[.slice A0 s0.M.W.length a0, .slice B0 s0.M.G.length b0, .bool s0.M.bad, .slice C0 s0.C.length c0, .slice L0 s0.L.length d0], .int .u8 n1, .int .u8 n2] w0 fun e w' => e = .returned (.bool true) ∧ Below w0.heap.size w0 w' := by
  have S0 : RS w0 s0 A0 B0 C0 L0 := ⟨rW, rG, rC, rL⟩
  have hb : Below w0.heap.size w0 w0 := Below.refl _ _
  have HC := rmay4_any A0 B0 C0 L0 a0 b0 c0 d0 s0
  rw [q0] at HC
  replace HC := hid (show ∀ w, RS w s0 A0 B0 C0 L0 → Calls Try.prog 17 #[.agg #[.slice A0 s0.M.W.length a0, .slice B0 s0.M.G.length b0, .bool s0.M.bad, .slice C0 s0.C.length c0, .slice L0 s0.L.length d0], .int .i64 40] w fun e w' => e = .returned (.bool false) ∧ Below w.heap.size w w' from fun w h => HC w h.G h.C g1 g0 g2 g3)
  clear rW rG rC rL g0 g1 g2 g3
  go_enter Try.func4, Try.ntmps4
  go_upto_region 1 with (fail)
  have Bk0 := heap_alloc_new w0 (.cells #[.slice A0 s0.M.W.length a0, .slice B0 s0.M.G.length b0, .bool s0.M.bad, .slice C0 s0.C.length c0, .slice L0 s0.L.length d0] 30)
  have lt0 : w0.heap.size < (w0.alloc (.cells #[.slice A0 s0.M.W.length a0, .slice B0 s0.M.G.length b0, .bool s0.M.bad, .slice C0 s0.C.length c0, .slice L0 s0.L.length d0] 30)).heap.size := by simp
  have hk : Below w0.heap.size w0 (w0.alloc (.cells #[.slice A0 s0.M.W.length a0, .slice B0 s0.M.G.length b0, .bool s0.M.bad, .slice C0 s0.C.length c0, .slice L0 s0.L.length d0] 30)) := boxed _ _
  replace S0 := S0.step hk
  replace hb := bstep hb hk
  clear hk
  obtain ⟨v0, hv⟩ : ∃ v, w0.heap.size = v := ⟨_, rfl⟩
  rw [hv] at Bk0 lt0 ⊢
  clear hv
  generalize (w0.alloc (.cells #[.slice A0 s0.M.W.length a0, .slice B0 s0.M.G.length b0, .bool s0.M.bad, .slice C0 s0.C.length c0, .slice L0 s0.L.length d0] 30)) = w1 at *
  go_wp2_with fail
  refine (shown6_any _).mono ?_
  rintro e w2 ⟨rfl, hk⟩
  replace Bk0 := (hk.block v0 lt0).trans Bk0
  replace lt0 := Nat.lt_of_lt_of_le lt0 hk.size
  replace S0 := S0.step hk
  replace hb := bstep hb hk
  clear hk
  go_upto_region 2 with (fail)
  obtain ⟨m0_0, m0_1, m0_2, m0_3, m0_4⟩ := cells5 Bk0
  go_wp2_with (go_at_call 17; refine (HC.out _ S0).mono ?_; rintro e wm ⟨rfl, hk⟩)
  go_ret
  exact ⟨rfl, bstep hb hk⟩

set_option maxRecDepth 100000 in
set_option maxHeartbeats 8000000 in
theorem walk_deep (A0 B0 C0 L0 : Option Addr) (a0 b0 c0 d0 : Nat) (s0 : Sy) (n1 n2 : Int) (w0 : World) (u0 : 0 ≤ n1) (u1 : n1 ≤ 255) (u2 : 0 ≤ n2) (u3 : n2 ≤ 255)
    (rW : Row w0 A0 s0.M.W) (rG : Row w0 B0 s0.M.G) (rC : RowC w0 C0 s0.C) (rL : RowE w0 L0 s0.L) (g0 : s0.M.W.length ≤ maxLen) (g1 : s0.M.G.length ≤ maxLen) (g2 : s0.C.length ≤ maxLen) (g3 : s0.L.length ≤ maxLen) (q0 : syMays4 s0 = true) (qF : ∀ (k : Nat) (x : Co), n1.tmod (s0.C.length : Int) = (k : Int) → s0.C[k]? = some x → 38 ≤ x.F.length) :
    Calls Try.prog 4 #[.agg #[.slice A0 s0.M.W.length a0, .slice B0 s0.M.G.length b0, .bool s0.M.bad, .slice C0 s0.C.length c0, .slice L0 s0.L.length d0], .int .u8 n1, .int .u8 n2] w0 fun e w' => e = .returned (.bool true) ∧ Below w0.heap.size w0 w' := by
  have S0 : RS w0 s0 A0 B0 C0 L0 := ⟨rW, rG, rC, rL⟩
  have hb : Below w0.heap.size w0 w0 := Below.refl _ _
  have HC := rmay4_any A0 B0 C0 L0 a0 b0 c0 d0 s0
  rw [q0] at HC
  replace HC := hid (show ∀ w, RS w s0 A0 B0 C0 L0 → Calls Try.prog 17 #[.agg #[.slice A0 s0.M.W.length a0, .slice B0 s0.M.G.length b0, .bool s0.M.bad, .slice C0 s0.C.length c0, .slice L0 s0.L.length d0], .int .i64 40] w fun e w' => e = .returned (.bool true) ∧ Below w.heap.size w w' from fun w h => HC w h.G h.C g1 g0 g2 g3)
  clear rW rG rC rL g0 g1 g2 g3
  go_enter Try.func4, Try.ntmps4
  go_upto_region 1 with (fail)
  have Bk0 := heap_alloc_new w0 (.cells #[.slice A0 s0.M.W.length a0, .slice B0 s0.M.G.length b0, .bool s0.M.bad, .slice C0 s0.C.length c0, .slice L0 s0.L.length d0] 30)
  have lt0 : w0.heap.size < (w0.alloc (.cells #[.slice A0 s0.M.W.length a0, .slice B0 s0.M.G.length b0, .bool s0.M.bad, .slice C0 s0.C.length c0, .slice L0 s0.L.length d0] 30)).heap.size := by simp
  have hk : Below w0.heap.size w0 (w0.alloc (.cells #[.slice A0 s0.M.W.length a0, .slice B0 s0.M.G.length b0, .bool s0.M.bad, .slice C0 s0.C.length c0, .slice L0 s0.L.length d0] 30)) := boxed _ _
  replace S0 := S0.step hk
  replace hb := bstep hb hk
  clear hk
  obtain ⟨v0, hv⟩ : ∃ v, w0.heap.size = v := ⟨_, rfl⟩
  rw [hv] at Bk0 lt0 ⊢
  clear hv
  generalize (w0.alloc (.cells #[.slice A0 s0.M.W.length a0, .slice B0 s0.M.G.length b0, .bool s0.M.bad, .slice C0 s0.C.length c0, .slice L0 s0.L.length d0] 30)) = w1 at *
  go_wp2_with fail
  refine (shown6_any _).mono ?_
  rintro e w2 ⟨rfl, hk⟩
  replace Bk0 := (hk.block v0 lt0).trans Bk0
  replace lt0 := Nat.lt_of_lt_of_le lt0 hk.size
  replace S0 := S0.step hk
  replace hb := bstep hb hk
  clear hk
  go_upto_region 2 with (fail)
  obtain ⟨m0_0, m0_1, m0_2, m0_3, m0_4⟩ := cells5 Bk0
  go_upto_region 4 with (go_at_call 17; refine (HC.out _ S0).mono ?_; rintro e w3 ⟨rfl, hk⟩)
  clear m0_0 m0_1 m0_2 m0_3 m0_4
  replace Bk0 := (hk.block v0 lt0).trans Bk0
  replace lt0 := Nat.lt_of_lt_of_le lt0 hk.size
  replace S0 := S0.step hk
  replace hb := bstep hb hk
  clear hk
  clear HC
  have hmay : sySmall4 s0 = true ∧ syRight s0 = true := by simpa [syMays4] using q0
  have HF := hid (few_of_small (small_of4 hmay.1))
  have hsm := sySmall4_few hmay.1
  have hr := hmay.2
  simp only [syRight, Bool.and_eq_true, decide_eq_true_eq] at hr
  have HR := hid (Rt.of hr.1.1.1)
  obtain ⟨⟨⟨_, hc1⟩, hc8⟩, _⟩ := hr
  have HGB := hid hsm.1
  have HLB := hid hsm.2.2.2.1
  have HRB := hid (show ∀ x ∈ s0.C, x.ret.length ≤ 210 from fun x hx => (hsm.2.2.2.2 x hx).2.1)
  clear hmay q0 hsm
  obtain ⟨k, hk⟩ : ∃ k : Nat, n1.tmod (s0.C.length : Int) = (k : Int) := ⟨(n1.tmod (s0.C.length : Int)).toNat, by rw [Int.tmod_eq_emod_of_nonneg u0, Int.toNat_of_nonneg (Int.emod_nonneg _ (by omega))]⟩
  have hkl : k < s0.C.length := by have h9 := hk; rw [Int.tmod_eq_emod_of_nonneg u0] at h9; have := Int.emod_lt_of_pos n1 (show (0 : Int) < (s0.C.length : Int) by omega); omega
  obtain ⟨x, hx⟩ : ∃ x, s0.C[k]? = some x := ⟨_, List.getElem?_eq_getElem hkl⟩
  obtain ⟨gC, oC, eC, hbl, hat⟩ := S0.C (by omega)
  subst eC
  obtain ⟨AF, AR, cFq, cR, hcs, rF, rR, hcF⟩ := (hat k x hx).cs4
  clear hat
  have y0 : w3.cell? ⟨gC, oC + k * 7, none⟩ = some (.slice AF x.F.length cFq) := hcs 0 _ rfl
  have y6 : w3.cell? ⟨gC, oC + k * 7 + 6, none⟩ = some (.slice AR x.ret.length cR) := hcs 6 _ rfl
  have kl : (k : Int) < (s0.C.length : Int) := by omega
  have hne : ((s0.C.length : Int) == 0) = false := by rw [beq_eq_false_iff_ne]; omega
  have HX := hid hx
  clear hx hcs rF rR hcF
  obtain ⟨m0_0, m0_1, m0_2, m0_3, m0_4⟩ := cells5 Bk0
  have hq : decide ((38 : Int) ≤ (x.F.length : Int)) = true := by simpa using (show (38 : Int) ≤ (x.F.length : Int) by have := qF k x hk HX.out; omega)
  go_wp2_with fail
  go_ret
  exact ⟨rfl, hb⟩

set_option maxRecDepth 100000 in
set_option maxHeartbeats 8000000 in
theorem walk_much (A0 B0 C0 L0 : Option Addr) (a0 b0 c0 d0 : Nat) (s0 : Sy) (n1 n2 : Int) (w0 : World) (u0 : 0 ≤ n1) (u1 : n1 ≤ 255) (u2 : 0 ≤ n2) (u3 : n2 ≤ 255)
    (rW : Row w0 A0 s0.M.W) (rG : Row w0 B0 s0.M.G) (rC : RowC w0 C0 s0.C) (rL : RowE w0 L0 s0.L) (g0 : s0.M.W.length ≤ maxLen) (g1 : s0.M.G.length ≤ maxLen) (g2 : s0.C.length ≤ maxLen) (g3 : s0.L.length ≤ maxLen) (q0 : syMays4 s0 = true) (qF : ∀ (k : Nat) (x : Co), n1.tmod (s0.C.length : Int) = (k : Int) → s0.C[k]? = some x → x.F.length < 38 ∧ 200 ≤ x.ret.length) :
    Calls Try.prog 4 #[.agg #[.slice A0 s0.M.W.length a0, .slice B0 s0.M.G.length b0, .bool s0.M.bad, .slice C0 s0.C.length c0, .slice L0 s0.L.length d0], .int .u8 n1, .int .u8 n2] w0 fun e w' => e = .returned (.bool true) ∧ Below w0.heap.size w0 w' := by
  have S0 : RS w0 s0 A0 B0 C0 L0 := ⟨rW, rG, rC, rL⟩
  have hb : Below w0.heap.size w0 w0 := Below.refl _ _
  have HC := rmay4_any A0 B0 C0 L0 a0 b0 c0 d0 s0
  rw [q0] at HC
  replace HC := hid (show ∀ w, RS w s0 A0 B0 C0 L0 → Calls Try.prog 17 #[.agg #[.slice A0 s0.M.W.length a0, .slice B0 s0.M.G.length b0, .bool s0.M.bad, .slice C0 s0.C.length c0, .slice L0 s0.L.length d0], .int .i64 40] w fun e w' => e = .returned (.bool true) ∧ Below w.heap.size w w' from fun w h => HC w h.G h.C g1 g0 g2 g3)
  clear rW rG rC rL g0 g1 g2 g3
  go_enter Try.func4, Try.ntmps4
  go_upto_region 1 with (fail)
  have Bk0 := heap_alloc_new w0 (.cells #[.slice A0 s0.M.W.length a0, .slice B0 s0.M.G.length b0, .bool s0.M.bad, .slice C0 s0.C.length c0, .slice L0 s0.L.length d0] 30)
  have lt0 : w0.heap.size < (w0.alloc (.cells #[.slice A0 s0.M.W.length a0, .slice B0 s0.M.G.length b0, .bool s0.M.bad, .slice C0 s0.C.length c0, .slice L0 s0.L.length d0] 30)).heap.size := by simp
  have hk : Below w0.heap.size w0 (w0.alloc (.cells #[.slice A0 s0.M.W.length a0, .slice B0 s0.M.G.length b0, .bool s0.M.bad, .slice C0 s0.C.length c0, .slice L0 s0.L.length d0] 30)) := boxed _ _
  replace S0 := S0.step hk
  replace hb := bstep hb hk
  clear hk
  obtain ⟨v0, hv⟩ : ∃ v, w0.heap.size = v := ⟨_, rfl⟩
  rw [hv] at Bk0 lt0 ⊢
  clear hv
  generalize (w0.alloc (.cells #[.slice A0 s0.M.W.length a0, .slice B0 s0.M.G.length b0, .bool s0.M.bad, .slice C0 s0.C.length c0, .slice L0 s0.L.length d0] 30)) = w1 at *
  go_wp2_with fail
  refine (shown6_any _).mono ?_
  rintro e w2 ⟨rfl, hk⟩
  replace Bk0 := (hk.block v0 lt0).trans Bk0
  replace lt0 := Nat.lt_of_lt_of_le lt0 hk.size
  replace S0 := S0.step hk
  replace hb := bstep hb hk
  clear hk
  go_upto_region 2 with (fail)
  obtain ⟨m0_0, m0_1, m0_2, m0_3, m0_4⟩ := cells5 Bk0
  go_upto_region 4 with (go_at_call 17; refine (HC.out _ S0).mono ?_; rintro e w3 ⟨rfl, hk⟩)
  clear m0_0 m0_1 m0_2 m0_3 m0_4
  replace Bk0 := (hk.block v0 lt0).trans Bk0
  replace lt0 := Nat.lt_of_lt_of_le lt0 hk.size
  replace S0 := S0.step hk
  replace hb := bstep hb hk
  clear hk
  clear HC
  have hmay : sySmall4 s0 = true ∧ syRight s0 = true := by simpa [syMays4] using q0
  have HF := hid (few_of_small (small_of4 hmay.1))
  have hsm := sySmall4_few hmay.1
  have hr := hmay.2
  simp only [syRight, Bool.and_eq_true, decide_eq_true_eq] at hr
  have HR := hid (Rt.of hr.1.1.1)
  obtain ⟨⟨⟨_, hc1⟩, hc8⟩, _⟩ := hr
  have HGB := hid hsm.1
  have HLB := hid hsm.2.2.2.1
  have HRB := hid (show ∀ x ∈ s0.C, x.ret.length ≤ 210 from fun x hx => (hsm.2.2.2.2 x hx).2.1)
  clear hmay q0 hsm
  obtain ⟨k, hk⟩ : ∃ k : Nat, n1.tmod (s0.C.length : Int) = (k : Int) := ⟨(n1.tmod (s0.C.length : Int)).toNat, by rw [Int.tmod_eq_emod_of_nonneg u0, Int.toNat_of_nonneg (Int.emod_nonneg _ (by omega))]⟩
  have hkl : k < s0.C.length := by have h9 := hk; rw [Int.tmod_eq_emod_of_nonneg u0] at h9; have := Int.emod_lt_of_pos n1 (show (0 : Int) < (s0.C.length : Int) by omega); omega
  obtain ⟨x, hx⟩ : ∃ x, s0.C[k]? = some x := ⟨_, List.getElem?_eq_getElem hkl⟩
  obtain ⟨gC, oC, eC, hbl, hat⟩ := S0.C (by omega)
  subst eC
  obtain ⟨AF, AR, cFq, cR, hcs, rF, rR, hcF⟩ := (hat k x hx).cs4
  clear hat
  have y0 : w3.cell? ⟨gC, oC + k * 7, none⟩ = some (.slice AF x.F.length cFq) := hcs 0 _ rfl
  have y6 : w3.cell? ⟨gC, oC + k * 7 + 6, none⟩ = some (.slice AR x.ret.length cR) := hcs 6 _ rfl
  have kl : (k : Int) < (s0.C.length : Int) := by omega
  have hne : ((s0.C.length : Int) == 0) = false := by rw [beq_eq_false_iff_ne]; omega
  have HX := hid hx
  clear hx hcs rF rR hcF
  obtain ⟨m0_0, m0_1, m0_2, m0_3, m0_4⟩ := cells5 Bk0
  have hq : decide ((38 : Int) ≤ (x.F.length : Int)) = false := by have := (qF k x hk HX.out).1; simp; omega
  have hq2 : decide ((200 : Int) ≤ (x.ret.length : Int)) = true := by simpa using (show (200 : Int) ≤ (x.ret.length : Int) by have := (qF k x hk HX.out).2; omega)
  go_wp2_with fail
  go_ret
  exact ⟨rfl, hb⟩

end ScanRetires
end Go.Proofs.Ytiakabnfjegeeaa

/- ScanRetires, where it goes through. -/
namespace Go.Proofs.Ytiakabnfjegeeaa
namespace ScanRetires
open Go.ChangeShapes Go.WideShapes Go.ChangeAt Go.RowKit
set_option linter.unusedVariables false
set_option linter.unusedSimpArgs false

set_option maxRecDepth 100000 in
set_option maxHeartbeats 80000000 in
theorem walk_high0 (A0 B0 C0 L0 : Option Addr) (a0 b0 c0 d0 : Nat) (s0 : Sy) (n1 n2 : Int) (w0 : World) (u0 : 0 ≤ n1) (u1 : n1 ≤ 255) (u2 : 0 ≤ n2) (u3 : n2 ≤ 255)
    (rW : Row w0 A0 s0.M.W) (rG : Row w0 B0 s0.M.G) (rC : RowC w0 C0 s0.C) (rL : RowE w0 L0 s0.L) (g0 : s0.M.W.length ≤ maxLen) (g1 : s0.M.G.length ≤ maxLen) (g2 : s0.C.length ≤ maxLen) (g3 : s0.L.length ≤ maxLen) (q0 : syMays4 s0 = true) (qF : ∀ (k : Nat) (x : Co), n1.tmod (s0.C.length : Int) = (k : Int) → s0.C[k]? = some x → x.F.length < 38 ∧ x.ret.length < 200) (qL : ∀ (k : Nat) (x : Co), n1.tmod (s0.C.length : Int) = (k : Int) → s0.C[k]? = some x → ¬ x.ret.length + 1 < 3 * s0.C.length + 1) (qG : ∀ q : Nat, n2.tmod ((s0.M.G.length : Int) - 1) = (q : Int) → s0.M.G.getD (q + 1) 0 = 1 ∧ (mTurn s0.M (1 + (q : Int)) 2).bad = true) :
    Calls Try.prog 4 #[.agg #[.slice A0 s0.M.W.length a0, .slice B0 s0.M.G.length b0, .bool s0.M.bad, .slice C0 s0.C.length c0, .slice L0 s0.L.length d0], .int .u8 n1, .int .u8 n2] w0 fun e w' => e = .returned (.bool true) ∧ Below w0.heap.size w0 w' := by
  have S0 : RS w0 s0 A0 B0 C0 L0 := ⟨rW, rG, rC, rL⟩
  have hb : Below w0.heap.size w0 w0 := Below.refl _ _
  have HC := rmay4_any A0 B0 C0 L0 a0 b0 c0 d0 s0
  rw [q0] at HC
  replace HC := hid (show ∀ w, RS w s0 A0 B0 C0 L0 → Calls Try.prog 17 #[.agg #[.slice A0 s0.M.W.length a0, .slice B0 s0.M.G.length b0, .bool s0.M.bad, .slice C0 s0.C.length c0, .slice L0 s0.L.length d0], .int .i64 40] w fun e w' => e = .returned (.bool true) ∧ Below w.heap.size w w' from fun w h => HC w h.G h.C g1 g0 g2 g3)
  clear rW rG rC rL g0 g1 g2 g3
  go_enter Try.func4, Try.ntmps4
  go_upto_region 1 with (fail)
  have Bk0 := heap_alloc_new w0 (.cells #[.slice A0 s0.M.W.length a0, .slice B0 s0.M.G.length b0, .bool s0.M.bad, .slice C0 s0.C.length c0, .slice L0 s0.L.length d0] 30)
  have lt0 : w0.heap.size < (w0.alloc (.cells #[.slice A0 s0.M.W.length a0, .slice B0 s0.M.G.length b0, .bool s0.M.bad, .slice C0 s0.C.length c0, .slice L0 s0.L.length d0] 30)).heap.size := by simp
  have hk : Below w0.heap.size w0 (w0.alloc (.cells #[.slice A0 s0.M.W.length a0, .slice B0 s0.M.G.length b0, .bool s0.M.bad, .slice C0 s0.C.length c0, .slice L0 s0.L.length d0] 30)) := boxed _ _
  replace S0 := S0.step hk
  replace hb := bstep hb hk
  clear hk
  obtain ⟨v0, hv⟩ : ∃ v, w0.heap.size = v := ⟨_, rfl⟩
  rw [hv] at Bk0 lt0 ⊢
  clear hv
  generalize (w0.alloc (.cells #[.slice A0 s0.M.W.length a0, .slice B0 s0.M.G.length b0, .bool s0.M.bad, .slice C0 s0.C.length c0, .slice L0 s0.L.length d0] 30)) = w1 at *
  go_wp2_with fail
  refine (shown6_any _).mono ?_
  rintro e w2 ⟨rfl, hk⟩
  replace Bk0 := (hk.block v0 lt0).trans Bk0
  replace lt0 := Nat.lt_of_lt_of_le lt0 hk.size
  replace S0 := S0.step hk
  replace hb := bstep hb hk
  clear hk
  go_upto_region 2 with (fail)
  obtain ⟨m0_0, m0_1, m0_2, m0_3, m0_4⟩ := cells5 Bk0
  go_upto_region 4 with (go_at_call 17; refine (HC.out _ S0).mono ?_; rintro e w3 ⟨rfl, hk⟩)
  clear m0_0 m0_1 m0_2 m0_3 m0_4
  replace Bk0 := (hk.block v0 lt0).trans Bk0
  replace lt0 := Nat.lt_of_lt_of_le lt0 hk.size
  replace S0 := S0.step hk
  replace hb := bstep hb hk
  clear hk
  clear HC
  have hmay : sySmall4 s0 = true ∧ syRight s0 = true := by simpa [syMays4] using q0
  have HF := hid (few_of_small (small_of4 hmay.1))
  have hsm := sySmall4_few hmay.1
  have hr := hmay.2
  simp only [syRight, Bool.and_eq_true, decide_eq_true_eq] at hr
  have HR := hid (Rt.of hr.1.1.1)
  obtain ⟨⟨⟨_, hc1⟩, hc8⟩, _⟩ := hr
  have HGB := hid hsm.1
  have HLB := hid hsm.2.2.2.1
  have HRB := hid (show ∀ x ∈ s0.C, x.ret.length ≤ 210 from fun x hx => (hsm.2.2.2.2 x hx).2.1)
  clear hmay q0 hsm
  obtain ⟨k, hk⟩ : ∃ k : Nat, n1.tmod (s0.C.length : Int) = (k : Int) := ⟨(n1.tmod (s0.C.length : Int)).toNat, by rw [Int.tmod_eq_emod_of_nonneg u0, Int.toNat_of_nonneg (Int.emod_nonneg _ (by omega))]⟩
  have hkl : k < s0.C.length := by have h9 := hk; rw [Int.tmod_eq_emod_of_nonneg u0] at h9; have := Int.emod_lt_of_pos n1 (show (0 : Int) < (s0.C.length : Int) by omega); omega
  obtain ⟨x, hx⟩ : ∃ x, s0.C[k]? = some x := ⟨_, List.getElem?_eq_getElem hkl⟩
  obtain ⟨gC, oC, eC, hbl, hat⟩ := S0.C (by omega)
  subst eC
  obtain ⟨AF, AR, cFq, cR, hcs, rF, rR, hcF⟩ := (hat k x hx).cs4
  clear hat
  have y0 : w3.cell? ⟨gC, oC + k * 7, none⟩ = some (.slice AF x.F.length cFq) := hcs 0 _ rfl
  have y6 : w3.cell? ⟨gC, oC + k * 7 + 6, none⟩ = some (.slice AR x.ret.length cR) := hcs 6 _ rfl
  have kl : (k : Int) < (s0.C.length : Int) := by omega
  have hne : ((s0.C.length : Int) == 0) = false := by rw [beq_eq_false_iff_ne]; omega
  have HX := hid hx
  clear hx hcs rF rR hcF
  obtain ⟨m0_0, m0_1, m0_2, m0_3, m0_4⟩ := cells5 Bk0
  have hxF : x.F.length < 38 := (qF k x hk HX.out).1
  have hxr : x.ret.length < 200 := (qF k x hk HX.out).2
  have HLL := hid (qL k x hk HX.out)
  clear qF qL
  have hq : decide ((38 : Int) ≤ (x.F.length : Int)) = false := by simp; omega
  have hq2 : decide ((200 : Int) ≤ (x.ret.length : Int)) = false := by simp; omega
  have gl2 : (2 : Int) ≤ (s0.M.G.length : Int) := by have := HR.out.g2; omega
  have gl3 : (s0.M.G.length : Int) ≤ 41 := by have := HGB.out; omega
  go_upto_region 7 with (fail)
  obtain ⟨q, hqe⟩ : ∃ q : Nat, n2.tmod ((s0.M.G.length : Int) - 1) = (q : Int) := ⟨(n2.tmod ((s0.M.G.length : Int) - 1)).toNat, by rw [Int.tmod_eq_emod_of_nonneg u2, Int.toNat_of_nonneg (Int.emod_nonneg _ (by omega))]⟩
  have hql : (q : Int) + 1 < (s0.M.G.length : Int) := by have h9 := hqe; rw [Int.tmod_eq_emod_of_nonneg u2] at h9; have := Int.emod_lt_of_pos n2 (show (0 : Int) < (s0.M.G.length : Int) - 1 by omega); omega
  have HGC := hid (qG q hqe)
  clear qG
  have hne3 : ((s0.M.G.length : Int) - 1 == 0) = false := by rw [beq_eq_false_iff_ne]; omega
  have q40 : (q : Int) ≤ 40 := by omega
  obtain ⟨s2, hs2⟩ : ∃ s, s = pCall s0 (k : Int) (frR (1 + (q : Int)) 0) := ⟨_, rfl⟩
  obtain ⟨s3, hs3⟩ : ∃ s, s = pScan s2 (k : Int) := ⟨_, rfl⟩
  have HK := hid (show ∀ (w : World), RS w s0 A0 B0 (some ⟨gC, oC, none⟩) L0 → Calls Try.prog 19 #[(.agg #[.slice A0 s0.M.W.length a0, .slice B0 s0.M.G.length b0, .bool s0.M.bad, .slice (some ⟨gC, oC, none⟩) s0.C.length c0, .slice L0 s0.L.length d0]), .int .i64 (k : Int), .int .i64 5, .int .i64 (1 + (q : Int)), .int .i64 0, .int .i64 0] w (RetSys w s2) from fun w h => by rw [hs2]; exact rcall_u A0 B0 (some ⟨gC, oC, none⟩) L0 a0 b0 c0 d0 s0 (k : Int) 5 (1 + (q : Int)) 0 0 w HF.out h)
  have HE2 := hid (show s2 = ⟨s0.M, s0.C.set k (cF x (x.F ++ [frR (1 + (q : Int)) 0])), s0.L⟩ from hs2.trans (core_call HX.out (by omega) _))
  obtain ⟨y, HY, HYR, HYC⟩ : ∃ y : Co, Hid (s3 = ⟨mTurn s0.M (1 + (q : Int)) 2, s0.C.set k y, s0.L⟩) ∧ Hid (y.ret = x.ret ++ [1 + (q : Int)]) ∧ Hid ((x.ret.length + 1 < 3 * s0.C.length + 1 ∧ y.F = x.F ∧ y.v = 1 + (q : Int)) ∨ (¬ x.ret.length + 1 < 3 * s0.C.length + 1 ∧ y.F = x.F ++ [frR (1 + (q : Int)) 1, frS 6 0])) := by
    by_cases hl : x.ret.length + 1 < 3 * s0.C.length + 1
    · exact ⟨⟨x.F, 1 + (q : Int), 0, x.x0, x.x1, x.x2, x.ret ++ [1 + (q : Int)]⟩, hid (by rw [hs3, hs2]; exact ret_low HX.out hxF hxr hl), hid rfl, hid (.inl ⟨hl, rfl, rfl⟩)⟩
    · exact ⟨⟨x.F ++ [frR (1 + (q : Int)) 1, frS 6 0], x.v, x.e, x.x0, x.x1, x.x2, x.ret ++ [1 + (q : Int)]⟩, hid (by rw [hs3, hs2]; exact ret_high HX.out hxF hxr hl), hid rfl, hid (.inr ⟨hl, rfl⟩)⟩
  have HF2 := hid (show SyFew s2 ∧ 2 ≤ s2.M.G.length ∧ s2.L.length ≤ 999998 by rw [hs2]; refine ⟨few_call HF.out (Nat.zero_le _) _, ?_, ?_⟩ <;> rw [← hs2, HE2.out] <;> first | exact HR.out.g2 | (have := HLB.out; show s0.L.length ≤ 999998; omega))
  have HS := hid (show ∀ (A B C L : Option Addr) (a b c d : Nat) (w : World), RS w s2 A B C L → Calls Try.prog 18 #[.agg #[.slice A s2.M.W.length a, .slice B s2.M.G.length b, .bool s2.M.bad, .slice C s2.C.length c, .slice L s2.L.length d], .int .i64 (k : Int)] w fun e w' => ∃ (A B C L : Option Addr) (a b c d : Nat), e = .returned (.agg #[.slice A s0.M.W.length a, .slice B s0.M.G.length b, .bool s3.M.bad, .slice C s0.C.length c, .slice L s0.L.length d]) ∧ RS w' s3 A B C L ∧ Below w.heap.size w w' from fun A B C L a b c d w h => by
      have h9 := scst_any A B C L a b c d s2 (k : Int) w HF2.out.1 HF2.out.2.1 h HF2.out.2.2 (fun f hf => by rw [HE2.out, core_top (s := ⟨s0.M, _, s0.L⟩) (set_get HX.out) rfl] at hf; obtain rfl := Option.some.inj hf; simp only [frR, List.getD_cons_zero]; unfold W64; omega)
      rw [← hs3] at h9
      refine h9.mono (fun e w' h => ?_)
      obtain ⟨A, B, C, L, a, b, c, d, e1, r1, r2, r3, r4, r5⟩ := h.weak
      rw [show s3.M.W.length = s0.M.W.length by rw [HY.out]; rfl, show s3.M.G.length = s0.M.G.length by rw [HY.out]; exact (mTurn_len _ _ _).2, show s3.C.length = s0.C.length by rw [HY.out]; simp, show s3.L.length = s0.L.length by rw [HY.out]] at e1
      exact ⟨A, B, C, L, a, b, c, d, e1, ⟨r1, r2, r3, r4⟩, r5⟩)
  clear hs2 hs3
  go_upto_region 8 with (fail)
  go_wp2_with fail
  refine (HK.out _ S0).mono ?_
  rintro e w4 ⟨A7, B7, C7, L7, a7, b7, c7, d7, rfl, tW, tG, tC, tL, hk9⟩
  clear y0 y6
  clear m0_0 m0_1 m0_2 m0_3 m0_4
  replace Bk0 := (hk9.block v0 lt0).trans Bk0
  replace lt0 := Nat.lt_of_lt_of_le lt0 hk9.size
  replace S0 := S0.step hk9
  replace hb := bstep hb hk9
  clear hk9
  have S7 : RS w4 s2 A7 B7 C7 L7 := ⟨tW, tG, tC, tL⟩
  clear tW tG tC tL
  go_wp2_with fail
  refine (HS.out _ _ _ _ _ _ _ _ _ S7).mono ?_
  rintro e w5 ⟨A8, B8, C8, L8, a8, b8, c8, d8, rfl, S8, hk9⟩
  clear S7
  replace Bk0 := (hk9.block v0 lt0).trans Bk0
  replace lt0 := Nat.lt_of_lt_of_le lt0 hk9.size
  replace S0 := S0.step hk9
  replace hb := bstep hb hk9
  clear hk9
  go_upto_region 9 with (fail)
  have Bk8 := heap_alloc_new w5 (.cells #[.slice A8 s0.M.W.length a8, .slice B8 s0.M.G.length b8, .bool s3.M.bad, .slice C8 s0.C.length c8, .slice L8 s0.L.length d8] 30)
  have lt8 : w5.heap.size < (w5.alloc (.cells #[.slice A8 s0.M.W.length a8, .slice B8 s0.M.G.length b8, .bool s3.M.bad, .slice C8 s0.C.length c8, .slice L8 s0.L.length d8] 30)).heap.size := by simp
  have hk : Below w5.heap.size w5 (w5.alloc (.cells #[.slice A8 s0.M.W.length a8, .slice B8 s0.M.G.length b8, .bool s3.M.bad, .slice C8 s0.C.length c8, .slice L8 s0.L.length d8] 30)) := boxed _ _
  have ne0_8 : v0 ≠ w5.heap.size := Nat.ne_of_lt lt0
  have nw8 : w0.heap.size ≤ w5.heap.size := hb.size
  replace Bk0 := (hk.block v0 lt0).trans Bk0
  replace lt0 := Nat.lt_of_lt_of_le lt0 hk.size
  replace S0 := S0.step hk
  replace S8 := S8.step hk
  replace hb := bstep hb hk
  clear hk
  obtain ⟨v8, hv⟩ : ∃ v, w5.heap.size = v := ⟨_, rfl⟩
  replace nw8 := Nat.le_trans nw8 (Nat.le_of_eq hv)
  rw [hv] at Bk8 lt8 ne0_8 ⊢
  clear hv
  generalize (w5.alloc (.cells #[.slice A8 s0.M.W.length a8, .slice B8 s0.M.G.length b8, .bool s3.M.bad, .slice C8 s0.C.length c8, .slice L8 s0.L.length d8] 30)) = w6 at *
  obtain ⟨m0_0, m0_1, m0_2, m0_3, m0_4⟩ := cells5 Bk0
  obtain ⟨m8_0, m8_1, m8_2, m8_3, m8_4⟩ := cells5 Bk8
  go_upto_region 11 with (fail)
  obtain ⟨gC2, oC2, eC2, hbl2, hat2⟩ := S0.C (by omega)
  injection eC2 with eC2
  injection eC2 with eC3 eC4
  subst eC3 eC4
  obtain ⟨AFy, ARy, cFy, cRy, hcy, rFy, rRy, hcFy⟩ := (hat2 k _ HX.out).cs4
  clear hat2
  have y0 : w6.cell? ⟨gC, oC + k * 7, none⟩ = some (.slice AFy x.F.length cFy) := hcy 0 _ rfl
  have y6 : w6.cell? ⟨gC, oC + k * 7 + 6, none⟩ = some (.slice ARy x.ret.length cRy) := hcy 6 _ rfl
  clear hcy
  go_upto_region 12 with (first | (at_builtin; (refine wpList_append_ontoR rfl _ _ _ rfl w6.heap.size Try.underlying24 infoI (.slice (some ⟨w6.heap.size, 0, none⟩) 0 0) 0 [] rfl rfl (own_empty (heap_alloc_new w6 _)) ARy cRy x.ret.length x.ret rfl rfl (rRy.step (boxed _ _)) (by simp; omega) (by simp) ?_); intro v9 wa ho9 hg9) | (at_builtin; (refine wpList_append_ontoR rfl _ _ _ rfl w6.heap.size Try.underlying24 infoI v9 _ ([] ++ x.ret) rfl rfl (own_step ho9 (boxed _ _)) _ _ 1 [1 + (q : Int)] rfl rfl (Blk.row (heap_alloc_new wa (.cells #[.int .i64 (1 + (q : Int))] 3))) (by simp; omega) (by have := hg9.size; simp at this ⊢; omega) ?_); intro v10 w7 ho10 hg10; obtain ⟨A10, c10, rfl, r10⟩ := own_row1 ho10 rfl))
  have hk : Below w6.heap.size w6 w7 := ((((Turn.refl (fun b => w6.heap.size ≤ b) w6).alloc _).grown hg9 (fun g hg => Nat.le_of_eq (Option.some.inj hg))).alloc _ |>.grown hg10 (fun g hg => (ho9.lt g hg).1)).to_below (Nat.le_refl _) (fun _ h => h)
  clear ho9 hg9 hg10 ho10 rFy rRy y0 y6
  clear m0_0 m0_1 m0_2 m0_3 m0_4 m8_0 m8_1 m8_2 m8_3 m8_4
  replace Bk0 := (hk.block v0 lt0).trans Bk0
  replace lt0 := Nat.lt_of_lt_of_le lt0 hk.size
  replace Bk8 := (hk.block v8 lt8).trans Bk8
  replace lt8 := Nat.lt_of_lt_of_le lt8 hk.size
  replace S0 := S0.step hk
  replace S8 := S8.step hk
  replace hb := bstep hb hk
  clear hk
  simp only [List.nil_append] at r10 ⊢
  obtain ⟨m0_0, m0_1, m0_2, m0_3, m0_4⟩ := cells5 Bk0
  obtain ⟨m8_0, m8_1, m8_2, m8_3, m8_4⟩ := cells5 Bk8
  have HLM := hid (show pLimit (s0.C.length : Int) = 3 * (s0.C.length : Int) + 1 from pLimit_in (by omega) (by omega))
  go_upto_region 13 with (go_at_call 15; (with_reducible refine (limit_any _ _).mono ?_); rintro e wz ⟨rfl, rfl⟩)
  have E3 := hid (show s3.M.W.length = s0.M.W.length ∧ s3.M.G.length = s0.M.G.length ∧ s3.C.length = s0.C.length ∧ s3.L.length = s0.L.length by rw [HY.out]; exact ⟨rfl, (mTurn_len _ _ _).2, by simp, rfl⟩)
  have FX := HF.out.2.2.2.2 x (List.mem_of_getElem? HX.out)
  have FEW3 : SyFew s3 := by
    rw [HY.out]
    refine few_mem (s := syWith s0 k y) (few_with HF.out ⟨?_, ?_, ?_⟩) rfl (mTurn_len _ _ _).2
    · rw [HYR.out]; simp; omega
    · rcases HYC.out with ⟨_, h9, _⟩ | ⟨_, h9⟩
      · rw [h9]; omega
      · rw [h9]; simp; omega
    · rcases HYC.out with ⟨_, h9, _⟩ | ⟨_, h9⟩
      · rw [h9]; exact FX.2.2
      · rw [h9]; intro f hf
        rcases List.mem_append.1 hf with h | h
        · exact FX.2.2 f h
        · simp at h; rcases h with rfl | rfl <;> simp [frR, frS]
  clear FX
  obtain ⟨scb, HB⟩ : ∃ b : Bool, Hid (b = decide (¬ x.ret.length + 1 < 3 * s0.C.length + 1)) := ⟨_, hid rfl⟩
  obtain ⟨op, pc, r0, r1, r2, r3, r4, r5, r6, r7, xs, isb, HTP, HSC⟩ : ∃ (op pc r0 r1 r2 r3 r4 r5 r6 r7 : Int) (xs : List Int) (isb : Bool), Hid (∀ (A B C L : Option Addr) (a b c d : Nat) (w : World), RS w s3 A B C L → Calls Try.prog 14 #[.agg #[.slice A s0.M.W.length a, .slice B s0.M.G.length b, .bool s3.M.bad, .slice C s0.C.length c, .slice L s0.L.length d], .int .i64 (k : Int)] w fun e w' => ∃ (A' : Option Addr) (c' : Nat), e = .returned (.tuple #[.agg #[.int .i64 op, .int .i64 pc, .int .i64 r0, .int .i64 r1, .int .i64 r2, .int .i64 r3, .int .i64 r4, .int .i64 r5, .int .i64 r6, .int .i64 r7, .slice A' xs.length c'], .bool isb]) ∧ Below w.heap.size w w') ∧ Hid ((isb && (op == 6) && decide (y.F.length = x.F.length + 2)) = scb) := by
    rcases HYC.out with ⟨hl, hF, hv⟩ | ⟨hl, hF⟩
    · rcases pTop_cases s3 (k : Int) FEW3 S8.C with hp | ⟨op, pc, r0, r1, r2, r3, r4, r5, r6, r7, xs, hp, h6⟩
      · refine ⟨0, 0, 0, 0, 0, 0, 0, 0, 0, 0, [], false, hid (fun A B C L a b c d w h => ?_), hid ?_⟩
        · have h9 := rtop_no A B C L a b c d s3 (k : Int) w FEW3 h hp
          rw [E3.out.1, E3.out.2.1, E3.out.2.2.1, E3.out.2.2.2] at h9
          exact h9.mono (fun e w' ⟨q1, q2⟩ => ⟨none, 0, q1, q2⟩)
        · rw [HB.out]; simp; omega
      · refine ⟨op, pc, r0, r1, r2, r3, r4, r5, r6, r7, xs, true, hid (fun A B C L a b c d w h => ?_), hid ?_⟩
        · have h9 := rtop_is A B C L a b c d s3 (k : Int) op pc r0 r1 r2 r3 r4 r5 r6 r7 xs w FEW3 h hp h6
          rw [E3.out.1, E3.out.2.1, E3.out.2.2.1, E3.out.2.2.2] at h9
          exact h9.mono (fun e w' ⟨A', c', q1, _, q2⟩ => ⟨A', c', q1, q2⟩)
        · rw [HB.out, hF]; simp; omega
    · have hp : pTop s3 (k : Int) = some (frS 6 0) := by rw [HY.out]; exact core_top (s := ⟨_, _, s0.L⟩) (F := x.F ++ [frR (1 + (q : Int)) 1]) (set_get HX.out) (by rw [hF]; simp)
      refine ⟨6, 0, 0, 0, 0, 0, 0, 0, 0, 0, [], true, hid (fun A B C L a b c d w h => ?_), hid ?_⟩
      · have h9 := rtop_is A B C L a b c d s3 (k : Int) 6 0 0 0 0 0 0 0 0 0 [] w FEW3 h hp (by simp)
        rw [E3.out.1, E3.out.2.1, E3.out.2.2.1, E3.out.2.2.2] at h9
        exact h9.mono (fun e w' ⟨A', c', q1, _, q2⟩ => ⟨A', c', q1, q2⟩)
      · rw [HB.out, hF]; simp; omega
  go_upto_region 14 with (go_at_call 14; (with_reducible refine (HTP.out _ _ _ _ _ _ _ _ _ S8).mono ?_); rintro e w8 ⟨AT, cT, rfl, hk⟩)
  clear m0_0 m0_1 m0_2 m0_3 m0_4 m8_0 m8_1 m8_2 m8_3 m8_4
  replace Bk0 := (hk.block v0 lt0).trans Bk0
  replace lt0 := Nat.lt_of_lt_of_le lt0 hk.size
  replace Bk8 := (hk.block v8 lt8).trans Bk8
  replace lt8 := Nat.lt_of_lt_of_le lt8 hk.size
  replace S0 := S0.step hk
  replace S8 := S8.step hk
  replace r10 := r10.step hk
  replace hb := bstep hb hk
  clear hk
  have BkT := heap_alloc_new w8 (.cells #[.int .i64 op, .int .i64 pc, .int .i64 r0, .int .i64 r1, .int .i64 r2, .int .i64 r3, .int .i64 r4, .int .i64 r5, .int .i64 r6, .int .i64 r7, .slice AT xs.length cT] 44)
  have ltT : w8.heap.size < (w8.alloc (.cells #[.int .i64 op, .int .i64 pc, .int .i64 r0, .int .i64 r1, .int .i64 r2, .int .i64 r3, .int .i64 r4, .int .i64 r5, .int .i64 r6, .int .i64 r7, .slice AT xs.length cT] 44)).heap.size := by simp
  have hk : Below w8.heap.size w8 (w8.alloc (.cells #[.int .i64 op, .int .i64 pc, .int .i64 r0, .int .i64 r1, .int .i64 r2, .int .i64 r3, .int .i64 r4, .int .i64 r5, .int .i64 r6, .int .i64 r7, .slice AT xs.length cT] 44)) := boxed _ _
  replace Bk0 := (hk.block v0 lt0).trans Bk0
  replace lt0 := Nat.lt_of_lt_of_le lt0 hk.size
  replace Bk8 := (hk.block v8 lt8).trans Bk8
  replace lt8 := Nat.lt_of_lt_of_le lt8 hk.size
  replace S0 := S0.step hk
  replace S8 := S8.step hk
  replace r10 := r10.step hk
  replace hb := bstep hb hk
  clear hk
  obtain ⟨vT, hv⟩ : ∃ v, w8.heap.size = v := ⟨_, rfl⟩
  rw [hv] at BkT ltT ⊢
  clear hv
  generalize (w8.alloc (.cells #[.int .i64 op, .int .i64 pc, .int .i64 r0, .int .i64 r1, .int .i64 r2, .int .i64 r3, .int .i64 r4, .int .i64 r5, .int .i64 r6, .int .i64 r7, .slice AT xs.length cT] 44)) = w9 at *
  obtain ⟨gC2, oC2, eC2, hbl2, hat2⟩ := S0.C (by omega)
  injection eC2 with eC2
  injection eC2 with eC3 eC4
  subst eC3 eC4
  obtain ⟨AFy, ARy, cFy, cRy, hcy, rFy, rRy, hcFy⟩ := (hat2 k _ HX.out).cs4
  clear hat2 rFy rRy hcFy
  have y0 : w9.cell? ⟨gC, oC + k * 7, none⟩ = some (.slice AFy x.F.length cFy) := hcy 0 _ rfl
  have y6 : w9.cell? ⟨gC, oC + k * 7 + 6, none⟩ = some (.slice ARy x.ret.length cRy) := hcy 6 _ rfl
  clear hcy
  obtain ⟨gD, oD, eD, hblD, hatD⟩ := S8.C (by rw [E3.out.2.2.1]; omega)
  subst eD
  obtain ⟨AFz, ARz, cFz, cRz, hcz, rFz, rRz, hcFz⟩ := (hatD k y (by rw [HY.out]; exact set_get HX.out)).cs4
  clear hatD hcFz rFz
  have z0 : w9.cell? ⟨gD, oD + k * 7, none⟩ = some (.slice AFz y.F.length cFz) := hcz 0 _ rfl
  have z1 : w9.cell? ⟨gD, oD + k * 7 + 1, none⟩ = some (.int .i64 y.v) := hcz 1 _ rfl
  have z6 : w9.cell? ⟨gD, oD + k * 7 + 6, none⟩ = some (.slice ARz y.ret.length cRz) := hcz 6 _ rfl
  clear hcz
  obtain ⟨m0_0, m0_1, m0_2, m0_3, m0_4⟩ := cells5 Bk0
  obtain ⟨m8_0, m8_1, m8_2, m8_3, m8_4⟩ := cells5 Bk8
  obtain ⟨mT_0, mT_1, mT_2, mT_3, mT_4, mT_5, mT_6, mT_7, mT_8, mT_9, mT_10⟩ := cells11 BkT
  have yF9 : y.F.length ≤ 1000 := by rcases HYC.out with ⟨_, h9, _⟩ | ⟨_, h9⟩ <;> rw [h9] <;> (try simp) <;> omega
  go_cut [15] from 103 (fun y15 wx => y15 = .bool scb ∧ Below w9.heap.size w9 wx)
  case first =>
    rcases Bool.eq_false_or_eq_true isb with hi | hi
    · subst hi
      rcases Bool.eq_false_or_eq_true (op == 6) with h6 | h6
      · by_cases hln : y.F.length = x.F.length + 2
        · have hlb : ((y.F.length : Int) == (x.F.length : Int) + 2) = true := by simp; omega
          have hs9 : scb = true := by have h9 := HSC.out; simpa [h6, hln] using h9.symm
          subst hs9
          clear hln
          go_quiet (fail)
          go_wp2_with fail
          go_meet
          exact ⟨rfl, bdrewN (Below.refl _ _) _⟩
        · have hlb : ((y.F.length : Int) == (x.F.length : Int) + 2) = false := by rw [beq_eq_false_iff_ne]; omega
          have hs9 : scb = false := by have h9 := HSC.out; simpa [h6, hln] using h9.symm
          subst hs9
          clear hln
          go_quiet (fail)
          go_wp2_with fail
          go_meet
          exact ⟨rfl, bdrewN (Below.refl _ _) _⟩
      · have hs9 : scb = false := by have h9 := HSC.out; simpa [h6] using h9.symm
        subst hs9
        go_quiet (fail)
        go_wp2_with fail
        go_meet
        exact ⟨rfl, bdrewN (Below.refl _ _) _⟩
    · subst hi
      have hs9 : scb = false := by have h9 := HSC.out; simpa using h9.symm
      subst hs9
      go_quiet (fail)
      go_wp2_with fail
      go_meet
      exact ⟨rfl, bdrewN (Below.refl _ _) _⟩
  case rest =>
    obtain ⟨rfl, hk⟩ := hcut
    clear HTP HSC
    clear m0_0 m0_1 m0_2 m0_3 m0_4 m8_0 m8_1 m8_2 m8_3 m8_4 mT_0 mT_1 mT_2 mT_3 mT_4 mT_5 mT_6 mT_7 mT_8 mT_9 mT_10
    replace z0 := (hk.cell hblD).trans z0
    replace z1 := (hk.cell hblD).trans z1
    replace z6 := (hk.cell hblD).trans z6
    replace y0 := (hk.cell hbl2).trans y0
    replace rRz := rRz.step hk
    replace hblD := Nat.lt_of_lt_of_le hblD hk.size
    replace hbl2 := Nat.lt_of_lt_of_le hbl2 hk.size
    clear y6
    obtain ⟨w10, hwc⟩ : ∃ v, v = wc := ⟨_, rfl⟩
    subst hwc
    replace Bk0 := (hk.block v0 lt0).trans Bk0
    replace lt0 := Nat.lt_of_lt_of_le lt0 hk.size
    replace Bk8 := (hk.block v8 lt8).trans Bk8
    replace lt8 := Nat.lt_of_lt_of_le lt8 hk.size
    replace BkT := (hk.block vT ltT).trans BkT
    replace ltT := Nat.lt_of_lt_of_le ltT hk.size
    replace S0 := S0.step hk
    replace S8 := S8.step hk
    replace r10 := r10.step hk
    replace hb := bstep hb hk
    clear hk
    clear BkT ltT
    have hbeg : decide (pLimit (s0.C.length : Int) ≤ (x.ret.length : Int) + 1) = scb := by rw [HLM.out, HB.out, decide_eq_decide]; omega
    rw [hbeg]
    clear hbeg HLM
    obtain ⟨m0_0, m0_1, m0_2, m0_3, m0_4⟩ := cells5 Bk0
    obtain ⟨m8_0, m8_1, m8_2, m8_3, m8_4⟩ := cells5 Bk8
    have HYR2 := hid (show (y.ret.length : Int) = (x.ret.length : Int) + 1 by rw [HYR.out]; simp)
    have HYL := hid (show y.ret.length = x.ret.length + 1 by rw [HYR.out]; simp)
    have HIN := hid (show ∀ (A B : Option Addr) (c d : Nat) (w : World), Row w A y.ret → Row w B (x.ret ++ [1 + (q : Int)]) → Calls Try.prog 20 #[.slice A y.ret.length c, .slice B (x.ret.length + 1) d] w fun e w' => e = .returned (.bool true) ∧ Below w.heap.size w w' from fun A B c d w h1 h2 => by rw [← HYR.out] at h2; have h9 := rints_any A B c d y.ret y.ret w h1 h2 (by have := HYL.out; omega); rw [show mInts y.ret y.ret = true by simp [mInts]] at h9; rw [HYL.out] at h9 ⊢; exact h9)
    have hfl : y.F.length ≤ 1000 := yF9
    clear yF9
    have hs9 : scb = true := by rw [HB.out]; have := HLL.out; simp; omega
    subst hs9
    go_upto_region 15 with (fail)
    have KS := hid (show ∀ w', Below w10.heap.size w10 w' → (w'.cell? ⟨v8, 3, none⟩ = some (.slice (some ⟨gD, oD, none⟩) s0.C.length c8) ∧ w'.cell? ⟨v0, 3, none⟩ = some (.slice (some ⟨gC, oC, none⟩) s0.C.length c0) ∧ w'.cell? ⟨gD, oD + k * 7, none⟩ = some (.slice AFz y.F.length cFz) ∧ w'.cell? ⟨gD, oD + k * 7 + 1, none⟩ = some (.int .i64 y.v) ∧ w'.cell? ⟨gD, oD + k * 7 + 6, none⟩ = some (.slice ARz y.ret.length cRz) ∧ w'.cell? ⟨gC, oC + k * 7, none⟩ = some (.slice AFy x.F.length cFy)) from fun w' h => ⟨(h.cell lt8).trans m8_3, (h.cell lt0).trans m0_3, (h.cell hblD).trans z0, (h.cell hblD).trans z1, (h.cell hblD).trans z6, (h.cell hbl2).trans y0⟩)
    refine wp_region_held_drew (S := (fun w' => Below w10.heap.size w10 w')) (by kernel_rfl) ((Below.refl _ _).drew) (fun HT0 => ?_)
    try dsimp only at HT0
    generalize w10.drew = W0 at HT0 ⊢
    first
      | (refine wpAnyH_take (i := 0) (oi := { dst := some 127, op := _, type := _, pos := _, after := _, guard := _ }) (v := ?va1) rfl (by kernel_rfl) (by kernel_rfl) (by kernel_rfl) (fun _ _ _ h => h) (Or.inl ⟨by rfl, ?ha1⟩) HT0 ?_; (case ha1 => (intro w hSw; obtain ⟨x0, x1, x2, x3, x4, x5⟩ := KS.out w hSw; clear hSw; go_simp; try with_reducible rfl)); try simp only [Act.put, List.setIfInBounds_toArray, List.set_cons_zero, List.set_cons_succ])
      | (refine wpAnyH_take (i := 0) (oi := { dst := some 127, op := _, type := _, pos := _, after := _, guard := _ }) (v := undef) rfl (by kernel_rfl) (by kernel_rfl) (by kernel_rfl) (fun _ _ _ h => h) (Or.inr ⟨by rfl, rfl⟩) HT0 ?_; try simp only [Act.put, List.setIfInBounds_toArray, List.set_cons_zero, List.set_cons_succ])
    first
      | (refine wpAnyH_take (i := 1) (oi := { dst := some 128, op := _, type := _, pos := _, after := _, guard := _ }) (v := ?va2) rfl (by kernel_rfl) (by kernel_rfl) (by kernel_rfl) (fun _ _ _ h => h) (Or.inl ⟨by rfl, ?ha2⟩) HT0 ?_; (case ha2 => (intro w hSw; obtain ⟨x0, x1, x2, x3, x4, x5⟩ := KS.out w hSw; clear hSw; go_simp; try with_reducible rfl)); try simp only [Act.put, List.setIfInBounds_toArray, List.set_cons_zero, List.set_cons_succ])
      | (refine wpAnyH_take (i := 1) (oi := { dst := some 128, op := _, type := _, pos := _, after := _, guard := _ }) (v := undef) rfl (by kernel_rfl) (by kernel_rfl) (by kernel_rfl) (fun _ _ _ h => h) (Or.inr ⟨by rfl, rfl⟩) HT0 ?_; try simp only [Act.put, List.setIfInBounds_toArray, List.set_cons_zero, List.set_cons_succ])
    first
      | (refine wpAnyH_take (i := 2) (oi := { dst := some 129, op := _, type := _, pos := _, after := _, guard := _ }) (v := ?va3) rfl (by kernel_rfl) (by kernel_rfl) (by kernel_rfl) (fun _ _ _ h => h) (Or.inl ⟨by rfl, ?ha3⟩) HT0 ?_; (case ha3 => (intro w hSw; obtain ⟨x0, x1, x2, x3, x4, x5⟩ := KS.out w hSw; clear hSw; go_simp; try with_reducible rfl)); try simp only [Act.put, List.setIfInBounds_toArray, List.set_cons_zero, List.set_cons_succ])
      | (refine wpAnyH_take (i := 2) (oi := { dst := some 129, op := _, type := _, pos := _, after := _, guard := _ }) (v := undef) rfl (by kernel_rfl) (by kernel_rfl) (by kernel_rfl) (fun _ _ _ h => h) (Or.inr ⟨by rfl, rfl⟩) HT0 ?_; try simp only [Act.put, List.setIfInBounds_toArray, List.set_cons_zero, List.set_cons_succ])
    first
      | (refine wpAnyH_take (i := 3) (oi := { dst := some 130, op := _, type := _, pos := _, after := _, guard := _ }) (v := ?va4) rfl (by kernel_rfl) (by kernel_rfl) (by kernel_rfl) (fun _ _ _ h => h) (Or.inl ⟨by rfl, ?ha4⟩) HT0 ?_; (case ha4 => (intro w hSw; obtain ⟨x0, x1, x2, x3, x4, x5⟩ := KS.out w hSw; clear hSw; go_simp; try with_reducible rfl)); try simp only [Act.put, List.setIfInBounds_toArray, List.set_cons_zero, List.set_cons_succ])
      | (refine wpAnyH_take (i := 3) (oi := { dst := some 130, op := _, type := _, pos := _, after := _, guard := _ }) (v := undef) rfl (by kernel_rfl) (by kernel_rfl) (by kernel_rfl) (fun _ _ _ h => h) (Or.inr ⟨by rfl, rfl⟩) HT0 ?_; try simp only [Act.put, List.setIfInBounds_toArray, List.set_cons_zero, List.set_cons_succ])
    first
      | (refine wpAnyH_take (i := 4) (oi := { dst := some 131, op := _, type := _, pos := _, after := _, guard := _ }) (v := ?va5) rfl (by kernel_rfl) (by kernel_rfl) (by kernel_rfl) (fun _ _ _ h => h) (Or.inl ⟨by rfl, ?ha5⟩) HT0 ?_; (case ha5 => (intro w hSw; obtain ⟨x0, x1, x2, x3, x4, x5⟩ := KS.out w hSw; clear hSw; go_simp; try with_reducible rfl)); try simp only [Act.put, List.setIfInBounds_toArray, List.set_cons_zero, List.set_cons_succ])
      | (refine wpAnyH_take (i := 4) (oi := { dst := some 131, op := _, type := _, pos := _, after := _, guard := _ }) (v := undef) rfl (by kernel_rfl) (by kernel_rfl) (by kernel_rfl) (fun _ _ _ h => h) (Or.inr ⟨by rfl, rfl⟩) HT0 ?_; try simp only [Act.put, List.setIfInBounds_toArray, List.set_cons_zero, List.set_cons_succ])
    first
      | (refine wpAnyH_take (i := 5) (oi := { dst := some 132, op := _, type := _, pos := _, after := _, guard := _ }) (v := ?va6) rfl (by kernel_rfl) (by kernel_rfl) (by kernel_rfl) (fun _ _ _ h => h) (Or.inl ⟨by rfl, ?ha6⟩) HT0 ?_; (case ha6 => (intro w hSw; obtain ⟨x0, x1, x2, x3, x4, x5⟩ := KS.out w hSw; clear hSw; go_simp; try with_reducible rfl)); try simp only [Act.put, List.setIfInBounds_toArray, List.set_cons_zero, List.set_cons_succ])
      | (refine wpAnyH_take (i := 5) (oi := { dst := some 132, op := _, type := _, pos := _, after := _, guard := _ }) (v := undef) rfl (by kernel_rfl) (by kernel_rfl) (by kernel_rfl) (fun _ _ _ h => h) (Or.inr ⟨by rfl, rfl⟩) HT0 ?_; try simp only [Act.put, List.setIfInBounds_toArray, List.set_cons_zero, List.set_cons_succ])
    first
      | (refine wpAnyH_take (i := 6) (oi := { dst := some 133, op := _, type := _, pos := _, after := _, guard := _ }) (v := ?va7) rfl (by kernel_rfl) (by kernel_rfl) (by kernel_rfl) (fun _ _ _ h => h) (Or.inl ⟨by rfl, ?ha7⟩) HT0 ?_; (case ha7 => (intro w hSw; obtain ⟨x0, x1, x2, x3, x4, x5⟩ := KS.out w hSw; clear hSw; go_simp; try with_reducible rfl)); try simp only [Act.put, List.setIfInBounds_toArray, List.set_cons_zero, List.set_cons_succ])
      | (refine wpAnyH_take (i := 6) (oi := { dst := some 133, op := _, type := _, pos := _, after := _, guard := _ }) (v := undef) rfl (by kernel_rfl) (by kernel_rfl) (by kernel_rfl) (fun _ _ _ h => h) (Or.inr ⟨by rfl, rfl⟩) HT0 ?_; try simp only [Act.put, List.setIfInBounds_toArray, List.set_cons_zero, List.set_cons_succ])
    refine wpAnyH_ready (rs := [7]) (by kernel_rfl) (by simp) ?_
    refine AllReadyH.cons (o := { dst := some 134, op := _, type := _, pos := _, after := _, guard := _ }) rfl (fun K hK => ?_) AllReadyH.nil
    go_simp
    (go_at_call 20; (with_reducible refine (HIN.out _ _ _ _ _ (rRz.step HT0) (r10.step HT0)).mono ?_); rintro e wk1 ⟨rfl, hk1⟩)
    have HT1 := bstep HT0 hk1
    refine hK.out _ _ HT1 (fun _ => ?_)
    clear hK K
    try simp only [Act.put, List.setIfInBounds_toArray, List.set_cons_zero, List.set_cons_succ]
    first
      | (refine wpAnyH_take (i := 8) (oi := { dst := some 135, op := _, type := _, pos := _, after := _, guard := _ }) (v := ?va8) rfl (by kernel_rfl) (by kernel_rfl) (by kernel_rfl) (fun _ _ _ h => h) (Or.inl ⟨by rfl, ?ha8⟩) HT1 ?_; (case ha8 => (intro w hSw; obtain ⟨x0, x1, x2, x3, x4, x5⟩ := KS.out w hSw; clear hSw; go_simp; try with_reducible rfl)); try simp only [Act.put, List.setIfInBounds_toArray, List.set_cons_zero, List.set_cons_succ])
      | (refine wpAnyH_take (i := 8) (oi := { dst := some 135, op := _, type := _, pos := _, after := _, guard := _ }) (v := undef) rfl (by kernel_rfl) (by kernel_rfl) (by kernel_rfl) (fun _ _ _ h => h) (Or.inr ⟨by rfl, rfl⟩) HT1 ?_; try simp only [Act.put, List.setIfInBounds_toArray, List.set_cons_zero, List.set_cons_succ])
    first
      | (refine wpAnyH_take (i := 9) (oi := { dst := some 136, op := _, type := _, pos := _, after := _, guard := _ }) (v := ?va9) rfl (by kernel_rfl) (by kernel_rfl) (by kernel_rfl) (fun _ _ _ h => h) (Or.inl ⟨by rfl, ?ha9⟩) HT1 ?_; (case ha9 => (intro w hSw; obtain ⟨x0, x1, x2, x3, x4, x5⟩ := KS.out w hSw; clear hSw; go_simp; try with_reducible rfl)); try simp only [Act.put, List.setIfInBounds_toArray, List.set_cons_zero, List.set_cons_succ])
      | (refine wpAnyH_take (i := 9) (oi := { dst := some 136, op := _, type := _, pos := _, after := _, guard := _ }) (v := undef) rfl (by kernel_rfl) (by kernel_rfl) (by kernel_rfl) (fun _ _ _ h => h) (Or.inr ⟨by rfl, rfl⟩) HT1 ?_; try simp only [Act.put, List.setIfInBounds_toArray, List.set_cons_zero, List.set_cons_succ])
    first
      | (refine wpAnyH_take (i := 10) (oi := { dst := some 137, op := _, type := _, pos := _, after := _, guard := _ }) (v := ?va10) rfl (by kernel_rfl) (by kernel_rfl) (by kernel_rfl) (fun _ _ _ h => h) (Or.inl ⟨by rfl, ?ha10⟩) HT1 ?_; (case ha10 => (intro w hSw; obtain ⟨x0, x1, x2, x3, x4, x5⟩ := KS.out w hSw; clear hSw; go_simp; try with_reducible rfl)); try simp only [Act.put, List.setIfInBounds_toArray, List.set_cons_zero, List.set_cons_succ])
      | (refine wpAnyH_take (i := 10) (oi := { dst := some 137, op := _, type := _, pos := _, after := _, guard := _ }) (v := undef) rfl (by kernel_rfl) (by kernel_rfl) (by kernel_rfl) (fun _ _ _ h => h) (Or.inr ⟨by rfl, rfl⟩) HT1 ?_; try simp only [Act.put, List.setIfInBounds_toArray, List.set_cons_zero, List.set_cons_succ])
    first
      | (refine wpAnyH_take (i := 11) (oi := { dst := some 138, op := _, type := _, pos := _, after := _, guard := _ }) (v := ?va11) rfl (by kernel_rfl) (by kernel_rfl) (by kernel_rfl) (fun _ _ _ h => h) (Or.inl ⟨by rfl, ?ha11⟩) HT1 ?_; (case ha11 => (intro w hSw; obtain ⟨x0, x1, x2, x3, x4, x5⟩ := KS.out w hSw; clear hSw; go_simp; try with_reducible rfl)); try simp only [Act.put, List.setIfInBounds_toArray, List.set_cons_zero, List.set_cons_succ])
      | (refine wpAnyH_take (i := 11) (oi := { dst := some 138, op := _, type := _, pos := _, after := _, guard := _ }) (v := undef) rfl (by kernel_rfl) (by kernel_rfl) (by kernel_rfl) (fun _ _ _ h => h) (Or.inr ⟨by rfl, rfl⟩) HT1 ?_; try simp only [Act.put, List.setIfInBounds_toArray, List.set_cons_zero, List.set_cons_succ])
    first
      | (refine wpAnyH_take (i := 12) (oi := { dst := some 139, op := _, type := _, pos := _, after := _, guard := _ }) (v := ?va12) rfl (by kernel_rfl) (by kernel_rfl) (by kernel_rfl) (fun _ _ _ h => h) (Or.inl ⟨by rfl, ?ha12⟩) HT1 ?_; (case ha12 => (intro w hSw; obtain ⟨x0, x1, x2, x3, x4, x5⟩ := KS.out w hSw; clear hSw; go_simp; try with_reducible rfl)); try simp only [Act.put, List.setIfInBounds_toArray, List.set_cons_zero, List.set_cons_succ])
      | (refine wpAnyH_take (i := 12) (oi := { dst := some 139, op := _, type := _, pos := _, after := _, guard := _ }) (v := undef) rfl (by kernel_rfl) (by kernel_rfl) (by kernel_rfl) (fun _ _ _ h => h) (Or.inr ⟨by rfl, rfl⟩) HT1 ?_; try simp only [Act.put, List.setIfInBounds_toArray, List.set_cons_zero, List.set_cons_succ])
    first
      | (refine wpAnyH_take (i := 13) (oi := { dst := some 140, op := _, type := _, pos := _, after := _, guard := _ }) (v := ?va13) rfl (by kernel_rfl) (by kernel_rfl) (by kernel_rfl) (fun _ _ _ h => h) (Or.inl ⟨by rfl, ?ha13⟩) HT1 ?_; (case ha13 => (intro w hSw; obtain ⟨x0, x1, x2, x3, x4, x5⟩ := KS.out w hSw; clear hSw; go_simp; try with_reducible rfl)); try simp only [Act.put, List.setIfInBounds_toArray, List.set_cons_zero, List.set_cons_succ])
      | (refine wpAnyH_take (i := 13) (oi := { dst := some 140, op := _, type := _, pos := _, after := _, guard := _ }) (v := undef) rfl (by kernel_rfl) (by kernel_rfl) (by kernel_rfl) (fun _ _ _ h => h) (Or.inr ⟨by rfl, rfl⟩) HT1 ?_; try simp only [Act.put, List.setIfInBounds_toArray, List.set_cons_zero, List.set_cons_succ])
    first
      | (refine wpAnyH_take (i := 14) (oi := { dst := some 141, op := _, type := _, pos := _, after := _, guard := _ }) (v := ?va14) rfl (by kernel_rfl) (by kernel_rfl) (by kernel_rfl) (fun _ _ _ h => h) (Or.inl ⟨by rfl, ?ha14⟩) HT1 ?_; (case ha14 => (intro w hSw; obtain ⟨x0, x1, x2, x3, x4, x5⟩ := KS.out w hSw; clear hSw; go_simp; try with_reducible rfl)); try simp only [Act.put, List.setIfInBounds_toArray, List.set_cons_zero, List.set_cons_succ])
      | (refine wpAnyH_take (i := 14) (oi := { dst := some 141, op := _, type := _, pos := _, after := _, guard := _ }) (v := undef) rfl (by kernel_rfl) (by kernel_rfl) (by kernel_rfl) (fun _ _ _ h => h) (Or.inr ⟨by rfl, rfl⟩) HT1 ?_; try simp only [Act.put, List.setIfInBounds_toArray, List.set_cons_zero, List.set_cons_succ])
    first
      | (refine wpAnyH_take (i := 15) (oi := { dst := some 142, op := _, type := _, pos := _, after := _, guard := _ }) (v := ?va15) rfl (by kernel_rfl) (by kernel_rfl) (by kernel_rfl) (fun _ _ _ h => h) (Or.inl ⟨by rfl, ?ha15⟩) HT1 ?_; (case ha15 => (intro w hSw; obtain ⟨x0, x1, x2, x3, x4, x5⟩ := KS.out w hSw; clear hSw; go_simp; try with_reducible rfl)); try simp only [Act.put, List.setIfInBounds_toArray, List.set_cons_zero, List.set_cons_succ])
      | (refine wpAnyH_take (i := 15) (oi := { dst := some 142, op := _, type := _, pos := _, after := _, guard := _ }) (v := undef) rfl (by kernel_rfl) (by kernel_rfl) (by kernel_rfl) (fun _ _ _ h => h) (Or.inr ⟨by rfl, rfl⟩) HT1 ?_; try simp only [Act.put, List.setIfInBounds_toArray, List.set_cons_zero, List.set_cons_succ])
    first
      | (refine wpAnyH_take (i := 16) (oi := { dst := some 143, op := _, type := _, pos := _, after := _, guard := _ }) (v := ?va16) rfl (by kernel_rfl) (by kernel_rfl) (by kernel_rfl) (fun _ _ _ h => h) (Or.inl ⟨by rfl, ?ha16⟩) HT1 ?_; (case ha16 => (intro w hSw; obtain ⟨x0, x1, x2, x3, x4, x5⟩ := KS.out w hSw; clear hSw; go_simp; try with_reducible rfl)); try simp only [Act.put, List.setIfInBounds_toArray, List.set_cons_zero, List.set_cons_succ])
      | (refine wpAnyH_take (i := 16) (oi := { dst := some 143, op := _, type := _, pos := _, after := _, guard := _ }) (v := undef) rfl (by kernel_rfl) (by kernel_rfl) (by kernel_rfl) (fun _ _ _ h => h) (Or.inr ⟨by rfl, rfl⟩) HT1 ?_; try simp only [Act.put, List.setIfInBounds_toArray, List.set_cons_zero, List.set_cons_succ])
    first
      | (refine wpAnyH_take (i := 17) (oi := { dst := some 144, op := _, type := _, pos := _, after := _, guard := _ }) (v := ?va17) rfl (by kernel_rfl) (by kernel_rfl) (by kernel_rfl) (fun _ _ _ h => h) (Or.inl ⟨by rfl, ?ha17⟩) HT1 ?_; (case ha17 => (intro w hSw; obtain ⟨x0, x1, x2, x3, x4, x5⟩ := KS.out w hSw; clear hSw; go_simp; try with_reducible rfl)); try simp only [Act.put, List.setIfInBounds_toArray, List.set_cons_zero, List.set_cons_succ])
      | (refine wpAnyH_take (i := 17) (oi := { dst := some 144, op := _, type := _, pos := _, after := _, guard := _ }) (v := undef) rfl (by kernel_rfl) (by kernel_rfl) (by kernel_rfl) (fun _ _ _ h => h) (Or.inr ⟨by rfl, rfl⟩) HT1 ?_; try simp only [Act.put, List.setIfInBounds_toArray, List.set_cons_zero, List.set_cons_succ])
    first
      | (refine wpAnyH_take (i := 18) (oi := { dst := some 145, op := _, type := _, pos := _, after := _, guard := _ }) (v := ?va18) rfl (by kernel_rfl) (by kernel_rfl) (by kernel_rfl) (fun _ _ _ h => h) (Or.inl ⟨by rfl, ?ha18⟩) HT1 ?_; (case ha18 => (intro w hSw; obtain ⟨x0, x1, x2, x3, x4, x5⟩ := KS.out w hSw; clear hSw; go_simp; try with_reducible rfl)); try simp only [Act.put, List.setIfInBounds_toArray, List.set_cons_zero, List.set_cons_succ])
      | (refine wpAnyH_take (i := 18) (oi := { dst := some 145, op := _, type := _, pos := _, after := _, guard := _ }) (v := undef) rfl (by kernel_rfl) (by kernel_rfl) (by kernel_rfl) (fun _ _ _ h => h) (Or.inr ⟨by rfl, rfl⟩) HT1 ?_; try simp only [Act.put, List.setIfInBounds_toArray, List.set_cons_zero, List.set_cons_succ])
    first
      | (refine wpAnyH_take (i := 19) (oi := { dst := some 146, op := _, type := _, pos := _, after := _, guard := _ }) (v := ?va19) rfl (by kernel_rfl) (by kernel_rfl) (by kernel_rfl) (fun _ _ _ h => h) (Or.inl ⟨by rfl, ?ha19⟩) HT1 ?_; (case ha19 => (intro w hSw; obtain ⟨x0, x1, x2, x3, x4, x5⟩ := KS.out w hSw; clear hSw; go_simp; try with_reducible rfl)); try simp only [Act.put, List.setIfInBounds_toArray, List.set_cons_zero, List.set_cons_succ])
      | (refine wpAnyH_take (i := 19) (oi := { dst := some 146, op := _, type := _, pos := _, after := _, guard := _ }) (v := undef) rfl (by kernel_rfl) (by kernel_rfl) (by kernel_rfl) (fun _ _ _ h => h) (Or.inr ⟨by rfl, rfl⟩) HT1 ?_; try simp only [Act.put, List.setIfInBounds_toArray, List.set_cons_zero, List.set_cons_succ])
    first
      | (refine wpAnyH_take (i := 20) (oi := { dst := some 147, op := _, type := _, pos := _, after := _, guard := _ }) (v := ?va20) rfl (by kernel_rfl) (by kernel_rfl) (by kernel_rfl) (fun _ _ _ h => h) (Or.inl ⟨by rfl, ?ha20⟩) HT1 ?_; (case ha20 => (intro w hSw; obtain ⟨x0, x1, x2, x3, x4, x5⟩ := KS.out w hSw; clear hSw; go_simp; try with_reducible rfl)); try simp only [Act.put, List.setIfInBounds_toArray, List.set_cons_zero, List.set_cons_succ])
      | (refine wpAnyH_take (i := 20) (oi := { dst := some 147, op := _, type := _, pos := _, after := _, guard := _ }) (v := undef) rfl (by kernel_rfl) (by kernel_rfl) (by kernel_rfl) (fun _ _ _ h => h) (Or.inr ⟨by rfl, rfl⟩) HT1 ?_; try simp only [Act.put, List.setIfInBounds_toArray, List.set_cons_zero, List.set_cons_succ])
    first
      | (refine wpAnyH_take (i := 21) (oi := { dst := some 148, op := _, type := _, pos := _, after := _, guard := _ }) (v := ?va21) rfl (by kernel_rfl) (by kernel_rfl) (by kernel_rfl) (fun _ _ _ h => h) (Or.inl ⟨by rfl, ?ha21⟩) HT1 ?_; (case ha21 => (intro w hSw; obtain ⟨x0, x1, x2, x3, x4, x5⟩ := KS.out w hSw; clear hSw; go_simp; try with_reducible rfl)); try simp only [Act.put, List.setIfInBounds_toArray, List.set_cons_zero, List.set_cons_succ])
      | (refine wpAnyH_take (i := 21) (oi := { dst := some 148, op := _, type := _, pos := _, after := _, guard := _ }) (v := undef) rfl (by kernel_rfl) (by kernel_rfl) (by kernel_rfl) (fun _ _ _ h => h) (Or.inr ⟨by rfl, rfl⟩) HT1 ?_; try simp only [Act.put, List.setIfInBounds_toArray, List.set_cons_zero, List.set_cons_succ])
    first
      | (refine wpAnyH_take (i := 22) (oi := { dst := some 149, op := _, type := _, pos := _, after := _, guard := _ }) (v := ?va22) rfl (by kernel_rfl) (by kernel_rfl) (by kernel_rfl) (fun _ _ _ h => h) (Or.inl ⟨by rfl, ?ha22⟩) HT1 ?_; (case ha22 => (intro w hSw; obtain ⟨x0, x1, x2, x3, x4, x5⟩ := KS.out w hSw; clear hSw; go_simp; try with_reducible rfl)); try simp only [Act.put, List.setIfInBounds_toArray, List.set_cons_zero, List.set_cons_succ])
      | (refine wpAnyH_take (i := 22) (oi := { dst := some 149, op := _, type := _, pos := _, after := _, guard := _ }) (v := undef) rfl (by kernel_rfl) (by kernel_rfl) (by kernel_rfl) (fun _ _ _ h => h) (Or.inr ⟨by rfl, rfl⟩) HT1 ?_; try simp only [Act.put, List.setIfInBounds_toArray, List.set_cons_zero, List.set_cons_succ])
    first
      | (refine wpAnyH_take (i := 23) (oi := { dst := some 150, op := _, type := _, pos := _, after := _, guard := _ }) (v := ?va23) rfl (by kernel_rfl) (by kernel_rfl) (by kernel_rfl) (fun _ _ _ h => h) (Or.inl ⟨by rfl, ?ha23⟩) HT1 ?_; (case ha23 => (intro w hSw; obtain ⟨x0, x1, x2, x3, x4, x5⟩ := KS.out w hSw; clear hSw; go_simp; try with_reducible rfl)); try simp only [Act.put, List.setIfInBounds_toArray, List.set_cons_zero, List.set_cons_succ])
      | (refine wpAnyH_take (i := 23) (oi := { dst := some 150, op := _, type := _, pos := _, after := _, guard := _ }) (v := undef) rfl (by kernel_rfl) (by kernel_rfl) (by kernel_rfl) (fun _ _ _ h => h) (Or.inr ⟨by rfl, rfl⟩) HT1 ?_; try simp only [Act.put, List.setIfInBounds_toArray, List.set_cons_zero, List.set_cons_succ])
    first
      | (refine wpAnyH_take (i := 24) (oi := { dst := some 151, op := _, type := _, pos := _, after := _, guard := _ }) (v := ?va24) rfl (by kernel_rfl) (by kernel_rfl) (by kernel_rfl) (fun _ _ _ h => h) (Or.inl ⟨by rfl, ?ha24⟩) HT1 ?_; (case ha24 => (intro w hSw; obtain ⟨x0, x1, x2, x3, x4, x5⟩ := KS.out w hSw; clear hSw; go_simp; try with_reducible rfl)); try simp only [Act.put, List.setIfInBounds_toArray, List.set_cons_zero, List.set_cons_succ])
      | (refine wpAnyH_take (i := 24) (oi := { dst := some 151, op := _, type := _, pos := _, after := _, guard := _ }) (v := undef) rfl (by kernel_rfl) (by kernel_rfl) (by kernel_rfl) (fun _ _ _ h => h) (Or.inr ⟨by rfl, rfl⟩) HT1 ?_; try simp only [Act.put, List.setIfInBounds_toArray, List.set_cons_zero, List.set_cons_succ])
    first
      | (refine wpAnyH_take (i := 25) (oi := { dst := some 152, op := _, type := _, pos := _, after := _, guard := _ }) (v := ?va25) rfl (by kernel_rfl) (by kernel_rfl) (by kernel_rfl) (fun _ _ _ h => h) (Or.inl ⟨by rfl, ?ha25⟩) HT1 ?_; (case ha25 => (intro w hSw; obtain ⟨x0, x1, x2, x3, x4, x5⟩ := KS.out w hSw; clear hSw; go_simp; try with_reducible rfl)); try simp only [Act.put, List.setIfInBounds_toArray, List.set_cons_zero, List.set_cons_succ])
      | (refine wpAnyH_take (i := 25) (oi := { dst := some 152, op := _, type := _, pos := _, after := _, guard := _ }) (v := undef) rfl (by kernel_rfl) (by kernel_rfl) (by kernel_rfl) (fun _ _ _ h => h) (Or.inr ⟨by rfl, rfl⟩) HT1 ?_; try simp only [Act.put, List.setIfInBounds_toArray, List.set_cons_zero, List.set_cons_succ])
    first
      | (refine wpAnyH_take (i := 26) (oi := { dst := some 153, op := _, type := _, pos := _, after := _, guard := _ }) (v := ?va26) rfl (by kernel_rfl) (by kernel_rfl) (by kernel_rfl) (fun _ _ _ h => h) (Or.inl ⟨by rfl, ?ha26⟩) HT1 ?_; (case ha26 => (intro w hSw; obtain ⟨x0, x1, x2, x3, x4, x5⟩ := KS.out w hSw; clear hSw; go_simp; try with_reducible rfl)); try simp only [Act.put, List.setIfInBounds_toArray, List.set_cons_zero, List.set_cons_succ])
      | (refine wpAnyH_take (i := 26) (oi := { dst := some 153, op := _, type := _, pos := _, after := _, guard := _ }) (v := undef) rfl (by kernel_rfl) (by kernel_rfl) (by kernel_rfl) (fun _ _ _ h => h) (Or.inr ⟨by rfl, rfl⟩) HT1 ?_; try simp only [Act.put, List.setIfInBounds_toArray, List.set_cons_zero, List.set_cons_succ])
    first
      | (refine wpAnyH_take (i := 27) (oi := { dst := some 154, op := _, type := _, pos := _, after := _, guard := _ }) (v := ?va27) rfl (by kernel_rfl) (by kernel_rfl) (by kernel_rfl) (fun _ _ _ h => h) (Or.inl ⟨by rfl, ?ha27⟩) HT1 ?_; (case ha27 => (intro w hSw; obtain ⟨x0, x1, x2, x3, x4, x5⟩ := KS.out w hSw; clear hSw; go_simp; try with_reducible rfl)); try simp only [Act.put, List.setIfInBounds_toArray, List.set_cons_zero, List.set_cons_succ])
      | (refine wpAnyH_take (i := 27) (oi := { dst := some 154, op := _, type := _, pos := _, after := _, guard := _ }) (v := undef) rfl (by kernel_rfl) (by kernel_rfl) (by kernel_rfl) (fun _ _ _ h => h) (Or.inr ⟨by rfl, rfl⟩) HT1 ?_; try simp only [Act.put, List.setIfInBounds_toArray, List.set_cons_zero, List.set_cons_succ])
    first
      | (refine wpAnyH_take (i := 28) (oi := { dst := some 155, op := _, type := _, pos := _, after := _, guard := _ }) (v := ?va28) rfl (by kernel_rfl) (by kernel_rfl) (by kernel_rfl) (fun _ _ _ h => h) (Or.inl ⟨by rfl, ?ha28⟩) HT1 ?_; (case ha28 => (intro w hSw; obtain ⟨x0, x1, x2, x3, x4, x5⟩ := KS.out w hSw; clear hSw; go_simp; try with_reducible rfl)); try simp only [Act.put, List.setIfInBounds_toArray, List.set_cons_zero, List.set_cons_succ])
      | (refine wpAnyH_take (i := 28) (oi := { dst := some 155, op := _, type := _, pos := _, after := _, guard := _ }) (v := undef) rfl (by kernel_rfl) (by kernel_rfl) (by kernel_rfl) (fun _ _ _ h => h) (Or.inr ⟨by rfl, rfl⟩) HT1 ?_; try simp only [Act.put, List.setIfInBounds_toArray, List.set_cons_zero, List.set_cons_succ])
    first
      | (refine wpAnyH_take (i := 29) (oi := { dst := some 156, op := _, type := _, pos := _, after := _, guard := _ }) (v := ?va29) rfl (by kernel_rfl) (by kernel_rfl) (by kernel_rfl) (fun _ _ _ h => h) (Or.inl ⟨by rfl, ?ha29⟩) HT1 ?_; (case ha29 => (intro w hSw; obtain ⟨x0, x1, x2, x3, x4, x5⟩ := KS.out w hSw; clear hSw; go_simp; try with_reducible rfl)); try simp only [Act.put, List.setIfInBounds_toArray, List.set_cons_zero, List.set_cons_succ])
      | (refine wpAnyH_take (i := 29) (oi := { dst := some 156, op := _, type := _, pos := _, after := _, guard := _ }) (v := undef) rfl (by kernel_rfl) (by kernel_rfl) (by kernel_rfl) (fun _ _ _ h => h) (Or.inr ⟨by rfl, rfl⟩) HT1 ?_; try simp only [Act.put, List.setIfInBounds_toArray, List.set_cons_zero, List.set_cons_succ])
    first
      | (refine wpAnyH_take (i := 30) (oi := { dst := some 157, op := _, type := _, pos := _, after := _, guard := _ }) (v := ?va30) rfl (by kernel_rfl) (by kernel_rfl) (by kernel_rfl) (fun _ _ _ h => h) (Or.inl ⟨by rfl, ?ha30⟩) HT1 ?_; (case ha30 => (intro w hSw; obtain ⟨x0, x1, x2, x3, x4, x5⟩ := KS.out w hSw; clear hSw; go_simp; try with_reducible rfl)); try simp only [Act.put, List.setIfInBounds_toArray, List.set_cons_zero, List.set_cons_succ])
      | (refine wpAnyH_take (i := 30) (oi := { dst := some 157, op := _, type := _, pos := _, after := _, guard := _ }) (v := undef) rfl (by kernel_rfl) (by kernel_rfl) (by kernel_rfl) (fun _ _ _ h => h) (Or.inr ⟨by rfl, rfl⟩) HT1 ?_; try simp only [Act.put, List.setIfInBounds_toArray, List.set_cons_zero, List.set_cons_succ])
    first
      | (refine wpAnyH_take (i := 31) (oi := { dst := some 158, op := _, type := _, pos := _, after := _, guard := _ }) (v := ?va31) rfl (by kernel_rfl) (by kernel_rfl) (by kernel_rfl) (fun _ _ _ h => h) (Or.inl ⟨by rfl, ?ha31⟩) HT1 ?_; (case ha31 => (intro w hSw; obtain ⟨x0, x1, x2, x3, x4, x5⟩ := KS.out w hSw; clear hSw; go_simp; try with_reducible rfl)); try simp only [Act.put, List.setIfInBounds_toArray, List.set_cons_zero, List.set_cons_succ])
      | (refine wpAnyH_take (i := 31) (oi := { dst := some 158, op := _, type := _, pos := _, after := _, guard := _ }) (v := undef) rfl (by kernel_rfl) (by kernel_rfl) (by kernel_rfl) (fun _ _ _ h => h) (Or.inr ⟨by rfl, rfl⟩) HT1 ?_; try simp only [Act.put, List.setIfInBounds_toArray, List.set_cons_zero, List.set_cons_succ])
    first
      | (refine wpAnyH_take (i := 32) (oi := { dst := some 159, op := _, type := _, pos := _, after := _, guard := _ }) (v := ?va32) rfl (by kernel_rfl) (by kernel_rfl) (by kernel_rfl) (fun _ _ _ h => h) (Or.inl ⟨by rfl, ?ha32⟩) HT1 ?_; (case ha32 => (intro w hSw; obtain ⟨x0, x1, x2, x3, x4, x5⟩ := KS.out w hSw; clear hSw; go_simp; try with_reducible rfl)); try simp only [Act.put, List.setIfInBounds_toArray, List.set_cons_zero, List.set_cons_succ])
      | (refine wpAnyH_take (i := 32) (oi := { dst := some 159, op := _, type := _, pos := _, after := _, guard := _ }) (v := undef) rfl (by kernel_rfl) (by kernel_rfl) (by kernel_rfl) (fun _ _ _ h => h) (Or.inr ⟨by rfl, rfl⟩) HT1 ?_; try simp only [Act.put, List.setIfInBounds_toArray, List.set_cons_zero, List.set_cons_succ])
    first
      | (refine wpAnyH_take (i := 33) (oi := { dst := some 160, op := _, type := _, pos := _, after := _, guard := _ }) (v := ?va33) rfl (by kernel_rfl) (by kernel_rfl) (by kernel_rfl) (fun _ _ _ h => h) (Or.inl ⟨by rfl, ?ha33⟩) HT1 ?_; (case ha33 => (intro w hSw; obtain ⟨x0, x1, x2, x3, x4, x5⟩ := KS.out w hSw; clear hSw; go_simp; try with_reducible rfl)); try simp only [Act.put, List.setIfInBounds_toArray, List.set_cons_zero, List.set_cons_succ])
      | (refine wpAnyH_take (i := 33) (oi := { dst := some 160, op := _, type := _, pos := _, after := _, guard := _ }) (v := undef) rfl (by kernel_rfl) (by kernel_rfl) (by kernel_rfl) (fun _ _ _ h => h) (Or.inr ⟨by rfl, rfl⟩) HT1 ?_; try simp only [Act.put, List.setIfInBounds_toArray, List.set_cons_zero, List.set_cons_succ])
    first
      | (refine wpAnyH_take (i := 34) (oi := { dst := some 161, op := _, type := _, pos := _, after := _, guard := _ }) (v := ?va34) rfl (by kernel_rfl) (by kernel_rfl) (by kernel_rfl) (fun _ _ _ h => h) (Or.inl ⟨by rfl, ?ha34⟩) HT1 ?_; (case ha34 => (intro w hSw; obtain ⟨x0, x1, x2, x3, x4, x5⟩ := KS.out w hSw; clear hSw; go_simp; try with_reducible rfl)); try simp only [Act.put, List.setIfInBounds_toArray, List.set_cons_zero, List.set_cons_succ])
      | (refine wpAnyH_take (i := 34) (oi := { dst := some 161, op := _, type := _, pos := _, after := _, guard := _ }) (v := undef) rfl (by kernel_rfl) (by kernel_rfl) (by kernel_rfl) (fun _ _ _ h => h) (Or.inr ⟨by rfl, rfl⟩) HT1 ?_; try simp only [Act.put, List.setIfInBounds_toArray, List.set_cons_zero, List.set_cons_succ])
    first
      | (refine wpAnyH_take (i := 35) (oi := { dst := some 162, op := _, type := _, pos := _, after := _, guard := _ }) (v := ?va35) rfl (by kernel_rfl) (by kernel_rfl) (by kernel_rfl) (fun _ _ _ h => h) (Or.inl ⟨by rfl, ?ha35⟩) HT1 ?_; (case ha35 => (intro w hSw; obtain ⟨x0, x1, x2, x3, x4, x5⟩ := KS.out w hSw; clear hSw; go_simp; try with_reducible rfl)); try simp only [Act.put, List.setIfInBounds_toArray, List.set_cons_zero, List.set_cons_succ])
      | (refine wpAnyH_take (i := 35) (oi := { dst := some 162, op := _, type := _, pos := _, after := _, guard := _ }) (v := undef) rfl (by kernel_rfl) (by kernel_rfl) (by kernel_rfl) (fun _ _ _ h => h) (Or.inr ⟨by rfl, rfl⟩) HT1 ?_; try simp only [Act.put, List.setIfInBounds_toArray, List.set_cons_zero, List.set_cons_succ])
    first
      | (refine wpAnyH_take (i := 36) (oi := { dst := some 163, op := _, type := _, pos := _, after := _, guard := _ }) (v := ?va36) rfl (by kernel_rfl) (by kernel_rfl) (by kernel_rfl) (fun _ _ _ h => h) (Or.inl ⟨by rfl, ?ha36⟩) HT1 ?_; (case ha36 => (intro w hSw; obtain ⟨x0, x1, x2, x3, x4, x5⟩ := KS.out w hSw; clear hSw; go_simp; try with_reducible rfl)); try simp only [Act.put, List.setIfInBounds_toArray, List.set_cons_zero, List.set_cons_succ])
      | (refine wpAnyH_take (i := 36) (oi := { dst := some 163, op := _, type := _, pos := _, after := _, guard := _ }) (v := undef) rfl (by kernel_rfl) (by kernel_rfl) (by kernel_rfl) (fun _ _ _ h => h) (Or.inr ⟨by rfl, rfl⟩) HT1 ?_; try simp only [Act.put, List.setIfInBounds_toArray, List.set_cons_zero, List.set_cons_succ])
    first
      | (refine wpAnyH_take (i := 37) (oi := { dst := some 164, op := _, type := _, pos := _, after := _, guard := _ }) (v := ?va37) rfl (by kernel_rfl) (by kernel_rfl) (by kernel_rfl) (fun _ _ _ h => h) (Or.inl ⟨by rfl, ?ha37⟩) HT1 ?_; (case ha37 => (intro w hSw; obtain ⟨x0, x1, x2, x3, x4, x5⟩ := KS.out w hSw; clear hSw; go_simp; try with_reducible rfl)); try simp only [Act.put, List.setIfInBounds_toArray, List.set_cons_zero, List.set_cons_succ])
      | (refine wpAnyH_take (i := 37) (oi := { dst := some 164, op := _, type := _, pos := _, after := _, guard := _ }) (v := undef) rfl (by kernel_rfl) (by kernel_rfl) (by kernel_rfl) (fun _ _ _ h => h) (Or.inr ⟨by rfl, rfl⟩) HT1 ?_; try simp only [Act.put, List.setIfInBounds_toArray, List.set_cons_zero, List.set_cons_succ])
    first
      | (refine wpAnyH_take (i := 38) (oi := { dst := some 165, op := _, type := _, pos := _, after := _, guard := _ }) (v := ?va38) rfl (by kernel_rfl) (by kernel_rfl) (by kernel_rfl) (fun _ _ _ h => h) (Or.inl ⟨by rfl, ?ha38⟩) HT1 ?_; (case ha38 => (intro w hSw; obtain ⟨x0, x1, x2, x3, x4, x5⟩ := KS.out w hSw; clear hSw; go_simp; try with_reducible rfl)); try simp only [Act.put, List.setIfInBounds_toArray, List.set_cons_zero, List.set_cons_succ])
      | (refine wpAnyH_take (i := 38) (oi := { dst := some 165, op := _, type := _, pos := _, after := _, guard := _ }) (v := undef) rfl (by kernel_rfl) (by kernel_rfl) (by kernel_rfl) (fun _ _ _ h => h) (Or.inr ⟨by rfl, rfl⟩) HT1 ?_; try simp only [Act.put, List.setIfInBounds_toArray, List.set_cons_zero, List.set_cons_succ])
    first
      | (refine wpAnyH_take (i := 39) (oi := { dst := some 166, op := _, type := _, pos := _, after := _, guard := _ }) (v := ?va39) rfl (by kernel_rfl) (by kernel_rfl) (by kernel_rfl) (fun _ _ _ h => h) (Or.inl ⟨by rfl, ?ha39⟩) HT1 ?_; (case ha39 => (intro w hSw; obtain ⟨x0, x1, x2, x3, x4, x5⟩ := KS.out w hSw; clear hSw; go_simp; try with_reducible rfl)); try simp only [Act.put, List.setIfInBounds_toArray, List.set_cons_zero, List.set_cons_succ])
      | (refine wpAnyH_take (i := 39) (oi := { dst := some 166, op := _, type := _, pos := _, after := _, guard := _ }) (v := undef) rfl (by kernel_rfl) (by kernel_rfl) (by kernel_rfl) (fun _ _ _ h => h) (Or.inr ⟨by rfl, rfl⟩) HT1 ?_; try simp only [Act.put, List.setIfInBounds_toArray, List.set_cons_zero, List.set_cons_succ])
    first
      | (refine wpAnyH_take (i := 40) (oi := { dst := some 167, op := _, type := _, pos := _, after := _, guard := _ }) (v := ?va40) rfl (by kernel_rfl) (by kernel_rfl) (by kernel_rfl) (fun _ _ _ h => h) (Or.inl ⟨by rfl, ?ha40⟩) HT1 ?_; (case ha40 => (intro w hSw; obtain ⟨x0, x1, x2, x3, x4, x5⟩ := KS.out w hSw; clear hSw; go_simp; try with_reducible rfl)); try simp only [Act.put, List.setIfInBounds_toArray, List.set_cons_zero, List.set_cons_succ])
      | (refine wpAnyH_take (i := 40) (oi := { dst := some 167, op := _, type := _, pos := _, after := _, guard := _ }) (v := undef) rfl (by kernel_rfl) (by kernel_rfl) (by kernel_rfl) (fun _ _ _ h => h) (Or.inr ⟨by rfl, rfl⟩) HT1 ?_; try simp only [Act.put, List.setIfInBounds_toArray, List.set_cons_zero, List.set_cons_succ])
    first
      | (refine wpAnyH_take (i := 41) (oi := { dst := some 168, op := _, type := _, pos := _, after := _, guard := _ }) (v := ?va41) rfl (by kernel_rfl) (by kernel_rfl) (by kernel_rfl) (fun _ _ _ h => h) (Or.inl ⟨by rfl, ?ha41⟩) HT1 ?_; (case ha41 => (intro w hSw; obtain ⟨x0, x1, x2, x3, x4, x5⟩ := KS.out w hSw; clear hSw; go_simp; try with_reducible rfl)); try simp only [Act.put, List.setIfInBounds_toArray, List.set_cons_zero, List.set_cons_succ])
      | (refine wpAnyH_take (i := 41) (oi := { dst := some 168, op := _, type := _, pos := _, after := _, guard := _ }) (v := undef) rfl (by kernel_rfl) (by kernel_rfl) (by kernel_rfl) (fun _ _ _ h => h) (Or.inr ⟨by rfl, rfl⟩) HT1 ?_; try simp only [Act.put, List.setIfInBounds_toArray, List.set_cons_zero, List.set_cons_succ])
    first
      | (refine wpAnyH_take (i := 42) (oi := { dst := some 169, op := _, type := _, pos := _, after := _, guard := _ }) (v := ?va42) rfl (by kernel_rfl) (by kernel_rfl) (by kernel_rfl) (fun _ _ _ h => h) (Or.inl ⟨by rfl, ?ha42⟩) HT1 ?_; (case ha42 => (intro w hSw; obtain ⟨x0, x1, x2, x3, x4, x5⟩ := KS.out w hSw; clear hSw; go_simp; try with_reducible rfl)); try simp only [Act.put, List.setIfInBounds_toArray, List.set_cons_zero, List.set_cons_succ])
      | (refine wpAnyH_take (i := 42) (oi := { dst := some 169, op := _, type := _, pos := _, after := _, guard := _ }) (v := undef) rfl (by kernel_rfl) (by kernel_rfl) (by kernel_rfl) (fun _ _ _ h => h) (Or.inr ⟨by rfl, rfl⟩) HT1 ?_; try simp only [Act.put, List.setIfInBounds_toArray, List.set_cons_zero, List.set_cons_succ])
    first
      | (refine wpAnyH_take (i := 43) (oi := { dst := some 170, op := _, type := _, pos := _, after := _, guard := _ }) (v := ?va43) rfl (by kernel_rfl) (by kernel_rfl) (by kernel_rfl) (fun _ _ _ h => h) (Or.inl ⟨by rfl, ?ha43⟩) HT1 ?_; (case ha43 => (intro w hSw; obtain ⟨x0, x1, x2, x3, x4, x5⟩ := KS.out w hSw; clear hSw; go_simp; try with_reducible rfl)); try simp only [Act.put, List.setIfInBounds_toArray, List.set_cons_zero, List.set_cons_succ])
      | (refine wpAnyH_take (i := 43) (oi := { dst := some 170, op := _, type := _, pos := _, after := _, guard := _ }) (v := undef) rfl (by kernel_rfl) (by kernel_rfl) (by kernel_rfl) (fun _ _ _ h => h) (Or.inr ⟨by rfl, rfl⟩) HT1 ?_; try simp only [Act.put, List.setIfInBounds_toArray, List.set_cons_zero, List.set_cons_succ])
    first
      | (refine wpAnyH_take (i := 44) (oi := { dst := some 171, op := _, type := _, pos := _, after := _, guard := _ }) (v := ?va44) rfl (by kernel_rfl) (by kernel_rfl) (by kernel_rfl) (fun _ _ _ h => h) (Or.inl ⟨by rfl, ?ha44⟩) HT1 ?_; (case ha44 => (intro w hSw; obtain ⟨x0, x1, x2, x3, x4, x5⟩ := KS.out w hSw; clear hSw; go_simp; try with_reducible rfl)); try simp only [Act.put, List.setIfInBounds_toArray, List.set_cons_zero, List.set_cons_succ])
      | (refine wpAnyH_take (i := 44) (oi := { dst := some 171, op := _, type := _, pos := _, after := _, guard := _ }) (v := undef) rfl (by kernel_rfl) (by kernel_rfl) (by kernel_rfl) (fun _ _ _ h => h) (Or.inr ⟨by rfl, rfl⟩) HT1 ?_; try simp only [Act.put, List.setIfInBounds_toArray, List.set_cons_zero, List.set_cons_succ])
    refine wpAnyH_done (by kernel_rfl) ?_ _
    replace hb := bstep hb HT1
    replace S0 := S0.step HT1
    replace S8 := S8.step HT1
    replace Bk0 := (HT1.block v0 lt0).trans Bk0
    replace lt0 := Nat.lt_of_lt_of_le lt0 HT1.size
    replace Bk8 := (HT1.block v8 lt8).trans Bk8
    replace lt8 := Nat.lt_of_lt_of_le lt8 HT1.size
    clear HT1 HT0 hk1 KS z0 z1 z6 y0 m0_0 m0_1 m0_2 m0_3 m0_4 m8_0 m8_1 m8_2 m8_3 m8_4 r10 rRz
    go_upto_region 17 with (fail)
    generalize wk1 = wA at *
    obtain ⟨p, hp⟩ : ∃ p : Nat, 1 + (q : Int) = (p : Int) := ⟨q + 1, by omega⟩
    rw [hp]
    have hp1 : 1 ≤ p := by omega
    have hp2 : p < s0.M.G.length := by omega
    have pl : (p : Int) < (s0.M.G.length : Int) := by omega
    have pl0 : (0 : Int) ≤ (p : Int) := by omega
    have HTT := turn_two (m := s0.M) hp1 hp2
    rw [← hp] at HTT
    have hMe : s3.M = mTurn s0.M (1 + (q : Int)) 2 := by rw [HY.out]
    rw [← hMe] at HTT
    clear hMe
    obtain ⟨gG, oG, eG, hbG, hatG⟩ := S0.G (by omega)
    obtain ⟨gH, oH, eH, hbH, hatH⟩ := S8.G (by rw [E3.out.2.1]; omega)
    subst eG eH
    have cS : wA.cell? ⟨gG, oG + p, none⟩ = some (.int .i64 (s0.M.G.getD p 0)) := hatG p _ (by rw [List.getD_eq_getElem?_getD, List.getElem?_eq_getElem hp2]; rfl)
    have cT : wA.cell? ⟨gH, oH + p, none⟩ = some (.int .i64 (s3.M.G.getD p 0)) := hatH p _ (by rw [List.getD_eq_getElem?_getD, List.getElem?_eq_getElem (show p < s3.M.G.length by rw [E3.out.2.1]; exact hp2)]; rfl)
    clear hatG hatH
    obtain ⟨-, m0_1⟩ := cells2 Bk0
    obtain ⟨-, m8_1, m8_2⟩ := cells3 Bk8
    obtain ⟨m0_0, -, m0_2, m0_3, m0_4⟩ := cells5 Bk0
    obtain ⟨m8_0, -, -, m8_3, m8_4⟩ := cells5 Bk8
    obtain ⟨nr, hnr⟩ : ∃ n, n = (pRetired s0).length := ⟨_, rfl⟩
    have hnr2 : nr ≤ 9 * 210 := by rw [hnr]; exact pRetired_le (by omega) HRB.out
    have hnr3 : (pRetired s3).length = nr + 1 := by rw [hnr, HY.out]; exact retired_more HX.out HYR.out
    have HR1 := hid (show ∀ (w : World), RS w s3 A8 (some ⟨gH, oH, none⟩) (some ⟨gD, oD, none⟩) L8 → Calls Try.prog 11 #[.agg #[.slice A8 s0.M.W.length a8, .slice (some ⟨gH, oH, none⟩) s0.M.G.length b8, .bool s3.M.bad, .slice (some ⟨gD, oD, none⟩) s0.C.length c8, .slice L8 s0.L.length d8]] w fun e w' => ∃ (A' : Option Addr) (c' : Nat), e = .returned (.slice A' (nr + 1) c') ∧ Below w.heap.size w w' from fun w k1 => by have h9 := retired_any A8 (some ⟨gH, oH, none⟩) (some ⟨gD, oD, none⟩) L8 a8 b8 c8 d8 s3 w k1.C (by rw [E3.out.2.2.1]; omega) (by omega); rw [E3.out.1, E3.out.2.1, E3.out.2.2.1, E3.out.2.2.2] at h9; exact h9.mono (fun e w' ⟨A', c', h1, _, h2⟩ => ⟨A', c', by rw [← hnr3]; exact h1, h2⟩))
    have HR2 := hid (show ∀ (w : World), RS w s0 A0 (some ⟨gG, oG, none⟩) (some ⟨gC, oC, none⟩) L0 → Calls Try.prog 21 #[.agg #[.slice A0 s0.M.W.length a0, .slice (some ⟨gG, oG, none⟩) s0.M.G.length b0, .bool s0.M.bad, .slice (some ⟨gC, oC, none⟩) s0.C.length c0, .slice L0 s0.L.length d0]] w fun e w' => ∃ (A' : Option Addr) (c' : Nat), e = .returned (.slice A' nr c') ∧ Below w.heap.size w w' from fun w k1 => by have h9 := rretired_any A0 (some ⟨gG, oG, none⟩) (some ⟨gC, oC, none⟩) L0 a0 b0 c0 d0 s0 w k1.C (by omega) (by omega); exact h9.mono (fun e w' ⟨A', c', h1, _, h2⟩ => ⟨A', c', by rw [hnr]; exact h1, h2⟩))
    have nrl : (nr : Int) ≤ 2000 := by omega
    have nr0 : (0 : Int) ≤ (nr : Int) := by omega
    have hnw : IntKind.i64.wrap ((nr : Int) + 1) = (nr : Int) + 1 := IntWalk.i64_in _ (by omega)
    clear hnr hnr2 hnr3
    have hcase : s0.M.G.getD p 0 = 1 ∧ s3.M.bad = true := by
      have h9 := HGC.out
      rw [show q + 1 = p by omega] at h9
      rw [HY.out]
      exact h9
    obtain ⟨h1, h2⟩ := hcase
    have HBD := hid h2
    have hbd : s3.M.bad = true := h2
    rw [HTT.1 h1] at cT
    rw [h1] at cS
    clear h1 h2 HTT hbd
    obtain ⟨bd, hbq⟩ : ∃ b, b = s3.M.bad := ⟨_, rfl⟩
    rw [← hbq] at m8_2 HR1
    have hbv : bd = true := hbq.trans HBD.out
    clear hbq HBD
    subst hbv
    have KS := hid (show ∀ w', Below wA.heap.size wA w' → (w'.cell? ⟨v0, 0, none⟩ = some (.slice A0 s0.M.W.length a0) ∧ w'.cell? ⟨v0, 1, none⟩ = some (.slice (some ⟨gG, oG, none⟩) s0.M.G.length b0) ∧ w'.cell? ⟨v0, 2, none⟩ = some (.bool s0.M.bad) ∧ w'.cell? ⟨v0, 3, none⟩ = some (.slice (some ⟨gC, oC, none⟩) s0.C.length c0) ∧ w'.cell? ⟨v0, 4, none⟩ = some (.slice L0 s0.L.length d0) ∧ w'.cell? ⟨v8, 0, none⟩ = some (.slice A8 s0.M.W.length a8) ∧ w'.cell? ⟨v8, 1, none⟩ = some (.slice (some ⟨gH, oH, none⟩) s0.M.G.length b8) ∧ w'.cell? ⟨v8, 2, none⟩ = some (.bool true) ∧ w'.cell? ⟨v8, 3, none⟩ = some (.slice (some ⟨gD, oD, none⟩) s0.C.length c8) ∧ w'.cell? ⟨v8, 4, none⟩ = some (.slice L8 s0.L.length d8) ∧ w'.cell? ⟨gG, oG + p, none⟩ = some (.int .i64 1) ∧ w'.cell? ⟨gH, oH + p, none⟩ = some (.int .i64 2)) from fun w' h => ⟨(h.cell lt0).trans m0_0, (h.cell lt0).trans m0_1, (h.cell lt0).trans m0_2, (h.cell lt0).trans m0_3, (h.cell lt0).trans m0_4, (h.cell lt8).trans m8_0, (h.cell lt8).trans m8_1, (h.cell lt8).trans m8_2, (h.cell lt8).trans m8_3, (h.cell lt8).trans m8_4, (h.cell hbG).trans cS, (h.cell hbH).trans cT⟩)
    refine wp_region_held_drew (S := (fun w' => Below wA.heap.size wA w')) (by kernel_rfl) ((Below.refl _ _).drew) (fun HT0 => ?_)
    try dsimp only at HT0
    generalize wA.drew = W0 at HT0 ⊢
    first
      | (refine wpAnyH_take (i := 0) (oi := { dst := some 172, op := _, type := _, pos := _, after := _, guard := _ }) (v := ?vb45) rfl (by kernel_rfl) (by kernel_rfl) (by kernel_rfl) (fun _ _ _ h => h) (Or.inl ⟨by rfl, ?hb45⟩) HT0 ?_; (case hb45 => (intro w hSw; obtain ⟨x0, x1, x2, x3, x4, x5, x6, x7, x8, x9, x10, x11⟩ := KS.out w hSw; clear hSw; go_simp; try with_reducible rfl)); try simp only [Act.put, List.setIfInBounds_toArray, List.set_cons_zero, List.set_cons_succ])
      | (refine wpAnyH_take (i := 0) (oi := { dst := some 172, op := _, type := _, pos := _, after := _, guard := _ }) (v := undef) rfl (by kernel_rfl) (by kernel_rfl) (by kernel_rfl) (fun _ _ _ h => h) (Or.inr ⟨by rfl, rfl⟩) HT0 ?_; try simp only [Act.put, List.setIfInBounds_toArray, List.set_cons_zero, List.set_cons_succ])
    first
      | (refine wpAnyH_take (i := 1) (oi := { dst := some 173, op := _, type := _, pos := _, after := _, guard := _ }) (v := ?vb46) rfl (by kernel_rfl) (by kernel_rfl) (by kernel_rfl) (fun _ _ _ h => h) (Or.inl ⟨by rfl, ?hb46⟩) HT0 ?_; (case hb46 => (intro w hSw; obtain ⟨x0, x1, x2, x3, x4, x5, x6, x7, x8, x9, x10, x11⟩ := KS.out w hSw; clear hSw; go_simp; try with_reducible rfl)); try simp only [Act.put, List.setIfInBounds_toArray, List.set_cons_zero, List.set_cons_succ])
      | (refine wpAnyH_take (i := 1) (oi := { dst := some 173, op := _, type := _, pos := _, after := _, guard := _ }) (v := undef) rfl (by kernel_rfl) (by kernel_rfl) (by kernel_rfl) (fun _ _ _ h => h) (Or.inr ⟨by rfl, rfl⟩) HT0 ?_; try simp only [Act.put, List.setIfInBounds_toArray, List.set_cons_zero, List.set_cons_succ])
    first
      | (refine wpAnyH_take (i := 2) (oi := { dst := some 174, op := _, type := _, pos := _, after := _, guard := _ }) (v := ?vb47) rfl (by kernel_rfl) (by kernel_rfl) (by kernel_rfl) (fun _ _ _ h => h) (Or.inl ⟨by rfl, ?hb47⟩) HT0 ?_; (case hb47 => (intro w hSw; obtain ⟨x0, x1, x2, x3, x4, x5, x6, x7, x8, x9, x10, x11⟩ := KS.out w hSw; clear hSw; go_simp; try with_reducible rfl)); try simp only [Act.put, List.setIfInBounds_toArray, List.set_cons_zero, List.set_cons_succ])
      | (refine wpAnyH_take (i := 2) (oi := { dst := some 174, op := _, type := _, pos := _, after := _, guard := _ }) (v := undef) rfl (by kernel_rfl) (by kernel_rfl) (by kernel_rfl) (fun _ _ _ h => h) (Or.inr ⟨by rfl, rfl⟩) HT0 ?_; try simp only [Act.put, List.setIfInBounds_toArray, List.set_cons_zero, List.set_cons_succ])
    first
      | (refine wpAnyH_take (i := 3) (oi := { dst := some 175, op := _, type := _, pos := _, after := _, guard := _ }) (v := ?vb48) rfl (by kernel_rfl) (by kernel_rfl) (by kernel_rfl) (fun _ _ _ h => h) (Or.inl ⟨by rfl, ?hb48⟩) HT0 ?_; (case hb48 => (intro w hSw; obtain ⟨x0, x1, x2, x3, x4, x5, x6, x7, x8, x9, x10, x11⟩ := KS.out w hSw; clear hSw; go_simp; try with_reducible rfl)); try simp only [Act.put, List.setIfInBounds_toArray, List.set_cons_zero, List.set_cons_succ])
      | (refine wpAnyH_take (i := 3) (oi := { dst := some 175, op := _, type := _, pos := _, after := _, guard := _ }) (v := undef) rfl (by kernel_rfl) (by kernel_rfl) (by kernel_rfl) (fun _ _ _ h => h) (Or.inr ⟨by rfl, rfl⟩) HT0 ?_; try simp only [Act.put, List.setIfInBounds_toArray, List.set_cons_zero, List.set_cons_succ])
    first
      | (refine wpAnyH_take (i := 4) (oi := { dst := some 176, op := _, type := _, pos := _, after := _, guard := _ }) (v := ?vb49) rfl (by kernel_rfl) (by kernel_rfl) (by kernel_rfl) (fun _ _ _ h => h) (Or.inl ⟨by rfl, ?hb49⟩) HT0 ?_; (case hb49 => (intro w hSw; obtain ⟨x0, x1, x2, x3, x4, x5, x6, x7, x8, x9, x10, x11⟩ := KS.out w hSw; clear hSw; go_simp; try with_reducible rfl)); try simp only [Act.put, List.setIfInBounds_toArray, List.set_cons_zero, List.set_cons_succ])
      | (refine wpAnyH_take (i := 4) (oi := { dst := some 176, op := _, type := _, pos := _, after := _, guard := _ }) (v := undef) rfl (by kernel_rfl) (by kernel_rfl) (by kernel_rfl) (fun _ _ _ h => h) (Or.inr ⟨by rfl, rfl⟩) HT0 ?_; try simp only [Act.put, List.setIfInBounds_toArray, List.set_cons_zero, List.set_cons_succ])
    first
      | (refine wpAnyH_take (i := 5) (oi := { dst := some 177, op := _, type := _, pos := _, after := _, guard := _ }) (v := ?vb50) rfl (by kernel_rfl) (by kernel_rfl) (by kernel_rfl) (fun _ _ _ h => h) (Or.inl ⟨by rfl, ?hb50⟩) HT0 ?_; (case hb50 => (intro w hSw; obtain ⟨x0, x1, x2, x3, x4, x5, x6, x7, x8, x9, x10, x11⟩ := KS.out w hSw; clear hSw; go_simp; try with_reducible rfl)); try simp only [Act.put, List.setIfInBounds_toArray, List.set_cons_zero, List.set_cons_succ])
      | (refine wpAnyH_take (i := 5) (oi := { dst := some 177, op := _, type := _, pos := _, after := _, guard := _ }) (v := undef) rfl (by kernel_rfl) (by kernel_rfl) (by kernel_rfl) (fun _ _ _ h => h) (Or.inr ⟨by rfl, rfl⟩) HT0 ?_; try simp only [Act.put, List.setIfInBounds_toArray, List.set_cons_zero, List.set_cons_succ])
    first
      | (refine wpAnyH_take (i := 6) (oi := { dst := some 178, op := _, type := _, pos := _, after := _, guard := _ }) (v := ?vb51) rfl (by kernel_rfl) (by kernel_rfl) (by kernel_rfl) (fun _ _ _ h => h) (Or.inl ⟨by rfl, ?hb51⟩) HT0 ?_; (case hb51 => (intro w hSw; obtain ⟨x0, x1, x2, x3, x4, x5, x6, x7, x8, x9, x10, x11⟩ := KS.out w hSw; clear hSw; go_simp; try with_reducible rfl)); try simp only [Act.put, List.setIfInBounds_toArray, List.set_cons_zero, List.set_cons_succ])
      | (refine wpAnyH_take (i := 6) (oi := { dst := some 178, op := _, type := _, pos := _, after := _, guard := _ }) (v := undef) rfl (by kernel_rfl) (by kernel_rfl) (by kernel_rfl) (fun _ _ _ h => h) (Or.inr ⟨by rfl, rfl⟩) HT0 ?_; try simp only [Act.put, List.setIfInBounds_toArray, List.set_cons_zero, List.set_cons_succ])
    first
      | (refine wpAnyH_take (i := 7) (oi := { dst := some 179, op := _, type := _, pos := _, after := _, guard := _ }) (v := ?vb52) rfl (by kernel_rfl) (by kernel_rfl) (by kernel_rfl) (fun _ _ _ h => h) (Or.inl ⟨by rfl, ?hb52⟩) HT0 ?_; (case hb52 => (intro w hSw; obtain ⟨x0, x1, x2, x3, x4, x5, x6, x7, x8, x9, x10, x11⟩ := KS.out w hSw; clear hSw; go_simp; try with_reducible rfl)); try simp only [Act.put, List.setIfInBounds_toArray, List.set_cons_zero, List.set_cons_succ])
      | (refine wpAnyH_take (i := 7) (oi := { dst := some 179, op := _, type := _, pos := _, after := _, guard := _ }) (v := undef) rfl (by kernel_rfl) (by kernel_rfl) (by kernel_rfl) (fun _ _ _ h => h) (Or.inr ⟨by rfl, rfl⟩) HT0 ?_; try simp only [Act.put, List.setIfInBounds_toArray, List.set_cons_zero, List.set_cons_succ])
    first
      | (refine wpAnyH_take (i := 8) (oi := { dst := some 180, op := _, type := _, pos := _, after := _, guard := _ }) (v := ?vb53) rfl (by kernel_rfl) (by kernel_rfl) (by kernel_rfl) (fun _ _ _ h => h) (Or.inl ⟨by rfl, ?hb53⟩) HT0 ?_; (case hb53 => (intro w hSw; obtain ⟨x0, x1, x2, x3, x4, x5, x6, x7, x8, x9, x10, x11⟩ := KS.out w hSw; clear hSw; go_simp; try with_reducible rfl)); try simp only [Act.put, List.setIfInBounds_toArray, List.set_cons_zero, List.set_cons_succ])
      | (refine wpAnyH_take (i := 8) (oi := { dst := some 180, op := _, type := _, pos := _, after := _, guard := _ }) (v := undef) rfl (by kernel_rfl) (by kernel_rfl) (by kernel_rfl) (fun _ _ _ h => h) (Or.inr ⟨by rfl, rfl⟩) HT0 ?_; try simp only [Act.put, List.setIfInBounds_toArray, List.set_cons_zero, List.set_cons_succ])
    first
      | (refine wpAnyH_take (i := 9) (oi := { dst := some 181, op := _, type := _, pos := _, after := _, guard := _ }) (v := ?vb54) rfl (by kernel_rfl) (by kernel_rfl) (by kernel_rfl) (fun _ _ _ h => h) (Or.inl ⟨by rfl, ?hb54⟩) HT0 ?_; (case hb54 => (intro w hSw; obtain ⟨x0, x1, x2, x3, x4, x5, x6, x7, x8, x9, x10, x11⟩ := KS.out w hSw; clear hSw; go_simp; try with_reducible rfl)); try simp only [Act.put, List.setIfInBounds_toArray, List.set_cons_zero, List.set_cons_succ])
      | (refine wpAnyH_take (i := 9) (oi := { dst := some 181, op := _, type := _, pos := _, after := _, guard := _ }) (v := undef) rfl (by kernel_rfl) (by kernel_rfl) (by kernel_rfl) (fun _ _ _ h => h) (Or.inr ⟨by rfl, rfl⟩) HT0 ?_; try simp only [Act.put, List.setIfInBounds_toArray, List.set_cons_zero, List.set_cons_succ])
    first
      | (refine wpAnyH_take (i := 10) (oi := { dst := some 182, op := _, type := _, pos := _, after := _, guard := _ }) (v := ?vb55) rfl (by kernel_rfl) (by kernel_rfl) (by kernel_rfl) (fun _ _ _ h => h) (Or.inl ⟨by rfl, ?hb55⟩) HT0 ?_; (case hb55 => (intro w hSw; obtain ⟨x0, x1, x2, x3, x4, x5, x6, x7, x8, x9, x10, x11⟩ := KS.out w hSw; clear hSw; go_simp; try with_reducible rfl)); try simp only [Act.put, List.setIfInBounds_toArray, List.set_cons_zero, List.set_cons_succ])
      | (refine wpAnyH_take (i := 10) (oi := { dst := some 182, op := _, type := _, pos := _, after := _, guard := _ }) (v := undef) rfl (by kernel_rfl) (by kernel_rfl) (by kernel_rfl) (fun _ _ _ h => h) (Or.inr ⟨by rfl, rfl⟩) HT0 ?_; try simp only [Act.put, List.setIfInBounds_toArray, List.set_cons_zero, List.set_cons_succ])
    first
      | (refine wpAnyH_take (i := 11) (oi := { dst := some 183, op := _, type := _, pos := _, after := _, guard := _ }) (v := ?vb56) rfl (by kernel_rfl) (by kernel_rfl) (by kernel_rfl) (fun _ _ _ h => h) (Or.inl ⟨by rfl, ?hb56⟩) HT0 ?_; (case hb56 => (intro w hSw; obtain ⟨x0, x1, x2, x3, x4, x5, x6, x7, x8, x9, x10, x11⟩ := KS.out w hSw; clear hSw; go_simp; try with_reducible rfl)); try simp only [Act.put, List.setIfInBounds_toArray, List.set_cons_zero, List.set_cons_succ])
      | (refine wpAnyH_take (i := 11) (oi := { dst := some 183, op := _, type := _, pos := _, after := _, guard := _ }) (v := undef) rfl (by kernel_rfl) (by kernel_rfl) (by kernel_rfl) (fun _ _ _ h => h) (Or.inr ⟨by rfl, rfl⟩) HT0 ?_; try simp only [Act.put, List.setIfInBounds_toArray, List.set_cons_zero, List.set_cons_succ])
    first
      | (refine wpAnyH_take (i := 12) (oi := { dst := some 184, op := _, type := _, pos := _, after := _, guard := _ }) (v := ?vb57) rfl (by kernel_rfl) (by kernel_rfl) (by kernel_rfl) (fun _ _ _ h => h) (Or.inl ⟨by rfl, ?hb57⟩) HT0 ?_; (case hb57 => (intro w hSw; obtain ⟨x0, x1, x2, x3, x4, x5, x6, x7, x8, x9, x10, x11⟩ := KS.out w hSw; clear hSw; go_simp; try with_reducible rfl)); try simp only [Act.put, List.setIfInBounds_toArray, List.set_cons_zero, List.set_cons_succ])
      | (refine wpAnyH_take (i := 12) (oi := { dst := some 184, op := _, type := _, pos := _, after := _, guard := _ }) (v := undef) rfl (by kernel_rfl) (by kernel_rfl) (by kernel_rfl) (fun _ _ _ h => h) (Or.inr ⟨by rfl, rfl⟩) HT0 ?_; try simp only [Act.put, List.setIfInBounds_toArray, List.set_cons_zero, List.set_cons_succ])
    first
      | (refine wpAnyH_take (i := 13) (oi := { dst := some 185, op := _, type := _, pos := _, after := _, guard := _ }) (v := ?vb58) rfl (by kernel_rfl) (by kernel_rfl) (by kernel_rfl) (fun _ _ _ h => h) (Or.inl ⟨by rfl, ?hb58⟩) HT0 ?_; (case hb58 => (intro w hSw; obtain ⟨x0, x1, x2, x3, x4, x5, x6, x7, x8, x9, x10, x11⟩ := KS.out w hSw; clear hSw; go_simp; try with_reducible rfl)); try simp only [Act.put, List.setIfInBounds_toArray, List.set_cons_zero, List.set_cons_succ])
      | (refine wpAnyH_take (i := 13) (oi := { dst := some 185, op := _, type := _, pos := _, after := _, guard := _ }) (v := undef) rfl (by kernel_rfl) (by kernel_rfl) (by kernel_rfl) (fun _ _ _ h => h) (Or.inr ⟨by rfl, rfl⟩) HT0 ?_; try simp only [Act.put, List.setIfInBounds_toArray, List.set_cons_zero, List.set_cons_succ])
    first
      | (refine wpAnyH_take (i := 14) (oi := { dst := some 186, op := _, type := _, pos := _, after := _, guard := _ }) (v := ?vb59) rfl (by kernel_rfl) (by kernel_rfl) (by kernel_rfl) (fun _ _ _ h => h) (Or.inl ⟨by rfl, ?hb59⟩) HT0 ?_; (case hb59 => (intro w hSw; obtain ⟨x0, x1, x2, x3, x4, x5, x6, x7, x8, x9, x10, x11⟩ := KS.out w hSw; clear hSw; go_simp; try with_reducible rfl)); try simp only [Act.put, List.setIfInBounds_toArray, List.set_cons_zero, List.set_cons_succ])
      | (refine wpAnyH_take (i := 14) (oi := { dst := some 186, op := _, type := _, pos := _, after := _, guard := _ }) (v := undef) rfl (by kernel_rfl) (by kernel_rfl) (by kernel_rfl) (fun _ _ _ h => h) (Or.inr ⟨by rfl, rfl⟩) HT0 ?_; try simp only [Act.put, List.setIfInBounds_toArray, List.set_cons_zero, List.set_cons_succ])
    first
      | (refine wpAnyH_take (i := 15) (oi := { dst := some 187, op := _, type := _, pos := _, after := _, guard := _ }) (v := ?vb60) rfl (by kernel_rfl) (by kernel_rfl) (by kernel_rfl) (fun _ _ _ h => h) (Or.inl ⟨by rfl, ?hb60⟩) HT0 ?_; (case hb60 => (intro w hSw; obtain ⟨x0, x1, x2, x3, x4, x5, x6, x7, x8, x9, x10, x11⟩ := KS.out w hSw; clear hSw; go_simp; try with_reducible rfl)); try simp only [Act.put, List.setIfInBounds_toArray, List.set_cons_zero, List.set_cons_succ])
      | (refine wpAnyH_take (i := 15) (oi := { dst := some 187, op := _, type := _, pos := _, after := _, guard := _ }) (v := undef) rfl (by kernel_rfl) (by kernel_rfl) (by kernel_rfl) (fun _ _ _ h => h) (Or.inr ⟨by rfl, rfl⟩) HT0 ?_; try simp only [Act.put, List.setIfInBounds_toArray, List.set_cons_zero, List.set_cons_succ])
    first
      | (refine wpAnyH_take (i := 16) (oi := { dst := some 188, op := _, type := _, pos := _, after := _, guard := _ }) (v := ?vb61) rfl (by kernel_rfl) (by kernel_rfl) (by kernel_rfl) (fun _ _ _ h => h) (Or.inl ⟨by rfl, ?hb61⟩) HT0 ?_; (case hb61 => (intro w hSw; obtain ⟨x0, x1, x2, x3, x4, x5, x6, x7, x8, x9, x10, x11⟩ := KS.out w hSw; clear hSw; go_simp; try with_reducible rfl)); try simp only [Act.put, List.setIfInBounds_toArray, List.set_cons_zero, List.set_cons_succ])
      | (refine wpAnyH_take (i := 16) (oi := { dst := some 188, op := _, type := _, pos := _, after := _, guard := _ }) (v := undef) rfl (by kernel_rfl) (by kernel_rfl) (by kernel_rfl) (fun _ _ _ h => h) (Or.inr ⟨by rfl, rfl⟩) HT0 ?_; try simp only [Act.put, List.setIfInBounds_toArray, List.set_cons_zero, List.set_cons_succ])
    first
      | (refine wpAnyH_take (i := 17) (oi := { dst := some 189, op := _, type := _, pos := _, after := _, guard := _ }) (v := ?vb62) rfl (by kernel_rfl) (by kernel_rfl) (by kernel_rfl) (fun _ _ _ h => h) (Or.inl ⟨by rfl, ?hb62⟩) HT0 ?_; (case hb62 => (intro w hSw; obtain ⟨x0, x1, x2, x3, x4, x5, x6, x7, x8, x9, x10, x11⟩ := KS.out w hSw; clear hSw; go_simp; try with_reducible rfl)); try simp only [Act.put, List.setIfInBounds_toArray, List.set_cons_zero, List.set_cons_succ])
      | (refine wpAnyH_take (i := 17) (oi := { dst := some 189, op := _, type := _, pos := _, after := _, guard := _ }) (v := undef) rfl (by kernel_rfl) (by kernel_rfl) (by kernel_rfl) (fun _ _ _ h => h) (Or.inr ⟨by rfl, rfl⟩) HT0 ?_; try simp only [Act.put, List.setIfInBounds_toArray, List.set_cons_zero, List.set_cons_succ])
    first
      | (refine wpAnyH_take (i := 18) (oi := { dst := some 190, op := _, type := _, pos := _, after := _, guard := _ }) (v := ?vb63) rfl (by kernel_rfl) (by kernel_rfl) (by kernel_rfl) (fun _ _ _ h => h) (Or.inl ⟨by rfl, ?hb63⟩) HT0 ?_; (case hb63 => (intro w hSw; obtain ⟨x0, x1, x2, x3, x4, x5, x6, x7, x8, x9, x10, x11⟩ := KS.out w hSw; clear hSw; go_simp; try with_reducible rfl)); try simp only [Act.put, List.setIfInBounds_toArray, List.set_cons_zero, List.set_cons_succ])
      | (refine wpAnyH_take (i := 18) (oi := { dst := some 190, op := _, type := _, pos := _, after := _, guard := _ }) (v := undef) rfl (by kernel_rfl) (by kernel_rfl) (by kernel_rfl) (fun _ _ _ h => h) (Or.inr ⟨by rfl, rfl⟩) HT0 ?_; try simp only [Act.put, List.setIfInBounds_toArray, List.set_cons_zero, List.set_cons_succ])
    first
      | (refine wpAnyH_take (i := 19) (oi := { dst := some 191, op := _, type := _, pos := _, after := _, guard := _ }) (v := ?vb64) rfl (by kernel_rfl) (by kernel_rfl) (by kernel_rfl) (fun _ _ _ h => h) (Or.inl ⟨by rfl, ?hb64⟩) HT0 ?_; (case hb64 => (intro w hSw; obtain ⟨x0, x1, x2, x3, x4, x5, x6, x7, x8, x9, x10, x11⟩ := KS.out w hSw; clear hSw; go_simp; try with_reducible rfl)); try simp only [Act.put, List.setIfInBounds_toArray, List.set_cons_zero, List.set_cons_succ])
      | (refine wpAnyH_take (i := 19) (oi := { dst := some 191, op := _, type := _, pos := _, after := _, guard := _ }) (v := undef) rfl (by kernel_rfl) (by kernel_rfl) (by kernel_rfl) (fun _ _ _ h => h) (Or.inr ⟨by rfl, rfl⟩) HT0 ?_; try simp only [Act.put, List.setIfInBounds_toArray, List.set_cons_zero, List.set_cons_succ])
    first
      | (refine wpAnyH_take (i := 20) (oi := { dst := some 192, op := _, type := _, pos := _, after := _, guard := _ }) (v := ?vb65) rfl (by kernel_rfl) (by kernel_rfl) (by kernel_rfl) (fun _ _ _ h => h) (Or.inl ⟨by rfl, ?hb65⟩) HT0 ?_; (case hb65 => (intro w hSw; obtain ⟨x0, x1, x2, x3, x4, x5, x6, x7, x8, x9, x10, x11⟩ := KS.out w hSw; clear hSw; go_simp; try with_reducible rfl)); try simp only [Act.put, List.setIfInBounds_toArray, List.set_cons_zero, List.set_cons_succ])
      | (refine wpAnyH_take (i := 20) (oi := { dst := some 192, op := _, type := _, pos := _, after := _, guard := _ }) (v := undef) rfl (by kernel_rfl) (by kernel_rfl) (by kernel_rfl) (fun _ _ _ h => h) (Or.inr ⟨by rfl, rfl⟩) HT0 ?_; try simp only [Act.put, List.setIfInBounds_toArray, List.set_cons_zero, List.set_cons_succ])
    first
      | (refine wpAnyH_take (i := 21) (oi := { dst := some 193, op := _, type := _, pos := _, after := _, guard := _ }) (v := ?vb66) rfl (by kernel_rfl) (by kernel_rfl) (by kernel_rfl) (fun _ _ _ h => h) (Or.inl ⟨by rfl, ?hb66⟩) HT0 ?_; (case hb66 => (intro w hSw; obtain ⟨x0, x1, x2, x3, x4, x5, x6, x7, x8, x9, x10, x11⟩ := KS.out w hSw; clear hSw; go_simp; try with_reducible rfl)); try simp only [Act.put, List.setIfInBounds_toArray, List.set_cons_zero, List.set_cons_succ])
      | (refine wpAnyH_take (i := 21) (oi := { dst := some 193, op := _, type := _, pos := _, after := _, guard := _ }) (v := undef) rfl (by kernel_rfl) (by kernel_rfl) (by kernel_rfl) (fun _ _ _ h => h) (Or.inr ⟨by rfl, rfl⟩) HT0 ?_; try simp only [Act.put, List.setIfInBounds_toArray, List.set_cons_zero, List.set_cons_succ])
    first
      | (refine wpAnyH_take (i := 22) (oi := { dst := some 194, op := _, type := _, pos := _, after := _, guard := _ }) (v := ?vb67) rfl (by kernel_rfl) (by kernel_rfl) (by kernel_rfl) (fun _ _ _ h => h) (Or.inl ⟨by rfl, ?hb67⟩) HT0 ?_; (case hb67 => (intro w hSw; obtain ⟨x0, x1, x2, x3, x4, x5, x6, x7, x8, x9, x10, x11⟩ := KS.out w hSw; clear hSw; go_simp; try with_reducible rfl)); try simp only [Act.put, List.setIfInBounds_toArray, List.set_cons_zero, List.set_cons_succ])
      | (refine wpAnyH_take (i := 22) (oi := { dst := some 194, op := _, type := _, pos := _, after := _, guard := _ }) (v := undef) rfl (by kernel_rfl) (by kernel_rfl) (by kernel_rfl) (fun _ _ _ h => h) (Or.inr ⟨by rfl, rfl⟩) HT0 ?_; try simp only [Act.put, List.setIfInBounds_toArray, List.set_cons_zero, List.set_cons_succ])
    first
      | (refine wpAnyH_take (i := 23) (oi := { dst := some 195, op := _, type := _, pos := _, after := _, guard := _ }) (v := ?vb68) rfl (by kernel_rfl) (by kernel_rfl) (by kernel_rfl) (fun _ _ _ h => h) (Or.inl ⟨by rfl, ?hb68⟩) HT0 ?_; (case hb68 => (intro w hSw; obtain ⟨x0, x1, x2, x3, x4, x5, x6, x7, x8, x9, x10, x11⟩ := KS.out w hSw; clear hSw; go_simp; try with_reducible rfl)); try simp only [Act.put, List.setIfInBounds_toArray, List.set_cons_zero, List.set_cons_succ])
      | (refine wpAnyH_take (i := 23) (oi := { dst := some 195, op := _, type := _, pos := _, after := _, guard := _ }) (v := undef) rfl (by kernel_rfl) (by kernel_rfl) (by kernel_rfl) (fun _ _ _ h => h) (Or.inr ⟨by rfl, rfl⟩) HT0 ?_; try simp only [Act.put, List.setIfInBounds_toArray, List.set_cons_zero, List.set_cons_succ])
    first
      | (refine wpAnyH_take (i := 24) (oi := { dst := some 196, op := _, type := _, pos := _, after := _, guard := _ }) (v := ?vb69) rfl (by kernel_rfl) (by kernel_rfl) (by kernel_rfl) (fun _ _ _ h => h) (Or.inl ⟨by rfl, ?hb69⟩) HT0 ?_; (case hb69 => (intro w hSw; obtain ⟨x0, x1, x2, x3, x4, x5, x6, x7, x8, x9, x10, x11⟩ := KS.out w hSw; clear hSw; go_simp; try with_reducible rfl)); try simp only [Act.put, List.setIfInBounds_toArray, List.set_cons_zero, List.set_cons_succ])
      | (refine wpAnyH_take (i := 24) (oi := { dst := some 196, op := _, type := _, pos := _, after := _, guard := _ }) (v := undef) rfl (by kernel_rfl) (by kernel_rfl) (by kernel_rfl) (fun _ _ _ h => h) (Or.inr ⟨by rfl, rfl⟩) HT0 ?_; try simp only [Act.put, List.setIfInBounds_toArray, List.set_cons_zero, List.set_cons_succ])
    first
      | (refine wpAnyH_take (i := 25) (oi := { dst := some 197, op := _, type := _, pos := _, after := _, guard := _ }) (v := ?vb70) rfl (by kernel_rfl) (by kernel_rfl) (by kernel_rfl) (fun _ _ _ h => h) (Or.inl ⟨by rfl, ?hb70⟩) HT0 ?_; (case hb70 => (intro w hSw; obtain ⟨x0, x1, x2, x3, x4, x5, x6, x7, x8, x9, x10, x11⟩ := KS.out w hSw; clear hSw; go_simp; try with_reducible rfl)); try simp only [Act.put, List.setIfInBounds_toArray, List.set_cons_zero, List.set_cons_succ])
      | (refine wpAnyH_take (i := 25) (oi := { dst := some 197, op := _, type := _, pos := _, after := _, guard := _ }) (v := undef) rfl (by kernel_rfl) (by kernel_rfl) (by kernel_rfl) (fun _ _ _ h => h) (Or.inr ⟨by rfl, rfl⟩) HT0 ?_; try simp only [Act.put, List.setIfInBounds_toArray, List.set_cons_zero, List.set_cons_succ])
    first
      | (refine wpAnyH_take (i := 26) (oi := { dst := some 198, op := _, type := _, pos := _, after := _, guard := _ }) (v := ?vb71) rfl (by kernel_rfl) (by kernel_rfl) (by kernel_rfl) (fun _ _ _ h => h) (Or.inl ⟨by rfl, ?hb71⟩) HT0 ?_; (case hb71 => (intro w hSw; obtain ⟨x0, x1, x2, x3, x4, x5, x6, x7, x8, x9, x10, x11⟩ := KS.out w hSw; clear hSw; go_simp; try with_reducible rfl)); try simp only [Act.put, List.setIfInBounds_toArray, List.set_cons_zero, List.set_cons_succ])
      | (refine wpAnyH_take (i := 26) (oi := { dst := some 198, op := _, type := _, pos := _, after := _, guard := _ }) (v := undef) rfl (by kernel_rfl) (by kernel_rfl) (by kernel_rfl) (fun _ _ _ h => h) (Or.inr ⟨by rfl, rfl⟩) HT0 ?_; try simp only [Act.put, List.setIfInBounds_toArray, List.set_cons_zero, List.set_cons_succ])
    first
      | (refine wpAnyH_take (i := 27) (oi := { dst := some 199, op := _, type := _, pos := _, after := _, guard := _ }) (v := ?vb72) rfl (by kernel_rfl) (by kernel_rfl) (by kernel_rfl) (fun _ _ _ h => h) (Or.inl ⟨by rfl, ?hb72⟩) HT0 ?_; (case hb72 => (intro w hSw; obtain ⟨x0, x1, x2, x3, x4, x5, x6, x7, x8, x9, x10, x11⟩ := KS.out w hSw; clear hSw; go_simp; try with_reducible rfl)); try simp only [Act.put, List.setIfInBounds_toArray, List.set_cons_zero, List.set_cons_succ])
      | (refine wpAnyH_take (i := 27) (oi := { dst := some 199, op := _, type := _, pos := _, after := _, guard := _ }) (v := undef) rfl (by kernel_rfl) (by kernel_rfl) (by kernel_rfl) (fun _ _ _ h => h) (Or.inr ⟨by rfl, rfl⟩) HT0 ?_; try simp only [Act.put, List.setIfInBounds_toArray, List.set_cons_zero, List.set_cons_succ])
    first
      | (refine wpAnyH_take (i := 28) (oi := { dst := some 200, op := _, type := _, pos := _, after := _, guard := _ }) (v := ?vb73) rfl (by kernel_rfl) (by kernel_rfl) (by kernel_rfl) (fun _ _ _ h => h) (Or.inl ⟨by rfl, ?hb73⟩) HT0 ?_; (case hb73 => (intro w hSw; obtain ⟨x0, x1, x2, x3, x4, x5, x6, x7, x8, x9, x10, x11⟩ := KS.out w hSw; clear hSw; go_simp; try with_reducible rfl)); try simp only [Act.put, List.setIfInBounds_toArray, List.set_cons_zero, List.set_cons_succ])
      | (refine wpAnyH_take (i := 28) (oi := { dst := some 200, op := _, type := _, pos := _, after := _, guard := _ }) (v := undef) rfl (by kernel_rfl) (by kernel_rfl) (by kernel_rfl) (fun _ _ _ h => h) (Or.inr ⟨by rfl, rfl⟩) HT0 ?_; try simp only [Act.put, List.setIfInBounds_toArray, List.set_cons_zero, List.set_cons_succ])
    first
      | (refine wpAnyH_take (i := 29) (oi := { dst := some 201, op := _, type := _, pos := _, after := _, guard := _ }) (v := ?vb74) rfl (by kernel_rfl) (by kernel_rfl) (by kernel_rfl) (fun _ _ _ h => h) (Or.inl ⟨by rfl, ?hb74⟩) HT0 ?_; (case hb74 => (intro w hSw; obtain ⟨x0, x1, x2, x3, x4, x5, x6, x7, x8, x9, x10, x11⟩ := KS.out w hSw; clear hSw; go_simp; try with_reducible rfl)); try simp only [Act.put, List.setIfInBounds_toArray, List.set_cons_zero, List.set_cons_succ])
      | (refine wpAnyH_take (i := 29) (oi := { dst := some 201, op := _, type := _, pos := _, after := _, guard := _ }) (v := undef) rfl (by kernel_rfl) (by kernel_rfl) (by kernel_rfl) (fun _ _ _ h => h) (Or.inr ⟨by rfl, rfl⟩) HT0 ?_; try simp only [Act.put, List.setIfInBounds_toArray, List.set_cons_zero, List.set_cons_succ])
    first
      | (refine wpAnyH_take (i := 30) (oi := { dst := some 202, op := _, type := _, pos := _, after := _, guard := _ }) (v := ?vb75) rfl (by kernel_rfl) (by kernel_rfl) (by kernel_rfl) (fun _ _ _ h => h) (Or.inl ⟨by rfl, ?hb75⟩) HT0 ?_; (case hb75 => (intro w hSw; obtain ⟨x0, x1, x2, x3, x4, x5, x6, x7, x8, x9, x10, x11⟩ := KS.out w hSw; clear hSw; go_simp; try with_reducible rfl)); try simp only [Act.put, List.setIfInBounds_toArray, List.set_cons_zero, List.set_cons_succ])
      | (refine wpAnyH_take (i := 30) (oi := { dst := some 202, op := _, type := _, pos := _, after := _, guard := _ }) (v := undef) rfl (by kernel_rfl) (by kernel_rfl) (by kernel_rfl) (fun _ _ _ h => h) (Or.inr ⟨by rfl, rfl⟩) HT0 ?_; try simp only [Act.put, List.setIfInBounds_toArray, List.set_cons_zero, List.set_cons_succ])
    first
      | (refine wpAnyH_take (i := 31) (oi := { dst := some 203, op := _, type := _, pos := _, after := _, guard := _ }) (v := ?vb76) rfl (by kernel_rfl) (by kernel_rfl) (by kernel_rfl) (fun _ _ _ h => h) (Or.inl ⟨by rfl, ?hb76⟩) HT0 ?_; (case hb76 => (intro w hSw; obtain ⟨x0, x1, x2, x3, x4, x5, x6, x7, x8, x9, x10, x11⟩ := KS.out w hSw; clear hSw; go_simp; try with_reducible rfl)); try simp only [Act.put, List.setIfInBounds_toArray, List.set_cons_zero, List.set_cons_succ])
      | (refine wpAnyH_take (i := 31) (oi := { dst := some 203, op := _, type := _, pos := _, after := _, guard := _ }) (v := undef) rfl (by kernel_rfl) (by kernel_rfl) (by kernel_rfl) (fun _ _ _ h => h) (Or.inr ⟨by rfl, rfl⟩) HT0 ?_; try simp only [Act.put, List.setIfInBounds_toArray, List.set_cons_zero, List.set_cons_succ])
    first
      | (refine wpAnyH_take (i := 32) (oi := { dst := some 204, op := _, type := _, pos := _, after := _, guard := _ }) (v := ?vb77) rfl (by kernel_rfl) (by kernel_rfl) (by kernel_rfl) (fun _ _ _ h => h) (Or.inl ⟨by rfl, ?hb77⟩) HT0 ?_; (case hb77 => (intro w hSw; obtain ⟨x0, x1, x2, x3, x4, x5, x6, x7, x8, x9, x10, x11⟩ := KS.out w hSw; clear hSw; go_simp; try with_reducible rfl)); try simp only [Act.put, List.setIfInBounds_toArray, List.set_cons_zero, List.set_cons_succ])
      | (refine wpAnyH_take (i := 32) (oi := { dst := some 204, op := _, type := _, pos := _, after := _, guard := _ }) (v := undef) rfl (by kernel_rfl) (by kernel_rfl) (by kernel_rfl) (fun _ _ _ h => h) (Or.inr ⟨by rfl, rfl⟩) HT0 ?_; try simp only [Act.put, List.setIfInBounds_toArray, List.set_cons_zero, List.set_cons_succ])
    first
      | (refine wpAnyH_take (i := 33) (oi := { dst := some 205, op := _, type := _, pos := _, after := _, guard := _ }) (v := ?vb78) rfl (by kernel_rfl) (by kernel_rfl) (by kernel_rfl) (fun _ _ _ h => h) (Or.inl ⟨by rfl, ?hb78⟩) HT0 ?_; (case hb78 => (intro w hSw; obtain ⟨x0, x1, x2, x3, x4, x5, x6, x7, x8, x9, x10, x11⟩ := KS.out w hSw; clear hSw; go_simp; try with_reducible rfl)); try simp only [Act.put, List.setIfInBounds_toArray, List.set_cons_zero, List.set_cons_succ])
      | (refine wpAnyH_take (i := 33) (oi := { dst := some 205, op := _, type := _, pos := _, after := _, guard := _ }) (v := undef) rfl (by kernel_rfl) (by kernel_rfl) (by kernel_rfl) (fun _ _ _ h => h) (Or.inr ⟨by rfl, rfl⟩) HT0 ?_; try simp only [Act.put, List.setIfInBounds_toArray, List.set_cons_zero, List.set_cons_succ])
    first
      | (refine wpAnyH_take (i := 34) (oi := { dst := some 206, op := _, type := _, pos := _, after := _, guard := _ }) (v := ?vb79) rfl (by kernel_rfl) (by kernel_rfl) (by kernel_rfl) (fun _ _ _ h => h) (Or.inl ⟨by rfl, ?hb79⟩) HT0 ?_; (case hb79 => (intro w hSw; obtain ⟨x0, x1, x2, x3, x4, x5, x6, x7, x8, x9, x10, x11⟩ := KS.out w hSw; clear hSw; go_simp; try with_reducible rfl)); try simp only [Act.put, List.setIfInBounds_toArray, List.set_cons_zero, List.set_cons_succ])
      | (refine wpAnyH_take (i := 34) (oi := { dst := some 206, op := _, type := _, pos := _, after := _, guard := _ }) (v := undef) rfl (by kernel_rfl) (by kernel_rfl) (by kernel_rfl) (fun _ _ _ h => h) (Or.inr ⟨by rfl, rfl⟩) HT0 ?_; try simp only [Act.put, List.setIfInBounds_toArray, List.set_cons_zero, List.set_cons_succ])
    first
      | (refine wpAnyH_take (i := 37) (oi := { dst := some 209, op := _, type := _, pos := _, after := _, guard := _ }) (v := ?vb80) rfl (by kernel_rfl) (by kernel_rfl) (by kernel_rfl) (fun _ _ _ h => h) (Or.inl ⟨by rfl, ?hb80⟩) HT0 ?_; (case hb80 => (intro w hSw; obtain ⟨x0, x1, x2, x3, x4, x5, x6, x7, x8, x9, x10, x11⟩ := KS.out w hSw; clear hSw; go_simp; try with_reducible rfl)); try simp only [Act.put, List.setIfInBounds_toArray, List.set_cons_zero, List.set_cons_succ])
      | (refine wpAnyH_take (i := 37) (oi := { dst := some 209, op := _, type := _, pos := _, after := _, guard := _ }) (v := undef) rfl (by kernel_rfl) (by kernel_rfl) (by kernel_rfl) (fun _ _ _ h => h) (Or.inr ⟨by rfl, rfl⟩) HT0 ?_; try simp only [Act.put, List.setIfInBounds_toArray, List.set_cons_zero, List.set_cons_succ])
    refine wpAnyH_ready (rs := [35]) (by kernel_rfl) (by simp) ?_
    refine AllReadyH.cons (o := { dst := some 207, op := _, type := _, pos := _, after := _, guard := _ }) rfl (fun K hK => ?_) AllReadyH.nil
    go_simp
    (go_at_call 11; (with_reducible refine (HR1.out _ (S8.step HT0)).mono ?_); rintro e wk1 ⟨AR1, cR1, rfl, hk1⟩)
    have HT1 := bstep HT0 hk1
    refine hK.out _ _ HT1 (fun _ => ?_)
    clear hK K
    try simp only [Act.put, List.setIfInBounds_toArray, List.set_cons_zero, List.set_cons_succ]
    first
      | (refine wpAnyH_take (i := 36) (oi := { dst := some 208, op := _, type := _, pos := _, after := _, guard := _ }) (v := ?vb81) rfl (by kernel_rfl) (by kernel_rfl) (by kernel_rfl) (fun _ _ _ h => h) (Or.inl ⟨by rfl, ?hb81⟩) HT1 ?_; (case hb81 => (intro w hSw; obtain ⟨x0, x1, x2, x3, x4, x5, x6, x7, x8, x9, x10, x11⟩ := KS.out w hSw; clear hSw; go_simp; try with_reducible rfl)); try simp only [Act.put, List.setIfInBounds_toArray, List.set_cons_zero, List.set_cons_succ])
      | (refine wpAnyH_take (i := 36) (oi := { dst := some 208, op := _, type := _, pos := _, after := _, guard := _ }) (v := undef) rfl (by kernel_rfl) (by kernel_rfl) (by kernel_rfl) (fun _ _ _ h => h) (Or.inr ⟨by rfl, rfl⟩) HT1 ?_; try simp only [Act.put, List.setIfInBounds_toArray, List.set_cons_zero, List.set_cons_succ])
    refine wpAnyH_ready (rs := [38]) (by kernel_rfl) (by simp) ?_
    refine AllReadyH.cons (o := { dst := some 210, op := _, type := _, pos := _, after := _, guard := _ }) rfl (fun K hK => ?_) AllReadyH.nil
    go_simp
    (go_at_call 21; (with_reducible refine (HR2.out _ (S0.step HT1)).mono ?_); rintro e wk2 ⟨AR2, cR2, rfl, hk2⟩)
    have HT2 := bstep HT1 hk2
    refine hK.out _ _ HT2 (fun _ => ?_)
    clear hK K
    try simp only [Act.put, List.setIfInBounds_toArray, List.set_cons_zero, List.set_cons_succ]
    first
      | (refine wpAnyH_take (i := 39) (oi := { dst := some 211, op := _, type := _, pos := _, after := _, guard := _ }) (v := ?vb82) rfl (by kernel_rfl) (by kernel_rfl) (by kernel_rfl) (fun _ _ _ h => h) (Or.inl ⟨by rfl, ?hb82⟩) HT2 ?_; (case hb82 => (intro w hSw; obtain ⟨x0, x1, x2, x3, x4, x5, x6, x7, x8, x9, x10, x11⟩ := KS.out w hSw; clear hSw; go_simp; try with_reducible rfl)); try simp only [Act.put, List.setIfInBounds_toArray, List.set_cons_zero, List.set_cons_succ])
      | (refine wpAnyH_take (i := 39) (oi := { dst := some 211, op := _, type := _, pos := _, after := _, guard := _ }) (v := undef) rfl (by kernel_rfl) (by kernel_rfl) (by kernel_rfl) (fun _ _ _ h => h) (Or.inr ⟨by rfl, rfl⟩) HT2 ?_; try simp only [Act.put, List.setIfInBounds_toArray, List.set_cons_zero, List.set_cons_succ])
    first
      | (refine wpAnyH_take (i := 40) (oi := { dst := some 212, op := _, type := _, pos := _, after := _, guard := _ }) (v := ?vb83) rfl (by kernel_rfl) (by kernel_rfl) (by kernel_rfl) (fun _ _ _ h => h) (Or.inl ⟨by rfl, ?hb83⟩) HT2 ?_; (case hb83 => (intro w hSw; obtain ⟨x0, x1, x2, x3, x4, x5, x6, x7, x8, x9, x10, x11⟩ := KS.out w hSw; clear hSw; go_simp; try with_reducible rfl)); try simp only [Act.put, List.setIfInBounds_toArray, List.set_cons_zero, List.set_cons_succ])
      | (refine wpAnyH_take (i := 40) (oi := { dst := some 212, op := _, type := _, pos := _, after := _, guard := _ }) (v := undef) rfl (by kernel_rfl) (by kernel_rfl) (by kernel_rfl) (fun _ _ _ h => h) (Or.inr ⟨by rfl, rfl⟩) HT2 ?_; try simp only [Act.put, List.setIfInBounds_toArray, List.set_cons_zero, List.set_cons_succ])
    first
      | (refine wpAnyH_take (i := 41) (oi := { dst := some 213, op := _, type := _, pos := _, after := _, guard := _ }) (v := ?vb84) rfl (by kernel_rfl) (by kernel_rfl) (by kernel_rfl) (fun _ _ _ h => h) (Or.inl ⟨by rfl, ?hb84⟩) HT2 ?_; (case hb84 => (intro w hSw; obtain ⟨x0, x1, x2, x3, x4, x5, x6, x7, x8, x9, x10, x11⟩ := KS.out w hSw; clear hSw; go_simp; try with_reducible rfl)); try simp only [Act.put, List.setIfInBounds_toArray, List.set_cons_zero, List.set_cons_succ])
      | (refine wpAnyH_take (i := 41) (oi := { dst := some 213, op := _, type := _, pos := _, after := _, guard := _ }) (v := undef) rfl (by kernel_rfl) (by kernel_rfl) (by kernel_rfl) (fun _ _ _ h => h) (Or.inr ⟨by rfl, rfl⟩) HT2 ?_; try simp only [Act.put, List.setIfInBounds_toArray, List.set_cons_zero, List.set_cons_succ])
    first
      | (refine wpAnyH_take (i := 42) (oi := { dst := some 214, op := _, type := _, pos := _, after := _, guard := _ }) (v := ?vb85) rfl (by kernel_rfl) (by kernel_rfl) (by kernel_rfl) (fun _ _ _ h => h) (Or.inl ⟨by rfl, ?hb85⟩) HT2 ?_; (case hb85 => (intro w hSw; obtain ⟨x0, x1, x2, x3, x4, x5, x6, x7, x8, x9, x10, x11⟩ := KS.out w hSw; clear hSw; go_simp; try with_reducible rfl)); try simp only [Act.put, List.setIfInBounds_toArray, List.set_cons_zero, List.set_cons_succ])
      | (refine wpAnyH_take (i := 42) (oi := { dst := some 214, op := _, type := _, pos := _, after := _, guard := _ }) (v := undef) rfl (by kernel_rfl) (by kernel_rfl) (by kernel_rfl) (fun _ _ _ h => h) (Or.inr ⟨by rfl, rfl⟩) HT2 ?_; try simp only [Act.put, List.setIfInBounds_toArray, List.set_cons_zero, List.set_cons_succ])
    first
      | (refine wpAnyH_take (i := 43) (oi := { dst := some 6, op := _, type := _, pos := _, after := _, guard := _ }) (v := ?vb86) rfl (by kernel_rfl) (by kernel_rfl) (by kernel_rfl) (fun _ _ _ h => h) (Or.inl ⟨by rfl, ?hb86⟩) HT2 ?_; (case hb86 => (intro w hSw; obtain ⟨x0, x1, x2, x3, x4, x5, x6, x7, x8, x9, x10, x11⟩ := KS.out w hSw; clear hSw; go_simp; try with_reducible rfl)); try simp only [Act.put, List.setIfInBounds_toArray, List.set_cons_zero, List.set_cons_succ])
      | (refine wpAnyH_take (i := 43) (oi := { dst := some 6, op := _, type := _, pos := _, after := _, guard := _ }) (v := undef) rfl (by kernel_rfl) (by kernel_rfl) (by kernel_rfl) (fun _ _ _ h => h) (Or.inr ⟨by rfl, rfl⟩) HT2 ?_; try simp only [Act.put, List.setIfInBounds_toArray, List.set_cons_zero, List.set_cons_succ])
    refine wpAnyH_done (by kernel_rfl) ?_ _
    go_wp2_with fail
    go_ret
    exact ⟨rfl, bstep hb HT2⟩

end ScanRetires
end Go.Proofs.Ytiakabnfjegeeaa

/- ScanRetires, where it goes through. -/
namespace Go.Proofs.Ytiakabnfjegeeaa
namespace ScanRetires
open Go.ChangeShapes Go.WideShapes Go.ChangeAt Go.RowKit
set_option linter.unusedVariables false
set_option linter.unusedSimpArgs false

set_option maxRecDepth 100000 in
set_option maxHeartbeats 80000000 in
theorem walk_high1 (A0 B0 C0 L0 : Option Addr) (a0 b0 c0 d0 : Nat) (s0 : Sy) (n1 n2 : Int) (w0 : World) (u0 : 0 ≤ n1) (u1 : n1 ≤ 255) (u2 : 0 ≤ n2) (u3 : n2 ≤ 255)
    (rW : Row w0 A0 s0.M.W) (rG : Row w0 B0 s0.M.G) (rC : RowC w0 C0 s0.C) (rL : RowE w0 L0 s0.L) (g0 : s0.M.W.length ≤ maxLen) (g1 : s0.M.G.length ≤ maxLen) (g2 : s0.C.length ≤ maxLen) (g3 : s0.L.length ≤ maxLen) (q0 : syMays4 s0 = true) (qF : ∀ (k : Nat) (x : Co), n1.tmod (s0.C.length : Int) = (k : Int) → s0.C[k]? = some x → x.F.length < 38 ∧ x.ret.length < 200) (qL : ∀ (k : Nat) (x : Co), n1.tmod (s0.C.length : Int) = (k : Int) → s0.C[k]? = some x → ¬ x.ret.length + 1 < 3 * s0.C.length + 1) (qG : ∀ q : Nat, n2.tmod ((s0.M.G.length : Int) - 1) = (q : Int) → s0.M.G.getD (q + 1) 0 = 1 ∧ (mTurn s0.M (1 + (q : Int)) 2).bad = false) :
    Calls Try.prog 4 #[.agg #[.slice A0 s0.M.W.length a0, .slice B0 s0.M.G.length b0, .bool s0.M.bad, .slice C0 s0.C.length c0, .slice L0 s0.L.length d0], .int .u8 n1, .int .u8 n2] w0 fun e w' => e = .returned (.bool true) ∧ Below w0.heap.size w0 w' := by
  have S0 : RS w0 s0 A0 B0 C0 L0 := ⟨rW, rG, rC, rL⟩
  have hb : Below w0.heap.size w0 w0 := Below.refl _ _
  have HC := rmay4_any A0 B0 C0 L0 a0 b0 c0 d0 s0
  rw [q0] at HC
  replace HC := hid (show ∀ w, RS w s0 A0 B0 C0 L0 → Calls Try.prog 17 #[.agg #[.slice A0 s0.M.W.length a0, .slice B0 s0.M.G.length b0, .bool s0.M.bad, .slice C0 s0.C.length c0, .slice L0 s0.L.length d0], .int .i64 40] w fun e w' => e = .returned (.bool true) ∧ Below w.heap.size w w' from fun w h => HC w h.G h.C g1 g0 g2 g3)
  clear rW rG rC rL g0 g1 g2 g3
  go_enter Try.func4, Try.ntmps4
  go_upto_region 1 with (fail)
  have Bk0 := heap_alloc_new w0 (.cells #[.slice A0 s0.M.W.length a0, .slice B0 s0.M.G.length b0, .bool s0.M.bad, .slice C0 s0.C.length c0, .slice L0 s0.L.length d0] 30)
  have lt0 : w0.heap.size < (w0.alloc (.cells #[.slice A0 s0.M.W.length a0, .slice B0 s0.M.G.length b0, .bool s0.M.bad, .slice C0 s0.C.length c0, .slice L0 s0.L.length d0] 30)).heap.size := by simp
  have hk : Below w0.heap.size w0 (w0.alloc (.cells #[.slice A0 s0.M.W.length a0, .slice B0 s0.M.G.length b0, .bool s0.M.bad, .slice C0 s0.C.length c0, .slice L0 s0.L.length d0] 30)) := boxed _ _
  replace S0 := S0.step hk
  replace hb := bstep hb hk
  clear hk
  obtain ⟨v0, hv⟩ : ∃ v, w0.heap.size = v := ⟨_, rfl⟩
  rw [hv] at Bk0 lt0 ⊢
  clear hv
  generalize (w0.alloc (.cells #[.slice A0 s0.M.W.length a0, .slice B0 s0.M.G.length b0, .bool s0.M.bad, .slice C0 s0.C.length c0, .slice L0 s0.L.length d0] 30)) = w1 at *
  go_wp2_with fail
  refine (shown6_any _).mono ?_
  rintro e w2 ⟨rfl, hk⟩
  replace Bk0 := (hk.block v0 lt0).trans Bk0
  replace lt0 := Nat.lt_of_lt_of_le lt0 hk.size
  replace S0 := S0.step hk
  replace hb := bstep hb hk
  clear hk
  go_upto_region 2 with (fail)
  obtain ⟨m0_0, m0_1, m0_2, m0_3, m0_4⟩ := cells5 Bk0
  go_upto_region 4 with (go_at_call 17; refine (HC.out _ S0).mono ?_; rintro e w3 ⟨rfl, hk⟩)
  clear m0_0 m0_1 m0_2 m0_3 m0_4
  replace Bk0 := (hk.block v0 lt0).trans Bk0
  replace lt0 := Nat.lt_of_lt_of_le lt0 hk.size
  replace S0 := S0.step hk
  replace hb := bstep hb hk
  clear hk
  clear HC
  have hmay : sySmall4 s0 = true ∧ syRight s0 = true := by simpa [syMays4] using q0
  have HF := hid (few_of_small (small_of4 hmay.1))
  have hsm := sySmall4_few hmay.1
  have hr := hmay.2
  simp only [syRight, Bool.and_eq_true, decide_eq_true_eq] at hr
  have HR := hid (Rt.of hr.1.1.1)
  obtain ⟨⟨⟨_, hc1⟩, hc8⟩, _⟩ := hr
  have HGB := hid hsm.1
  have HLB := hid hsm.2.2.2.1
  have HRB := hid (show ∀ x ∈ s0.C, x.ret.length ≤ 210 from fun x hx => (hsm.2.2.2.2 x hx).2.1)
  clear hmay q0 hsm
  obtain ⟨k, hk⟩ : ∃ k : Nat, n1.tmod (s0.C.length : Int) = (k : Int) := ⟨(n1.tmod (s0.C.length : Int)).toNat, by rw [Int.tmod_eq_emod_of_nonneg u0, Int.toNat_of_nonneg (Int.emod_nonneg _ (by omega))]⟩
  have hkl : k < s0.C.length := by have h9 := hk; rw [Int.tmod_eq_emod_of_nonneg u0] at h9; have := Int.emod_lt_of_pos n1 (show (0 : Int) < (s0.C.length : Int) by omega); omega
  obtain ⟨x, hx⟩ : ∃ x, s0.C[k]? = some x := ⟨_, List.getElem?_eq_getElem hkl⟩
  obtain ⟨gC, oC, eC, hbl, hat⟩ := S0.C (by omega)
  subst eC
  obtain ⟨AF, AR, cFq, cR, hcs, rF, rR, hcF⟩ := (hat k x hx).cs4
  clear hat
  have y0 : w3.cell? ⟨gC, oC + k * 7, none⟩ = some (.slice AF x.F.length cFq) := hcs 0 _ rfl
  have y6 : w3.cell? ⟨gC, oC + k * 7 + 6, none⟩ = some (.slice AR x.ret.length cR) := hcs 6 _ rfl
  have kl : (k : Int) < (s0.C.length : Int) := by omega
  have hne : ((s0.C.length : Int) == 0) = false := by rw [beq_eq_false_iff_ne]; omega
  have HX := hid hx
  clear hx hcs rF rR hcF
  obtain ⟨m0_0, m0_1, m0_2, m0_3, m0_4⟩ := cells5 Bk0
  have hxF : x.F.length < 38 := (qF k x hk HX.out).1
  have hxr : x.ret.length < 200 := (qF k x hk HX.out).2
  have HLL := hid (qL k x hk HX.out)
  clear qF qL
  have hq : decide ((38 : Int) ≤ (x.F.length : Int)) = false := by simp; omega
  have hq2 : decide ((200 : Int) ≤ (x.ret.length : Int)) = false := by simp; omega
  have gl2 : (2 : Int) ≤ (s0.M.G.length : Int) := by have := HR.out.g2; omega
  have gl3 : (s0.M.G.length : Int) ≤ 41 := by have := HGB.out; omega
  go_upto_region 7 with (fail)
  obtain ⟨q, hqe⟩ : ∃ q : Nat, n2.tmod ((s0.M.G.length : Int) - 1) = (q : Int) := ⟨(n2.tmod ((s0.M.G.length : Int) - 1)).toNat, by rw [Int.tmod_eq_emod_of_nonneg u2, Int.toNat_of_nonneg (Int.emod_nonneg _ (by omega))]⟩
  have hql : (q : Int) + 1 < (s0.M.G.length : Int) := by have h9 := hqe; rw [Int.tmod_eq_emod_of_nonneg u2] at h9; have := Int.emod_lt_of_pos n2 (show (0 : Int) < (s0.M.G.length : Int) - 1 by omega); omega
  have HGC := hid (qG q hqe)
  clear qG
  have hne3 : ((s0.M.G.length : Int) - 1 == 0) = false := by rw [beq_eq_false_iff_ne]; omega
  have q40 : (q : Int) ≤ 40 := by omega
  obtain ⟨s2, hs2⟩ : ∃ s, s = pCall s0 (k : Int) (frR (1 + (q : Int)) 0) := ⟨_, rfl⟩
  obtain ⟨s3, hs3⟩ : ∃ s, s = pScan s2 (k : Int) := ⟨_, rfl⟩
  have HK := hid (show ∀ (w : World), RS w s0 A0 B0 (some ⟨gC, oC, none⟩) L0 → Calls Try.prog 19 #[(.agg #[.slice A0 s0.M.W.length a0, .slice B0 s0.M.G.length b0, .bool s0.M.bad, .slice (some ⟨gC, oC, none⟩) s0.C.length c0, .slice L0 s0.L.length d0]), .int .i64 (k : Int), .int .i64 5, .int .i64 (1 + (q : Int)), .int .i64 0, .int .i64 0] w (RetSys w s2) from fun w h => by rw [hs2]; exact rcall_u A0 B0 (some ⟨gC, oC, none⟩) L0 a0 b0 c0 d0 s0 (k : Int) 5 (1 + (q : Int)) 0 0 w HF.out h)
  have HE2 := hid (show s2 = ⟨s0.M, s0.C.set k (cF x (x.F ++ [frR (1 + (q : Int)) 0])), s0.L⟩ from hs2.trans (core_call HX.out (by omega) _))
  obtain ⟨y, HY, HYR, HYC⟩ : ∃ y : Co, Hid (s3 = ⟨mTurn s0.M (1 + (q : Int)) 2, s0.C.set k y, s0.L⟩) ∧ Hid (y.ret = x.ret ++ [1 + (q : Int)]) ∧ Hid ((x.ret.length + 1 < 3 * s0.C.length + 1 ∧ y.F = x.F ∧ y.v = 1 + (q : Int)) ∨ (¬ x.ret.length + 1 < 3 * s0.C.length + 1 ∧ y.F = x.F ++ [frR (1 + (q : Int)) 1, frS 6 0])) := by
    by_cases hl : x.ret.length + 1 < 3 * s0.C.length + 1
    · exact ⟨⟨x.F, 1 + (q : Int), 0, x.x0, x.x1, x.x2, x.ret ++ [1 + (q : Int)]⟩, hid (by rw [hs3, hs2]; exact ret_low HX.out hxF hxr hl), hid rfl, hid (.inl ⟨hl, rfl, rfl⟩)⟩
    · exact ⟨⟨x.F ++ [frR (1 + (q : Int)) 1, frS 6 0], x.v, x.e, x.x0, x.x1, x.x2, x.ret ++ [1 + (q : Int)]⟩, hid (by rw [hs3, hs2]; exact ret_high HX.out hxF hxr hl), hid rfl, hid (.inr ⟨hl, rfl⟩)⟩
  have HF2 := hid (show SyFew s2 ∧ 2 ≤ s2.M.G.length ∧ s2.L.length ≤ 999998 by rw [hs2]; refine ⟨few_call HF.out (Nat.zero_le _) _, ?_, ?_⟩ <;> rw [← hs2, HE2.out] <;> first | exact HR.out.g2 | (have := HLB.out; show s0.L.length ≤ 999998; omega))
  have HS := hid (show ∀ (A B C L : Option Addr) (a b c d : Nat) (w : World), RS w s2 A B C L → Calls Try.prog 18 #[.agg #[.slice A s2.M.W.length a, .slice B s2.M.G.length b, .bool s2.M.bad, .slice C s2.C.length c, .slice L s2.L.length d], .int .i64 (k : Int)] w fun e w' => ∃ (A B C L : Option Addr) (a b c d : Nat), e = .returned (.agg #[.slice A s0.M.W.length a, .slice B s0.M.G.length b, .bool s3.M.bad, .slice C s0.C.length c, .slice L s0.L.length d]) ∧ RS w' s3 A B C L ∧ Below w.heap.size w w' from fun A B C L a b c d w h => by
      have h9 := scst_any A B C L a b c d s2 (k : Int) w HF2.out.1 HF2.out.2.1 h HF2.out.2.2 (fun f hf => by rw [HE2.out, core_top (s := ⟨s0.M, _, s0.L⟩) (set_get HX.out) rfl] at hf; obtain rfl := Option.some.inj hf; simp only [frR, List.getD_cons_zero]; unfold W64; omega)
      rw [← hs3] at h9
      refine h9.mono (fun e w' h => ?_)
      obtain ⟨A, B, C, L, a, b, c, d, e1, r1, r2, r3, r4, r5⟩ := h.weak
      rw [show s3.M.W.length = s0.M.W.length by rw [HY.out]; rfl, show s3.M.G.length = s0.M.G.length by rw [HY.out]; exact (mTurn_len _ _ _).2, show s3.C.length = s0.C.length by rw [HY.out]; simp, show s3.L.length = s0.L.length by rw [HY.out]] at e1
      exact ⟨A, B, C, L, a, b, c, d, e1, ⟨r1, r2, r3, r4⟩, r5⟩)
  clear hs2 hs3
  go_upto_region 8 with (fail)
  go_wp2_with fail
  refine (HK.out _ S0).mono ?_
  rintro e w4 ⟨A7, B7, C7, L7, a7, b7, c7, d7, rfl, tW, tG, tC, tL, hk9⟩
  clear y0 y6
  clear m0_0 m0_1 m0_2 m0_3 m0_4
  replace Bk0 := (hk9.block v0 lt0).trans Bk0
  replace lt0 := Nat.lt_of_lt_of_le lt0 hk9.size
  replace S0 := S0.step hk9
  replace hb := bstep hb hk9
  clear hk9
  have S7 : RS w4 s2 A7 B7 C7 L7 := ⟨tW, tG, tC, tL⟩
  clear tW tG tC tL
  go_wp2_with fail
  refine (HS.out _ _ _ _ _ _ _ _ _ S7).mono ?_
  rintro e w5 ⟨A8, B8, C8, L8, a8, b8, c8, d8, rfl, S8, hk9⟩
  clear S7
  replace Bk0 := (hk9.block v0 lt0).trans Bk0
  replace lt0 := Nat.lt_of_lt_of_le lt0 hk9.size
  replace S0 := S0.step hk9
  replace hb := bstep hb hk9
  clear hk9
  go_upto_region 9 with (fail)
  have Bk8 := heap_alloc_new w5 (.cells #[.slice A8 s0.M.W.length a8, .slice B8 s0.M.G.length b8, .bool s3.M.bad, .slice C8 s0.C.length c8, .slice L8 s0.L.length d8] 30)
  have lt8 : w5.heap.size < (w5.alloc (.cells #[.slice A8 s0.M.W.length a8, .slice B8 s0.M.G.length b8, .bool s3.M.bad, .slice C8 s0.C.length c8, .slice L8 s0.L.length d8] 30)).heap.size := by simp
  have hk : Below w5.heap.size w5 (w5.alloc (.cells #[.slice A8 s0.M.W.length a8, .slice B8 s0.M.G.length b8, .bool s3.M.bad, .slice C8 s0.C.length c8, .slice L8 s0.L.length d8] 30)) := boxed _ _
  have ne0_8 : v0 ≠ w5.heap.size := Nat.ne_of_lt lt0
  have nw8 : w0.heap.size ≤ w5.heap.size := hb.size
  replace Bk0 := (hk.block v0 lt0).trans Bk0
  replace lt0 := Nat.lt_of_lt_of_le lt0 hk.size
  replace S0 := S0.step hk
  replace S8 := S8.step hk
  replace hb := bstep hb hk
  clear hk
  obtain ⟨v8, hv⟩ : ∃ v, w5.heap.size = v := ⟨_, rfl⟩
  replace nw8 := Nat.le_trans nw8 (Nat.le_of_eq hv)
  rw [hv] at Bk8 lt8 ne0_8 ⊢
  clear hv
  generalize (w5.alloc (.cells #[.slice A8 s0.M.W.length a8, .slice B8 s0.M.G.length b8, .bool s3.M.bad, .slice C8 s0.C.length c8, .slice L8 s0.L.length d8] 30)) = w6 at *
  obtain ⟨m0_0, m0_1, m0_2, m0_3, m0_4⟩ := cells5 Bk0
  obtain ⟨m8_0, m8_1, m8_2, m8_3, m8_4⟩ := cells5 Bk8
  go_upto_region 11 with (fail)
  obtain ⟨gC2, oC2, eC2, hbl2, hat2⟩ := S0.C (by omega)
  injection eC2 with eC2
  injection eC2 with eC3 eC4
  subst eC3 eC4
  obtain ⟨AFy, ARy, cFy, cRy, hcy, rFy, rRy, hcFy⟩ := (hat2 k _ HX.out).cs4
  clear hat2
  have y0 : w6.cell? ⟨gC, oC + k * 7, none⟩ = some (.slice AFy x.F.length cFy) := hcy 0 _ rfl
  have y6 : w6.cell? ⟨gC, oC + k * 7 + 6, none⟩ = some (.slice ARy x.ret.length cRy) := hcy 6 _ rfl
  clear hcy
  go_upto_region 12 with (first | (at_builtin; (refine wpList_append_ontoR rfl _ _ _ rfl w6.heap.size Try.underlying24 infoI (.slice (some ⟨w6.heap.size, 0, none⟩) 0 0) 0 [] rfl rfl (own_empty (heap_alloc_new w6 _)) ARy cRy x.ret.length x.ret rfl rfl (rRy.step (boxed _ _)) (by simp; omega) (by simp) ?_); intro v9 wa ho9 hg9) | (at_builtin; (refine wpList_append_ontoR rfl _ _ _ rfl w6.heap.size Try.underlying24 infoI v9 _ ([] ++ x.ret) rfl rfl (own_step ho9 (boxed _ _)) _ _ 1 [1 + (q : Int)] rfl rfl (Blk.row (heap_alloc_new wa (.cells #[.int .i64 (1 + (q : Int))] 3))) (by simp; omega) (by have := hg9.size; simp at this ⊢; omega) ?_); intro v10 w7 ho10 hg10; obtain ⟨A10, c10, rfl, r10⟩ := own_row1 ho10 rfl))
  have hk : Below w6.heap.size w6 w7 := ((((Turn.refl (fun b => w6.heap.size ≤ b) w6).alloc _).grown hg9 (fun g hg => Nat.le_of_eq (Option.some.inj hg))).alloc _ |>.grown hg10 (fun g hg => (ho9.lt g hg).1)).to_below (Nat.le_refl _) (fun _ h => h)
  clear ho9 hg9 hg10 ho10 rFy rRy y0 y6
  clear m0_0 m0_1 m0_2 m0_3 m0_4 m8_0 m8_1 m8_2 m8_3 m8_4
  replace Bk0 := (hk.block v0 lt0).trans Bk0
  replace lt0 := Nat.lt_of_lt_of_le lt0 hk.size
  replace Bk8 := (hk.block v8 lt8).trans Bk8
  replace lt8 := Nat.lt_of_lt_of_le lt8 hk.size
  replace S0 := S0.step hk
  replace S8 := S8.step hk
  replace hb := bstep hb hk
  clear hk
  simp only [List.nil_append] at r10 ⊢
  obtain ⟨m0_0, m0_1, m0_2, m0_3, m0_4⟩ := cells5 Bk0
  obtain ⟨m8_0, m8_1, m8_2, m8_3, m8_4⟩ := cells5 Bk8
  have HLM := hid (show pLimit (s0.C.length : Int) = 3 * (s0.C.length : Int) + 1 from pLimit_in (by omega) (by omega))
  go_upto_region 13 with (go_at_call 15; (with_reducible refine (limit_any _ _).mono ?_); rintro e wz ⟨rfl, rfl⟩)
  have E3 := hid (show s3.M.W.length = s0.M.W.length ∧ s3.M.G.length = s0.M.G.length ∧ s3.C.length = s0.C.length ∧ s3.L.length = s0.L.length by rw [HY.out]; exact ⟨rfl, (mTurn_len _ _ _).2, by simp, rfl⟩)
  have FX := HF.out.2.2.2.2 x (List.mem_of_getElem? HX.out)
  have FEW3 : SyFew s3 := by
    rw [HY.out]
    refine few_mem (s := syWith s0 k y) (few_with HF.out ⟨?_, ?_, ?_⟩) rfl (mTurn_len _ _ _).2
    · rw [HYR.out]; simp; omega
    · rcases HYC.out with ⟨_, h9, _⟩ | ⟨_, h9⟩
      · rw [h9]; omega
      · rw [h9]; simp; omega
    · rcases HYC.out with ⟨_, h9, _⟩ | ⟨_, h9⟩
      · rw [h9]; exact FX.2.2
      · rw [h9]; intro f hf
        rcases List.mem_append.1 hf with h | h
        · exact FX.2.2 f h
        · simp at h; rcases h with rfl | rfl <;> simp [frR, frS]
  clear FX
  obtain ⟨scb, HB⟩ : ∃ b : Bool, Hid (b = decide (¬ x.ret.length + 1 < 3 * s0.C.length + 1)) := ⟨_, hid rfl⟩
  obtain ⟨op, pc, r0, r1, r2, r3, r4, r5, r6, r7, xs, isb, HTP, HSC⟩ : ∃ (op pc r0 r1 r2 r3 r4 r5 r6 r7 : Int) (xs : List Int) (isb : Bool), Hid (∀ (A B C L : Option Addr) (a b c d : Nat) (w : World), RS w s3 A B C L → Calls Try.prog 14 #[.agg #[.slice A s0.M.W.length a, .slice B s0.M.G.length b, .bool s3.M.bad, .slice C s0.C.length c, .slice L s0.L.length d], .int .i64 (k : Int)] w fun e w' => ∃ (A' : Option Addr) (c' : Nat), e = .returned (.tuple #[.agg #[.int .i64 op, .int .i64 pc, .int .i64 r0, .int .i64 r1, .int .i64 r2, .int .i64 r3, .int .i64 r4, .int .i64 r5, .int .i64 r6, .int .i64 r7, .slice A' xs.length c'], .bool isb]) ∧ Below w.heap.size w w') ∧ Hid ((isb && (op == 6) && decide (y.F.length = x.F.length + 2)) = scb) := by
    rcases HYC.out with ⟨hl, hF, hv⟩ | ⟨hl, hF⟩
    · rcases pTop_cases s3 (k : Int) FEW3 S8.C with hp | ⟨op, pc, r0, r1, r2, r3, r4, r5, r6, r7, xs, hp, h6⟩
      · refine ⟨0, 0, 0, 0, 0, 0, 0, 0, 0, 0, [], false, hid (fun A B C L a b c d w h => ?_), hid ?_⟩
        · have h9 := rtop_no A B C L a b c d s3 (k : Int) w FEW3 h hp
          rw [E3.out.1, E3.out.2.1, E3.out.2.2.1, E3.out.2.2.2] at h9
          exact h9.mono (fun e w' ⟨q1, q2⟩ => ⟨none, 0, q1, q2⟩)
        · rw [HB.out]; simp; omega
      · refine ⟨op, pc, r0, r1, r2, r3, r4, r5, r6, r7, xs, true, hid (fun A B C L a b c d w h => ?_), hid ?_⟩
        · have h9 := rtop_is A B C L a b c d s3 (k : Int) op pc r0 r1 r2 r3 r4 r5 r6 r7 xs w FEW3 h hp h6
          rw [E3.out.1, E3.out.2.1, E3.out.2.2.1, E3.out.2.2.2] at h9
          exact h9.mono (fun e w' ⟨A', c', q1, _, q2⟩ => ⟨A', c', q1, q2⟩)
        · rw [HB.out, hF]; simp; omega
    · have hp : pTop s3 (k : Int) = some (frS 6 0) := by rw [HY.out]; exact core_top (s := ⟨_, _, s0.L⟩) (F := x.F ++ [frR (1 + (q : Int)) 1]) (set_get HX.out) (by rw [hF]; simp)
      refine ⟨6, 0, 0, 0, 0, 0, 0, 0, 0, 0, [], true, hid (fun A B C L a b c d w h => ?_), hid ?_⟩
      · have h9 := rtop_is A B C L a b c d s3 (k : Int) 6 0 0 0 0 0 0 0 0 0 [] w FEW3 h hp (by simp)
        rw [E3.out.1, E3.out.2.1, E3.out.2.2.1, E3.out.2.2.2] at h9
        exact h9.mono (fun e w' ⟨A', c', q1, _, q2⟩ => ⟨A', c', q1, q2⟩)
      · rw [HB.out, hF]; simp; omega
  go_upto_region 14 with (go_at_call 14; (with_reducible refine (HTP.out _ _ _ _ _ _ _ _ _ S8).mono ?_); rintro e w8 ⟨AT, cT, rfl, hk⟩)
  clear m0_0 m0_1 m0_2 m0_3 m0_4 m8_0 m8_1 m8_2 m8_3 m8_4
  replace Bk0 := (hk.block v0 lt0).trans Bk0
  replace lt0 := Nat.lt_of_lt_of_le lt0 hk.size
  replace Bk8 := (hk.block v8 lt8).trans Bk8
  replace lt8 := Nat.lt_of_lt_of_le lt8 hk.size
  replace S0 := S0.step hk
  replace S8 := S8.step hk
  replace r10 := r10.step hk
  replace hb := bstep hb hk
  clear hk
  have BkT := heap_alloc_new w8 (.cells #[.int .i64 op, .int .i64 pc, .int .i64 r0, .int .i64 r1, .int .i64 r2, .int .i64 r3, .int .i64 r4, .int .i64 r5, .int .i64 r6, .int .i64 r7, .slice AT xs.length cT] 44)
  have ltT : w8.heap.size < (w8.alloc (.cells #[.int .i64 op, .int .i64 pc, .int .i64 r0, .int .i64 r1, .int .i64 r2, .int .i64 r3, .int .i64 r4, .int .i64 r5, .int .i64 r6, .int .i64 r7, .slice AT xs.length cT] 44)).heap.size := by simp
  have hk : Below w8.heap.size w8 (w8.alloc (.cells #[.int .i64 op, .int .i64 pc, .int .i64 r0, .int .i64 r1, .int .i64 r2, .int .i64 r3, .int .i64 r4, .int .i64 r5, .int .i64 r6, .int .i64 r7, .slice AT xs.length cT] 44)) := boxed _ _
  replace Bk0 := (hk.block v0 lt0).trans Bk0
  replace lt0 := Nat.lt_of_lt_of_le lt0 hk.size
  replace Bk8 := (hk.block v8 lt8).trans Bk8
  replace lt8 := Nat.lt_of_lt_of_le lt8 hk.size
  replace S0 := S0.step hk
  replace S8 := S8.step hk
  replace r10 := r10.step hk
  replace hb := bstep hb hk
  clear hk
  obtain ⟨vT, hv⟩ : ∃ v, w8.heap.size = v := ⟨_, rfl⟩
  rw [hv] at BkT ltT ⊢
  clear hv
  generalize (w8.alloc (.cells #[.int .i64 op, .int .i64 pc, .int .i64 r0, .int .i64 r1, .int .i64 r2, .int .i64 r3, .int .i64 r4, .int .i64 r5, .int .i64 r6, .int .i64 r7, .slice AT xs.length cT] 44)) = w9 at *
  obtain ⟨gC2, oC2, eC2, hbl2, hat2⟩ := S0.C (by omega)
  injection eC2 with eC2
  injection eC2 with eC3 eC4
  subst eC3 eC4
  obtain ⟨AFy, ARy, cFy, cRy, hcy, rFy, rRy, hcFy⟩ := (hat2 k _ HX.out).cs4
  clear hat2 rFy rRy hcFy
  have y0 : w9.cell? ⟨gC, oC + k * 7, none⟩ = some (.slice AFy x.F.length cFy) := hcy 0 _ rfl
  have y6 : w9.cell? ⟨gC, oC + k * 7 + 6, none⟩ = some (.slice ARy x.ret.length cRy) := hcy 6 _ rfl
  clear hcy
  obtain ⟨gD, oD, eD, hblD, hatD⟩ := S8.C (by rw [E3.out.2.2.1]; omega)
  subst eD
  obtain ⟨AFz, ARz, cFz, cRz, hcz, rFz, rRz, hcFz⟩ := (hatD k y (by rw [HY.out]; exact set_get HX.out)).cs4
  clear hatD hcFz rFz
  have z0 : w9.cell? ⟨gD, oD + k * 7, none⟩ = some (.slice AFz y.F.length cFz) := hcz 0 _ rfl
  have z1 : w9.cell? ⟨gD, oD + k * 7 + 1, none⟩ = some (.int .i64 y.v) := hcz 1 _ rfl
  have z6 : w9.cell? ⟨gD, oD + k * 7 + 6, none⟩ = some (.slice ARz y.ret.length cRz) := hcz 6 _ rfl
  clear hcz
  obtain ⟨m0_0, m0_1, m0_2, m0_3, m0_4⟩ := cells5 Bk0
  obtain ⟨m8_0, m8_1, m8_2, m8_3, m8_4⟩ := cells5 Bk8
  obtain ⟨mT_0, mT_1, mT_2, mT_3, mT_4, mT_5, mT_6, mT_7, mT_8, mT_9, mT_10⟩ := cells11 BkT
  have yF9 : y.F.length ≤ 1000 := by rcases HYC.out with ⟨_, h9, _⟩ | ⟨_, h9⟩ <;> rw [h9] <;> (try simp) <;> omega
  go_cut [15] from 103 (fun y15 wx => y15 = .bool scb ∧ Below w9.heap.size w9 wx)
  case first =>
    rcases Bool.eq_false_or_eq_true isb with hi | hi
    · subst hi
      rcases Bool.eq_false_or_eq_true (op == 6) with h6 | h6
      · by_cases hln : y.F.length = x.F.length + 2
        · have hlb : ((y.F.length : Int) == (x.F.length : Int) + 2) = true := by simp; omega
          have hs9 : scb = true := by have h9 := HSC.out; simpa [h6, hln] using h9.symm
          subst hs9
          clear hln
          go_quiet (fail)
          go_wp2_with fail
          go_meet
          exact ⟨rfl, bdrewN (Below.refl _ _) _⟩
        · have hlb : ((y.F.length : Int) == (x.F.length : Int) + 2) = false := by rw [beq_eq_false_iff_ne]; omega
          have hs9 : scb = false := by have h9 := HSC.out; simpa [h6, hln] using h9.symm
          subst hs9
          clear hln
          go_quiet (fail)
          go_wp2_with fail
          go_meet
          exact ⟨rfl, bdrewN (Below.refl _ _) _⟩
      · have hs9 : scb = false := by have h9 := HSC.out; simpa [h6] using h9.symm
        subst hs9
        go_quiet (fail)
        go_wp2_with fail
        go_meet
        exact ⟨rfl, bdrewN (Below.refl _ _) _⟩
    · subst hi
      have hs9 : scb = false := by have h9 := HSC.out; simpa using h9.symm
      subst hs9
      go_quiet (fail)
      go_wp2_with fail
      go_meet
      exact ⟨rfl, bdrewN (Below.refl _ _) _⟩
  case rest =>
    obtain ⟨rfl, hk⟩ := hcut
    clear HTP HSC
    clear m0_0 m0_1 m0_2 m0_3 m0_4 m8_0 m8_1 m8_2 m8_3 m8_4 mT_0 mT_1 mT_2 mT_3 mT_4 mT_5 mT_6 mT_7 mT_8 mT_9 mT_10
    replace z0 := (hk.cell hblD).trans z0
    replace z1 := (hk.cell hblD).trans z1
    replace z6 := (hk.cell hblD).trans z6
    replace y0 := (hk.cell hbl2).trans y0
    replace rRz := rRz.step hk
    replace hblD := Nat.lt_of_lt_of_le hblD hk.size
    replace hbl2 := Nat.lt_of_lt_of_le hbl2 hk.size
    clear y6
    obtain ⟨w10, hwc⟩ : ∃ v, v = wc := ⟨_, rfl⟩
    subst hwc
    replace Bk0 := (hk.block v0 lt0).trans Bk0
    replace lt0 := Nat.lt_of_lt_of_le lt0 hk.size
    replace Bk8 := (hk.block v8 lt8).trans Bk8
    replace lt8 := Nat.lt_of_lt_of_le lt8 hk.size
    replace BkT := (hk.block vT ltT).trans BkT
    replace ltT := Nat.lt_of_lt_of_le ltT hk.size
    replace S0 := S0.step hk
    replace S8 := S8.step hk
    replace r10 := r10.step hk
    replace hb := bstep hb hk
    clear hk
    clear BkT ltT
    have hbeg : decide (pLimit (s0.C.length : Int) ≤ (x.ret.length : Int) + 1) = scb := by rw [HLM.out, HB.out, decide_eq_decide]; omega
    rw [hbeg]
    clear hbeg HLM
    obtain ⟨m0_0, m0_1, m0_2, m0_3, m0_4⟩ := cells5 Bk0
    obtain ⟨m8_0, m8_1, m8_2, m8_3, m8_4⟩ := cells5 Bk8
    have HYR2 := hid (show (y.ret.length : Int) = (x.ret.length : Int) + 1 by rw [HYR.out]; simp)
    have HYL := hid (show y.ret.length = x.ret.length + 1 by rw [HYR.out]; simp)
    have HIN := hid (show ∀ (A B : Option Addr) (c d : Nat) (w : World), Row w A y.ret → Row w B (x.ret ++ [1 + (q : Int)]) → Calls Try.prog 20 #[.slice A y.ret.length c, .slice B (x.ret.length + 1) d] w fun e w' => e = .returned (.bool true) ∧ Below w.heap.size w w' from fun A B c d w h1 h2 => by rw [← HYR.out] at h2; have h9 := rints_any A B c d y.ret y.ret w h1 h2 (by have := HYL.out; omega); rw [show mInts y.ret y.ret = true by simp [mInts]] at h9; rw [HYL.out] at h9 ⊢; exact h9)
    have hfl : y.F.length ≤ 1000 := yF9
    clear yF9
    have hs9 : scb = true := by rw [HB.out]; have := HLL.out; simp; omega
    subst hs9
    go_upto_region 15 with (fail)
    have KS := hid (show ∀ w', Below w10.heap.size w10 w' → (w'.cell? ⟨v8, 3, none⟩ = some (.slice (some ⟨gD, oD, none⟩) s0.C.length c8) ∧ w'.cell? ⟨v0, 3, none⟩ = some (.slice (some ⟨gC, oC, none⟩) s0.C.length c0) ∧ w'.cell? ⟨gD, oD + k * 7, none⟩ = some (.slice AFz y.F.length cFz) ∧ w'.cell? ⟨gD, oD + k * 7 + 1, none⟩ = some (.int .i64 y.v) ∧ w'.cell? ⟨gD, oD + k * 7 + 6, none⟩ = some (.slice ARz y.ret.length cRz) ∧ w'.cell? ⟨gC, oC + k * 7, none⟩ = some (.slice AFy x.F.length cFy)) from fun w' h => ⟨(h.cell lt8).trans m8_3, (h.cell lt0).trans m0_3, (h.cell hblD).trans z0, (h.cell hblD).trans z1, (h.cell hblD).trans z6, (h.cell hbl2).trans y0⟩)
    refine wp_region_held_drew (S := (fun w' => Below w10.heap.size w10 w')) (by kernel_rfl) ((Below.refl _ _).drew) (fun HT0 => ?_)
    try dsimp only at HT0
    generalize w10.drew = W0 at HT0 ⊢
    first
      | (refine wpAnyH_take (i := 0) (oi := { dst := some 127, op := _, type := _, pos := _, after := _, guard := _ }) (v := ?va87) rfl (by kernel_rfl) (by kernel_rfl) (by kernel_rfl) (fun _ _ _ h => h) (Or.inl ⟨by rfl, ?ha87⟩) HT0 ?_; (case ha87 => (intro w hSw; obtain ⟨x0, x1, x2, x3, x4, x5⟩ := KS.out w hSw; clear hSw; go_simp; try with_reducible rfl)); try simp only [Act.put, List.setIfInBounds_toArray, List.set_cons_zero, List.set_cons_succ])
      | (refine wpAnyH_take (i := 0) (oi := { dst := some 127, op := _, type := _, pos := _, after := _, guard := _ }) (v := undef) rfl (by kernel_rfl) (by kernel_rfl) (by kernel_rfl) (fun _ _ _ h => h) (Or.inr ⟨by rfl, rfl⟩) HT0 ?_; try simp only [Act.put, List.setIfInBounds_toArray, List.set_cons_zero, List.set_cons_succ])
    first
      | (refine wpAnyH_take (i := 1) (oi := { dst := some 128, op := _, type := _, pos := _, after := _, guard := _ }) (v := ?va88) rfl (by kernel_rfl) (by kernel_rfl) (by kernel_rfl) (fun _ _ _ h => h) (Or.inl ⟨by rfl, ?ha88⟩) HT0 ?_; (case ha88 => (intro w hSw; obtain ⟨x0, x1, x2, x3, x4, x5⟩ := KS.out w hSw; clear hSw; go_simp; try with_reducible rfl)); try simp only [Act.put, List.setIfInBounds_toArray, List.set_cons_zero, List.set_cons_succ])
      | (refine wpAnyH_take (i := 1) (oi := { dst := some 128, op := _, type := _, pos := _, after := _, guard := _ }) (v := undef) rfl (by kernel_rfl) (by kernel_rfl) (by kernel_rfl) (fun _ _ _ h => h) (Or.inr ⟨by rfl, rfl⟩) HT0 ?_; try simp only [Act.put, List.setIfInBounds_toArray, List.set_cons_zero, List.set_cons_succ])
    first
      | (refine wpAnyH_take (i := 2) (oi := { dst := some 129, op := _, type := _, pos := _, after := _, guard := _ }) (v := ?va89) rfl (by kernel_rfl) (by kernel_rfl) (by kernel_rfl) (fun _ _ _ h => h) (Or.inl ⟨by rfl, ?ha89⟩) HT0 ?_; (case ha89 => (intro w hSw; obtain ⟨x0, x1, x2, x3, x4, x5⟩ := KS.out w hSw; clear hSw; go_simp; try with_reducible rfl)); try simp only [Act.put, List.setIfInBounds_toArray, List.set_cons_zero, List.set_cons_succ])
      | (refine wpAnyH_take (i := 2) (oi := { dst := some 129, op := _, type := _, pos := _, after := _, guard := _ }) (v := undef) rfl (by kernel_rfl) (by kernel_rfl) (by kernel_rfl) (fun _ _ _ h => h) (Or.inr ⟨by rfl, rfl⟩) HT0 ?_; try simp only [Act.put, List.setIfInBounds_toArray, List.set_cons_zero, List.set_cons_succ])
    first
      | (refine wpAnyH_take (i := 3) (oi := { dst := some 130, op := _, type := _, pos := _, after := _, guard := _ }) (v := ?va90) rfl (by kernel_rfl) (by kernel_rfl) (by kernel_rfl) (fun _ _ _ h => h) (Or.inl ⟨by rfl, ?ha90⟩) HT0 ?_; (case ha90 => (intro w hSw; obtain ⟨x0, x1, x2, x3, x4, x5⟩ := KS.out w hSw; clear hSw; go_simp; try with_reducible rfl)); try simp only [Act.put, List.setIfInBounds_toArray, List.set_cons_zero, List.set_cons_succ])
      | (refine wpAnyH_take (i := 3) (oi := { dst := some 130, op := _, type := _, pos := _, after := _, guard := _ }) (v := undef) rfl (by kernel_rfl) (by kernel_rfl) (by kernel_rfl) (fun _ _ _ h => h) (Or.inr ⟨by rfl, rfl⟩) HT0 ?_; try simp only [Act.put, List.setIfInBounds_toArray, List.set_cons_zero, List.set_cons_succ])
    first
      | (refine wpAnyH_take (i := 4) (oi := { dst := some 131, op := _, type := _, pos := _, after := _, guard := _ }) (v := ?va91) rfl (by kernel_rfl) (by kernel_rfl) (by kernel_rfl) (fun _ _ _ h => h) (Or.inl ⟨by rfl, ?ha91⟩) HT0 ?_; (case ha91 => (intro w hSw; obtain ⟨x0, x1, x2, x3, x4, x5⟩ := KS.out w hSw; clear hSw; go_simp; try with_reducible rfl)); try simp only [Act.put, List.setIfInBounds_toArray, List.set_cons_zero, List.set_cons_succ])
      | (refine wpAnyH_take (i := 4) (oi := { dst := some 131, op := _, type := _, pos := _, after := _, guard := _ }) (v := undef) rfl (by kernel_rfl) (by kernel_rfl) (by kernel_rfl) (fun _ _ _ h => h) (Or.inr ⟨by rfl, rfl⟩) HT0 ?_; try simp only [Act.put, List.setIfInBounds_toArray, List.set_cons_zero, List.set_cons_succ])
    first
      | (refine wpAnyH_take (i := 5) (oi := { dst := some 132, op := _, type := _, pos := _, after := _, guard := _ }) (v := ?va92) rfl (by kernel_rfl) (by kernel_rfl) (by kernel_rfl) (fun _ _ _ h => h) (Or.inl ⟨by rfl, ?ha92⟩) HT0 ?_; (case ha92 => (intro w hSw; obtain ⟨x0, x1, x2, x3, x4, x5⟩ := KS.out w hSw; clear hSw; go_simp; try with_reducible rfl)); try simp only [Act.put, List.setIfInBounds_toArray, List.set_cons_zero, List.set_cons_succ])
      | (refine wpAnyH_take (i := 5) (oi := { dst := some 132, op := _, type := _, pos := _, after := _, guard := _ }) (v := undef) rfl (by kernel_rfl) (by kernel_rfl) (by kernel_rfl) (fun _ _ _ h => h) (Or.inr ⟨by rfl, rfl⟩) HT0 ?_; try simp only [Act.put, List.setIfInBounds_toArray, List.set_cons_zero, List.set_cons_succ])
    first
      | (refine wpAnyH_take (i := 6) (oi := { dst := some 133, op := _, type := _, pos := _, after := _, guard := _ }) (v := ?va93) rfl (by kernel_rfl) (by kernel_rfl) (by kernel_rfl) (fun _ _ _ h => h) (Or.inl ⟨by rfl, ?ha93⟩) HT0 ?_; (case ha93 => (intro w hSw; obtain ⟨x0, x1, x2, x3, x4, x5⟩ := KS.out w hSw; clear hSw; go_simp; try with_reducible rfl)); try simp only [Act.put, List.setIfInBounds_toArray, List.set_cons_zero, List.set_cons_succ])
      | (refine wpAnyH_take (i := 6) (oi := { dst := some 133, op := _, type := _, pos := _, after := _, guard := _ }) (v := undef) rfl (by kernel_rfl) (by kernel_rfl) (by kernel_rfl) (fun _ _ _ h => h) (Or.inr ⟨by rfl, rfl⟩) HT0 ?_; try simp only [Act.put, List.setIfInBounds_toArray, List.set_cons_zero, List.set_cons_succ])
    refine wpAnyH_ready (rs := [7]) (by kernel_rfl) (by simp) ?_
    refine AllReadyH.cons (o := { dst := some 134, op := _, type := _, pos := _, after := _, guard := _ }) rfl (fun K hK => ?_) AllReadyH.nil
    go_simp
    (go_at_call 20; (with_reducible refine (HIN.out _ _ _ _ _ (rRz.step HT0) (r10.step HT0)).mono ?_); rintro e wk1 ⟨rfl, hk1⟩)
    have HT1 := bstep HT0 hk1
    refine hK.out _ _ HT1 (fun _ => ?_)
    clear hK K
    try simp only [Act.put, List.setIfInBounds_toArray, List.set_cons_zero, List.set_cons_succ]
    first
      | (refine wpAnyH_take (i := 8) (oi := { dst := some 135, op := _, type := _, pos := _, after := _, guard := _ }) (v := ?va94) rfl (by kernel_rfl) (by kernel_rfl) (by kernel_rfl) (fun _ _ _ h => h) (Or.inl ⟨by rfl, ?ha94⟩) HT1 ?_; (case ha94 => (intro w hSw; obtain ⟨x0, x1, x2, x3, x4, x5⟩ := KS.out w hSw; clear hSw; go_simp; try with_reducible rfl)); try simp only [Act.put, List.setIfInBounds_toArray, List.set_cons_zero, List.set_cons_succ])
      | (refine wpAnyH_take (i := 8) (oi := { dst := some 135, op := _, type := _, pos := _, after := _, guard := _ }) (v := undef) rfl (by kernel_rfl) (by kernel_rfl) (by kernel_rfl) (fun _ _ _ h => h) (Or.inr ⟨by rfl, rfl⟩) HT1 ?_; try simp only [Act.put, List.setIfInBounds_toArray, List.set_cons_zero, List.set_cons_succ])
    first
      | (refine wpAnyH_take (i := 9) (oi := { dst := some 136, op := _, type := _, pos := _, after := _, guard := _ }) (v := ?va95) rfl (by kernel_rfl) (by kernel_rfl) (by kernel_rfl) (fun _ _ _ h => h) (Or.inl ⟨by rfl, ?ha95⟩) HT1 ?_; (case ha95 => (intro w hSw; obtain ⟨x0, x1, x2, x3, x4, x5⟩ := KS.out w hSw; clear hSw; go_simp; try with_reducible rfl)); try simp only [Act.put, List.setIfInBounds_toArray, List.set_cons_zero, List.set_cons_succ])
      | (refine wpAnyH_take (i := 9) (oi := { dst := some 136, op := _, type := _, pos := _, after := _, guard := _ }) (v := undef) rfl (by kernel_rfl) (by kernel_rfl) (by kernel_rfl) (fun _ _ _ h => h) (Or.inr ⟨by rfl, rfl⟩) HT1 ?_; try simp only [Act.put, List.setIfInBounds_toArray, List.set_cons_zero, List.set_cons_succ])
    first
      | (refine wpAnyH_take (i := 10) (oi := { dst := some 137, op := _, type := _, pos := _, after := _, guard := _ }) (v := ?va96) rfl (by kernel_rfl) (by kernel_rfl) (by kernel_rfl) (fun _ _ _ h => h) (Or.inl ⟨by rfl, ?ha96⟩) HT1 ?_; (case ha96 => (intro w hSw; obtain ⟨x0, x1, x2, x3, x4, x5⟩ := KS.out w hSw; clear hSw; go_simp; try with_reducible rfl)); try simp only [Act.put, List.setIfInBounds_toArray, List.set_cons_zero, List.set_cons_succ])
      | (refine wpAnyH_take (i := 10) (oi := { dst := some 137, op := _, type := _, pos := _, after := _, guard := _ }) (v := undef) rfl (by kernel_rfl) (by kernel_rfl) (by kernel_rfl) (fun _ _ _ h => h) (Or.inr ⟨by rfl, rfl⟩) HT1 ?_; try simp only [Act.put, List.setIfInBounds_toArray, List.set_cons_zero, List.set_cons_succ])
    first
      | (refine wpAnyH_take (i := 11) (oi := { dst := some 138, op := _, type := _, pos := _, after := _, guard := _ }) (v := ?va97) rfl (by kernel_rfl) (by kernel_rfl) (by kernel_rfl) (fun _ _ _ h => h) (Or.inl ⟨by rfl, ?ha97⟩) HT1 ?_; (case ha97 => (intro w hSw; obtain ⟨x0, x1, x2, x3, x4, x5⟩ := KS.out w hSw; clear hSw; go_simp; try with_reducible rfl)); try simp only [Act.put, List.setIfInBounds_toArray, List.set_cons_zero, List.set_cons_succ])
      | (refine wpAnyH_take (i := 11) (oi := { dst := some 138, op := _, type := _, pos := _, after := _, guard := _ }) (v := undef) rfl (by kernel_rfl) (by kernel_rfl) (by kernel_rfl) (fun _ _ _ h => h) (Or.inr ⟨by rfl, rfl⟩) HT1 ?_; try simp only [Act.put, List.setIfInBounds_toArray, List.set_cons_zero, List.set_cons_succ])
    first
      | (refine wpAnyH_take (i := 12) (oi := { dst := some 139, op := _, type := _, pos := _, after := _, guard := _ }) (v := ?va98) rfl (by kernel_rfl) (by kernel_rfl) (by kernel_rfl) (fun _ _ _ h => h) (Or.inl ⟨by rfl, ?ha98⟩) HT1 ?_; (case ha98 => (intro w hSw; obtain ⟨x0, x1, x2, x3, x4, x5⟩ := KS.out w hSw; clear hSw; go_simp; try with_reducible rfl)); try simp only [Act.put, List.setIfInBounds_toArray, List.set_cons_zero, List.set_cons_succ])
      | (refine wpAnyH_take (i := 12) (oi := { dst := some 139, op := _, type := _, pos := _, after := _, guard := _ }) (v := undef) rfl (by kernel_rfl) (by kernel_rfl) (by kernel_rfl) (fun _ _ _ h => h) (Or.inr ⟨by rfl, rfl⟩) HT1 ?_; try simp only [Act.put, List.setIfInBounds_toArray, List.set_cons_zero, List.set_cons_succ])
    first
      | (refine wpAnyH_take (i := 13) (oi := { dst := some 140, op := _, type := _, pos := _, after := _, guard := _ }) (v := ?va99) rfl (by kernel_rfl) (by kernel_rfl) (by kernel_rfl) (fun _ _ _ h => h) (Or.inl ⟨by rfl, ?ha99⟩) HT1 ?_; (case ha99 => (intro w hSw; obtain ⟨x0, x1, x2, x3, x4, x5⟩ := KS.out w hSw; clear hSw; go_simp; try with_reducible rfl)); try simp only [Act.put, List.setIfInBounds_toArray, List.set_cons_zero, List.set_cons_succ])
      | (refine wpAnyH_take (i := 13) (oi := { dst := some 140, op := _, type := _, pos := _, after := _, guard := _ }) (v := undef) rfl (by kernel_rfl) (by kernel_rfl) (by kernel_rfl) (fun _ _ _ h => h) (Or.inr ⟨by rfl, rfl⟩) HT1 ?_; try simp only [Act.put, List.setIfInBounds_toArray, List.set_cons_zero, List.set_cons_succ])
    first
      | (refine wpAnyH_take (i := 14) (oi := { dst := some 141, op := _, type := _, pos := _, after := _, guard := _ }) (v := ?va100) rfl (by kernel_rfl) (by kernel_rfl) (by kernel_rfl) (fun _ _ _ h => h) (Or.inl ⟨by rfl, ?ha100⟩) HT1 ?_; (case ha100 => (intro w hSw; obtain ⟨x0, x1, x2, x3, x4, x5⟩ := KS.out w hSw; clear hSw; go_simp; try with_reducible rfl)); try simp only [Act.put, List.setIfInBounds_toArray, List.set_cons_zero, List.set_cons_succ])
      | (refine wpAnyH_take (i := 14) (oi := { dst := some 141, op := _, type := _, pos := _, after := _, guard := _ }) (v := undef) rfl (by kernel_rfl) (by kernel_rfl) (by kernel_rfl) (fun _ _ _ h => h) (Or.inr ⟨by rfl, rfl⟩) HT1 ?_; try simp only [Act.put, List.setIfInBounds_toArray, List.set_cons_zero, List.set_cons_succ])
    first
      | (refine wpAnyH_take (i := 15) (oi := { dst := some 142, op := _, type := _, pos := _, after := _, guard := _ }) (v := ?va101) rfl (by kernel_rfl) (by kernel_rfl) (by kernel_rfl) (fun _ _ _ h => h) (Or.inl ⟨by rfl, ?ha101⟩) HT1 ?_; (case ha101 => (intro w hSw; obtain ⟨x0, x1, x2, x3, x4, x5⟩ := KS.out w hSw; clear hSw; go_simp; try with_reducible rfl)); try simp only [Act.put, List.setIfInBounds_toArray, List.set_cons_zero, List.set_cons_succ])
      | (refine wpAnyH_take (i := 15) (oi := { dst := some 142, op := _, type := _, pos := _, after := _, guard := _ }) (v := undef) rfl (by kernel_rfl) (by kernel_rfl) (by kernel_rfl) (fun _ _ _ h => h) (Or.inr ⟨by rfl, rfl⟩) HT1 ?_; try simp only [Act.put, List.setIfInBounds_toArray, List.set_cons_zero, List.set_cons_succ])
    first
      | (refine wpAnyH_take (i := 16) (oi := { dst := some 143, op := _, type := _, pos := _, after := _, guard := _ }) (v := ?va102) rfl (by kernel_rfl) (by kernel_rfl) (by kernel_rfl) (fun _ _ _ h => h) (Or.inl ⟨by rfl, ?ha102⟩) HT1 ?_; (case ha102 => (intro w hSw; obtain ⟨x0, x1, x2, x3, x4, x5⟩ := KS.out w hSw; clear hSw; go_simp; try with_reducible rfl)); try simp only [Act.put, List.setIfInBounds_toArray, List.set_cons_zero, List.set_cons_succ])
      | (refine wpAnyH_take (i := 16) (oi := { dst := some 143, op := _, type := _, pos := _, after := _, guard := _ }) (v := undef) rfl (by kernel_rfl) (by kernel_rfl) (by kernel_rfl) (fun _ _ _ h => h) (Or.inr ⟨by rfl, rfl⟩) HT1 ?_; try simp only [Act.put, List.setIfInBounds_toArray, List.set_cons_zero, List.set_cons_succ])
    first
      | (refine wpAnyH_take (i := 17) (oi := { dst := some 144, op := _, type := _, pos := _, after := _, guard := _ }) (v := ?va103) rfl (by kernel_rfl) (by kernel_rfl) (by kernel_rfl) (fun _ _ _ h => h) (Or.inl ⟨by rfl, ?ha103⟩) HT1 ?_; (case ha103 => (intro w hSw; obtain ⟨x0, x1, x2, x3, x4, x5⟩ := KS.out w hSw; clear hSw; go_simp; try with_reducible rfl)); try simp only [Act.put, List.setIfInBounds_toArray, List.set_cons_zero, List.set_cons_succ])
      | (refine wpAnyH_take (i := 17) (oi := { dst := some 144, op := _, type := _, pos := _, after := _, guard := _ }) (v := undef) rfl (by kernel_rfl) (by kernel_rfl) (by kernel_rfl) (fun _ _ _ h => h) (Or.inr ⟨by rfl, rfl⟩) HT1 ?_; try simp only [Act.put, List.setIfInBounds_toArray, List.set_cons_zero, List.set_cons_succ])
    first
      | (refine wpAnyH_take (i := 18) (oi := { dst := some 145, op := _, type := _, pos := _, after := _, guard := _ }) (v := ?va104) rfl (by kernel_rfl) (by kernel_rfl) (by kernel_rfl) (fun _ _ _ h => h) (Or.inl ⟨by rfl, ?ha104⟩) HT1 ?_; (case ha104 => (intro w hSw; obtain ⟨x0, x1, x2, x3, x4, x5⟩ := KS.out w hSw; clear hSw; go_simp; try with_reducible rfl)); try simp only [Act.put, List.setIfInBounds_toArray, List.set_cons_zero, List.set_cons_succ])
      | (refine wpAnyH_take (i := 18) (oi := { dst := some 145, op := _, type := _, pos := _, after := _, guard := _ }) (v := undef) rfl (by kernel_rfl) (by kernel_rfl) (by kernel_rfl) (fun _ _ _ h => h) (Or.inr ⟨by rfl, rfl⟩) HT1 ?_; try simp only [Act.put, List.setIfInBounds_toArray, List.set_cons_zero, List.set_cons_succ])
    first
      | (refine wpAnyH_take (i := 19) (oi := { dst := some 146, op := _, type := _, pos := _, after := _, guard := _ }) (v := ?va105) rfl (by kernel_rfl) (by kernel_rfl) (by kernel_rfl) (fun _ _ _ h => h) (Or.inl ⟨by rfl, ?ha105⟩) HT1 ?_; (case ha105 => (intro w hSw; obtain ⟨x0, x1, x2, x3, x4, x5⟩ := KS.out w hSw; clear hSw; go_simp; try with_reducible rfl)); try simp only [Act.put, List.setIfInBounds_toArray, List.set_cons_zero, List.set_cons_succ])
      | (refine wpAnyH_take (i := 19) (oi := { dst := some 146, op := _, type := _, pos := _, after := _, guard := _ }) (v := undef) rfl (by kernel_rfl) (by kernel_rfl) (by kernel_rfl) (fun _ _ _ h => h) (Or.inr ⟨by rfl, rfl⟩) HT1 ?_; try simp only [Act.put, List.setIfInBounds_toArray, List.set_cons_zero, List.set_cons_succ])
    first
      | (refine wpAnyH_take (i := 20) (oi := { dst := some 147, op := _, type := _, pos := _, after := _, guard := _ }) (v := ?va106) rfl (by kernel_rfl) (by kernel_rfl) (by kernel_rfl) (fun _ _ _ h => h) (Or.inl ⟨by rfl, ?ha106⟩) HT1 ?_; (case ha106 => (intro w hSw; obtain ⟨x0, x1, x2, x3, x4, x5⟩ := KS.out w hSw; clear hSw; go_simp; try with_reducible rfl)); try simp only [Act.put, List.setIfInBounds_toArray, List.set_cons_zero, List.set_cons_succ])
      | (refine wpAnyH_take (i := 20) (oi := { dst := some 147, op := _, type := _, pos := _, after := _, guard := _ }) (v := undef) rfl (by kernel_rfl) (by kernel_rfl) (by kernel_rfl) (fun _ _ _ h => h) (Or.inr ⟨by rfl, rfl⟩) HT1 ?_; try simp only [Act.put, List.setIfInBounds_toArray, List.set_cons_zero, List.set_cons_succ])
    first
      | (refine wpAnyH_take (i := 21) (oi := { dst := some 148, op := _, type := _, pos := _, after := _, guard := _ }) (v := ?va107) rfl (by kernel_rfl) (by kernel_rfl) (by kernel_rfl) (fun _ _ _ h => h) (Or.inl ⟨by rfl, ?ha107⟩) HT1 ?_; (case ha107 => (intro w hSw; obtain ⟨x0, x1, x2, x3, x4, x5⟩ := KS.out w hSw; clear hSw; go_simp; try with_reducible rfl)); try simp only [Act.put, List.setIfInBounds_toArray, List.set_cons_zero, List.set_cons_succ])
      | (refine wpAnyH_take (i := 21) (oi := { dst := some 148, op := _, type := _, pos := _, after := _, guard := _ }) (v := undef) rfl (by kernel_rfl) (by kernel_rfl) (by kernel_rfl) (fun _ _ _ h => h) (Or.inr ⟨by rfl, rfl⟩) HT1 ?_; try simp only [Act.put, List.setIfInBounds_toArray, List.set_cons_zero, List.set_cons_succ])
    first
      | (refine wpAnyH_take (i := 22) (oi := { dst := some 149, op := _, type := _, pos := _, after := _, guard := _ }) (v := ?va108) rfl (by kernel_rfl) (by kernel_rfl) (by kernel_rfl) (fun _ _ _ h => h) (Or.inl ⟨by rfl, ?ha108⟩) HT1 ?_; (case ha108 => (intro w hSw; obtain ⟨x0, x1, x2, x3, x4, x5⟩ := KS.out w hSw; clear hSw; go_simp; try with_reducible rfl)); try simp only [Act.put, List.setIfInBounds_toArray, List.set_cons_zero, List.set_cons_succ])
      | (refine wpAnyH_take (i := 22) (oi := { dst := some 149, op := _, type := _, pos := _, after := _, guard := _ }) (v := undef) rfl (by kernel_rfl) (by kernel_rfl) (by kernel_rfl) (fun _ _ _ h => h) (Or.inr ⟨by rfl, rfl⟩) HT1 ?_; try simp only [Act.put, List.setIfInBounds_toArray, List.set_cons_zero, List.set_cons_succ])
    first
      | (refine wpAnyH_take (i := 23) (oi := { dst := some 150, op := _, type := _, pos := _, after := _, guard := _ }) (v := ?va109) rfl (by kernel_rfl) (by kernel_rfl) (by kernel_rfl) (fun _ _ _ h => h) (Or.inl ⟨by rfl, ?ha109⟩) HT1 ?_; (case ha109 => (intro w hSw; obtain ⟨x0, x1, x2, x3, x4, x5⟩ := KS.out w hSw; clear hSw; go_simp; try with_reducible rfl)); try simp only [Act.put, List.setIfInBounds_toArray, List.set_cons_zero, List.set_cons_succ])
      | (refine wpAnyH_take (i := 23) (oi := { dst := some 150, op := _, type := _, pos := _, after := _, guard := _ }) (v := undef) rfl (by kernel_rfl) (by kernel_rfl) (by kernel_rfl) (fun _ _ _ h => h) (Or.inr ⟨by rfl, rfl⟩) HT1 ?_; try simp only [Act.put, List.setIfInBounds_toArray, List.set_cons_zero, List.set_cons_succ])
    first
      | (refine wpAnyH_take (i := 24) (oi := { dst := some 151, op := _, type := _, pos := _, after := _, guard := _ }) (v := ?va110) rfl (by kernel_rfl) (by kernel_rfl) (by kernel_rfl) (fun _ _ _ h => h) (Or.inl ⟨by rfl, ?ha110⟩) HT1 ?_; (case ha110 => (intro w hSw; obtain ⟨x0, x1, x2, x3, x4, x5⟩ := KS.out w hSw; clear hSw; go_simp; try with_reducible rfl)); try simp only [Act.put, List.setIfInBounds_toArray, List.set_cons_zero, List.set_cons_succ])
      | (refine wpAnyH_take (i := 24) (oi := { dst := some 151, op := _, type := _, pos := _, after := _, guard := _ }) (v := undef) rfl (by kernel_rfl) (by kernel_rfl) (by kernel_rfl) (fun _ _ _ h => h) (Or.inr ⟨by rfl, rfl⟩) HT1 ?_; try simp only [Act.put, List.setIfInBounds_toArray, List.set_cons_zero, List.set_cons_succ])
    first
      | (refine wpAnyH_take (i := 25) (oi := { dst := some 152, op := _, type := _, pos := _, after := _, guard := _ }) (v := ?va111) rfl (by kernel_rfl) (by kernel_rfl) (by kernel_rfl) (fun _ _ _ h => h) (Or.inl ⟨by rfl, ?ha111⟩) HT1 ?_; (case ha111 => (intro w hSw; obtain ⟨x0, x1, x2, x3, x4, x5⟩ := KS.out w hSw; clear hSw; go_simp; try with_reducible rfl)); try simp only [Act.put, List.setIfInBounds_toArray, List.set_cons_zero, List.set_cons_succ])
      | (refine wpAnyH_take (i := 25) (oi := { dst := some 152, op := _, type := _, pos := _, after := _, guard := _ }) (v := undef) rfl (by kernel_rfl) (by kernel_rfl) (by kernel_rfl) (fun _ _ _ h => h) (Or.inr ⟨by rfl, rfl⟩) HT1 ?_; try simp only [Act.put, List.setIfInBounds_toArray, List.set_cons_zero, List.set_cons_succ])
    first
      | (refine wpAnyH_take (i := 26) (oi := { dst := some 153, op := _, type := _, pos := _, after := _, guard := _ }) (v := ?va112) rfl (by kernel_rfl) (by kernel_rfl) (by kernel_rfl) (fun _ _ _ h => h) (Or.inl ⟨by rfl, ?ha112⟩) HT1 ?_; (case ha112 => (intro w hSw; obtain ⟨x0, x1, x2, x3, x4, x5⟩ := KS.out w hSw; clear hSw; go_simp; try with_reducible rfl)); try simp only [Act.put, List.setIfInBounds_toArray, List.set_cons_zero, List.set_cons_succ])
      | (refine wpAnyH_take (i := 26) (oi := { dst := some 153, op := _, type := _, pos := _, after := _, guard := _ }) (v := undef) rfl (by kernel_rfl) (by kernel_rfl) (by kernel_rfl) (fun _ _ _ h => h) (Or.inr ⟨by rfl, rfl⟩) HT1 ?_; try simp only [Act.put, List.setIfInBounds_toArray, List.set_cons_zero, List.set_cons_succ])
    first
      | (refine wpAnyH_take (i := 27) (oi := { dst := some 154, op := _, type := _, pos := _, after := _, guard := _ }) (v := ?va113) rfl (by kernel_rfl) (by kernel_rfl) (by kernel_rfl) (fun _ _ _ h => h) (Or.inl ⟨by rfl, ?ha113⟩) HT1 ?_; (case ha113 => (intro w hSw; obtain ⟨x0, x1, x2, x3, x4, x5⟩ := KS.out w hSw; clear hSw; go_simp; try with_reducible rfl)); try simp only [Act.put, List.setIfInBounds_toArray, List.set_cons_zero, List.set_cons_succ])
      | (refine wpAnyH_take (i := 27) (oi := { dst := some 154, op := _, type := _, pos := _, after := _, guard := _ }) (v := undef) rfl (by kernel_rfl) (by kernel_rfl) (by kernel_rfl) (fun _ _ _ h => h) (Or.inr ⟨by rfl, rfl⟩) HT1 ?_; try simp only [Act.put, List.setIfInBounds_toArray, List.set_cons_zero, List.set_cons_succ])
    first
      | (refine wpAnyH_take (i := 28) (oi := { dst := some 155, op := _, type := _, pos := _, after := _, guard := _ }) (v := ?va114) rfl (by kernel_rfl) (by kernel_rfl) (by kernel_rfl) (fun _ _ _ h => h) (Or.inl ⟨by rfl, ?ha114⟩) HT1 ?_; (case ha114 => (intro w hSw; obtain ⟨x0, x1, x2, x3, x4, x5⟩ := KS.out w hSw; clear hSw; go_simp; try with_reducible rfl)); try simp only [Act.put, List.setIfInBounds_toArray, List.set_cons_zero, List.set_cons_succ])
      | (refine wpAnyH_take (i := 28) (oi := { dst := some 155, op := _, type := _, pos := _, after := _, guard := _ }) (v := undef) rfl (by kernel_rfl) (by kernel_rfl) (by kernel_rfl) (fun _ _ _ h => h) (Or.inr ⟨by rfl, rfl⟩) HT1 ?_; try simp only [Act.put, List.setIfInBounds_toArray, List.set_cons_zero, List.set_cons_succ])
    first
      | (refine wpAnyH_take (i := 29) (oi := { dst := some 156, op := _, type := _, pos := _, after := _, guard := _ }) (v := ?va115) rfl (by kernel_rfl) (by kernel_rfl) (by kernel_rfl) (fun _ _ _ h => h) (Or.inl ⟨by rfl, ?ha115⟩) HT1 ?_; (case ha115 => (intro w hSw; obtain ⟨x0, x1, x2, x3, x4, x5⟩ := KS.out w hSw; clear hSw; go_simp; try with_reducible rfl)); try simp only [Act.put, List.setIfInBounds_toArray, List.set_cons_zero, List.set_cons_succ])
      | (refine wpAnyH_take (i := 29) (oi := { dst := some 156, op := _, type := _, pos := _, after := _, guard := _ }) (v := undef) rfl (by kernel_rfl) (by kernel_rfl) (by kernel_rfl) (fun _ _ _ h => h) (Or.inr ⟨by rfl, rfl⟩) HT1 ?_; try simp only [Act.put, List.setIfInBounds_toArray, List.set_cons_zero, List.set_cons_succ])
    first
      | (refine wpAnyH_take (i := 30) (oi := { dst := some 157, op := _, type := _, pos := _, after := _, guard := _ }) (v := ?va116) rfl (by kernel_rfl) (by kernel_rfl) (by kernel_rfl) (fun _ _ _ h => h) (Or.inl ⟨by rfl, ?ha116⟩) HT1 ?_; (case ha116 => (intro w hSw; obtain ⟨x0, x1, x2, x3, x4, x5⟩ := KS.out w hSw; clear hSw; go_simp; try with_reducible rfl)); try simp only [Act.put, List.setIfInBounds_toArray, List.set_cons_zero, List.set_cons_succ])
      | (refine wpAnyH_take (i := 30) (oi := { dst := some 157, op := _, type := _, pos := _, after := _, guard := _ }) (v := undef) rfl (by kernel_rfl) (by kernel_rfl) (by kernel_rfl) (fun _ _ _ h => h) (Or.inr ⟨by rfl, rfl⟩) HT1 ?_; try simp only [Act.put, List.setIfInBounds_toArray, List.set_cons_zero, List.set_cons_succ])
    first
      | (refine wpAnyH_take (i := 31) (oi := { dst := some 158, op := _, type := _, pos := _, after := _, guard := _ }) (v := ?va117) rfl (by kernel_rfl) (by kernel_rfl) (by kernel_rfl) (fun _ _ _ h => h) (Or.inl ⟨by rfl, ?ha117⟩) HT1 ?_; (case ha117 => (intro w hSw; obtain ⟨x0, x1, x2, x3, x4, x5⟩ := KS.out w hSw; clear hSw; go_simp; try with_reducible rfl)); try simp only [Act.put, List.setIfInBounds_toArray, List.set_cons_zero, List.set_cons_succ])
      | (refine wpAnyH_take (i := 31) (oi := { dst := some 158, op := _, type := _, pos := _, after := _, guard := _ }) (v := undef) rfl (by kernel_rfl) (by kernel_rfl) (by kernel_rfl) (fun _ _ _ h => h) (Or.inr ⟨by rfl, rfl⟩) HT1 ?_; try simp only [Act.put, List.setIfInBounds_toArray, List.set_cons_zero, List.set_cons_succ])
    first
      | (refine wpAnyH_take (i := 32) (oi := { dst := some 159, op := _, type := _, pos := _, after := _, guard := _ }) (v := ?va118) rfl (by kernel_rfl) (by kernel_rfl) (by kernel_rfl) (fun _ _ _ h => h) (Or.inl ⟨by rfl, ?ha118⟩) HT1 ?_; (case ha118 => (intro w hSw; obtain ⟨x0, x1, x2, x3, x4, x5⟩ := KS.out w hSw; clear hSw; go_simp; try with_reducible rfl)); try simp only [Act.put, List.setIfInBounds_toArray, List.set_cons_zero, List.set_cons_succ])
      | (refine wpAnyH_take (i := 32) (oi := { dst := some 159, op := _, type := _, pos := _, after := _, guard := _ }) (v := undef) rfl (by kernel_rfl) (by kernel_rfl) (by kernel_rfl) (fun _ _ _ h => h) (Or.inr ⟨by rfl, rfl⟩) HT1 ?_; try simp only [Act.put, List.setIfInBounds_toArray, List.set_cons_zero, List.set_cons_succ])
    first
      | (refine wpAnyH_take (i := 33) (oi := { dst := some 160, op := _, type := _, pos := _, after := _, guard := _ }) (v := ?va119) rfl (by kernel_rfl) (by kernel_rfl) (by kernel_rfl) (fun _ _ _ h => h) (Or.inl ⟨by rfl, ?ha119⟩) HT1 ?_; (case ha119 => (intro w hSw; obtain ⟨x0, x1, x2, x3, x4, x5⟩ := KS.out w hSw; clear hSw; go_simp; try with_reducible rfl)); try simp only [Act.put, List.setIfInBounds_toArray, List.set_cons_zero, List.set_cons_succ])
      | (refine wpAnyH_take (i := 33) (oi := { dst := some 160, op := _, type := _, pos := _, after := _, guard := _ }) (v := undef) rfl (by kernel_rfl) (by kernel_rfl) (by kernel_rfl) (fun _ _ _ h => h) (Or.inr ⟨by rfl, rfl⟩) HT1 ?_; try simp only [Act.put, List.setIfInBounds_toArray, List.set_cons_zero, List.set_cons_succ])
    first
      | (refine wpAnyH_take (i := 34) (oi := { dst := some 161, op := _, type := _, pos := _, after := _, guard := _ }) (v := ?va120) rfl (by kernel_rfl) (by kernel_rfl) (by kernel_rfl) (fun _ _ _ h => h) (Or.inl ⟨by rfl, ?ha120⟩) HT1 ?_; (case ha120 => (intro w hSw; obtain ⟨x0, x1, x2, x3, x4, x5⟩ := KS.out w hSw; clear hSw; go_simp; try with_reducible rfl)); try simp only [Act.put, List.setIfInBounds_toArray, List.set_cons_zero, List.set_cons_succ])
      | (refine wpAnyH_take (i := 34) (oi := { dst := some 161, op := _, type := _, pos := _, after := _, guard := _ }) (v := undef) rfl (by kernel_rfl) (by kernel_rfl) (by kernel_rfl) (fun _ _ _ h => h) (Or.inr ⟨by rfl, rfl⟩) HT1 ?_; try simp only [Act.put, List.setIfInBounds_toArray, List.set_cons_zero, List.set_cons_succ])
    first
      | (refine wpAnyH_take (i := 35) (oi := { dst := some 162, op := _, type := _, pos := _, after := _, guard := _ }) (v := ?va121) rfl (by kernel_rfl) (by kernel_rfl) (by kernel_rfl) (fun _ _ _ h => h) (Or.inl ⟨by rfl, ?ha121⟩) HT1 ?_; (case ha121 => (intro w hSw; obtain ⟨x0, x1, x2, x3, x4, x5⟩ := KS.out w hSw; clear hSw; go_simp; try with_reducible rfl)); try simp only [Act.put, List.setIfInBounds_toArray, List.set_cons_zero, List.set_cons_succ])
      | (refine wpAnyH_take (i := 35) (oi := { dst := some 162, op := _, type := _, pos := _, after := _, guard := _ }) (v := undef) rfl (by kernel_rfl) (by kernel_rfl) (by kernel_rfl) (fun _ _ _ h => h) (Or.inr ⟨by rfl, rfl⟩) HT1 ?_; try simp only [Act.put, List.setIfInBounds_toArray, List.set_cons_zero, List.set_cons_succ])
    first
      | (refine wpAnyH_take (i := 36) (oi := { dst := some 163, op := _, type := _, pos := _, after := _, guard := _ }) (v := ?va122) rfl (by kernel_rfl) (by kernel_rfl) (by kernel_rfl) (fun _ _ _ h => h) (Or.inl ⟨by rfl, ?ha122⟩) HT1 ?_; (case ha122 => (intro w hSw; obtain ⟨x0, x1, x2, x3, x4, x5⟩ := KS.out w hSw; clear hSw; go_simp; try with_reducible rfl)); try simp only [Act.put, List.setIfInBounds_toArray, List.set_cons_zero, List.set_cons_succ])
      | (refine wpAnyH_take (i := 36) (oi := { dst := some 163, op := _, type := _, pos := _, after := _, guard := _ }) (v := undef) rfl (by kernel_rfl) (by kernel_rfl) (by kernel_rfl) (fun _ _ _ h => h) (Or.inr ⟨by rfl, rfl⟩) HT1 ?_; try simp only [Act.put, List.setIfInBounds_toArray, List.set_cons_zero, List.set_cons_succ])
    first
      | (refine wpAnyH_take (i := 37) (oi := { dst := some 164, op := _, type := _, pos := _, after := _, guard := _ }) (v := ?va123) rfl (by kernel_rfl) (by kernel_rfl) (by kernel_rfl) (fun _ _ _ h => h) (Or.inl ⟨by rfl, ?ha123⟩) HT1 ?_; (case ha123 => (intro w hSw; obtain ⟨x0, x1, x2, x3, x4, x5⟩ := KS.out w hSw; clear hSw; go_simp; try with_reducible rfl)); try simp only [Act.put, List.setIfInBounds_toArray, List.set_cons_zero, List.set_cons_succ])
      | (refine wpAnyH_take (i := 37) (oi := { dst := some 164, op := _, type := _, pos := _, after := _, guard := _ }) (v := undef) rfl (by kernel_rfl) (by kernel_rfl) (by kernel_rfl) (fun _ _ _ h => h) (Or.inr ⟨by rfl, rfl⟩) HT1 ?_; try simp only [Act.put, List.setIfInBounds_toArray, List.set_cons_zero, List.set_cons_succ])
    first
      | (refine wpAnyH_take (i := 38) (oi := { dst := some 165, op := _, type := _, pos := _, after := _, guard := _ }) (v := ?va124) rfl (by kernel_rfl) (by kernel_rfl) (by kernel_rfl) (fun _ _ _ h => h) (Or.inl ⟨by rfl, ?ha124⟩) HT1 ?_; (case ha124 => (intro w hSw; obtain ⟨x0, x1, x2, x3, x4, x5⟩ := KS.out w hSw; clear hSw; go_simp; try with_reducible rfl)); try simp only [Act.put, List.setIfInBounds_toArray, List.set_cons_zero, List.set_cons_succ])
      | (refine wpAnyH_take (i := 38) (oi := { dst := some 165, op := _, type := _, pos := _, after := _, guard := _ }) (v := undef) rfl (by kernel_rfl) (by kernel_rfl) (by kernel_rfl) (fun _ _ _ h => h) (Or.inr ⟨by rfl, rfl⟩) HT1 ?_; try simp only [Act.put, List.setIfInBounds_toArray, List.set_cons_zero, List.set_cons_succ])
    first
      | (refine wpAnyH_take (i := 39) (oi := { dst := some 166, op := _, type := _, pos := _, after := _, guard := _ }) (v := ?va125) rfl (by kernel_rfl) (by kernel_rfl) (by kernel_rfl) (fun _ _ _ h => h) (Or.inl ⟨by rfl, ?ha125⟩) HT1 ?_; (case ha125 => (intro w hSw; obtain ⟨x0, x1, x2, x3, x4, x5⟩ := KS.out w hSw; clear hSw; go_simp; try with_reducible rfl)); try simp only [Act.put, List.setIfInBounds_toArray, List.set_cons_zero, List.set_cons_succ])
      | (refine wpAnyH_take (i := 39) (oi := { dst := some 166, op := _, type := _, pos := _, after := _, guard := _ }) (v := undef) rfl (by kernel_rfl) (by kernel_rfl) (by kernel_rfl) (fun _ _ _ h => h) (Or.inr ⟨by rfl, rfl⟩) HT1 ?_; try simp only [Act.put, List.setIfInBounds_toArray, List.set_cons_zero, List.set_cons_succ])
    first
      | (refine wpAnyH_take (i := 40) (oi := { dst := some 167, op := _, type := _, pos := _, after := _, guard := _ }) (v := ?va126) rfl (by kernel_rfl) (by kernel_rfl) (by kernel_rfl) (fun _ _ _ h => h) (Or.inl ⟨by rfl, ?ha126⟩) HT1 ?_; (case ha126 => (intro w hSw; obtain ⟨x0, x1, x2, x3, x4, x5⟩ := KS.out w hSw; clear hSw; go_simp; try with_reducible rfl)); try simp only [Act.put, List.setIfInBounds_toArray, List.set_cons_zero, List.set_cons_succ])
      | (refine wpAnyH_take (i := 40) (oi := { dst := some 167, op := _, type := _, pos := _, after := _, guard := _ }) (v := undef) rfl (by kernel_rfl) (by kernel_rfl) (by kernel_rfl) (fun _ _ _ h => h) (Or.inr ⟨by rfl, rfl⟩) HT1 ?_; try simp only [Act.put, List.setIfInBounds_toArray, List.set_cons_zero, List.set_cons_succ])
    first
      | (refine wpAnyH_take (i := 41) (oi := { dst := some 168, op := _, type := _, pos := _, after := _, guard := _ }) (v := ?va127) rfl (by kernel_rfl) (by kernel_rfl) (by kernel_rfl) (fun _ _ _ h => h) (Or.inl ⟨by rfl, ?ha127⟩) HT1 ?_; (case ha127 => (intro w hSw; obtain ⟨x0, x1, x2, x3, x4, x5⟩ := KS.out w hSw; clear hSw; go_simp; try with_reducible rfl)); try simp only [Act.put, List.setIfInBounds_toArray, List.set_cons_zero, List.set_cons_succ])
      | (refine wpAnyH_take (i := 41) (oi := { dst := some 168, op := _, type := _, pos := _, after := _, guard := _ }) (v := undef) rfl (by kernel_rfl) (by kernel_rfl) (by kernel_rfl) (fun _ _ _ h => h) (Or.inr ⟨by rfl, rfl⟩) HT1 ?_; try simp only [Act.put, List.setIfInBounds_toArray, List.set_cons_zero, List.set_cons_succ])
    first
      | (refine wpAnyH_take (i := 42) (oi := { dst := some 169, op := _, type := _, pos := _, after := _, guard := _ }) (v := ?va128) rfl (by kernel_rfl) (by kernel_rfl) (by kernel_rfl) (fun _ _ _ h => h) (Or.inl ⟨by rfl, ?ha128⟩) HT1 ?_; (case ha128 => (intro w hSw; obtain ⟨x0, x1, x2, x3, x4, x5⟩ := KS.out w hSw; clear hSw; go_simp; try with_reducible rfl)); try simp only [Act.put, List.setIfInBounds_toArray, List.set_cons_zero, List.set_cons_succ])
      | (refine wpAnyH_take (i := 42) (oi := { dst := some 169, op := _, type := _, pos := _, after := _, guard := _ }) (v := undef) rfl (by kernel_rfl) (by kernel_rfl) (by kernel_rfl) (fun _ _ _ h => h) (Or.inr ⟨by rfl, rfl⟩) HT1 ?_; try simp only [Act.put, List.setIfInBounds_toArray, List.set_cons_zero, List.set_cons_succ])
    first
      | (refine wpAnyH_take (i := 43) (oi := { dst := some 170, op := _, type := _, pos := _, after := _, guard := _ }) (v := ?va129) rfl (by kernel_rfl) (by kernel_rfl) (by kernel_rfl) (fun _ _ _ h => h) (Or.inl ⟨by rfl, ?ha129⟩) HT1 ?_; (case ha129 => (intro w hSw; obtain ⟨x0, x1, x2, x3, x4, x5⟩ := KS.out w hSw; clear hSw; go_simp; try with_reducible rfl)); try simp only [Act.put, List.setIfInBounds_toArray, List.set_cons_zero, List.set_cons_succ])
      | (refine wpAnyH_take (i := 43) (oi := { dst := some 170, op := _, type := _, pos := _, after := _, guard := _ }) (v := undef) rfl (by kernel_rfl) (by kernel_rfl) (by kernel_rfl) (fun _ _ _ h => h) (Or.inr ⟨by rfl, rfl⟩) HT1 ?_; try simp only [Act.put, List.setIfInBounds_toArray, List.set_cons_zero, List.set_cons_succ])
    first
      | (refine wpAnyH_take (i := 44) (oi := { dst := some 171, op := _, type := _, pos := _, after := _, guard := _ }) (v := ?va130) rfl (by kernel_rfl) (by kernel_rfl) (by kernel_rfl) (fun _ _ _ h => h) (Or.inl ⟨by rfl, ?ha130⟩) HT1 ?_; (case ha130 => (intro w hSw; obtain ⟨x0, x1, x2, x3, x4, x5⟩ := KS.out w hSw; clear hSw; go_simp; try with_reducible rfl)); try simp only [Act.put, List.setIfInBounds_toArray, List.set_cons_zero, List.set_cons_succ])
      | (refine wpAnyH_take (i := 44) (oi := { dst := some 171, op := _, type := _, pos := _, after := _, guard := _ }) (v := undef) rfl (by kernel_rfl) (by kernel_rfl) (by kernel_rfl) (fun _ _ _ h => h) (Or.inr ⟨by rfl, rfl⟩) HT1 ?_; try simp only [Act.put, List.setIfInBounds_toArray, List.set_cons_zero, List.set_cons_succ])
    refine wpAnyH_done (by kernel_rfl) ?_ _
    replace hb := bstep hb HT1
    replace S0 := S0.step HT1
    replace S8 := S8.step HT1
    replace Bk0 := (HT1.block v0 lt0).trans Bk0
    replace lt0 := Nat.lt_of_lt_of_le lt0 HT1.size
    replace Bk8 := (HT1.block v8 lt8).trans Bk8
    replace lt8 := Nat.lt_of_lt_of_le lt8 HT1.size
    clear HT1 HT0 hk1 KS z0 z1 z6 y0 m0_0 m0_1 m0_2 m0_3 m0_4 m8_0 m8_1 m8_2 m8_3 m8_4 r10 rRz
    go_upto_region 17 with (fail)
    generalize wk1 = wA at *
    obtain ⟨p, hp⟩ : ∃ p : Nat, 1 + (q : Int) = (p : Int) := ⟨q + 1, by omega⟩
    rw [hp]
    have hp1 : 1 ≤ p := by omega
    have hp2 : p < s0.M.G.length := by omega
    have pl : (p : Int) < (s0.M.G.length : Int) := by omega
    have pl0 : (0 : Int) ≤ (p : Int) := by omega
    have HTT := turn_two (m := s0.M) hp1 hp2
    rw [← hp] at HTT
    have hMe : s3.M = mTurn s0.M (1 + (q : Int)) 2 := by rw [HY.out]
    rw [← hMe] at HTT
    clear hMe
    obtain ⟨gG, oG, eG, hbG, hatG⟩ := S0.G (by omega)
    obtain ⟨gH, oH, eH, hbH, hatH⟩ := S8.G (by rw [E3.out.2.1]; omega)
    subst eG eH
    have cS : wA.cell? ⟨gG, oG + p, none⟩ = some (.int .i64 (s0.M.G.getD p 0)) := hatG p _ (by rw [List.getD_eq_getElem?_getD, List.getElem?_eq_getElem hp2]; rfl)
    have cT : wA.cell? ⟨gH, oH + p, none⟩ = some (.int .i64 (s3.M.G.getD p 0)) := hatH p _ (by rw [List.getD_eq_getElem?_getD, List.getElem?_eq_getElem (show p < s3.M.G.length by rw [E3.out.2.1]; exact hp2)]; rfl)
    clear hatG hatH
    obtain ⟨-, m0_1⟩ := cells2 Bk0
    obtain ⟨-, m8_1, m8_2⟩ := cells3 Bk8
    obtain ⟨m0_0, -, m0_2, m0_3, m0_4⟩ := cells5 Bk0
    obtain ⟨m8_0, -, -, m8_3, m8_4⟩ := cells5 Bk8
    obtain ⟨nr, hnr⟩ : ∃ n, n = (pRetired s0).length := ⟨_, rfl⟩
    have hnr2 : nr ≤ 9 * 210 := by rw [hnr]; exact pRetired_le (by omega) HRB.out
    have hnr3 : (pRetired s3).length = nr + 1 := by rw [hnr, HY.out]; exact retired_more HX.out HYR.out
    have HR1 := hid (show ∀ (w : World), RS w s3 A8 (some ⟨gH, oH, none⟩) (some ⟨gD, oD, none⟩) L8 → Calls Try.prog 11 #[.agg #[.slice A8 s0.M.W.length a8, .slice (some ⟨gH, oH, none⟩) s0.M.G.length b8, .bool s3.M.bad, .slice (some ⟨gD, oD, none⟩) s0.C.length c8, .slice L8 s0.L.length d8]] w fun e w' => ∃ (A' : Option Addr) (c' : Nat), e = .returned (.slice A' (nr + 1) c') ∧ Below w.heap.size w w' from fun w k1 => by have h9 := retired_any A8 (some ⟨gH, oH, none⟩) (some ⟨gD, oD, none⟩) L8 a8 b8 c8 d8 s3 w k1.C (by rw [E3.out.2.2.1]; omega) (by omega); rw [E3.out.1, E3.out.2.1, E3.out.2.2.1, E3.out.2.2.2] at h9; exact h9.mono (fun e w' ⟨A', c', h1, _, h2⟩ => ⟨A', c', by rw [← hnr3]; exact h1, h2⟩))
    have HR2 := hid (show ∀ (w : World), RS w s0 A0 (some ⟨gG, oG, none⟩) (some ⟨gC, oC, none⟩) L0 → Calls Try.prog 21 #[.agg #[.slice A0 s0.M.W.length a0, .slice (some ⟨gG, oG, none⟩) s0.M.G.length b0, .bool s0.M.bad, .slice (some ⟨gC, oC, none⟩) s0.C.length c0, .slice L0 s0.L.length d0]] w fun e w' => ∃ (A' : Option Addr) (c' : Nat), e = .returned (.slice A' nr c') ∧ Below w.heap.size w w' from fun w k1 => by have h9 := rretired_any A0 (some ⟨gG, oG, none⟩) (some ⟨gC, oC, none⟩) L0 a0 b0 c0 d0 s0 w k1.C (by omega) (by omega); exact h9.mono (fun e w' ⟨A', c', h1, _, h2⟩ => ⟨A', c', by rw [hnr]; exact h1, h2⟩))
    have nrl : (nr : Int) ≤ 2000 := by omega
    have nr0 : (0 : Int) ≤ (nr : Int) := by omega
    have hnw : IntKind.i64.wrap ((nr : Int) + 1) = (nr : Int) + 1 := IntWalk.i64_in _ (by omega)
    clear hnr hnr2 hnr3
    have hcase : s0.M.G.getD p 0 = 1 ∧ s3.M.bad = false := by
      have h9 := HGC.out
      rw [show q + 1 = p by omega] at h9
      rw [HY.out]
      exact h9
    obtain ⟨h1, h2⟩ := hcase
    have HBD := hid h2
    have hbd : s3.M.bad = false := h2
    rw [HTT.1 h1] at cT
    rw [h1] at cS
    clear h1 h2 HTT hbd
    obtain ⟨bd, hbq⟩ : ∃ b, b = s3.M.bad := ⟨_, rfl⟩
    rw [← hbq] at m8_2 HR1
    have hbv : bd = false := hbq.trans HBD.out
    clear hbq HBD
    subst hbv
    have KS := hid (show ∀ w', Below wA.heap.size wA w' → (w'.cell? ⟨v0, 0, none⟩ = some (.slice A0 s0.M.W.length a0) ∧ w'.cell? ⟨v0, 1, none⟩ = some (.slice (some ⟨gG, oG, none⟩) s0.M.G.length b0) ∧ w'.cell? ⟨v0, 2, none⟩ = some (.bool s0.M.bad) ∧ w'.cell? ⟨v0, 3, none⟩ = some (.slice (some ⟨gC, oC, none⟩) s0.C.length c0) ∧ w'.cell? ⟨v0, 4, none⟩ = some (.slice L0 s0.L.length d0) ∧ w'.cell? ⟨v8, 0, none⟩ = some (.slice A8 s0.M.W.length a8) ∧ w'.cell? ⟨v8, 1, none⟩ = some (.slice (some ⟨gH, oH, none⟩) s0.M.G.length b8) ∧ w'.cell? ⟨v8, 2, none⟩ = some (.bool false) ∧ w'.cell? ⟨v8, 3, none⟩ = some (.slice (some ⟨gD, oD, none⟩) s0.C.length c8) ∧ w'.cell? ⟨v8, 4, none⟩ = some (.slice L8 s0.L.length d8) ∧ w'.cell? ⟨gG, oG + p, none⟩ = some (.int .i64 1) ∧ w'.cell? ⟨gH, oH + p, none⟩ = some (.int .i64 2)) from fun w' h => ⟨(h.cell lt0).trans m0_0, (h.cell lt0).trans m0_1, (h.cell lt0).trans m0_2, (h.cell lt0).trans m0_3, (h.cell lt0).trans m0_4, (h.cell lt8).trans m8_0, (h.cell lt8).trans m8_1, (h.cell lt8).trans m8_2, (h.cell lt8).trans m8_3, (h.cell lt8).trans m8_4, (h.cell hbG).trans cS, (h.cell hbH).trans cT⟩)
    refine wp_region_held_drew (S := (fun w' => Below wA.heap.size wA w')) (by kernel_rfl) ((Below.refl _ _).drew) (fun HT0 => ?_)
    try dsimp only at HT0
    generalize wA.drew = W0 at HT0 ⊢
    first
      | (refine wpAnyH_take (i := 0) (oi := { dst := some 172, op := _, type := _, pos := _, after := _, guard := _ }) (v := ?vb131) rfl (by kernel_rfl) (by kernel_rfl) (by kernel_rfl) (fun _ _ _ h => h) (Or.inl ⟨by rfl, ?hb131⟩) HT0 ?_; (case hb131 => (intro w hSw; obtain ⟨x0, x1, x2, x3, x4, x5, x6, x7, x8, x9, x10, x11⟩ := KS.out w hSw; clear hSw; go_simp; try with_reducible rfl)); try simp only [Act.put, List.setIfInBounds_toArray, List.set_cons_zero, List.set_cons_succ])
      | (refine wpAnyH_take (i := 0) (oi := { dst := some 172, op := _, type := _, pos := _, after := _, guard := _ }) (v := undef) rfl (by kernel_rfl) (by kernel_rfl) (by kernel_rfl) (fun _ _ _ h => h) (Or.inr ⟨by rfl, rfl⟩) HT0 ?_; try simp only [Act.put, List.setIfInBounds_toArray, List.set_cons_zero, List.set_cons_succ])
    first
      | (refine wpAnyH_take (i := 1) (oi := { dst := some 173, op := _, type := _, pos := _, after := _, guard := _ }) (v := ?vb132) rfl (by kernel_rfl) (by kernel_rfl) (by kernel_rfl) (fun _ _ _ h => h) (Or.inl ⟨by rfl, ?hb132⟩) HT0 ?_; (case hb132 => (intro w hSw; obtain ⟨x0, x1, x2, x3, x4, x5, x6, x7, x8, x9, x10, x11⟩ := KS.out w hSw; clear hSw; go_simp; try with_reducible rfl)); try simp only [Act.put, List.setIfInBounds_toArray, List.set_cons_zero, List.set_cons_succ])
      | (refine wpAnyH_take (i := 1) (oi := { dst := some 173, op := _, type := _, pos := _, after := _, guard := _ }) (v := undef) rfl (by kernel_rfl) (by kernel_rfl) (by kernel_rfl) (fun _ _ _ h => h) (Or.inr ⟨by rfl, rfl⟩) HT0 ?_; try simp only [Act.put, List.setIfInBounds_toArray, List.set_cons_zero, List.set_cons_succ])
    first
      | (refine wpAnyH_take (i := 2) (oi := { dst := some 174, op := _, type := _, pos := _, after := _, guard := _ }) (v := ?vb133) rfl (by kernel_rfl) (by kernel_rfl) (by kernel_rfl) (fun _ _ _ h => h) (Or.inl ⟨by rfl, ?hb133⟩) HT0 ?_; (case hb133 => (intro w hSw; obtain ⟨x0, x1, x2, x3, x4, x5, x6, x7, x8, x9, x10, x11⟩ := KS.out w hSw; clear hSw; go_simp; try with_reducible rfl)); try simp only [Act.put, List.setIfInBounds_toArray, List.set_cons_zero, List.set_cons_succ])
      | (refine wpAnyH_take (i := 2) (oi := { dst := some 174, op := _, type := _, pos := _, after := _, guard := _ }) (v := undef) rfl (by kernel_rfl) (by kernel_rfl) (by kernel_rfl) (fun _ _ _ h => h) (Or.inr ⟨by rfl, rfl⟩) HT0 ?_; try simp only [Act.put, List.setIfInBounds_toArray, List.set_cons_zero, List.set_cons_succ])
    first
      | (refine wpAnyH_take (i := 3) (oi := { dst := some 175, op := _, type := _, pos := _, after := _, guard := _ }) (v := ?vb134) rfl (by kernel_rfl) (by kernel_rfl) (by kernel_rfl) (fun _ _ _ h => h) (Or.inl ⟨by rfl, ?hb134⟩) HT0 ?_; (case hb134 => (intro w hSw; obtain ⟨x0, x1, x2, x3, x4, x5, x6, x7, x8, x9, x10, x11⟩ := KS.out w hSw; clear hSw; go_simp; try with_reducible rfl)); try simp only [Act.put, List.setIfInBounds_toArray, List.set_cons_zero, List.set_cons_succ])
      | (refine wpAnyH_take (i := 3) (oi := { dst := some 175, op := _, type := _, pos := _, after := _, guard := _ }) (v := undef) rfl (by kernel_rfl) (by kernel_rfl) (by kernel_rfl) (fun _ _ _ h => h) (Or.inr ⟨by rfl, rfl⟩) HT0 ?_; try simp only [Act.put, List.setIfInBounds_toArray, List.set_cons_zero, List.set_cons_succ])
    first
      | (refine wpAnyH_take (i := 4) (oi := { dst := some 176, op := _, type := _, pos := _, after := _, guard := _ }) (v := ?vb135) rfl (by kernel_rfl) (by kernel_rfl) (by kernel_rfl) (fun _ _ _ h => h) (Or.inl ⟨by rfl, ?hb135⟩) HT0 ?_; (case hb135 => (intro w hSw; obtain ⟨x0, x1, x2, x3, x4, x5, x6, x7, x8, x9, x10, x11⟩ := KS.out w hSw; clear hSw; go_simp; try with_reducible rfl)); try simp only [Act.put, List.setIfInBounds_toArray, List.set_cons_zero, List.set_cons_succ])
      | (refine wpAnyH_take (i := 4) (oi := { dst := some 176, op := _, type := _, pos := _, after := _, guard := _ }) (v := undef) rfl (by kernel_rfl) (by kernel_rfl) (by kernel_rfl) (fun _ _ _ h => h) (Or.inr ⟨by rfl, rfl⟩) HT0 ?_; try simp only [Act.put, List.setIfInBounds_toArray, List.set_cons_zero, List.set_cons_succ])
    first
      | (refine wpAnyH_take (i := 5) (oi := { dst := some 177, op := _, type := _, pos := _, after := _, guard := _ }) (v := ?vb136) rfl (by kernel_rfl) (by kernel_rfl) (by kernel_rfl) (fun _ _ _ h => h) (Or.inl ⟨by rfl, ?hb136⟩) HT0 ?_; (case hb136 => (intro w hSw; obtain ⟨x0, x1, x2, x3, x4, x5, x6, x7, x8, x9, x10, x11⟩ := KS.out w hSw; clear hSw; go_simp; try with_reducible rfl)); try simp only [Act.put, List.setIfInBounds_toArray, List.set_cons_zero, List.set_cons_succ])
      | (refine wpAnyH_take (i := 5) (oi := { dst := some 177, op := _, type := _, pos := _, after := _, guard := _ }) (v := undef) rfl (by kernel_rfl) (by kernel_rfl) (by kernel_rfl) (fun _ _ _ h => h) (Or.inr ⟨by rfl, rfl⟩) HT0 ?_; try simp only [Act.put, List.setIfInBounds_toArray, List.set_cons_zero, List.set_cons_succ])
    first
      | (refine wpAnyH_take (i := 6) (oi := { dst := some 178, op := _, type := _, pos := _, after := _, guard := _ }) (v := ?vb137) rfl (by kernel_rfl) (by kernel_rfl) (by kernel_rfl) (fun _ _ _ h => h) (Or.inl ⟨by rfl, ?hb137⟩) HT0 ?_; (case hb137 => (intro w hSw; obtain ⟨x0, x1, x2, x3, x4, x5, x6, x7, x8, x9, x10, x11⟩ := KS.out w hSw; clear hSw; go_simp; try with_reducible rfl)); try simp only [Act.put, List.setIfInBounds_toArray, List.set_cons_zero, List.set_cons_succ])
      | (refine wpAnyH_take (i := 6) (oi := { dst := some 178, op := _, type := _, pos := _, after := _, guard := _ }) (v := undef) rfl (by kernel_rfl) (by kernel_rfl) (by kernel_rfl) (fun _ _ _ h => h) (Or.inr ⟨by rfl, rfl⟩) HT0 ?_; try simp only [Act.put, List.setIfInBounds_toArray, List.set_cons_zero, List.set_cons_succ])
    first
      | (refine wpAnyH_take (i := 7) (oi := { dst := some 179, op := _, type := _, pos := _, after := _, guard := _ }) (v := ?vb138) rfl (by kernel_rfl) (by kernel_rfl) (by kernel_rfl) (fun _ _ _ h => h) (Or.inl ⟨by rfl, ?hb138⟩) HT0 ?_; (case hb138 => (intro w hSw; obtain ⟨x0, x1, x2, x3, x4, x5, x6, x7, x8, x9, x10, x11⟩ := KS.out w hSw; clear hSw; go_simp; try with_reducible rfl)); try simp only [Act.put, List.setIfInBounds_toArray, List.set_cons_zero, List.set_cons_succ])
      | (refine wpAnyH_take (i := 7) (oi := { dst := some 179, op := _, type := _, pos := _, after := _, guard := _ }) (v := undef) rfl (by kernel_rfl) (by kernel_rfl) (by kernel_rfl) (fun _ _ _ h => h) (Or.inr ⟨by rfl, rfl⟩) HT0 ?_; try simp only [Act.put, List.setIfInBounds_toArray, List.set_cons_zero, List.set_cons_succ])
    first
      | (refine wpAnyH_take (i := 8) (oi := { dst := some 180, op := _, type := _, pos := _, after := _, guard := _ }) (v := ?vb139) rfl (by kernel_rfl) (by kernel_rfl) (by kernel_rfl) (fun _ _ _ h => h) (Or.inl ⟨by rfl, ?hb139⟩) HT0 ?_; (case hb139 => (intro w hSw; obtain ⟨x0, x1, x2, x3, x4, x5, x6, x7, x8, x9, x10, x11⟩ := KS.out w hSw; clear hSw; go_simp; try with_reducible rfl)); try simp only [Act.put, List.setIfInBounds_toArray, List.set_cons_zero, List.set_cons_succ])
      | (refine wpAnyH_take (i := 8) (oi := { dst := some 180, op := _, type := _, pos := _, after := _, guard := _ }) (v := undef) rfl (by kernel_rfl) (by kernel_rfl) (by kernel_rfl) (fun _ _ _ h => h) (Or.inr ⟨by rfl, rfl⟩) HT0 ?_; try simp only [Act.put, List.setIfInBounds_toArray, List.set_cons_zero, List.set_cons_succ])
    first
      | (refine wpAnyH_take (i := 9) (oi := { dst := some 181, op := _, type := _, pos := _, after := _, guard := _ }) (v := ?vb140) rfl (by kernel_rfl) (by kernel_rfl) (by kernel_rfl) (fun _ _ _ h => h) (Or.inl ⟨by rfl, ?hb140⟩) HT0 ?_; (case hb140 => (intro w hSw; obtain ⟨x0, x1, x2, x3, x4, x5, x6, x7, x8, x9, x10, x11⟩ := KS.out w hSw; clear hSw; go_simp; try with_reducible rfl)); try simp only [Act.put, List.setIfInBounds_toArray, List.set_cons_zero, List.set_cons_succ])
      | (refine wpAnyH_take (i := 9) (oi := { dst := some 181, op := _, type := _, pos := _, after := _, guard := _ }) (v := undef) rfl (by kernel_rfl) (by kernel_rfl) (by kernel_rfl) (fun _ _ _ h => h) (Or.inr ⟨by rfl, rfl⟩) HT0 ?_; try simp only [Act.put, List.setIfInBounds_toArray, List.set_cons_zero, List.set_cons_succ])
    first
      | (refine wpAnyH_take (i := 10) (oi := { dst := some 182, op := _, type := _, pos := _, after := _, guard := _ }) (v := ?vb141) rfl (by kernel_rfl) (by kernel_rfl) (by kernel_rfl) (fun _ _ _ h => h) (Or.inl ⟨by rfl, ?hb141⟩) HT0 ?_; (case hb141 => (intro w hSw; obtain ⟨x0, x1, x2, x3, x4, x5, x6, x7, x8, x9, x10, x11⟩ := KS.out w hSw; clear hSw; go_simp; try with_reducible rfl)); try simp only [Act.put, List.setIfInBounds_toArray, List.set_cons_zero, List.set_cons_succ])
      | (refine wpAnyH_take (i := 10) (oi := { dst := some 182, op := _, type := _, pos := _, after := _, guard := _ }) (v := undef) rfl (by kernel_rfl) (by kernel_rfl) (by kernel_rfl) (fun _ _ _ h => h) (Or.inr ⟨by rfl, rfl⟩) HT0 ?_; try simp only [Act.put, List.setIfInBounds_toArray, List.set_cons_zero, List.set_cons_succ])
    first
      | (refine wpAnyH_take (i := 11) (oi := { dst := some 183, op := _, type := _, pos := _, after := _, guard := _ }) (v := ?vb142) rfl (by kernel_rfl) (by kernel_rfl) (by kernel_rfl) (fun _ _ _ h => h) (Or.inl ⟨by rfl, ?hb142⟩) HT0 ?_; (case hb142 => (intro w hSw; obtain ⟨x0, x1, x2, x3, x4, x5, x6, x7, x8, x9, x10, x11⟩ := KS.out w hSw; clear hSw; go_simp; try with_reducible rfl)); try simp only [Act.put, List.setIfInBounds_toArray, List.set_cons_zero, List.set_cons_succ])
      | (refine wpAnyH_take (i := 11) (oi := { dst := some 183, op := _, type := _, pos := _, after := _, guard := _ }) (v := undef) rfl (by kernel_rfl) (by kernel_rfl) (by kernel_rfl) (fun _ _ _ h => h) (Or.inr ⟨by rfl, rfl⟩) HT0 ?_; try simp only [Act.put, List.setIfInBounds_toArray, List.set_cons_zero, List.set_cons_succ])
    first
      | (refine wpAnyH_take (i := 12) (oi := { dst := some 184, op := _, type := _, pos := _, after := _, guard := _ }) (v := ?vb143) rfl (by kernel_rfl) (by kernel_rfl) (by kernel_rfl) (fun _ _ _ h => h) (Or.inl ⟨by rfl, ?hb143⟩) HT0 ?_; (case hb143 => (intro w hSw; obtain ⟨x0, x1, x2, x3, x4, x5, x6, x7, x8, x9, x10, x11⟩ := KS.out w hSw; clear hSw; go_simp; try with_reducible rfl)); try simp only [Act.put, List.setIfInBounds_toArray, List.set_cons_zero, List.set_cons_succ])
      | (refine wpAnyH_take (i := 12) (oi := { dst := some 184, op := _, type := _, pos := _, after := _, guard := _ }) (v := undef) rfl (by kernel_rfl) (by kernel_rfl) (by kernel_rfl) (fun _ _ _ h => h) (Or.inr ⟨by rfl, rfl⟩) HT0 ?_; try simp only [Act.put, List.setIfInBounds_toArray, List.set_cons_zero, List.set_cons_succ])
    first
      | (refine wpAnyH_take (i := 13) (oi := { dst := some 185, op := _, type := _, pos := _, after := _, guard := _ }) (v := ?vb144) rfl (by kernel_rfl) (by kernel_rfl) (by kernel_rfl) (fun _ _ _ h => h) (Or.inl ⟨by rfl, ?hb144⟩) HT0 ?_; (case hb144 => (intro w hSw; obtain ⟨x0, x1, x2, x3, x4, x5, x6, x7, x8, x9, x10, x11⟩ := KS.out w hSw; clear hSw; go_simp; try with_reducible rfl)); try simp only [Act.put, List.setIfInBounds_toArray, List.set_cons_zero, List.set_cons_succ])
      | (refine wpAnyH_take (i := 13) (oi := { dst := some 185, op := _, type := _, pos := _, after := _, guard := _ }) (v := undef) rfl (by kernel_rfl) (by kernel_rfl) (by kernel_rfl) (fun _ _ _ h => h) (Or.inr ⟨by rfl, rfl⟩) HT0 ?_; try simp only [Act.put, List.setIfInBounds_toArray, List.set_cons_zero, List.set_cons_succ])
    first
      | (refine wpAnyH_take (i := 14) (oi := { dst := some 186, op := _, type := _, pos := _, after := _, guard := _ }) (v := ?vb145) rfl (by kernel_rfl) (by kernel_rfl) (by kernel_rfl) (fun _ _ _ h => h) (Or.inl ⟨by rfl, ?hb145⟩) HT0 ?_; (case hb145 => (intro w hSw; obtain ⟨x0, x1, x2, x3, x4, x5, x6, x7, x8, x9, x10, x11⟩ := KS.out w hSw; clear hSw; go_simp; try with_reducible rfl)); try simp only [Act.put, List.setIfInBounds_toArray, List.set_cons_zero, List.set_cons_succ])
      | (refine wpAnyH_take (i := 14) (oi := { dst := some 186, op := _, type := _, pos := _, after := _, guard := _ }) (v := undef) rfl (by kernel_rfl) (by kernel_rfl) (by kernel_rfl) (fun _ _ _ h => h) (Or.inr ⟨by rfl, rfl⟩) HT0 ?_; try simp only [Act.put, List.setIfInBounds_toArray, List.set_cons_zero, List.set_cons_succ])
    first
      | (refine wpAnyH_take (i := 15) (oi := { dst := some 187, op := _, type := _, pos := _, after := _, guard := _ }) (v := ?vb146) rfl (by kernel_rfl) (by kernel_rfl) (by kernel_rfl) (fun _ _ _ h => h) (Or.inl ⟨by rfl, ?hb146⟩) HT0 ?_; (case hb146 => (intro w hSw; obtain ⟨x0, x1, x2, x3, x4, x5, x6, x7, x8, x9, x10, x11⟩ := KS.out w hSw; clear hSw; go_simp; try with_reducible rfl)); try simp only [Act.put, List.setIfInBounds_toArray, List.set_cons_zero, List.set_cons_succ])
      | (refine wpAnyH_take (i := 15) (oi := { dst := some 187, op := _, type := _, pos := _, after := _, guard := _ }) (v := undef) rfl (by kernel_rfl) (by kernel_rfl) (by kernel_rfl) (fun _ _ _ h => h) (Or.inr ⟨by rfl, rfl⟩) HT0 ?_; try simp only [Act.put, List.setIfInBounds_toArray, List.set_cons_zero, List.set_cons_succ])
    first
      | (refine wpAnyH_take (i := 16) (oi := { dst := some 188, op := _, type := _, pos := _, after := _, guard := _ }) (v := ?vb147) rfl (by kernel_rfl) (by kernel_rfl) (by kernel_rfl) (fun _ _ _ h => h) (Or.inl ⟨by rfl, ?hb147⟩) HT0 ?_; (case hb147 => (intro w hSw; obtain ⟨x0, x1, x2, x3, x4, x5, x6, x7, x8, x9, x10, x11⟩ := KS.out w hSw; clear hSw; go_simp; try with_reducible rfl)); try simp only [Act.put, List.setIfInBounds_toArray, List.set_cons_zero, List.set_cons_succ])
      | (refine wpAnyH_take (i := 16) (oi := { dst := some 188, op := _, type := _, pos := _, after := _, guard := _ }) (v := undef) rfl (by kernel_rfl) (by kernel_rfl) (by kernel_rfl) (fun _ _ _ h => h) (Or.inr ⟨by rfl, rfl⟩) HT0 ?_; try simp only [Act.put, List.setIfInBounds_toArray, List.set_cons_zero, List.set_cons_succ])
    first
      | (refine wpAnyH_take (i := 17) (oi := { dst := some 189, op := _, type := _, pos := _, after := _, guard := _ }) (v := ?vb148) rfl (by kernel_rfl) (by kernel_rfl) (by kernel_rfl) (fun _ _ _ h => h) (Or.inl ⟨by rfl, ?hb148⟩) HT0 ?_; (case hb148 => (intro w hSw; obtain ⟨x0, x1, x2, x3, x4, x5, x6, x7, x8, x9, x10, x11⟩ := KS.out w hSw; clear hSw; go_simp; try with_reducible rfl)); try simp only [Act.put, List.setIfInBounds_toArray, List.set_cons_zero, List.set_cons_succ])
      | (refine wpAnyH_take (i := 17) (oi := { dst := some 189, op := _, type := _, pos := _, after := _, guard := _ }) (v := undef) rfl (by kernel_rfl) (by kernel_rfl) (by kernel_rfl) (fun _ _ _ h => h) (Or.inr ⟨by rfl, rfl⟩) HT0 ?_; try simp only [Act.put, List.setIfInBounds_toArray, List.set_cons_zero, List.set_cons_succ])
    first
      | (refine wpAnyH_take (i := 18) (oi := { dst := some 190, op := _, type := _, pos := _, after := _, guard := _ }) (v := ?vb149) rfl (by kernel_rfl) (by kernel_rfl) (by kernel_rfl) (fun _ _ _ h => h) (Or.inl ⟨by rfl, ?hb149⟩) HT0 ?_; (case hb149 => (intro w hSw; obtain ⟨x0, x1, x2, x3, x4, x5, x6, x7, x8, x9, x10, x11⟩ := KS.out w hSw; clear hSw; go_simp; try with_reducible rfl)); try simp only [Act.put, List.setIfInBounds_toArray, List.set_cons_zero, List.set_cons_succ])
      | (refine wpAnyH_take (i := 18) (oi := { dst := some 190, op := _, type := _, pos := _, after := _, guard := _ }) (v := undef) rfl (by kernel_rfl) (by kernel_rfl) (by kernel_rfl) (fun _ _ _ h => h) (Or.inr ⟨by rfl, rfl⟩) HT0 ?_; try simp only [Act.put, List.setIfInBounds_toArray, List.set_cons_zero, List.set_cons_succ])
    first
      | (refine wpAnyH_take (i := 19) (oi := { dst := some 191, op := _, type := _, pos := _, after := _, guard := _ }) (v := ?vb150) rfl (by kernel_rfl) (by kernel_rfl) (by kernel_rfl) (fun _ _ _ h => h) (Or.inl ⟨by rfl, ?hb150⟩) HT0 ?_; (case hb150 => (intro w hSw; obtain ⟨x0, x1, x2, x3, x4, x5, x6, x7, x8, x9, x10, x11⟩ := KS.out w hSw; clear hSw; go_simp; try with_reducible rfl)); try simp only [Act.put, List.setIfInBounds_toArray, List.set_cons_zero, List.set_cons_succ])
      | (refine wpAnyH_take (i := 19) (oi := { dst := some 191, op := _, type := _, pos := _, after := _, guard := _ }) (v := undef) rfl (by kernel_rfl) (by kernel_rfl) (by kernel_rfl) (fun _ _ _ h => h) (Or.inr ⟨by rfl, rfl⟩) HT0 ?_; try simp only [Act.put, List.setIfInBounds_toArray, List.set_cons_zero, List.set_cons_succ])
    first
      | (refine wpAnyH_take (i := 20) (oi := { dst := some 192, op := _, type := _, pos := _, after := _, guard := _ }) (v := ?vb151) rfl (by kernel_rfl) (by kernel_rfl) (by kernel_rfl) (fun _ _ _ h => h) (Or.inl ⟨by rfl, ?hb151⟩) HT0 ?_; (case hb151 => (intro w hSw; obtain ⟨x0, x1, x2, x3, x4, x5, x6, x7, x8, x9, x10, x11⟩ := KS.out w hSw; clear hSw; go_simp; try with_reducible rfl)); try simp only [Act.put, List.setIfInBounds_toArray, List.set_cons_zero, List.set_cons_succ])
      | (refine wpAnyH_take (i := 20) (oi := { dst := some 192, op := _, type := _, pos := _, after := _, guard := _ }) (v := undef) rfl (by kernel_rfl) (by kernel_rfl) (by kernel_rfl) (fun _ _ _ h => h) (Or.inr ⟨by rfl, rfl⟩) HT0 ?_; try simp only [Act.put, List.setIfInBounds_toArray, List.set_cons_zero, List.set_cons_succ])
    first
      | (refine wpAnyH_take (i := 21) (oi := { dst := some 193, op := _, type := _, pos := _, after := _, guard := _ }) (v := ?vb152) rfl (by kernel_rfl) (by kernel_rfl) (by kernel_rfl) (fun _ _ _ h => h) (Or.inl ⟨by rfl, ?hb152⟩) HT0 ?_; (case hb152 => (intro w hSw; obtain ⟨x0, x1, x2, x3, x4, x5, x6, x7, x8, x9, x10, x11⟩ := KS.out w hSw; clear hSw; go_simp; try with_reducible rfl)); try simp only [Act.put, List.setIfInBounds_toArray, List.set_cons_zero, List.set_cons_succ])
      | (refine wpAnyH_take (i := 21) (oi := { dst := some 193, op := _, type := _, pos := _, after := _, guard := _ }) (v := undef) rfl (by kernel_rfl) (by kernel_rfl) (by kernel_rfl) (fun _ _ _ h => h) (Or.inr ⟨by rfl, rfl⟩) HT0 ?_; try simp only [Act.put, List.setIfInBounds_toArray, List.set_cons_zero, List.set_cons_succ])
    first
      | (refine wpAnyH_take (i := 22) (oi := { dst := some 194, op := _, type := _, pos := _, after := _, guard := _ }) (v := ?vb153) rfl (by kernel_rfl) (by kernel_rfl) (by kernel_rfl) (fun _ _ _ h => h) (Or.inl ⟨by rfl, ?hb153⟩) HT0 ?_; (case hb153 => (intro w hSw; obtain ⟨x0, x1, x2, x3, x4, x5, x6, x7, x8, x9, x10, x11⟩ := KS.out w hSw; clear hSw; go_simp; try with_reducible rfl)); try simp only [Act.put, List.setIfInBounds_toArray, List.set_cons_zero, List.set_cons_succ])
      | (refine wpAnyH_take (i := 22) (oi := { dst := some 194, op := _, type := _, pos := _, after := _, guard := _ }) (v := undef) rfl (by kernel_rfl) (by kernel_rfl) (by kernel_rfl) (fun _ _ _ h => h) (Or.inr ⟨by rfl, rfl⟩) HT0 ?_; try simp only [Act.put, List.setIfInBounds_toArray, List.set_cons_zero, List.set_cons_succ])
    first
      | (refine wpAnyH_take (i := 23) (oi := { dst := some 195, op := _, type := _, pos := _, after := _, guard := _ }) (v := ?vb154) rfl (by kernel_rfl) (by kernel_rfl) (by kernel_rfl) (fun _ _ _ h => h) (Or.inl ⟨by rfl, ?hb154⟩) HT0 ?_; (case hb154 => (intro w hSw; obtain ⟨x0, x1, x2, x3, x4, x5, x6, x7, x8, x9, x10, x11⟩ := KS.out w hSw; clear hSw; go_simp; try with_reducible rfl)); try simp only [Act.put, List.setIfInBounds_toArray, List.set_cons_zero, List.set_cons_succ])
      | (refine wpAnyH_take (i := 23) (oi := { dst := some 195, op := _, type := _, pos := _, after := _, guard := _ }) (v := undef) rfl (by kernel_rfl) (by kernel_rfl) (by kernel_rfl) (fun _ _ _ h => h) (Or.inr ⟨by rfl, rfl⟩) HT0 ?_; try simp only [Act.put, List.setIfInBounds_toArray, List.set_cons_zero, List.set_cons_succ])
    first
      | (refine wpAnyH_take (i := 24) (oi := { dst := some 196, op := _, type := _, pos := _, after := _, guard := _ }) (v := ?vb155) rfl (by kernel_rfl) (by kernel_rfl) (by kernel_rfl) (fun _ _ _ h => h) (Or.inl ⟨by rfl, ?hb155⟩) HT0 ?_; (case hb155 => (intro w hSw; obtain ⟨x0, x1, x2, x3, x4, x5, x6, x7, x8, x9, x10, x11⟩ := KS.out w hSw; clear hSw; go_simp; try with_reducible rfl)); try simp only [Act.put, List.setIfInBounds_toArray, List.set_cons_zero, List.set_cons_succ])
      | (refine wpAnyH_take (i := 24) (oi := { dst := some 196, op := _, type := _, pos := _, after := _, guard := _ }) (v := undef) rfl (by kernel_rfl) (by kernel_rfl) (by kernel_rfl) (fun _ _ _ h => h) (Or.inr ⟨by rfl, rfl⟩) HT0 ?_; try simp only [Act.put, List.setIfInBounds_toArray, List.set_cons_zero, List.set_cons_succ])
    first
      | (refine wpAnyH_take (i := 25) (oi := { dst := some 197, op := _, type := _, pos := _, after := _, guard := _ }) (v := ?vb156) rfl (by kernel_rfl) (by kernel_rfl) (by kernel_rfl) (fun _ _ _ h => h) (Or.inl ⟨by rfl, ?hb156⟩) HT0 ?_; (case hb156 => (intro w hSw; obtain ⟨x0, x1, x2, x3, x4, x5, x6, x7, x8, x9, x10, x11⟩ := KS.out w hSw; clear hSw; go_simp; try with_reducible rfl)); try simp only [Act.put, List.setIfInBounds_toArray, List.set_cons_zero, List.set_cons_succ])
      | (refine wpAnyH_take (i := 25) (oi := { dst := some 197, op := _, type := _, pos := _, after := _, guard := _ }) (v := undef) rfl (by kernel_rfl) (by kernel_rfl) (by kernel_rfl) (fun _ _ _ h => h) (Or.inr ⟨by rfl, rfl⟩) HT0 ?_; try simp only [Act.put, List.setIfInBounds_toArray, List.set_cons_zero, List.set_cons_succ])
    first
      | (refine wpAnyH_take (i := 26) (oi := { dst := some 198, op := _, type := _, pos := _, after := _, guard := _ }) (v := ?vb157) rfl (by kernel_rfl) (by kernel_rfl) (by kernel_rfl) (fun _ _ _ h => h) (Or.inl ⟨by rfl, ?hb157⟩) HT0 ?_; (case hb157 => (intro w hSw; obtain ⟨x0, x1, x2, x3, x4, x5, x6, x7, x8, x9, x10, x11⟩ := KS.out w hSw; clear hSw; go_simp; try with_reducible rfl)); try simp only [Act.put, List.setIfInBounds_toArray, List.set_cons_zero, List.set_cons_succ])
      | (refine wpAnyH_take (i := 26) (oi := { dst := some 198, op := _, type := _, pos := _, after := _, guard := _ }) (v := undef) rfl (by kernel_rfl) (by kernel_rfl) (by kernel_rfl) (fun _ _ _ h => h) (Or.inr ⟨by rfl, rfl⟩) HT0 ?_; try simp only [Act.put, List.setIfInBounds_toArray, List.set_cons_zero, List.set_cons_succ])
    first
      | (refine wpAnyH_take (i := 27) (oi := { dst := some 199, op := _, type := _, pos := _, after := _, guard := _ }) (v := ?vb158) rfl (by kernel_rfl) (by kernel_rfl) (by kernel_rfl) (fun _ _ _ h => h) (Or.inl ⟨by rfl, ?hb158⟩) HT0 ?_; (case hb158 => (intro w hSw; obtain ⟨x0, x1, x2, x3, x4, x5, x6, x7, x8, x9, x10, x11⟩ := KS.out w hSw; clear hSw; go_simp; try with_reducible rfl)); try simp only [Act.put, List.setIfInBounds_toArray, List.set_cons_zero, List.set_cons_succ])
      | (refine wpAnyH_take (i := 27) (oi := { dst := some 199, op := _, type := _, pos := _, after := _, guard := _ }) (v := undef) rfl (by kernel_rfl) (by kernel_rfl) (by kernel_rfl) (fun _ _ _ h => h) (Or.inr ⟨by rfl, rfl⟩) HT0 ?_; try simp only [Act.put, List.setIfInBounds_toArray, List.set_cons_zero, List.set_cons_succ])
    first
      | (refine wpAnyH_take (i := 28) (oi := { dst := some 200, op := _, type := _, pos := _, after := _, guard := _ }) (v := ?vb159) rfl (by kernel_rfl) (by kernel_rfl) (by kernel_rfl) (fun _ _ _ h => h) (Or.inl ⟨by rfl, ?hb159⟩) HT0 ?_; (case hb159 => (intro w hSw; obtain ⟨x0, x1, x2, x3, x4, x5, x6, x7, x8, x9, x10, x11⟩ := KS.out w hSw; clear hSw; go_simp; try with_reducible rfl)); try simp only [Act.put, List.setIfInBounds_toArray, List.set_cons_zero, List.set_cons_succ])
      | (refine wpAnyH_take (i := 28) (oi := { dst := some 200, op := _, type := _, pos := _, after := _, guard := _ }) (v := undef) rfl (by kernel_rfl) (by kernel_rfl) (by kernel_rfl) (fun _ _ _ h => h) (Or.inr ⟨by rfl, rfl⟩) HT0 ?_; try simp only [Act.put, List.setIfInBounds_toArray, List.set_cons_zero, List.set_cons_succ])
    first
      | (refine wpAnyH_take (i := 29) (oi := { dst := some 201, op := _, type := _, pos := _, after := _, guard := _ }) (v := ?vb160) rfl (by kernel_rfl) (by kernel_rfl) (by kernel_rfl) (fun _ _ _ h => h) (Or.inl ⟨by rfl, ?hb160⟩) HT0 ?_; (case hb160 => (intro w hSw; obtain ⟨x0, x1, x2, x3, x4, x5, x6, x7, x8, x9, x10, x11⟩ := KS.out w hSw; clear hSw; go_simp; try with_reducible rfl)); try simp only [Act.put, List.setIfInBounds_toArray, List.set_cons_zero, List.set_cons_succ])
      | (refine wpAnyH_take (i := 29) (oi := { dst := some 201, op := _, type := _, pos := _, after := _, guard := _ }) (v := undef) rfl (by kernel_rfl) (by kernel_rfl) (by kernel_rfl) (fun _ _ _ h => h) (Or.inr ⟨by rfl, rfl⟩) HT0 ?_; try simp only [Act.put, List.setIfInBounds_toArray, List.set_cons_zero, List.set_cons_succ])
    first
      | (refine wpAnyH_take (i := 30) (oi := { dst := some 202, op := _, type := _, pos := _, after := _, guard := _ }) (v := ?vb161) rfl (by kernel_rfl) (by kernel_rfl) (by kernel_rfl) (fun _ _ _ h => h) (Or.inl ⟨by rfl, ?hb161⟩) HT0 ?_; (case hb161 => (intro w hSw; obtain ⟨x0, x1, x2, x3, x4, x5, x6, x7, x8, x9, x10, x11⟩ := KS.out w hSw; clear hSw; go_simp; try with_reducible rfl)); try simp only [Act.put, List.setIfInBounds_toArray, List.set_cons_zero, List.set_cons_succ])
      | (refine wpAnyH_take (i := 30) (oi := { dst := some 202, op := _, type := _, pos := _, after := _, guard := _ }) (v := undef) rfl (by kernel_rfl) (by kernel_rfl) (by kernel_rfl) (fun _ _ _ h => h) (Or.inr ⟨by rfl, rfl⟩) HT0 ?_; try simp only [Act.put, List.setIfInBounds_toArray, List.set_cons_zero, List.set_cons_succ])
    first
      | (refine wpAnyH_take (i := 31) (oi := { dst := some 203, op := _, type := _, pos := _, after := _, guard := _ }) (v := ?vb162) rfl (by kernel_rfl) (by kernel_rfl) (by kernel_rfl) (fun _ _ _ h => h) (Or.inl ⟨by rfl, ?hb162⟩) HT0 ?_; (case hb162 => (intro w hSw; obtain ⟨x0, x1, x2, x3, x4, x5, x6, x7, x8, x9, x10, x11⟩ := KS.out w hSw; clear hSw; go_simp; try with_reducible rfl)); try simp only [Act.put, List.setIfInBounds_toArray, List.set_cons_zero, List.set_cons_succ])
      | (refine wpAnyH_take (i := 31) (oi := { dst := some 203, op := _, type := _, pos := _, after := _, guard := _ }) (v := undef) rfl (by kernel_rfl) (by kernel_rfl) (by kernel_rfl) (fun _ _ _ h => h) (Or.inr ⟨by rfl, rfl⟩) HT0 ?_; try simp only [Act.put, List.setIfInBounds_toArray, List.set_cons_zero, List.set_cons_succ])
    first
      | (refine wpAnyH_take (i := 32) (oi := { dst := some 204, op := _, type := _, pos := _, after := _, guard := _ }) (v := ?vb163) rfl (by kernel_rfl) (by kernel_rfl) (by kernel_rfl) (fun _ _ _ h => h) (Or.inl ⟨by rfl, ?hb163⟩) HT0 ?_; (case hb163 => (intro w hSw; obtain ⟨x0, x1, x2, x3, x4, x5, x6, x7, x8, x9, x10, x11⟩ := KS.out w hSw; clear hSw; go_simp; try with_reducible rfl)); try simp only [Act.put, List.setIfInBounds_toArray, List.set_cons_zero, List.set_cons_succ])
      | (refine wpAnyH_take (i := 32) (oi := { dst := some 204, op := _, type := _, pos := _, after := _, guard := _ }) (v := undef) rfl (by kernel_rfl) (by kernel_rfl) (by kernel_rfl) (fun _ _ _ h => h) (Or.inr ⟨by rfl, rfl⟩) HT0 ?_; try simp only [Act.put, List.setIfInBounds_toArray, List.set_cons_zero, List.set_cons_succ])
    first
      | (refine wpAnyH_take (i := 33) (oi := { dst := some 205, op := _, type := _, pos := _, after := _, guard := _ }) (v := ?vb164) rfl (by kernel_rfl) (by kernel_rfl) (by kernel_rfl) (fun _ _ _ h => h) (Or.inl ⟨by rfl, ?hb164⟩) HT0 ?_; (case hb164 => (intro w hSw; obtain ⟨x0, x1, x2, x3, x4, x5, x6, x7, x8, x9, x10, x11⟩ := KS.out w hSw; clear hSw; go_simp; try with_reducible rfl)); try simp only [Act.put, List.setIfInBounds_toArray, List.set_cons_zero, List.set_cons_succ])
      | (refine wpAnyH_take (i := 33) (oi := { dst := some 205, op := _, type := _, pos := _, after := _, guard := _ }) (v := undef) rfl (by kernel_rfl) (by kernel_rfl) (by kernel_rfl) (fun _ _ _ h => h) (Or.inr ⟨by rfl, rfl⟩) HT0 ?_; try simp only [Act.put, List.setIfInBounds_toArray, List.set_cons_zero, List.set_cons_succ])
    first
      | (refine wpAnyH_take (i := 34) (oi := { dst := some 206, op := _, type := _, pos := _, after := _, guard := _ }) (v := ?vb165) rfl (by kernel_rfl) (by kernel_rfl) (by kernel_rfl) (fun _ _ _ h => h) (Or.inl ⟨by rfl, ?hb165⟩) HT0 ?_; (case hb165 => (intro w hSw; obtain ⟨x0, x1, x2, x3, x4, x5, x6, x7, x8, x9, x10, x11⟩ := KS.out w hSw; clear hSw; go_simp; try with_reducible rfl)); try simp only [Act.put, List.setIfInBounds_toArray, List.set_cons_zero, List.set_cons_succ])
      | (refine wpAnyH_take (i := 34) (oi := { dst := some 206, op := _, type := _, pos := _, after := _, guard := _ }) (v := undef) rfl (by kernel_rfl) (by kernel_rfl) (by kernel_rfl) (fun _ _ _ h => h) (Or.inr ⟨by rfl, rfl⟩) HT0 ?_; try simp only [Act.put, List.setIfInBounds_toArray, List.set_cons_zero, List.set_cons_succ])
    first
      | (refine wpAnyH_take (i := 37) (oi := { dst := some 209, op := _, type := _, pos := _, after := _, guard := _ }) (v := ?vb166) rfl (by kernel_rfl) (by kernel_rfl) (by kernel_rfl) (fun _ _ _ h => h) (Or.inl ⟨by rfl, ?hb166⟩) HT0 ?_; (case hb166 => (intro w hSw; obtain ⟨x0, x1, x2, x3, x4, x5, x6, x7, x8, x9, x10, x11⟩ := KS.out w hSw; clear hSw; go_simp; try with_reducible rfl)); try simp only [Act.put, List.setIfInBounds_toArray, List.set_cons_zero, List.set_cons_succ])
      | (refine wpAnyH_take (i := 37) (oi := { dst := some 209, op := _, type := _, pos := _, after := _, guard := _ }) (v := undef) rfl (by kernel_rfl) (by kernel_rfl) (by kernel_rfl) (fun _ _ _ h => h) (Or.inr ⟨by rfl, rfl⟩) HT0 ?_; try simp only [Act.put, List.setIfInBounds_toArray, List.set_cons_zero, List.set_cons_succ])
    refine wpAnyH_ready (rs := [35]) (by kernel_rfl) (by simp) ?_
    refine AllReadyH.cons (o := { dst := some 207, op := _, type := _, pos := _, after := _, guard := _ }) rfl (fun K hK => ?_) AllReadyH.nil
    go_simp
    (go_at_call 11; (with_reducible refine (HR1.out _ (S8.step HT0)).mono ?_); rintro e wk1 ⟨AR1, cR1, rfl, hk1⟩)
    have HT1 := bstep HT0 hk1
    refine hK.out _ _ HT1 (fun _ => ?_)
    clear hK K
    try simp only [Act.put, List.setIfInBounds_toArray, List.set_cons_zero, List.set_cons_succ]
    first
      | (refine wpAnyH_take (i := 36) (oi := { dst := some 208, op := _, type := _, pos := _, after := _, guard := _ }) (v := ?vb167) rfl (by kernel_rfl) (by kernel_rfl) (by kernel_rfl) (fun _ _ _ h => h) (Or.inl ⟨by rfl, ?hb167⟩) HT1 ?_; (case hb167 => (intro w hSw; obtain ⟨x0, x1, x2, x3, x4, x5, x6, x7, x8, x9, x10, x11⟩ := KS.out w hSw; clear hSw; go_simp; try with_reducible rfl)); try simp only [Act.put, List.setIfInBounds_toArray, List.set_cons_zero, List.set_cons_succ])
      | (refine wpAnyH_take (i := 36) (oi := { dst := some 208, op := _, type := _, pos := _, after := _, guard := _ }) (v := undef) rfl (by kernel_rfl) (by kernel_rfl) (by kernel_rfl) (fun _ _ _ h => h) (Or.inr ⟨by rfl, rfl⟩) HT1 ?_; try simp only [Act.put, List.setIfInBounds_toArray, List.set_cons_zero, List.set_cons_succ])
    refine wpAnyH_ready (rs := [38]) (by kernel_rfl) (by simp) ?_
    refine AllReadyH.cons (o := { dst := some 210, op := _, type := _, pos := _, after := _, guard := _ }) rfl (fun K hK => ?_) AllReadyH.nil
    go_simp
    (go_at_call 21; (with_reducible refine (HR2.out _ (S0.step HT1)).mono ?_); rintro e wk2 ⟨AR2, cR2, rfl, hk2⟩)
    have HT2 := bstep HT1 hk2
    refine hK.out _ _ HT2 (fun _ => ?_)
    clear hK K
    try simp only [Act.put, List.setIfInBounds_toArray, List.set_cons_zero, List.set_cons_succ]
    first
      | (refine wpAnyH_take (i := 39) (oi := { dst := some 211, op := _, type := _, pos := _, after := _, guard := _ }) (v := ?vb168) rfl (by kernel_rfl) (by kernel_rfl) (by kernel_rfl) (fun _ _ _ h => h) (Or.inl ⟨by rfl, ?hb168⟩) HT2 ?_; (case hb168 => (intro w hSw; obtain ⟨x0, x1, x2, x3, x4, x5, x6, x7, x8, x9, x10, x11⟩ := KS.out w hSw; clear hSw; go_simp; try with_reducible rfl)); try simp only [Act.put, List.setIfInBounds_toArray, List.set_cons_zero, List.set_cons_succ])
      | (refine wpAnyH_take (i := 39) (oi := { dst := some 211, op := _, type := _, pos := _, after := _, guard := _ }) (v := undef) rfl (by kernel_rfl) (by kernel_rfl) (by kernel_rfl) (fun _ _ _ h => h) (Or.inr ⟨by rfl, rfl⟩) HT2 ?_; try simp only [Act.put, List.setIfInBounds_toArray, List.set_cons_zero, List.set_cons_succ])
    first
      | (refine wpAnyH_take (i := 40) (oi := { dst := some 212, op := _, type := _, pos := _, after := _, guard := _ }) (v := ?vb169) rfl (by kernel_rfl) (by kernel_rfl) (by kernel_rfl) (fun _ _ _ h => h) (Or.inl ⟨by rfl, ?hb169⟩) HT2 ?_; (case hb169 => (intro w hSw; obtain ⟨x0, x1, x2, x3, x4, x5, x6, x7, x8, x9, x10, x11⟩ := KS.out w hSw; clear hSw; go_simp; try with_reducible rfl)); try simp only [Act.put, List.setIfInBounds_toArray, List.set_cons_zero, List.set_cons_succ])
      | (refine wpAnyH_take (i := 40) (oi := { dst := some 212, op := _, type := _, pos := _, after := _, guard := _ }) (v := undef) rfl (by kernel_rfl) (by kernel_rfl) (by kernel_rfl) (fun _ _ _ h => h) (Or.inr ⟨by rfl, rfl⟩) HT2 ?_; try simp only [Act.put, List.setIfInBounds_toArray, List.set_cons_zero, List.set_cons_succ])
    first
      | (refine wpAnyH_take (i := 41) (oi := { dst := some 213, op := _, type := _, pos := _, after := _, guard := _ }) (v := ?vb170) rfl (by kernel_rfl) (by kernel_rfl) (by kernel_rfl) (fun _ _ _ h => h) (Or.inl ⟨by rfl, ?hb170⟩) HT2 ?_; (case hb170 => (intro w hSw; obtain ⟨x0, x1, x2, x3, x4, x5, x6, x7, x8, x9, x10, x11⟩ := KS.out w hSw; clear hSw; go_simp; try with_reducible rfl)); try simp only [Act.put, List.setIfInBounds_toArray, List.set_cons_zero, List.set_cons_succ])
      | (refine wpAnyH_take (i := 41) (oi := { dst := some 213, op := _, type := _, pos := _, after := _, guard := _ }) (v := undef) rfl (by kernel_rfl) (by kernel_rfl) (by kernel_rfl) (fun _ _ _ h => h) (Or.inr ⟨by rfl, rfl⟩) HT2 ?_; try simp only [Act.put, List.setIfInBounds_toArray, List.set_cons_zero, List.set_cons_succ])
    first
      | (refine wpAnyH_take (i := 42) (oi := { dst := some 214, op := _, type := _, pos := _, after := _, guard := _ }) (v := ?vb171) rfl (by kernel_rfl) (by kernel_rfl) (by kernel_rfl) (fun _ _ _ h => h) (Or.inl ⟨by rfl, ?hb171⟩) HT2 ?_; (case hb171 => (intro w hSw; obtain ⟨x0, x1, x2, x3, x4, x5, x6, x7, x8, x9, x10, x11⟩ := KS.out w hSw; clear hSw; go_simp; try with_reducible rfl)); try simp only [Act.put, List.setIfInBounds_toArray, List.set_cons_zero, List.set_cons_succ])
      | (refine wpAnyH_take (i := 42) (oi := { dst := some 214, op := _, type := _, pos := _, after := _, guard := _ }) (v := undef) rfl (by kernel_rfl) (by kernel_rfl) (by kernel_rfl) (fun _ _ _ h => h) (Or.inr ⟨by rfl, rfl⟩) HT2 ?_; try simp only [Act.put, List.setIfInBounds_toArray, List.set_cons_zero, List.set_cons_succ])
    first
      | (refine wpAnyH_take (i := 43) (oi := { dst := some 6, op := _, type := _, pos := _, after := _, guard := _ }) (v := ?vb172) rfl (by kernel_rfl) (by kernel_rfl) (by kernel_rfl) (fun _ _ _ h => h) (Or.inl ⟨by rfl, ?hb172⟩) HT2 ?_; (case hb172 => (intro w hSw; obtain ⟨x0, x1, x2, x3, x4, x5, x6, x7, x8, x9, x10, x11⟩ := KS.out w hSw; clear hSw; go_simp; try with_reducible rfl)); try simp only [Act.put, List.setIfInBounds_toArray, List.set_cons_zero, List.set_cons_succ])
      | (refine wpAnyH_take (i := 43) (oi := { dst := some 6, op := _, type := _, pos := _, after := _, guard := _ }) (v := undef) rfl (by kernel_rfl) (by kernel_rfl) (by kernel_rfl) (fun _ _ _ h => h) (Or.inr ⟨by rfl, rfl⟩) HT2 ?_; try simp only [Act.put, List.setIfInBounds_toArray, List.set_cons_zero, List.set_cons_succ])
    refine wpAnyH_done (by kernel_rfl) ?_ _
    go_wp2_with fail
    go_ret
    exact ⟨rfl, bstep hb HT2⟩

end ScanRetires
end Go.Proofs.Ytiakabnfjegeeaa
