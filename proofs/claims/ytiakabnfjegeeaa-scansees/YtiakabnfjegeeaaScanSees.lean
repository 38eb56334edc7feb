/- For every system and every two bytes, the law ScanSees (what a scan has seen are just the slots that aren't 0, core by core, slot by slot, as they were when it looked; it looks at each once) returns true, and the arguments read afterwards as before. No conditions. -/
import Derived.Test.YtiakabnfjegeeaaRows
import Derived.Test.YtiakabnfjegeeaaKShS
import Derived.Test.YtiakabnfjegeeaaKPla
import Derived.Test.YtiakabnfjegeeaaKScD
import Derived.Test.YtiakabnfjegeeaaKOpe
import Derived.Test.YtiakabnfjegeeaaKCoB
import Derived.Test.YtiakabnfjegeeaaKBas
namespace Go.Proofs.Ytiakabnfjegeeaa
namespace ScanSees
open Go.ChangeShapes Go.WideShapes Go.ChangeAt Go.RowKit
set_option linter.unusedVariables false
set_option linter.unusedSimpArgs false

theorem own : ownKnob Try.prog.godebug = none := by kernel_rfl
theorem mInts_self (l : List Int) : mInts l l = true := by simp [mInts]
theorem mSame_self (m : Ar) : mSame m m = true := by simp [mSame, mInts]
set_option maxRecDepth 100000 in
set_option maxHeartbeats 8000000 in
theorem walk_not (A0 B0 C0 L0 : Option Addr) (a0 b0 c0 d0 : Nat) (s0 : Sy) (n1 n2 : Int) (w0 : World) (u0 : 0 ≤ n1) (u1 : n1 ≤ 255) (u2 : 0 ≤ n2) (u3 : n2 ≤ 255)
    (rW : Row w0 A0 s0.M.W) (rG : Row w0 B0 s0.M.G) (rC : RowC w0 C0 s0.C) (rL : RowE w0 L0 s0.L) (g0 : s0.M.W.length ≤ maxLen) (g1 : s0.M.G.length ≤ maxLen) (g2 : s0.C.length ≤ maxLen) (g3 : s0.L.length ≤ maxLen) (q0 : syMays4 s0 = false) :
    Calls Try.prog 5 #[.agg #[.slice A0 s0.M.W.length a0, .slice B0 s0.M.G.length b0, .bool s0.M.bad, .slice C0 s0.C.length c0, .slice L0 s0.L.length d0], .int .u8 n1, .int .u8 n2] w0 fun e w' => e = .returned (.bool true) ∧ Below w0.heap.size w0 w' := by
  have S0 : RS w0 s0 A0 B0 C0 L0 := ⟨rW, rG, rC, rL⟩
  have hb : Below w0.heap.size w0 w0 := Below.refl _ _
  have HC := rmay4_any A0 B0 C0 L0 a0 b0 c0 d0 s0
  rw [q0] at HC
  replace HC := hid (show ∀ w, RS w s0 A0 B0 C0 L0 → Calls Try.prog 17 #[.agg #[.slice A0 s0.M.W.length a0, .slice B0 s0.M.G.length b0, .bool s0.M.bad, .slice C0 s0.C.length c0, .slice L0 s0.L.length d0], .int .i64 40] w fun e w' => e = .returned (.bool false) ∧ Below w.heap.size w w' from fun w h => HC w h.G h.C g1 g0 g2 g3)
  clear rW rG rC rL g0 g1 g2 g3
  go_enter Try.func5, Try.ntmps5
  go_upto_region 1 with (fail)
  have Bk0 := heap_alloc_new w0 (.cells #[.slice A0 s0.M.W.length a0, .slice B0 s0.M.G.length b0, .bool s0.M.bad, .slice C0 s0.C.length c0, .slice L0 s0.L.length d0] 30)
  have lt0 : w0.heap.size < (w0.alloc (.cells #[.slice A0 s0.M.W.length a0, .slice B0 s0.M.G.length b0, .bool s0.M.bad, .slice C0 s0.C.length c0, .slice L0 s0.L.length d0] 30)).heap.size := by simp
  have hk : Below w0.heap.size w0 (w0.alloc (.cells #[.slice A0 s0.M.W.length a0, .slice B0 s0.M.G.length b0, .bool s0.M.bad, .slice C0 s0.C.length c0, .slice L0 s0.L.length d0] 30)) := boxed _ _
  replace S0 := S0.step hk
  replace hb := bstep hb hk
  clear hk
  obtain ⟨v0, hv⟩ : ∃ v, w0.heap.size = v := ⟨_, rfl⟩
  rw [hv] at Bk0 lt0 ⊢
  clear hv
  generalize (w0.alloc (.cells #[.slice A0 s0.M.W.length a0, .slice B0 s0.M.G.length b0, .bool s0.M.bad, .slice C0 s0.C.length c0, .slice L0 s0.L.length d0] 30)) = w1 at *
  go_wp2_with fail
  refine (shown6_any _).mono ?_
  rintro e w2 ⟨rfl, hk⟩
  replace Bk0 := (hk.block v0 lt0).trans Bk0
  replace lt0 := Nat.lt_of_lt_of_le lt0 hk.size
  replace S0 := S0.step hk
  replace hb := bstep hb hk
  clear hk
  go_upto_region 2 with (fail)
  obtain ⟨m0_0, m0_1, m0_2, m0_3, m0_4⟩ := cells5 Bk0
  go_wp2_with (go_at_call 17; refine (HC.out _ S0).mono ?_; rintro e wm ⟨rfl, hk⟩)
  go_ret
  exact ⟨rfl, bstep hb hk⟩

set_option maxRecDepth 100000 in
set_option maxHeartbeats 8000000 in
theorem walk_deep (A0 B0 C0 L0 : Option Addr) (a0 b0 c0 d0 : Nat) (s0 : Sy) (n1 n2 : Int) (w0 : World) (u0 : 0 ≤ n1) (u1 : n1 ≤ 255) (u2 : 0 ≤ n2) (u3 : n2 ≤ 255)
    (rW : Row w0 A0 s0.M.W) (rG : Row w0 B0 s0.M.G) (rC : RowC w0 C0 s0.C) (rL : RowE w0 L0 s0.L) (g0 : s0.M.W.length ≤ maxLen) (g1 : s0.M.G.length ≤ maxLen) (g2 : s0.C.length ≤ maxLen) (g3 : s0.L.length ≤ maxLen) (q0 : syMays4 s0 = true) (qF : ∀ (k : Nat) (x : Co), n1.tmod (s0.C.length : Int) = (k : Int) → s0.C[k]? = some x → 38 ≤ x.F.length) :
    Calls Try.prog 5 #[.agg #[.slice A0 s0.M.W.length a0, .slice B0 s0.M.G.length b0, .bool s0.M.bad, .slice C0 s0.C.length c0, .slice L0 s0.L.length d0], .int .u8 n1, .int .u8 n2] w0 fun e w' => e = .returned (.bool true) ∧ Below w0.heap.size w0 w' := by
  have S0 : RS w0 s0 A0 B0 C0 L0 := ⟨rW, rG, rC, rL⟩
  have hb : Below w0.heap.size w0 w0 := Below.refl _ _
  have HC := rmay4_any A0 B0 C0 L0 a0 b0 c0 d0 s0
  rw [q0] at HC
  replace HC := hid (show ∀ w, RS w s0 A0 B0 C0 L0 → Calls Try.prog 17 #[.agg #[.slice A0 s0.M.W.length a0, .slice B0 s0.M.G.length b0, .bool s0.M.bad, .slice C0 s0.C.length c0, .slice L0 s0.L.length d0], .int .i64 40] w fun e w' => e = .returned (.bool true) ∧ Below w.heap.size w w' from fun w h => HC w h.G h.C g1 g0 g2 g3)
  clear rW rG rC rL g0 g1 g2 g3
  go_enter Try.func5, Try.ntmps5
  go_upto_region 1 with (fail)
  have Bk0 := heap_alloc_new w0 (.cells #[.slice A0 s0.M.W.length a0, .slice B0 s0.M.G.length b0, .bool s0.M.bad, .slice C0 s0.C.length c0, .slice L0 s0.L.length d0] 30)
  have lt0 : w0.heap.size < (w0.alloc (.cells #[.slice A0 s0.M.W.length a0, .slice B0 s0.M.G.length b0, .bool s0.M.bad, .slice C0 s0.C.length c0, .slice L0 s0.L.length d0] 30)).heap.size := by simp
  have hk : Below w0.heap.size w0 (w0.alloc (.cells #[.slice A0 s0.M.W.length a0, .slice B0 s0.M.G.length b0, .bool s0.M.bad, .slice C0 s0.C.length c0, .slice L0 s0.L.length d0] 30)) := boxed _ _
  replace S0 := S0.step hk
  replace hb := bstep hb hk
  clear hk
  obtain ⟨v0, hv⟩ : ∃ v, w0.heap.size = v := ⟨_, rfl⟩
  rw [hv] at Bk0 lt0 ⊢
  clear hv
  generalize (w0.alloc (.cells #[.slice A0 s0.M.W.length a0, .slice B0 s0.M.G.length b0, .bool s0.M.bad, .slice C0 s0.C.length c0, .slice L0 s0.L.length d0] 30)) = w1 at *
  go_wp2_with fail
  refine (shown6_any _).mono ?_
  rintro e w2 ⟨rfl, hk⟩
  replace Bk0 := (hk.block v0 lt0).trans Bk0
  replace lt0 := Nat.lt_of_lt_of_le lt0 hk.size
  replace S0 := S0.step hk
  replace hb := bstep hb hk
  clear hk
  go_upto_region 2 with (fail)
  obtain ⟨m0_0, m0_1, m0_2, m0_3, m0_4⟩ := cells5 Bk0
  go_upto_region 4 with (go_at_call 17; refine (HC.out _ S0).mono ?_; rintro e w3 ⟨rfl, hk⟩)
  clear m0_0 m0_1 m0_2 m0_3 m0_4
  replace Bk0 := (hk.block v0 lt0).trans Bk0
  replace lt0 := Nat.lt_of_lt_of_le lt0 hk.size
  replace S0 := S0.step hk
  replace hb := bstep hb hk
  clear hk
  clear HC
  have hmay : sySmall4 s0 = true ∧ syRight s0 = true := by simpa [syMays4] using q0
  have HF := hid (few_of_small (small_of4 hmay.1))
  have hsm := sySmall4_few hmay.1
  have hr := hmay.2
  simp only [syRight, Bool.and_eq_true, decide_eq_true_eq] at hr
  have HR := hid (Rt.of hr.1.1.1)
  obtain ⟨⟨⟨_, hc1⟩, hc8⟩, _⟩ := hr
  have HGB := hid hsm.1
  have HLB := hid hsm.2.2.2.1
  have HRB := hid (show ∀ x ∈ s0.C, x.ret.length ≤ 210 from fun x hx => (hsm.2.2.2.2 x hx).2.1)
  clear hmay q0 hsm
  obtain ⟨k, hk⟩ : ∃ k : Nat, n1.tmod (s0.C.length : Int) = (k : Int) := ⟨(n1.tmod (s0.C.length : Int)).toNat, by rw [Int.tmod_eq_emod_of_nonneg u0, Int.toNat_of_nonneg (Int.emod_nonneg _ (by omega))]⟩
  have hkl : k < s0.C.length := by have h9 := hk; rw [Int.tmod_eq_emod_of_nonneg u0] at h9; have := Int.emod_lt_of_pos n1 (show (0 : Int) < (s0.C.length : Int) by omega); omega
  obtain ⟨x, hx⟩ : ∃ x, s0.C[k]? = some x := ⟨_, List.getElem?_eq_getElem hkl⟩
  obtain ⟨gC, oC, eC, hbl, hat⟩ := S0.C (by omega)
  subst eC
  obtain ⟨AF, AR, cFq, cR, hcs, rF, rR, hcF⟩ := (hat k x hx).cs4
  clear hat
  have y0 : w3.cell? ⟨gC, oC + k * 7, none⟩ = some (.slice AF x.F.length cFq) := hcs 0 _ rfl
  have y6 : w3.cell? ⟨gC, oC + k * 7 + 6, none⟩ = some (.slice AR x.ret.length cR) := hcs 6 _ rfl
  have kl : (k : Int) < (s0.C.length : Int) := by omega
  have hne : ((s0.C.length : Int) == 0) = false := by rw [beq_eq_false_iff_ne]; omega
  have HX := hid hx
  clear hx hcs rF rR hcF
  obtain ⟨m0_0, m0_1, m0_2, m0_3, m0_4⟩ := cells5 Bk0
  have hq : decide ((38 : Int) ≤ (x.F.length : Int)) = true := by simpa using (show (38 : Int) ≤ (x.F.length : Int) by have := qF k x hk HX.out; omega)
  go_wp2_with fail
  go_ret
  exact ⟨rfl, hb⟩

set_option maxRecDepth 100000 in
set_option maxHeartbeats 8000000 in
theorem walk_yes (A0 B0 C0 L0 : Option Addr) (a0 b0 c0 d0 : Nat) (s0 : Sy) (n1 n2 : Int) (w0 : World) (u0 : 0 ≤ n1) (u1 : n1 ≤ 255) (u2 : 0 ≤ n2) (u3 : n2 ≤ 255)
    (rW : Row w0 A0 s0.M.W) (rG : Row w0 B0 s0.M.G) (rC : RowC w0 C0 s0.C) (rL : RowE w0 L0 s0.L) (g0 : s0.M.W.length ≤ maxLen) (g1 : s0.M.G.length ≤ maxLen) (g2 : s0.C.length ≤ maxLen) (g3 : s0.L.length ≤ maxLen) (q0 : syMays4 s0 = true) (qF : ∀ (k : Nat) (x : Co), n1.tmod (s0.C.length : Int) = (k : Int) → s0.C[k]? = some x → x.F.length < 38) :
    Calls Try.prog 5 #[.agg #[.slice A0 s0.M.W.length a0, .slice B0 s0.M.G.length b0, .bool s0.M.bad, .slice C0 s0.C.length c0, .slice L0 s0.L.length d0], .int .u8 n1, .int .u8 n2] w0 fun e w' => e = .returned (.bool true) ∧ Below w0.heap.size w0 w' := by
  have S0 : RS w0 s0 A0 B0 C0 L0 := ⟨rW, rG, rC, rL⟩
  have hb : Below w0.heap.size w0 w0 := Below.refl _ _
  have HC := rmay4_any A0 B0 C0 L0 a0 b0 c0 d0 s0
  rw [q0] at HC
  replace HC := hid (show ∀ w, RS w s0 A0 B0 C0 L0 → Calls Try.prog 17 #[.agg #[.slice A0 s0.M.W.length a0, .slice B0 s0.M.G.length b0, .bool s0.M.bad, .slice C0 s0.C.length c0, .slice L0 s0.L.length d0], .int .i64 40] w fun e w' => e = .returned (.bool true) ∧ Below w.heap.size w w' from fun w h => HC w h.G h.C g1 g0 g2 g3)
  clear rW rG rC rL g0 g1 g2 g3
  go_enter Try.func5, Try.ntmps5
  go_upto_region 1 with (fail)
  have Bk0 := heap_alloc_new w0 (.cells #[.slice A0 s0.M.W.length a0, .slice B0 s0.M.G.length b0, .bool s0.M.bad, .slice C0 s0.C.length c0, .slice L0 s0.L.length d0] 30)
  have lt0 : w0.heap.size < (w0.alloc (.cells #[.slice A0 s0.M.W.length a0, .slice B0 s0.M.G.length b0, .bool s0.M.bad, .slice C0 s0.C.length c0, .slice L0 s0.L.length d0] 30)).heap.size := by simp
  have hk : Below w0.heap.size w0 (w0.alloc (.cells #[.slice A0 s0.M.W.length a0, .slice B0 s0.M.G.length b0, .bool s0.M.bad, .slice C0 s0.C.length c0, .slice L0 s0.L.length d0] 30)) := boxed _ _
  replace S0 := S0.step hk
  replace hb := bstep hb hk
  clear hk
  obtain ⟨v0, hv⟩ : ∃ v, w0.heap.size = v := ⟨_, rfl⟩
  rw [hv] at Bk0 lt0 ⊢
  clear hv
  generalize (w0.alloc (.cells #[.slice A0 s0.M.W.length a0, .slice B0 s0.M.G.length b0, .bool s0.M.bad, .slice C0 s0.C.length c0, .slice L0 s0.L.length d0] 30)) = w1 at *
  go_wp2_with fail
  refine (shown6_any _).mono ?_
  rintro e w2 ⟨rfl, hk⟩
  replace Bk0 := (hk.block v0 lt0).trans Bk0
  replace lt0 := Nat.lt_of_lt_of_le lt0 hk.size
  replace S0 := S0.step hk
  replace hb := bstep hb hk
  clear hk
  go_upto_region 2 with (fail)
  obtain ⟨m0_0, m0_1, m0_2, m0_3, m0_4⟩ := cells5 Bk0
  go_upto_region 4 with (go_at_call 17; refine (HC.out _ S0).mono ?_; rintro e w3 ⟨rfl, hk⟩)
  clear m0_0 m0_1 m0_2 m0_3 m0_4
  replace Bk0 := (hk.block v0 lt0).trans Bk0
  replace lt0 := Nat.lt_of_lt_of_le lt0 hk.size
  replace S0 := S0.step hk
  replace hb := bstep hb hk
  clear hk
  clear HC
  have hmay : sySmall4 s0 = true ∧ syRight s0 = true := by simpa [syMays4] using q0
  have HF := hid (few_of_small (small_of4 hmay.1))
  have hsm := sySmall4_few hmay.1
  have hr := hmay.2
  simp only [syRight, Bool.and_eq_true, decide_eq_true_eq] at hr
  have HR := hid (Rt.of hr.1.1.1)
  obtain ⟨⟨⟨_, hc1⟩, hc8⟩, _⟩ := hr
  have HGB := hid hsm.1
  have HLB := hid hsm.2.2.2.1
  have HRB := hid (show ∀ x ∈ s0.C, x.ret.length ≤ 210 from fun x hx => (hsm.2.2.2.2 x hx).2.1)
  clear hmay q0 hsm
  obtain ⟨k, hk⟩ : ∃ k : Nat, n1.tmod (s0.C.length : Int) = (k : Int) := ⟨(n1.tmod (s0.C.length : Int)).toNat, by rw [Int.tmod_eq_emod_of_nonneg u0, Int.toNat_of_nonneg (Int.emod_nonneg _ (by omega))]⟩
  have hkl : k < s0.C.length := by have h9 := hk; rw [Int.tmod_eq_emod_of_nonneg u0] at h9; have := Int.emod_lt_of_pos n1 (show (0 : Int) < (s0.C.length : Int) by omega); omega
  obtain ⟨x, hx⟩ : ∃ x, s0.C[k]? = some x := ⟨_, List.getElem?_eq_getElem hkl⟩
  obtain ⟨gC, oC, eC, hbl, hat⟩ := S0.C (by omega)
  subst eC
  obtain ⟨AF, AR, cFq, cR, hcs, rF, rR, hcF⟩ := (hat k x hx).cs4
  clear hat
  have y0 : w3.cell? ⟨gC, oC + k * 7, none⟩ = some (.slice AF x.F.length cFq) := hcs 0 _ rfl
  have y6 : w3.cell? ⟨gC, oC + k * 7 + 6, none⟩ = some (.slice AR x.ret.length cR) := hcs 6 _ rfl
  have kl : (k : Int) < (s0.C.length : Int) := by omega
  have hne : ((s0.C.length : Int) == 0) = false := by rw [beq_eq_false_iff_ne]; omega
  have HX := hid hx
  clear hx hcs rF rR hcF
  obtain ⟨m0_0, m0_1, m0_2, m0_3, m0_4⟩ := cells5 Bk0
  have hxF : x.F.length < 38 := qF k x hk HX.out
  clear qF
  have hq : decide ((38 : Int) ≤ (x.F.length : Int)) = false := by simp; omega
  obtain ⟨m, hm⟩ : ∃ m : Nat, n2.tmod (3 * (s0.C.length : Int) + 1) = (m : Int) := ⟨(n2.tmod (3 * (s0.C.length : Int) + 1)).toNat, by rw [Int.tmod_eq_emod_of_nonneg u2, Int.toNat_of_nonneg (Int.emod_nonneg _ (by omega))]⟩
  have hml : m ≤ 3 * s0.C.length := by have h9 := hm; rw [Int.tmod_eq_emod_of_nonneg u2] at h9; have := Int.emod_lt_of_pos n2 (show (0 : Int) < 3 * (s0.C.length : Int) + 1 by omega); omega
  have hne3 : (3 * (s0.C.length : Int) + 1 == 0) = false := by rw [beq_eq_false_iff_ne]; omega
  have hwl : 128 ≤ s0.M.W.length := by have h1 := HR.out.w; have h2 := HR.out.g2; omega
  have HK := hid (show ∀ (w : World), RS w s0 A0 B0 (some ⟨gC, oC, none⟩) L0 → Calls Try.prog 19 #[(.agg #[.slice A0 s0.M.W.length a0, .slice B0 s0.M.G.length b0, .bool s0.M.bad, .slice (some ⟨gC, oC, none⟩) s0.C.length c0, .slice L0 s0.L.length d0]), .int .i64 (k : Int), .int .i64 6, .int .i64 0, .int .i64 0, .int .i64 0] w (RetSys w (lookN s0 k 0)) from fun w h => rcall_u A0 B0 (some ⟨gC, oC, none⟩) L0 a0 b0 c0 d0 s0 (k : Int) 6 0 0 0 w HF.out h)
  have HE := hid (show ∀ j, j ≤ 3 * s0.C.length → lookN s0 k j = ⟨s0.M, s0.C.set k (cF x (x.F ++ [lookF s0 j])), s0.L⟩ from fun j hj => lookN_is HX.out (by omega) hwl hc1 hc8 j hj)
  have HFW := hid (show ∀ j, j ≤ 3 * s0.C.length → SyFew (lookN s0 k j) ∧ 2 ≤ (lookN s0 k j).M.G.length ∧ (lookN s0 k j).L.length ≤ 999998 from fun j hj => by
    rw [HE.out j hj]
    have FX := HF.out.2.2.2.2 x (List.mem_of_getElem? HX.out)
    refine ⟨few_with (s := s0) HF.out (k := k) ⟨FX.1, ?_, ?_⟩, HR.out.g2, ?_⟩
    · show (x.F ++ [lookF s0 j]).length ≤ 1000000; simp; omega
    · show ∀ f ∈ x.F ++ [lookF s0 j], f.S.length ≤ 1000000
      intro f hf
      rcases List.mem_append.1 hf with h | h
      · exact FX.2.2 f h
      · simp at h; subst h; have := seenTo_le s0.M.W j; show (seenTo s0.M.W j).length ≤ 1000000; omega
    · have := HLB.out; show s0.L.length ≤ 999998; omega)
  have HS := hid (show ∀ (j : Nat) (A B C L : Option Addr) (a b c d : Nat) (w : World), j < m → RS w (lookN s0 k j) A B C L → Calls Try.prog 18 #[.agg #[.slice A (lookN s0 k j).M.W.length a, .slice B (lookN s0 k j).M.G.length b, .bool (lookN s0 k j).M.bad, .slice C (lookN s0 k j).C.length c, .slice L (lookN s0 k j).L.length d], .int .i64 (k : Int)] w (RetSys w (lookN s0 k (j + 1))) from fun j A B C L a b c d w hj h => by
    obtain ⟨h1, h2, h3⟩ := HFW.out j (by omega)
    have h9 := scst_any A B C L a b c d (lookN s0 k j) (k : Int) w h1 h2 h h3 (fun f hf => by
      rw [HE.out j (by omega), core_top (s := ⟨s0.M, _, s0.L⟩) (F := x.F) (f := lookF s0 j) (set_get HX.out) rfl] at hf
      obtain rfl := Option.some.inj hf
      show W64 (j : Int)
      unfold W64; omega)
    exact h9.mono (fun _ _ h => h.weak))
  obtain ⟨sl, hsl⟩ : ∃ l, l = seenTo s0.M.W m := ⟨_, rfl⟩
  have hsl1 : sl.length ≤ 24 := by have := seenTo_le s0.M.W m; rw [hsl]; omega
  obtain ⟨pcv, hpc⟩ : ∃ p : Int, p = if m = 3 * s0.C.length then 1 else 0 := ⟨_, rfl⟩
  have HT := hid (show lookN s0 k m = ⟨s0.M, s0.C.set k (cF x (x.F ++ [⟨6, pcv, [(m : Int), 0, 0, 0, 0, 0, 0, 0], sl⟩])), s0.L⟩ by rw [HE.out m hml, hsl, hpc]; rfl)
  have HTP := hid (show ∀ (A B C L : Option Addr) (a b c d : Nat) (w : World), RS w (⟨s0.M, s0.C.set k (cF x (x.F ++ [⟨6, pcv, [(m : Int), 0, 0, 0, 0, 0, 0, 0], sl⟩])), s0.L⟩ : Sy) A B C L → Calls Try.prog 14 #[.agg #[.slice A s0.M.W.length a, .slice B s0.M.G.length b, .bool s0.M.bad, .slice C s0.C.length c, .slice L s0.L.length d], .int .i64 (k : Int)] w fun e w' => ∃ (A' : Option Addr) (c' : Nat), e = .returned (.tuple #[.agg #[.int .i64 6, .int .i64 pcv, .int .i64 (m : Int), .int .i64 0, .int .i64 0, .int .i64 0, .int .i64 0, .int .i64 0, .int .i64 0, .int .i64 0, .slice A' sl.length c'], .bool true]) ∧ Row w' A' sl ∧ Below w.heap.size w w' from fun A B C L a b c d w h => by
    have hfe : SyFew (⟨s0.M, s0.C.set k (cF x (x.F ++ [⟨6, pcv, [(m : Int), 0, 0, 0, 0, 0, 0, 0], sl⟩])), s0.L⟩ : Sy) := by rw [← HT.out]; exact (HFW.out m hml).1
    have h9 := rtop_is A B C L a b c d _ (k : Int) 6 pcv (m : Int) 0 0 0 0 0 0 0 sl w hfe h (core_top (F := x.F) (set_get HX.out) rfl) (by omega)
    simp only [List.length_set] at h9
    exact h9)
  have HIN := hid (show ∀ (A B : Option Addr) (c d : Nat) (w : World), Row w A sl → Row w B sl → Calls Try.prog 20 #[.slice A sl.length c, .slice B sl.length d] w fun e w' => e = .returned (.bool true) ∧ Below w.heap.size w w' from fun A B c d w h1 h2 => by have h9 := rints_any A B c d sl sl w h1 h2 (by omega); rw [mInts_self] at h9; exact h9)
  have HSM := hid (show ∀ (A A' B B' : Option Addr) (c c' d d' : Nat) (w : World), Row w A s0.M.W → Row w A' s0.M.G → Row w B s0.M.W → Row w B' s0.M.G → Calls Try.prog 23 #[.agg #[.slice A s0.M.W.length c, .slice A' s0.M.G.length c', .bool s0.M.bad], .agg #[.slice B s0.M.W.length d, .slice B' s0.M.G.length d', .bool s0.M.bad]] w fun e w' => e = .returned (.bool true) ∧ Below w.heap.size w w' from fun A A' B B' c c' d d' w h1 h2 h3 h4 => by have h9 := rsame_any A A' B B' c c' d d' s0.M s0.M w h1 h2 h3 h4 (by have := HF.out.1; omega) (by have := HF.out.2.1; omega); rw [mSame_self] at h9; exact h9)
  have HPL := hid (show ∀ (j : Nat) (w : World), j < m → Calls Try.prog 22 #[.int .i64 ((j : Int).tdiv 3), .int .i64 ((j : Int).tmod 3)] w fun e w' => e = .returned (.int .i64 ((8 + j : Nat) : Int)) ∧ w' = w from fun j w hj => by have h9 := rplace_w ((j : Int).tdiv 3) ((j : Int).tmod 3) w; rw [place_of j (by omega)] at h9; exact h9.mono (fun _ _ h => ⟨h.1, h.2.symm⟩))
  have HSL := hid hsl
  have HPC := hid hpc
  clear hsl hpc
  go_upto_region 7 with (fail)
  go_upto_region 8 with (fail)
  go_wp2_with fail
  refine (HK.out _ S0).mono ?_
  rintro e w4 ⟨A7, B7, C7, L7, a7, b7, c7, d7, rfl, tW, tG, tC, tL, hk9⟩
  clear y0 y6
  clear m0_0 m0_1 m0_2 m0_3 m0_4
  replace Bk0 := (hk9.block v0 lt0).trans Bk0
  replace lt0 := Nat.lt_of_lt_of_le lt0 hk9.size
  replace S0 := S0.step hk9
  replace hb := bstep hb hk9
  clear hk9
  have S7 : RS w4 (lookN s0 k 0) A7 B7 C7 L7 := ⟨tW, tG, tC, tL⟩
  clear tW tG tC tL
  go_upto_region 9 with (fail)
  have Bk7 := heap_alloc_new w4 (.cells #[.slice A7 (lookN s0 k 0).M.W.length a7, .slice B7 (lookN s0 k 0).M.G.length b7, .bool (lookN s0 k 0).M.bad, .slice C7 (lookN s0 k 0).C.length c7, .slice L7 (lookN s0 k 0).L.length d7] 30)
  have lt7 : w4.heap.size < (w4.alloc (.cells #[.slice A7 (lookN s0 k 0).M.W.length a7, .slice B7 (lookN s0 k 0).M.G.length b7, .bool (lookN s0 k 0).M.bad, .slice C7 (lookN s0 k 0).C.length c7, .slice L7 (lookN s0 k 0).L.length d7] 30)).heap.size := by simp
  have hk : Below w4.heap.size w4 (w4.alloc (.cells #[.slice A7 (lookN s0 k 0).M.W.length a7, .slice B7 (lookN s0 k 0).M.G.length b7, .bool (lookN s0 k 0).M.bad, .slice C7 (lookN s0 k 0).C.length c7, .slice L7 (lookN s0 k 0).L.length d7] 30)) := boxed _ _
  have ne0_7 : v0 ≠ w4.heap.size := Nat.ne_of_lt lt0
  have nw7 : w0.heap.size ≤ w4.heap.size := hb.size
  replace Bk0 := (hk.block v0 lt0).trans Bk0
  replace lt0 := Nat.lt_of_lt_of_le lt0 hk.size
  replace S0 := S0.step hk
  replace S7 := S7.step hk
  replace hb := bstep hb hk
  clear hk
  obtain ⟨v7, hv⟩ : ∃ v, w4.heap.size = v := ⟨_, rfl⟩
  replace nw7 := Nat.le_trans nw7 (Nat.le_of_eq hv)
  rw [hv] at Bk7 lt7 ne0_7 ⊢
  clear hv
  generalize (w4.alloc (.cells #[.slice A7 (lookN s0 k 0).M.W.length a7, .slice B7 (lookN s0 k 0).M.G.length b7, .bool (lookN s0 k 0).M.bad, .slice C7 (lookN s0 k 0).C.length c7, .slice L7 (lookN s0 k 0).L.length d7] 30)) = w5 at *
  go_wp2_with fail
  obtain ⟨E1, hE1⟩ : ∃ E : Value → World → Prop, E = (fun i wr => ∃ (j : Nat) (A B C L : Option Addr) (a b c d : Nat), j ≤ m ∧ i = .int .i64 j ∧ wr.heap[v7]? = some (.cells #[.slice A (lookN s0 k j).M.W.length a, .slice B (lookN s0 k j).M.G.length b, .bool (lookN s0 k j).M.bad, .slice C (lookN s0 k j).C.length c, .slice L (lookN s0 k j).L.length d] 30 (0, 0)) ∧ wr.heap[v0]? = some (.cells #[.slice A0 s0.M.W.length a0, .slice B0 s0.M.G.length b0, .bool s0.M.bad, .slice (some ⟨gC, oC, none⟩) s0.C.length c0, .slice L0 s0.L.length d0] 30 (0, 0)) ∧ RS wr (lookN s0 k j) A B C L ∧ RS wr s0 A0 B0 (some ⟨gC, oC, none⟩) L0 ∧ Below w0.heap.size w0 wr) := ⟨_, rfl⟩
  go_loopw [11] (fun i wr => E1 i wr) (fun i _ => m - (intOf i).toNat)
  case atStart => rw [hE1]; exact ⟨0, A7, B7, C7, L7, a7, b7, c7, d7, by omega, rfl, Bk7, Bk0, S7, S0, hb⟩
  case round =>
    clear hb Bk0 lt0 Bk7 lt7 S0 S7
    have hrel0 := hrel
    rw [hE1] at hrel0
    clear hrel
    obtain ⟨j, A, B, C, L, a, b, c, d, hjm, rfl, kB, kB0, kS, kS0, kb⟩ := hrel0
    have lz : v7 < wr.heap.size := (Array.getElem?_eq_some_iff.1 kB).1
    have ly : v0 < wr.heap.size := (Array.getElem?_eq_some_iff.1 kB0).1
    by_cases hlt : j < m
    · obtain ⟨p0, p1, p2, p3, p4⟩ := cells5 kB
      have kl3 : (j : Int) < (m : Int) := by omega
      go_wp2_with (go_at_call 18; (with_reducible refine (HS.out j A B C L a b c d _ hlt kS).mono ?_); rintro e w9 ⟨A9, B9, C9, L9, a9, b9, c9, d9, rfl, tW, tG, tC, tL, hk9⟩; have K9 := (hk9.block v7 lz).trans kB; obtain ⟨y0, y1, y2, y3, y4⟩ := cells5 K9; obtain ⟨yf0, yf1, yf2, yf3, yf4⟩ := frz5 K9)
      have REL : E1 (.int .i64 ((j + 1 : Nat) : Int)) ((((((w9.setCell ⟨v7, 0, none⟩ (.slice A9 (lookN s0 k (j + 1)).M.W.length a9)).setCell ⟨v7, 1, none⟩ (.slice B9 (lookN s0 k (j + 1)).M.G.length b9)).setCell ⟨v7, 2, none⟩ (.bool (lookN s0 k (j + 1)).M.bad)).setCell ⟨v7, 3, none⟩ (.slice C9 (lookN s0 k (j + 1)).C.length c9)).setCell ⟨v7, 4, none⟩ (.slice L9 (lookN s0 k (j + 1)).L.length d9))) := by
        rw [hE1]
        exact ⟨j + 1, A9, B9, C9, L9, a9, b9, c9, d9, by omega, rfl, blk5 K9 _ _ _ _ _, ((turn5 w9 v7 _ _ _ _ _).block v0 (Nat.lt_of_lt_of_le ly hk9.size) ne0_7).trans ((hk9.block v0 ly).trans kB0), (RS.mk tW tG tC tL).turnN (turn5 _ _ _ _ _ _ _) (noInt_sys K9), (kS0.step hk9).turnN (turn5 _ _ _ _ _ _ _) (noInt_sys K9), (bstep kb hk9).trans ((turn5 _ _ _ _ _ _ _).to_below (bstep kb hk9).size (fun g hg => by rw [hg]; exact nw7))⟩
      go_roundw
      case rel => exact REL
      case measure => simp [intOf]; omega
    · have hj4 : m = j := by omega
      subst hj4
      rw [HT.out] at kB kS
      simp only [List.length_set] at kB
      clear hE1 HS HK HE HFW HT
      have jl : ¬ (m : Int) < (m : Int) := by omega
      obtain ⟨w20, hwr⟩ : ∃ v, v = wr := ⟨_, rfl⟩
      subst hwr
      have Bk7 := kB
      have Bk0 := kB0
      have lt7 := lz
      have lt0 := ly
      have S0 := kS0
      have S7 := kS
      have hb := kb
      clear kB kB0 lz ly kS kS0 kb
      obtain ⟨m7_0, m7_1, m7_2, m7_3, m7_4⟩ := cells5 Bk7
      go_upto_region 14 with (go_at_call 14; (with_reducible refine (HTP.out _ _ _ _ _ _ _ _ _ S7).mono ?_); rintro e w21 ⟨AT, cT, rfl, rT, hk⟩)
      clear m7_0 m7_1 m7_2 m7_3 m7_4
      replace Bk0 := (hk.block v0 lt0).trans Bk0
      replace lt0 := Nat.lt_of_lt_of_le lt0 hk.size
      replace Bk7 := (hk.block v7 lt7).trans Bk7
      replace lt7 := Nat.lt_of_lt_of_le lt7 hk.size
      replace S0 := S0.step hk
      replace S7 := S7.step hk
      replace hb := bstep hb hk
      clear hk
      clear HTP
      have BkT := heap_alloc_new w21 (.cells #[.int .i64 6, .int .i64 pcv, .int .i64 (m : Int), .int .i64 0, .int .i64 0, .int .i64 0, .int .i64 0, .int .i64 0, .int .i64 0, .int .i64 0, .slice AT sl.length cT] 44)
      have ltT : w21.heap.size < (w21.alloc (.cells #[.int .i64 6, .int .i64 pcv, .int .i64 (m : Int), .int .i64 0, .int .i64 0, .int .i64 0, .int .i64 0, .int .i64 0, .int .i64 0, .int .i64 0, .slice AT sl.length cT] 44)).heap.size := by simp
      have hk : Below w21.heap.size w21 (w21.alloc (.cells #[.int .i64 6, .int .i64 pcv, .int .i64 (m : Int), .int .i64 0, .int .i64 0, .int .i64 0, .int .i64 0, .int .i64 0, .int .i64 0, .int .i64 0, .slice AT sl.length cT] 44)) := boxed _ _
      replace Bk0 := (hk.block v0 lt0).trans Bk0
      replace lt0 := Nat.lt_of_lt_of_le lt0 hk.size
      replace Bk7 := (hk.block v7 lt7).trans Bk7
      replace lt7 := Nat.lt_of_lt_of_le lt7 hk.size
      replace S0 := S0.step hk
      replace S7 := S7.step hk
      replace rT := rT.step hk
      replace hb := bstep hb hk
      clear hk
      obtain ⟨vT, hv⟩ : ∃ v, w21.heap.size = v := ⟨_, rfl⟩
      rw [hv] at BkT ltT ⊢
      clear hv
      generalize (w21.alloc (.cells #[.int .i64 6, .int .i64 pcv, .int .i64 (m : Int), .int .i64 0, .int .i64 0, .int .i64 0, .int .i64 0, .int .i64 0, .int .i64 0, .int .i64 0, .slice AT sl.length cT] 44)) = w22 at *
      go_upto_region 15 with (fail)
      skip
      obtain ⟨E2, hE2⟩ : ∃ E : Value → Value → World → Prop, E = (fun v i wr => ∃ q : Nat, q ≤ m ∧ i = .int .i64 q ∧ wr.ownsRow w22.heap.size 3 1 v (seenTo s0.M.W q).length ((seenTo s0.M.W q).map inCells).flatten ∧ Below w22.heap.size w22 wr) := ⟨_, rfl⟩
      have hst : E2 (.slice (some ⟨w22.heap.size, 0, none⟩) 0 0) (.int .i64 0) (w22.alloc (.cells #[] 3)) := by rw [hE2]; exact ⟨0, Nat.zero_le _, rfl, own_empty (heap_alloc_new w22 _), boxed _ _⟩
      go_wp2_with fail
      generalize w22.alloc (.cells #[] 3) = wq at hst ⊢
      go_loopw [14, 15] (fun v i wr => E2 v i wr) (fun _ i _ => m - (intOf i).toNat)
      case atStart => exact hst
      case round =>
        have hrel0 := hrel
        rw [hE2] at hrel0
        clear hrel hst
        obtain ⟨q, hq9, rfl, ho, hk1⟩ := hrel0
        obtain ⟨A1, c1, rfl⟩ := own_val ho
        have B0r := (hk1.block v0 lt0).trans Bk0
        by_cases hql : q < m
        · have ql : (q : Int) < (m : Int) := by omega
          obtain ⟨gW, oW, eW, hbW, hatW⟩ := S0.W (by omega)
          subst eW
          obtain ⟨u, hu⟩ : ∃ u, u = s0.M.W.getD (8 + q) 0 := ⟨_, rfl⟩
          have cW : wr.cell? ⟨gW, oW + (8 + q), none⟩ = some (.int .i64 u) := (hk1.cell hbW).trans (hatW (8 + q) u (by rw [hu, List.getD_eq_getElem?_getD, List.getElem?_eq_getElem (show 8 + q < s0.M.W.length by omega)]; rfl))
          obtain ⟨z0, z1, z2, z3, z4⟩ := cells5 B0r
          have wl : ((8 + q : Nat) : Int) < (s0.M.W.length : Int) := by omega
          have wl0 : (0 : Int) ≤ ((8 + q : Nat) : Int) := by omega
          have HU := hid hu
          have HO := hid ho
          clear hu ho hatW
          go_upto_region 18 with (fail)
          go_upto_region 19 with (go_quiet ((go_at_call 22; refine Calls.quiet_of_same (HPL.out q _ hql))))
          have hkn : Below wr.heap.size wr (wr.drewN nq) := bdrewN (Below.refl _ _) nq
          have hk2 := bstep hk1 hkn
          have ho2 := own_step HO.out hkn
          have hsz := hk2.size
          generalize wr.drewN nq = wn at *
          by_cases hu0 : u = 0
          · have dz : (u != 0) = false := by simpa using hu0
            have HE9 := hid (seenTo_zero (W := s0.M.W) (j := q) (by rw [← HU.out]; exact hu0))
            rw [← HE9.out] at ho2
            have REL : E2 (.slice A1 (seenTo s0.M.W (q + 1)).length c1) (.int .i64 ((q + 1 : Nat) : Int)) wn := by rw [hE2]; exact ⟨q + 1, by omega, rfl, ho2, hk2⟩
            rw [HE9.out] at REL
            go_wp2_with fail
            go_roundw
            case rel => exact REL
            case measure => simp [intOf]; omega
          · have dz : (u != 0) = true := by simpa using hu0
            have HE9 := hid (seenTo_more (W := s0.M.W) (j := q) (by rw [← HU.out]; exact hu0))
            have hle := seenTo_le s0.M.W q
            go_wp2_with (at_builtin; (refine wpList_append_ontoR rfl _ _ _ rfl w22.heap.size Try.underlying24 infoI _ _ (seenTo s0.M.W q) rfl rfl (own_step ho2 (boxed _ _)) _ _ 1 [u] rfl rfl (Blk.row (heap_alloc_new wn (.cells #[.int .i64 u] 3))) (by simp; omega) (by simp; omega) ?_); intro v8 w8 ho8 hg8)
            obtain ⟨A8, c8, rfl⟩ := own_val ho8
            have hk8 : Below w22.heap.size wn w8 := ((boxed wn (.cells #[.int .i64 u] 3)).mono hsz).trans (Turn.to_below ((Turn.refl (fun b => w22.heap.size ≤ b) _).grown hg8 (fun g e => (ho2.lt g e).1)) (by simp; omega) (fun _ h => h))
            have HUU := HU.out
            rw [show seenTo s0.M.W q ++ [u] = seenTo s0.M.W (q + 1) by rw [HE9.out, HUU]] at ho8 ⊢
            have REL : E2 (.slice A8 (seenTo s0.M.W (q + 1)).length c8) (.int .i64 ((q + 1 : Nat) : Int)) w8 := by rw [hE2]; exact ⟨q + 1, by omega, rfl, ho8, hk2.trans hk8⟩
            go_roundw
            case rel => exact REL
            case measure => simp [intOf]; omega
        · have ql : ¬ (q : Int) < (m : Int) := by omega
          have hqm : m = q := by omega
          subst hqm
          rw [← HSL.out] at ho
          have r8 : ∃ A8 c8, Value.slice A1 sl.length c1 = .slice A8 sl.length c8 ∧ Row wr A8 sl := own_row1 ho rfl
          obtain ⟨A8, c8, e8, rS⟩ := r8
          injection e8 with e8 _ e9
          subst e8 e9
          clear ho B0r hE2
          obtain ⟨w30, hw9⟩ : ∃ v, v = wr := ⟨_, rfl⟩
          subst hw9
          replace rT := rT.step hk1
          replace S0 := S0.step hk1
          replace S7 := S7.step hk1
          replace hb := bstep hb hk1
          replace Bk0 := (hk1.block v0 lt0).trans Bk0
          replace lt0 := Nat.lt_of_lt_of_le lt0 hk1.size
          replace Bk7 := (hk1.block v7 lt7).trans Bk7
          replace lt7 := Nat.lt_of_lt_of_le lt7 hk1.size
          replace BkT := (hk1.block vT ltT).trans BkT
          replace ltT := Nat.lt_of_lt_of_le ltT hk1.size
          rw [← HSL.out]
          clear hk1
          go_upto_region 21 with (fail)
          by_cases hm3 : m = 3 * s0.C.length
          · have hpv : pcv = 1 := by rw [HPC.out, if_pos hm3]
            have hw3 : IntKind.i64.wrap (3 * (s0.C.length : Int)) = 3 * (s0.C.length : Int) := IntWalk.i64_in _ (by omega)
            have hme : ((m : Int) == 3 * (s0.C.length : Int)) = true := by simp; omega
            clear HPC hm3
            subst hpv
            obtain ⟨m0_0, m0_1, m0_2, m0_3⟩ := cells4 Bk0
            obtain ⟨m7_0, m7_1, m7_2⟩ := cells3 Bk7
            obtain ⟨mT_0, mT_1, mT_2, -, -, -, -, -, -, -, mT_10⟩ := cells11 BkT
            go_wp2_with (first | (go_at_call 20; (with_reducible refine (HIN.out _ _ _ _ _ rT rS).mono ?_); rintro e wk1 ⟨rfl, hk1⟩; have n0_0 : wk1.cell? ⟨v0, 0, none⟩ = some (.slice A0 s0.M.W.length a0) := (hk1.cell lt0).trans m0_0; have n0_1 : wk1.cell? ⟨v0, 1, none⟩ = some (.slice B0 s0.M.G.length b0) := (hk1.cell lt0).trans m0_1; have n0_2 : wk1.cell? ⟨v0, 2, none⟩ = some (.bool s0.M.bad) := (hk1.cell lt0).trans m0_2; have n0_3 : wk1.cell? ⟨v0, 3, none⟩ = some (.slice (some ⟨gC, oC, none⟩) s0.C.length c0) := (hk1.cell lt0).trans m0_3; have n7_0 : wk1.cell? ⟨v7, 0, none⟩ = some (.slice A s0.M.W.length a) := (hk1.cell lt7).trans m7_0; have n7_1 : wk1.cell? ⟨v7, 1, none⟩ = some (.slice B s0.M.G.length b) := (hk1.cell lt7).trans m7_1; have n7_2 : wk1.cell? ⟨v7, 2, none⟩ = some (.bool s0.M.bad) := (hk1.cell lt7).trans m7_2; have nT_0 : wk1.cell? ⟨vT, 0, none⟩ = some (.int .i64 6) := (hk1.cell ltT).trans mT_0; have nT_1 : wk1.cell? ⟨vT, 1, none⟩ = some (.int .i64 1) := (hk1.cell ltT).trans mT_1; have nT_2 : wk1.cell? ⟨vT, 2, none⟩ = some (.int .i64 (m : Int)) := (hk1.cell ltT).trans mT_2; have nT_10 : wk1.cell? ⟨vT, 10, none⟩ = some (.slice AT sl.length cT) := (hk1.cell ltT).trans mT_10) | (go_at_call 23; (with_reducible refine (HSM.out _ _ _ _ _ _ _ _ _ (S7.W.step hk1) (S7.G.step hk1) (S0.W.step hk1) (S0.G.step hk1)).mono ?_); rintro e wk2 ⟨rfl, hk2⟩))
            go_ret
            exact ⟨rfl, bstep (bstep hb hk1) hk2⟩
          · have hpv : pcv = 0 := by rw [HPC.out, if_neg hm3]
            have hw3 : IntKind.i64.wrap (3 * (s0.C.length : Int)) = 3 * (s0.C.length : Int) := IntWalk.i64_in _ (by omega)
            have hme : ((m : Int) == 3 * (s0.C.length : Int)) = false := by rw [beq_eq_false_iff_ne]; omega
            clear HPC hm3
            subst hpv
            obtain ⟨m0_0, m0_1, m0_2, m0_3⟩ := cells4 Bk0
            obtain ⟨m7_0, m7_1, m7_2⟩ := cells3 Bk7
            obtain ⟨mT_0, mT_1, mT_2, -, -, -, -, -, -, -, mT_10⟩ := cells11 BkT
            go_wp2_with (first | (go_at_call 20; (with_reducible refine (HIN.out _ _ _ _ _ rT rS).mono ?_); rintro e wk1 ⟨rfl, hk1⟩; have n0_0 : wk1.cell? ⟨v0, 0, none⟩ = some (.slice A0 s0.M.W.length a0) := (hk1.cell lt0).trans m0_0; have n0_1 : wk1.cell? ⟨v0, 1, none⟩ = some (.slice B0 s0.M.G.length b0) := (hk1.cell lt0).trans m0_1; have n0_2 : wk1.cell? ⟨v0, 2, none⟩ = some (.bool s0.M.bad) := (hk1.cell lt0).trans m0_2; have n0_3 : wk1.cell? ⟨v0, 3, none⟩ = some (.slice (some ⟨gC, oC, none⟩) s0.C.length c0) := (hk1.cell lt0).trans m0_3; have n7_0 : wk1.cell? ⟨v7, 0, none⟩ = some (.slice A s0.M.W.length a) := (hk1.cell lt7).trans m7_0; have n7_1 : wk1.cell? ⟨v7, 1, none⟩ = some (.slice B s0.M.G.length b) := (hk1.cell lt7).trans m7_1; have n7_2 : wk1.cell? ⟨v7, 2, none⟩ = some (.bool s0.M.bad) := (hk1.cell lt7).trans m7_2; have nT_0 : wk1.cell? ⟨vT, 0, none⟩ = some (.int .i64 6) := (hk1.cell ltT).trans mT_0; have nT_1 : wk1.cell? ⟨vT, 1, none⟩ = some (.int .i64 0) := (hk1.cell ltT).trans mT_1; have nT_2 : wk1.cell? ⟨vT, 2, none⟩ = some (.int .i64 (m : Int)) := (hk1.cell ltT).trans mT_2; have nT_10 : wk1.cell? ⟨vT, 10, none⟩ = some (.slice AT sl.length cT) := (hk1.cell ltT).trans mT_10) | (go_at_call 23; (with_reducible refine (HSM.out _ _ _ _ _ _ _ _ _ (S7.W.step hk1) (S7.G.step hk1) (S0.W.step hk1) (S0.G.step hk1)).mono ?_); rintro e wk2 ⟨rfl, hk2⟩))
            go_ret
            exact ⟨rfl, bstep (bstep hb hk1) hk2⟩

theorem walk (A0 B0 C0 L0 : Option Addr) (a0 b0 c0 d0 : Nat) (s0 : Sy) (n1 n2 : Int) (w0 : World) (u0 : 0 ≤ n1) (u1 : n1 ≤ 255) (u2 : 0 ≤ n2) (u3 : n2 ≤ 255)
    (rW : Row w0 A0 s0.M.W) (rG : Row w0 B0 s0.M.G) (rC : RowC w0 C0 s0.C) (rL : RowE w0 L0 s0.L) (g0 : s0.M.W.length ≤ maxLen) (g1 : s0.M.G.length ≤ maxLen) (g2 : s0.C.length ≤ maxLen) (g3 : s0.L.length ≤ maxLen) :
    Calls Try.prog 5 #[.agg #[.slice A0 s0.M.W.length a0, .slice B0 s0.M.G.length b0, .bool s0.M.bad, .slice C0 s0.C.length c0, .slice L0 s0.L.length d0], .int .u8 n1, .int .u8 n2] w0 fun e w' => e = .returned (.bool true) ∧ Below w0.heap.size w0 w' := by
  rcases q0 : syMays4 s0 with _ | _
  · exact walk_not A0 B0 C0 L0 a0 b0 c0 d0 s0 n1 n2 w0 u0 u1 u2 u3 rW rG rC rL g0 g1 g2 g3 q0
  · by_cases qF : ∀ (k : Nat) (x : Co), n1.tmod (s0.C.length : Int) = (k : Int) → s0.C[k]? = some x → x.F.length < 38
    · exact walk_yes A0 B0 C0 L0 a0 b0 c0 d0 s0 n1 n2 w0 u0 u1 u2 u3 rW rG rC rL g0 g1 g2 g3 q0 qF
    · refine walk_deep A0 B0 C0 L0 a0 b0 c0 d0 s0 n1 n2 w0 u0 u1 u2 u3 rW rG rC rL g0 g1 g2 g3 q0 (fun k x h1 h2 => ?_)
      apply Classical.byContradiction
      intro h3
      exact qF (fun k' x' h1' h2' => by
        have e1 : k' = k := by omega
        subst e1
        rw [h2] at h2'
        obtain rfl := Option.some.inj h2'
        omega)

set_option maxRecDepth 100000 in
theorem lifted (os : Os) (started : os.Started) (H : Type) (enc : TypeId × Value → H) :
    ReturnsInHanded {} Try.checked os 5 .any (Rows.scanSeesSpec.pre6 enc Try.prog Try.f5 Rows.scanSeesRow.domain false) (Rows.scanSeesSpec.post enc Try.prog Try.f5 false true false false) := by
  refine returnsInHanded_of_change (C := Try.checked) own started (by kernel_rfl) Try.func5
    (ChangeSpec.witness6 (enc := enc) (C := Try.checked) false ⟨#[], #[.agg #[.slice none 0 0, .slice none 0 0, .bool false, .slice none 0 0, .slice none 0 0], .int .u8 0, .int .u8 0], []⟩ 8 (by kernel_rfl) (by kernel_rfl) (by kernel_rfl) (by kernel_rfl)) ?_
  intro W base args ds gs before hval0 hW hcnd _
  have hval : ∀ (j : Nat) t v, Try.f5.params[j]? = some t → args[j]? = some v → Value.okWide Try.prog W .any base t v := hval0
  have hW' := hW
  obtain ⟨p, q, hA0, hV, rfl, hfz, hnd⟩ := hW
  have hA : DataW.TrodAll enc Try.prog W 0 (fun _ => true) true Try.f5.params.toList args.toList ds p := hA0
  rw [Try.params5] at hA hval
  obtain ⟨v0, vs0, d0, ds0, p0, q0, hargs, rfl, rfl, h0, r0⟩ := trodAll_cons hA
  obtain ⟨v1, vs1, d1, ds1, p1, q1, rfl, rfl, rfl, h1, r1⟩ := trodAll_cons r0
  obtain ⟨v2, vs2, d2, ds2, p2, q2, rfl, rfl, rfl, h2, r2⟩ := trodAll_cons r1
  obtain ⟨rfl, rfl, rfl⟩ := trodAll_nil r2
  obtain rfl : args = #[v0, v1, v2] := by cases args; simp_all
  obtain ⟨rfl, rfl⟩ := trodVars_none hV
  clear hA0 hval0
  obtain ⟨A0, B0, C0, L0, a0, b0, c0, d0, s0, rfl, rW, rG, rC, rL, l0, l1, l2, l3, hin⟩ := open_systemW (hval 0 _ v0 rfl rfl) h0
  obtain ⟨m1, hm1⟩ := h1
  obtain ⟨a, e1, _, u1⟩ := DataW.trod_int Try.underlying5 hm1
  obtain ⟨a', rfl⟩ := okWide_int Try.underlying5 (hval 1 5 v1 rfl rfl)
  obtain rfl : a' = a := by simpa [Value.cells] using e1
  obtain ⟨y0, y1⟩ := bounds_u8 u1
  obtain ⟨m2, hm2⟩ := h2
  obtain ⟨a2, e2, _, u2⟩ := DataW.trod_int Try.underlying5 hm2
  obtain ⟨a2', rfl⟩ := okWide_int Try.underlying5 (hval 2 5 v2 rfl rfl)
  obtain rfl : a2' = a2 := by simpa [Value.cells] using e2
  obtain ⟨y2, y3⟩ := bounds_u8 u2
  refine (walk A0 B0 C0 L0 a0 b0 c0 d0 s0 a' a2' W y0 y1 y2 y3 rW rG rC rL l0 l1 l2 l3).mono fun e W' ⟨he, hb⟩ => ?_
  subst he
  exact ⟨_, rfl, law_post (tb := 4) (by kernel_rfl) (by kernel_rfl) (by kernel_rfl) Try.underlying4 rfl hW' rfl hb⟩

theorem over : Rows.scanSeesRow.holds Try.pinned (OpenSpec.ofChange Rows.scanSeesSpec) :=
  OpenClaim.holds_of_wide 5 Try.f5 rfl rfl rfl rfl rfl rfl rfl ⟨rfl, rfl, rfl, rfl, rfl⟩ rfl rfl rfl rfl rfl (by kernel_rfl) Try.func5 (by kernel_rfl)
    (of_decide_eq_true (by kernel_rfl)) (by unfold Func.isWrapper; first | (rw [if_pos (by decide +kernel)]; kernel_rfl) | (rw [if_neg (by decide +kernel)]; exact ⟨rfl, rfl⟩))
    (fun os started H enc _ => lifted os started H enc)
end ScanSees

theorem scanSees_holds : Rows.ScanSeesSaid := ScanSees.over
#print axioms scanSees_holds
end Go.Proofs.Ytiakabnfjegeeaa
