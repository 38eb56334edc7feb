/- For every system and every byte, the law HazClears (a core that clears its slots names nothing within three steps, and no other core's slots are changed) returns true, and the arguments read afterwards as before. No conditions. -/
import Derived.Test.YtgjpgbdloflfbaaRows
import Derived.Test.YtgjpgbdloflfbaaShown5
import Derived.Test.YtgjpgbdloflfbaaHaz6
import Derived.Test.YtgjpgbdloflfbaaOpen7
import Derived.Test.YtgjpgbdloflfbaaKCoB
import Derived.Test.YtgjpgbdloflfbaaKBas
namespace Go.Proofs.Ytgjpgbdloflfbaa
namespace HazClears
open Go.ChangeShapes Go.WideShapes Go.ChangeAt Go.RowKit
set_option linter.unusedVariables false
set_option linter.unusedSimpArgs false

theorem own : ownKnob Try.prog.godebug = none := by kernel_rfl
set_option maxRecDepth 100000 in
set_option maxHeartbeats 8000000 in
theorem walk_not (A0 B0 C0 L0 : Option Addr) (a0 b0 c0 d0 : Nat) (s0 : Sy) (n1 : Int) (w0 : World) (u0 : 0 ≤ n1) (u1 : n1 ≤ 255)
    (rW : Row w0 A0 s0.M.W) (rG : Row w0 B0 s0.M.G) (rC : RowC w0 C0 s0.C) (rL : RowE w0 L0 s0.L) (g0 : s0.M.W.length ≤ maxLen) (g1 : s0.M.G.length ≤ maxLen) (g2 : s0.C.length ≤ maxLen) (g3 : s0.L.length ≤ maxLen) (q0 : syMays s0 = false) :
    Calls Try.prog 8 #[.agg #[.slice A0 s0.M.W.length a0, .slice B0 s0.M.G.length b0, .bool s0.M.bad, .slice C0 s0.C.length c0, .slice L0 s0.L.length d0], .int .u8 n1] w0 fun e w' => e = .returned (.bool true) ∧ Below w0.heap.size w0 w' := by
  have S0 : RS w0 s0 A0 B0 C0 L0 := ⟨rW, rG, rC, rL⟩
  have hb : Below w0.heap.size w0 w0 := Below.refl _ _
  have HC := rmay3_any A0 B0 C0 L0 a0 b0 c0 d0 s0
  rw [q0] at HC
  replace HC := hid (show ∀ w, RS w s0 A0 B0 C0 L0 → Calls Try.prog 23 #[.agg #[.slice A0 s0.M.W.length a0, .slice B0 s0.M.G.length b0, .bool s0.M.bad, .slice C0 s0.C.length c0, .slice L0 s0.L.length d0], .int .i64 60] w fun e w' => e = .returned (.bool false) ∧ Below w.heap.size w w' from fun w h => HC w h.G h.C g1 g0 g2 g3)
  clear rW rG rC rL g0 g1 g2 g3
  go_enter Try.func8, Try.ntmps8
  go_upto_region 1 with (fail)
  have Bk0 := heap_alloc_new w0 (.cells #[.slice A0 s0.M.W.length a0, .slice B0 s0.M.G.length b0, .bool s0.M.bad, .slice C0 s0.C.length c0, .slice L0 s0.L.length d0] 30)
  have lt0 : w0.heap.size < (w0.alloc (.cells #[.slice A0 s0.M.W.length a0, .slice B0 s0.M.G.length b0, .bool s0.M.bad, .slice C0 s0.C.length c0, .slice L0 s0.L.length d0] 30)).heap.size := by simp
  have hk : Below w0.heap.size w0 (w0.alloc (.cells #[.slice A0 s0.M.W.length a0, .slice B0 s0.M.G.length b0, .bool s0.M.bad, .slice C0 s0.C.length c0, .slice L0 s0.L.length d0] 30)) := boxed _ _
  replace S0 := S0.step hk
  replace hb := bstep hb hk
  clear hk
  obtain ⟨v0, hv⟩ : ∃ v, w0.heap.size = v := ⟨_, rfl⟩
  rw [hv] at Bk0 lt0 ⊢
  clear hv
  generalize (w0.alloc (.cells #[.slice A0 s0.M.W.length a0, .slice B0 s0.M.G.length b0, .bool s0.M.bad, .slice C0 s0.C.length c0, .slice L0 s0.L.length d0] 30)) = w1 at *
  go_wp2_with fail
  refine (shown5_any _).mono ?_
  rintro e w2 ⟨rfl, hk⟩
  replace Bk0 := (hk.block v0 lt0).trans Bk0
  replace lt0 := Nat.lt_of_lt_of_le lt0 hk.size
  replace S0 := S0.step hk
  replace hb := bstep hb hk
  clear hk
  go_upto_region 2 with (fail)
  have m0_0 : w2.cell? ⟨v0, 0, none⟩ = some (.slice A0 s0.M.W.length a0) := cell_of_row w2 _ 0 _ _ _ Bk0
  have m0_1 : w2.cell? ⟨v0, 1, none⟩ = some (.slice B0 s0.M.G.length b0) := cell_of_row w2 _ 1 _ _ _ Bk0
  have m0_2 : w2.cell? ⟨v0, 2, none⟩ = some (.bool s0.M.bad) := cell_of_row w2 _ 2 _ _ _ Bk0
  have m0_3 : w2.cell? ⟨v0, 3, none⟩ = some (.slice C0 s0.C.length c0) := cell_of_row w2 _ 3 _ _ _ Bk0
  have m0_4 : w2.cell? ⟨v0, 4, none⟩ = some (.slice L0 s0.L.length d0) := cell_of_row w2 _ 4 _ _ _ Bk0
  go_wp2_with (go_at_call 23; refine (HC.out _ S0).mono ?_; rintro e wm ⟨rfl, hk⟩)
  go_ret
  exact ⟨rfl, bstep hb hk⟩

set_option maxRecDepth 100000 in
set_option maxHeartbeats 8000000 in
theorem walk_many (A0 B0 C0 L0 : Option Addr) (a0 b0 c0 d0 : Nat) (s0 : Sy) (n1 : Int) (w0 : World) (u0 : 0 ≤ n1) (u1 : n1 ≤ 255)
    (rW : Row w0 A0 s0.M.W) (rG : Row w0 B0 s0.M.G) (rC : RowC w0 C0 s0.C) (rL : RowE w0 L0 s0.L) (g0 : s0.M.W.length ≤ maxLen) (g1 : s0.M.G.length ≤ maxLen) (g2 : s0.C.length ≤ maxLen) (g3 : s0.L.length ≤ maxLen) (q0 : syMays s0 = true) (qF : ∀ (k : Nat) (x : Co), n1.tmod (s0.C.length : Int) = (k : Int) → s0.C[k]? = some x → 40 ≤ x.F.length) :
    Calls Try.prog 8 #[.agg #[.slice A0 s0.M.W.length a0, .slice B0 s0.M.G.length b0, .bool s0.M.bad, .slice C0 s0.C.length c0, .slice L0 s0.L.length d0], .int .u8 n1] w0 fun e w' => e = .returned (.bool true) ∧ Below w0.heap.size w0 w' := by
  have S0 : RS w0 s0 A0 B0 C0 L0 := ⟨rW, rG, rC, rL⟩
  have hb : Below w0.heap.size w0 w0 := Below.refl _ _
  have HC := rmay3_any A0 B0 C0 L0 a0 b0 c0 d0 s0
  rw [q0] at HC
  replace HC := hid (show ∀ w, RS w s0 A0 B0 C0 L0 → Calls Try.prog 23 #[.agg #[.slice A0 s0.M.W.length a0, .slice B0 s0.M.G.length b0, .bool s0.M.bad, .slice C0 s0.C.length c0, .slice L0 s0.L.length d0], .int .i64 60] w fun e w' => e = .returned (.bool true) ∧ Below w.heap.size w w' from fun w h => HC w h.G h.C g1 g0 g2 g3)
  clear rW rG rC rL g0 g1 g2 g3
  go_enter Try.func8, Try.ntmps8
  go_upto_region 1 with (fail)
  have Bk0 := heap_alloc_new w0 (.cells #[.slice A0 s0.M.W.length a0, .slice B0 s0.M.G.length b0, .bool s0.M.bad, .slice C0 s0.C.length c0, .slice L0 s0.L.length d0] 30)
  have lt0 : w0.heap.size < (w0.alloc (.cells #[.slice A0 s0.M.W.length a0, .slice B0 s0.M.G.length b0, .bool s0.M.bad, .slice C0 s0.C.length c0, .slice L0 s0.L.length d0] 30)).heap.size := by simp
  have hk : Below w0.heap.size w0 (w0.alloc (.cells #[.slice A0 s0.M.W.length a0, .slice B0 s0.M.G.length b0, .bool s0.M.bad, .slice C0 s0.C.length c0, .slice L0 s0.L.length d0] 30)) := boxed _ _
  replace S0 := S0.step hk
  replace hb := bstep hb hk
  clear hk
  obtain ⟨v0, hv⟩ : ∃ v, w0.heap.size = v := ⟨_, rfl⟩
  rw [hv] at Bk0 lt0 ⊢
  clear hv
  generalize (w0.alloc (.cells #[.slice A0 s0.M.W.length a0, .slice B0 s0.M.G.length b0, .bool s0.M.bad, .slice C0 s0.C.length c0, .slice L0 s0.L.length d0] 30)) = w1 at *
  go_wp2_with fail
  refine (shown5_any _).mono ?_
  rintro e w2 ⟨rfl, hk⟩
  replace Bk0 := (hk.block v0 lt0).trans Bk0
  replace lt0 := Nat.lt_of_lt_of_le lt0 hk.size
  replace S0 := S0.step hk
  replace hb := bstep hb hk
  clear hk
  go_upto_region 2 with (fail)
  have m0_0 : w2.cell? ⟨v0, 0, none⟩ = some (.slice A0 s0.M.W.length a0) := cell_of_row w2 _ 0 _ _ _ Bk0
  have m0_1 : w2.cell? ⟨v0, 1, none⟩ = some (.slice B0 s0.M.G.length b0) := cell_of_row w2 _ 1 _ _ _ Bk0
  have m0_2 : w2.cell? ⟨v0, 2, none⟩ = some (.bool s0.M.bad) := cell_of_row w2 _ 2 _ _ _ Bk0
  have m0_3 : w2.cell? ⟨v0, 3, none⟩ = some (.slice C0 s0.C.length c0) := cell_of_row w2 _ 3 _ _ _ Bk0
  have m0_4 : w2.cell? ⟨v0, 4, none⟩ = some (.slice L0 s0.L.length d0) := cell_of_row w2 _ 4 _ _ _ Bk0
  go_upto_region 4 with (go_at_call 23; refine (HC.out _ S0).mono ?_; rintro e w3 ⟨rfl, hk⟩)
  clear m0_0 m0_1 m0_2 m0_3 m0_4
  replace Bk0 := (hk.block v0 lt0).trans Bk0
  replace lt0 := Nat.lt_of_lt_of_le lt0 hk.size
  replace S0 := S0.step hk
  replace hb := bstep hb hk
  clear hk
  clear HC
  have hmay : sySmall s0 = true ∧ syRight s0 = true := by simpa [syMays] using q0
  have HF := hid (few_of_small hmay.1)
  have hsm := sySmall_few hmay.1
  have hr := hmay.2
  simp only [syRight, Bool.and_eq_true, decide_eq_true_eq] at hr
  have HR := hid (Rt.of hr.1.1.1)
  obtain ⟨⟨⟨_, hc1⟩, hc8⟩, _⟩ := hr
  have HOK := hid (show Ok4 200 s0 from ⟨HF.out, HR.out.g2, hsm.2.2.2.1⟩)
  clear hmay q0 hsm
  obtain ⟨k, hk⟩ : ∃ k : Nat, n1.tmod (s0.C.length : Int) = (k : Int) := ⟨(n1.tmod (s0.C.length : Int)).toNat, by rw [Int.tmod_eq_emod_of_nonneg u0, Int.toNat_of_nonneg (Int.emod_nonneg _ (by omega))]⟩
  have hkl : k < s0.C.length := by have h9 := hk; rw [Int.tmod_eq_emod_of_nonneg u0] at h9; have := Int.emod_lt_of_pos n1 (show (0 : Int) < (s0.C.length : Int) by omega); omega
  obtain ⟨x, hx⟩ : ∃ x, s0.C[k]? = some x := ⟨_, List.getElem?_eq_getElem hkl⟩
  obtain ⟨gC, oC, eC, hbl, hat⟩ := S0.C (by omega)
  subst eC
  obtain ⟨AF, AR, cFq, cR, hcs, rF, rR, hcF⟩ := (hat k x hx).cs4
  clear hat
  have y0 : w3.cell? ⟨gC, oC + k * 7, none⟩ = some (.slice AF x.F.length cFq) := hcs 0 _ rfl
  have kl : (k : Int) < (s0.C.length : Int) := by omega
  have hne : ((s0.C.length : Int) == 0) = false := by rw [beq_eq_false_iff_ne]; omega
  have HX := hid hx
  clear hx hcs rF rR hcF
  have m0_0 : w3.cell? ⟨v0, 0, none⟩ = some (.slice A0 s0.M.W.length a0) := cell_of_row w3 _ 0 _ _ _ Bk0
  have m0_1 : w3.cell? ⟨v0, 1, none⟩ = some (.slice B0 s0.M.G.length b0) := cell_of_row w3 _ 1 _ _ _ Bk0
  have m0_2 : w3.cell? ⟨v0, 2, none⟩ = some (.bool s0.M.bad) := cell_of_row w3 _ 2 _ _ _ Bk0
  have m0_3 : w3.cell? ⟨v0, 3, none⟩ = some (.slice (some ⟨gC, oC, none⟩) s0.C.length c0) := cell_of_row w3 _ 3 _ _ _ Bk0
  have m0_4 : w3.cell? ⟨v0, 4, none⟩ = some (.slice L0 s0.L.length d0) := cell_of_row w3 _ 4 _ _ _ Bk0
  have hq : decide ((40 : Int) ≤ (x.F.length : Int)) = true := by simpa using (show (40 : Int) ≤ (x.F.length : Int) by have := qF k x hk HX.out; omega)
  go_wp2_with fail
  go_ret
  exact ⟨rfl, hb⟩

set_option maxRecDepth 100000 in
set_option maxHeartbeats 8000000 in
theorem walk_yes (A0 B0 C0 L0 : Option Addr) (a0 b0 c0 d0 : Nat) (s0 : Sy) (n1 : Int) (w0 : World) (u0 : 0 ≤ n1) (u1 : n1 ≤ 255)
    (rW : Row w0 A0 s0.M.W) (rG : Row w0 B0 s0.M.G) (rC : RowC w0 C0 s0.C) (rL : RowE w0 L0 s0.L) (g0 : s0.M.W.length ≤ maxLen) (g1 : s0.M.G.length ≤ maxLen) (g2 : s0.C.length ≤ maxLen) (g3 : s0.L.length ≤ maxLen) (q0 : syMays s0 = true) (qF : ∀ (k : Nat) (x : Co), n1.tmod (s0.C.length : Int) = (k : Int) → s0.C[k]? = some x → x.F.length < 40) :
    Calls Try.prog 8 #[.agg #[.slice A0 s0.M.W.length a0, .slice B0 s0.M.G.length b0, .bool s0.M.bad, .slice C0 s0.C.length c0, .slice L0 s0.L.length d0], .int .u8 n1] w0 fun e w' => e = .returned (.bool true) ∧ Below w0.heap.size w0 w' := by
  have S0 : RS w0 s0 A0 B0 C0 L0 := ⟨rW, rG, rC, rL⟩
  have hb : Below w0.heap.size w0 w0 := Below.refl _ _
  have HC := rmay3_any A0 B0 C0 L0 a0 b0 c0 d0 s0
  rw [q0] at HC
  replace HC := hid (show ∀ w, RS w s0 A0 B0 C0 L0 → Calls Try.prog 23 #[.agg #[.slice A0 s0.M.W.length a0, .slice B0 s0.M.G.length b0, .bool s0.M.bad, .slice C0 s0.C.length c0, .slice L0 s0.L.length d0], .int .i64 60] w fun e w' => e = .returned (.bool true) ∧ Below w.heap.size w w' from fun w h => HC w h.G h.C g1 g0 g2 g3)
  clear rW rG rC rL g0 g1 g2 g3
  go_enter Try.func8, Try.ntmps8
  go_upto_region 1 with (fail)
  have Bk0 := heap_alloc_new w0 (.cells #[.slice A0 s0.M.W.length a0, .slice B0 s0.M.G.length b0, .bool s0.M.bad, .slice C0 s0.C.length c0, .slice L0 s0.L.length d0] 30)
  have lt0 : w0.heap.size < (w0.alloc (.cells #[.slice A0 s0.M.W.length a0, .slice B0 s0.M.G.length b0, .bool s0.M.bad, .slice C0 s0.C.length c0, .slice L0 s0.L.length d0] 30)).heap.size := by simp
  have hk : Below w0.heap.size w0 (w0.alloc (.cells #[.slice A0 s0.M.W.length a0, .slice B0 s0.M.G.length b0, .bool s0.M.bad, .slice C0 s0.C.length c0, .slice L0 s0.L.length d0] 30)) := boxed _ _
  replace S0 := S0.step hk
  replace hb := bstep hb hk
  clear hk
  obtain ⟨v0, hv⟩ : ∃ v, w0.heap.size = v := ⟨_, rfl⟩
  rw [hv] at Bk0 lt0 ⊢
  clear hv
  generalize (w0.alloc (.cells #[.slice A0 s0.M.W.length a0, .slice B0 s0.M.G.length b0, .bool s0.M.bad, .slice C0 s0.C.length c0, .slice L0 s0.L.length d0] 30)) = w1 at *
  go_wp2_with fail
  refine (shown5_any _).mono ?_
  rintro e w2 ⟨rfl, hk⟩
  replace Bk0 := (hk.block v0 lt0).trans Bk0
  replace lt0 := Nat.lt_of_lt_of_le lt0 hk.size
  replace S0 := S0.step hk
  replace hb := bstep hb hk
  clear hk
  go_upto_region 2 with (fail)
  have m0_0 : w2.cell? ⟨v0, 0, none⟩ = some (.slice A0 s0.M.W.length a0) := cell_of_row w2 _ 0 _ _ _ Bk0
  have m0_1 : w2.cell? ⟨v0, 1, none⟩ = some (.slice B0 s0.M.G.length b0) := cell_of_row w2 _ 1 _ _ _ Bk0
  have m0_2 : w2.cell? ⟨v0, 2, none⟩ = some (.bool s0.M.bad) := cell_of_row w2 _ 2 _ _ _ Bk0
  have m0_3 : w2.cell? ⟨v0, 3, none⟩ = some (.slice C0 s0.C.length c0) := cell_of_row w2 _ 3 _ _ _ Bk0
  have m0_4 : w2.cell? ⟨v0, 4, none⟩ = some (.slice L0 s0.L.length d0) := cell_of_row w2 _ 4 _ _ _ Bk0
  go_upto_region 4 with (go_at_call 23; refine (HC.out _ S0).mono ?_; rintro e w3 ⟨rfl, hk⟩)
  clear m0_0 m0_1 m0_2 m0_3 m0_4
  replace Bk0 := (hk.block v0 lt0).trans Bk0
  replace lt0 := Nat.lt_of_lt_of_le lt0 hk.size
  replace S0 := S0.step hk
  replace hb := bstep hb hk
  clear hk
  clear HC
  have hmay : sySmall s0 = true ∧ syRight s0 = true := by simpa [syMays] using q0
  have HF := hid (few_of_small hmay.1)
  have hsm := sySmall_few hmay.1
  have hr := hmay.2
  simp only [syRight, Bool.and_eq_true, decide_eq_true_eq] at hr
  have HR := hid (Rt.of hr.1.1.1)
  obtain ⟨⟨⟨_, hc1⟩, hc8⟩, _⟩ := hr
  have HOK := hid (show Ok4 200 s0 from ⟨HF.out, HR.out.g2, hsm.2.2.2.1⟩)
  clear hmay q0 hsm
  obtain ⟨k, hk⟩ : ∃ k : Nat, n1.tmod (s0.C.length : Int) = (k : Int) := ⟨(n1.tmod (s0.C.length : Int)).toNat, by rw [Int.tmod_eq_emod_of_nonneg u0, Int.toNat_of_nonneg (Int.emod_nonneg _ (by omega))]⟩
  have hkl : k < s0.C.length := by have h9 := hk; rw [Int.tmod_eq_emod_of_nonneg u0] at h9; have := Int.emod_lt_of_pos n1 (show (0 : Int) < (s0.C.length : Int) by omega); omega
  obtain ⟨x, hx⟩ : ∃ x, s0.C[k]? = some x := ⟨_, List.getElem?_eq_getElem hkl⟩
  obtain ⟨gC, oC, eC, hbl, hat⟩ := S0.C (by omega)
  subst eC
  obtain ⟨AF, AR, cFq, cR, hcs, rF, rR, hcF⟩ := (hat k x hx).cs4
  clear hat
  have y0 : w3.cell? ⟨gC, oC + k * 7, none⟩ = some (.slice AF x.F.length cFq) := hcs 0 _ rfl
  have kl : (k : Int) < (s0.C.length : Int) := by omega
  have hne : ((s0.C.length : Int) == 0) = false := by rw [beq_eq_false_iff_ne]; omega
  have HX := hid hx
  clear hx hcs rF rR hcF
  have m0_0 : w3.cell? ⟨v0, 0, none⟩ = some (.slice A0 s0.M.W.length a0) := cell_of_row w3 _ 0 _ _ _ Bk0
  have m0_1 : w3.cell? ⟨v0, 1, none⟩ = some (.slice B0 s0.M.G.length b0) := cell_of_row w3 _ 1 _ _ _ Bk0
  have m0_2 : w3.cell? ⟨v0, 2, none⟩ = some (.bool s0.M.bad) := cell_of_row w3 _ 2 _ _ _ Bk0
  have m0_3 : w3.cell? ⟨v0, 3, none⟩ = some (.slice (some ⟨gC, oC, none⟩) s0.C.length c0) := cell_of_row w3 _ 3 _ _ _ Bk0
  have m0_4 : w3.cell? ⟨v0, 4, none⟩ = some (.slice L0 s0.L.length d0) := cell_of_row w3 _ 4 _ _ _ Bk0
  have hxF : x.F.length < 40 := by have := qF k x hk HX.out; omega
  have hq : decide ((40 : Int) ≤ (x.F.length : Int)) = false := by simp; omega
  have HK := hid (show ∀ (w : World), RS w s0 A0 B0 (some ⟨gC, oC, none⟩) L0 → Calls Try.prog 17 #[(.agg #[.slice A0 s0.M.W.length a0, .slice B0 s0.M.G.length b0, .bool s0.M.bad, .slice (some ⟨gC, oC, none⟩) s0.C.length c0, .slice L0 s0.L.length d0]), .int .i64 (k : Int), .int .i64 4, .int .i64 0, .int .i64 0, .int .i64 0] w (RetSys w (clrN s0 k 0)) from fun w h => rcall_u A0 B0 (some ⟨gC, oC, none⟩) L0 a0 b0 c0 d0 s0 (k : Int) 4 0 0 0 w HF.out h)
  have HOKn := hid (show ∀ j, Ok4 200 (clrN s0 k j) from fun j => by induction j with | zero => exact HOK.out.call (by simp) _ | succ n ih => exact ih.haz _)
  have HTOP := hid (show ∀ j, j < 3 → ∀ f, pTop (clrN s0 k j) (k : Int) = some f → W64 (f.R.getD 0 0) from fun j hj f hf => by
    have hw : 128 ≤ s0.M.W.length := by have h1 := HR.out.w; have h2 := HR.out.g2; omega
    obtain ⟨e1, e2, _⟩ := clrN_is HX.out (by omega) hxF hw
    have e0 : clrN s0 k 0 = ⟨s0.M, s0.C.set k (cF x (x.F ++ [⟨4, 0, [0, 0, 0, 0, 0, 0, 0, 0], []⟩])), s0.L⟩ := core_call HX.out hxF _
    have hj3 : j = 0 ∨ j = 1 ∨ j = 2 := by omega
    rcases hj3 with rfl | rfl | rfl
    · rw [e0, core_top (s := ⟨s0.M, _, s0.L⟩) (set_get HX.out) rfl] at hf; obtain rfl := Option.some.inj hf; unfold W64; simp
    · rw [e1, core_top (s := ⟨⟨_, s0.M.G, s0.M.bad⟩, _, s0.L⟩) (set_get HX.out) rfl] at hf; obtain rfl := Option.some.inj hf; unfold W64; simp
    · rw [e2, core_top (s := ⟨⟨_, s0.M.G, s0.M.bad⟩, _, s0.L⟩) (set_get HX.out) rfl] at hf; obtain rfl := Option.some.inj hf; unfold W64; simp)
  have HS := hid (show ∀ (j : Nat) (A B C L : Option Addr) (a b c d : Nat) (w : World), j < 3 → RS w (clrN s0 k j) A B C L → Calls Try.prog 31 #[.agg #[.slice A (clrN s0 k j).M.W.length a, .slice B (clrN s0 k j).M.G.length b, .bool (clrN s0 k j).M.bad, .slice C (clrN s0 k j).C.length c, .slice L (clrN s0 k j).L.length d], .int .i64 (k : Int)] w (RetSys w (clrN s0 k (j + 1))) from fun j A B C L a b c d w hj h => (hstep_any A B C L a b c d (clrN s0 k j) (k : Int) w (HOKn.out j).few (HOKn.out j).g h (HTOP.out j hj)).mono (fun _ _ h => h.weak))
  have HT := hid (show clrN s0 k 3 = ⟨⟨((s0.M.W.set (8 + 3 * k) 0).set (8 + 3 * k + 1) 0).set (8 + 3 * k + 2) 0, s0.M.G, s0.M.bad⟩, s0.C.set k ⟨x.F, 0, 0, x.x0, x.x1, x.x2, x.ret⟩, s0.L⟩ from (clrN_is HX.out (by omega) hxF (by have h1 := HR.out.w; have h2 := HR.out.g2; omega)).2.2)
  have HWD := hid (show ∀ j, j < s0.M.W.length → (((s0.M.W.set (8 + 3 * k) 0).set (8 + 3 * k + 1) 0).set (8 + 3 * k + 2) 0)[j]? = some (if 8 + 3 * k ≤ j ∧ j ≤ 8 + 3 * k + 2 then 0 else s0.M.W.getD j 0) from fun j hj => clr_words (by omega) (by have h1 := HR.out.w; have h2 := HR.out.g2; omega) hj)
  have P0 := hid (show pPlace (k : Int) 0 = ((8 + 3 * k : Nat) : Int) by rw [pPlace_in (by omega) (by omega) (by omega) (by omega)]; omega)
  have P2 := hid (show pPlace (k : Int) 2 = ((8 + 3 * k + 2 : Nat) : Int) by rw [pPlace_in (by omega) (by omega) (by omega) (by omega)]; omega)
  have HL1 := hid (show 1 ≤ s0.M.W.length by have h1 := HR.out.w; have h2 := HR.out.g2; omega)
  have hk8 := hk
  go_upto_region 7 with (fail)
  go_wp2_with fail
  refine (HK.out _ S0).mono ?_
  rintro e w4 ⟨A7, B7, C7, L7, a7, b7, c7, d7, rfl, tW, tG, tC, tL, hk9⟩
  clear y0
  clear m0_0 m0_1 m0_2 m0_3 m0_4
  replace Bk0 := (hk9.block v0 lt0).trans Bk0
  replace lt0 := Nat.lt_of_lt_of_le lt0 hk9.size
  replace S0 := S0.step hk9
  replace hb := bstep hb hk9
  clear hk9
  have S7 : RS w4 (clrN s0 k 0) A7 B7 C7 L7 := ⟨tW, tG, tC, tL⟩
  clear tW tG tC tL
  go_upto_region 8 with (fail)
  have Bk7 := heap_alloc_new w4 (.cells #[.slice A7 (clrN s0 k 0).M.W.length a7, .slice B7 (clrN s0 k 0).M.G.length b7, .bool (clrN s0 k 0).M.bad, .slice C7 (clrN s0 k 0).C.length c7, .slice L7 (clrN s0 k 0).L.length d7] 30)
  have lt7 : w4.heap.size < (w4.alloc (.cells #[.slice A7 (clrN s0 k 0).M.W.length a7, .slice B7 (clrN s0 k 0).M.G.length b7, .bool (clrN s0 k 0).M.bad, .slice C7 (clrN s0 k 0).C.length c7, .slice L7 (clrN s0 k 0).L.length d7] 30)).heap.size := by simp
  have hk : Below w4.heap.size w4 (w4.alloc (.cells #[.slice A7 (clrN s0 k 0).M.W.length a7, .slice B7 (clrN s0 k 0).M.G.length b7, .bool (clrN s0 k 0).M.bad, .slice C7 (clrN s0 k 0).C.length c7, .slice L7 (clrN s0 k 0).L.length d7] 30)) := boxed _ _
  have ne0_7 : v0 ≠ w4.heap.size := Nat.ne_of_lt lt0
  have nw7 : w0.heap.size ≤ w4.heap.size := hb.size
  replace Bk0 := (hk.block v0 lt0).trans Bk0
  replace lt0 := Nat.lt_of_lt_of_le lt0 hk.size
  replace S0 := S0.step hk
  replace S7 := S7.step hk
  replace hb := bstep hb hk
  clear hk
  obtain ⟨v7, hv⟩ : ∃ v, w4.heap.size = v := ⟨_, rfl⟩
  replace nw7 := Nat.le_trans nw7 (Nat.le_of_eq hv)
  rw [hv] at Bk7 lt7 ne0_7 ⊢
  clear hv
  generalize (w4.alloc (.cells #[.slice A7 (clrN s0 k 0).M.W.length a7, .slice B7 (clrN s0 k 0).M.G.length b7, .bool (clrN s0 k 0).M.bad, .slice C7 (clrN s0 k 0).C.length c7, .slice L7 (clrN s0 k 0).L.length d7] 30)) = w5 at *
  go_wp2_with fail
  have hrest : Hid (Below w0.heap.size w0 w5) := hb
  obtain ⟨E1, hE1⟩ : ∃ E : Value → World → Prop, E = (fun i wr => ∃ (j : Nat) (A B C L : Option Addr) (a b c d : Nat), j ≤ 3 ∧ i = .int .i64 j ∧ wr.heap[v7]? = some (.cells #[.slice A (clrN s0 k j).M.W.length a, .slice B (clrN s0 k j).M.G.length b, .bool (clrN s0 k j).M.bad, .slice C (clrN s0 k j).C.length c, .slice L (clrN s0 k j).L.length d] 30 (0, 0)) ∧ wr.heap[v0]? = some (.cells #[.slice A0 s0.M.W.length a0, .slice B0 s0.M.G.length b0, .bool s0.M.bad, .slice (some ⟨gC, oC, none⟩) s0.C.length c0, .slice L0 s0.L.length d0] 30 (0, 0)) ∧ RS wr (clrN s0 k j) A B C L ∧ RS wr s0 A0 B0 (some ⟨gC, oC, none⟩) L0 ∧ Below w0.heap.size w0 wr) := ⟨_, rfl⟩
  go_loopw [8] (fun i wr => E1 i wr) (fun i _ => 3 - (intOf i).toNat)
  case atStart => rw [hE1]; exact ⟨0, A7, B7, C7, L7, a7, b7, c7, d7, by omega, rfl, Bk7, Bk0, S7, S0, hb⟩
  case round =>
    clear hb Bk0 lt0 Bk7 lt7 S0 S7
    have hrel0 := hrel
    rw [hE1] at hrel0
    clear hrel
    obtain ⟨j, A, B, C, L, a, b, c, d, hj3, rfl, kB, kB0, kS, kS0, kb⟩ := hrel0
    have lz : v7 < wr.heap.size := (Array.getElem?_eq_some_iff.1 kB).1
    have ly : v0 < wr.heap.size := (Array.getElem?_eq_some_iff.1 kB0).1
    by_cases hlt : j < 3
    · have p0 : wr.cell? ⟨v7, 0, none⟩ = some (.slice A (clrN s0 k j).M.W.length a) := cell_of_row wr _ 0 _ _ _ kB
      have p1 : wr.cell? ⟨v7, 1, none⟩ = some (.slice B (clrN s0 k j).M.G.length b) := cell_of_row wr _ 1 _ _ _ kB
      have p2 : wr.cell? ⟨v7, 2, none⟩ = some (.bool (clrN s0 k j).M.bad) := cell_of_row wr _ 2 _ _ _ kB
      have p3 : wr.cell? ⟨v7, 3, none⟩ = some (.slice C (clrN s0 k j).C.length c) := cell_of_row wr _ 3 _ _ _ kB
      have p4 : wr.cell? ⟨v7, 4, none⟩ = some (.slice L (clrN s0 k j).L.length d) := cell_of_row wr _ 4 _ _ _ kB
      have kl3 : (j : Int) < 3 := by omega
      go_wp2_with (go_at_call 31; (with_reducible refine (HS.out j A B C L a b c d _ hlt kS).mono ?_); rintro e w9 ⟨A9, B9, C9, L9, a9, b9, c9, d9, rfl, tW, tG, tC, tL, hk9⟩; have K9 := (hk9.block v7 lz).trans kB; have y0 : w9.cell? ⟨v7, 0, none⟩ = some (.slice A (clrN s0 k j).M.W.length a) := cell_of_row w9 _ 0 _ _ _ K9; have y1 : w9.cell? ⟨v7, 1, none⟩ = some (.slice B (clrN s0 k j).M.G.length b) := cell_of_row w9 _ 1 _ _ _ K9; have y2 : w9.cell? ⟨v7, 2, none⟩ = some (.bool (clrN s0 k j).M.bad) := cell_of_row w9 _ 2 _ _ _ K9; have y3 : w9.cell? ⟨v7, 3, none⟩ = some (.slice C (clrN s0 k j).C.length c) := cell_of_row w9 _ 3 _ _ _ K9; have y4 : w9.cell? ⟨v7, 4, none⟩ = some (.slice L (clrN s0 k j).L.length d) := cell_of_row w9 _ 4 _ _ _ K9; have yf0 : w9.frozen? ⟨v7, 0, none⟩ = false := frozen_of_row w9 _ 0 _ _ K9; have yf1 : w9.frozen? ⟨v7, 1, none⟩ = false := frozen_of_row w9 _ 1 _ _ K9; have yf2 : w9.frozen? ⟨v7, 2, none⟩ = false := frozen_of_row w9 _ 2 _ _ K9; have yf3 : w9.frozen? ⟨v7, 3, none⟩ = false := frozen_of_row w9 _ 3 _ _ K9; have yf4 : w9.frozen? ⟨v7, 4, none⟩ = false := frozen_of_row w9 _ 4 _ _ K9)
      have REL : E1 (.int .i64 ((j + 1 : Nat) : Int)) ((((((w9.setCell ⟨v7, 0, none⟩ (.slice A9 (clrN s0 k (j + 1)).M.W.length a9)).setCell ⟨v7, 1, none⟩ (.slice B9 (clrN s0 k (j + 1)).M.G.length b9)).setCell ⟨v7, 2, none⟩ (.bool (clrN s0 k (j + 1)).M.bad)).setCell ⟨v7, 3, none⟩ (.slice C9 (clrN s0 k (j + 1)).C.length c9)).setCell ⟨v7, 4, none⟩ (.slice L9 (clrN s0 k (j + 1)).L.length d9))) := by
        rw [hE1]
        exact ⟨j + 1, A9, B9, C9, L9, a9, b9, c9, d9, by omega, rfl, blk5 K9 _ _ _ _ _, ((turn5 w9 v7 _ _ _ _ _).block v0 (Nat.lt_of_lt_of_le ly hk9.size) ne0_7).trans ((hk9.block v0 ly).trans kB0), (RS.mk tW tG tC tL).turnN (turn5 _ _ _ _ _ _ _) (noInt_sys K9), (kS0.step hk9).turnN (turn5 _ _ _ _ _ _ _) (noInt_sys K9), (bstep kb hk9).trans ((turn5 _ _ _ _ _ _ _).to_below (bstep kb hk9).size (fun g hg => by rw [hg]; exact nw7))⟩
      go_roundw
      case rel => exact REL
      case measure => simp [intOf]; omega
    · have hj4 : j = 3 := by omega
      subst hj4
      rw [HT.out] at kB kS
      simp only [List.length_set] at kB
      clear hE1 HS HTOP HOKn HK
      obtain ⟨bC, pC, rfl, hbC, hatC⟩ := kS.C (by simp only [List.length_set]; omega)
      obtain ⟨AFx, ARx, cFx, cRx, hcx, _, _⟩ := (hatC k _ (set_get HX.out)).cs
      have x0 : wr.cell? ⟨bC, pC + k * 7, none⟩ = some (.slice AFx x.F.length cFx) := hcx 0 _ rfl
      obtain ⟨gC2, oC2, eC2, hbl2, hat2⟩ := kS0.C (by omega)
      injection eC2 with eC2
      injection eC2 with eC3 eC4
      subst eC3 eC4
      obtain ⟨AFy, ARy, cFy, cRy, hcy, _, _⟩ := (hat2 k _ HX.out).cs
      have y0 : wr.cell? ⟨gC, oC + k * 7, none⟩ = some (.slice AFy x.F.length cFy) := hcy 0 _ rfl
      obtain ⟨bW, pW, rfl, hbW, hatW⟩ := kS.W (by simp only [List.length_set]; have := HL1.out; omega)
      obtain ⟨bV, pV, rfl, hbV, hatV⟩ := kS0.W (by have := HL1.out; omega)
      clear hatC hcx hat2 hcy kS kS0
      have p0 : wr.cell? ⟨v7, 0, none⟩ = some (.slice (some ⟨bW, pW, none⟩) s0.M.W.length a) := cell_of_row wr _ 0 _ _ _ kB
      have p1 : wr.cell? ⟨v7, 1, none⟩ = some (.slice B s0.M.G.length b) := cell_of_row wr _ 1 _ _ _ kB
      have p2 : wr.cell? ⟨v7, 2, none⟩ = some (.bool s0.M.bad) := cell_of_row wr _ 2 _ _ _ kB
      have p3 : wr.cell? ⟨v7, 3, none⟩ = some (.slice (some ⟨bC, pC, none⟩) s0.C.length c) := cell_of_row wr _ 3 _ _ _ kB
      have p4 : wr.cell? ⟨v7, 4, none⟩ = some (.slice L s0.L.length d) := cell_of_row wr _ 4 _ _ _ kB
      have z0 : wr.cell? ⟨v0, 0, none⟩ = some (.slice (some ⟨bV, pV, none⟩) s0.M.W.length a0) := cell_of_row wr _ 0 _ _ _ kB0
      have z1 : wr.cell? ⟨v0, 1, none⟩ = some (.slice B0 s0.M.G.length b0) := cell_of_row wr _ 1 _ _ _ kB0
      have z2 : wr.cell? ⟨v0, 2, none⟩ = some (.bool s0.M.bad) := cell_of_row wr _ 2 _ _ _ kB0
      have z3 : wr.cell? ⟨v0, 3, none⟩ = some (.slice (some ⟨gC, oC, none⟩) s0.C.length c0) := cell_of_row wr _ 3 _ _ _ kB0
      have z4 : wr.cell? ⟨v0, 4, none⟩ = some (.slice L0 s0.L.length d0) := cell_of_row wr _ 4 _ _ _ kB0
      go_upto_region 12 with (fail)
      go_quiet (fail)
      go_wp2_with fail
      have hwl : s0.M.W.length ≤ 1000000 := HF.out.1
      go_loopw [9] (fun i wq => ∃ j : Nat, j ≤ s0.M.W.length ∧ i = .int .i64 j ∧ Below wr.heap.size wr wq) (fun i _ => s0.M.W.length - (intOf i).toNat)
      case atStart => exact ⟨0, by omega, rfl, bdrewN (Below.refl _ _) _⟩
      case round =>
        obtain ⟨j, hj, rfl, hq2⟩ := hrel
        rename_i wq _
        have p0q := (hq2.cell lz).trans p0
        have p1q := (hq2.cell lz).trans p1
        have p2q := (hq2.cell lz).trans p2
        have p3q := (hq2.cell lz).trans p3
        have p4q := (hq2.cell lz).trans p4
        have z0q := (hq2.cell ly).trans z0
        have z1q := (hq2.cell ly).trans z1
        have z2q := (hq2.cell ly).trans z2
        have z3q := (hq2.cell ly).trans z3
        have z4q := (hq2.cell ly).trans z4
        by_cases hjl : j < s0.M.W.length
        · have jl : (j : Int) < (s0.M.W.length : Int) := by omega
          have cV := (hq2.cell hbV).trans (hatV j (s0.M.W.getD j 0) (by simp [List.getD, List.getElem?_eq_getElem hjl]))
          have cW := (hq2.cell hbW).trans (hatW j _ (HWD.out j hjl))
          by_cases q : 8 + 3 * k ≤ j ∧ j ≤ 8 + 3 * k + 2
          · have d0 : decide (pPlace (k : Int) 0 ≤ (j : Int)) = true := by rw [P0.out]; simp; omega
            have d2 : decide ((j : Int) ≤ pPlace (k : Int) 2) = true := by rw [P2.out]; simp; omega
            rw [if_pos q] at cW
            go_wp2_with (go_at_call 25; (with_reducible refine (rplace_w _ _ _).mono ?_); rintro e wK ⟨rfl, rfl⟩)
            go_quiet (fail)
            go_wp2_with fail
            go_roundw
            case rel => exact ⟨j + 1, by omega, by go_num, bdrewN hq2 _⟩
            case measure => simp [intOf]; omega
          · by_cases q3 : 8 + 3 * k ≤ j
            · have d0 : decide (pPlace (k : Int) 0 ≤ (j : Int)) = true := by rw [P0.out]; simp; omega
              have d2 : decide ((j : Int) ≤ pPlace (k : Int) 2) = false := by rw [P2.out]; simp; omega
              rw [if_neg q] at cW
              go_wp2_with (go_at_call 25; (with_reducible refine (rplace_w _ _ _).mono ?_); rintro e wK ⟨rfl, rfl⟩)
              go_quiet (fail)
              go_wp2_with fail
              go_roundw
              case rel => exact ⟨j + 1, by omega, by go_num, bdrewN hq2 _⟩
              case measure => simp [intOf]; omega
            · have d0 : decide (pPlace (k : Int) 0 ≤ (j : Int)) = false := by rw [P0.out]; simp; omega
              rw [if_neg q] at cW
              go_wp2_with (go_at_call 25; (with_reducible refine (rplace_w _ _ _).mono ?_); rintro e wK ⟨rfl, rfl⟩)
              go_quiet (fail)
              go_wp2_with fail
              go_roundw
              case rel => exact ⟨j + 1, by omega, by go_num, bdrewN hq2 _⟩
              case measure => simp [intOf]; omega
        · have jl : ¬ (j : Int) < (s0.M.W.length : Int) := by omega
          go_wp2_with fail
          go_ret
          exact ⟨rfl, bstep kb hq2⟩

theorem walk (A0 B0 C0 L0 : Option Addr) (a0 b0 c0 d0 : Nat) (s0 : Sy) (n1 : Int) (w0 : World) (u0 : 0 ≤ n1) (u1 : n1 ≤ 255)
    (rW : Row w0 A0 s0.M.W) (rG : Row w0 B0 s0.M.G) (rC : RowC w0 C0 s0.C) (rL : RowE w0 L0 s0.L) (g0 : s0.M.W.length ≤ maxLen) (g1 : s0.M.G.length ≤ maxLen) (g2 : s0.C.length ≤ maxLen) (g3 : s0.L.length ≤ maxLen) :
    Calls Try.prog 8 #[.agg #[.slice A0 s0.M.W.length a0, .slice B0 s0.M.G.length b0, .bool s0.M.bad, .slice C0 s0.C.length c0, .slice L0 s0.L.length d0], .int .u8 n1] w0 fun e w' => e = .returned (.bool true) ∧ Below w0.heap.size w0 w' := by
  rcases q0 : syMays s0 with _ | _
  · exact walk_not A0 B0 C0 L0 a0 b0 c0 d0 s0 n1 w0 u0 u1 rW rG rC rL g0 g1 g2 g3 q0
  · by_cases qF : ∀ (k : Nat) (x : Co), n1.tmod (s0.C.length : Int) = (k : Int) → s0.C[k]? = some x → x.F.length < 40
    · exact walk_yes A0 B0 C0 L0 a0 b0 c0 d0 s0 n1 w0 u0 u1 rW rG rC rL g0 g1 g2 g3 q0 qF
    · refine walk_many A0 B0 C0 L0 a0 b0 c0 d0 s0 n1 w0 u0 u1 rW rG rC rL g0 g1 g2 g3 q0 (fun k x h1 h2 => ?_)
      apply Classical.byContradiction
      intro h3
      exact qF (fun k' x' h1' h2' => by
        have e1 : k' = k := by omega
        subst e1
        rw [h2] at h2'
        obtain rfl := Option.some.inj h2'
        omega)

set_option maxRecDepth 100000 in
theorem lifted (os : Os) (started : os.Started) (H : Type) (enc : TypeId × Value → H) :
    ReturnsInHanded {} Try.checked os 8 .any (Rows.hazClearsSpec.pre6 enc Try.prog Try.f8 Rows.hazClearsRow.domain false) (Rows.hazClearsSpec.post enc Try.prog Try.f8 false true false false) := by
  refine returnsInHanded_of_change (C := Try.checked) own started (by kernel_rfl) Try.func8
    (ChangeSpec.witness6 (enc := enc) (C := Try.checked) false ⟨#[], #[.agg #[.slice none 0 0, .slice none 0 0, .bool false, .slice none 0 0, .slice none 0 0], .int .u8 0], []⟩ 8 (by kernel_rfl) (by kernel_rfl) (by kernel_rfl) (by kernel_rfl)) ?_
  intro W base args ds gs before hval0 hW hcnd _
  have hval : ∀ (j : Nat) t v, Try.f8.params[j]? = some t → args[j]? = some v → Value.okWide Try.prog W .any base t v := hval0
  have hW' := hW
  obtain ⟨p, q, hA0, hV, rfl, hfz, hnd⟩ := hW
  have hA : DataW.TrodAll enc Try.prog W 0 (fun _ => true) true Try.f8.params.toList args.toList ds p := hA0
  rw [Try.params8] at hA hval
  obtain ⟨v0, vs0, d0, ds0, p0, q0, hargs, rfl, rfl, h0, r0⟩ := trodAll_cons hA
  obtain ⟨v1, vs1, d1, ds1, p1, q1, rfl, rfl, rfl, h1, r1⟩ := trodAll_cons r0
  obtain ⟨rfl, rfl, rfl⟩ := trodAll_nil r1
  obtain rfl : args = #[v0, v1] := by cases args; simp_all
  obtain ⟨rfl, rfl⟩ := trodVars_none hV
  clear hA0 hval0
  obtain ⟨A0, B0, C0, L0, a0, b0, c0, d0, s0, rfl, rW, rG, rC, rL, l0, l1, l2, l3, hin⟩ := open_systemW (hval 0 _ v0 rfl rfl) h0
  obtain ⟨m1, hm1⟩ := h1
  obtain ⟨a, e1, _, u1⟩ := DataW.trod_int Try.underlying5 hm1
  obtain ⟨a', rfl⟩ := okWide_int Try.underlying5 (hval 1 5 v1 rfl rfl)
  obtain rfl : a' = a := by simpa [Value.cells] using e1
  obtain ⟨y0, y1⟩ := bounds_u8 u1
  refine (walk A0 B0 C0 L0 a0 b0 c0 d0 s0 a' W y0 y1 rW rG rC rL l0 l1 l2 l3).mono fun e W' ⟨he, hb⟩ => ?_
  subst he
  exact ⟨_, rfl, law_post (tb := 4) (by kernel_rfl) (by kernel_rfl) (by kernel_rfl) Try.underlying4 rfl hW' rfl hb⟩

theorem over : Rows.hazClearsRow.holds Try.pinned (OpenSpec.ofChange Rows.hazClearsSpec) :=
  OpenClaim.holds_of_wide 8 Try.f8 rfl rfl rfl rfl rfl rfl rfl ⟨rfl, rfl, rfl, rfl, rfl⟩ rfl rfl rfl rfl rfl (by kernel_rfl) Try.func8 (by kernel_rfl)
    (of_decide_eq_true (by kernel_rfl)) (by unfold Func.isWrapper; first | (rw [if_pos (by decide +kernel)]; kernel_rfl) | (rw [if_neg (by decide +kernel)]; exact ⟨rfl, rfl⟩))
    (fun os started H enc _ => lifted os started H enc)
end HazClears

theorem hazClears_holds : Rows.HazClearsSaid := HazClears.over
#print axioms hazClears_holds
end Go.Proofs.Ytgjpgbdloflfbaa
