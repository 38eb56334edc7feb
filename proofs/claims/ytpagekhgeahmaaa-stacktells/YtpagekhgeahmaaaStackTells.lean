/- For every system and every two ints, the law StackTells (an arena that is filled, a step, the list, and which ops these are, are as the document says) returns true, and the arguments read afterwards as before. No conditions. -/
import Derived.Test.YtpagekhgeahmaaaRows
import Derived.Test.YtpagekhgeahmaaaKSho
import Derived.Test.YtpagekhgeahmaaaKFil
import Derived.Test.YtpagekhgeahmaaaKWal
import Derived.Test.YtpagekhgeahmaaaStkT
import Derived.Test.YtpagekhgeahmaaaStkN
import Derived.Test.YtpagekhgeahmaaaOpen7
import Derived.Test.YtpagekhgeahmaaaKCoB
import Derived.Test.YtpagekhgeahmaaaKBas
namespace Go.Proofs.Ytpagekhgeahmaaa
namespace StackTells
open Go.ChangeShapes Go.WideShapes Go.ChangeAt Go.RowKit
set_option linter.unusedVariables false
set_option linter.unusedSimpArgs false

theorem own : ownKnob Try.prog.godebug = none := by kernel_rfl

theorem mInts_self (l : List Int) : mInts l l = true := by simp [mInts]
theorem mSame_self (m : Ar) : mSame m m = true := by simp [mSame, mInts]
theorem walk_len {m : Ar} (h2 : 2 ≤ m.G.length) (h3 : m.G.length ≤ 1000) : (wList (pWalk m)).length ≤ 1000 := by
  cases h : pWalk m with
  | none => simp [wList]
  | some l => exact Nat.le_trans (walk_few h) h3
set_option maxRecDepth 100000 in
set_option maxHeartbeats 8000000 in
theorem walk_not (A0 B0 C0 L0 : Option Addr) (a0 b0 c0 d0 : Nat) (s0 : Sy) (n1 n2 : Int) (w0 : World)
    (rW : Row w0 A0 s0.M.W) (rG : Row w0 B0 s0.M.G) (rC : RowC w0 C0 s0.C) (rL : RowE w0 L0 s0.L) (g0 : s0.M.W.length ≤ maxLen) (g1 : s0.M.G.length ≤ maxLen) (g2 : s0.C.length ≤ maxLen) (g3 : s0.L.length ≤ maxLen) (hin : ∀ x ∈ s0.M.W, -9223372036854775808 ≤ x ∧ x ≤ 9223372036854775807) (q0 : syMays s0 = false) :
    Calls Try.prog 8 #[.agg #[.slice A0 s0.M.W.length a0, .slice B0 s0.M.G.length b0, .bool s0.M.bad, .slice C0 s0.C.length c0, .slice L0 s0.L.length d0], .int .i64 n1, .int .i64 n2] w0 fun e w' => e = .returned (.bool true) ∧ Below w0.heap.size w0 w' := by
  have S0 : RS w0 s0 A0 B0 C0 L0 := ⟨rW, rG, rC, rL⟩
  have hb : Below w0.heap.size w0 w0 := Below.refl _ _
  have HC := rmay3_any A0 B0 C0 L0 a0 b0 c0 d0 s0
  rw [q0] at HC
  replace HC := hid (show ∀ w, RS w s0 A0 B0 C0 L0 → Calls Try.prog 26 #[.agg #[.slice A0 s0.M.W.length a0, .slice B0 s0.M.G.length b0, .bool s0.M.bad, .slice C0 s0.C.length c0, .slice L0 s0.L.length d0], .int .i64 60] w fun e w' => e = .returned (.bool false) ∧ Below w.heap.size w w' from fun w h => HC w h.G h.C g1 g0 g2 g3)
  clear rW rG rC rL g0 g1 g2 g3
  have HIN := hid hin
  clear hin
  go_enter Try.func8, Try.ntmps8
  go_upto_region 1 with (fail)
  have Bk0 := heap_alloc_new w0 (.cells #[.slice A0 s0.M.W.length a0, .slice B0 s0.M.G.length b0, .bool s0.M.bad, .slice C0 s0.C.length c0, .slice L0 s0.L.length d0] 28)
  have lt0 : w0.heap.size < (w0.alloc (.cells #[.slice A0 s0.M.W.length a0, .slice B0 s0.M.G.length b0, .bool s0.M.bad, .slice C0 s0.C.length c0, .slice L0 s0.L.length d0] 28)).heap.size := by simp
  have hk : Below w0.heap.size w0 (w0.alloc (.cells #[.slice A0 s0.M.W.length a0, .slice B0 s0.M.G.length b0, .bool s0.M.bad, .slice C0 s0.C.length c0, .slice L0 s0.L.length d0] 28)) := boxed _ _
  replace S0 := S0.step hk
  replace hb := bstep hb hk
  clear hk
  obtain ⟨v0, hv⟩ : ∃ v, w0.heap.size = v := ⟨_, rfl⟩
  rw [hv] at Bk0 lt0 ⊢
  clear hv
  generalize (w0.alloc (.cells #[.slice A0 s0.M.W.length a0, .slice B0 s0.M.G.length b0, .bool s0.M.bad, .slice C0 s0.C.length c0, .slice L0 s0.L.length d0] 28)) = w1 at *
  go_wp2_with fail
  refine (shown4_any _).mono ?_
  rintro e w2 ⟨rfl, hk⟩
  replace Bk0 := (hk.block v0 lt0).trans Bk0
  replace lt0 := Nat.lt_of_lt_of_le lt0 hk.size
  replace S0 := S0.step hk
  replace hb := bstep hb hk
  clear hk
  go_upto_region 2 with (fail)
  have m0_0 : w2.cell? ⟨v0, 0, none⟩ = some (.slice A0 s0.M.W.length a0) := cell_of_row w2 _ 0 _ _ _ Bk0
  have m0_1 : w2.cell? ⟨v0, 1, none⟩ = some (.slice B0 s0.M.G.length b0) := cell_of_row w2 _ 1 _ _ _ Bk0
  have m0_2 : w2.cell? ⟨v0, 2, none⟩ = some (.bool s0.M.bad) := cell_of_row w2 _ 2 _ _ _ Bk0
  have m0_3 : w2.cell? ⟨v0, 3, none⟩ = some (.slice C0 s0.C.length c0) := cell_of_row w2 _ 3 _ _ _ Bk0
  have m0_4 : w2.cell? ⟨v0, 4, none⟩ = some (.slice L0 s0.L.length d0) := cell_of_row w2 _ 4 _ _ _ Bk0
  go_wp2_with (go_at_call 26; refine (HC.out _ S0).mono ?_; rintro e wm ⟨rfl, hk⟩)
  go_ret
  exact ⟨rfl, bstep hb hk⟩

set_option maxRecDepth 100000 in
set_option maxHeartbeats 8000000 in
theorem walk_yes (A0 B0 C0 L0 : Option Addr) (a0 b0 c0 d0 : Nat) (s0 : Sy) (n1 n2 : Int) (w0 : World)
    (rW : Row w0 A0 s0.M.W) (rG : Row w0 B0 s0.M.G) (rC : RowC w0 C0 s0.C) (rL : RowE w0 L0 s0.L) (g0 : s0.M.W.length ≤ maxLen) (g1 : s0.M.G.length ≤ maxLen) (g2 : s0.C.length ≤ maxLen) (g3 : s0.L.length ≤ maxLen) (hin : ∀ x ∈ s0.M.W, -9223372036854775808 ≤ x ∧ x ≤ 9223372036854775807) (q0 : syMays s0 = true) :
    Calls Try.prog 8 #[.agg #[.slice A0 s0.M.W.length a0, .slice B0 s0.M.G.length b0, .bool s0.M.bad, .slice C0 s0.C.length c0, .slice L0 s0.L.length d0], .int .i64 n1, .int .i64 n2] w0 fun e w' => e = .returned (.bool true) ∧ Below w0.heap.size w0 w' := by
  have S0 : RS w0 s0 A0 B0 C0 L0 := ⟨rW, rG, rC, rL⟩
  have hb : Below w0.heap.size w0 w0 := Below.refl _ _
  have HC := rmay3_any A0 B0 C0 L0 a0 b0 c0 d0 s0
  rw [q0] at HC
  replace HC := hid (show ∀ w, RS w s0 A0 B0 C0 L0 → Calls Try.prog 26 #[.agg #[.slice A0 s0.M.W.length a0, .slice B0 s0.M.G.length b0, .bool s0.M.bad, .slice C0 s0.C.length c0, .slice L0 s0.L.length d0], .int .i64 60] w fun e w' => e = .returned (.bool true) ∧ Below w.heap.size w w' from fun w h => HC w h.G h.C g1 g0 g2 g3)
  clear rW rG rC rL g0 g1 g2 g3
  have HIN := hid hin
  clear hin
  go_enter Try.func8, Try.ntmps8
  go_upto_region 1 with (fail)
  have Bk0 := heap_alloc_new w0 (.cells #[.slice A0 s0.M.W.length a0, .slice B0 s0.M.G.length b0, .bool s0.M.bad, .slice C0 s0.C.length c0, .slice L0 s0.L.length d0] 28)
  have lt0 : w0.heap.size < (w0.alloc (.cells #[.slice A0 s0.M.W.length a0, .slice B0 s0.M.G.length b0, .bool s0.M.bad, .slice C0 s0.C.length c0, .slice L0 s0.L.length d0] 28)).heap.size := by simp
  have hk : Below w0.heap.size w0 (w0.alloc (.cells #[.slice A0 s0.M.W.length a0, .slice B0 s0.M.G.length b0, .bool s0.M.bad, .slice C0 s0.C.length c0, .slice L0 s0.L.length d0] 28)) := boxed _ _
  replace S0 := S0.step hk
  replace hb := bstep hb hk
  clear hk
  obtain ⟨v0, hv⟩ : ∃ v, w0.heap.size = v := ⟨_, rfl⟩
  rw [hv] at Bk0 lt0 ⊢
  clear hv
  generalize (w0.alloc (.cells #[.slice A0 s0.M.W.length a0, .slice B0 s0.M.G.length b0, .bool s0.M.bad, .slice C0 s0.C.length c0, .slice L0 s0.L.length d0] 28)) = w1 at *
  go_wp2_with fail
  refine (shown4_any _).mono ?_
  rintro e w2 ⟨rfl, hk⟩
  replace Bk0 := (hk.block v0 lt0).trans Bk0
  replace lt0 := Nat.lt_of_lt_of_le lt0 hk.size
  replace S0 := S0.step hk
  replace hb := bstep hb hk
  clear hk
  go_upto_region 2 with (fail)
  have m0_0 : w2.cell? ⟨v0, 0, none⟩ = some (.slice A0 s0.M.W.length a0) := cell_of_row w2 _ 0 _ _ _ Bk0
  have m0_1 : w2.cell? ⟨v0, 1, none⟩ = some (.slice B0 s0.M.G.length b0) := cell_of_row w2 _ 1 _ _ _ Bk0
  have m0_2 : w2.cell? ⟨v0, 2, none⟩ = some (.bool s0.M.bad) := cell_of_row w2 _ 2 _ _ _ Bk0
  have m0_3 : w2.cell? ⟨v0, 3, none⟩ = some (.slice C0 s0.C.length c0) := cell_of_row w2 _ 3 _ _ _ Bk0
  have m0_4 : w2.cell? ⟨v0, 4, none⟩ = some (.slice L0 s0.L.length d0) := cell_of_row w2 _ 4 _ _ _ Bk0
  go_upto_region 4 with (go_at_call 26; refine (HC.out _ S0).mono ?_; rintro e w3 ⟨rfl, hk⟩)
  clear m0_0 m0_1 m0_2 m0_3 m0_4
  replace Bk0 := (hk.block v0 lt0).trans Bk0
  replace lt0 := Nat.lt_of_lt_of_le lt0 hk.size
  replace S0 := S0.step hk
  replace hb := bstep hb hk
  clear hk
  clear HC
  have hmay : sySmall s0 = true ∧ syRight s0 = true := by simpa [syMays] using q0
  have hf := few_of_small hmay.1
  have hsm := sySmall_few hmay.1
  have hr := hmay.2
  simp only [syRight, Bool.and_eq_true, decide_eq_true_eq] at hr
  have hR := Rt.of hr.1.1.1
  clear hmay q0 hr
  have g2 := hR.g2
  have g3 := hR.g3
  have fw1 : s0.M.W.length ≤ 1000000 := hf.1
  have fw2 : s0.M.G.length ≤ 1000000 := hf.2.1
  obtain ⟨l1, hl1⟩ : ∃ l, l = wList (pWalk s0.M) := ⟨_, rfl⟩
  obtain ⟨i1, hi1⟩ : ∃ b, b = wIs (pWalk s0.M) := ⟨_, rfl⟩
  have hll : l1.length ≤ 1000 := by rw [hl1]; exact walk_len g2 (by omega)
  have HW1 := hid (show ∀ (w : World), RS w s0 A0 B0 C0 L0 → Calls Try.prog 37 #[.agg #[.slice A0 s0.M.W.length a0, .slice B0 s0.M.G.length b0, .bool s0.M.bad]] w (RetInts w l1 i1) from fun w k => by have h9 := walk_any A0 B0 a0 b0 s0.M w k.W k.G fw1 fw2 g2 HIN.out; rw [hl1, hi1]; exact h9)
  have HW2 := hid (show ∀ (w : World), RS w s0 A0 B0 C0 L0 → Calls Try.prog 38 #[.agg #[.slice A0 s0.M.W.length a0, .slice B0 s0.M.G.length b0, .bool s0.M.bad]] w (RetInts w l1 i1) from fun w k => by have h9 := rwalk_any A0 B0 a0 b0 s0.M w k.W k.G fw1 fw2 g2; rw [hl1, hi1]; exact h9)
  have HI := hid (show ∀ (A B : Option Addr) (a b : Nat) (w : World), Row w A l1 → Row w B l1 → Calls Try.prog 25 #[.slice A l1.length a, .slice B l1.length b] w fun e w' => e = .returned (.bool true) ∧ Below w.heap.size w w' from fun A B a b w k1 k2 => by have h9 := rints_any A B a b l1 l1 w k1 k2 (by omega); rw [mInts_self] at h9; exact h9)
  obtain ⟨ob, hob⟩ : ∃ b, b = (n2 == 1 || n2 == 2) := ⟨_, rfl⟩
  have HO1 := hid (show ∀ (w : World), Calls Try.prog 39 #[.int .i64 n2] w fun e w' => e = .returned (.bool ob) ∧ w = w' from fun w => by rw [hob]; exact own4_any n2 w)
  have HO2 := hid (show ∀ (w : World), Calls Try.prog 40 #[.int .i64 n2] w fun e w' => e = .returned (.bool ob) ∧ w = w' from fun w => by rw [hob]; exact rown4_any n2 w)
  obtain ⟨f1, hf1⟩ : ∃ f, f = pFill s0.M := ⟨_, rfl⟩
  have HFW := hid (show f1.W.length ≤ 1000000 by rw [hf1, (pFill_len s0.M).1]; exact fw1)
  have HFG := hid (show f1.G.length ≤ 1000000 by rw [hf1, (pFill_len s0.M).2]; exact fw2)
  have HF1 := hid (show ∀ (w : World), RS w s0 A0 B0 C0 L0 → Calls Try.prog 42 #[.agg #[.slice A0 s0.M.W.length a0, .slice B0 s0.M.G.length b0, .bool s0.M.bad]] w (RetMem w f1) from fun w k => by have h9 := fill_any A0 B0 a0 b0 s0.M w k.W k.G fw1 fw2 g2; rw [hf1]; exact h9)
  have HF2 := hid (show ∀ (w : World), RS w s0 A0 B0 C0 L0 → Calls Try.prog 43 #[.agg #[.slice A0 s0.M.W.length a0, .slice B0 s0.M.G.length b0, .bool s0.M.bad]] w (RetMem w f1) from fun w k => by have h9 := rfill_any A0 B0 a0 b0 s0.M w k.W k.G fw1 fw2 g2; rw [hf1]; exact h9)
  have HSM := hid (show ∀ (A1 B1 A2 B2 : Option Addr) (a1 b1 a2 b2 : Nat) (w : World), Row w A1 f1.W → Row w B1 f1.G → Row w A2 f1.W → Row w B2 f1.G → Calls Try.prog 41 #[.agg #[.slice A1 f1.W.length a1, .slice B1 f1.G.length b1, .bool f1.bad], .agg #[.slice A2 f1.W.length a2, .slice B2 f1.G.length b2, .bool f1.bad]] w fun e w' => e = .returned (.bool true) ∧ Below w.heap.size w w' from fun A1 B1 A2 B2 a1 b1 a2 b2 w k1 k2 k3 k4 => by have h9 := rsame_any A1 B1 A2 B2 a1 b1 a2 b2 f1 f1 w k1 k2 k3 k4 (by have := HFW.out; omega) (by have := HFG.out; omega); rw [mSame_self] at h9; exact h9)
  obtain ⟨t1, ht1⟩ : ∃ t, t = pStep s0 n1 := ⟨_, rfl⟩
  have ok4 : Ok4 200 s0 := ⟨hf, g2, hsm.2.2.2.1⟩
  have HT1 := hid (show SyFew t1 by rw [ht1]; exact (ok4.step (by omega) n1).few)
  have HS1 := hid (show ∀ (w : World), RS w s0 A0 B0 C0 L0 → Calls Try.prog 44 #[.agg #[.slice A0 s0.M.W.length a0, .slice B0 s0.M.G.length b0, .bool s0.M.bad, .slice C0 s0.C.length c0, .slice L0 s0.L.length d0], .int .i64 n1] w (RetSys w t1) from fun w k => by rw [ht1]; exact step_any A0 B0 C0 L0 a0 b0 c0 d0 s0 n1 w hf g2 k (by have := hsm.2.2.2.1; omega))
  have HS2 := hid (show ∀ (w : World), RS w s0 A0 B0 C0 L0 → Calls Try.prog 45 #[.agg #[.slice A0 s0.M.W.length a0, .slice B0 s0.M.G.length b0, .bool s0.M.bad, .slice C0 s0.C.length c0, .slice L0 s0.L.length d0], .int .i64 n1] w (RetSys w t1) from fun w k => by rw [ht1]; exact rstep_any A0 B0 C0 L0 a0 b0 c0 d0 s0 n1 w hf g2 k (fun x hx => by have := (hsm.2.2.2.2 x hx).1; omega) (by have := hsm.2.2.2.1; omega))
  have HSS := hid (show ∀ (A1 B1 C1 L1 A2 B2 C2 L2 : Option Addr) (a1 b1 c1 d1 a2 b2 c2 d2 : Nat) (w : World), RS w t1 A1 B1 C1 L1 → RS w t1 A2 B2 C2 L2 → Calls Try.prog 20 #[.agg #[.slice A1 t1.M.W.length a1, .slice B1 t1.M.G.length b1, .bool t1.M.bad, .slice C1 t1.C.length c1, .slice L1 t1.L.length d1], .agg #[.slice A2 t1.M.W.length a2, .slice B2 t1.M.G.length b2, .bool t1.M.bad, .slice C2 t1.C.length c2, .slice L2 t1.L.length d2]] w fun e w' => e = .returned (.bool true) ∧ Below w.heap.size w w' from fun A1 B1 C1 L1 A2 B2 C2 L2 a1 b1 c1 d1 a2 b2 c2 d2 w k1 k2 => by have h9 := rsame_u A1 B1 C1 L1 A2 B2 C2 L2 a1 b1 c1 d1 a2 b2 c2 d2 t1 t1 w HT1.out k1 k2; rw [sySame_self] at h9; exact h9)
  clear hl1 hi1 hob hf1 ht1 hf hsm hR ok4
  have m0_0 : w3.cell? ⟨v0, 0, none⟩ = some (.slice A0 s0.M.W.length a0) := cell_of_row w3 _ 0 _ _ _ Bk0
  have m0_1 : w3.cell? ⟨v0, 1, none⟩ = some (.slice B0 s0.M.G.length b0) := cell_of_row w3 _ 1 _ _ _ Bk0
  have m0_2 : w3.cell? ⟨v0, 2, none⟩ = some (.bool s0.M.bad) := cell_of_row w3 _ 2 _ _ _ Bk0
  have m0_3 : w3.cell? ⟨v0, 3, none⟩ = some (.slice C0 s0.C.length c0) := cell_of_row w3 _ 3 _ _ _ Bk0
  have m0_4 : w3.cell? ⟨v0, 4, none⟩ = some (.slice L0 s0.L.length d0) := cell_of_row w3 _ 4 _ _ _ Bk0
  go_upto_region 5 with (go_at_call 37; (with_reducible refine (HW1.out _ S0).mono ?_); rintro e w4 ⟨A1, c1, rfl, r1, hk⟩)
  clear m0_0 m0_1 m0_2 m0_3 m0_4
  replace Bk0 := (hk.block v0 lt0).trans Bk0
  replace lt0 := Nat.lt_of_lt_of_le lt0 hk.size
  replace S0 := S0.step hk
  replace hb := bstep hb hk
  clear hk
  have m0_0 : w4.cell? ⟨v0, 0, none⟩ = some (.slice A0 s0.M.W.length a0) := cell_of_row w4 _ 0 _ _ _ Bk0
  have m0_1 : w4.cell? ⟨v0, 1, none⟩ = some (.slice B0 s0.M.G.length b0) := cell_of_row w4 _ 1 _ _ _ Bk0
  have m0_2 : w4.cell? ⟨v0, 2, none⟩ = some (.bool s0.M.bad) := cell_of_row w4 _ 2 _ _ _ Bk0
  have m0_3 : w4.cell? ⟨v0, 3, none⟩ = some (.slice C0 s0.C.length c0) := cell_of_row w4 _ 3 _ _ _ Bk0
  have m0_4 : w4.cell? ⟨v0, 4, none⟩ = some (.slice L0 s0.L.length d0) := cell_of_row w4 _ 4 _ _ _ Bk0
  go_upto_region 6 with (go_at_call 38; (with_reducible refine (HW2.out _ S0).mono ?_); rintro e w5 ⟨A2, c2, rfl, r2, hk⟩)
  clear m0_0 m0_1 m0_2 m0_3 m0_4
  replace Bk0 := (hk.block v0 lt0).trans Bk0
  replace lt0 := Nat.lt_of_lt_of_le lt0 hk.size
  replace S0 := S0.step hk
  replace r1 := r1.step hk
  replace hb := bstep hb hk
  clear hk
  go_upto_region 8 with (first | (go_at_call 25; (with_reducible refine (HI.out _ _ _ _ _ r1 r2).mono ?_); rintro e w6 ⟨rfl, hk⟩) | (go_at_call 39; (with_reducible refine (HO1.out _).mono ?_); rintro e wo ⟨rfl, rfl⟩) | (go_at_call 40; (with_reducible refine (HO2.out _).mono ?_); rintro e wp ⟨rfl, rfl⟩))
  replace Bk0 := (hk.block v0 lt0).trans Bk0
  replace lt0 := Nat.lt_of_lt_of_le lt0 hk.size
  replace S0 := S0.step hk
  replace r1 := r1.step hk
  replace r2 := r2.step hk
  replace hb := bstep hb hk
  clear hk
  have m0_0 : w6.cell? ⟨v0, 0, none⟩ = some (.slice A0 s0.M.W.length a0) := cell_of_row w6 _ 0 _ _ _ Bk0
  have m0_1 : w6.cell? ⟨v0, 1, none⟩ = some (.slice B0 s0.M.G.length b0) := cell_of_row w6 _ 1 _ _ _ Bk0
  have m0_2 : w6.cell? ⟨v0, 2, none⟩ = some (.bool s0.M.bad) := cell_of_row w6 _ 2 _ _ _ Bk0
  have m0_3 : w6.cell? ⟨v0, 3, none⟩ = some (.slice C0 s0.C.length c0) := cell_of_row w6 _ 3 _ _ _ Bk0
  have m0_4 : w6.cell? ⟨v0, 4, none⟩ = some (.slice L0 s0.L.length d0) := cell_of_row w6 _ 4 _ _ _ Bk0
  have KS := hid (show ∀ w', Below w6.heap.size w6 w' → (w'.cell? ⟨v0, 0, none⟩ = some (.slice A0 s0.M.W.length a0) ∧ w'.cell? ⟨v0, 1, none⟩ = some (.slice B0 s0.M.G.length b0) ∧ w'.cell? ⟨v0, 2, none⟩ = some (.bool s0.M.bad) ∧ w'.cell? ⟨v0, 3, none⟩ = some (.slice C0 s0.C.length c0) ∧ w'.cell? ⟨v0, 4, none⟩ = some (.slice L0 s0.L.length d0)) from fun w' h => ⟨(h.cell lt0).trans m0_0, (h.cell lt0).trans m0_1, (h.cell lt0).trans m0_2, (h.cell lt0).trans m0_3, (h.cell lt0).trans m0_4⟩)
  go_region_held3 (fun w' => w'.cell? ⟨v0, 0, none⟩ = some (.slice A0 s0.M.W.length a0) ∧ w'.cell? ⟨v0, 1, none⟩ = some (.slice B0 s0.M.G.length b0) ∧ w'.cell? ⟨v0, 2, none⟩ = some (.bool s0.M.bad) ∧ w'.cell? ⟨v0, 3, none⟩ = some (.slice C0 s0.C.length c0) ∧ w'.cell? ⟨v0, 4, none⟩ = some (.slice L0 s0.L.length d0)) (exact KS.out _ (by repeat (first | (with_reducible exact Below.refl _ _) | (with_reducible refine Below.drew ?_) | (with_reducible refine bstep ?_ (boxed _ _)) | (with_reducible refine bstep ?_ hk6) | (with_reducible refine bstep ?_ hk5) | (with_reducible refine bstep ?_ hk4) | (with_reducible refine bstep ?_ hk3) | (with_reducible refine bstep ?_ hk2) | (with_reducible refine bstep ?_ hk1))))
    (first | (go_at_call 42; (with_reducible refine (HF1.out _ (S0.step (by repeat (first | (with_reducible exact Below.refl _ _) | (with_reducible refine Below.drew ?_) | (with_reducible refine bstep ?_ (boxed _ _)) | (with_reducible refine bstep ?_ hk6) | (with_reducible refine bstep ?_ hk5) | (with_reducible refine bstep ?_ hk4) | (with_reducible refine bstep ?_ hk3) | (with_reducible refine bstep ?_ hk2) | (with_reducible refine bstep ?_ hk1))))).mono ?_); rintro e wk1 ⟨A11, B11, a11, b11, rfl, f1W, f1G, hk1⟩) | (go_at_call 43; (with_reducible refine (HF2.out _ (S0.step (by repeat (first | (with_reducible exact Below.refl _ _) | (with_reducible refine Below.drew ?_) | (with_reducible refine bstep ?_ (boxed _ _)) | (with_reducible refine bstep ?_ hk6) | (with_reducible refine bstep ?_ hk5) | (with_reducible refine bstep ?_ hk4) | (with_reducible refine bstep ?_ hk3) | (with_reducible refine bstep ?_ hk2) | (with_reducible refine bstep ?_ hk1))))).mono ?_); rintro e wk2 ⟨A12, B12, a12, b12, rfl, f2W, f2G, hk2⟩) | (go_at_call 41; (with_reducible refine (HSM.out _ _ _ _ _ _ _ _ _ (f1W.step (by repeat (first | (with_reducible exact Below.refl _ _) | (with_reducible refine Below.drew ?_) | (with_reducible refine bstep ?_ (boxed _ _)) | (with_reducible refine bstep ?_ hk6) | (with_reducible refine bstep ?_ hk5) | (with_reducible refine bstep ?_ hk4) | (with_reducible refine bstep ?_ hk3) | (with_reducible refine bstep ?_ hk2) | (with_reducible refine bstep ?_ hk1)))) (f1G.step (by repeat (first | (with_reducible exact Below.refl _ _) | (with_reducible refine Below.drew ?_) | (with_reducible refine bstep ?_ (boxed _ _)) | (with_reducible refine bstep ?_ hk6) | (with_reducible refine bstep ?_ hk5) | (with_reducible refine bstep ?_ hk4) | (with_reducible refine bstep ?_ hk3) | (with_reducible refine bstep ?_ hk2) | (with_reducible refine bstep ?_ hk1)))) (f2W.step (by repeat (first | (with_reducible exact Below.refl _ _) | (with_reducible refine Below.drew ?_) | (with_reducible refine bstep ?_ (boxed _ _)) | (with_reducible refine bstep ?_ hk6) | (with_reducible refine bstep ?_ hk5) | (with_reducible refine bstep ?_ hk4) | (with_reducible refine bstep ?_ hk3) | (with_reducible refine bstep ?_ hk2) | (with_reducible refine bstep ?_ hk1)))) (f2G.step (by repeat (first | (with_reducible exact Below.refl _ _) | (with_reducible refine Below.drew ?_) | (with_reducible refine bstep ?_ (boxed _ _)) | (with_reducible refine bstep ?_ hk6) | (with_reducible refine bstep ?_ hk5) | (with_reducible refine bstep ?_ hk4) | (with_reducible refine bstep ?_ hk3) | (with_reducible refine bstep ?_ hk2) | (with_reducible refine bstep ?_ hk1))))).mono ?_); rintro e wk3 ⟨rfl, hk3⟩) | (go_at_call 44; (with_reducible refine (HS1.out _ (S0.step (by repeat (first | (with_reducible exact Below.refl _ _) | (with_reducible refine Below.drew ?_) | (with_reducible refine bstep ?_ (boxed _ _)) | (with_reducible refine bstep ?_ hk6) | (with_reducible refine bstep ?_ hk5) | (with_reducible refine bstep ?_ hk4) | (with_reducible refine bstep ?_ hk3) | (with_reducible refine bstep ?_ hk2) | (with_reducible refine bstep ?_ hk1))))).mono ?_); rintro e wk4 ⟨A14, B14, C14, L14, a14, b14, c14, d14, rfl, x1, x2, x3, x4, hk4⟩; have S4 : RS wk4 t1 A14 B14 C14 L14 := ⟨x1, x2, x3, x4⟩; clear x1 x2 x3 x4) | (go_at_call 45; (with_reducible refine (HS2.out _ (S0.step (by repeat (first | (with_reducible exact Below.refl _ _) | (with_reducible refine Below.drew ?_) | (with_reducible refine bstep ?_ (boxed _ _)) | (with_reducible refine bstep ?_ hk6) | (with_reducible refine bstep ?_ hk5) | (with_reducible refine bstep ?_ hk4) | (with_reducible refine bstep ?_ hk3) | (with_reducible refine bstep ?_ hk2) | (with_reducible refine bstep ?_ hk1))))).mono ?_); rintro e wk5 ⟨A15, B15, C15, L15, a15, b15, c15, d15, rfl, x1, x2, x3, x4, hk5⟩; have S5 : RS wk5 t1 A15 B15 C15 L15 := ⟨x1, x2, x3, x4⟩; clear x1 x2 x3 x4) | (go_at_call 20; (with_reducible refine (HSS.out _ _ _ _ _ _ _ _ _ _ _ _ _ _ _ _ _ (S4.step (by repeat (first | (with_reducible exact Below.refl _ _) | (with_reducible refine Below.drew ?_) | (with_reducible refine bstep ?_ (boxed _ _)) | (with_reducible refine bstep ?_ hk6) | (with_reducible refine bstep ?_ hk5) | (with_reducible refine bstep ?_ hk4) | (with_reducible refine bstep ?_ hk3) | (with_reducible refine bstep ?_ hk2) | (with_reducible refine bstep ?_ hk1)))) (S5.step (by repeat (first | (with_reducible exact Below.refl _ _) | (with_reducible refine Below.drew ?_) | (with_reducible refine bstep ?_ (boxed _ _)) | (with_reducible refine bstep ?_ hk6) | (with_reducible refine bstep ?_ hk5) | (with_reducible refine bstep ?_ hk4) | (with_reducible refine bstep ?_ hk3) | (with_reducible refine bstep ?_ hk2) | (with_reducible refine bstep ?_ hk1))))).mono ?_); rintro e wk6 ⟨rfl, hk6⟩))
  rename_i hHeld
  have hbw : Below w6.heap.size w6 wk6 := (by repeat (first | (with_reducible exact Below.refl _ _) | (with_reducible refine Below.drew ?_) | (with_reducible refine bstep ?_ (boxed _ _)) | (with_reducible refine bstep ?_ hk6) | (with_reducible refine bstep ?_ hk5) | (with_reducible refine bstep ?_ hk4) | (with_reducible refine bstep ?_ hk3) | (with_reducible refine bstep ?_ hk2) | (with_reducible refine bstep ?_ hk1)))
  clear hHeld KS hk1 hk2 hk3 hk4 hk5 hk6
  clear m0_0 m0_1 m0_2 m0_3 m0_4
  replace Bk0 := (hbw.block v0 lt0).trans Bk0
  replace lt0 := Nat.lt_of_lt_of_le lt0 hbw.size
  replace S0 := S0.step hbw
  replace r1 := r1.step hbw
  replace r2 := r2.step hbw
  replace hb := bstep hb hbw
  clear hbw
  generalize wk6 = w7 at *
  go_wp2_with fail
  go_ret
  exact ⟨rfl, hb⟩

theorem walk (A0 B0 C0 L0 : Option Addr) (a0 b0 c0 d0 : Nat) (s0 : Sy) (n1 n2 : Int) (w0 : World)
    (rW : Row w0 A0 s0.M.W) (rG : Row w0 B0 s0.M.G) (rC : RowC w0 C0 s0.C) (rL : RowE w0 L0 s0.L) (g0 : s0.M.W.length ≤ maxLen) (g1 : s0.M.G.length ≤ maxLen) (g2 : s0.C.length ≤ maxLen) (g3 : s0.L.length ≤ maxLen) (hin : ∀ x ∈ s0.M.W, -9223372036854775808 ≤ x ∧ x ≤ 9223372036854775807) :
    Calls Try.prog 8 #[.agg #[.slice A0 s0.M.W.length a0, .slice B0 s0.M.G.length b0, .bool s0.M.bad, .slice C0 s0.C.length c0, .slice L0 s0.L.length d0], .int .i64 n1, .int .i64 n2] w0 fun e w' => e = .returned (.bool true) ∧ Below w0.heap.size w0 w' := by
  rcases q0 : syMays s0 with _ | _
  · exact walk_not A0 B0 C0 L0 a0 b0 c0 d0 s0 n1 n2 w0 rW rG rC rL g0 g1 g2 g3 hin q0
  · exact walk_yes A0 B0 C0 L0 a0 b0 c0 d0 s0 n1 n2 w0 rW rG rC rL g0 g1 g2 g3 hin q0

set_option maxRecDepth 100000 in
theorem lifted (os : Os) (started : os.Started) (H : Type) (enc : TypeId × Value → H) :
    ReturnsInHanded {} Try.checked os 8 .any (Rows.stackTellsSpec.pre6 enc Try.prog Try.f8 Rows.stackTellsRow.domain false) (Rows.stackTellsSpec.post enc Try.prog Try.f8 false true false false) := by
  refine returnsInHanded_of_change (C := Try.checked) own started (by kernel_rfl) Try.func8
    (ChangeSpec.witness6 (enc := enc) (C := Try.checked) false ⟨#[], #[.agg #[.slice none 0 0, .slice none 0 0, .bool false, .slice none 0 0, .slice none 0 0], .int .i64 0, .int .i64 0], []⟩ 8 (by kernel_rfl) (by kernel_rfl) (by kernel_rfl) (by kernel_rfl)) ?_
  intro W base args ds gs before hval0 hW hcnd _
  have hval : ∀ (j : Nat) t v, Try.f8.params[j]? = some t → args[j]? = some v → Value.okWide Try.prog W .any base t v := hval0
  have hW' := hW
  obtain ⟨p, q, hA0, hV, rfl, hfz, hnd⟩ := hW
  have hA : DataW.TrodAll enc Try.prog W 0 (fun _ => true) true Try.f8.params.toList args.toList ds p := hA0
  rw [Try.params8] at hA hval
  obtain ⟨v0, vs0, d0, ds0, p0, q0, hargs, rfl, rfl, h0, r0⟩ := trodAll_cons hA
  obtain ⟨v1, vs1, d1, ds1, p1, q1, rfl, rfl, rfl, h1, r1⟩ := trodAll_cons r0
  obtain ⟨v2, vs2, d2, ds2, p2, q2, rfl, rfl, rfl, h2, r2⟩ := trodAll_cons r1
  obtain ⟨rfl, rfl, rfl⟩ := trodAll_nil r2
  obtain rfl : args = #[v0, v1, v2] := by cases args; simp_all
  obtain ⟨rfl, rfl⟩ := trodVars_none hV
  clear hA0 hval0
  obtain ⟨A0, B0, C0, L0, a0, b0, c0, d0, s0, rfl, rW, rG, rC, rL, l0, l1, l2, l3, hin⟩ := open_systemW (hval 0 _ v0 rfl rfl) h0
  obtain ⟨a, rfl⟩ := okWide_int Try.underlying3 (hval 1 3 v1 rfl rfl)
  obtain ⟨b, rfl⟩ := okWide_int Try.underlying3 (hval 2 3 v2 rfl rfl)
  refine (walk A0 B0 C0 L0 a0 b0 c0 d0 s0 a b W rW rG rC rL l0 l1 l2 l3 hin).mono fun e W' ⟨he, hb⟩ => ?_
  subst he
  exact ⟨_, rfl, law_post (tb := 4) (by kernel_rfl) (by kernel_rfl) (by kernel_rfl) Try.underlying4 rfl hW' rfl hb⟩

theorem over : Rows.stackTellsRow.holds Try.pinned (OpenSpec.ofChange Rows.stackTellsSpec) :=
  OpenClaim.holds_of_wide 8 Try.f8 rfl rfl rfl rfl rfl rfl rfl ⟨rfl, rfl, rfl, rfl, rfl⟩ rfl rfl rfl rfl rfl (by kernel_rfl) Try.func8 (by kernel_rfl)
    (of_decide_eq_true (by kernel_rfl)) (by unfold Func.isWrapper; first | (rw [if_pos (by decide +kernel)]; kernel_rfl) | (rw [if_neg (by decide +kernel)]; exact ⟨rfl, rfl⟩))
    (fun os started H enc _ => lifted os started H enc)
end StackTells

theorem stackTells_holds : Rows.StackTellsSaid := StackTells.over
#print axioms stackTells_holds
end Go.Proofs.Ytpagekhgeahmaaa
