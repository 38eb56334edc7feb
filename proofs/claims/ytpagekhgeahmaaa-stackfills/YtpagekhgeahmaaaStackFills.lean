/- For every arena, the law StackFills (a filled arena's list tells all nodes, in order, whatever it held; filled again nothing is changed; no node is turned) returns true, and the argument reads afterwards as before. No conditions. -/
import Derived.Test.YtpagekhgeahmaaaRows
import Derived.Test.YtpagekhgeahmaaaKSho
import Derived.Test.YtpagekhgeahmaaaKStA
import Derived.Test.YtpagekhgeahmaaaKOpe
import Derived.Test.YtpagekhgeahmaaaKBas
namespace Go.Proofs.Ytpagekhgeahmaaa
namespace StackFills
open Go.ChangeShapes Go.WideShapes Go.ChangeAt Go.RowKit
set_option linter.unusedVariables false
set_option linter.unusedSimpArgs false

theorem own : ownKnob Try.prog.godebug = none := by kernel_rfl

theorem mInts_self (l : List Int) : mInts l l = true := by simp [mInts]
theorem mSame_self (m : Ar) : mSame m m = true := by simp [mSame, mInts]
set_option maxRecDepth 100000 in
set_option maxHeartbeats 8000000 in
theorem walk_not (A0 B0 : Option Addr) (a0 b0 : Nat) (m0 : Ar) (w0 : World) (rW : Row w0 A0 m0.W) (rG : Row w0 B0 m0.G) (g0 : m0.W.length ≤ maxLen) (g1 : m0.G.length ≤ maxLen) (hin : ∀ x ∈ m0.W, -9223372036854775808 ≤ x ∧ x ≤ 9223372036854775807) (q0 : mMays m0 = false) :
    Calls Try.prog 13 #[.agg #[.slice A0 m0.W.length a0, .slice B0 m0.G.length b0, .bool m0.bad]] w0 fun e w' => e = .returned (.bool true) ∧ Below w0.heap.size w0 w' := by
  have hb : Below w0.heap.size w0 w0 := Below.refl _ _
  have HC := may_any A0 B0 a0 b0 m0
  rw [q0] at HC
  replace HC := hid (show ∀ w, Row w B0 m0.G → Calls Try.prog 51 #[.agg #[.slice A0 m0.W.length a0, .slice B0 m0.G.length b0, .bool m0.bad], .int .i64 60] w fun e w' => e = .returned (.bool false) ∧ Below w.heap.size w w' from fun w h => HC w h g1 g0)
  clear g0 g1
  have HIN := hid hin
  clear hin
  go_enter Try.func13, Try.ntmps13
  go_upto_region 1 with (fail)
  have Bk0 := heap_alloc_new w0 (.cells #[.slice A0 m0.W.length a0, .slice B0 m0.G.length b0, .bool m0.bad] 24)
  have lt0 : w0.heap.size < (w0.alloc (.cells #[.slice A0 m0.W.length a0, .slice B0 m0.G.length b0, .bool m0.bad] 24)).heap.size := by simp
  have hk : Below w0.heap.size w0 (w0.alloc (.cells #[.slice A0 m0.W.length a0, .slice B0 m0.G.length b0, .bool m0.bad] 24)) := boxed _ _
  replace rW := rW.step hk
  replace rG := rG.step hk
  replace hb := bstep hb hk
  clear hk
  obtain ⟨v0, hv⟩ : ∃ v, w0.heap.size = v := ⟨_, rfl⟩
  rw [hv] at Bk0 lt0 ⊢
  clear hv
  generalize (w0.alloc (.cells #[.slice A0 m0.W.length a0, .slice B0 m0.G.length b0, .bool m0.bad] 24)) = w1 at *
  go_wp2_with fail
  refine (shown4_any _).mono ?_
  rintro e w2 ⟨rfl, hk⟩
  replace Bk0 := (hk.block v0 lt0).trans Bk0
  replace lt0 := Nat.lt_of_lt_of_le lt0 hk.size
  replace rW := rW.step hk
  replace rG := rG.step hk
  replace hb := bstep hb hk
  clear hk
  go_upto_region 2 with (fail)
  have m0_0 : w2.cell? ⟨v0, 0, none⟩ = some (.slice A0 m0.W.length a0) := cell_of_row w2 _ 0 _ _ _ Bk0
  have m0_1 : w2.cell? ⟨v0, 1, none⟩ = some (.slice B0 m0.G.length b0) := cell_of_row w2 _ 1 _ _ _ Bk0
  have m0_2 : w2.cell? ⟨v0, 2, none⟩ = some (.bool m0.bad) := cell_of_row w2 _ 2 _ _ _ Bk0
  go_wp2_with (go_at_call 51; refine (HC.out _ rG).mono ?_; rintro e wm ⟨rfl, hk⟩)
  go_ret
  exact ⟨rfl, bstep hb hk⟩

set_option maxRecDepth 100000 in
set_option maxHeartbeats 8000000 in
theorem walk_yes (A0 B0 : Option Addr) (a0 b0 : Nat) (m0 : Ar) (w0 : World) (rW : Row w0 A0 m0.W) (rG : Row w0 B0 m0.G) (g0 : m0.W.length ≤ maxLen) (g1 : m0.G.length ≤ maxLen) (hin : ∀ x ∈ m0.W, -9223372036854775808 ≤ x ∧ x ≤ 9223372036854775807) (q0 : mMays m0 = true) :
    Calls Try.prog 13 #[.agg #[.slice A0 m0.W.length a0, .slice B0 m0.G.length b0, .bool m0.bad]] w0 fun e w' => e = .returned (.bool true) ∧ Below w0.heap.size w0 w' := by
  have hb : Below w0.heap.size w0 w0 := Below.refl _ _
  have HC := may_any A0 B0 a0 b0 m0
  rw [q0] at HC
  replace HC := hid (show ∀ w, Row w B0 m0.G → Calls Try.prog 51 #[.agg #[.slice A0 m0.W.length a0, .slice B0 m0.G.length b0, .bool m0.bad], .int .i64 60] w fun e w' => e = .returned (.bool true) ∧ Below w.heap.size w w' from fun w h => HC w h g1 g0)
  clear g0 g1
  have HIN := hid hin
  clear hin
  go_enter Try.func13, Try.ntmps13
  go_upto_region 1 with (fail)
  have Bk0 := heap_alloc_new w0 (.cells #[.slice A0 m0.W.length a0, .slice B0 m0.G.length b0, .bool m0.bad] 24)
  have lt0 : w0.heap.size < (w0.alloc (.cells #[.slice A0 m0.W.length a0, .slice B0 m0.G.length b0, .bool m0.bad] 24)).heap.size := by simp
  have hk : Below w0.heap.size w0 (w0.alloc (.cells #[.slice A0 m0.W.length a0, .slice B0 m0.G.length b0, .bool m0.bad] 24)) := boxed _ _
  replace rW := rW.step hk
  replace rG := rG.step hk
  replace hb := bstep hb hk
  clear hk
  obtain ⟨v0, hv⟩ : ∃ v, w0.heap.size = v := ⟨_, rfl⟩
  rw [hv] at Bk0 lt0 ⊢
  clear hv
  generalize (w0.alloc (.cells #[.slice A0 m0.W.length a0, .slice B0 m0.G.length b0, .bool m0.bad] 24)) = w1 at *
  go_wp2_with fail
  refine (shown4_any _).mono ?_
  rintro e w2 ⟨rfl, hk⟩
  replace Bk0 := (hk.block v0 lt0).trans Bk0
  replace lt0 := Nat.lt_of_lt_of_le lt0 hk.size
  replace rW := rW.step hk
  replace rG := rG.step hk
  replace hb := bstep hb hk
  clear hk
  go_upto_region 2 with (fail)
  have m0_0 : w2.cell? ⟨v0, 0, none⟩ = some (.slice A0 m0.W.length a0) := cell_of_row w2 _ 0 _ _ _ Bk0
  have m0_1 : w2.cell? ⟨v0, 1, none⟩ = some (.slice B0 m0.G.length b0) := cell_of_row w2 _ 1 _ _ _ Bk0
  have m0_2 : w2.cell? ⟨v0, 2, none⟩ = some (.bool m0.bad) := cell_of_row w2 _ 2 _ _ _ Bk0
  go_upto_region 4 with (go_at_call 51; refine (HC.out _ rG).mono ?_; rintro e w3 ⟨rfl, hk⟩)
  clear m0_0 m0_1 m0_2
  replace Bk0 := (hk.block v0 lt0).trans Bk0
  replace lt0 := Nat.lt_of_lt_of_le lt0 hk.size
  replace rW := rW.step hk
  replace rG := rG.step hk
  replace hb := bstep hb hk
  clear hk
  clear HC
  have hmay : mSmall m0 = true ∧ mRight m0 = true := by simpa [mMays] using q0
  have hR := Rt.of hmay.2
  clear hmay q0
  have g2 := hR.g2
  have g3 := hR.g3
  have gw : m0.W.length ≤ 1000000 := by have := hR.w; omega
  have gg : m0.G.length ≤ 1000000 := by omega
  have HR := hid hR
  clear hR
  obtain ⟨f1, hf1⟩ : ∃ f, f = pFill m0 := ⟨_, rfl⟩
  have HFW := hid (show f1.W.length = m0.W.length by rw [hf1]; exact (pFill_len m0).1)
  have HFG := hid (show f1.G = m0.G by rw [hf1]; exact (pFill_len m0).2)
  have HFB := hid (show f1.bad = m0.bad by rw [hf1]; exact (fill_W HR.out).2)
  have HF := hid (show ∀ (A B : Option Addr) (a b : Nat) (w : World), Row w A m0.W → Row w B m0.G → Calls Try.prog 42 #[.agg #[.slice A m0.W.length a, .slice B m0.G.length b, .bool m0.bad]] w (RetMem w f1) from fun A B a b w k1 k2 => by have h9 := fill_any A B a b m0 w k1 k2 gw gg g2; rw [hf1]; exact h9)
  have HF2 := hid (show ∀ (A B : Option Addr) (a b : Nat) (w : World), Row w A f1.W → Row w B f1.G → Calls Try.prog 42 #[.agg #[.slice A f1.W.length a, .slice B f1.G.length b, .bool m0.bad]] w (RetMem w f1) from fun A B a b w k1 k2 => by have h9 := fill_any A B a b f1 w k1 k2 (by rw [HFW.out]; exact gw) (by rw [HFG.out]; exact gg) (by rw [HFG.out]; exact g2); have e9 : pFill f1 = f1 := (by rw [hf1]; exact fill_twice HR.out); rw [e9, HFB.out] at h9; exact h9)
  obtain ⟨l1, hl1⟩ : ∃ l, l = upTo (m0.G.length - 1) := ⟨_, rfl⟩
  have HL := hid (show l1.length = m0.G.length - 1 by rw [hl1]; exact upTo_len _)
  have HAT := hid (show ∀ i, i < m0.G.length - 1 → l1[i]? = some ((i : Int) + 1) from fun i hi => by rw [hl1]; exact upTo_at hi)
  have HW := hid (show ∀ (A B : Option Addr) (a b : Nat) (w : World), Row w A f1.W → Row w B f1.G → Calls Try.prog 37 #[.agg #[.slice A f1.W.length a, .slice B f1.G.length b, .bool m0.bad]] w (RetInts w l1 true) from fun A B a b w k1 k2 => by have h9 := walk_any A B a b f1 w k1 k2 (by rw [HFW.out]; exact gw) (by rw [HFG.out]; exact gg) (by rw [HFG.out]; exact g2) (by rw [hf1]; exact fill_in HR.out HIN.out); rw [show pWalk f1 = some (upTo (m0.G.length - 1)) by rw [hf1]; exact fill_walk HR.out, HFB.out] at h9; rw [hl1]; exact h9)
  have HI := hid (show ∀ (A B : Option Addr) (a b : Nat) (w : World), Row w A f1.G → Row w B m0.G → Calls Try.prog 25 #[.slice A f1.G.length a, .slice B m0.G.length b] w fun e w' => e = .returned (.bool true) ∧ Below w.heap.size w w' from fun A B a b w k1 k2 => by have h9 := rints_any A B a b f1.G m0.G w k1 k2 (by rw [HFG.out]; omega); rw [show mInts f1.G m0.G = true by rw [HFG.out]; exact mInts_self _] at h9; exact h9)
  have HSM := hid (show ∀ (A B A' B' : Option Addr) (a b a' b' : Nat) (w : World), Row w A f1.W → Row w B f1.G → Row w A' f1.W → Row w B' f1.G → Calls Try.prog 41 #[.agg #[.slice A f1.W.length a, .slice B f1.G.length b, .bool m0.bad], .agg #[.slice A' f1.W.length a', .slice B' f1.G.length b', .bool m0.bad]] w fun e w' => e = .returned (.bool true) ∧ Below w.heap.size w w' from fun A B A' B' a b a' b' w k1 k2 k3 k4 => by have h9 := rsame_any A B A' B' a b a' b' f1 f1 w k1 k2 k3 k4 (by rw [HFW.out]; omega) (by rw [HFG.out]; omega); rw [mSame_self, HFB.out] at h9; exact h9)
  clear hf1 hl1
  have m0_0 : w3.cell? ⟨v0, 0, none⟩ = some (.slice A0 m0.W.length a0) := cell_of_row w3 _ 0 _ _ _ Bk0
  have m0_1 : w3.cell? ⟨v0, 1, none⟩ = some (.slice B0 m0.G.length b0) := cell_of_row w3 _ 1 _ _ _ Bk0
  have m0_2 : w3.cell? ⟨v0, 2, none⟩ = some (.bool m0.bad) := cell_of_row w3 _ 2 _ _ _ Bk0
  go_wp2_with fail
  clear m0_0 m0_1 m0_2
  refine (HF.out A0 B0 a0 b0 _ rW rG).mono ?_
  rintro e w4 ⟨A1, B1, a1, b1, rfl, fW, fG, hk⟩
  rw [HFB.out]
  replace Bk0 := (hk.block v0 lt0).trans Bk0
  replace lt0 := Nat.lt_of_lt_of_le lt0 hk.size
  replace rW := rW.step hk
  replace rG := rG.step hk
  replace hb := bstep hb hk
  clear hk
  go_upto_region 5 with (fail)
  have Bk1 := heap_alloc_new w4 (.cells #[.slice A1 f1.W.length a1, .slice B1 f1.G.length b1, .bool m0.bad] 24)
  have lt1 : w4.heap.size < (w4.alloc (.cells #[.slice A1 f1.W.length a1, .slice B1 f1.G.length b1, .bool m0.bad] 24)).heap.size := by simp
  have hk : Below w4.heap.size w4 (w4.alloc (.cells #[.slice A1 f1.W.length a1, .slice B1 f1.G.length b1, .bool m0.bad] 24)) := boxed _ _
  replace Bk0 := (hk.block v0 lt0).trans Bk0
  replace lt0 := Nat.lt_of_lt_of_le lt0 hk.size
  replace rW := rW.step hk
  replace rG := rG.step hk
  replace fW := fW.step hk
  replace fG := fG.step hk
  replace hb := bstep hb hk
  clear hk
  obtain ⟨v1, hv⟩ : ∃ v, w4.heap.size = v := ⟨_, rfl⟩
  rw [hv] at Bk1 lt1 ⊢
  clear hv
  generalize (w4.alloc (.cells #[.slice A1 f1.W.length a1, .slice B1 f1.G.length b1, .bool m0.bad] 24)) = w5 at *
  have m1_0 : w5.cell? ⟨v1, 0, none⟩ = some (.slice A1 f1.W.length a1) := cell_of_row w5 _ 0 _ _ _ Bk1
  have m1_1 : w5.cell? ⟨v1, 1, none⟩ = some (.slice B1 f1.G.length b1) := cell_of_row w5 _ 1 _ _ _ Bk1
  have m1_2 : w5.cell? ⟨v1, 2, none⟩ = some (.bool m0.bad) := cell_of_row w5 _ 2 _ _ _ Bk1
  go_upto_region 6 with (go_at_call 37; (with_reducible refine (HW.out A1 B1 a1 b1 _ fW fG).mono ?_); rintro e w6 ⟨A2, c2, rfl, rL, hk⟩)
  clear m1_0 m1_1 m1_2
  replace Bk0 := (hk.block v0 lt0).trans Bk0
  replace lt0 := Nat.lt_of_lt_of_le lt0 hk.size
  replace Bk1 := (hk.block v1 lt1).trans Bk1
  replace lt1 := Nat.lt_of_lt_of_le lt1 hk.size
  replace rW := rW.step hk
  replace rG := rG.step hk
  replace fW := fW.step hk
  replace fG := fG.step hk
  replace hb := bstep hb hk
  clear hk
  have x1 : IntKind.i64.wrap ((m0.G.length : Int) - 1) = (m0.G.length : Int) - 1 := IntWalk.i64_in _ (by omega)
  have x2 : ((l1.length : Int) != (m0.G.length : Int) - 1) = false := by have := HL.out; simp; omega
  have m0_0 : w6.cell? ⟨v0, 0, none⟩ = some (.slice A0 m0.W.length a0) := cell_of_row w6 _ 0 _ _ _ Bk0
  have m0_1 : w6.cell? ⟨v0, 1, none⟩ = some (.slice B0 m0.G.length b0) := cell_of_row w6 _ 1 _ _ _ Bk0
  have m0_2 : w6.cell? ⟨v0, 2, none⟩ = some (.bool m0.bad) := cell_of_row w6 _ 2 _ _ _ Bk0
  have m1_0 : w6.cell? ⟨v1, 0, none⟩ = some (.slice A1 f1.W.length a1) := cell_of_row w6 _ 0 _ _ _ Bk1
  have m1_1 : w6.cell? ⟨v1, 1, none⟩ = some (.slice B1 f1.G.length b1) := cell_of_row w6 _ 1 _ _ _ Bk1
  have m1_2 : w6.cell? ⟨v1, 2, none⟩ = some (.bool m0.bad) := cell_of_row w6 _ 2 _ _ _ Bk1
  have KS := hid (show ∀ w', Below w6.heap.size w6 w' → (w'.cell? ⟨v0, 0, none⟩ = some (.slice A0 m0.W.length a0) ∧ w'.cell? ⟨v0, 1, none⟩ = some (.slice B0 m0.G.length b0) ∧ w'.cell? ⟨v0, 2, none⟩ = some (.bool m0.bad) ∧ w'.cell? ⟨v1, 0, none⟩ = some (.slice A1 f1.W.length a1) ∧ w'.cell? ⟨v1, 1, none⟩ = some (.slice B1 f1.G.length b1) ∧ w'.cell? ⟨v1, 2, none⟩ = some (.bool m0.bad)) from fun w' h => ⟨(h.cell lt0).trans m0_0, (h.cell lt0).trans m0_1, (h.cell lt0).trans m0_2, (h.cell lt1).trans m1_0, (h.cell lt1).trans m1_1, (h.cell lt1).trans m1_2⟩)
  go_region_held3 (fun w' => w'.cell? ⟨v0, 0, none⟩ = some (.slice A0 m0.W.length a0) ∧ w'.cell? ⟨v0, 1, none⟩ = some (.slice B0 m0.G.length b0) ∧ w'.cell? ⟨v0, 2, none⟩ = some (.bool m0.bad) ∧ w'.cell? ⟨v1, 0, none⟩ = some (.slice A1 f1.W.length a1) ∧ w'.cell? ⟨v1, 1, none⟩ = some (.slice B1 f1.G.length b1) ∧ w'.cell? ⟨v1, 2, none⟩ = some (.bool m0.bad)) (exact KS.out _ (by repeat (first | (with_reducible exact Below.refl _ _) | (with_reducible refine Below.drew ?_) | (with_reducible refine bstep ?_ (boxed _ _)) | (with_reducible refine bstep ?_ hk3) | (with_reducible refine bstep ?_ hk2) | (with_reducible refine bstep ?_ hk1))))
    (first | (go_at_call 25; (with_reducible refine (HI.out _ _ _ _ _ (fG.step (by repeat (first | (with_reducible exact Below.refl _ _) | (with_reducible refine Below.drew ?_) | (with_reducible refine bstep ?_ (boxed _ _)) | (with_reducible refine bstep ?_ hk3) | (with_reducible refine bstep ?_ hk2) | (with_reducible refine bstep ?_ hk1)))) (rG.step (by repeat (first | (with_reducible exact Below.refl _ _) | (with_reducible refine Below.drew ?_) | (with_reducible refine bstep ?_ (boxed _ _)) | (with_reducible refine bstep ?_ hk3) | (with_reducible refine bstep ?_ hk2) | (with_reducible refine bstep ?_ hk1))))).mono ?_); rintro e wk1 ⟨rfl, hk1⟩) | (go_at_call 42; (with_reducible refine (HF2.out A1 B1 a1 b1 _ (fW.step (by repeat (first | (with_reducible exact Below.refl _ _) | (with_reducible refine Below.drew ?_) | (with_reducible refine bstep ?_ (boxed _ _)) | (with_reducible refine bstep ?_ hk3) | (with_reducible refine bstep ?_ hk2) | (with_reducible refine bstep ?_ hk1)))) (fG.step (by repeat (first | (with_reducible exact Below.refl _ _) | (with_reducible refine Below.drew ?_) | (with_reducible refine bstep ?_ (boxed _ _)) | (with_reducible refine bstep ?_ hk3) | (with_reducible refine bstep ?_ hk2) | (with_reducible refine bstep ?_ hk1))))).mono ?_); rintro e wk2 ⟨A3, B3, a3, b3, rfl, r31, r32, hk2⟩; rw [HFB.out]) | (go_at_call 41; (with_reducible refine (HSM.out _ _ _ _ _ _ _ _ _ (r31.step (by repeat (first | (with_reducible exact Below.refl _ _) | (with_reducible refine Below.drew ?_) | (with_reducible refine bstep ?_ (boxed _ _)) | (with_reducible refine bstep ?_ hk3) | (with_reducible refine bstep ?_ hk2) | (with_reducible refine bstep ?_ hk1)))) (r32.step (by repeat (first | (with_reducible exact Below.refl _ _) | (with_reducible refine Below.drew ?_) | (with_reducible refine bstep ?_ (boxed _ _)) | (with_reducible refine bstep ?_ hk3) | (with_reducible refine bstep ?_ hk2) | (with_reducible refine bstep ?_ hk1)))) (fW.step (by repeat (first | (with_reducible exact Below.refl _ _) | (with_reducible refine Below.drew ?_) | (with_reducible refine bstep ?_ (boxed _ _)) | (with_reducible refine bstep ?_ hk3) | (with_reducible refine bstep ?_ hk2) | (with_reducible refine bstep ?_ hk1)))) (fG.step (by repeat (first | (with_reducible exact Below.refl _ _) | (with_reducible refine Below.drew ?_) | (with_reducible refine bstep ?_ (boxed _ _)) | (with_reducible refine bstep ?_ hk3) | (with_reducible refine bstep ?_ hk2) | (with_reducible refine bstep ?_ hk1))))).mono ?_); rintro e wk3 ⟨rfl, hk3⟩))
  rename_i hHeld
  have hbw : Below w6.heap.size w6 wk3 := (by repeat (first | (with_reducible exact Below.refl _ _) | (with_reducible refine Below.drew ?_) | (with_reducible refine bstep ?_ (boxed _ _)) | (with_reducible refine bstep ?_ hk3) | (with_reducible refine bstep ?_ hk2) | (with_reducible refine bstep ?_ hk1)))
  clear hHeld KS hk1 hk2 hk3
  clear m0_0 m0_1 m0_2 m1_0 m1_1 m1_2
  replace Bk0 := (hbw.block v0 lt0).trans Bk0
  replace lt0 := Nat.lt_of_lt_of_le lt0 hbw.size
  replace Bk1 := (hbw.block v1 lt1).trans Bk1
  replace lt1 := Nat.lt_of_lt_of_le lt1 hbw.size
  replace rW := rW.step hbw
  replace rG := rG.step hbw
  replace fW := fW.step hbw
  replace fG := fG.step hbw
  replace rL := rL.step hbw
  replace hb := bstep hb hbw
  clear hbw
  generalize wk3 = w7 at *
  clear x1 x2
  obtain ⟨gb, go, eA, hbl, hc⟩ := rL (by have := HL.out; omega)
  subst eA
  have HCC := hid hc
  clear hc
  go_wp2_with fail
  go_loop [7] (fun i => ∃ k : Nat, k ≤ l1.length ∧ i = .int .i64 k) (fun i => l1.length - (intOf i).toNat)
  case atStart => exact ⟨0, Nat.zero_le _, rfl⟩
  case round =>
    obtain ⟨k, hkk, rfl⟩ := hrel
    have hl1 := HL.out
    by_cases hlt : k < l1.length
    · have hc := HCC.out k _ (HAT.out k (by omega))
      have kl : (k : Int) < (l1.length : Int) := by omega
      have kb : (k : Int) ≤ 300 := by omega
      have HL1 := hid hl1
      clear hl1
      go_wp2_with fail
      go_round
      case rel => exact ⟨k + 1, by omega, by go_num⟩
      case measure => simp [intOf]; omega
    · have kl : (l1.length : Int) ≤ (k : Int) := by omega
      clear hl1
      go_wp2_with fail
      go_ret
      exact ⟨rfl, hb⟩

theorem walk (A0 B0 : Option Addr) (a0 b0 : Nat) (m0 : Ar) (w0 : World) (rW : Row w0 A0 m0.W) (rG : Row w0 B0 m0.G) (g0 : m0.W.length ≤ maxLen) (g1 : m0.G.length ≤ maxLen) (hin : ∀ x ∈ m0.W, -9223372036854775808 ≤ x ∧ x ≤ 9223372036854775807) :
    Calls Try.prog 13 #[.agg #[.slice A0 m0.W.length a0, .slice B0 m0.G.length b0, .bool m0.bad]] w0 fun e w' => e = .returned (.bool true) ∧ Below w0.heap.size w0 w' := by
  rcases q0 : mMays m0 with _ | _
  · exact walk_not A0 B0 a0 b0 m0 w0 rW rG g0 g1 hin q0
  · exact walk_yes A0 B0 a0 b0 m0 w0 rW rG g0 g1 hin q0

set_option maxRecDepth 100000 in
theorem lifted (os : Os) (started : os.Started) (H : Type) (enc : TypeId × Value → H) :
    ReturnsInHanded {} Try.checked os 13 .any (Rows.stackFillsSpec.pre6 enc Try.prog Try.f13 Rows.stackFillsRow.domain false) (Rows.stackFillsSpec.post enc Try.prog Try.f13 false true false false) := by
  refine returnsInHanded_of_change (C := Try.checked) own started (by kernel_rfl) Try.func13
    (ChangeSpec.witness6 (enc := enc) (C := Try.checked) false ⟨#[], #[.agg #[.slice none 0 0, .slice none 0 0, .bool false]], []⟩ 8 (by kernel_rfl) (by kernel_rfl) (by kernel_rfl) (by kernel_rfl)) ?_
  intro W base args ds gs before hval0 hW hcnd _
  have hval : ∀ (j : Nat) t v, Try.f13.params[j]? = some t → args[j]? = some v → Value.okWide Try.prog W .any base t v := hval0
  have hW' := hW
  obtain ⟨p, q, hA0, hV, rfl, hfz, hnd⟩ := hW
  have hA : DataW.TrodAll enc Try.prog W 0 (fun _ => true) true Try.f13.params.toList args.toList ds p := hA0
  rw [Try.params13] at hA hval
  obtain ⟨v0, vs0, d0, ds0, p0, q0, hargs, rfl, rfl, h0, r0⟩ := trodAll_cons hA
  obtain ⟨rfl, rfl, rfl⟩ := trodAll_nil r0
  obtain rfl : args = #[v0] := by cases args; simp_all
  obtain ⟨rfl, rfl⟩ := trodVars_none hV
  clear hA0 hval0
  obtain ⟨A0, B0, a0, b0, m0, rfl, rW, rG, l0, l1, hin⟩ := open_arenaW (hval 0 _ v0 rfl rfl) h0
  refine (walk A0 B0 a0 b0 m0 W rW rG l0 l1 hin).mono fun e W' ⟨he, hb⟩ => ?_
  subst he
  exact ⟨_, rfl, law_post (tb := 4) (by kernel_rfl) (by kernel_rfl) (by kernel_rfl) Try.underlying4 rfl hW' rfl hb⟩

theorem over : Rows.stackFillsRow.holds Try.pinned (OpenSpec.ofChange Rows.stackFillsSpec) :=
  OpenClaim.holds_of_wide 13 Try.f13 rfl rfl rfl rfl rfl rfl rfl ⟨rfl, rfl, rfl, rfl, rfl⟩ rfl rfl rfl rfl rfl (by kernel_rfl) Try.func13 (by kernel_rfl)
    (of_decide_eq_true (by kernel_rfl)) (by unfold Func.isWrapper; first | (rw [if_pos (by decide +kernel)]; kernel_rfl) | (rw [if_neg (by decide +kernel)]; exact ⟨rfl, rfl⟩))
    (fun os started H enc _ => lifted os started H enc)
end StackFills

theorem stackFills_holds : Rows.StackFillsSaid := StackFills.over
#print axioms stackFills_holds
end Go.Proofs.Ytpagekhgeahmaaa
