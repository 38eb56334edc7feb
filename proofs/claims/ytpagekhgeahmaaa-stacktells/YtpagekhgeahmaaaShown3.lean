/- Contracts: the document's example for layer 3. -/
import Derived.Test.YtpagekhgeahmaaaKCoT
import Derived.Test.YtpagekhgeahmaaaCoreB
import Derived.Test.YtpagekhgeahmaaaCoreC
import Derived.Test.YtpagekhgeahmaaaCoreW
import Derived.Test.YtpagekhgeahmaaaKCoR
import Derived.Test.YtpagekhgeahmaaaKCoS
namespace Go.Proofs.Ytpagekhgeahmaaa
open Go.RowKit
set_option linter.unusedVariables false
set_option linter.unusedSimpArgs false

theorem eqlEv (a b : Evt) (w : World) : (binOp .eql 56 (.agg #[.int .i64 a.core, .int .i64 a.kind, .int .i64 a.a, .int .i64 a.b, .int .i64 a.v]) (.agg #[.int .i64 b.core, .int .i64 b.kind, .int .i64 b.a, .int .i64 b.b, .int .i64 b.v])).run Try.prog w = .ok (.bool (decide (a = b))) w := by
  have e : decide (a = b) = (a.core == b.core && (a.kind == b.kind && (a.a == b.a && (a.b == b.b && a.v == b.v)))) := by
    obtain ⟨a0, a1, a2, a3, a4⟩ := a
    obtain ⟨b0, b1, b2, b3, b4⟩ := b
    rw [Bool.eq_iff_iff]
    simp
  rw [e]
  simp [go_sem]
  by_cases h0 : a.core = b.core <;> by_cases h1 : a.kind = b.kind <;> by_cases h2 : a.a = b.a <;> by_cases h3 : a.b = b.b <;> by_cases h4 : a.v = b.v <;> simp [h0, h1, h2, h3, h4]
/-- A variable that holds a system. -/
structure SV (w : World) (v : Nat) (s : Sy) (A B C L : Option Addr) (a b c d : Nat) : Prop where
  lt : v < w.heap.size
  bx : w.heap[v]? = some (.cells #[.slice A s.M.W.length a, .slice B s.M.G.length b, .bool s.M.bad, .slice C s.C.length c, .slice L s.L.length d] 28 (0, 0))
  rW : Row w A s.M.W
  rG : Row w B s.M.G
  rC : RowC w C s.C
  rL : RowE w L s.L
theorem SV.step {w w' : World} {v : Nat} {s : Sy} {A B C L : Option Addr} {a b c d : Nat} (h : SV w v s A B C L a b c d) (hb : Below w.heap.size w w') : SV w' v s A B C L a b c d :=
  ⟨Nat.lt_of_lt_of_le h.lt hb.size, (hb.block v h.lt).trans h.bx, h.rW.step hb, h.rG.step hb, h.rC.step hb, h.rL.step hb⟩
theorem SV.mk' {w : World} {s : Sy} {A B C L : Option Addr} (a b c d : Nat) (rW : Row w A s.M.W) (rG : Row w B s.M.G) (rC : RowC w C s.C) (rL : RowE w L s.L) :
    SV (w.alloc (.cells #[.slice A s.M.W.length a, .slice B s.M.G.length b, .bool s.M.bad, .slice C s.C.length c, .slice L s.L.length d] 28)) w.heap.size s A B C L a b c d :=
  ⟨by simp, heap_alloc_new _ _, rW.step (boxed _ _), rG.step (boxed _ _), rC.step (boxed _ _), rL.step (boxed _ _)⟩
/-- Few enough for every contract. -/
def SyFew (s : Sy) : Prop := s.M.W.length ≤ 1000000 ∧ s.M.G.length ≤ 1000000 ∧ s.C.length ≤ 1000000 ∧ s.L.length ≤ 999999 ∧ ∀ x ∈ s.C, x.ret.length ≤ 1000000 ∧ x.F.length ≤ 1000000 ∧ ∀ f ∈ x.F, f.S.length ≤ 1000000

def ex0 : Sy := syNew 2 3
def exX1 : Co := coCall coZero ⟨3, 0, [7, 0, 0, 0, 0, 0, 0, 0], []⟩
def ex1 : Sy := syWith ex0 1 exX1
def exX2 : Co := coSet exX1 0 ⟨4, 0, [0, 0, 0, 0, 0, 0, 0, 0], []⟩
def ex2 : Sy := syWith ex1 1 exX2
def exX3 : Co := coBack exX1 0 8 3
def ex3 : Sy := syWith ex1 1 exX3
def ex4 : Sy := syLog ex0 ⟨0, 1, 2, 3, 4⟩

theorem ex0_few : SyFew ex0 := by unfold SyFew; decide +kernel
theorem ex1_few : SyFew ex1 := by unfold SyFew; decide +kernel
theorem ex2_few : SyFew ex2 := by unfold SyFew; decide +kernel
theorem ex3_few : SyFew ex3 := by unfold SyFew; decide +kernel
theorem ex3_right : syRight ex3 = true := by decide +kernel
theorem ex03_same : sySame ex0 ex3 = false := by decide +kernel

set_option maxRecDepth 100000 in
set_option maxHeartbeats 8000000 in
theorem shown3_any (w0 : World) : Calls Try.prog 15 #[] w0 fun e w' => e = .returned (.bool true) ∧ Below w0.heap.size w0 w' := by
  obtain ⟨s0, hs0⟩ : ∃ s, s = ex0 := ⟨_, rfl⟩
  obtain ⟨s1, hs1⟩ : ∃ s, s = ex1 := ⟨_, rfl⟩
  obtain ⟨s2, hs2⟩ : ∃ s, s = ex2 := ⟨_, rfl⟩
  obtain ⟨s3, hs3⟩ : ∃ s, s = ex3 := ⟨_, rfl⟩
  obtain ⟨s4, hs4⟩ : ∃ s, s = ex4 := ⟨_, rfl⟩
  have Fs0 := hid (show SyFew s0 by rw [hs0]; exact ex0_few)
  have Fs1 := hid (show SyFew s1 by rw [hs1]; exact ex1_few)
  have Fs2 := hid (show SyFew s2 by rw [hs2]; exact ex2_few)
  have Fs3 := hid (show SyFew s3 by rw [hs3]; exact ex3_few)
  have N0 : ∀ w, Calls Try.prog 17 #[.int .i64 2, .int .i64 3] w (RetSys2 w s0 (.int .i64 0)) := fun w => by rw [hs0]; exact snew_yes 2 3 w (by omega) (by omega) (by omega) (by omega)
  have K1 : ∀ (A B C L : Option Addr) (a b c d : Nat) (w : World) (rW : Row w A s0.M.W) (rG : Row w B s0.M.G) (rC : RowC w C s0.C) (rL : RowE w L s0.L) (A9 : Option Addr) (c9 : Nat), Row w A9 [7] → Calls Try.prog 27 #[.agg #[.slice A s0.M.W.length a, .slice B s0.M.G.length b, .bool s0.M.bad, .slice C s0.C.length c, .slice L s0.L.length d], .int .i64 1, .int .i64 3, .slice A9 1 c9] w (RetSys w s1) := fun A B C L a b c d w rW rG rC rL A9 c9 hU => by
    rw [hs1]
    have h := call_yes A B C L a b c d s0 1 coZero 3 [7] A9 c9 (by rw [hs0]; rfl) (by decide) (by decide) 7 0 0 0 0 0 0 0 rfl w hU rW rG rC rL (Fs0.out).1 (Fs0.out).2.1 (Fs0.out).2.2.1 (by have := (Fs0.out).2.2.2.1; omega) (Fs0.out).2.2.2.2
    rw [show ex1 = syWith s0 1 (coCall coZero ⟨3, 0, [7, 0, 0, 0, 0, 0, 0, 0], []⟩) by rw [hs0]; rfl]
    exact h
  have T1 : ∀ (A B C L : Option Addr) (a b c d : Nat) (w : World) (rW : Row w A s1.M.W) (rG : Row w B s1.M.G) (rC : RowC w C s1.C) (rL : RowE w L s1.L), Calls Try.prog 23 #[.agg #[.slice A s1.M.W.length a, .slice B s1.M.G.length b, .bool s1.M.bad, .slice C s1.C.length c, .slice L s1.L.length d], .int .i64 1] w fun e w' => ∃ A' c', e = .returned (.tuple #[.agg #[.int .i64 3, .int .i64 0, .int .i64 7, .int .i64 0, .int .i64 0, .int .i64 0, .int .i64 0, .int .i64 0, .int .i64 0, .int .i64 0, .slice A' 0 c'], .bool true]) ∧ Row w' A' [] ∧ Below w.heap.size w w' := fun A B C L a b c d w rW rG rC rL =>
    top_yes A B C L a b c d s1 1 0 exX1 3 0 7 0 0 0 0 0 0 0 [] w rC (Fs1.out).2.2.1 (by rw [hs1]; rfl) rfl (by omega) (by decide) rfl
  have S1 : ∀ (A B C L : Option Addr) (a b c d : Nat) (w : World) (rW : Row w A s1.M.W) (rG : Row w B s1.M.G) (rC : RowC w C s1.C) (rL : RowE w L s1.L), Calls Try.prog 28 #[.agg #[.slice A s1.M.W.length a, .slice B s1.M.G.length b, .bool s1.M.bad, .slice C s1.C.length c, .slice L s1.L.length d], .int .i64 1, .agg #[.int .i64 4, .int .i64 0, .int .i64 0, .int .i64 0, .int .i64 0, .int .i64 0, .int .i64 0, .int .i64 0, .int .i64 0, .int .i64 0, .slice none 0 0]] w (RetSys w s2) := fun A B C L a b c d w rW rG rC rL => by
    rw [hs2]
    have h := set_yes A B C L a b c d s1 1 0 exX1 none 0 4 0 0 0 0 0 0 0 0 0 [] (by rw [hs1]; rfl) rfl (by decide) w (Row.nil _ _) rW rG rC rL (Fs1.out).1 (Fs1.out).2.1 (Fs1.out).2.2.1 (by have := (Fs1.out).2.2.2.1; omega) (Fs1.out).2.2.2.2
    rw [show ex2 = syWith s1 1 (coSet exX1 0 ⟨4, 0, [0, 0, 0, 0, 0, 0, 0, 0], []⟩) by rw [hs1]; rfl]
    exact h
  have T2 : ∀ (A B C L : Option Addr) (a b c d : Nat) (w : World) (rW : Row w A s2.M.W) (rG : Row w B s2.M.G) (rC : RowC w C s2.C) (rL : RowE w L s2.L), Calls Try.prog 23 #[.agg #[.slice A s2.M.W.length a, .slice B s2.M.G.length b, .bool s2.M.bad, .slice C s2.C.length c, .slice L s2.L.length d], .int .i64 1] w fun e w' => ∃ A' c', e = .returned (.tuple #[.agg #[.int .i64 4, .int .i64 0, .int .i64 0, .int .i64 0, .int .i64 0, .int .i64 0, .int .i64 0, .int .i64 0, .int .i64 0, .int .i64 0, .slice A' 0 c'], .bool true]) ∧ Row w' A' [] ∧ Below w.heap.size w w' := fun A B C L a b c d w rW rG rC rL =>
    top_yes A B C L a b c d s2 1 0 exX2 4 0 0 0 0 0 0 0 0 0 [] w rC (Fs2.out).2.2.1 (by rw [hs2]; rfl) rfl (by omega) (by decide) rfl
  have B1 : ∀ (A B C L : Option Addr) (a b c d : Nat) (w : World) (rW : Row w A s1.M.W) (rG : Row w B s1.M.G) (rC : RowC w C s1.C) (rL : RowE w L s1.L), Calls Try.prog 29 #[.agg #[.slice A s1.M.W.length a, .slice B s1.M.G.length b, .bool s1.M.bad, .slice C s1.C.length c, .slice L s1.L.length d], .int .i64 1, .int .i64 8, .int .i64 3] w (RetSys w s3) := fun A B C L a b c d w rW rG rC rL => by
    rw [hs3]
    have h := back_yes A B C L a b c d s1 1 0 exX1 8 3 (by rw [hs1]; rfl) rfl w rW rG rC rL (Fs1.out).1 (Fs1.out).2.1 (Fs1.out).2.2.1 (by have := (Fs1.out).2.2.2.1; omega) (Fs1.out).2.2.2.2
    rw [show ex3 = syWith s1 1 (coBack exX1 0 8 3) by rw [hs1]; rfl]
    exact h
  have T3 : ∀ (A B C L : Option Addr) (a b c d : Nat) (w : World) (rW : Row w A s3.M.W) (rG : Row w B s3.M.G) (rC : RowC w C s3.C) (rL : RowE w L s3.L), Calls Try.prog 23 #[.agg #[.slice A s3.M.W.length a, .slice B s3.M.G.length b, .bool s3.M.bad, .slice C s3.C.length c, .slice L s3.L.length d], .int .i64 1] w fun e w' => e = .returned (.tuple #[.agg #[.int .i64 0, .int .i64 0, .int .i64 0, .int .i64 0, .int .i64 0, .int .i64 0, .int .i64 0, .int .i64 0, .int .i64 0, .int .i64 0, .slice none 0 0], .bool false]) ∧ Below w.heap.size w w' := fun A B C L a b c d w rW rG rC rL =>
    top_none A B C L a b c d s3 1 exX3 w rC (Fs3.out).2.2.1 (by rw [hs3]; rfl) rfl
  have G1 : ∀ (A B C L : Option Addr) (a b c d : Nat) (w : World) (rW : Row w A s0.M.W) (rG : Row w B s0.M.G) (rC : RowC w C s0.C) (rL : RowE w L s0.L), Calls Try.prog 30 #[.agg #[.slice A s0.M.W.length a, .slice B s0.M.G.length b, .bool s0.M.bad, .slice C s0.C.length c, .slice L s0.L.length d], .int .i64 0, .int .i64 1, .int .i64 2, .int .i64 3, .int .i64 4] w (RetSys w s4) := fun A B C L a b c d w rW rG rC rL => by
    rw [hs4]
    have h := log_at A B C L a b c d s0 0 1 2 3 4 (by rw [hs0]; decide) (Fs0.out).2.2.2.1 w rW rG rC rL (Fs0.out).1 (Fs0.out).2.1 (Fs0.out).2.2.1 (by have := (Fs0.out).2.2.2.1; omega) (Fs0.out).2.2.2.2
    rw [show ex4 = syLog s0 ⟨0, 1, 2, 3, 4⟩ by rw [hs0]; rfl]
    exact h
  have R3 : syRight s3 = true := by rw [hs3]; exact ex3_right
  have M3 : sySame s0 s3 = false := by rw [hs0, hs3]; exact ex03_same
  have HL3 := hid (show s3.C.length = 2 by rw [hs3]; rfl)
  have HL4 := hid (show s4.L.length = 1 by rw [hs4]; rfl)
  have E3 := hid (show s3.C[1]? = some exX3 by rw [hs3]; rfl)
  have E4 := hid (show s4.L[0]? = some ⟨0, 1, 2, 3, 4⟩ by rw [hs4]; rfl)
  have HN0 := hid N0
  have HK1 := hid K1
  have HT1 := hid T1
  have HS1 := hid S1
  have HT2 := hid T2
  have HB1 := hid B1
  have HT3 := hid T3
  have HG1 := hid G1
  have HR3 := hid R3
  have HM3 := hid M3
  clear N0 K1 T1 S1 T2 B1 T3 G1 R3 M3 hs0 hs1 hs2 hs3 hs4
  have hb : Below w0.heap.size w0 w0 := Below.refl _ _
  go_enter Try.func15, Try.ntmps15
  go_wp2_with fail
  refine (HN0.out w0).mono ?_
  rintro e w1 ⟨A0, B0, C0, L0, a0, b0, c0, d0, rfl, rW, rG, rC, rL, hk⟩
  have hmv : Below w0.heap.size w0 w1 := hk
  replace hb := bstep hb hmv
  clear hmv
  clear hk
  go_upto_region 2 with (fail)
  have V0 := SV.mk' a0 b0 c0 d0 rW rG rC rL
  have hmv : Below w1.heap.size w1 (w1.alloc (.cells #[.slice A0 s0.M.W.length a0, .slice B0 s0.M.G.length b0, .bool s0.M.bad, .slice C0 s0.C.length c0, .slice L0 s0.L.length d0] 28)) := boxed _ _
  replace hb := bstep hb hmv
  clear hmv
  clear rW rG rC rL
  obtain ⟨v0, hv⟩ : ∃ v, w1.heap.size = v := ⟨_, rfl⟩
  rw [hv] at V0 ⊢
  clear hv
  generalize (w1.alloc (.cells #[.slice A0 s0.M.W.length a0, .slice B0 s0.M.G.length b0, .bool s0.M.bad, .slice C0 s0.C.length c0, .slice L0 s0.L.length d0] 28)) = w2 at *
  have m0_0 : w2.cell? ⟨v0, 0, none⟩ = some (.slice A0 s0.M.W.length a0) := cell_of_row w2 _ 0 _ _ _ V0.bx
  have m0_1 : w2.cell? ⟨v0, 1, none⟩ = some (.slice B0 s0.M.G.length b0) := cell_of_row w2 _ 1 _ _ _ V0.bx
  have m0_2 : w2.cell? ⟨v0, 2, none⟩ = some (.bool s0.M.bad) := cell_of_row w2 _ 2 _ _ _ V0.bx
  have m0_3 : w2.cell? ⟨v0, 3, none⟩ = some (.slice C0 s0.C.length c0) := cell_of_row w2 _ 3 _ _ _ V0.bx
  have m0_4 : w2.cell? ⟨v0, 4, none⟩ = some (.slice L0 s0.L.length d0) := cell_of_row w2 _ 4 _ _ _ V0.bx
  go_wp2_with fail
  clear m0_0 m0_1 m0_2 m0_3 m0_4
  have r7 : Row (w2.alloc (.cells #[.int .i64 7] 3)) (some ⟨w2.heap.size, 0, none⟩) [7] := fun _ => ⟨_, _, rfl, by simp, fun j x hx => by rw [cell_of_row _ _ _ _ _ _ (heap_alloc_new w2 _)]; match j, hx with | 0, hx => simp at hx; subst hx; rfl⟩
  have hmv : Below w2.heap.size w2 (w2.alloc (.cells #[.int .i64 7] 3)) := boxed _ _
  replace V0 := V0.step hmv
  replace hb := bstep hb hmv
  clear hmv
  obtain ⟨y7, hv⟩ : ∃ v, w2.heap.size = v := ⟨_, rfl⟩
  rw [hv] at r7 ⊢
  clear hv
  generalize (w2.alloc (.cells #[.int .i64 7] 3)) = w3 at *
  refine (HK1.out A0 B0 C0 L0 a0 b0 c0 d0 w3 V0.rW V0.rG V0.rC V0.rL (some ⟨y7, 0, none⟩) 1 r7).mono ?_
  rintro e w4 ⟨A1, B1, C1, L1, a1, b1, c1, d1, rfl, rW, rG, rC, rL, hk⟩
  have hmv : Below w3.heap.size w3 w4 := hk
  replace V0 := V0.step hmv
  replace hb := bstep hb hmv
  clear hmv
  clear hk r7
  go_upto_region 3 with (fail)
  have V1 := SV.mk' a1 b1 c1 d1 rW rG rC rL
  have hmv : Below w4.heap.size w4 (w4.alloc (.cells #[.slice A1 s1.M.W.length a1, .slice B1 s1.M.G.length b1, .bool s1.M.bad, .slice C1 s1.C.length c1, .slice L1 s1.L.length d1] 28)) := boxed _ _
  replace V0 := V0.step hmv
  replace hb := bstep hb hmv
  clear hmv
  clear rW rG rC rL
  obtain ⟨v1, hv⟩ : ∃ v, w4.heap.size = v := ⟨_, rfl⟩
  rw [hv] at V1 ⊢
  clear hv
  generalize (w4.alloc (.cells #[.slice A1 s1.M.W.length a1, .slice B1 s1.M.G.length b1, .bool s1.M.bad, .slice C1 s1.C.length c1, .slice L1 s1.L.length d1] 28)) = w5 at *
  have m0_0 : w5.cell? ⟨v0, 0, none⟩ = some (.slice A0 s0.M.W.length a0) := cell_of_row w5 _ 0 _ _ _ V0.bx
  have m0_1 : w5.cell? ⟨v0, 1, none⟩ = some (.slice B0 s0.M.G.length b0) := cell_of_row w5 _ 1 _ _ _ V0.bx
  have m0_2 : w5.cell? ⟨v0, 2, none⟩ = some (.bool s0.M.bad) := cell_of_row w5 _ 2 _ _ _ V0.bx
  have m0_3 : w5.cell? ⟨v0, 3, none⟩ = some (.slice C0 s0.C.length c0) := cell_of_row w5 _ 3 _ _ _ V0.bx
  have m0_4 : w5.cell? ⟨v0, 4, none⟩ = some (.slice L0 s0.L.length d0) := cell_of_row w5 _ 4 _ _ _ V0.bx
  have m1_0 : w5.cell? ⟨v1, 0, none⟩ = some (.slice A1 s1.M.W.length a1) := cell_of_row w5 _ 0 _ _ _ V1.bx
  have m1_1 : w5.cell? ⟨v1, 1, none⟩ = some (.slice B1 s1.M.G.length b1) := cell_of_row w5 _ 1 _ _ _ V1.bx
  have m1_2 : w5.cell? ⟨v1, 2, none⟩ = some (.bool s1.M.bad) := cell_of_row w5 _ 2 _ _ _ V1.bx
  have m1_3 : w5.cell? ⟨v1, 3, none⟩ = some (.slice C1 s1.C.length c1) := cell_of_row w5 _ 3 _ _ _ V1.bx
  have m1_4 : w5.cell? ⟨v1, 4, none⟩ = some (.slice L1 s1.L.length d1) := cell_of_row w5 _ 4 _ _ _ V1.bx
  go_wp2_with fail
  clear m0_0 m0_1 m0_2 m0_3 m0_4 m1_0 m1_1 m1_2 m1_3 m1_4
  refine (HT1.out A1 B1 C1 L1 a1 b1 c1 d1 _ V1.rW V1.rG V1.rC V1.rL).mono ?_
  rintro e w6 ⟨Af, cf, rfl, _, hk⟩
  have hmv : Below w5.heap.size w5 w6 := hk
  replace V0 := V0.step hmv
  replace V1 := V1.step hmv
  replace hb := bstep hb hmv
  clear hmv
  clear hk
  go_upto_region 4 with (fail)
  have Hvf := heap_alloc_new w6 (.cells #[.int .i64 3, .int .i64 0, .int .i64 7, .int .i64 0, .int .i64 0, .int .i64 0, .int .i64 0, .int .i64 0, .int .i64 0, .int .i64 0, .slice Af 0 cf] 42)
  have lvf : w6.heap.size < (w6.alloc (.cells #[.int .i64 3, .int .i64 0, .int .i64 7, .int .i64 0, .int .i64 0, .int .i64 0, .int .i64 0, .int .i64 0, .int .i64 0, .int .i64 0, .slice Af 0 cf] 42)).heap.size := by simp
  have hmv : Below w6.heap.size w6 (w6.alloc (.cells #[.int .i64 3, .int .i64 0, .int .i64 7, .int .i64 0, .int .i64 0, .int .i64 0, .int .i64 0, .int .i64 0, .int .i64 0, .int .i64 0, .slice Af 0 cf] 42)) := boxed _ _
  replace V0 := V0.step hmv
  replace V1 := V1.step hmv
  replace hb := bstep hb hmv
  clear hmv
  obtain ⟨vf, hv⟩ : ∃ v, w6.heap.size = v := ⟨_, rfl⟩
  rw [hv] at Hvf lvf ⊢
  clear hv
  generalize (w6.alloc (.cells #[.int .i64 3, .int .i64 0, .int .i64 7, .int .i64 0, .int .i64 0, .int .i64 0, .int .i64 0, .int .i64 0, .int .i64 0, .int .i64 0, .slice Af 0 cf] 42)) = w7 at *
  have m0_0 : w7.cell? ⟨v0, 0, none⟩ = some (.slice A0 s0.M.W.length a0) := cell_of_row w7 _ 0 _ _ _ V0.bx
  have m0_1 : w7.cell? ⟨v0, 1, none⟩ = some (.slice B0 s0.M.G.length b0) := cell_of_row w7 _ 1 _ _ _ V0.bx
  have m0_2 : w7.cell? ⟨v0, 2, none⟩ = some (.bool s0.M.bad) := cell_of_row w7 _ 2 _ _ _ V0.bx
  have m0_3 : w7.cell? ⟨v0, 3, none⟩ = some (.slice C0 s0.C.length c0) := cell_of_row w7 _ 3 _ _ _ V0.bx
  have m0_4 : w7.cell? ⟨v0, 4, none⟩ = some (.slice L0 s0.L.length d0) := cell_of_row w7 _ 4 _ _ _ V0.bx
  have m1_0 : w7.cell? ⟨v1, 0, none⟩ = some (.slice A1 s1.M.W.length a1) := cell_of_row w7 _ 0 _ _ _ V1.bx
  have m1_1 : w7.cell? ⟨v1, 1, none⟩ = some (.slice B1 s1.M.G.length b1) := cell_of_row w7 _ 1 _ _ _ V1.bx
  have m1_2 : w7.cell? ⟨v1, 2, none⟩ = some (.bool s1.M.bad) := cell_of_row w7 _ 2 _ _ _ V1.bx
  have m1_3 : w7.cell? ⟨v1, 3, none⟩ = some (.slice C1 s1.C.length c1) := cell_of_row w7 _ 3 _ _ _ V1.bx
  have m1_4 : w7.cell? ⟨v1, 4, none⟩ = some (.slice L1 s1.L.length d1) := cell_of_row w7 _ 4 _ _ _ V1.bx
  go_wp2_with fail
  clear m0_0 m0_1 m0_2 m0_3 m0_4 m1_0 m1_1 m1_2 m1_3 m1_4
  refine (HS1.out A1 B1 C1 L1 a1 b1 c1 d1 _ V1.rW V1.rG V1.rC V1.rL).mono ?_
  rintro e w8 ⟨A2, B2, C2, L2, a2, b2, c2, d2, rfl, rW, rG, rC, rL, hk⟩
  have hmv : Below w7.heap.size w7 w8 := hk
  replace V0 := V0.step hmv
  replace V1 := V1.step hmv
  replace Hvf := (hmv.block vf lvf).trans Hvf
  replace lvf := Nat.lt_of_lt_of_le lvf hmv.size
  replace hb := bstep hb hmv
  clear hmv
  clear hk
  go_upto_region 5 with (fail)
  have V2 := SV.mk' a2 b2 c2 d2 rW rG rC rL
  have hmv : Below w8.heap.size w8 (w8.alloc (.cells #[.slice A2 s2.M.W.length a2, .slice B2 s2.M.G.length b2, .bool s2.M.bad, .slice C2 s2.C.length c2, .slice L2 s2.L.length d2] 28)) := boxed _ _
  replace V0 := V0.step hmv
  replace V1 := V1.step hmv
  replace Hvf := (hmv.block vf lvf).trans Hvf
  replace lvf := Nat.lt_of_lt_of_le lvf hmv.size
  replace hb := bstep hb hmv
  clear hmv
  clear rW rG rC rL
  obtain ⟨v2, hv⟩ : ∃ v, w8.heap.size = v := ⟨_, rfl⟩
  rw [hv] at V2 ⊢
  clear hv
  generalize (w8.alloc (.cells #[.slice A2 s2.M.W.length a2, .slice B2 s2.M.G.length b2, .bool s2.M.bad, .slice C2 s2.C.length c2, .slice L2 s2.L.length d2] 28)) = w9 at *
  have m0_0 : w9.cell? ⟨v0, 0, none⟩ = some (.slice A0 s0.M.W.length a0) := cell_of_row w9 _ 0 _ _ _ V0.bx
  have m0_1 : w9.cell? ⟨v0, 1, none⟩ = some (.slice B0 s0.M.G.length b0) := cell_of_row w9 _ 1 _ _ _ V0.bx
  have m0_2 : w9.cell? ⟨v0, 2, none⟩ = some (.bool s0.M.bad) := cell_of_row w9 _ 2 _ _ _ V0.bx
  have m0_3 : w9.cell? ⟨v0, 3, none⟩ = some (.slice C0 s0.C.length c0) := cell_of_row w9 _ 3 _ _ _ V0.bx
  have m0_4 : w9.cell? ⟨v0, 4, none⟩ = some (.slice L0 s0.L.length d0) := cell_of_row w9 _ 4 _ _ _ V0.bx
  have m1_0 : w9.cell? ⟨v1, 0, none⟩ = some (.slice A1 s1.M.W.length a1) := cell_of_row w9 _ 0 _ _ _ V1.bx
  have m1_1 : w9.cell? ⟨v1, 1, none⟩ = some (.slice B1 s1.M.G.length b1) := cell_of_row w9 _ 1 _ _ _ V1.bx
  have m1_2 : w9.cell? ⟨v1, 2, none⟩ = some (.bool s1.M.bad) := cell_of_row w9 _ 2 _ _ _ V1.bx
  have m1_3 : w9.cell? ⟨v1, 3, none⟩ = some (.slice C1 s1.C.length c1) := cell_of_row w9 _ 3 _ _ _ V1.bx
  have m1_4 : w9.cell? ⟨v1, 4, none⟩ = some (.slice L1 s1.L.length d1) := cell_of_row w9 _ 4 _ _ _ V1.bx
  have m2_0 : w9.cell? ⟨v2, 0, none⟩ = some (.slice A2 s2.M.W.length a2) := cell_of_row w9 _ 0 _ _ _ V2.bx
  have m2_1 : w9.cell? ⟨v2, 1, none⟩ = some (.slice B2 s2.M.G.length b2) := cell_of_row w9 _ 1 _ _ _ V2.bx
  have m2_2 : w9.cell? ⟨v2, 2, none⟩ = some (.bool s2.M.bad) := cell_of_row w9 _ 2 _ _ _ V2.bx
  have m2_3 : w9.cell? ⟨v2, 3, none⟩ = some (.slice C2 s2.C.length c2) := cell_of_row w9 _ 3 _ _ _ V2.bx
  have m2_4 : w9.cell? ⟨v2, 4, none⟩ = some (.slice L2 s2.L.length d2) := cell_of_row w9 _ 4 _ _ _ V2.bx
  go_wp2_with fail
  clear m0_0 m0_1 m0_2 m0_3 m0_4 m1_0 m1_1 m1_2 m1_3 m1_4 m2_0 m2_1 m2_2 m2_3 m2_4
  refine (HT2.out A2 B2 C2 L2 a2 b2 c2 d2 _ V2.rW V2.rG V2.rC V2.rL).mono ?_
  rintro e w10 ⟨Ah, ch, rfl, _, hk⟩
  have hmv : Below w9.heap.size w9 w10 := hk
  replace V0 := V0.step hmv
  replace V1 := V1.step hmv
  replace V2 := V2.step hmv
  replace Hvf := (hmv.block vf lvf).trans Hvf
  replace lvf := Nat.lt_of_lt_of_le lvf hmv.size
  replace hb := bstep hb hmv
  clear hmv
  clear hk
  go_upto_region 6 with (fail)
  have Hvh := heap_alloc_new w10 (.cells #[.int .i64 4, .int .i64 0, .int .i64 0, .int .i64 0, .int .i64 0, .int .i64 0, .int .i64 0, .int .i64 0, .int .i64 0, .int .i64 0, .slice Ah 0 ch] 42)
  have lvh : w10.heap.size < (w10.alloc (.cells #[.int .i64 4, .int .i64 0, .int .i64 0, .int .i64 0, .int .i64 0, .int .i64 0, .int .i64 0, .int .i64 0, .int .i64 0, .int .i64 0, .slice Ah 0 ch] 42)).heap.size := by simp
  have hmv : Below w10.heap.size w10 (w10.alloc (.cells #[.int .i64 4, .int .i64 0, .int .i64 0, .int .i64 0, .int .i64 0, .int .i64 0, .int .i64 0, .int .i64 0, .int .i64 0, .int .i64 0, .slice Ah 0 ch] 42)) := boxed _ _
  replace V0 := V0.step hmv
  replace V1 := V1.step hmv
  replace V2 := V2.step hmv
  replace Hvf := (hmv.block vf lvf).trans Hvf
  replace lvf := Nat.lt_of_lt_of_le lvf hmv.size
  replace hb := bstep hb hmv
  clear hmv
  obtain ⟨vh, hv⟩ : ∃ v, w10.heap.size = v := ⟨_, rfl⟩
  rw [hv] at Hvh lvh ⊢
  clear hv
  generalize (w10.alloc (.cells #[.int .i64 4, .int .i64 0, .int .i64 0, .int .i64 0, .int .i64 0, .int .i64 0, .int .i64 0, .int .i64 0, .int .i64 0, .int .i64 0, .slice Ah 0 ch] 42)) = w11 at *
  have m0_0 : w11.cell? ⟨v0, 0, none⟩ = some (.slice A0 s0.M.W.length a0) := cell_of_row w11 _ 0 _ _ _ V0.bx
  have m0_1 : w11.cell? ⟨v0, 1, none⟩ = some (.slice B0 s0.M.G.length b0) := cell_of_row w11 _ 1 _ _ _ V0.bx
  have m0_2 : w11.cell? ⟨v0, 2, none⟩ = some (.bool s0.M.bad) := cell_of_row w11 _ 2 _ _ _ V0.bx
  have m0_3 : w11.cell? ⟨v0, 3, none⟩ = some (.slice C0 s0.C.length c0) := cell_of_row w11 _ 3 _ _ _ V0.bx
  have m0_4 : w11.cell? ⟨v0, 4, none⟩ = some (.slice L0 s0.L.length d0) := cell_of_row w11 _ 4 _ _ _ V0.bx
  have m1_0 : w11.cell? ⟨v1, 0, none⟩ = some (.slice A1 s1.M.W.length a1) := cell_of_row w11 _ 0 _ _ _ V1.bx
  have m1_1 : w11.cell? ⟨v1, 1, none⟩ = some (.slice B1 s1.M.G.length b1) := cell_of_row w11 _ 1 _ _ _ V1.bx
  have m1_2 : w11.cell? ⟨v1, 2, none⟩ = some (.bool s1.M.bad) := cell_of_row w11 _ 2 _ _ _ V1.bx
  have m1_3 : w11.cell? ⟨v1, 3, none⟩ = some (.slice C1 s1.C.length c1) := cell_of_row w11 _ 3 _ _ _ V1.bx
  have m1_4 : w11.cell? ⟨v1, 4, none⟩ = some (.slice L1 s1.L.length d1) := cell_of_row w11 _ 4 _ _ _ V1.bx
  have m2_0 : w11.cell? ⟨v2, 0, none⟩ = some (.slice A2 s2.M.W.length a2) := cell_of_row w11 _ 0 _ _ _ V2.bx
  have m2_1 : w11.cell? ⟨v2, 1, none⟩ = some (.slice B2 s2.M.G.length b2) := cell_of_row w11 _ 1 _ _ _ V2.bx
  have m2_2 : w11.cell? ⟨v2, 2, none⟩ = some (.bool s2.M.bad) := cell_of_row w11 _ 2 _ _ _ V2.bx
  have m2_3 : w11.cell? ⟨v2, 3, none⟩ = some (.slice C2 s2.C.length c2) := cell_of_row w11 _ 3 _ _ _ V2.bx
  have m2_4 : w11.cell? ⟨v2, 4, none⟩ = some (.slice L2 s2.L.length d2) := cell_of_row w11 _ 4 _ _ _ V2.bx
  go_wp2_with fail
  clear m0_0 m0_1 m0_2 m0_3 m0_4 m1_0 m1_1 m1_2 m1_3 m1_4 m2_0 m2_1 m2_2 m2_3 m2_4
  refine (HB1.out A1 B1 C1 L1 a1 b1 c1 d1 _ V1.rW V1.rG V1.rC V1.rL).mono ?_
  rintro e w12 ⟨A3, B3, C3, L3, a3, b3, c3, d3, rfl, rW, rG, rC, rL, hk⟩
  have hmv : Below w11.heap.size w11 w12 := hk
  replace V0 := V0.step hmv
  replace V1 := V1.step hmv
  replace V2 := V2.step hmv
  replace Hvf := (hmv.block vf lvf).trans Hvf
  replace lvf := Nat.lt_of_lt_of_le lvf hmv.size
  replace Hvh := (hmv.block vh lvh).trans Hvh
  replace lvh := Nat.lt_of_lt_of_le lvh hmv.size
  replace hb := bstep hb hmv
  clear hmv
  clear hk
  go_upto_region 7 with (fail)
  have V3 := SV.mk' a3 b3 c3 d3 rW rG rC rL
  have hmv : Below w12.heap.size w12 (w12.alloc (.cells #[.slice A3 s3.M.W.length a3, .slice B3 s3.M.G.length b3, .bool s3.M.bad, .slice C3 s3.C.length c3, .slice L3 s3.L.length d3] 28)) := boxed _ _
  replace V0 := V0.step hmv
  replace V1 := V1.step hmv
  replace V2 := V2.step hmv
  replace Hvf := (hmv.block vf lvf).trans Hvf
  replace lvf := Nat.lt_of_lt_of_le lvf hmv.size
  replace Hvh := (hmv.block vh lvh).trans Hvh
  replace lvh := Nat.lt_of_lt_of_le lvh hmv.size
  replace hb := bstep hb hmv
  clear hmv
  clear rW rG rC rL
  obtain ⟨v3, hv⟩ : ∃ v, w12.heap.size = v := ⟨_, rfl⟩
  rw [hv] at V3 ⊢
  clear hv
  generalize (w12.alloc (.cells #[.slice A3 s3.M.W.length a3, .slice B3 s3.M.G.length b3, .bool s3.M.bad, .slice C3 s3.C.length c3, .slice L3 s3.L.length d3] 28)) = w13 at *
  have m0_0 : w13.cell? ⟨v0, 0, none⟩ = some (.slice A0 s0.M.W.length a0) := cell_of_row w13 _ 0 _ _ _ V0.bx
  have m0_1 : w13.cell? ⟨v0, 1, none⟩ = some (.slice B0 s0.M.G.length b0) := cell_of_row w13 _ 1 _ _ _ V0.bx
  have m0_2 : w13.cell? ⟨v0, 2, none⟩ = some (.bool s0.M.bad) := cell_of_row w13 _ 2 _ _ _ V0.bx
  have m0_3 : w13.cell? ⟨v0, 3, none⟩ = some (.slice C0 s0.C.length c0) := cell_of_row w13 _ 3 _ _ _ V0.bx
  have m0_4 : w13.cell? ⟨v0, 4, none⟩ = some (.slice L0 s0.L.length d0) := cell_of_row w13 _ 4 _ _ _ V0.bx
  have m1_0 : w13.cell? ⟨v1, 0, none⟩ = some (.slice A1 s1.M.W.length a1) := cell_of_row w13 _ 0 _ _ _ V1.bx
  have m1_1 : w13.cell? ⟨v1, 1, none⟩ = some (.slice B1 s1.M.G.length b1) := cell_of_row w13 _ 1 _ _ _ V1.bx
  have m1_2 : w13.cell? ⟨v1, 2, none⟩ = some (.bool s1.M.bad) := cell_of_row w13 _ 2 _ _ _ V1.bx
  have m1_3 : w13.cell? ⟨v1, 3, none⟩ = some (.slice C1 s1.C.length c1) := cell_of_row w13 _ 3 _ _ _ V1.bx
  have m1_4 : w13.cell? ⟨v1, 4, none⟩ = some (.slice L1 s1.L.length d1) := cell_of_row w13 _ 4 _ _ _ V1.bx
  have m2_0 : w13.cell? ⟨v2, 0, none⟩ = some (.slice A2 s2.M.W.length a2) := cell_of_row w13 _ 0 _ _ _ V2.bx
  have m2_1 : w13.cell? ⟨v2, 1, none⟩ = some (.slice B2 s2.M.G.length b2) := cell_of_row w13 _ 1 _ _ _ V2.bx
  have m2_2 : w13.cell? ⟨v2, 2, none⟩ = some (.bool s2.M.bad) := cell_of_row w13 _ 2 _ _ _ V2.bx
  have m2_3 : w13.cell? ⟨v2, 3, none⟩ = some (.slice C2 s2.C.length c2) := cell_of_row w13 _ 3 _ _ _ V2.bx
  have m2_4 : w13.cell? ⟨v2, 4, none⟩ = some (.slice L2 s2.L.length d2) := cell_of_row w13 _ 4 _ _ _ V2.bx
  have m3_0 : w13.cell? ⟨v3, 0, none⟩ = some (.slice A3 s3.M.W.length a3) := cell_of_row w13 _ 0 _ _ _ V3.bx
  have m3_1 : w13.cell? ⟨v3, 1, none⟩ = some (.slice B3 s3.M.G.length b3) := cell_of_row w13 _ 1 _ _ _ V3.bx
  have m3_2 : w13.cell? ⟨v3, 2, none⟩ = some (.bool s3.M.bad) := cell_of_row w13 _ 2 _ _ _ V3.bx
  have m3_3 : w13.cell? ⟨v3, 3, none⟩ = some (.slice C3 s3.C.length c3) := cell_of_row w13 _ 3 _ _ _ V3.bx
  have m3_4 : w13.cell? ⟨v3, 4, none⟩ = some (.slice L3 s3.L.length d3) := cell_of_row w13 _ 4 _ _ _ V3.bx
  go_wp2_with fail
  clear m0_0 m0_1 m0_2 m0_3 m0_4 m1_0 m1_1 m1_2 m1_3 m1_4 m2_0 m2_1 m2_2 m2_3 m2_4 m3_0 m3_1 m3_2 m3_3 m3_4
  refine (HT3.out A3 B3 C3 L3 a3 b3 c3 d3 _ V3.rW V3.rG V3.rC V3.rL).mono ?_
  rintro e w14 ⟨rfl, hk⟩
  have hmv : Below w13.heap.size w13 w14 := hk
  replace V0 := V0.step hmv
  replace V1 := V1.step hmv
  replace V2 := V2.step hmv
  replace V3 := V3.step hmv
  replace Hvf := (hmv.block vf lvf).trans Hvf
  replace lvf := Nat.lt_of_lt_of_le lvf hmv.size
  replace Hvh := (hmv.block vh lvh).trans Hvh
  replace lvh := Nat.lt_of_lt_of_le lvh hmv.size
  replace hb := bstep hb hmv
  clear hmv
  clear hk
  go_upto_region 8 with (fail)
  have Hvn := heap_alloc_new w14 (.cells #[.int .i64 0, .int .i64 0, .int .i64 0, .int .i64 0, .int .i64 0, .int .i64 0, .int .i64 0, .int .i64 0, .int .i64 0, .int .i64 0, .slice none 0 0] 42)
  have lvn : w14.heap.size < (w14.alloc (.cells #[.int .i64 0, .int .i64 0, .int .i64 0, .int .i64 0, .int .i64 0, .int .i64 0, .int .i64 0, .int .i64 0, .int .i64 0, .int .i64 0, .slice none 0 0] 42)).heap.size := by simp
  have hmv : Below w14.heap.size w14 (w14.alloc (.cells #[.int .i64 0, .int .i64 0, .int .i64 0, .int .i64 0, .int .i64 0, .int .i64 0, .int .i64 0, .int .i64 0, .int .i64 0, .int .i64 0, .slice none 0 0] 42)) := boxed _ _
  replace V0 := V0.step hmv
  replace V1 := V1.step hmv
  replace V2 := V2.step hmv
  replace V3 := V3.step hmv
  replace Hvf := (hmv.block vf lvf).trans Hvf
  replace lvf := Nat.lt_of_lt_of_le lvf hmv.size
  replace Hvh := (hmv.block vh lvh).trans Hvh
  replace lvh := Nat.lt_of_lt_of_le lvh hmv.size
  replace hb := bstep hb hmv
  clear hmv
  obtain ⟨vn, hv⟩ : ∃ v, w14.heap.size = v := ⟨_, rfl⟩
  rw [hv] at Hvn lvn ⊢
  clear hv
  generalize (w14.alloc (.cells #[.int .i64 0, .int .i64 0, .int .i64 0, .int .i64 0, .int .i64 0, .int .i64 0, .int .i64 0, .int .i64 0, .int .i64 0, .int .i64 0, .slice none 0 0] 42)) = w15 at *
  have m0_0 : w15.cell? ⟨v0, 0, none⟩ = some (.slice A0 s0.M.W.length a0) := cell_of_row w15 _ 0 _ _ _ V0.bx
  have m0_1 : w15.cell? ⟨v0, 1, none⟩ = some (.slice B0 s0.M.G.length b0) := cell_of_row w15 _ 1 _ _ _ V0.bx
  have m0_2 : w15.cell? ⟨v0, 2, none⟩ = some (.bool s0.M.bad) := cell_of_row w15 _ 2 _ _ _ V0.bx
  have m0_3 : w15.cell? ⟨v0, 3, none⟩ = some (.slice C0 s0.C.length c0) := cell_of_row w15 _ 3 _ _ _ V0.bx
  have m0_4 : w15.cell? ⟨v0, 4, none⟩ = some (.slice L0 s0.L.length d0) := cell_of_row w15 _ 4 _ _ _ V0.bx
  have m1_0 : w15.cell? ⟨v1, 0, none⟩ = some (.slice A1 s1.M.W.length a1) := cell_of_row w15 _ 0 _ _ _ V1.bx
  have m1_1 : w15.cell? ⟨v1, 1, none⟩ = some (.slice B1 s1.M.G.length b1) := cell_of_row w15 _ 1 _ _ _ V1.bx
  have m1_2 : w15.cell? ⟨v1, 2, none⟩ = some (.bool s1.M.bad) := cell_of_row w15 _ 2 _ _ _ V1.bx
  have m1_3 : w15.cell? ⟨v1, 3, none⟩ = some (.slice C1 s1.C.length c1) := cell_of_row w15 _ 3 _ _ _ V1.bx
  have m1_4 : w15.cell? ⟨v1, 4, none⟩ = some (.slice L1 s1.L.length d1) := cell_of_row w15 _ 4 _ _ _ V1.bx
  have m2_0 : w15.cell? ⟨v2, 0, none⟩ = some (.slice A2 s2.M.W.length a2) := cell_of_row w15 _ 0 _ _ _ V2.bx
  have m2_1 : w15.cell? ⟨v2, 1, none⟩ = some (.slice B2 s2.M.G.length b2) := cell_of_row w15 _ 1 _ _ _ V2.bx
  have m2_2 : w15.cell? ⟨v2, 2, none⟩ = some (.bool s2.M.bad) := cell_of_row w15 _ 2 _ _ _ V2.bx
  have m2_3 : w15.cell? ⟨v2, 3, none⟩ = some (.slice C2 s2.C.length c2) := cell_of_row w15 _ 3 _ _ _ V2.bx
  have m2_4 : w15.cell? ⟨v2, 4, none⟩ = some (.slice L2 s2.L.length d2) := cell_of_row w15 _ 4 _ _ _ V2.bx
  have m3_0 : w15.cell? ⟨v3, 0, none⟩ = some (.slice A3 s3.M.W.length a3) := cell_of_row w15 _ 0 _ _ _ V3.bx
  have m3_1 : w15.cell? ⟨v3, 1, none⟩ = some (.slice B3 s3.M.G.length b3) := cell_of_row w15 _ 1 _ _ _ V3.bx
  have m3_2 : w15.cell? ⟨v3, 2, none⟩ = some (.bool s3.M.bad) := cell_of_row w15 _ 2 _ _ _ V3.bx
  have m3_3 : w15.cell? ⟨v3, 3, none⟩ = some (.slice C3 s3.C.length c3) := cell_of_row w15 _ 3 _ _ _ V3.bx
  have m3_4 : w15.cell? ⟨v3, 4, none⟩ = some (.slice L3 s3.L.length d3) := cell_of_row w15 _ 4 _ _ _ V3.bx
  go_wp2_with fail
  clear m0_0 m0_1 m0_2 m0_3 m0_4 m1_0 m1_1 m1_2 m1_3 m1_4 m2_0 m2_1 m2_2 m2_3 m2_4 m3_0 m3_1 m3_2 m3_3 m3_4
  refine (HG1.out A0 B0 C0 L0 a0 b0 c0 d0 _ V0.rW V0.rG V0.rC V0.rL).mono ?_
  rintro e w16 ⟨A4, B4, C4, L4, a4, b4, c4, d4, rfl, rW, rG, rC, rL, hk⟩
  have hmv : Below w15.heap.size w15 w16 := hk
  replace V0 := V0.step hmv
  replace V1 := V1.step hmv
  replace V2 := V2.step hmv
  replace V3 := V3.step hmv
  replace Hvf := (hmv.block vf lvf).trans Hvf
  replace lvf := Nat.lt_of_lt_of_le lvf hmv.size
  replace Hvh := (hmv.block vh lvh).trans Hvh
  replace lvh := Nat.lt_of_lt_of_le lvh hmv.size
  replace Hvn := (hmv.block vn lvn).trans Hvn
  replace lvn := Nat.lt_of_lt_of_le lvn hmv.size
  replace hb := bstep hb hmv
  clear hmv
  clear hk
  go_upto_region 9 with (fail)
  have V4 := SV.mk' a4 b4 c4 d4 rW rG rC rL
  have hmv : Below w16.heap.size w16 (w16.alloc (.cells #[.slice A4 s4.M.W.length a4, .slice B4 s4.M.G.length b4, .bool s4.M.bad, .slice C4 s4.C.length c4, .slice L4 s4.L.length d4] 28)) := boxed _ _
  replace V0 := V0.step hmv
  replace V1 := V1.step hmv
  replace V2 := V2.step hmv
  replace V3 := V3.step hmv
  replace Hvf := (hmv.block vf lvf).trans Hvf
  replace lvf := Nat.lt_of_lt_of_le lvf hmv.size
  replace Hvh := (hmv.block vh lvh).trans Hvh
  replace lvh := Nat.lt_of_lt_of_le lvh hmv.size
  replace Hvn := (hmv.block vn lvn).trans Hvn
  replace lvn := Nat.lt_of_lt_of_le lvn hmv.size
  replace hb := bstep hb hmv
  clear hmv
  clear rW rG rC rL
  obtain ⟨v4, hv⟩ : ∃ v, w16.heap.size = v := ⟨_, rfl⟩
  rw [hv] at V4 ⊢
  clear hv
  generalize (w16.alloc (.cells #[.slice A4 s4.M.W.length a4, .slice B4 s4.M.G.length b4, .bool s4.M.bad, .slice C4 s4.C.length c4, .slice L4 s4.L.length d4] 28)) = w17 at *
  obtain ⟨bC, oC, eC, hbC, hatC⟩ := V3.rC (by rw [HL3.out]; omega)
  obtain ⟨AFx, ARx, cFx, cRx, hcx, _, _⟩ := (hatC 1 exX3 E3.out).cs
  obtain ⟨bL, oL, eL, hbL, hatL⟩ := V4.rL (by rw [HL4.out]; omega)
  have hcL := (hatL 0 _ E4.out).cs
  subst eC eL
  have x1 : w17.cell? ⟨bC, oC + 7 + 1, none⟩ = some (.int .i64 8) := by have h := hcx 1 _ rfl; rw [show oC + 1 * 7 + 1 = oC + 7 + 1 by omega] at h; exact h
  have y1 : w17.cell? ⟨bC, oC + 8, none⟩ = some (.int .i64 8) := by have h := x1; rw [show oC + 7 + 1 = oC + 8 by omega] at h; exact h
  have x2 : w17.cell? ⟨bC, oC + 7 + 2, none⟩ = some (.int .i64 3) := by have h := hcx 2 _ rfl; rw [show oC + 1 * 7 + 2 = oC + 7 + 2 by omega] at h; exact h
  have y2 : w17.cell? ⟨bC, oC + 9, none⟩ = some (.int .i64 3) := by have h := x2; rw [show oC + 7 + 2 = oC + 9 by omega] at h; exact h
  have z0 : w17.cell? ⟨bL, oL, none⟩ = some (.int .i64 0) := by have h := hcL 0 _ rfl; rw [show oL + 0 * 5 + 0 = oL by omega] at h; exact h
  have z1 : w17.cell? ⟨bL, oL + 1, none⟩ = some (.int .i64 1) := by have h := hcL 1 _ rfl; rw [show oL + 0 * 5 + 1 = oL + 1 by omega] at h; exact h
  have z2 : w17.cell? ⟨bL, oL + 2, none⟩ = some (.int .i64 2) := by have h := hcL 2 _ rfl; rw [show oL + 0 * 5 + 2 = oL + 2 by omega] at h; exact h
  have z3 : w17.cell? ⟨bL, oL + 3, none⟩ = some (.int .i64 3) := by have h := hcL 3 _ rfl; rw [show oL + 0 * 5 + 3 = oL + 3 by omega] at h; exact h
  have z4 : w17.cell? ⟨bL, oL + 4, none⟩ = some (.int .i64 4) := by have h := hcL 4 _ rfl; rw [show oL + 0 * 5 + 4 = oL + 4 by omega] at h; exact h
  have q3 : ((s3.C.length : Int) != 2) = false := by simp [HL3.out]
  have q4 : ((s4.L.length : Int) != 1) = false := by simp [HL4.out]
  have i3 : (1 : Int) < (s3.C.length : Int) := by rw [HL3.out]; decide
  have i4 : (0 : Int) < (s4.L.length : Int) := by rw [HL4.out]; decide
  have f0 : w17.cell? ⟨vf, 0, none⟩ = some (.int .i64 3) := cell_of_row _ _ 0 _ _ _ Hvf
  have f2 : w17.cell? ⟨vf, 2, none⟩ = some (.int .i64 7) := cell_of_row _ _ 2 _ _ _ Hvf
  have g0 : w17.cell? ⟨vh, 0, none⟩ = some (.int .i64 4) := cell_of_row _ _ 0 _ _ _ Hvh
  have hq := eqlEv ⟨0, 1, 2, 3, 4⟩ ⟨0, 1, 2, 3, 4⟩
  have hq2 : ∀ w, (binOp .eql 56 (.agg #[.int .i64 0, .int .i64 1, .int .i64 2, .int .i64 3, .int .i64 4]) (.agg #[.int .i64 0, .int .i64 1, .int .i64 2, .int .i64 3, .int .i64 4])).run Try.prog w = .ok (.bool true) w := fun w => by have h := hq w; simpa using h
  clear hq hcx hcL hatC hatL
  have m0_0 : w17.cell? ⟨v0, 0, none⟩ = some (.slice A0 s0.M.W.length a0) := cell_of_row w17 _ 0 _ _ _ V0.bx
  have m0_1 : w17.cell? ⟨v0, 1, none⟩ = some (.slice B0 s0.M.G.length b0) := cell_of_row w17 _ 1 _ _ _ V0.bx
  have m0_2 : w17.cell? ⟨v0, 2, none⟩ = some (.bool s0.M.bad) := cell_of_row w17 _ 2 _ _ _ V0.bx
  have m0_3 : w17.cell? ⟨v0, 3, none⟩ = some (.slice C0 s0.C.length c0) := cell_of_row w17 _ 3 _ _ _ V0.bx
  have m0_4 : w17.cell? ⟨v0, 4, none⟩ = some (.slice L0 s0.L.length d0) := cell_of_row w17 _ 4 _ _ _ V0.bx
  have m1_0 : w17.cell? ⟨v1, 0, none⟩ = some (.slice A1 s1.M.W.length a1) := cell_of_row w17 _ 0 _ _ _ V1.bx
  have m1_1 : w17.cell? ⟨v1, 1, none⟩ = some (.slice B1 s1.M.G.length b1) := cell_of_row w17 _ 1 _ _ _ V1.bx
  have m1_2 : w17.cell? ⟨v1, 2, none⟩ = some (.bool s1.M.bad) := cell_of_row w17 _ 2 _ _ _ V1.bx
  have m1_3 : w17.cell? ⟨v1, 3, none⟩ = some (.slice C1 s1.C.length c1) := cell_of_row w17 _ 3 _ _ _ V1.bx
  have m1_4 : w17.cell? ⟨v1, 4, none⟩ = some (.slice L1 s1.L.length d1) := cell_of_row w17 _ 4 _ _ _ V1.bx
  have m2_0 : w17.cell? ⟨v2, 0, none⟩ = some (.slice A2 s2.M.W.length a2) := cell_of_row w17 _ 0 _ _ _ V2.bx
  have m2_1 : w17.cell? ⟨v2, 1, none⟩ = some (.slice B2 s2.M.G.length b2) := cell_of_row w17 _ 1 _ _ _ V2.bx
  have m2_2 : w17.cell? ⟨v2, 2, none⟩ = some (.bool s2.M.bad) := cell_of_row w17 _ 2 _ _ _ V2.bx
  have m2_3 : w17.cell? ⟨v2, 3, none⟩ = some (.slice C2 s2.C.length c2) := cell_of_row w17 _ 3 _ _ _ V2.bx
  have m2_4 : w17.cell? ⟨v2, 4, none⟩ = some (.slice L2 s2.L.length d2) := cell_of_row w17 _ 4 _ _ _ V2.bx
  have m3_0 : w17.cell? ⟨v3, 0, none⟩ = some (.slice A3 s3.M.W.length a3) := cell_of_row w17 _ 0 _ _ _ V3.bx
  have m3_1 : w17.cell? ⟨v3, 1, none⟩ = some (.slice B3 s3.M.G.length b3) := cell_of_row w17 _ 1 _ _ _ V3.bx
  have m3_2 : w17.cell? ⟨v3, 2, none⟩ = some (.bool s3.M.bad) := cell_of_row w17 _ 2 _ _ _ V3.bx
  have m3_3 : w17.cell? ⟨v3, 3, none⟩ = some (.slice (some ⟨bC, oC, none⟩) s3.C.length c3) := cell_of_row w17 _ 3 _ _ _ V3.bx
  have m3_4 : w17.cell? ⟨v3, 4, none⟩ = some (.slice L3 s3.L.length d3) := cell_of_row w17 _ 4 _ _ _ V3.bx
  have m4_0 : w17.cell? ⟨v4, 0, none⟩ = some (.slice A4 s4.M.W.length a4) := cell_of_row w17 _ 0 _ _ _ V4.bx
  have m4_1 : w17.cell? ⟨v4, 1, none⟩ = some (.slice B4 s4.M.G.length b4) := cell_of_row w17 _ 1 _ _ _ V4.bx
  have m4_2 : w17.cell? ⟨v4, 2, none⟩ = some (.bool s4.M.bad) := cell_of_row w17 _ 2 _ _ _ V4.bx
  have m4_3 : w17.cell? ⟨v4, 3, none⟩ = some (.slice C4 s4.C.length c4) := cell_of_row w17 _ 3 _ _ _ V4.bx
  have m4_4 : w17.cell? ⟨v4, 4, none⟩ = some (.slice (some ⟨bL, oL, none⟩) s4.L.length d4) := cell_of_row w17 _ 4 _ _ _ V4.bx
  go_wp2_with (first
      | (go_at_call 21; refine (right3_any _ _ _ _ _ _ _ _ s3 _ V3.rG V3.rC (Fs3.out).2.1 (Fs3.out).1 (Fs3.out).2.2.1 (Fs3.out).2.2.2.2).mono ?_; rintro e wR ⟨rfl, hkR⟩; rw [HR3.out]; have VR0 := V0.step hkR; have VR3 := V3.step hkR; have r0_0 : wR.cell? ⟨v0, 0, none⟩ = some (.slice A0 s0.M.W.length a0) := cell_of_row wR _ 0 _ _ _ VR0.bx; have r0_1 : wR.cell? ⟨v0, 1, none⟩ = some (.slice B0 s0.M.G.length b0) := cell_of_row wR _ 1 _ _ _ VR0.bx; have r0_2 : wR.cell? ⟨v0, 2, none⟩ = some (.bool s0.M.bad) := cell_of_row wR _ 2 _ _ _ VR0.bx; have r0_3 : wR.cell? ⟨v0, 3, none⟩ = some (.slice C0 s0.C.length c0) := cell_of_row wR _ 3 _ _ _ VR0.bx; have r0_4 : wR.cell? ⟨v0, 4, none⟩ = some (.slice L0 s0.L.length d0) := cell_of_row wR _ 4 _ _ _ VR0.bx; have r3_0 : wR.cell? ⟨v3, 0, none⟩ = some (.slice A3 s3.M.W.length a3) := cell_of_row wR _ 0 _ _ _ VR3.bx; have r3_1 : wR.cell? ⟨v3, 1, none⟩ = some (.slice B3 s3.M.G.length b3) := cell_of_row wR _ 1 _ _ _ VR3.bx; have r3_2 : wR.cell? ⟨v3, 2, none⟩ = some (.bool s3.M.bad) := cell_of_row wR _ 2 _ _ _ VR3.bx; have r3_3 : wR.cell? ⟨v3, 3, none⟩ = some (.slice (some ⟨bC, oC, none⟩) s3.C.length c3) := cell_of_row wR _ 3 _ _ _ VR3.bx; have r3_4 : wR.cell? ⟨v3, 4, none⟩ = some (.slice L3 s3.L.length d3) := cell_of_row wR _ 4 _ _ _ VR3.bx)
      | (go_at_call 22; refine (same3_any _ _ _ _ _ _ _ _ _ _ _ _ _ _ _ _ s0 s3 _ VR0.rW VR0.rG VR0.rC VR0.rL VR3.rW VR3.rG VR3.rC VR3.rL (Fs0.out).1 (Fs0.out).2.1 (Fs0.out).2.2.1 (by have := (Fs0.out).2.2.2.1; omega) (Fs0.out).2.2.2.2).mono ?_; rintro e wS ⟨rfl, hkS⟩; rw [HM3.out]))
  go_ret
  exact ⟨rfl, bstep (bstep hb hkR) hkS⟩
end Go.Proofs.Ytpagekhgeahmaaa
