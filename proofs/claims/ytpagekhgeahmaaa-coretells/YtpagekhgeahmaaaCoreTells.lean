/- For every two systems and every three ints, the law CoreTells (new systems, which are right, which the same, and a core's last frame, are as the document says) returns true, and the argument reads afterwards as before. No conditions. -/
import Derived.Test.YtpagekhgeahmaaaRows
import Derived.Test.YtpagekhgeahmaaaUni
import Derived.Test.YtpagekhgeahmaaaOpen4
import Derived.Test.YtpagekhgeahmaaaLaw
namespace Go.Proofs.Ytpagekhgeahmaaa
namespace CoreTells
open Go.ChangeShapes Go.WideShapes Go.ChangeAt Go.RowKit
set_option linter.unusedVariables false
set_option linter.unusedSimpArgs false

theorem own : ownKnob Try.prog.godebug = none := by kernel_rfl

set_option maxRecDepth 100000 in
set_option maxHeartbeats 8000000 in
theorem walk (A0 B0 C0 L0 : Option Addr) (a0 b0 c0 d0 : Nat) (s0 : Sy) (A1 B1 C1 L1 : Option Addr) (a1 b1 c1 d1 : Nat) (s1 : Sy) (n1 n2 n3 : Int) (w0 : World)
    (rW : Row w0 A0 s0.M.W) (rG : Row w0 B0 s0.M.G) (rC : RowC w0 C0 s0.C) (rL : RowE w0 L0 s0.L) (l0 : s0.M.W.length ≤ maxLen) (l1 : s0.M.G.length ≤ maxLen) (l2 : s0.C.length ≤ maxLen) (l3 : s0.L.length ≤ maxLen)
    (qW : Row w0 A1 s1.M.W) (qG : Row w0 B1 s1.M.G) (qC : RowC w0 C1 s1.C) (qL : RowE w0 L1 s1.L) (m0 : s1.M.W.length ≤ maxLen) (m1 : s1.M.G.length ≤ maxLen) (m2 : s1.C.length ≤ maxLen) (m3 : s1.L.length ≤ maxLen) :
    Calls Try.prog 3 #[.agg #[.slice A0 s0.M.W.length a0, .slice B0 s0.M.G.length b0, .bool s0.M.bad, .slice C0 s0.C.length c0, .slice L0 s0.L.length d0, .slice A1 s1.M.W.length a1, .slice B1 s1.M.G.length b1, .bool s1.M.bad, .slice C1 s1.C.length c1, .slice L1 s1.L.length d1, .int .i64 n1, .int .i64 n2, .int .i64 n3]] w0 fun e w' => e = .returned (.bool true) ∧ Below w0.heap.size w0 w' := by
  have PRE : True := trivial
  have V0 := SV.mk' a0 b0 c0 d0 (rW.step (boxed w0 (.cells #[.slice A0 s0.M.W.length a0, .slice B0 s0.M.G.length b0, .bool s0.M.bad, .slice C0 s0.C.length c0, .slice L0 s0.L.length d0, .slice A1 s1.M.W.length a1, .slice B1 s1.M.G.length b1, .bool s1.M.bad, .slice C1 s1.C.length c1, .slice L1 s1.L.length d1, .int .i64 n1, .int .i64 n2, .int .i64 n3] 30))) (rG.step (boxed w0 (.cells #[.slice A0 s0.M.W.length a0, .slice B0 s0.M.G.length b0, .bool s0.M.bad, .slice C0 s0.C.length c0, .slice L0 s0.L.length d0, .slice A1 s1.M.W.length a1, .slice B1 s1.M.G.length b1, .bool s1.M.bad, .slice C1 s1.C.length c1, .slice L1 s1.L.length d1, .int .i64 n1, .int .i64 n2, .int .i64 n3] 30))) (rC.step (boxed w0 (.cells #[.slice A0 s0.M.W.length a0, .slice B0 s0.M.G.length b0, .bool s0.M.bad, .slice C0 s0.C.length c0, .slice L0 s0.L.length d0, .slice A1 s1.M.W.length a1, .slice B1 s1.M.G.length b1, .bool s1.M.bad, .slice C1 s1.C.length c1, .slice L1 s1.L.length d1, .int .i64 n1, .int .i64 n2, .int .i64 n3] 30))) (rL.step (boxed w0 (.cells #[.slice A0 s0.M.W.length a0, .slice B0 s0.M.G.length b0, .bool s0.M.bad, .slice C0 s0.C.length c0, .slice L0 s0.L.length d0, .slice A1 s1.M.W.length a1, .slice B1 s1.M.G.length b1, .bool s1.M.bad, .slice C1 s1.C.length c1, .slice L1 s1.L.length d1, .int .i64 n1, .int .i64 n2, .int .i64 n3] 30)))
  have b12 : Below w0.heap.size w0 ((w0.alloc (.cells #[.slice A0 s0.M.W.length a0, .slice B0 s0.M.G.length b0, .bool s0.M.bad, .slice C0 s0.C.length c0, .slice L0 s0.L.length d0, .slice A1 s1.M.W.length a1, .slice B1 s1.M.G.length b1, .bool s1.M.bad, .slice C1 s1.C.length c1, .slice L1 s1.L.length d1, .int .i64 n1, .int .i64 n2, .int .i64 n3] 30)).alloc (.cells #[.slice A0 s0.M.W.length a0, .slice B0 s0.M.G.length b0, .bool s0.M.bad, .slice C0 s0.C.length c0, .slice L0 s0.L.length d0] 28)) := bstep (boxed _ _) (boxed _ _)
  have V1 := SV.mk' a1 b1 c1 d1 (qW.step b12) (qG.step b12) (qC.step b12) (qL.step b12)
  replace V0 := V0.step (boxed ((w0.alloc (.cells #[.slice A0 s0.M.W.length a0, .slice B0 s0.M.G.length b0, .bool s0.M.bad, .slice C0 s0.C.length c0, .slice L0 s0.L.length d0, .slice A1 s1.M.W.length a1, .slice B1 s1.M.G.length b1, .bool s1.M.bad, .slice C1 s1.C.length c1, .slice L1 s1.L.length d1, .int .i64 n1, .int .i64 n2, .int .i64 n3] 30)).alloc (.cells #[.slice A0 s0.M.W.length a0, .slice B0 s0.M.G.length b0, .bool s0.M.bad, .slice C0 s0.C.length c0, .slice L0 s0.L.length d0] 28)) (.cells #[.slice A1 s1.M.W.length a1, .slice B1 s1.M.G.length b1, .bool s1.M.bad, .slice C1 s1.C.length c1, .slice L1 s1.L.length d1] 28))
  have hb : Below w0.heap.size w0 (((w0.alloc (.cells #[.slice A0 s0.M.W.length a0, .slice B0 s0.M.G.length b0, .bool s0.M.bad, .slice C0 s0.C.length c0, .slice L0 s0.L.length d0, .slice A1 s1.M.W.length a1, .slice B1 s1.M.G.length b1, .bool s1.M.bad, .slice C1 s1.C.length c1, .slice L1 s1.L.length d1, .int .i64 n1, .int .i64 n2, .int .i64 n3] 30)).alloc (.cells #[.slice A0 s0.M.W.length a0, .slice B0 s0.M.G.length b0, .bool s0.M.bad, .slice C0 s0.C.length c0, .slice L0 s0.L.length d0] 28)).alloc (.cells #[.slice A1 s1.M.W.length a1, .slice B1 s1.M.G.length b1, .bool s1.M.bad, .slice C1 s1.C.length c1, .slice L1 s1.L.length d1] 28)) := bstep b12 (boxed _ _)
  clear b12
  have z1 : (w0.alloc (.cells #[.slice A0 s0.M.W.length a0, .slice B0 s0.M.G.length b0, .bool s0.M.bad, .slice C0 s0.C.length c0, .slice L0 s0.L.length d0, .slice A1 s1.M.W.length a1, .slice B1 s1.M.G.length b1, .bool s1.M.bad, .slice C1 s1.C.length c1, .slice L1 s1.L.length d1, .int .i64 n1, .int .i64 n2, .int .i64 n3] 30)).heap.size = w0.heap.size + 1 := by simp
  have z2 : ((w0.alloc (.cells #[.slice A0 s0.M.W.length a0, .slice B0 s0.M.G.length b0, .bool s0.M.bad, .slice C0 s0.C.length c0, .slice L0 s0.L.length d0, .slice A1 s1.M.W.length a1, .slice B1 s1.M.G.length b1, .bool s1.M.bad, .slice C1 s1.C.length c1, .slice L1 s1.L.length d1, .int .i64 n1, .int .i64 n2, .int .i64 n3] 30)).alloc (.cells #[.slice A0 s0.M.W.length a0, .slice B0 s0.M.G.length b0, .bool s0.M.bad, .slice C0 s0.C.length c0, .slice L0 s0.L.length d0] 28)).heap.size = w0.heap.size + 1 + 1 := by simp
  rw [z1] at V0
  rw [z2] at V1
  clear z1 z2
  have HS0 := hid (show ∀ w, RowC w C0 s0.C → Calls Try.prog 16 #[.agg #[.slice A0 s0.M.W.length a0, .slice B0 s0.M.G.length b0, .bool s0.M.bad, .slice C0 s0.C.length c0, .slice L0 s0.L.length d0], .int .i64 60] w fun e w' => e = .returned (.bool (sySmall s0)) ∧ Below w.heap.size w w' from fun w rC => rsmall_any A0 B0 C0 L0 a0 b0 c0 d0 s0 w rC l1 l0 l2 l3)
  have HS1 := hid (show ∀ w, RowC w C1 s1.C → Calls Try.prog 16 #[.agg #[.slice A1 s1.M.W.length a1, .slice B1 s1.M.G.length b1, .bool s1.M.bad, .slice C1 s1.C.length c1, .slice L1 s1.L.length d1], .int .i64 60] w fun e w' => e = .returned (.bool (sySmall s1)) ∧ Below w.heap.size w w' from fun w rC => rsmall_any A1 B1 C1 L1 a1 b1 c1 d1 s1 w rC m1 m0 m2 m3)
  have HF0 := hid (fun h => few_of_small (s := s0) h)
  have HF1 := hid (fun h => few_of_small (s := s1) h)
  obtain ⟨x0, er, fx, HN, HM⟩ := new_both n1 n2
  replace HN := hid HN
  replace HM := hid HM
  replace fx := hid fx
  clear rW rG qW qG qC qL rL l0 l1 l2 l3 m0 m1 m2 m3
  go_enter Try.func3, Try.ntmps3
  go_wp2_with fail
  obtain ⟨v1, hv⟩ : ∃ v, w0.heap.size + 1 + 1 = v := ⟨_, rfl⟩
  rw [hv] at V1 ⊢
  clear hv
  obtain ⟨v0, hv⟩ : ∃ v, w0.heap.size + 1 = v := ⟨_, rfl⟩
  rw [hv] at V0 ⊢
  clear hv
  generalize (((w0.alloc (.cells #[.slice A0 s0.M.W.length a0, .slice B0 s0.M.G.length b0, .bool s0.M.bad, .slice C0 s0.C.length c0, .slice L0 s0.L.length d0, .slice A1 s1.M.W.length a1, .slice B1 s1.M.G.length b1, .bool s1.M.bad, .slice C1 s1.C.length c1, .slice L1 s1.L.length d1, .int .i64 n1, .int .i64 n2, .int .i64 n3] 30)).alloc (.cells #[.slice A0 s0.M.W.length a0, .slice B0 s0.M.G.length b0, .bool s0.M.bad, .slice C0 s0.C.length c0, .slice L0 s0.L.length d0] 28)).alloc (.cells #[.slice A1 s1.M.W.length a1, .slice B1 s1.M.G.length b1, .bool s1.M.bad, .slice C1 s1.C.length c1, .slice L1 s1.L.length d1] 28)) = w3 at *
  refine (shown3_any _).mono ?_
  rintro e w4 ⟨rfl, hk⟩
  replace V0 := V0.step hk
  replace V1 := V1.step hk
  replace hb := bstep hb hk
  clear hk
  have m0_0 : w4.cell? ⟨v0, 0, none⟩ = some (.slice A0 s0.M.W.length a0) := cell_of_row w4 _ 0 _ _ _ V0.bx
  have m0_1 : w4.cell? ⟨v0, 1, none⟩ = some (.slice B0 s0.M.G.length b0) := cell_of_row w4 _ 1 _ _ _ V0.bx
  have m0_2 : w4.cell? ⟨v0, 2, none⟩ = some (.bool s0.M.bad) := cell_of_row w4 _ 2 _ _ _ V0.bx
  have m0_3 : w4.cell? ⟨v0, 3, none⟩ = some (.slice C0 s0.C.length c0) := cell_of_row w4 _ 3 _ _ _ V0.bx
  have m0_4 : w4.cell? ⟨v0, 4, none⟩ = some (.slice L0 s0.L.length d0) := cell_of_row w4 _ 4 _ _ _ V0.bx
  have m1_0 : w4.cell? ⟨v1, 0, none⟩ = some (.slice A1 s1.M.W.length a1) := cell_of_row w4 _ 0 _ _ _ V1.bx
  have m1_1 : w4.cell? ⟨v1, 1, none⟩ = some (.slice B1 s1.M.G.length b1) := cell_of_row w4 _ 1 _ _ _ V1.bx
  have m1_2 : w4.cell? ⟨v1, 2, none⟩ = some (.bool s1.M.bad) := cell_of_row w4 _ 2 _ _ _ V1.bx
  have m1_3 : w4.cell? ⟨v1, 3, none⟩ = some (.slice C1 s1.C.length c1) := cell_of_row w4 _ 3 _ _ _ V1.bx
  have m1_4 : w4.cell? ⟨v1, 4, none⟩ = some (.slice L1 s1.L.length d1) := cell_of_row w4 _ 4 _ _ _ V1.bx
  rcases q0 : sySmall s0 with _ | _
  · have HC0 := HS0.out
    rw [q0] at HC0
    replace HC0 := hid HC0
    go_wp2_with (go_at_call 16; (with_reducible refine (HC0.out _ V0.rC).mono ?_); rintro e w5 ⟨rfl, hk5⟩; have U0 := V0.step hk5; have U1 := V1.step hk5; have u0_0 : w5.cell? ⟨v0, 0, none⟩ = some (.slice A0 s0.M.W.length a0) := cell_of_row w5 _ 0 _ _ _ U0.bx; have u0_1 : w5.cell? ⟨v0, 1, none⟩ = some (.slice B0 s0.M.G.length b0) := cell_of_row w5 _ 1 _ _ _ U0.bx; have u0_2 : w5.cell? ⟨v0, 2, none⟩ = some (.bool s0.M.bad) := cell_of_row w5 _ 2 _ _ _ U0.bx; have u0_3 : w5.cell? ⟨v0, 3, none⟩ = some (.slice C0 s0.C.length c0) := cell_of_row w5 _ 3 _ _ _ U0.bx; have u0_4 : w5.cell? ⟨v0, 4, none⟩ = some (.slice L0 s0.L.length d0) := cell_of_row w5 _ 4 _ _ _ U0.bx; have u1_0 : w5.cell? ⟨v1, 0, none⟩ = some (.slice A1 s1.M.W.length a1) := cell_of_row w5 _ 0 _ _ _ U1.bx; have u1_1 : w5.cell? ⟨v1, 1, none⟩ = some (.slice B1 s1.M.G.length b1) := cell_of_row w5 _ 1 _ _ _ U1.bx; have u1_2 : w5.cell? ⟨v1, 2, none⟩ = some (.bool s1.M.bad) := cell_of_row w5 _ 2 _ _ _ U1.bx; have u1_3 : w5.cell? ⟨v1, 3, none⟩ = some (.slice C1 s1.C.length c1) := cell_of_row w5 _ 3 _ _ _ U1.bx; have u1_4 : w5.cell? ⟨v1, 4, none⟩ = some (.slice L1 s1.L.length d1) := cell_of_row w5 _ 4 _ _ _ U1.bx)
    go_ret
    exact ⟨rfl, bstep hb hk5⟩
  · have HC0 := HS0.out
    rw [q0] at HC0
    replace HC0 := hid HC0
    rcases q1 : sySmall s1 with _ | _
    · have HC1 := HS1.out
      rw [q1] at HC1
      replace HC1 := hid HC1
      go_wp2_with (first | (go_at_call 16; (with_reducible refine (HC1.out _ U1.rC).mono ?_); rintro e w6 ⟨rfl, hk6⟩) | (go_at_call 16; (with_reducible refine (HC0.out _ V0.rC).mono ?_); rintro e w5 ⟨rfl, hk5⟩; have U0 := V0.step hk5; have U1 := V1.step hk5; have u0_0 : w5.cell? ⟨v0, 0, none⟩ = some (.slice A0 s0.M.W.length a0) := cell_of_row w5 _ 0 _ _ _ U0.bx; have u0_1 : w5.cell? ⟨v0, 1, none⟩ = some (.slice B0 s0.M.G.length b0) := cell_of_row w5 _ 1 _ _ _ U0.bx; have u0_2 : w5.cell? ⟨v0, 2, none⟩ = some (.bool s0.M.bad) := cell_of_row w5 _ 2 _ _ _ U0.bx; have u0_3 : w5.cell? ⟨v0, 3, none⟩ = some (.slice C0 s0.C.length c0) := cell_of_row w5 _ 3 _ _ _ U0.bx; have u0_4 : w5.cell? ⟨v0, 4, none⟩ = some (.slice L0 s0.L.length d0) := cell_of_row w5 _ 4 _ _ _ U0.bx; have u1_0 : w5.cell? ⟨v1, 0, none⟩ = some (.slice A1 s1.M.W.length a1) := cell_of_row w5 _ 0 _ _ _ U1.bx; have u1_1 : w5.cell? ⟨v1, 1, none⟩ = some (.slice B1 s1.M.G.length b1) := cell_of_row w5 _ 1 _ _ _ U1.bx; have u1_2 : w5.cell? ⟨v1, 2, none⟩ = some (.bool s1.M.bad) := cell_of_row w5 _ 2 _ _ _ U1.bx; have u1_3 : w5.cell? ⟨v1, 3, none⟩ = some (.slice C1 s1.C.length c1) := cell_of_row w5 _ 3 _ _ _ U1.bx; have u1_4 : w5.cell? ⟨v1, 4, none⟩ = some (.slice L1 s1.L.length d1) := cell_of_row w5 _ 4 _ _ _ U1.bx))
      go_ret
      exact ⟨rfl, bstep (bstep hb hk5) hk6⟩
    · have HC1 := HS1.out
      rw [q1] at HC1
      replace HC1 := hid HC1
      replace HF0 := hid (HF0.out q0)
      replace HF1 := hid (HF1.out q1)
      go_wp2_with (first | (go_at_call 16; (with_reducible refine (HC1.out _ U1.rC).mono ?_); rintro e w6 ⟨rfl, hk6⟩) | (go_at_call 16; (with_reducible refine (HC0.out _ V0.rC).mono ?_); rintro e w5 ⟨rfl, hk5⟩; have U0 := V0.step hk5; have U1 := V1.step hk5; have u0_0 : w5.cell? ⟨v0, 0, none⟩ = some (.slice A0 s0.M.W.length a0) := cell_of_row w5 _ 0 _ _ _ U0.bx; have u0_1 : w5.cell? ⟨v0, 1, none⟩ = some (.slice B0 s0.M.G.length b0) := cell_of_row w5 _ 1 _ _ _ U0.bx; have u0_2 : w5.cell? ⟨v0, 2, none⟩ = some (.bool s0.M.bad) := cell_of_row w5 _ 2 _ _ _ U0.bx; have u0_3 : w5.cell? ⟨v0, 3, none⟩ = some (.slice C0 s0.C.length c0) := cell_of_row w5 _ 3 _ _ _ U0.bx; have u0_4 : w5.cell? ⟨v0, 4, none⟩ = some (.slice L0 s0.L.length d0) := cell_of_row w5 _ 4 _ _ _ U0.bx; have u1_0 : w5.cell? ⟨v1, 0, none⟩ = some (.slice A1 s1.M.W.length a1) := cell_of_row w5 _ 0 _ _ _ U1.bx; have u1_1 : w5.cell? ⟨v1, 1, none⟩ = some (.slice B1 s1.M.G.length b1) := cell_of_row w5 _ 1 _ _ _ U1.bx; have u1_2 : w5.cell? ⟨v1, 2, none⟩ = some (.bool s1.M.bad) := cell_of_row w5 _ 2 _ _ _ U1.bx; have u1_3 : w5.cell? ⟨v1, 3, none⟩ = some (.slice C1 s1.C.length c1) := cell_of_row w5 _ 3 _ _ _ U1.bx; have u1_4 : w5.cell? ⟨v1, 4, none⟩ = some (.slice L1 s1.L.length d1) := cell_of_row w5 _ 4 _ _ _ U1.bx))
      clear m0_0 u0_0 m0_1 u0_1 m0_2 u0_2 m0_3 u0_3 m0_4 u0_4 m1_0 u1_0 m1_1 u1_1 m1_2 u1_2 m1_3 u1_3 m1_4 u1_4
      replace V0 := U0.step hk6
      replace V1 := U1.step hk6
      replace hb := bstep (bstep hb hk5) hk6
      clear U0 U1 hk5 hk6 HC0 HC1 HS0 HS1
      refine (HN.out _).mono ?_
      rintro e w7 ⟨A2, B2, C2, L2, a2, b2, c2, d2, rfl, xW, xG, xC, xL, hk⟩
      replace V0 := V0.step hk
      replace V1 := V1.step hk
      replace hb := bstep hb hk
      clear hk
      go_wp2_with fail
      have V2 := SV.mk' a2 b2 c2 d2 xW xG xC xL
      have hk : Below w7.heap.size w7 (w7.alloc (.cells #[.slice A2 x0.M.W.length a2, .slice B2 x0.M.G.length b2, .bool x0.M.bad, .slice C2 x0.C.length c2, .slice L2 x0.L.length d2] 28)) := boxed _ _
      replace V0 := V0.step hk
      replace V1 := V1.step hk
      replace hb := bstep hb hk
      clear hk xW xG xC xL
      obtain ⟨v2, hv⟩ : ∃ v, w7.heap.size = v := ⟨_, rfl⟩
      rw [hv] at V2 ⊢
      clear hv
      generalize (w7.alloc (.cells #[.slice A2 x0.M.W.length a2, .slice B2 x0.M.G.length b2, .bool x0.M.bad, .slice C2 x0.C.length c2, .slice L2 x0.L.length d2] 28)) = w8 at *
      refine (HM.out _).mono ?_
      rintro e w9 ⟨A3, B3, C3, L3, a3, b3, c3, d3, rfl, xW, xG, xC, xL, hk⟩
      replace V2 := V2.step hk
      replace V0 := V0.step hk
      replace V1 := V1.step hk
      replace hb := bstep hb hk
      clear hk
      go_upto_region 11 with (fail)
      have V3 := SV.mk' a3 b3 c3 d3 xW xG xC xL
      have hk : Below w9.heap.size w9 (w9.alloc (.cells #[.slice A3 x0.M.W.length a3, .slice B3 x0.M.G.length b3, .bool x0.M.bad, .slice C3 x0.C.length c3, .slice L3 x0.L.length d3] 28)) := boxed _ _
      replace V0 := V0.step hk
      replace V1 := V1.step hk
      replace hb := bstep hb hk
      replace V2 := V2.step hk
      clear hk xW xG xC xL
      obtain ⟨v3, hv⟩ : ∃ v, w9.heap.size = v := ⟨_, rfl⟩
      rw [hv] at V3 ⊢
      clear hv
      generalize (w9.alloc (.cells #[.slice A3 x0.M.W.length a3, .slice B3 x0.M.G.length b3, .bool x0.M.bad, .slice C3 x0.C.length c3, .slice L3 x0.L.length d3] 28)) = w10 at *
      have m0_0 : w10.cell? ⟨v0, 0, none⟩ = some (.slice A0 s0.M.W.length a0) := cell_of_row w10 _ 0 _ _ _ V0.bx
      have m0_1 : w10.cell? ⟨v0, 1, none⟩ = some (.slice B0 s0.M.G.length b0) := cell_of_row w10 _ 1 _ _ _ V0.bx
      have m0_2 : w10.cell? ⟨v0, 2, none⟩ = some (.bool s0.M.bad) := cell_of_row w10 _ 2 _ _ _ V0.bx
      have m0_3 : w10.cell? ⟨v0, 3, none⟩ = some (.slice C0 s0.C.length c0) := cell_of_row w10 _ 3 _ _ _ V0.bx
      have m0_4 : w10.cell? ⟨v0, 4, none⟩ = some (.slice L0 s0.L.length d0) := cell_of_row w10 _ 4 _ _ _ V0.bx
      go_wp2_with (go_at_call 19; refine (rright3_any A0 B0 C0 L0 a0 b0 c0 d0 s0 _ V0.rG V0.rC (by have := (HF0.out).2.1; omega) (by have := (HF0.out).1; omega) (HF0.out).2.2.1 (fun x hx => ((HF0.out).2.2.2.2 x hx).2.1)).mono ?_; rintro e w11 ⟨rfl, hk11⟩; replace V0 := V0.step hk11; replace V1 := V1.step hk11; replace hb := bstep hb hk11; replace V2 := V2.step hk11; replace V3 := V3.step hk11; clear hk11)
      clear m0_0 m0_1 m0_2 m0_3 m0_4
      obtain ⟨tt, op, pc, r0, r1, r2, r3, r4, r5, r6, r7, xs, hxs, HT1, HT2⟩ := top_both s0 n3 HF0.out V0.rC
      replace HT1 := hid HT1
      replace HT2 := hid HT2
      replace hxs := hid hxs
      obtain ⟨pr, hp⟩ : ∃ p, syRight s0 = p := ⟨_, rfl⟩
      obtain ⟨qs, hq⟩ : ∃ p, sySame s0 s1 = p := ⟨_, rfl⟩
      have HA := hid (show ∀ w, RS w x0 A2 B2 C2 L2 → RS w x0 A3 B3 C3 L3 → Calls Try.prog 20 #[.agg #[.slice A2 x0.M.W.length a2, .slice B2 x0.M.G.length b2, .bool x0.M.bad, .slice C2 x0.C.length c2, .slice L2 x0.L.length d2], .agg #[.slice A3 x0.M.W.length a3, .slice B3 x0.M.G.length b3, .bool x0.M.bad, .slice C3 x0.C.length c3, .slice L3 x0.L.length d3]] w fun e w' => e = .returned (.bool true) ∧ Below w.heap.size w w' from fun w h h' => by have := rsame_u A2 B2 C2 L2 A3 B3 C3 L3 a2 b2 c2 d2 a3 b3 c3 d3 x0 x0 w fx.out h h'; rwa [sySame_self] at this)
      have HC := hid (show ∀ w, RS w s0 A0 B0 C0 L0 → RS w s1 A1 B1 C1 L1 → Calls Try.prog 22 #[.agg #[.slice A0 s0.M.W.length a0, .slice B0 s0.M.G.length b0, .bool s0.M.bad, .slice C0 s0.C.length c0, .slice L0 s0.L.length d0], .agg #[.slice A1 s1.M.W.length a1, .slice B1 s1.M.G.length b1, .bool s1.M.bad, .slice C1 s1.C.length c1, .slice L1 s1.L.length d1]] w fun e w' => e = .returned (.bool qs) ∧ Below w.heap.size w w' from fun w h h' => by have := same_u A0 B0 C0 L0 A1 B1 C1 L1 a0 b0 c0 d0 a1 b1 c1 d1 s0 s1 w HF0.out h h'; rwa [hq] at this)
      have HD := hid (show ∀ w, RS w s0 A0 B0 C0 L0 → RS w s1 A1 B1 C1 L1 → Calls Try.prog 20 #[.agg #[.slice A0 s0.M.W.length a0, .slice B0 s0.M.G.length b0, .bool s0.M.bad, .slice C0 s0.C.length c0, .slice L0 s0.L.length d0], .agg #[.slice A1 s1.M.W.length a1, .slice B1 s1.M.G.length b1, .bool s1.M.bad, .slice C1 s1.C.length c1, .slice L1 s1.L.length d1]] w fun e w' => e = .returned (.bool qs) ∧ Below w.heap.size w w' from fun w h h' => by have := rsame_u A0 B0 C0 L0 A1 B1 C1 L1 a0 b0 c0 d0 a1 b1 c1 d1 s0 s1 w HF0.out h h'; rwa [hq] at this)
      have HB := hid (show ∀ w, Row w B0 s0.M.G → RowC w C0 s0.C → Calls Try.prog 21 #[.agg #[.slice A0 s0.M.W.length a0, .slice B0 s0.M.G.length b0, .bool s0.M.bad, .slice C0 s0.C.length c0, .slice L0 s0.L.length d0]] w fun e w' => e = .returned (.bool pr) ∧ Below w.heap.size w w' from fun w h h' => by have := right3_any A0 B0 C0 L0 a0 b0 c0 d0 s0 w h h' (by have := (HF0.out).2.1; omega) (by have := (HF0.out).1; omega) (HF0.out).2.2.1 (HF0.out).2.2.2.2; rwa [hp] at this)
      rw [hp]
      clear hp hq
      have p0_0 : w11.cell? ⟨v0, 0, none⟩ = some (.slice A0 s0.M.W.length a0) := cell_of_row w11 _ 0 _ _ _ V0.bx
      have p0_1 : w11.cell? ⟨v0, 1, none⟩ = some (.slice B0 s0.M.G.length b0) := cell_of_row w11 _ 1 _ _ _ V0.bx
      have p0_2 : w11.cell? ⟨v0, 2, none⟩ = some (.bool s0.M.bad) := cell_of_row w11 _ 2 _ _ _ V0.bx
      have p0_3 : w11.cell? ⟨v0, 3, none⟩ = some (.slice C0 s0.C.length c0) := cell_of_row w11 _ 3 _ _ _ V0.bx
      have p0_4 : w11.cell? ⟨v0, 4, none⟩ = some (.slice L0 s0.L.length d0) := cell_of_row w11 _ 4 _ _ _ V0.bx
      have p1_0 : w11.cell? ⟨v1, 0, none⟩ = some (.slice A1 s1.M.W.length a1) := cell_of_row w11 _ 0 _ _ _ V1.bx
      have p1_1 : w11.cell? ⟨v1, 1, none⟩ = some (.slice B1 s1.M.G.length b1) := cell_of_row w11 _ 1 _ _ _ V1.bx
      have p1_2 : w11.cell? ⟨v1, 2, none⟩ = some (.bool s1.M.bad) := cell_of_row w11 _ 2 _ _ _ V1.bx
      have p1_3 : w11.cell? ⟨v1, 3, none⟩ = some (.slice C1 s1.C.length c1) := cell_of_row w11 _ 3 _ _ _ V1.bx
      have p1_4 : w11.cell? ⟨v1, 4, none⟩ = some (.slice L1 s1.L.length d1) := cell_of_row w11 _ 4 _ _ _ V1.bx
      have p2_0 : w11.cell? ⟨v2, 0, none⟩ = some (.slice A2 x0.M.W.length a2) := cell_of_row w11 _ 0 _ _ _ V2.bx
      have p2_1 : w11.cell? ⟨v2, 1, none⟩ = some (.slice B2 x0.M.G.length b2) := cell_of_row w11 _ 1 _ _ _ V2.bx
      have p2_2 : w11.cell? ⟨v2, 2, none⟩ = some (.bool x0.M.bad) := cell_of_row w11 _ 2 _ _ _ V2.bx
      have p2_3 : w11.cell? ⟨v2, 3, none⟩ = some (.slice C2 x0.C.length c2) := cell_of_row w11 _ 3 _ _ _ V2.bx
      have p2_4 : w11.cell? ⟨v2, 4, none⟩ = some (.slice L2 x0.L.length d2) := cell_of_row w11 _ 4 _ _ _ V2.bx
      have p3_0 : w11.cell? ⟨v3, 0, none⟩ = some (.slice A3 x0.M.W.length a3) := cell_of_row w11 _ 0 _ _ _ V3.bx
      have p3_1 : w11.cell? ⟨v3, 1, none⟩ = some (.slice B3 x0.M.G.length b3) := cell_of_row w11 _ 1 _ _ _ V3.bx
      have p3_2 : w11.cell? ⟨v3, 2, none⟩ = some (.bool x0.M.bad) := cell_of_row w11 _ 2 _ _ _ V3.bx
      have p3_3 : w11.cell? ⟨v3, 3, none⟩ = some (.slice C3 x0.C.length c3) := cell_of_row w11 _ 3 _ _ _ V3.bx
      have p3_4 : w11.cell? ⟨v3, 4, none⟩ = some (.slice L3 x0.L.length d3) := cell_of_row w11 _ 4 _ _ _ V3.bx
      have KS := hid (show ∀ w', Below w11.heap.size w11 w' → (w'.cell? ⟨v0, 0, none⟩ = some (.slice A0 s0.M.W.length a0) ∧ w'.cell? ⟨v0, 1, none⟩ = some (.slice B0 s0.M.G.length b0) ∧ w'.cell? ⟨v0, 2, none⟩ = some (.bool s0.M.bad) ∧ w'.cell? ⟨v0, 3, none⟩ = some (.slice C0 s0.C.length c0) ∧ w'.cell? ⟨v0, 4, none⟩ = some (.slice L0 s0.L.length d0) ∧ w'.cell? ⟨v1, 0, none⟩ = some (.slice A1 s1.M.W.length a1) ∧ w'.cell? ⟨v1, 1, none⟩ = some (.slice B1 s1.M.G.length b1) ∧ w'.cell? ⟨v1, 2, none⟩ = some (.bool s1.M.bad) ∧ w'.cell? ⟨v1, 3, none⟩ = some (.slice C1 s1.C.length c1) ∧ w'.cell? ⟨v1, 4, none⟩ = some (.slice L1 s1.L.length d1) ∧ w'.cell? ⟨v2, 0, none⟩ = some (.slice A2 x0.M.W.length a2) ∧ w'.cell? ⟨v2, 1, none⟩ = some (.slice B2 x0.M.G.length b2) ∧ w'.cell? ⟨v2, 2, none⟩ = some (.bool x0.M.bad) ∧ w'.cell? ⟨v2, 3, none⟩ = some (.slice C2 x0.C.length c2) ∧ w'.cell? ⟨v2, 4, none⟩ = some (.slice L2 x0.L.length d2) ∧ w'.cell? ⟨v3, 0, none⟩ = some (.slice A3 x0.M.W.length a3) ∧ w'.cell? ⟨v3, 1, none⟩ = some (.slice B3 x0.M.G.length b3) ∧ w'.cell? ⟨v3, 2, none⟩ = some (.bool x0.M.bad) ∧ w'.cell? ⟨v3, 3, none⟩ = some (.slice C3 x0.C.length c3) ∧ w'.cell? ⟨v3, 4, none⟩ = some (.slice L3 x0.L.length d3)) from fun w' h => ⟨(h.cell V0.lt).trans p0_0, (h.cell V0.lt).trans p0_1, (h.cell V0.lt).trans p0_2, (h.cell V0.lt).trans p0_3, (h.cell V0.lt).trans p0_4, (h.cell V1.lt).trans p1_0, (h.cell V1.lt).trans p1_1, (h.cell V1.lt).trans p1_2, (h.cell V1.lt).trans p1_3, (h.cell V1.lt).trans p1_4, (h.cell V2.lt).trans p2_0, (h.cell V2.lt).trans p2_1, (h.cell V2.lt).trans p2_2, (h.cell V2.lt).trans p2_3, (h.cell V2.lt).trans p2_4, (h.cell V3.lt).trans p3_0, (h.cell V3.lt).trans p3_1, (h.cell V3.lt).trans p3_2, (h.cell V3.lt).trans p3_3, (h.cell V3.lt).trans p3_4⟩)
      have HR0 := hid (show RS w11 s0 A0 B0 C0 L0 from ⟨V0.rW, V0.rG, V0.rC, V0.rL⟩)
      have HR1 := hid (show RS w11 s1 A1 B1 C1 L1 from ⟨V1.rW, V1.rG, V1.rC, V1.rL⟩)
      have HR2 := hid (show RS w11 x0 A2 B2 C2 L2 from ⟨V2.rW, V2.rG, V2.rC, V2.rL⟩)
      have HR3 := hid (show RS w11 x0 A3 B3 C3 L3 from ⟨V3.rW, V3.rG, V3.rC, V3.rL⟩)
      replace hb := hid hb
      replace V0 := hid V0
      clear V1 V2 V3
      go_region_held3 (fun w' => w'.cell? ⟨v0, 0, none⟩ = some (.slice A0 s0.M.W.length a0) ∧ w'.cell? ⟨v0, 1, none⟩ = some (.slice B0 s0.M.G.length b0) ∧ w'.cell? ⟨v0, 2, none⟩ = some (.bool s0.M.bad) ∧ w'.cell? ⟨v0, 3, none⟩ = some (.slice C0 s0.C.length c0) ∧ w'.cell? ⟨v0, 4, none⟩ = some (.slice L0 s0.L.length d0) ∧ w'.cell? ⟨v1, 0, none⟩ = some (.slice A1 s1.M.W.length a1) ∧ w'.cell? ⟨v1, 1, none⟩ = some (.slice B1 s1.M.G.length b1) ∧ w'.cell? ⟨v1, 2, none⟩ = some (.bool s1.M.bad) ∧ w'.cell? ⟨v1, 3, none⟩ = some (.slice C1 s1.C.length c1) ∧ w'.cell? ⟨v1, 4, none⟩ = some (.slice L1 s1.L.length d1) ∧ w'.cell? ⟨v2, 0, none⟩ = some (.slice A2 x0.M.W.length a2) ∧ w'.cell? ⟨v2, 1, none⟩ = some (.slice B2 x0.M.G.length b2) ∧ w'.cell? ⟨v2, 2, none⟩ = some (.bool x0.M.bad) ∧ w'.cell? ⟨v2, 3, none⟩ = some (.slice C2 x0.C.length c2) ∧ w'.cell? ⟨v2, 4, none⟩ = some (.slice L2 x0.L.length d2) ∧ w'.cell? ⟨v3, 0, none⟩ = some (.slice A3 x0.M.W.length a3) ∧ w'.cell? ⟨v3, 1, none⟩ = some (.slice B3 x0.M.G.length b3) ∧ w'.cell? ⟨v3, 2, none⟩ = some (.bool x0.M.bad) ∧ w'.cell? ⟨v3, 3, none⟩ = some (.slice C3 x0.C.length c3) ∧ w'.cell? ⟨v3, 4, none⟩ = some (.slice L3 x0.L.length d3)) (exact KS.out _ (by repeat (first | (with_reducible exact Below.refl _ _) | (with_reducible refine Below.drew ?_) | (with_reducible refine bstep ?_ hk4) | (with_reducible refine bstep ?_ hk3) | (with_reducible refine bstep ?_ hk2) | (with_reducible refine bstep ?_ hk1))))
        (first | (go_at_call 20; (with_reducible refine (HA.out _ (HR2.out.step (by repeat (first | (with_reducible exact Below.refl _ _) | (with_reducible refine Below.drew ?_) | (with_reducible refine bstep ?_ hk4) | (with_reducible refine bstep ?_ hk3) | (with_reducible refine bstep ?_ hk2) | (with_reducible refine bstep ?_ hk1)))) (HR3.out.step (by repeat (first | (with_reducible exact Below.refl _ _) | (with_reducible refine Below.drew ?_) | (with_reducible refine bstep ?_ hk4) | (with_reducible refine bstep ?_ hk3) | (with_reducible refine bstep ?_ hk2) | (with_reducible refine bstep ?_ hk1))))).mono ?_); rintro e wk1 ⟨rfl, hk1⟩) | (go_at_call 21; (with_reducible refine (HB.out _ (HR0.out.step (by repeat (first | (with_reducible exact Below.refl _ _) | (with_reducible refine Below.drew ?_) | (with_reducible refine bstep ?_ hk4) | (with_reducible refine bstep ?_ hk3) | (with_reducible refine bstep ?_ hk2) | (with_reducible refine bstep ?_ hk1)))).G (HR0.out.step (by repeat (first | (with_reducible exact Below.refl _ _) | (with_reducible refine Below.drew ?_) | (with_reducible refine bstep ?_ hk4) | (with_reducible refine bstep ?_ hk3) | (with_reducible refine bstep ?_ hk2) | (with_reducible refine bstep ?_ hk1)))).C).mono ?_); rintro e wk2 ⟨rfl, hk2⟩) | (go_at_call 22; (with_reducible refine (HC.out _ (HR0.out.step (by repeat (first | (with_reducible exact Below.refl _ _) | (with_reducible refine Below.drew ?_) | (with_reducible refine bstep ?_ hk4) | (with_reducible refine bstep ?_ hk3) | (with_reducible refine bstep ?_ hk2) | (with_reducible refine bstep ?_ hk1)))) (HR1.out.step (by repeat (first | (with_reducible exact Below.refl _ _) | (with_reducible refine Below.drew ?_) | (with_reducible refine bstep ?_ hk4) | (with_reducible refine bstep ?_ hk3) | (with_reducible refine bstep ?_ hk2) | (with_reducible refine bstep ?_ hk1))))).mono ?_); rintro e wk3 ⟨rfl, hk3⟩) | (go_at_call 20; (with_reducible refine (HD.out _ (HR0.out.step (by repeat (first | (with_reducible exact Below.refl _ _) | (with_reducible refine Below.drew ?_) | (with_reducible refine bstep ?_ hk4) | (with_reducible refine bstep ?_ hk3) | (with_reducible refine bstep ?_ hk2) | (with_reducible refine bstep ?_ hk1)))) (HR1.out.step (by repeat (first | (with_reducible exact Below.refl _ _) | (with_reducible refine Below.drew ?_) | (with_reducible refine bstep ?_ hk4) | (with_reducible refine bstep ?_ hk3) | (with_reducible refine bstep ?_ hk2) | (with_reducible refine bstep ?_ hk1))))).mono ?_); rintro e wk4 ⟨rfl, hk4⟩))
      have hbw : Below w11.heap.size w11 wk4 := (by repeat (first | (with_reducible exact Below.refl _ _) | (with_reducible refine Below.drew ?_) | (with_reducible refine bstep ?_ hk4) | (with_reducible refine bstep ?_ hk3) | (with_reducible refine bstep ?_ hk2) | (with_reducible refine bstep ?_ hk1)))
      replace hb := bstep hb.out hbw
      replace V0 := V0.out.step hbw
      rename_i hHeld
      clear hHeld hbw hk1 hk2 hk3 hk4 KS HR0 HR1 HR2 HR3 HA HB HC HD HN HM fx HF1 q0 q1 rC p0_0 p0_1 p0_2 p0_3 p0_4 p1_0 p1_1 p1_2 p1_3 p1_4 p2_0 p2_1 p2_2 p2_3 p2_4 p3_0 p3_1 p3_2 p3_3 p3_4
      have m0 : wk4.cell? ⟨v0, 0, none⟩ = some (.slice A0 s0.M.W.length a0) := cell_of_row wk4 _ 0 _ _ _ V0.bx
      have m1 : wk4.cell? ⟨v0, 1, none⟩ = some (.slice B0 s0.M.G.length b0) := cell_of_row wk4 _ 1 _ _ _ V0.bx
      have m2 : wk4.cell? ⟨v0, 2, none⟩ = some (.bool s0.M.bad) := cell_of_row wk4 _ 2 _ _ _ V0.bx
      have m3 : wk4.cell? ⟨v0, 3, none⟩ = some (.slice C0 s0.C.length c0) := cell_of_row wk4 _ 3 _ _ _ V0.bx
      have m4 : wk4.cell? ⟨v0, 4, none⟩ = some (.slice L0 s0.L.length d0) := cell_of_row wk4 _ 4 _ _ _ V0.bx
      cases pr
      · go_wp2_with fail
        go_ret
        exact ⟨rfl, hb⟩
      · go_wp2_with fail
        clear m0 m1 m2 m3 m4
        refine (HT1.out A0 B0 C0 L0 a0 b0 c0 d0 _ V0.rC).mono ?_
        rintro e w5 ⟨A5, c5, rfl, y5, hk⟩
        replace V0 := V0.step hk
        replace hb := bstep hb hk
        clear hk
        have m0 : w5.cell? ⟨v0, 0, none⟩ = some (.slice A0 s0.M.W.length a0) := cell_of_row w5 _ 0 _ _ _ V0.bx
        have m1 : w5.cell? ⟨v0, 1, none⟩ = some (.slice B0 s0.M.G.length b0) := cell_of_row w5 _ 1 _ _ _ V0.bx
        have m2 : w5.cell? ⟨v0, 2, none⟩ = some (.bool s0.M.bad) := cell_of_row w5 _ 2 _ _ _ V0.bx
        have m3 : w5.cell? ⟨v0, 3, none⟩ = some (.slice C0 s0.C.length c0) := cell_of_row w5 _ 3 _ _ _ V0.bx
        have m4 : w5.cell? ⟨v0, 4, none⟩ = some (.slice L0 s0.L.length d0) := cell_of_row w5 _ 4 _ _ _ V0.bx
        go_upto_region 17 with (fail)
        clear m0 m1 m2 m3 m4
        have H5 := heap_alloc_new w5 (.cells #[.int .i64 op, .int .i64 pc, .int .i64 r0, .int .i64 r1, .int .i64 r2, .int .i64 r3, .int .i64 r4, .int .i64 r5, .int .i64 r6, .int .i64 r7, .slice A5 xs.length c5] 42)
        have l5 : w5.heap.size < (w5.alloc (.cells #[.int .i64 op, .int .i64 pc, .int .i64 r0, .int .i64 r1, .int .i64 r2, .int .i64 r3, .int .i64 r4, .int .i64 r5, .int .i64 r6, .int .i64 r7, .slice A5 xs.length c5] 42)).heap.size := by simp
        have hk : Below w5.heap.size w5 (w5.alloc (.cells #[.int .i64 op, .int .i64 pc, .int .i64 r0, .int .i64 r1, .int .i64 r2, .int .i64 r3, .int .i64 r4, .int .i64 r5, .int .i64 r6, .int .i64 r7, .slice A5 xs.length c5] 42)) := boxed _ _
        replace V0 := V0.step hk
        replace hb := bstep hb hk
        replace y5 := y5.step hk
        clear hk
        obtain ⟨g5, hv⟩ : ∃ v, w5.heap.size = v := ⟨_, rfl⟩
        rw [hv] at H5 l5 ⊢
        clear hv
        generalize (w5.alloc (.cells #[.int .i64 op, .int .i64 pc, .int .i64 r0, .int .i64 r1, .int .i64 r2, .int .i64 r3, .int .i64 r4, .int .i64 r5, .int .i64 r6, .int .i64 r7, .slice A5 xs.length c5] 42)) = w6 at *
        have m0 : w6.cell? ⟨v0, 0, none⟩ = some (.slice A0 s0.M.W.length a0) := cell_of_row w6 _ 0 _ _ _ V0.bx
        have m1 : w6.cell? ⟨v0, 1, none⟩ = some (.slice B0 s0.M.G.length b0) := cell_of_row w6 _ 1 _ _ _ V0.bx
        have m2 : w6.cell? ⟨v0, 2, none⟩ = some (.bool s0.M.bad) := cell_of_row w6 _ 2 _ _ _ V0.bx
        have m3 : w6.cell? ⟨v0, 3, none⟩ = some (.slice C0 s0.C.length c0) := cell_of_row w6 _ 3 _ _ _ V0.bx
        have m4 : w6.cell? ⟨v0, 4, none⟩ = some (.slice L0 s0.L.length d0) := cell_of_row w6 _ 4 _ _ _ V0.bx
        go_wp2_with fail
        clear m0 m1 m2 m3 m4
        refine (HT2.out A0 B0 C0 L0 a0 b0 c0 d0 _ V0.rC).mono ?_
        rintro e w7 ⟨A7, c7, rfl, y7, hk⟩
        replace H5 := (hk.block g5 l5).trans H5
        replace l5 := Nat.lt_of_lt_of_le l5 hk.size
        replace y5 := y5.step hk
        replace hb := bstep hb hk
        clear hk V0 HT1 HT2
        go_upto_region 18 with (fail)
        have H7 := heap_alloc_new w7 (.cells #[.int .i64 op, .int .i64 pc, .int .i64 r0, .int .i64 r1, .int .i64 r2, .int .i64 r3, .int .i64 r4, .int .i64 r5, .int .i64 r6, .int .i64 r7, .slice A7 xs.length c7] 42)
        have l7 : w7.heap.size < (w7.alloc (.cells #[.int .i64 op, .int .i64 pc, .int .i64 r0, .int .i64 r1, .int .i64 r2, .int .i64 r3, .int .i64 r4, .int .i64 r5, .int .i64 r6, .int .i64 r7, .slice A7 xs.length c7] 42)).heap.size := by simp
        have hk : Below w7.heap.size w7 (w7.alloc (.cells #[.int .i64 op, .int .i64 pc, .int .i64 r0, .int .i64 r1, .int .i64 r2, .int .i64 r3, .int .i64 r4, .int .i64 r5, .int .i64 r6, .int .i64 r7, .slice A7 xs.length c7] 42)) := boxed _ _
        replace H5 := (hk.block g5 l5).trans H5
        replace l5 := Nat.lt_of_lt_of_le l5 hk.size
        replace y5 := y5.step hk
        replace y7 := y7.step hk
        replace hb := bstep hb hk
        clear hk
        obtain ⟨g7, hv⟩ : ∃ v, w7.heap.size = v := ⟨_, rfl⟩
        rw [hv] at H7 l7 ⊢
        clear hv
        generalize (w7.alloc (.cells #[.int .i64 op, .int .i64 pc, .int .i64 r0, .int .i64 r1, .int .i64 r2, .int .i64 r3, .int .i64 r4, .int .i64 r5, .int .i64 r6, .int .i64 r7, .slice A7 xs.length c7] 42)) = w8 at *
        have m0 : w8.cell? ⟨g5, 0, none⟩ = some (.int .i64 op) := cell_of_row w8 _ 0 _ _ _ H5
        have m1 : w8.cell? ⟨g5, 1, none⟩ = some (.int .i64 pc) := cell_of_row w8 _ 1 _ _ _ H5
        have m2 : w8.cell? ⟨g5, 2, none⟩ = some (.int .i64 r0) := cell_of_row w8 _ 2 _ _ _ H5
        have m3 : w8.cell? ⟨g5, 3, none⟩ = some (.int .i64 r1) := cell_of_row w8 _ 3 _ _ _ H5
        have m4 : w8.cell? ⟨g5, 4, none⟩ = some (.int .i64 r2) := cell_of_row w8 _ 4 _ _ _ H5
        have m5 : w8.cell? ⟨g5, 5, none⟩ = some (.int .i64 r3) := cell_of_row w8 _ 5 _ _ _ H5
        have m6 : w8.cell? ⟨g5, 6, none⟩ = some (.int .i64 r4) := cell_of_row w8 _ 6 _ _ _ H5
        have m7 : w8.cell? ⟨g5, 7, none⟩ = some (.int .i64 r5) := cell_of_row w8 _ 7 _ _ _ H5
        have m8 : w8.cell? ⟨g5, 8, none⟩ = some (.int .i64 r6) := cell_of_row w8 _ 8 _ _ _ H5
        have m9 : w8.cell? ⟨g5, 9, none⟩ = some (.int .i64 r7) := cell_of_row w8 _ 9 _ _ _ H5
        have m10 : w8.cell? ⟨g5, 10, none⟩ = some (.slice A5 xs.length c5) := cell_of_row w8 _ 10 _ _ _ H5
        have p0 : w8.cell? ⟨g7, 0, none⟩ = some (.int .i64 op) := cell_of_row w8 _ 0 _ _ _ H7
        have p1 : w8.cell? ⟨g7, 1, none⟩ = some (.int .i64 pc) := cell_of_row w8 _ 1 _ _ _ H7
        have p2 : w8.cell? ⟨g7, 2, none⟩ = some (.int .i64 r0) := cell_of_row w8 _ 2 _ _ _ H7
        have p3 : w8.cell? ⟨g7, 3, none⟩ = some (.int .i64 r1) := cell_of_row w8 _ 3 _ _ _ H7
        have p4 : w8.cell? ⟨g7, 4, none⟩ = some (.int .i64 r2) := cell_of_row w8 _ 4 _ _ _ H7
        have p5 : w8.cell? ⟨g7, 5, none⟩ = some (.int .i64 r3) := cell_of_row w8 _ 5 _ _ _ H7
        have p6 : w8.cell? ⟨g7, 6, none⟩ = some (.int .i64 r4) := cell_of_row w8 _ 6 _ _ _ H7
        have p7 : w8.cell? ⟨g7, 7, none⟩ = some (.int .i64 r5) := cell_of_row w8 _ 7 _ _ _ H7
        have p8 : w8.cell? ⟨g7, 8, none⟩ = some (.int .i64 r6) := cell_of_row w8 _ 8 _ _ _ H7
        have p9 : w8.cell? ⟨g7, 9, none⟩ = some (.int .i64 r7) := cell_of_row w8 _ 9 _ _ _ H7
        have p10 : w8.cell? ⟨g7, 10, none⟩ = some (.slice A7 xs.length c7) := cell_of_row w8 _ 10 _ _ _ H7
        have hq := eql8 r0 r1 r2 r3 r4 r5 r6 r7 r0 r1 r2 r3 r4 r5 r6 r7
        simp only [decide_true] at hq
        go_wp2_with (go_at_call 25; refine (rints_any _ _ _ _ xs xs _ y5 y7 (by have := hxs.out; omega)).mono ?_; rintro e w9 ⟨rfl, hk9⟩)
        go_ret
        exact ⟨ret_bool (by simp [mInts]), bstep hb hk9⟩

set_option maxRecDepth 100000 in
theorem lifted (os : Os) (started : os.Started) (H : Type) (enc : TypeId × Value → H) :
    ReturnsInHanded {} Try.checked os 3 .any (Rows.coreTellsSpec.pre6 enc Try.prog Try.f3 Rows.coreTellsRow.domain false) (Rows.coreTellsSpec.post enc Try.prog Try.f3 false true false false) := by
  refine returnsInHanded_of_change (C := Try.checked) own started (by kernel_rfl) Try.func3
    (ChangeSpec.witness6 (enc := enc) (C := Try.checked) false ⟨#[], #[.agg #[.slice none 0 0, .slice none 0 0, .bool false, .slice none 0 0, .slice none 0 0, .slice none 0 0, .slice none 0 0, .bool false, .slice none 0 0, .slice none 0 0, .int .i64 0, .int .i64 0, .int .i64 0]], []⟩ 8 (by kernel_rfl) (by kernel_rfl) (by kernel_rfl) (by kernel_rfl)) ?_
  intro W base args ds gs before hval0 hW hcnd _
  have hval : ∀ (j : Nat) t v, Try.f3.params[j]? = some t → args[j]? = some v → Value.okWide Try.prog W .any base t v := hval0
  have hW' := hW
  obtain ⟨p, q, hA0, hV, rfl, hfz, hnd⟩ := hW
  have hA : DataW.TrodAll enc Try.prog W 0 (fun _ => true) true Try.f3.params.toList args.toList ds p := hA0
  rw [Try.params3] at hA hval
  obtain ⟨v0, vs0, d0, ds0, p0, q0, hargs, rfl, rfl, h0, r0⟩ := trodAll_cons hA
  obtain ⟨rfl, rfl, rfl⟩ := trodAll_nil r0
  obtain rfl : args = #[v0] := by cases args; simp_all
  obtain ⟨rfl, rfl⟩ := trodVars_none hV
  clear hA0 hval0
  obtain ⟨A0, B0, C0, L0, a0, b0, c0, d0, s0, A1, B1, C1, L1, a1, b1, c1, d1, s1, n1, n2, n3, rfl, ⟨rW, rG, rC, rL, l0, l1, l2, l3⟩, ⟨qW, qG, qC, qL, m0, m1, m2, m3⟩⟩ := open_tells (hval 0 _ v0 rfl rfl) h0
  refine (walk A0 B0 C0 L0 a0 b0 c0 d0 s0 A1 B1 C1 L1 a1 b1 c1 d1 s1 n1 n2 n3 W rW rG rC rL l0 l1 l2 l3 qW qG qC qL m0 m1 m2 m3).mono fun e W' ⟨he, hb⟩ => ?_
  subst he
  exact ⟨_, rfl, law_post (tb := 4) (by kernel_rfl) (by kernel_rfl) (by kernel_rfl) Try.underlying4 rfl hW' rfl hb⟩

theorem over : Rows.coreTellsRow.holds Try.pinned (OpenSpec.ofChange Rows.coreTellsSpec) :=
  OpenClaim.holds_of_wide 3 Try.f3 rfl rfl rfl rfl rfl rfl rfl ⟨rfl, rfl, rfl, rfl, rfl⟩ rfl rfl rfl rfl rfl (by kernel_rfl) Try.func3 (by kernel_rfl)
    (of_decide_eq_true (by kernel_rfl)) (by unfold Func.isWrapper; first | (rw [if_pos (by decide +kernel)]; kernel_rfl) | (rw [if_neg (by decide +kernel)]; exact ⟨rfl, rfl⟩))
    (fun os started H enc _ => lifted os started H enc)
end CoreTells

theorem coreTells_holds : Rows.CoreTellsSaid := CoreTells.over
#print axioms coreTells_holds
end Go.Proofs.Ytpagekhgeahmaaa
