/- For every system, every frame, every two ints and every uint8, the law CoreDoes (a frame that is laid, changed, or taken away, and an event, are as the document says) returns true, and the argument reads afterwards as before. No conditions. -/
import Derived.Test.YtpagekhgeahmaaaRows
import Derived.Test.YtpagekhgeahmaaaUni2
import Derived.Test.YtpagekhgeahmaaaOpen5
import Derived.Test.YtpagekhgeahmaaaCore7
import Derived.Test.YtpagekhgeahmaaaLaw
namespace Go.Proofs.Ytpagekhgeahmaaa
namespace CoreDoes
open Go.ChangeShapes Go.WideShapes Go.ChangeAt Go.RowKit
set_option linter.unusedVariables false
set_option linter.unusedSimpArgs false

theorem own : ownKnob Try.prog.godebug = none := by kernel_rfl

theorem row_of_blk {w : World} {g T : Nat} {xs : List Int} (h : w.heap[g]? = some (.cells (xs.map (Value.int .i64)).toArray T (0, 0))) : Row w (some ⟨g, 0, none⟩) xs := fun _ => by
  refine ⟨g, 0, rfl, (Array.getElem?_eq_some_iff.1 h).1, fun j x hx => ?_⟩
  rw [Nat.zero_add, cell_of_row w g j _ _ _ h]
  simp [hx]

set_option maxRecDepth 100000 in
set_option maxHeartbeats 8000000 in
theorem walk (A0 B0 C0 L0 : Option Addr) (a0 b0 c0 d0 : Nat) (s0 : Sy) (n1 op pc r0 r1 r2 r3 r4 r5 r6 r7 : Int) (A1 : Option Addr) (zs : List Int) (c1 : Nat) (n2 n3 : Int) (w0 : World)
    (rW : Row w0 A0 s0.M.W) (rG : Row w0 B0 s0.M.G) (rC : RowC w0 C0 s0.C) (rL : RowE w0 L0 s0.L) (g0 : s0.M.W.length ≤ maxLen) (g1 : s0.M.G.length ≤ maxLen) (g2 : s0.C.length ≤ maxLen) (g3 : s0.L.length ≤ maxLen) (rZ : Row w0 A1 zs) (g4 : zs.length ≤ maxLen) (u0 : 0 ≤ n3) (u1 : n3 ≤ 255) :
    Calls Try.prog 4 #[.agg #[.slice A0 s0.M.W.length a0, .slice B0 s0.M.G.length b0, .bool s0.M.bad, .slice C0 s0.C.length c0, .slice L0 s0.L.length d0, .int .i64 n1, .int .i64 op, .int .i64 pc, .int .i64 r0, .int .i64 r1, .int .i64 r2, .int .i64 r3, .int .i64 r4, .int .i64 r5, .int .i64 r6, .int .i64 r7, .slice A1 zs.length c1, .int .i64 n2, .int .u8 n3]] w0 fun e w' => e = .returned (.bool true) ∧ Below w0.heap.size w0 w' := by
  have S0 : RS w0 s0 A0 B0 C0 L0 := ⟨rW, rG, rC, rL⟩
  have hb : Below w0.heap.size w0 w0 := Below.refl _ _
  have HMay := hid (show ∀ w, RS w s0 A0 B0 C0 L0 → Calls Try.prog 26 #[.agg #[.slice A0 s0.M.W.length a0, .slice B0 s0.M.G.length b0, .bool s0.M.bad, .slice C0 s0.C.length c0, .slice L0 s0.L.length d0], .int .i64 60] w fun e w' => e = .returned (.bool (syMays s0)) ∧ Below w.heap.size w w' from fun w h => rmay3_any A0 B0 C0 L0 a0 b0 c0 d0 s0 w h.G h.C g1 g0 g2 g3)
  clear rW rG rC rL g0 g1 g2 g3
  go_enter Try.func4, Try.ntmps4
  go_upto_region 1 with (fail)
  have BkX := heap_alloc_new w0 (.cells #[.slice A0 s0.M.W.length a0, .slice B0 s0.M.G.length b0, .bool s0.M.bad, .slice C0 s0.C.length c0, .slice L0 s0.L.length d0, .int .i64 n1, .int .i64 op, .int .i64 pc, .int .i64 r0, .int .i64 r1, .int .i64 r2, .int .i64 r3, .int .i64 r4, .int .i64 r5, .int .i64 r6, .int .i64 r7, .slice A1 zs.length c1, .int .i64 n2, .int .u8 n3] 48)
  have ltX : w0.heap.size < (w0.alloc (.cells #[.slice A0 s0.M.W.length a0, .slice B0 s0.M.G.length b0, .bool s0.M.bad, .slice C0 s0.C.length c0, .slice L0 s0.L.length d0, .int .i64 n1, .int .i64 op, .int .i64 pc, .int .i64 r0, .int .i64 r1, .int .i64 r2, .int .i64 r3, .int .i64 r4, .int .i64 r5, .int .i64 r6, .int .i64 r7, .slice A1 zs.length c1, .int .i64 n2, .int .u8 n3] 48)).heap.size := by simp
  have hk : Below w0.heap.size w0 (w0.alloc (.cells #[.slice A0 s0.M.W.length a0, .slice B0 s0.M.G.length b0, .bool s0.M.bad, .slice C0 s0.C.length c0, .slice L0 s0.L.length d0, .int .i64 n1, .int .i64 op, .int .i64 pc, .int .i64 r0, .int .i64 r1, .int .i64 r2, .int .i64 r3, .int .i64 r4, .int .i64 r5, .int .i64 r6, .int .i64 r7, .slice A1 zs.length c1, .int .i64 n2, .int .u8 n3] 48)) := boxed _ _
  replace S0 := S0.step hk
  replace rZ := rZ.step hk
  replace hb := bstep hb hk
  clear hk
  obtain ⟨vX, hv⟩ : ∃ v, w0.heap.size = v := ⟨_, rfl⟩
  rw [hv] at BkX ltX ⊢
  clear hv
  generalize (w0.alloc (.cells #[.slice A0 s0.M.W.length a0, .slice B0 s0.M.G.length b0, .bool s0.M.bad, .slice C0 s0.C.length c0, .slice L0 s0.L.length d0, .int .i64 n1, .int .i64 op, .int .i64 pc, .int .i64 r0, .int .i64 r1, .int .i64 r2, .int .i64 r3, .int .i64 r4, .int .i64 r5, .int .i64 r6, .int .i64 r7, .slice A1 zs.length c1, .int .i64 n2, .int .u8 n3] 48)) = w1 at *
  have mX_0 : w1.cell? ⟨vX, 0, none⟩ = some (.slice A0 s0.M.W.length a0) := cell_of_row w1 _ 0 _ _ _ BkX
  have mX_1 : w1.cell? ⟨vX, 1, none⟩ = some (.slice B0 s0.M.G.length b0) := cell_of_row w1 _ 1 _ _ _ BkX
  have mX_2 : w1.cell? ⟨vX, 2, none⟩ = some (.bool s0.M.bad) := cell_of_row w1 _ 2 _ _ _ BkX
  have mX_3 : w1.cell? ⟨vX, 3, none⟩ = some (.slice C0 s0.C.length c0) := cell_of_row w1 _ 3 _ _ _ BkX
  have mX_4 : w1.cell? ⟨vX, 4, none⟩ = some (.slice L0 s0.L.length d0) := cell_of_row w1 _ 4 _ _ _ BkX
  have mX_5 : w1.cell? ⟨vX, 5, none⟩ = some (.int .i64 n1) := cell_of_row w1 _ 5 _ _ _ BkX
  have mX_6 : w1.cell? ⟨vX, 6, none⟩ = some (.int .i64 op) := cell_of_row w1 _ 6 _ _ _ BkX
  have mX_7 : w1.cell? ⟨vX, 7, none⟩ = some (.int .i64 pc) := cell_of_row w1 _ 7 _ _ _ BkX
  have mX_8 : w1.cell? ⟨vX, 8, none⟩ = some (.int .i64 r0) := cell_of_row w1 _ 8 _ _ _ BkX
  have mX_9 : w1.cell? ⟨vX, 9, none⟩ = some (.int .i64 r1) := cell_of_row w1 _ 9 _ _ _ BkX
  have mX_10 : w1.cell? ⟨vX, 10, none⟩ = some (.int .i64 r2) := cell_of_row w1 _ 10 _ _ _ BkX
  have mX_11 : w1.cell? ⟨vX, 11, none⟩ = some (.int .i64 r3) := cell_of_row w1 _ 11 _ _ _ BkX
  have mX_12 : w1.cell? ⟨vX, 12, none⟩ = some (.int .i64 r4) := cell_of_row w1 _ 12 _ _ _ BkX
  have mX_13 : w1.cell? ⟨vX, 13, none⟩ = some (.int .i64 r5) := cell_of_row w1 _ 13 _ _ _ BkX
  have mX_14 : w1.cell? ⟨vX, 14, none⟩ = some (.int .i64 r6) := cell_of_row w1 _ 14 _ _ _ BkX
  have mX_15 : w1.cell? ⟨vX, 15, none⟩ = some (.int .i64 r7) := cell_of_row w1 _ 15 _ _ _ BkX
  have mX_16 : w1.cell? ⟨vX, 16, none⟩ = some (.slice A1 zs.length c1) := cell_of_row w1 _ 16 _ _ _ BkX
  have mX_17 : w1.cell? ⟨vX, 17, none⟩ = some (.int .i64 n2) := cell_of_row w1 _ 17 _ _ _ BkX
  have mX_18 : w1.cell? ⟨vX, 18, none⟩ = some (.int .u8 n3) := cell_of_row w1 _ 18 _ _ _ BkX
  go_upto_region 2 with (fail)
  clear mX_0 mX_1 mX_2 mX_3 mX_4 mX_5 mX_6 mX_7 mX_8 mX_9 mX_10 mX_11 mX_12 mX_13 mX_14 mX_15 mX_16 mX_17 mX_18
  have Bk0 := heap_alloc_new w1 (.cells #[.slice A0 s0.M.W.length a0, .slice B0 s0.M.G.length b0, .bool s0.M.bad, .slice C0 s0.C.length c0, .slice L0 s0.L.length d0] 28)
  have lt0 : w1.heap.size < (w1.alloc (.cells #[.slice A0 s0.M.W.length a0, .slice B0 s0.M.G.length b0, .bool s0.M.bad, .slice C0 s0.C.length c0, .slice L0 s0.L.length d0] 28)).heap.size := by simp
  have hk : Below w1.heap.size w1 (w1.alloc (.cells #[.slice A0 s0.M.W.length a0, .slice B0 s0.M.G.length b0, .bool s0.M.bad, .slice C0 s0.C.length c0, .slice L0 s0.L.length d0] 28)) := boxed _ _
  replace BkX := (hk.block vX ltX).trans BkX
  replace ltX := Nat.lt_of_lt_of_le ltX hk.size
  replace S0 := S0.step hk
  replace rZ := rZ.step hk
  replace hb := bstep hb hk
  clear hk
  obtain ⟨v0, hv⟩ : ∃ v, w1.heap.size = v := ⟨_, rfl⟩
  rw [hv] at Bk0 lt0 ⊢
  clear hv
  generalize (w1.alloc (.cells #[.slice A0 s0.M.W.length a0, .slice B0 s0.M.G.length b0, .bool s0.M.bad, .slice C0 s0.C.length c0, .slice L0 s0.L.length d0] 28)) = w2 at *
  have mX_0 : w2.cell? ⟨vX, 0, none⟩ = some (.slice A0 s0.M.W.length a0) := cell_of_row w2 _ 0 _ _ _ BkX
  have mX_1 : w2.cell? ⟨vX, 1, none⟩ = some (.slice B0 s0.M.G.length b0) := cell_of_row w2 _ 1 _ _ _ BkX
  have mX_2 : w2.cell? ⟨vX, 2, none⟩ = some (.bool s0.M.bad) := cell_of_row w2 _ 2 _ _ _ BkX
  have mX_3 : w2.cell? ⟨vX, 3, none⟩ = some (.slice C0 s0.C.length c0) := cell_of_row w2 _ 3 _ _ _ BkX
  have mX_4 : w2.cell? ⟨vX, 4, none⟩ = some (.slice L0 s0.L.length d0) := cell_of_row w2 _ 4 _ _ _ BkX
  have mX_5 : w2.cell? ⟨vX, 5, none⟩ = some (.int .i64 n1) := cell_of_row w2 _ 5 _ _ _ BkX
  have mX_6 : w2.cell? ⟨vX, 6, none⟩ = some (.int .i64 op) := cell_of_row w2 _ 6 _ _ _ BkX
  have mX_7 : w2.cell? ⟨vX, 7, none⟩ = some (.int .i64 pc) := cell_of_row w2 _ 7 _ _ _ BkX
  have mX_8 : w2.cell? ⟨vX, 8, none⟩ = some (.int .i64 r0) := cell_of_row w2 _ 8 _ _ _ BkX
  have mX_9 : w2.cell? ⟨vX, 9, none⟩ = some (.int .i64 r1) := cell_of_row w2 _ 9 _ _ _ BkX
  have mX_10 : w2.cell? ⟨vX, 10, none⟩ = some (.int .i64 r2) := cell_of_row w2 _ 10 _ _ _ BkX
  have mX_11 : w2.cell? ⟨vX, 11, none⟩ = some (.int .i64 r3) := cell_of_row w2 _ 11 _ _ _ BkX
  have mX_12 : w2.cell? ⟨vX, 12, none⟩ = some (.int .i64 r4) := cell_of_row w2 _ 12 _ _ _ BkX
  have mX_13 : w2.cell? ⟨vX, 13, none⟩ = some (.int .i64 r5) := cell_of_row w2 _ 13 _ _ _ BkX
  have mX_14 : w2.cell? ⟨vX, 14, none⟩ = some (.int .i64 r6) := cell_of_row w2 _ 14 _ _ _ BkX
  have mX_15 : w2.cell? ⟨vX, 15, none⟩ = some (.int .i64 r7) := cell_of_row w2 _ 15 _ _ _ BkX
  have mX_16 : w2.cell? ⟨vX, 16, none⟩ = some (.slice A1 zs.length c1) := cell_of_row w2 _ 16 _ _ _ BkX
  have mX_17 : w2.cell? ⟨vX, 17, none⟩ = some (.int .i64 n2) := cell_of_row w2 _ 17 _ _ _ BkX
  have mX_18 : w2.cell? ⟨vX, 18, none⟩ = some (.int .u8 n3) := cell_of_row w2 _ 18 _ _ _ BkX
  go_upto_region 4 with (fail)
  clear mX_0 mX_1 mX_2 mX_3 mX_4 mX_5 mX_6 mX_7 mX_8 mX_9 mX_10 mX_11 mX_12 mX_13 mX_14 mX_15 mX_16 mX_17 mX_18
  have Bk1 := heap_alloc_new w2 (.cells #[.int .i64 op, .int .i64 pc, .int .i64 r0, .int .i64 r1, .int .i64 r2, .int .i64 r3, .int .i64 r4, .int .i64 r5, .int .i64 r6, .int .i64 r7, .slice A1 zs.length c1] 42)
  have lt1 : w2.heap.size < (w2.alloc (.cells #[.int .i64 op, .int .i64 pc, .int .i64 r0, .int .i64 r1, .int .i64 r2, .int .i64 r3, .int .i64 r4, .int .i64 r5, .int .i64 r6, .int .i64 r7, .slice A1 zs.length c1] 42)).heap.size := by simp
  have hk : Below w2.heap.size w2 (w2.alloc (.cells #[.int .i64 op, .int .i64 pc, .int .i64 r0, .int .i64 r1, .int .i64 r2, .int .i64 r3, .int .i64 r4, .int .i64 r5, .int .i64 r6, .int .i64 r7, .slice A1 zs.length c1] 42)) := boxed _ _
  replace BkX := (hk.block vX ltX).trans BkX
  replace ltX := Nat.lt_of_lt_of_le ltX hk.size
  replace Bk0 := (hk.block v0 lt0).trans Bk0
  replace lt0 := Nat.lt_of_lt_of_le lt0 hk.size
  replace S0 := S0.step hk
  replace rZ := rZ.step hk
  replace hb := bstep hb hk
  clear hk
  obtain ⟨v1, hv⟩ : ∃ v, w2.heap.size = v := ⟨_, rfl⟩
  rw [hv] at Bk1 lt1 ⊢
  clear hv
  generalize (w2.alloc (.cells #[.int .i64 op, .int .i64 pc, .int .i64 r0, .int .i64 r1, .int .i64 r2, .int .i64 r3, .int .i64 r4, .int .i64 r5, .int .i64 r6, .int .i64 r7, .slice A1 zs.length c1] 42)) = w3 at *
  have mX_0 : w3.cell? ⟨vX, 0, none⟩ = some (.slice A0 s0.M.W.length a0) := cell_of_row w3 _ 0 _ _ _ BkX
  have mX_1 : w3.cell? ⟨vX, 1, none⟩ = some (.slice B0 s0.M.G.length b0) := cell_of_row w3 _ 1 _ _ _ BkX
  have mX_2 : w3.cell? ⟨vX, 2, none⟩ = some (.bool s0.M.bad) := cell_of_row w3 _ 2 _ _ _ BkX
  have mX_3 : w3.cell? ⟨vX, 3, none⟩ = some (.slice C0 s0.C.length c0) := cell_of_row w3 _ 3 _ _ _ BkX
  have mX_4 : w3.cell? ⟨vX, 4, none⟩ = some (.slice L0 s0.L.length d0) := cell_of_row w3 _ 4 _ _ _ BkX
  have mX_5 : w3.cell? ⟨vX, 5, none⟩ = some (.int .i64 n1) := cell_of_row w3 _ 5 _ _ _ BkX
  have mX_6 : w3.cell? ⟨vX, 6, none⟩ = some (.int .i64 op) := cell_of_row w3 _ 6 _ _ _ BkX
  have mX_7 : w3.cell? ⟨vX, 7, none⟩ = some (.int .i64 pc) := cell_of_row w3 _ 7 _ _ _ BkX
  have mX_8 : w3.cell? ⟨vX, 8, none⟩ = some (.int .i64 r0) := cell_of_row w3 _ 8 _ _ _ BkX
  have mX_9 : w3.cell? ⟨vX, 9, none⟩ = some (.int .i64 r1) := cell_of_row w3 _ 9 _ _ _ BkX
  have mX_10 : w3.cell? ⟨vX, 10, none⟩ = some (.int .i64 r2) := cell_of_row w3 _ 10 _ _ _ BkX
  have mX_11 : w3.cell? ⟨vX, 11, none⟩ = some (.int .i64 r3) := cell_of_row w3 _ 11 _ _ _ BkX
  have mX_12 : w3.cell? ⟨vX, 12, none⟩ = some (.int .i64 r4) := cell_of_row w3 _ 12 _ _ _ BkX
  have mX_13 : w3.cell? ⟨vX, 13, none⟩ = some (.int .i64 r5) := cell_of_row w3 _ 13 _ _ _ BkX
  have mX_14 : w3.cell? ⟨vX, 14, none⟩ = some (.int .i64 r6) := cell_of_row w3 _ 14 _ _ _ BkX
  have mX_15 : w3.cell? ⟨vX, 15, none⟩ = some (.int .i64 r7) := cell_of_row w3 _ 15 _ _ _ BkX
  have mX_16 : w3.cell? ⟨vX, 16, none⟩ = some (.slice A1 zs.length c1) := cell_of_row w3 _ 16 _ _ _ BkX
  have mX_17 : w3.cell? ⟨vX, 17, none⟩ = some (.int .i64 n2) := cell_of_row w3 _ 17 _ _ _ BkX
  have mX_18 : w3.cell? ⟨vX, 18, none⟩ = some (.int .u8 n3) := cell_of_row w3 _ 18 _ _ _ BkX
  go_upto_region 6 with (fail)
  clear mX_0 mX_1 mX_2 mX_3 mX_4 mX_5 mX_6 mX_7 mX_8 mX_9 mX_10 mX_11 mX_12 mX_13 mX_14 mX_15 mX_16 mX_17 mX_18
  clear BkX ltX
  go_wp2_with fail
  refine (shown3_any _).mono ?_
  rintro e w4 ⟨rfl, hk⟩
  replace Bk0 := (hk.block v0 lt0).trans Bk0
  replace lt0 := Nat.lt_of_lt_of_le lt0 hk.size
  replace Bk1 := (hk.block v1 lt1).trans Bk1
  replace lt1 := Nat.lt_of_lt_of_le lt1 hk.size
  replace S0 := S0.step hk
  replace rZ := rZ.step hk
  replace hb := bstep hb hk
  clear hk
  go_upto_region 7 with (fail)
  have m0_0 : w4.cell? ⟨v0, 0, none⟩ = some (.slice A0 s0.M.W.length a0) := cell_of_row w4 _ 0 _ _ _ Bk0
  have m0_1 : w4.cell? ⟨v0, 1, none⟩ = some (.slice B0 s0.M.G.length b0) := cell_of_row w4 _ 1 _ _ _ Bk0
  have m0_2 : w4.cell? ⟨v0, 2, none⟩ = some (.bool s0.M.bad) := cell_of_row w4 _ 2 _ _ _ Bk0
  have m0_3 : w4.cell? ⟨v0, 3, none⟩ = some (.slice C0 s0.C.length c0) := cell_of_row w4 _ 3 _ _ _ Bk0
  have m0_4 : w4.cell? ⟨v0, 4, none⟩ = some (.slice L0 s0.L.length d0) := cell_of_row w4 _ 4 _ _ _ Bk0
  have m1_0 : w4.cell? ⟨v1, 0, none⟩ = some (.int .i64 op) := cell_of_row w4 _ 0 _ _ _ Bk1
  have m1_1 : w4.cell? ⟨v1, 1, none⟩ = some (.int .i64 pc) := cell_of_row w4 _ 1 _ _ _ Bk1
  have m1_2 : w4.cell? ⟨v1, 2, none⟩ = some (.int .i64 r0) := cell_of_row w4 _ 2 _ _ _ Bk1
  have m1_3 : w4.cell? ⟨v1, 3, none⟩ = some (.int .i64 r1) := cell_of_row w4 _ 3 _ _ _ Bk1
  have m1_4 : w4.cell? ⟨v1, 4, none⟩ = some (.int .i64 r2) := cell_of_row w4 _ 4 _ _ _ Bk1
  have m1_5 : w4.cell? ⟨v1, 5, none⟩ = some (.int .i64 r3) := cell_of_row w4 _ 5 _ _ _ Bk1
  have m1_6 : w4.cell? ⟨v1, 6, none⟩ = some (.int .i64 r4) := cell_of_row w4 _ 6 _ _ _ Bk1
  have m1_7 : w4.cell? ⟨v1, 7, none⟩ = some (.int .i64 r5) := cell_of_row w4 _ 7 _ _ _ Bk1
  have m1_8 : w4.cell? ⟨v1, 8, none⟩ = some (.int .i64 r6) := cell_of_row w4 _ 8 _ _ _ Bk1
  have m1_9 : w4.cell? ⟨v1, 9, none⟩ = some (.int .i64 r7) := cell_of_row w4 _ 9 _ _ _ Bk1
  have m1_10 : w4.cell? ⟨v1, 10, none⟩ = some (.slice A1 zs.length c1) := cell_of_row w4 _ 10 _ _ _ Bk1
  rcases q0 : syMays s0 with _ | _
  · have HC := HMay.out
    rw [q0] at HC
    replace HC := hid HC
    go_wp2_with (go_at_call 26; refine (HC.out _ S0).mono ?_; rintro e wm ⟨rfl, hk⟩)
    go_ret
    exact ⟨rfl, bstep hb hk⟩
  · have HC := HMay.out
    rw [q0] at HC
    replace HC := hid HC
    clear HMay
    have hmay : sySmall s0 = true ∧ syRight s0 = true := by simpa [syMays] using q0
    have hf := few_of_small hmay.1
    have hsm := sySmall_few hmay.1
    clear hmay q0
    by_cases q1 : 24 < zs.length
    · go_wp2_with (go_at_call 26; refine (HC.out _ S0).mono ?_; rintro e wm ⟨rfl, hk⟩; have B1x := (hk.block v1 lt1).trans Bk1; have z1_0 : wm.cell? ⟨v1, 0, none⟩ = some (.int .i64 op) := cell_of_row wm _ 0 _ _ _ B1x; have z1_1 : wm.cell? ⟨v1, 1, none⟩ = some (.int .i64 pc) := cell_of_row wm _ 1 _ _ _ B1x; have z1_2 : wm.cell? ⟨v1, 2, none⟩ = some (.int .i64 r0) := cell_of_row wm _ 2 _ _ _ B1x; have z1_3 : wm.cell? ⟨v1, 3, none⟩ = some (.int .i64 r1) := cell_of_row wm _ 3 _ _ _ B1x; have z1_4 : wm.cell? ⟨v1, 4, none⟩ = some (.int .i64 r2) := cell_of_row wm _ 4 _ _ _ B1x; have z1_5 : wm.cell? ⟨v1, 5, none⟩ = some (.int .i64 r3) := cell_of_row wm _ 5 _ _ _ B1x; have z1_6 : wm.cell? ⟨v1, 6, none⟩ = some (.int .i64 r4) := cell_of_row wm _ 6 _ _ _ B1x; have z1_7 : wm.cell? ⟨v1, 7, none⟩ = some (.int .i64 r5) := cell_of_row wm _ 7 _ _ _ B1x; have z1_8 : wm.cell? ⟨v1, 8, none⟩ = some (.int .i64 r6) := cell_of_row wm _ 8 _ _ _ B1x; have z1_9 : wm.cell? ⟨v1, 9, none⟩ = some (.int .i64 r7) := cell_of_row wm _ 9 _ _ _ B1x; have z1_10 : wm.cell? ⟨v1, 10, none⟩ = some (.slice A1 zs.length c1) := cell_of_row wm _ 10 _ _ _ B1x)
      go_ret
      exact ⟨rfl, bstep hb hk⟩
    · have HQ := hid q1
      have q2 : zs.length ≤ 24 := by omega
      go_upto_region 9 with (go_at_call 26; refine (HC.out _ S0).mono ?_; rintro e w5 ⟨rfl, hk⟩; have B1x := (hk.block v1 lt1).trans Bk1; have z1_0 : w5.cell? ⟨v1, 0, none⟩ = some (.int .i64 op) := cell_of_row w5 _ 0 _ _ _ B1x; have z1_1 : w5.cell? ⟨v1, 1, none⟩ = some (.int .i64 pc) := cell_of_row w5 _ 1 _ _ _ B1x; have z1_2 : w5.cell? ⟨v1, 2, none⟩ = some (.int .i64 r0) := cell_of_row w5 _ 2 _ _ _ B1x; have z1_3 : w5.cell? ⟨v1, 3, none⟩ = some (.int .i64 r1) := cell_of_row w5 _ 3 _ _ _ B1x; have z1_4 : w5.cell? ⟨v1, 4, none⟩ = some (.int .i64 r2) := cell_of_row w5 _ 4 _ _ _ B1x; have z1_5 : w5.cell? ⟨v1, 5, none⟩ = some (.int .i64 r3) := cell_of_row w5 _ 5 _ _ _ B1x; have z1_6 : w5.cell? ⟨v1, 6, none⟩ = some (.int .i64 r4) := cell_of_row w5 _ 6 _ _ _ B1x; have z1_7 : w5.cell? ⟨v1, 7, none⟩ = some (.int .i64 r5) := cell_of_row w5 _ 7 _ _ _ B1x; have z1_8 : w5.cell? ⟨v1, 8, none⟩ = some (.int .i64 r6) := cell_of_row w5 _ 8 _ _ _ B1x; have z1_9 : w5.cell? ⟨v1, 9, none⟩ = some (.int .i64 r7) := cell_of_row w5 _ 9 _ _ _ B1x; have z1_10 : w5.cell? ⟨v1, 10, none⟩ = some (.slice A1 zs.length c1) := cell_of_row w5 _ 10 _ _ _ B1x)
      clear B1x z1_0 z1_1 z1_2 z1_3 z1_4 z1_5 z1_6 z1_7 z1_8 z1_9 z1_10
      clear m0_0 m0_1 m0_2 m0_3 m0_4 m1_0 m1_1 m1_2 m1_3 m1_4 m1_5 m1_6 m1_7 m1_8 m1_9 m1_10
      replace Bk0 := (hk.block v0 lt0).trans Bk0
      replace lt0 := Nat.lt_of_lt_of_le lt0 hk.size
      replace Bk1 := (hk.block v1 lt1).trans Bk1
      replace lt1 := Nat.lt_of_lt_of_le lt1 hk.size
      replace S0 := S0.step hk
      replace rZ := rZ.step hk
      replace hb := bstep hb hk
      clear hk
      clear HC HQ
      have HF := hid hf
      have HSM := hid hsm
      clear hf hsm
      obtain ⟨t2, ht2⟩ : ∃ t, t = pCall s0 n1 ⟨op, 0, [r0, r1, r2, 0, 0, 0, 0, 0], []⟩ := ⟨_, rfl⟩
      have Q2 := hid (show SyFew t2 from by rw [ht2]; exact few_call HF.out (by simp) n1)
      replace ht2 := hid ht2
      obtain ⟨t3, ht3⟩ : ∃ t, t = pSet s0 n1 ⟨op, pc, [r0, r1, r2, r3, r4, r5, r6, r7], zs⟩ := ⟨_, rfl⟩
      have Q3 := hid (show SyFew t3 from by rw [ht3]; exact few_set HF.out (by simp; omega) n1)
      replace ht3 := hid ht3
      obtain ⟨t4, ht4⟩ : ∃ t, t = pBack s0 n1 n2 n3 := ⟨_, rfl⟩
      have Q4 := hid (show SyFew t4 from by rw [ht4]; exact few_back HF.out n1 n2 n3)
      replace ht4 := hid ht4
      obtain ⟨t5, ht5⟩ : ∃ t, t = pLog s0 n1 op r0 r1 n2 := ⟨_, rfl⟩
      have Q5 := hid (show SyFew t5 from by rw [ht5]; exact few_log HF.out (by have := HSM.out; omega) n1 op r0 r1 n2)
      replace ht5 := hid ht5
      have m0_0 : w5.cell? ⟨v0, 0, none⟩ = some (.slice A0 s0.M.W.length a0) := cell_of_row w5 _ 0 _ _ _ Bk0
      have m0_1 : w5.cell? ⟨v0, 1, none⟩ = some (.slice B0 s0.M.G.length b0) := cell_of_row w5 _ 1 _ _ _ Bk0
      have m0_2 : w5.cell? ⟨v0, 2, none⟩ = some (.bool s0.M.bad) := cell_of_row w5 _ 2 _ _ _ Bk0
      have m0_3 : w5.cell? ⟨v0, 3, none⟩ = some (.slice C0 s0.C.length c0) := cell_of_row w5 _ 3 _ _ _ Bk0
      have m0_4 : w5.cell? ⟨v0, 4, none⟩ = some (.slice L0 s0.L.length d0) := cell_of_row w5 _ 4 _ _ _ Bk0
      have m1_0 : w5.cell? ⟨v1, 0, none⟩ = some (.int .i64 op) := cell_of_row w5 _ 0 _ _ _ Bk1
      have m1_1 : w5.cell? ⟨v1, 1, none⟩ = some (.int .i64 pc) := cell_of_row w5 _ 1 _ _ _ Bk1
      have m1_2 : w5.cell? ⟨v1, 2, none⟩ = some (.int .i64 r0) := cell_of_row w5 _ 2 _ _ _ Bk1
      have m1_3 : w5.cell? ⟨v1, 3, none⟩ = some (.int .i64 r1) := cell_of_row w5 _ 3 _ _ _ Bk1
      have m1_4 : w5.cell? ⟨v1, 4, none⟩ = some (.int .i64 r2) := cell_of_row w5 _ 4 _ _ _ Bk1
      have m1_5 : w5.cell? ⟨v1, 5, none⟩ = some (.int .i64 r3) := cell_of_row w5 _ 5 _ _ _ Bk1
      have m1_6 : w5.cell? ⟨v1, 6, none⟩ = some (.int .i64 r4) := cell_of_row w5 _ 6 _ _ _ Bk1
      have m1_7 : w5.cell? ⟨v1, 7, none⟩ = some (.int .i64 r5) := cell_of_row w5 _ 7 _ _ _ Bk1
      have m1_8 : w5.cell? ⟨v1, 8, none⟩ = some (.int .i64 r6) := cell_of_row w5 _ 8 _ _ _ Bk1
      have m1_9 : w5.cell? ⟨v1, 9, none⟩ = some (.int .i64 r7) := cell_of_row w5 _ 9 _ _ _ Bk1
      have m1_10 : w5.cell? ⟨v1, 10, none⟩ = some (.slice A1 zs.length c1) := cell_of_row w5 _ 10 _ _ _ Bk1
      go_wp2_with fail
      clear m0_0 m0_1 m0_2 m0_3 m0_4 m1_0 m1_1 m1_2 m1_3 m1_4 m1_5 m1_6 m1_7 m1_8 m1_9 m1_10
      have h := call_u A0 B0 C0 L0 a0 b0 c0 d0 s0 n1 op [r0, r1, r2] (some ⟨w5.heap.size, 0, none⟩) 3 r0 r1 r2 0 0 0 0 0 rfl (by simp) (w5.alloc (.cells #[.int .i64 r0, .int .i64 r1, .int .i64 r2] 3)) HF.out (S0.step (boxed _ _)) (row_of_blk (heap_alloc_new w5 _))
      rw [← ht2.out] at h
      refine h.mono ?_
      clear h
      rintro e w6 ⟨A2, B2, C2, L2, a2, b2, c2, d2, rfl, rW, rG, rC, rL, hk⟩
      replace hk : Below w5.heap.size w5 w6 := bstep (boxed _ _) hk
      replace Bk0 := (hk.block v0 lt0).trans Bk0
      replace lt0 := Nat.lt_of_lt_of_le lt0 hk.size
      replace Bk1 := (hk.block v1 lt1).trans Bk1
      replace lt1 := Nat.lt_of_lt_of_le lt1 hk.size
      replace S0 := S0.step hk
      replace rZ := rZ.step hk
      replace hb := bstep hb hk
      clear hk
      have S2 : RS w6 t2 A2 B2 C2 L2 := ⟨rW, rG, rC, rL⟩
      clear rW rG rC rL
      go_upto_region 10 with (fail)
      have Bk2 := heap_alloc_new w6 (.cells #[.slice A2 t2.M.W.length a2, .slice B2 t2.M.G.length b2, .bool t2.M.bad, .slice C2 t2.C.length c2, .slice L2 t2.L.length d2] 28)
      have lt2 : w6.heap.size < (w6.alloc (.cells #[.slice A2 t2.M.W.length a2, .slice B2 t2.M.G.length b2, .bool t2.M.bad, .slice C2 t2.C.length c2, .slice L2 t2.L.length d2] 28)).heap.size := by simp
      have hk : Below w6.heap.size w6 (w6.alloc (.cells #[.slice A2 t2.M.W.length a2, .slice B2 t2.M.G.length b2, .bool t2.M.bad, .slice C2 t2.C.length c2, .slice L2 t2.L.length d2] 28)) := boxed _ _
      replace Bk0 := (hk.block v0 lt0).trans Bk0
      replace lt0 := Nat.lt_of_lt_of_le lt0 hk.size
      replace Bk1 := (hk.block v1 lt1).trans Bk1
      replace lt1 := Nat.lt_of_lt_of_le lt1 hk.size
      replace S0 := S0.step hk
      replace rZ := rZ.step hk
      replace S2 := S2.step hk
      replace hb := bstep hb hk
      clear hk
      obtain ⟨v2, hv⟩ : ∃ v, w6.heap.size = v := ⟨_, rfl⟩
      rw [hv] at Bk2 lt2 ⊢
      clear hv
      generalize (w6.alloc (.cells #[.slice A2 t2.M.W.length a2, .slice B2 t2.M.G.length b2, .bool t2.M.bad, .slice C2 t2.C.length c2, .slice L2 t2.L.length d2] 28)) = w7 at *
      have m0_0 : w7.cell? ⟨v0, 0, none⟩ = some (.slice A0 s0.M.W.length a0) := cell_of_row w7 _ 0 _ _ _ Bk0
      have m0_1 : w7.cell? ⟨v0, 1, none⟩ = some (.slice B0 s0.M.G.length b0) := cell_of_row w7 _ 1 _ _ _ Bk0
      have m0_2 : w7.cell? ⟨v0, 2, none⟩ = some (.bool s0.M.bad) := cell_of_row w7 _ 2 _ _ _ Bk0
      have m0_3 : w7.cell? ⟨v0, 3, none⟩ = some (.slice C0 s0.C.length c0) := cell_of_row w7 _ 3 _ _ _ Bk0
      have m0_4 : w7.cell? ⟨v0, 4, none⟩ = some (.slice L0 s0.L.length d0) := cell_of_row w7 _ 4 _ _ _ Bk0
      have m1_0 : w7.cell? ⟨v1, 0, none⟩ = some (.int .i64 op) := cell_of_row w7 _ 0 _ _ _ Bk1
      have m1_1 : w7.cell? ⟨v1, 1, none⟩ = some (.int .i64 pc) := cell_of_row w7 _ 1 _ _ _ Bk1
      have m1_2 : w7.cell? ⟨v1, 2, none⟩ = some (.int .i64 r0) := cell_of_row w7 _ 2 _ _ _ Bk1
      have m1_3 : w7.cell? ⟨v1, 3, none⟩ = some (.int .i64 r1) := cell_of_row w7 _ 3 _ _ _ Bk1
      have m1_4 : w7.cell? ⟨v1, 4, none⟩ = some (.int .i64 r2) := cell_of_row w7 _ 4 _ _ _ Bk1
      have m1_5 : w7.cell? ⟨v1, 5, none⟩ = some (.int .i64 r3) := cell_of_row w7 _ 5 _ _ _ Bk1
      have m1_6 : w7.cell? ⟨v1, 6, none⟩ = some (.int .i64 r4) := cell_of_row w7 _ 6 _ _ _ Bk1
      have m1_7 : w7.cell? ⟨v1, 7, none⟩ = some (.int .i64 r5) := cell_of_row w7 _ 7 _ _ _ Bk1
      have m1_8 : w7.cell? ⟨v1, 8, none⟩ = some (.int .i64 r6) := cell_of_row w7 _ 8 _ _ _ Bk1
      have m1_9 : w7.cell? ⟨v1, 9, none⟩ = some (.int .i64 r7) := cell_of_row w7 _ 9 _ _ _ Bk1
      have m1_10 : w7.cell? ⟨v1, 10, none⟩ = some (.slice A1 zs.length c1) := cell_of_row w7 _ 10 _ _ _ Bk1
      go_wp2_with fail
      clear m0_0 m0_1 m0_2 m0_3 m0_4 m1_0 m1_1 m1_2 m1_3 m1_4 m1_5 m1_6 m1_7 m1_8 m1_9 m1_10
      have h := set_u A0 B0 C0 L0 a0 b0 c0 d0 s0 n1 A1 c1 op pc r0 r1 r2 r3 r4 r5 r6 r7 zs w7 HF.out S0 rZ (by omega)
      rw [← ht3.out] at h
      refine h.mono ?_
      clear h
      rintro e w8 ⟨A3, B3, C3, L3, a3, b3, c3, d3, rfl, rW, rG, rC, rL, hk⟩
      replace Bk0 := (hk.block v0 lt0).trans Bk0
      replace lt0 := Nat.lt_of_lt_of_le lt0 hk.size
      replace Bk1 := (hk.block v1 lt1).trans Bk1
      replace lt1 := Nat.lt_of_lt_of_le lt1 hk.size
      replace Bk2 := (hk.block v2 lt2).trans Bk2
      replace lt2 := Nat.lt_of_lt_of_le lt2 hk.size
      replace S0 := S0.step hk
      replace rZ := rZ.step hk
      replace S2 := S2.step hk
      replace hb := bstep hb hk
      clear hk
      have S3 : RS w8 t3 A3 B3 C3 L3 := ⟨rW, rG, rC, rL⟩
      clear rW rG rC rL
      go_upto_region 11 with (fail)
      have Bk3 := heap_alloc_new w8 (.cells #[.slice A3 t3.M.W.length a3, .slice B3 t3.M.G.length b3, .bool t3.M.bad, .slice C3 t3.C.length c3, .slice L3 t3.L.length d3] 28)
      have lt3 : w8.heap.size < (w8.alloc (.cells #[.slice A3 t3.M.W.length a3, .slice B3 t3.M.G.length b3, .bool t3.M.bad, .slice C3 t3.C.length c3, .slice L3 t3.L.length d3] 28)).heap.size := by simp
      have hk : Below w8.heap.size w8 (w8.alloc (.cells #[.slice A3 t3.M.W.length a3, .slice B3 t3.M.G.length b3, .bool t3.M.bad, .slice C3 t3.C.length c3, .slice L3 t3.L.length d3] 28)) := boxed _ _
      replace Bk0 := (hk.block v0 lt0).trans Bk0
      replace lt0 := Nat.lt_of_lt_of_le lt0 hk.size
      replace Bk1 := (hk.block v1 lt1).trans Bk1
      replace lt1 := Nat.lt_of_lt_of_le lt1 hk.size
      replace Bk2 := (hk.block v2 lt2).trans Bk2
      replace lt2 := Nat.lt_of_lt_of_le lt2 hk.size
      replace S0 := S0.step hk
      replace rZ := rZ.step hk
      replace S2 := S2.step hk
      replace S3 := S3.step hk
      replace hb := bstep hb hk
      clear hk
      obtain ⟨v3, hv⟩ : ∃ v, w8.heap.size = v := ⟨_, rfl⟩
      rw [hv] at Bk3 lt3 ⊢
      clear hv
      generalize (w8.alloc (.cells #[.slice A3 t3.M.W.length a3, .slice B3 t3.M.G.length b3, .bool t3.M.bad, .slice C3 t3.C.length c3, .slice L3 t3.L.length d3] 28)) = w9 at *
      have m0_0 : w9.cell? ⟨v0, 0, none⟩ = some (.slice A0 s0.M.W.length a0) := cell_of_row w9 _ 0 _ _ _ Bk0
      have m0_1 : w9.cell? ⟨v0, 1, none⟩ = some (.slice B0 s0.M.G.length b0) := cell_of_row w9 _ 1 _ _ _ Bk0
      have m0_2 : w9.cell? ⟨v0, 2, none⟩ = some (.bool s0.M.bad) := cell_of_row w9 _ 2 _ _ _ Bk0
      have m0_3 : w9.cell? ⟨v0, 3, none⟩ = some (.slice C0 s0.C.length c0) := cell_of_row w9 _ 3 _ _ _ Bk0
      have m0_4 : w9.cell? ⟨v0, 4, none⟩ = some (.slice L0 s0.L.length d0) := cell_of_row w9 _ 4 _ _ _ Bk0
      go_wp2_with fail
      clear m0_0 m0_1 m0_2 m0_3 m0_4
      have h := back_u A0 B0 C0 L0 a0 b0 c0 d0 s0 n1 n2 n3 w9 HF.out S0
      rw [← ht4.out] at h
      refine h.mono ?_
      clear h
      rintro e w10 ⟨A4, B4, C4, L4, a4, b4, c4, d4, rfl, rW, rG, rC, rL, hk⟩
      replace Bk0 := (hk.block v0 lt0).trans Bk0
      replace lt0 := Nat.lt_of_lt_of_le lt0 hk.size
      replace Bk1 := (hk.block v1 lt1).trans Bk1
      replace lt1 := Nat.lt_of_lt_of_le lt1 hk.size
      replace Bk2 := (hk.block v2 lt2).trans Bk2
      replace lt2 := Nat.lt_of_lt_of_le lt2 hk.size
      replace Bk3 := (hk.block v3 lt3).trans Bk3
      replace lt3 := Nat.lt_of_lt_of_le lt3 hk.size
      replace S0 := S0.step hk
      replace rZ := rZ.step hk
      replace S2 := S2.step hk
      replace S3 := S3.step hk
      replace hb := bstep hb hk
      clear hk
      have S4 : RS w10 t4 A4 B4 C4 L4 := ⟨rW, rG, rC, rL⟩
      clear rW rG rC rL
      go_upto_region 12 with (fail)
      have Bk4 := heap_alloc_new w10 (.cells #[.slice A4 t4.M.W.length a4, .slice B4 t4.M.G.length b4, .bool t4.M.bad, .slice C4 t4.C.length c4, .slice L4 t4.L.length d4] 28)
      have lt4 : w10.heap.size < (w10.alloc (.cells #[.slice A4 t4.M.W.length a4, .slice B4 t4.M.G.length b4, .bool t4.M.bad, .slice C4 t4.C.length c4, .slice L4 t4.L.length d4] 28)).heap.size := by simp
      have hk : Below w10.heap.size w10 (w10.alloc (.cells #[.slice A4 t4.M.W.length a4, .slice B4 t4.M.G.length b4, .bool t4.M.bad, .slice C4 t4.C.length c4, .slice L4 t4.L.length d4] 28)) := boxed _ _
      replace Bk0 := (hk.block v0 lt0).trans Bk0
      replace lt0 := Nat.lt_of_lt_of_le lt0 hk.size
      replace Bk1 := (hk.block v1 lt1).trans Bk1
      replace lt1 := Nat.lt_of_lt_of_le lt1 hk.size
      replace Bk2 := (hk.block v2 lt2).trans Bk2
      replace lt2 := Nat.lt_of_lt_of_le lt2 hk.size
      replace Bk3 := (hk.block v3 lt3).trans Bk3
      replace lt3 := Nat.lt_of_lt_of_le lt3 hk.size
      replace S0 := S0.step hk
      replace rZ := rZ.step hk
      replace S2 := S2.step hk
      replace S3 := S3.step hk
      replace S4 := S4.step hk
      replace hb := bstep hb hk
      clear hk
      obtain ⟨v4, hv⟩ : ∃ v, w10.heap.size = v := ⟨_, rfl⟩
      rw [hv] at Bk4 lt4 ⊢
      clear hv
      generalize (w10.alloc (.cells #[.slice A4 t4.M.W.length a4, .slice B4 t4.M.G.length b4, .bool t4.M.bad, .slice C4 t4.C.length c4, .slice L4 t4.L.length d4] 28)) = w11 at *
      have m0_0 : w11.cell? ⟨v0, 0, none⟩ = some (.slice A0 s0.M.W.length a0) := cell_of_row w11 _ 0 _ _ _ Bk0
      have m0_1 : w11.cell? ⟨v0, 1, none⟩ = some (.slice B0 s0.M.G.length b0) := cell_of_row w11 _ 1 _ _ _ Bk0
      have m0_2 : w11.cell? ⟨v0, 2, none⟩ = some (.bool s0.M.bad) := cell_of_row w11 _ 2 _ _ _ Bk0
      have m0_3 : w11.cell? ⟨v0, 3, none⟩ = some (.slice C0 s0.C.length c0) := cell_of_row w11 _ 3 _ _ _ Bk0
      have m0_4 : w11.cell? ⟨v0, 4, none⟩ = some (.slice L0 s0.L.length d0) := cell_of_row w11 _ 4 _ _ _ Bk0
      have m1_0 : w11.cell? ⟨v1, 0, none⟩ = some (.int .i64 op) := cell_of_row w11 _ 0 _ _ _ Bk1
      have m1_1 : w11.cell? ⟨v1, 1, none⟩ = some (.int .i64 pc) := cell_of_row w11 _ 1 _ _ _ Bk1
      have m1_2 : w11.cell? ⟨v1, 2, none⟩ = some (.int .i64 r0) := cell_of_row w11 _ 2 _ _ _ Bk1
      have m1_3 : w11.cell? ⟨v1, 3, none⟩ = some (.int .i64 r1) := cell_of_row w11 _ 3 _ _ _ Bk1
      have m1_4 : w11.cell? ⟨v1, 4, none⟩ = some (.int .i64 r2) := cell_of_row w11 _ 4 _ _ _ Bk1
      have m1_5 : w11.cell? ⟨v1, 5, none⟩ = some (.int .i64 r3) := cell_of_row w11 _ 5 _ _ _ Bk1
      have m1_6 : w11.cell? ⟨v1, 6, none⟩ = some (.int .i64 r4) := cell_of_row w11 _ 6 _ _ _ Bk1
      have m1_7 : w11.cell? ⟨v1, 7, none⟩ = some (.int .i64 r5) := cell_of_row w11 _ 7 _ _ _ Bk1
      have m1_8 : w11.cell? ⟨v1, 8, none⟩ = some (.int .i64 r6) := cell_of_row w11 _ 8 _ _ _ Bk1
      have m1_9 : w11.cell? ⟨v1, 9, none⟩ = some (.int .i64 r7) := cell_of_row w11 _ 9 _ _ _ Bk1
      have m1_10 : w11.cell? ⟨v1, 10, none⟩ = some (.slice A1 zs.length c1) := cell_of_row w11 _ 10 _ _ _ Bk1
      go_wp2_with fail
      clear m0_0 m0_1 m0_2 m0_3 m0_4 m1_0 m1_1 m1_2 m1_3 m1_4 m1_5 m1_6 m1_7 m1_8 m1_9 m1_10
      have h := log_u A0 B0 C0 L0 a0 b0 c0 d0 s0 n1 op r0 r1 n2 w11 HF.out S0
      rw [← ht5.out] at h
      refine h.mono ?_
      clear h
      rintro e w12 ⟨A5, B5, C5, L5, a5, b5, c5, d5, rfl, rW, rG, rC, rL, hk⟩
      replace Bk0 := (hk.block v0 lt0).trans Bk0
      replace lt0 := Nat.lt_of_lt_of_le lt0 hk.size
      replace Bk1 := (hk.block v1 lt1).trans Bk1
      replace lt1 := Nat.lt_of_lt_of_le lt1 hk.size
      replace Bk2 := (hk.block v2 lt2).trans Bk2
      replace lt2 := Nat.lt_of_lt_of_le lt2 hk.size
      replace Bk3 := (hk.block v3 lt3).trans Bk3
      replace lt3 := Nat.lt_of_lt_of_le lt3 hk.size
      replace Bk4 := (hk.block v4 lt4).trans Bk4
      replace lt4 := Nat.lt_of_lt_of_le lt4 hk.size
      replace S0 := S0.step hk
      replace rZ := rZ.step hk
      replace S2 := S2.step hk
      replace S3 := S3.step hk
      replace S4 := S4.step hk
      replace hb := bstep hb hk
      clear hk
      have S5 : RS w12 t5 A5 B5 C5 L5 := ⟨rW, rG, rC, rL⟩
      clear rW rG rC rL
      go_upto_region 13 with (fail)
      have Bk5 := heap_alloc_new w12 (.cells #[.slice A5 t5.M.W.length a5, .slice B5 t5.M.G.length b5, .bool t5.M.bad, .slice C5 t5.C.length c5, .slice L5 t5.L.length d5] 28)
      have lt5 : w12.heap.size < (w12.alloc (.cells #[.slice A5 t5.M.W.length a5, .slice B5 t5.M.G.length b5, .bool t5.M.bad, .slice C5 t5.C.length c5, .slice L5 t5.L.length d5] 28)).heap.size := by simp
      have hk : Below w12.heap.size w12 (w12.alloc (.cells #[.slice A5 t5.M.W.length a5, .slice B5 t5.M.G.length b5, .bool t5.M.bad, .slice C5 t5.C.length c5, .slice L5 t5.L.length d5] 28)) := boxed _ _
      replace Bk0 := (hk.block v0 lt0).trans Bk0
      replace lt0 := Nat.lt_of_lt_of_le lt0 hk.size
      replace Bk1 := (hk.block v1 lt1).trans Bk1
      replace lt1 := Nat.lt_of_lt_of_le lt1 hk.size
      replace Bk2 := (hk.block v2 lt2).trans Bk2
      replace lt2 := Nat.lt_of_lt_of_le lt2 hk.size
      replace Bk3 := (hk.block v3 lt3).trans Bk3
      replace lt3 := Nat.lt_of_lt_of_le lt3 hk.size
      replace Bk4 := (hk.block v4 lt4).trans Bk4
      replace lt4 := Nat.lt_of_lt_of_le lt4 hk.size
      replace S0 := S0.step hk
      replace rZ := rZ.step hk
      replace S2 := S2.step hk
      replace S3 := S3.step hk
      replace S4 := S4.step hk
      replace S5 := S5.step hk
      replace hb := bstep hb hk
      clear hk
      obtain ⟨v5, hv⟩ : ∃ v, w12.heap.size = v := ⟨_, rfl⟩
      rw [hv] at Bk5 lt5 ⊢
      clear hv
      generalize (w12.alloc (.cells #[.slice A5 t5.M.W.length a5, .slice B5 t5.M.G.length b5, .bool t5.M.bad, .slice C5 t5.C.length c5, .slice L5 t5.L.length d5] 28)) = w13 at *
      have m0_0 : w13.cell? ⟨v0, 0, none⟩ = some (.slice A0 s0.M.W.length a0) := cell_of_row w13 _ 0 _ _ _ Bk0
      have m0_1 : w13.cell? ⟨v0, 1, none⟩ = some (.slice B0 s0.M.G.length b0) := cell_of_row w13 _ 1 _ _ _ Bk0
      have m0_2 : w13.cell? ⟨v0, 2, none⟩ = some (.bool s0.M.bad) := cell_of_row w13 _ 2 _ _ _ Bk0
      have m0_3 : w13.cell? ⟨v0, 3, none⟩ = some (.slice C0 s0.C.length c0) := cell_of_row w13 _ 3 _ _ _ Bk0
      have m0_4 : w13.cell? ⟨v0, 4, none⟩ = some (.slice L0 s0.L.length d0) := cell_of_row w13 _ 4 _ _ _ Bk0
      have m1_0 : w13.cell? ⟨v1, 0, none⟩ = some (.int .i64 op) := cell_of_row w13 _ 0 _ _ _ Bk1
      have m1_1 : w13.cell? ⟨v1, 1, none⟩ = some (.int .i64 pc) := cell_of_row w13 _ 1 _ _ _ Bk1
      have m1_2 : w13.cell? ⟨v1, 2, none⟩ = some (.int .i64 r0) := cell_of_row w13 _ 2 _ _ _ Bk1
      have m1_3 : w13.cell? ⟨v1, 3, none⟩ = some (.int .i64 r1) := cell_of_row w13 _ 3 _ _ _ Bk1
      have m1_4 : w13.cell? ⟨v1, 4, none⟩ = some (.int .i64 r2) := cell_of_row w13 _ 4 _ _ _ Bk1
      have m1_5 : w13.cell? ⟨v1, 5, none⟩ = some (.int .i64 r3) := cell_of_row w13 _ 5 _ _ _ Bk1
      have m1_6 : w13.cell? ⟨v1, 6, none⟩ = some (.int .i64 r4) := cell_of_row w13 _ 6 _ _ _ Bk1
      have m1_7 : w13.cell? ⟨v1, 7, none⟩ = some (.int .i64 r5) := cell_of_row w13 _ 7 _ _ _ Bk1
      have m1_8 : w13.cell? ⟨v1, 8, none⟩ = some (.int .i64 r6) := cell_of_row w13 _ 8 _ _ _ Bk1
      have m1_9 : w13.cell? ⟨v1, 9, none⟩ = some (.int .i64 r7) := cell_of_row w13 _ 9 _ _ _ Bk1
      have m1_10 : w13.cell? ⟨v1, 10, none⟩ = some (.slice A1 zs.length c1) := cell_of_row w13 _ 10 _ _ _ Bk1
      go_wp2_with fail
      clear m0_0 m0_1 m0_2 m0_3 m0_4 m1_0 m1_1 m1_2 m1_3 m1_4 m1_5 m1_6 m1_7 m1_8 m1_9 m1_10
      have h := rcall_u A0 B0 C0 L0 a0 b0 c0 d0 s0 n1 op r0 r1 r2 w13 HF.out S0
      rw [← ht2.out] at h
      refine h.mono ?_
      clear h
      rintro e w14 ⟨A6, B6, C6, L6, a6, b6, c6, d6, rfl, rW, rG, rC, rL, hk⟩
      replace Bk0 := (hk.block v0 lt0).trans Bk0
      replace lt0 := Nat.lt_of_lt_of_le lt0 hk.size
      replace Bk1 := (hk.block v1 lt1).trans Bk1
      replace lt1 := Nat.lt_of_lt_of_le lt1 hk.size
      replace Bk2 := (hk.block v2 lt2).trans Bk2
      replace lt2 := Nat.lt_of_lt_of_le lt2 hk.size
      replace Bk3 := (hk.block v3 lt3).trans Bk3
      replace lt3 := Nat.lt_of_lt_of_le lt3 hk.size
      replace Bk4 := (hk.block v4 lt4).trans Bk4
      replace lt4 := Nat.lt_of_lt_of_le lt4 hk.size
      replace Bk5 := (hk.block v5 lt5).trans Bk5
      replace lt5 := Nat.lt_of_lt_of_le lt5 hk.size
      replace S0 := S0.step hk
      replace rZ := rZ.step hk
      replace S2 := S2.step hk
      replace S3 := S3.step hk
      replace S4 := S4.step hk
      replace S5 := S5.step hk
      replace hb := bstep hb hk
      clear hk
      have S6 : RS w14 t2 A6 B6 C6 L6 := ⟨rW, rG, rC, rL⟩
      clear rW rG rC rL
      go_upto_region 14 with (fail)
      have Bk6 := heap_alloc_new w14 (.cells #[.slice A6 t2.M.W.length a6, .slice B6 t2.M.G.length b6, .bool t2.M.bad, .slice C6 t2.C.length c6, .slice L6 t2.L.length d6] 28)
      have lt6 : w14.heap.size < (w14.alloc (.cells #[.slice A6 t2.M.W.length a6, .slice B6 t2.M.G.length b6, .bool t2.M.bad, .slice C6 t2.C.length c6, .slice L6 t2.L.length d6] 28)).heap.size := by simp
      have hk : Below w14.heap.size w14 (w14.alloc (.cells #[.slice A6 t2.M.W.length a6, .slice B6 t2.M.G.length b6, .bool t2.M.bad, .slice C6 t2.C.length c6, .slice L6 t2.L.length d6] 28)) := boxed _ _
      replace Bk0 := (hk.block v0 lt0).trans Bk0
      replace lt0 := Nat.lt_of_lt_of_le lt0 hk.size
      replace Bk1 := (hk.block v1 lt1).trans Bk1
      replace lt1 := Nat.lt_of_lt_of_le lt1 hk.size
      replace Bk2 := (hk.block v2 lt2).trans Bk2
      replace lt2 := Nat.lt_of_lt_of_le lt2 hk.size
      replace Bk3 := (hk.block v3 lt3).trans Bk3
      replace lt3 := Nat.lt_of_lt_of_le lt3 hk.size
      replace Bk4 := (hk.block v4 lt4).trans Bk4
      replace lt4 := Nat.lt_of_lt_of_le lt4 hk.size
      replace Bk5 := (hk.block v5 lt5).trans Bk5
      replace lt5 := Nat.lt_of_lt_of_le lt5 hk.size
      replace S0 := S0.step hk
      replace rZ := rZ.step hk
      replace S2 := S2.step hk
      replace S3 := S3.step hk
      replace S4 := S4.step hk
      replace S5 := S5.step hk
      replace S6 := S6.step hk
      replace hb := bstep hb hk
      clear hk
      obtain ⟨v6, hv⟩ : ∃ v, w14.heap.size = v := ⟨_, rfl⟩
      rw [hv] at Bk6 lt6 ⊢
      clear hv
      generalize (w14.alloc (.cells #[.slice A6 t2.M.W.length a6, .slice B6 t2.M.G.length b6, .bool t2.M.bad, .slice C6 t2.C.length c6, .slice L6 t2.L.length d6] 28)) = w15 at *
      have m0_0 : w15.cell? ⟨v0, 0, none⟩ = some (.slice A0 s0.M.W.length a0) := cell_of_row w15 _ 0 _ _ _ Bk0
      have m0_1 : w15.cell? ⟨v0, 1, none⟩ = some (.slice B0 s0.M.G.length b0) := cell_of_row w15 _ 1 _ _ _ Bk0
      have m0_2 : w15.cell? ⟨v0, 2, none⟩ = some (.bool s0.M.bad) := cell_of_row w15 _ 2 _ _ _ Bk0
      have m0_3 : w15.cell? ⟨v0, 3, none⟩ = some (.slice C0 s0.C.length c0) := cell_of_row w15 _ 3 _ _ _ Bk0
      have m0_4 : w15.cell? ⟨v0, 4, none⟩ = some (.slice L0 s0.L.length d0) := cell_of_row w15 _ 4 _ _ _ Bk0
      have m1_0 : w15.cell? ⟨v1, 0, none⟩ = some (.int .i64 op) := cell_of_row w15 _ 0 _ _ _ Bk1
      have m1_1 : w15.cell? ⟨v1, 1, none⟩ = some (.int .i64 pc) := cell_of_row w15 _ 1 _ _ _ Bk1
      have m1_2 : w15.cell? ⟨v1, 2, none⟩ = some (.int .i64 r0) := cell_of_row w15 _ 2 _ _ _ Bk1
      have m1_3 : w15.cell? ⟨v1, 3, none⟩ = some (.int .i64 r1) := cell_of_row w15 _ 3 _ _ _ Bk1
      have m1_4 : w15.cell? ⟨v1, 4, none⟩ = some (.int .i64 r2) := cell_of_row w15 _ 4 _ _ _ Bk1
      have m1_5 : w15.cell? ⟨v1, 5, none⟩ = some (.int .i64 r3) := cell_of_row w15 _ 5 _ _ _ Bk1
      have m1_6 : w15.cell? ⟨v1, 6, none⟩ = some (.int .i64 r4) := cell_of_row w15 _ 6 _ _ _ Bk1
      have m1_7 : w15.cell? ⟨v1, 7, none⟩ = some (.int .i64 r5) := cell_of_row w15 _ 7 _ _ _ Bk1
      have m1_8 : w15.cell? ⟨v1, 8, none⟩ = some (.int .i64 r6) := cell_of_row w15 _ 8 _ _ _ Bk1
      have m1_9 : w15.cell? ⟨v1, 9, none⟩ = some (.int .i64 r7) := cell_of_row w15 _ 9 _ _ _ Bk1
      have m1_10 : w15.cell? ⟨v1, 10, none⟩ = some (.slice A1 zs.length c1) := cell_of_row w15 _ 10 _ _ _ Bk1
      go_wp2_with fail
      clear m0_0 m0_1 m0_2 m0_3 m0_4 m1_0 m1_1 m1_2 m1_3 m1_4 m1_5 m1_6 m1_7 m1_8 m1_9 m1_10
      have h := rset_u A0 B0 C0 L0 a0 b0 c0 d0 s0 n1 A1 c1 op pc r0 r1 r2 r3 r4 r5 r6 r7 zs w15 HF.out S0 rZ (fun x hx => by have := (HSM.out.2.2.2.2 x hx).1; omega)
      rw [← ht3.out] at h
      refine h.mono ?_
      clear h
      rintro e w16 ⟨A7, B7, C7, L7, a7, b7, c7, d7, rfl, rW, rG, rC, rL, hk⟩
      replace Bk0 := (hk.block v0 lt0).trans Bk0
      replace lt0 := Nat.lt_of_lt_of_le lt0 hk.size
      replace Bk1 := (hk.block v1 lt1).trans Bk1
      replace lt1 := Nat.lt_of_lt_of_le lt1 hk.size
      replace Bk2 := (hk.block v2 lt2).trans Bk2
      replace lt2 := Nat.lt_of_lt_of_le lt2 hk.size
      replace Bk3 := (hk.block v3 lt3).trans Bk3
      replace lt3 := Nat.lt_of_lt_of_le lt3 hk.size
      replace Bk4 := (hk.block v4 lt4).trans Bk4
      replace lt4 := Nat.lt_of_lt_of_le lt4 hk.size
      replace Bk5 := (hk.block v5 lt5).trans Bk5
      replace lt5 := Nat.lt_of_lt_of_le lt5 hk.size
      replace Bk6 := (hk.block v6 lt6).trans Bk6
      replace lt6 := Nat.lt_of_lt_of_le lt6 hk.size
      replace S0 := S0.step hk
      replace rZ := rZ.step hk
      replace S2 := S2.step hk
      replace S3 := S3.step hk
      replace S4 := S4.step hk
      replace S5 := S5.step hk
      replace S6 := S6.step hk
      replace hb := bstep hb hk
      clear hk
      have S7 : RS w16 t3 A7 B7 C7 L7 := ⟨rW, rG, rC, rL⟩
      clear rW rG rC rL
      go_upto_region 15 with (fail)
      have Bk7 := heap_alloc_new w16 (.cells #[.slice A7 t3.M.W.length a7, .slice B7 t3.M.G.length b7, .bool t3.M.bad, .slice C7 t3.C.length c7, .slice L7 t3.L.length d7] 28)
      have lt7 : w16.heap.size < (w16.alloc (.cells #[.slice A7 t3.M.W.length a7, .slice B7 t3.M.G.length b7, .bool t3.M.bad, .slice C7 t3.C.length c7, .slice L7 t3.L.length d7] 28)).heap.size := by simp
      have hk : Below w16.heap.size w16 (w16.alloc (.cells #[.slice A7 t3.M.W.length a7, .slice B7 t3.M.G.length b7, .bool t3.M.bad, .slice C7 t3.C.length c7, .slice L7 t3.L.length d7] 28)) := boxed _ _
      replace Bk0 := (hk.block v0 lt0).trans Bk0
      replace lt0 := Nat.lt_of_lt_of_le lt0 hk.size
      replace Bk1 := (hk.block v1 lt1).trans Bk1
      replace lt1 := Nat.lt_of_lt_of_le lt1 hk.size
      replace Bk2 := (hk.block v2 lt2).trans Bk2
      replace lt2 := Nat.lt_of_lt_of_le lt2 hk.size
      replace Bk3 := (hk.block v3 lt3).trans Bk3
      replace lt3 := Nat.lt_of_lt_of_le lt3 hk.size
      replace Bk4 := (hk.block v4 lt4).trans Bk4
      replace lt4 := Nat.lt_of_lt_of_le lt4 hk.size
      replace Bk5 := (hk.block v5 lt5).trans Bk5
      replace lt5 := Nat.lt_of_lt_of_le lt5 hk.size
      replace Bk6 := (hk.block v6 lt6).trans Bk6
      replace lt6 := Nat.lt_of_lt_of_le lt6 hk.size
      replace S0 := S0.step hk
      replace rZ := rZ.step hk
      replace S2 := S2.step hk
      replace S3 := S3.step hk
      replace S4 := S4.step hk
      replace S5 := S5.step hk
      replace S6 := S6.step hk
      replace S7 := S7.step hk
      replace hb := bstep hb hk
      clear hk
      obtain ⟨v7, hv⟩ : ∃ v, w16.heap.size = v := ⟨_, rfl⟩
      rw [hv] at Bk7 lt7 ⊢
      clear hv
      generalize (w16.alloc (.cells #[.slice A7 t3.M.W.length a7, .slice B7 t3.M.G.length b7, .bool t3.M.bad, .slice C7 t3.C.length c7, .slice L7 t3.L.length d7] 28)) = w17 at *
      have m0_0 : w17.cell? ⟨v0, 0, none⟩ = some (.slice A0 s0.M.W.length a0) := cell_of_row w17 _ 0 _ _ _ Bk0
      have m0_1 : w17.cell? ⟨v0, 1, none⟩ = some (.slice B0 s0.M.G.length b0) := cell_of_row w17 _ 1 _ _ _ Bk0
      have m0_2 : w17.cell? ⟨v0, 2, none⟩ = some (.bool s0.M.bad) := cell_of_row w17 _ 2 _ _ _ Bk0
      have m0_3 : w17.cell? ⟨v0, 3, none⟩ = some (.slice C0 s0.C.length c0) := cell_of_row w17 _ 3 _ _ _ Bk0
      have m0_4 : w17.cell? ⟨v0, 4, none⟩ = some (.slice L0 s0.L.length d0) := cell_of_row w17 _ 4 _ _ _ Bk0
      go_wp2_with fail
      clear m0_0 m0_1 m0_2 m0_3 m0_4
      have h := rback_u A0 B0 C0 L0 a0 b0 c0 d0 s0 n1 n2 n3 w17 HF.out S0
      rw [← ht4.out] at h
      refine h.mono ?_
      clear h
      rintro e w18 ⟨A8, B8, C8, L8, a8, b8, c8, d8, rfl, rW, rG, rC, rL, hk⟩
      replace Bk0 := (hk.block v0 lt0).trans Bk0
      replace lt0 := Nat.lt_of_lt_of_le lt0 hk.size
      replace Bk1 := (hk.block v1 lt1).trans Bk1
      replace lt1 := Nat.lt_of_lt_of_le lt1 hk.size
      replace Bk2 := (hk.block v2 lt2).trans Bk2
      replace lt2 := Nat.lt_of_lt_of_le lt2 hk.size
      replace Bk3 := (hk.block v3 lt3).trans Bk3
      replace lt3 := Nat.lt_of_lt_of_le lt3 hk.size
      replace Bk4 := (hk.block v4 lt4).trans Bk4
      replace lt4 := Nat.lt_of_lt_of_le lt4 hk.size
      replace Bk5 := (hk.block v5 lt5).trans Bk5
      replace lt5 := Nat.lt_of_lt_of_le lt5 hk.size
      replace Bk6 := (hk.block v6 lt6).trans Bk6
      replace lt6 := Nat.lt_of_lt_of_le lt6 hk.size
      replace Bk7 := (hk.block v7 lt7).trans Bk7
      replace lt7 := Nat.lt_of_lt_of_le lt7 hk.size
      replace S0 := S0.step hk
      replace rZ := rZ.step hk
      replace S2 := S2.step hk
      replace S3 := S3.step hk
      replace S4 := S4.step hk
      replace S5 := S5.step hk
      replace S6 := S6.step hk
      replace S7 := S7.step hk
      replace hb := bstep hb hk
      clear hk
      have S8 : RS w18 t4 A8 B8 C8 L8 := ⟨rW, rG, rC, rL⟩
      clear rW rG rC rL
      go_upto_region 16 with (fail)
      have Bk8 := heap_alloc_new w18 (.cells #[.slice A8 t4.M.W.length a8, .slice B8 t4.M.G.length b8, .bool t4.M.bad, .slice C8 t4.C.length c8, .slice L8 t4.L.length d8] 28)
      have lt8 : w18.heap.size < (w18.alloc (.cells #[.slice A8 t4.M.W.length a8, .slice B8 t4.M.G.length b8, .bool t4.M.bad, .slice C8 t4.C.length c8, .slice L8 t4.L.length d8] 28)).heap.size := by simp
      have hk : Below w18.heap.size w18 (w18.alloc (.cells #[.slice A8 t4.M.W.length a8, .slice B8 t4.M.G.length b8, .bool t4.M.bad, .slice C8 t4.C.length c8, .slice L8 t4.L.length d8] 28)) := boxed _ _
      replace Bk0 := (hk.block v0 lt0).trans Bk0
      replace lt0 := Nat.lt_of_lt_of_le lt0 hk.size
      replace Bk1 := (hk.block v1 lt1).trans Bk1
      replace lt1 := Nat.lt_of_lt_of_le lt1 hk.size
      replace Bk2 := (hk.block v2 lt2).trans Bk2
      replace lt2 := Nat.lt_of_lt_of_le lt2 hk.size
      replace Bk3 := (hk.block v3 lt3).trans Bk3
      replace lt3 := Nat.lt_of_lt_of_le lt3 hk.size
      replace Bk4 := (hk.block v4 lt4).trans Bk4
      replace lt4 := Nat.lt_of_lt_of_le lt4 hk.size
      replace Bk5 := (hk.block v5 lt5).trans Bk5
      replace lt5 := Nat.lt_of_lt_of_le lt5 hk.size
      replace Bk6 := (hk.block v6 lt6).trans Bk6
      replace lt6 := Nat.lt_of_lt_of_le lt6 hk.size
      replace Bk7 := (hk.block v7 lt7).trans Bk7
      replace lt7 := Nat.lt_of_lt_of_le lt7 hk.size
      replace S0 := S0.step hk
      replace rZ := rZ.step hk
      replace S2 := S2.step hk
      replace S3 := S3.step hk
      replace S4 := S4.step hk
      replace S5 := S5.step hk
      replace S6 := S6.step hk
      replace S7 := S7.step hk
      replace S8 := S8.step hk
      replace hb := bstep hb hk
      clear hk
      obtain ⟨v8, hv⟩ : ∃ v, w18.heap.size = v := ⟨_, rfl⟩
      rw [hv] at Bk8 lt8 ⊢
      clear hv
      generalize (w18.alloc (.cells #[.slice A8 t4.M.W.length a8, .slice B8 t4.M.G.length b8, .bool t4.M.bad, .slice C8 t4.C.length c8, .slice L8 t4.L.length d8] 28)) = w19 at *
      have m0_0 : w19.cell? ⟨v0, 0, none⟩ = some (.slice A0 s0.M.W.length a0) := cell_of_row w19 _ 0 _ _ _ Bk0
      have m0_1 : w19.cell? ⟨v0, 1, none⟩ = some (.slice B0 s0.M.G.length b0) := cell_of_row w19 _ 1 _ _ _ Bk0
      have m0_2 : w19.cell? ⟨v0, 2, none⟩ = some (.bool s0.M.bad) := cell_of_row w19 _ 2 _ _ _ Bk0
      have m0_3 : w19.cell? ⟨v0, 3, none⟩ = some (.slice C0 s0.C.length c0) := cell_of_row w19 _ 3 _ _ _ Bk0
      have m0_4 : w19.cell? ⟨v0, 4, none⟩ = some (.slice L0 s0.L.length d0) := cell_of_row w19 _ 4 _ _ _ Bk0
      have m1_0 : w19.cell? ⟨v1, 0, none⟩ = some (.int .i64 op) := cell_of_row w19 _ 0 _ _ _ Bk1
      have m1_1 : w19.cell? ⟨v1, 1, none⟩ = some (.int .i64 pc) := cell_of_row w19 _ 1 _ _ _ Bk1
      have m1_2 : w19.cell? ⟨v1, 2, none⟩ = some (.int .i64 r0) := cell_of_row w19 _ 2 _ _ _ Bk1
      have m1_3 : w19.cell? ⟨v1, 3, none⟩ = some (.int .i64 r1) := cell_of_row w19 _ 3 _ _ _ Bk1
      have m1_4 : w19.cell? ⟨v1, 4, none⟩ = some (.int .i64 r2) := cell_of_row w19 _ 4 _ _ _ Bk1
      have m1_5 : w19.cell? ⟨v1, 5, none⟩ = some (.int .i64 r3) := cell_of_row w19 _ 5 _ _ _ Bk1
      have m1_6 : w19.cell? ⟨v1, 6, none⟩ = some (.int .i64 r4) := cell_of_row w19 _ 6 _ _ _ Bk1
      have m1_7 : w19.cell? ⟨v1, 7, none⟩ = some (.int .i64 r5) := cell_of_row w19 _ 7 _ _ _ Bk1
      have m1_8 : w19.cell? ⟨v1, 8, none⟩ = some (.int .i64 r6) := cell_of_row w19 _ 8 _ _ _ Bk1
      have m1_9 : w19.cell? ⟨v1, 9, none⟩ = some (.int .i64 r7) := cell_of_row w19 _ 9 _ _ _ Bk1
      have m1_10 : w19.cell? ⟨v1, 10, none⟩ = some (.slice A1 zs.length c1) := cell_of_row w19 _ 10 _ _ _ Bk1
      go_wp2_with fail
      clear m0_0 m0_1 m0_2 m0_3 m0_4 m1_0 m1_1 m1_2 m1_3 m1_4 m1_5 m1_6 m1_7 m1_8 m1_9 m1_10
      have h := rlog_u A0 B0 C0 L0 a0 b0 c0 d0 s0 n1 0 op r0 r1 n2 w19 HF.out S0
      rw [← ht5.out] at h
      refine h.mono ?_
      clear h
      rintro e w20 ⟨A9, B9, C9, L9, a9, b9, c9, d9, rfl, rW, rG, rC, rL, hk⟩
      replace Bk0 := (hk.block v0 lt0).trans Bk0
      replace lt0 := Nat.lt_of_lt_of_le lt0 hk.size
      replace Bk1 := (hk.block v1 lt1).trans Bk1
      replace lt1 := Nat.lt_of_lt_of_le lt1 hk.size
      replace Bk2 := (hk.block v2 lt2).trans Bk2
      replace lt2 := Nat.lt_of_lt_of_le lt2 hk.size
      replace Bk3 := (hk.block v3 lt3).trans Bk3
      replace lt3 := Nat.lt_of_lt_of_le lt3 hk.size
      replace Bk4 := (hk.block v4 lt4).trans Bk4
      replace lt4 := Nat.lt_of_lt_of_le lt4 hk.size
      replace Bk5 := (hk.block v5 lt5).trans Bk5
      replace lt5 := Nat.lt_of_lt_of_le lt5 hk.size
      replace Bk6 := (hk.block v6 lt6).trans Bk6
      replace lt6 := Nat.lt_of_lt_of_le lt6 hk.size
      replace Bk7 := (hk.block v7 lt7).trans Bk7
      replace lt7 := Nat.lt_of_lt_of_le lt7 hk.size
      replace Bk8 := (hk.block v8 lt8).trans Bk8
      replace lt8 := Nat.lt_of_lt_of_le lt8 hk.size
      replace S0 := S0.step hk
      replace rZ := rZ.step hk
      replace S2 := S2.step hk
      replace S3 := S3.step hk
      replace S4 := S4.step hk
      replace S5 := S5.step hk
      replace S6 := S6.step hk
      replace S7 := S7.step hk
      replace S8 := S8.step hk
      replace hb := bstep hb hk
      clear hk
      have S9 : RS w20 t5 A9 B9 C9 L9 := ⟨rW, rG, rC, rL⟩
      clear rW rG rC rL
      go_upto_region 17 with (fail)
      have Bk9 := heap_alloc_new w20 (.cells #[.slice A9 t5.M.W.length a9, .slice B9 t5.M.G.length b9, .bool t5.M.bad, .slice C9 t5.C.length c9, .slice L9 t5.L.length d9] 28)
      have lt9 : w20.heap.size < (w20.alloc (.cells #[.slice A9 t5.M.W.length a9, .slice B9 t5.M.G.length b9, .bool t5.M.bad, .slice C9 t5.C.length c9, .slice L9 t5.L.length d9] 28)).heap.size := by simp
      have hk : Below w20.heap.size w20 (w20.alloc (.cells #[.slice A9 t5.M.W.length a9, .slice B9 t5.M.G.length b9, .bool t5.M.bad, .slice C9 t5.C.length c9, .slice L9 t5.L.length d9] 28)) := boxed _ _
      replace Bk0 := (hk.block v0 lt0).trans Bk0
      replace lt0 := Nat.lt_of_lt_of_le lt0 hk.size
      replace Bk1 := (hk.block v1 lt1).trans Bk1
      replace lt1 := Nat.lt_of_lt_of_le lt1 hk.size
      replace Bk2 := (hk.block v2 lt2).trans Bk2
      replace lt2 := Nat.lt_of_lt_of_le lt2 hk.size
      replace Bk3 := (hk.block v3 lt3).trans Bk3
      replace lt3 := Nat.lt_of_lt_of_le lt3 hk.size
      replace Bk4 := (hk.block v4 lt4).trans Bk4
      replace lt4 := Nat.lt_of_lt_of_le lt4 hk.size
      replace Bk5 := (hk.block v5 lt5).trans Bk5
      replace lt5 := Nat.lt_of_lt_of_le lt5 hk.size
      replace Bk6 := (hk.block v6 lt6).trans Bk6
      replace lt6 := Nat.lt_of_lt_of_le lt6 hk.size
      replace Bk7 := (hk.block v7 lt7).trans Bk7
      replace lt7 := Nat.lt_of_lt_of_le lt7 hk.size
      replace Bk8 := (hk.block v8 lt8).trans Bk8
      replace lt8 := Nat.lt_of_lt_of_le lt8 hk.size
      replace S0 := S0.step hk
      replace rZ := rZ.step hk
      replace S2 := S2.step hk
      replace S3 := S3.step hk
      replace S4 := S4.step hk
      replace S5 := S5.step hk
      replace S6 := S6.step hk
      replace S7 := S7.step hk
      replace S8 := S8.step hk
      replace S9 := S9.step hk
      replace hb := bstep hb hk
      clear hk
      obtain ⟨v9, hv⟩ : ∃ v, w20.heap.size = v := ⟨_, rfl⟩
      rw [hv] at Bk9 lt9 ⊢
      clear hv
      generalize (w20.alloc (.cells #[.slice A9 t5.M.W.length a9, .slice B9 t5.M.G.length b9, .bool t5.M.bad, .slice C9 t5.C.length c9, .slice L9 t5.L.length d9] 28)) = w21 at *
      have HA2 := hid (show ∀ w, RS w t2 A2 B2 C2 L2 → RS w t2 A6 B6 C6 L6 → Calls Try.prog 20 #[.agg #[.slice A2 t2.M.W.length a2, .slice B2 t2.M.G.length b2, .bool t2.M.bad, .slice C2 t2.C.length c2, .slice L2 t2.L.length d2], .agg #[.slice A6 t2.M.W.length a6, .slice B6 t2.M.G.length b6, .bool t2.M.bad, .slice C6 t2.C.length c6, .slice L6 t2.L.length d6]] w fun e w' => e = .returned (.bool true) ∧ Below w.heap.size w w' from fun w h h' => by have := rsame_u A2 B2 C2 L2 A6 B6 C6 L6 a2 b2 c2 d2 a6 b6 c6 d6 t2 t2 w Q2.out h h'; rwa [sySame_self] at this)
      have HA3 := hid (show ∀ w, RS w t3 A3 B3 C3 L3 → RS w t3 A7 B7 C7 L7 → Calls Try.prog 20 #[.agg #[.slice A3 t3.M.W.length a3, .slice B3 t3.M.G.length b3, .bool t3.M.bad, .slice C3 t3.C.length c3, .slice L3 t3.L.length d3], .agg #[.slice A7 t3.M.W.length a7, .slice B7 t3.M.G.length b7, .bool t3.M.bad, .slice C7 t3.C.length c7, .slice L7 t3.L.length d7]] w fun e w' => e = .returned (.bool true) ∧ Below w.heap.size w w' from fun w h h' => by have := rsame_u A3 B3 C3 L3 A7 B7 C7 L7 a3 b3 c3 d3 a7 b7 c7 d7 t3 t3 w Q3.out h h'; rwa [sySame_self] at this)
      have HA4 := hid (show ∀ w, RS w t4 A4 B4 C4 L4 → RS w t4 A8 B8 C8 L8 → Calls Try.prog 20 #[.agg #[.slice A4 t4.M.W.length a4, .slice B4 t4.M.G.length b4, .bool t4.M.bad, .slice C4 t4.C.length c4, .slice L4 t4.L.length d4], .agg #[.slice A8 t4.M.W.length a8, .slice B8 t4.M.G.length b8, .bool t4.M.bad, .slice C8 t4.C.length c8, .slice L8 t4.L.length d8]] w fun e w' => e = .returned (.bool true) ∧ Below w.heap.size w w' from fun w h h' => by have := rsame_u A4 B4 C4 L4 A8 B8 C8 L8 a4 b4 c4 d4 a8 b8 c8 d8 t4 t4 w Q4.out h h'; rwa [sySame_self] at this)
      have HA5 := hid (show ∀ w, RS w t5 A5 B5 C5 L5 → RS w t5 A9 B9 C9 L9 → Calls Try.prog 20 #[.agg #[.slice A5 t5.M.W.length a5, .slice B5 t5.M.G.length b5, .bool t5.M.bad, .slice C5 t5.C.length c5, .slice L5 t5.L.length d5], .agg #[.slice A9 t5.M.W.length a9, .slice B9 t5.M.G.length b9, .bool t5.M.bad, .slice C9 t5.C.length c9, .slice L9 t5.L.length d9]] w fun e w' => e = .returned (.bool true) ∧ Below w.heap.size w w' from fun w h h' => by have := rsame_u A5 B5 C5 L5 A9 B9 C9 L9 a5 b5 c5 d5 a9 b9 c9 d9 t5 t5 w Q5.out h h'; rwa [sySame_self] at this)
      clear Bk0 lt0
      clear Bk1 lt1
      have m2_0 : w21.cell? ⟨v2, 0, none⟩ = some (.slice A2 t2.M.W.length a2) := cell_of_row w21 _ 0 _ _ _ Bk2
      have m2_1 : w21.cell? ⟨v2, 1, none⟩ = some (.slice B2 t2.M.G.length b2) := cell_of_row w21 _ 1 _ _ _ Bk2
      have m2_2 : w21.cell? ⟨v2, 2, none⟩ = some (.bool t2.M.bad) := cell_of_row w21 _ 2 _ _ _ Bk2
      have m2_3 : w21.cell? ⟨v2, 3, none⟩ = some (.slice C2 t2.C.length c2) := cell_of_row w21 _ 3 _ _ _ Bk2
      have m2_4 : w21.cell? ⟨v2, 4, none⟩ = some (.slice L2 t2.L.length d2) := cell_of_row w21 _ 4 _ _ _ Bk2
      have m6_0 : w21.cell? ⟨v6, 0, none⟩ = some (.slice A6 t2.M.W.length a6) := cell_of_row w21 _ 0 _ _ _ Bk6
      have m6_1 : w21.cell? ⟨v6, 1, none⟩ = some (.slice B6 t2.M.G.length b6) := cell_of_row w21 _ 1 _ _ _ Bk6
      have m6_2 : w21.cell? ⟨v6, 2, none⟩ = some (.bool t2.M.bad) := cell_of_row w21 _ 2 _ _ _ Bk6
      have m6_3 : w21.cell? ⟨v6, 3, none⟩ = some (.slice C6 t2.C.length c6) := cell_of_row w21 _ 3 _ _ _ Bk6
      have m6_4 : w21.cell? ⟨v6, 4, none⟩ = some (.slice L6 t2.L.length d6) := cell_of_row w21 _ 4 _ _ _ Bk6
      have m3_0 : w21.cell? ⟨v3, 0, none⟩ = some (.slice A3 t3.M.W.length a3) := cell_of_row w21 _ 0 _ _ _ Bk3
      have m3_1 : w21.cell? ⟨v3, 1, none⟩ = some (.slice B3 t3.M.G.length b3) := cell_of_row w21 _ 1 _ _ _ Bk3
      have m3_2 : w21.cell? ⟨v3, 2, none⟩ = some (.bool t3.M.bad) := cell_of_row w21 _ 2 _ _ _ Bk3
      have m3_3 : w21.cell? ⟨v3, 3, none⟩ = some (.slice C3 t3.C.length c3) := cell_of_row w21 _ 3 _ _ _ Bk3
      have m3_4 : w21.cell? ⟨v3, 4, none⟩ = some (.slice L3 t3.L.length d3) := cell_of_row w21 _ 4 _ _ _ Bk3
      have m7_0 : w21.cell? ⟨v7, 0, none⟩ = some (.slice A7 t3.M.W.length a7) := cell_of_row w21 _ 0 _ _ _ Bk7
      have m7_1 : w21.cell? ⟨v7, 1, none⟩ = some (.slice B7 t3.M.G.length b7) := cell_of_row w21 _ 1 _ _ _ Bk7
      have m7_2 : w21.cell? ⟨v7, 2, none⟩ = some (.bool t3.M.bad) := cell_of_row w21 _ 2 _ _ _ Bk7
      have m7_3 : w21.cell? ⟨v7, 3, none⟩ = some (.slice C7 t3.C.length c7) := cell_of_row w21 _ 3 _ _ _ Bk7
      have m7_4 : w21.cell? ⟨v7, 4, none⟩ = some (.slice L7 t3.L.length d7) := cell_of_row w21 _ 4 _ _ _ Bk7
      have m4_0 : w21.cell? ⟨v4, 0, none⟩ = some (.slice A4 t4.M.W.length a4) := cell_of_row w21 _ 0 _ _ _ Bk4
      have m4_1 : w21.cell? ⟨v4, 1, none⟩ = some (.slice B4 t4.M.G.length b4) := cell_of_row w21 _ 1 _ _ _ Bk4
      have m4_2 : w21.cell? ⟨v4, 2, none⟩ = some (.bool t4.M.bad) := cell_of_row w21 _ 2 _ _ _ Bk4
      have m4_3 : w21.cell? ⟨v4, 3, none⟩ = some (.slice C4 t4.C.length c4) := cell_of_row w21 _ 3 _ _ _ Bk4
      have m4_4 : w21.cell? ⟨v4, 4, none⟩ = some (.slice L4 t4.L.length d4) := cell_of_row w21 _ 4 _ _ _ Bk4
      have m8_0 : w21.cell? ⟨v8, 0, none⟩ = some (.slice A8 t4.M.W.length a8) := cell_of_row w21 _ 0 _ _ _ Bk8
      have m8_1 : w21.cell? ⟨v8, 1, none⟩ = some (.slice B8 t4.M.G.length b8) := cell_of_row w21 _ 1 _ _ _ Bk8
      have m8_2 : w21.cell? ⟨v8, 2, none⟩ = some (.bool t4.M.bad) := cell_of_row w21 _ 2 _ _ _ Bk8
      have m8_3 : w21.cell? ⟨v8, 3, none⟩ = some (.slice C8 t4.C.length c8) := cell_of_row w21 _ 3 _ _ _ Bk8
      have m8_4 : w21.cell? ⟨v8, 4, none⟩ = some (.slice L8 t4.L.length d8) := cell_of_row w21 _ 4 _ _ _ Bk8
      have m5_0 : w21.cell? ⟨v5, 0, none⟩ = some (.slice A5 t5.M.W.length a5) := cell_of_row w21 _ 0 _ _ _ Bk5
      have m5_1 : w21.cell? ⟨v5, 1, none⟩ = some (.slice B5 t5.M.G.length b5) := cell_of_row w21 _ 1 _ _ _ Bk5
      have m5_2 : w21.cell? ⟨v5, 2, none⟩ = some (.bool t5.M.bad) := cell_of_row w21 _ 2 _ _ _ Bk5
      have m5_3 : w21.cell? ⟨v5, 3, none⟩ = some (.slice C5 t5.C.length c5) := cell_of_row w21 _ 3 _ _ _ Bk5
      have m5_4 : w21.cell? ⟨v5, 4, none⟩ = some (.slice L5 t5.L.length d5) := cell_of_row w21 _ 4 _ _ _ Bk5
      have m9_0 : w21.cell? ⟨v9, 0, none⟩ = some (.slice A9 t5.M.W.length a9) := cell_of_row w21 _ 0 _ _ _ Bk9
      have m9_1 : w21.cell? ⟨v9, 1, none⟩ = some (.slice B9 t5.M.G.length b9) := cell_of_row w21 _ 1 _ _ _ Bk9
      have m9_2 : w21.cell? ⟨v9, 2, none⟩ = some (.bool t5.M.bad) := cell_of_row w21 _ 2 _ _ _ Bk9
      have m9_3 : w21.cell? ⟨v9, 3, none⟩ = some (.slice C9 t5.C.length c9) := cell_of_row w21 _ 3 _ _ _ Bk9
      have m9_4 : w21.cell? ⟨v9, 4, none⟩ = some (.slice L9 t5.L.length d9) := cell_of_row w21 _ 4 _ _ _ Bk9
      go_wp2_with (first | (go_at_call 20; (with_reducible refine (HA2.out _ S2 S6).mono ?_); rintro e w22 ⟨rfl, hk⟩; replace Bk2 := (hk.block v2 lt2).trans Bk2; replace lt2 := Nat.lt_of_lt_of_le lt2 hk.size; replace Bk3 := (hk.block v3 lt3).trans Bk3; replace lt3 := Nat.lt_of_lt_of_le lt3 hk.size; replace Bk4 := (hk.block v4 lt4).trans Bk4; replace lt4 := Nat.lt_of_lt_of_le lt4 hk.size; replace Bk5 := (hk.block v5 lt5).trans Bk5; replace lt5 := Nat.lt_of_lt_of_le lt5 hk.size; replace Bk6 := (hk.block v6 lt6).trans Bk6; replace lt6 := Nat.lt_of_lt_of_le lt6 hk.size; replace Bk7 := (hk.block v7 lt7).trans Bk7; replace lt7 := Nat.lt_of_lt_of_le lt7 hk.size; replace Bk8 := (hk.block v8 lt8).trans Bk8; replace lt8 := Nat.lt_of_lt_of_le lt8 hk.size; replace Bk9 := (hk.block v9 lt9).trans Bk9; replace lt9 := Nat.lt_of_lt_of_le lt9 hk.size; replace S0 := S0.step hk; replace rZ := rZ.step hk; replace S2 := S2.step hk; replace S3 := S3.step hk; replace S4 := S4.step hk; replace S5 := S5.step hk; replace S6 := S6.step hk; replace S7 := S7.step hk; replace S8 := S8.step hk; replace S9 := S9.step hk; replace hb := bstep hb hk; clear hk; clear m2_0 m2_1 m2_2 m2_3 m2_4 m6_0 m6_1 m6_2 m6_3 m6_4 m3_0 m3_1 m3_2 m3_3 m3_4 m7_0 m7_1 m7_2 m7_3 m7_4 m4_0 m4_1 m4_2 m4_3 m4_4 m8_0 m8_1 m8_2 m8_3 m8_4 m5_0 m5_1 m5_2 m5_3 m5_4 m9_0 m9_1 m9_2 m9_3 m9_4; have p2_0 : w22.cell? ⟨v2, 0, none⟩ = some (.slice A2 t2.M.W.length a2) := cell_of_row w22 _ 0 _ _ _ Bk2; have p2_1 : w22.cell? ⟨v2, 1, none⟩ = some (.slice B2 t2.M.G.length b2) := cell_of_row w22 _ 1 _ _ _ Bk2; have p2_2 : w22.cell? ⟨v2, 2, none⟩ = some (.bool t2.M.bad) := cell_of_row w22 _ 2 _ _ _ Bk2; have p2_3 : w22.cell? ⟨v2, 3, none⟩ = some (.slice C2 t2.C.length c2) := cell_of_row w22 _ 3 _ _ _ Bk2; have p2_4 : w22.cell? ⟨v2, 4, none⟩ = some (.slice L2 t2.L.length d2) := cell_of_row w22 _ 4 _ _ _ Bk2; have p6_0 : w22.cell? ⟨v6, 0, none⟩ = some (.slice A6 t2.M.W.length a6) := cell_of_row w22 _ 0 _ _ _ Bk6; have p6_1 : w22.cell? ⟨v6, 1, none⟩ = some (.slice B6 t2.M.G.length b6) := cell_of_row w22 _ 1 _ _ _ Bk6; have p6_2 : w22.cell? ⟨v6, 2, none⟩ = some (.bool t2.M.bad) := cell_of_row w22 _ 2 _ _ _ Bk6; have p6_3 : w22.cell? ⟨v6, 3, none⟩ = some (.slice C6 t2.C.length c6) := cell_of_row w22 _ 3 _ _ _ Bk6; have p6_4 : w22.cell? ⟨v6, 4, none⟩ = some (.slice L6 t2.L.length d6) := cell_of_row w22 _ 4 _ _ _ Bk6; have p3_0 : w22.cell? ⟨v3, 0, none⟩ = some (.slice A3 t3.M.W.length a3) := cell_of_row w22 _ 0 _ _ _ Bk3; have p3_1 : w22.cell? ⟨v3, 1, none⟩ = some (.slice B3 t3.M.G.length b3) := cell_of_row w22 _ 1 _ _ _ Bk3; have p3_2 : w22.cell? ⟨v3, 2, none⟩ = some (.bool t3.M.bad) := cell_of_row w22 _ 2 _ _ _ Bk3; have p3_3 : w22.cell? ⟨v3, 3, none⟩ = some (.slice C3 t3.C.length c3) := cell_of_row w22 _ 3 _ _ _ Bk3; have p3_4 : w22.cell? ⟨v3, 4, none⟩ = some (.slice L3 t3.L.length d3) := cell_of_row w22 _ 4 _ _ _ Bk3; have p7_0 : w22.cell? ⟨v7, 0, none⟩ = some (.slice A7 t3.M.W.length a7) := cell_of_row w22 _ 0 _ _ _ Bk7; have p7_1 : w22.cell? ⟨v7, 1, none⟩ = some (.slice B7 t3.M.G.length b7) := cell_of_row w22 _ 1 _ _ _ Bk7; have p7_2 : w22.cell? ⟨v7, 2, none⟩ = some (.bool t3.M.bad) := cell_of_row w22 _ 2 _ _ _ Bk7; have p7_3 : w22.cell? ⟨v7, 3, none⟩ = some (.slice C7 t3.C.length c7) := cell_of_row w22 _ 3 _ _ _ Bk7; have p7_4 : w22.cell? ⟨v7, 4, none⟩ = some (.slice L7 t3.L.length d7) := cell_of_row w22 _ 4 _ _ _ Bk7; have p4_0 : w22.cell? ⟨v4, 0, none⟩ = some (.slice A4 t4.M.W.length a4) := cell_of_row w22 _ 0 _ _ _ Bk4; have p4_1 : w22.cell? ⟨v4, 1, none⟩ = some (.slice B4 t4.M.G.length b4) := cell_of_row w22 _ 1 _ _ _ Bk4; have p4_2 : w22.cell? ⟨v4, 2, none⟩ = some (.bool t4.M.bad) := cell_of_row w22 _ 2 _ _ _ Bk4; have p4_3 : w22.cell? ⟨v4, 3, none⟩ = some (.slice C4 t4.C.length c4) := cell_of_row w22 _ 3 _ _ _ Bk4; have p4_4 : w22.cell? ⟨v4, 4, none⟩ = some (.slice L4 t4.L.length d4) := cell_of_row w22 _ 4 _ _ _ Bk4; have p8_0 : w22.cell? ⟨v8, 0, none⟩ = some (.slice A8 t4.M.W.length a8) := cell_of_row w22 _ 0 _ _ _ Bk8; have p8_1 : w22.cell? ⟨v8, 1, none⟩ = some (.slice B8 t4.M.G.length b8) := cell_of_row w22 _ 1 _ _ _ Bk8; have p8_2 : w22.cell? ⟨v8, 2, none⟩ = some (.bool t4.M.bad) := cell_of_row w22 _ 2 _ _ _ Bk8; have p8_3 : w22.cell? ⟨v8, 3, none⟩ = some (.slice C8 t4.C.length c8) := cell_of_row w22 _ 3 _ _ _ Bk8; have p8_4 : w22.cell? ⟨v8, 4, none⟩ = some (.slice L8 t4.L.length d8) := cell_of_row w22 _ 4 _ _ _ Bk8; have p5_0 : w22.cell? ⟨v5, 0, none⟩ = some (.slice A5 t5.M.W.length a5) := cell_of_row w22 _ 0 _ _ _ Bk5; have p5_1 : w22.cell? ⟨v5, 1, none⟩ = some (.slice B5 t5.M.G.length b5) := cell_of_row w22 _ 1 _ _ _ Bk5; have p5_2 : w22.cell? ⟨v5, 2, none⟩ = some (.bool t5.M.bad) := cell_of_row w22 _ 2 _ _ _ Bk5; have p5_3 : w22.cell? ⟨v5, 3, none⟩ = some (.slice C5 t5.C.length c5) := cell_of_row w22 _ 3 _ _ _ Bk5; have p5_4 : w22.cell? ⟨v5, 4, none⟩ = some (.slice L5 t5.L.length d5) := cell_of_row w22 _ 4 _ _ _ Bk5; have p9_0 : w22.cell? ⟨v9, 0, none⟩ = some (.slice A9 t5.M.W.length a9) := cell_of_row w22 _ 0 _ _ _ Bk9; have p9_1 : w22.cell? ⟨v9, 1, none⟩ = some (.slice B9 t5.M.G.length b9) := cell_of_row w22 _ 1 _ _ _ Bk9; have p9_2 : w22.cell? ⟨v9, 2, none⟩ = some (.bool t5.M.bad) := cell_of_row w22 _ 2 _ _ _ Bk9; have p9_3 : w22.cell? ⟨v9, 3, none⟩ = some (.slice C9 t5.C.length c9) := cell_of_row w22 _ 3 _ _ _ Bk9; have p9_4 : w22.cell? ⟨v9, 4, none⟩ = some (.slice L9 t5.L.length d9) := cell_of_row w22 _ 4 _ _ _ Bk9) | (go_at_call 20; (with_reducible refine (HA3.out _ S3 S7).mono ?_); rintro e w23 ⟨rfl, hk⟩; replace Bk2 := (hk.block v2 lt2).trans Bk2; replace lt2 := Nat.lt_of_lt_of_le lt2 hk.size; replace Bk3 := (hk.block v3 lt3).trans Bk3; replace lt3 := Nat.lt_of_lt_of_le lt3 hk.size; replace Bk4 := (hk.block v4 lt4).trans Bk4; replace lt4 := Nat.lt_of_lt_of_le lt4 hk.size; replace Bk5 := (hk.block v5 lt5).trans Bk5; replace lt5 := Nat.lt_of_lt_of_le lt5 hk.size; replace Bk6 := (hk.block v6 lt6).trans Bk6; replace lt6 := Nat.lt_of_lt_of_le lt6 hk.size; replace Bk7 := (hk.block v7 lt7).trans Bk7; replace lt7 := Nat.lt_of_lt_of_le lt7 hk.size; replace Bk8 := (hk.block v8 lt8).trans Bk8; replace lt8 := Nat.lt_of_lt_of_le lt8 hk.size; replace Bk9 := (hk.block v9 lt9).trans Bk9; replace lt9 := Nat.lt_of_lt_of_le lt9 hk.size; replace S0 := S0.step hk; replace rZ := rZ.step hk; replace S2 := S2.step hk; replace S3 := S3.step hk; replace S4 := S4.step hk; replace S5 := S5.step hk; replace S6 := S6.step hk; replace S7 := S7.step hk; replace S8 := S8.step hk; replace S9 := S9.step hk; replace hb := bstep hb hk; clear hk; clear p2_0 p2_1 p2_2 p2_3 p2_4 p6_0 p6_1 p6_2 p6_3 p6_4 p3_0 p3_1 p3_2 p3_3 p3_4 p7_0 p7_1 p7_2 p7_3 p7_4 p4_0 p4_1 p4_2 p4_3 p4_4 p8_0 p8_1 p8_2 p8_3 p8_4 p5_0 p5_1 p5_2 p5_3 p5_4 p9_0 p9_1 p9_2 p9_3 p9_4; have m2_0 : w23.cell? ⟨v2, 0, none⟩ = some (.slice A2 t2.M.W.length a2) := cell_of_row w23 _ 0 _ _ _ Bk2; have m2_1 : w23.cell? ⟨v2, 1, none⟩ = some (.slice B2 t2.M.G.length b2) := cell_of_row w23 _ 1 _ _ _ Bk2; have m2_2 : w23.cell? ⟨v2, 2, none⟩ = some (.bool t2.M.bad) := cell_of_row w23 _ 2 _ _ _ Bk2; have m2_3 : w23.cell? ⟨v2, 3, none⟩ = some (.slice C2 t2.C.length c2) := cell_of_row w23 _ 3 _ _ _ Bk2; have m2_4 : w23.cell? ⟨v2, 4, none⟩ = some (.slice L2 t2.L.length d2) := cell_of_row w23 _ 4 _ _ _ Bk2; have m6_0 : w23.cell? ⟨v6, 0, none⟩ = some (.slice A6 t2.M.W.length a6) := cell_of_row w23 _ 0 _ _ _ Bk6; have m6_1 : w23.cell? ⟨v6, 1, none⟩ = some (.slice B6 t2.M.G.length b6) := cell_of_row w23 _ 1 _ _ _ Bk6; have m6_2 : w23.cell? ⟨v6, 2, none⟩ = some (.bool t2.M.bad) := cell_of_row w23 _ 2 _ _ _ Bk6; have m6_3 : w23.cell? ⟨v6, 3, none⟩ = some (.slice C6 t2.C.length c6) := cell_of_row w23 _ 3 _ _ _ Bk6; have m6_4 : w23.cell? ⟨v6, 4, none⟩ = some (.slice L6 t2.L.length d6) := cell_of_row w23 _ 4 _ _ _ Bk6; have m3_0 : w23.cell? ⟨v3, 0, none⟩ = some (.slice A3 t3.M.W.length a3) := cell_of_row w23 _ 0 _ _ _ Bk3; have m3_1 : w23.cell? ⟨v3, 1, none⟩ = some (.slice B3 t3.M.G.length b3) := cell_of_row w23 _ 1 _ _ _ Bk3; have m3_2 : w23.cell? ⟨v3, 2, none⟩ = some (.bool t3.M.bad) := cell_of_row w23 _ 2 _ _ _ Bk3; have m3_3 : w23.cell? ⟨v3, 3, none⟩ = some (.slice C3 t3.C.length c3) := cell_of_row w23 _ 3 _ _ _ Bk3; have m3_4 : w23.cell? ⟨v3, 4, none⟩ = some (.slice L3 t3.L.length d3) := cell_of_row w23 _ 4 _ _ _ Bk3; have m7_0 : w23.cell? ⟨v7, 0, none⟩ = some (.slice A7 t3.M.W.length a7) := cell_of_row w23 _ 0 _ _ _ Bk7; have m7_1 : w23.cell? ⟨v7, 1, none⟩ = some (.slice B7 t3.M.G.length b7) := cell_of_row w23 _ 1 _ _ _ Bk7; have m7_2 : w23.cell? ⟨v7, 2, none⟩ = some (.bool t3.M.bad) := cell_of_row w23 _ 2 _ _ _ Bk7; have m7_3 : w23.cell? ⟨v7, 3, none⟩ = some (.slice C7 t3.C.length c7) := cell_of_row w23 _ 3 _ _ _ Bk7; have m7_4 : w23.cell? ⟨v7, 4, none⟩ = some (.slice L7 t3.L.length d7) := cell_of_row w23 _ 4 _ _ _ Bk7; have m4_0 : w23.cell? ⟨v4, 0, none⟩ = some (.slice A4 t4.M.W.length a4) := cell_of_row w23 _ 0 _ _ _ Bk4; have m4_1 : w23.cell? ⟨v4, 1, none⟩ = some (.slice B4 t4.M.G.length b4) := cell_of_row w23 _ 1 _ _ _ Bk4; have m4_2 : w23.cell? ⟨v4, 2, none⟩ = some (.bool t4.M.bad) := cell_of_row w23 _ 2 _ _ _ Bk4; have m4_3 : w23.cell? ⟨v4, 3, none⟩ = some (.slice C4 t4.C.length c4) := cell_of_row w23 _ 3 _ _ _ Bk4; have m4_4 : w23.cell? ⟨v4, 4, none⟩ = some (.slice L4 t4.L.length d4) := cell_of_row w23 _ 4 _ _ _ Bk4; have m8_0 : w23.cell? ⟨v8, 0, none⟩ = some (.slice A8 t4.M.W.length a8) := cell_of_row w23 _ 0 _ _ _ Bk8; have m8_1 : w23.cell? ⟨v8, 1, none⟩ = some (.slice B8 t4.M.G.length b8) := cell_of_row w23 _ 1 _ _ _ Bk8; have m8_2 : w23.cell? ⟨v8, 2, none⟩ = some (.bool t4.M.bad) := cell_of_row w23 _ 2 _ _ _ Bk8; have m8_3 : w23.cell? ⟨v8, 3, none⟩ = some (.slice C8 t4.C.length c8) := cell_of_row w23 _ 3 _ _ _ Bk8; have m8_4 : w23.cell? ⟨v8, 4, none⟩ = some (.slice L8 t4.L.length d8) := cell_of_row w23 _ 4 _ _ _ Bk8; have m5_0 : w23.cell? ⟨v5, 0, none⟩ = some (.slice A5 t5.M.W.length a5) := cell_of_row w23 _ 0 _ _ _ Bk5; have m5_1 : w23.cell? ⟨v5, 1, none⟩ = some (.slice B5 t5.M.G.length b5) := cell_of_row w23 _ 1 _ _ _ Bk5; have m5_2 : w23.cell? ⟨v5, 2, none⟩ = some (.bool t5.M.bad) := cell_of_row w23 _ 2 _ _ _ Bk5; have m5_3 : w23.cell? ⟨v5, 3, none⟩ = some (.slice C5 t5.C.length c5) := cell_of_row w23 _ 3 _ _ _ Bk5; have m5_4 : w23.cell? ⟨v5, 4, none⟩ = some (.slice L5 t5.L.length d5) := cell_of_row w23 _ 4 _ _ _ Bk5; have m9_0 : w23.cell? ⟨v9, 0, none⟩ = some (.slice A9 t5.M.W.length a9) := cell_of_row w23 _ 0 _ _ _ Bk9; have m9_1 : w23.cell? ⟨v9, 1, none⟩ = some (.slice B9 t5.M.G.length b9) := cell_of_row w23 _ 1 _ _ _ Bk9; have m9_2 : w23.cell? ⟨v9, 2, none⟩ = some (.bool t5.M.bad) := cell_of_row w23 _ 2 _ _ _ Bk9; have m9_3 : w23.cell? ⟨v9, 3, none⟩ = some (.slice C9 t5.C.length c9) := cell_of_row w23 _ 3 _ _ _ Bk9; have m9_4 : w23.cell? ⟨v9, 4, none⟩ = some (.slice L9 t5.L.length d9) := cell_of_row w23 _ 4 _ _ _ Bk9) | (go_at_call 20; (with_reducible refine (HA4.out _ S4 S8).mono ?_); rintro e w24 ⟨rfl, hk⟩; replace Bk2 := (hk.block v2 lt2).trans Bk2; replace lt2 := Nat.lt_of_lt_of_le lt2 hk.size; replace Bk3 := (hk.block v3 lt3).trans Bk3; replace lt3 := Nat.lt_of_lt_of_le lt3 hk.size; replace Bk4 := (hk.block v4 lt4).trans Bk4; replace lt4 := Nat.lt_of_lt_of_le lt4 hk.size; replace Bk5 := (hk.block v5 lt5).trans Bk5; replace lt5 := Nat.lt_of_lt_of_le lt5 hk.size; replace Bk6 := (hk.block v6 lt6).trans Bk6; replace lt6 := Nat.lt_of_lt_of_le lt6 hk.size; replace Bk7 := (hk.block v7 lt7).trans Bk7; replace lt7 := Nat.lt_of_lt_of_le lt7 hk.size; replace Bk8 := (hk.block v8 lt8).trans Bk8; replace lt8 := Nat.lt_of_lt_of_le lt8 hk.size; replace Bk9 := (hk.block v9 lt9).trans Bk9; replace lt9 := Nat.lt_of_lt_of_le lt9 hk.size; replace S0 := S0.step hk; replace rZ := rZ.step hk; replace S2 := S2.step hk; replace S3 := S3.step hk; replace S4 := S4.step hk; replace S5 := S5.step hk; replace S6 := S6.step hk; replace S7 := S7.step hk; replace S8 := S8.step hk; replace S9 := S9.step hk; replace hb := bstep hb hk; clear hk; clear m2_0 m2_1 m2_2 m2_3 m2_4 m6_0 m6_1 m6_2 m6_3 m6_4 m3_0 m3_1 m3_2 m3_3 m3_4 m7_0 m7_1 m7_2 m7_3 m7_4 m4_0 m4_1 m4_2 m4_3 m4_4 m8_0 m8_1 m8_2 m8_3 m8_4 m5_0 m5_1 m5_2 m5_3 m5_4 m9_0 m9_1 m9_2 m9_3 m9_4; have p2_0 : w24.cell? ⟨v2, 0, none⟩ = some (.slice A2 t2.M.W.length a2) := cell_of_row w24 _ 0 _ _ _ Bk2; have p2_1 : w24.cell? ⟨v2, 1, none⟩ = some (.slice B2 t2.M.G.length b2) := cell_of_row w24 _ 1 _ _ _ Bk2; have p2_2 : w24.cell? ⟨v2, 2, none⟩ = some (.bool t2.M.bad) := cell_of_row w24 _ 2 _ _ _ Bk2; have p2_3 : w24.cell? ⟨v2, 3, none⟩ = some (.slice C2 t2.C.length c2) := cell_of_row w24 _ 3 _ _ _ Bk2; have p2_4 : w24.cell? ⟨v2, 4, none⟩ = some (.slice L2 t2.L.length d2) := cell_of_row w24 _ 4 _ _ _ Bk2; have p6_0 : w24.cell? ⟨v6, 0, none⟩ = some (.slice A6 t2.M.W.length a6) := cell_of_row w24 _ 0 _ _ _ Bk6; have p6_1 : w24.cell? ⟨v6, 1, none⟩ = some (.slice B6 t2.M.G.length b6) := cell_of_row w24 _ 1 _ _ _ Bk6; have p6_2 : w24.cell? ⟨v6, 2, none⟩ = some (.bool t2.M.bad) := cell_of_row w24 _ 2 _ _ _ Bk6; have p6_3 : w24.cell? ⟨v6, 3, none⟩ = some (.slice C6 t2.C.length c6) := cell_of_row w24 _ 3 _ _ _ Bk6; have p6_4 : w24.cell? ⟨v6, 4, none⟩ = some (.slice L6 t2.L.length d6) := cell_of_row w24 _ 4 _ _ _ Bk6; have p3_0 : w24.cell? ⟨v3, 0, none⟩ = some (.slice A3 t3.M.W.length a3) := cell_of_row w24 _ 0 _ _ _ Bk3; have p3_1 : w24.cell? ⟨v3, 1, none⟩ = some (.slice B3 t3.M.G.length b3) := cell_of_row w24 _ 1 _ _ _ Bk3; have p3_2 : w24.cell? ⟨v3, 2, none⟩ = some (.bool t3.M.bad) := cell_of_row w24 _ 2 _ _ _ Bk3; have p3_3 : w24.cell? ⟨v3, 3, none⟩ = some (.slice C3 t3.C.length c3) := cell_of_row w24 _ 3 _ _ _ Bk3; have p3_4 : w24.cell? ⟨v3, 4, none⟩ = some (.slice L3 t3.L.length d3) := cell_of_row w24 _ 4 _ _ _ Bk3; have p7_0 : w24.cell? ⟨v7, 0, none⟩ = some (.slice A7 t3.M.W.length a7) := cell_of_row w24 _ 0 _ _ _ Bk7; have p7_1 : w24.cell? ⟨v7, 1, none⟩ = some (.slice B7 t3.M.G.length b7) := cell_of_row w24 _ 1 _ _ _ Bk7; have p7_2 : w24.cell? ⟨v7, 2, none⟩ = some (.bool t3.M.bad) := cell_of_row w24 _ 2 _ _ _ Bk7; have p7_3 : w24.cell? ⟨v7, 3, none⟩ = some (.slice C7 t3.C.length c7) := cell_of_row w24 _ 3 _ _ _ Bk7; have p7_4 : w24.cell? ⟨v7, 4, none⟩ = some (.slice L7 t3.L.length d7) := cell_of_row w24 _ 4 _ _ _ Bk7; have p4_0 : w24.cell? ⟨v4, 0, none⟩ = some (.slice A4 t4.M.W.length a4) := cell_of_row w24 _ 0 _ _ _ Bk4; have p4_1 : w24.cell? ⟨v4, 1, none⟩ = some (.slice B4 t4.M.G.length b4) := cell_of_row w24 _ 1 _ _ _ Bk4; have p4_2 : w24.cell? ⟨v4, 2, none⟩ = some (.bool t4.M.bad) := cell_of_row w24 _ 2 _ _ _ Bk4; have p4_3 : w24.cell? ⟨v4, 3, none⟩ = some (.slice C4 t4.C.length c4) := cell_of_row w24 _ 3 _ _ _ Bk4; have p4_4 : w24.cell? ⟨v4, 4, none⟩ = some (.slice L4 t4.L.length d4) := cell_of_row w24 _ 4 _ _ _ Bk4; have p8_0 : w24.cell? ⟨v8, 0, none⟩ = some (.slice A8 t4.M.W.length a8) := cell_of_row w24 _ 0 _ _ _ Bk8; have p8_1 : w24.cell? ⟨v8, 1, none⟩ = some (.slice B8 t4.M.G.length b8) := cell_of_row w24 _ 1 _ _ _ Bk8; have p8_2 : w24.cell? ⟨v8, 2, none⟩ = some (.bool t4.M.bad) := cell_of_row w24 _ 2 _ _ _ Bk8; have p8_3 : w24.cell? ⟨v8, 3, none⟩ = some (.slice C8 t4.C.length c8) := cell_of_row w24 _ 3 _ _ _ Bk8; have p8_4 : w24.cell? ⟨v8, 4, none⟩ = some (.slice L8 t4.L.length d8) := cell_of_row w24 _ 4 _ _ _ Bk8; have p5_0 : w24.cell? ⟨v5, 0, none⟩ = some (.slice A5 t5.M.W.length a5) := cell_of_row w24 _ 0 _ _ _ Bk5; have p5_1 : w24.cell? ⟨v5, 1, none⟩ = some (.slice B5 t5.M.G.length b5) := cell_of_row w24 _ 1 _ _ _ Bk5; have p5_2 : w24.cell? ⟨v5, 2, none⟩ = some (.bool t5.M.bad) := cell_of_row w24 _ 2 _ _ _ Bk5; have p5_3 : w24.cell? ⟨v5, 3, none⟩ = some (.slice C5 t5.C.length c5) := cell_of_row w24 _ 3 _ _ _ Bk5; have p5_4 : w24.cell? ⟨v5, 4, none⟩ = some (.slice L5 t5.L.length d5) := cell_of_row w24 _ 4 _ _ _ Bk5; have p9_0 : w24.cell? ⟨v9, 0, none⟩ = some (.slice A9 t5.M.W.length a9) := cell_of_row w24 _ 0 _ _ _ Bk9; have p9_1 : w24.cell? ⟨v9, 1, none⟩ = some (.slice B9 t5.M.G.length b9) := cell_of_row w24 _ 1 _ _ _ Bk9; have p9_2 : w24.cell? ⟨v9, 2, none⟩ = some (.bool t5.M.bad) := cell_of_row w24 _ 2 _ _ _ Bk9; have p9_3 : w24.cell? ⟨v9, 3, none⟩ = some (.slice C9 t5.C.length c9) := cell_of_row w24 _ 3 _ _ _ Bk9; have p9_4 : w24.cell? ⟨v9, 4, none⟩ = some (.slice L9 t5.L.length d9) := cell_of_row w24 _ 4 _ _ _ Bk9) | (go_at_call 20; (with_reducible refine (HA5.out _ S5 S9).mono ?_); rintro e w25 ⟨rfl, hk⟩; replace Bk2 := (hk.block v2 lt2).trans Bk2; replace lt2 := Nat.lt_of_lt_of_le lt2 hk.size; replace Bk3 := (hk.block v3 lt3).trans Bk3; replace lt3 := Nat.lt_of_lt_of_le lt3 hk.size; replace Bk4 := (hk.block v4 lt4).trans Bk4; replace lt4 := Nat.lt_of_lt_of_le lt4 hk.size; replace Bk5 := (hk.block v5 lt5).trans Bk5; replace lt5 := Nat.lt_of_lt_of_le lt5 hk.size; replace Bk6 := (hk.block v6 lt6).trans Bk6; replace lt6 := Nat.lt_of_lt_of_le lt6 hk.size; replace Bk7 := (hk.block v7 lt7).trans Bk7; replace lt7 := Nat.lt_of_lt_of_le lt7 hk.size; replace Bk8 := (hk.block v8 lt8).trans Bk8; replace lt8 := Nat.lt_of_lt_of_le lt8 hk.size; replace Bk9 := (hk.block v9 lt9).trans Bk9; replace lt9 := Nat.lt_of_lt_of_le lt9 hk.size; replace S0 := S0.step hk; replace rZ := rZ.step hk; replace S2 := S2.step hk; replace S3 := S3.step hk; replace S4 := S4.step hk; replace S5 := S5.step hk; replace S6 := S6.step hk; replace S7 := S7.step hk; replace S8 := S8.step hk; replace S9 := S9.step hk; replace hb := bstep hb hk; clear hk))
      go_ret
      exact ⟨rfl, hb⟩

set_option maxRecDepth 100000 in
theorem lifted (os : Os) (started : os.Started) (H : Type) (enc : TypeId × Value → H) :
    ReturnsInHanded {} Try.checked os 4 .any (Rows.coreDoesSpec.pre6 enc Try.prog Try.f4 Rows.coreDoesRow.domain false) (Rows.coreDoesSpec.post enc Try.prog Try.f4 false true false false) := by
  refine returnsInHanded_of_change (C := Try.checked) own started (by kernel_rfl) Try.func4
    (ChangeSpec.witness6 (enc := enc) (C := Try.checked) false ⟨#[], #[.agg #[.slice none 0 0, .slice none 0 0, .bool false, .slice none 0 0, .slice none 0 0, .int .i64 0, .int .i64 0, .int .i64 0, .int .i64 0, .int .i64 0, .int .i64 0, .int .i64 0, .int .i64 0, .int .i64 0, .int .i64 0, .int .i64 0, .slice none 0 0, .int .i64 0, .int .u8 0]], []⟩ 8 (by kernel_rfl) (by kernel_rfl) (by kernel_rfl) (by kernel_rfl)) ?_
  intro W base args ds gs before hval0 hW hcnd _
  have hval : ∀ (j : Nat) t v, Try.f4.params[j]? = some t → args[j]? = some v → Value.okWide Try.prog W .any base t v := hval0
  have hW' := hW
  obtain ⟨p, q, hA0, hV, rfl, hfz, hnd⟩ := hW
  have hA : DataW.TrodAll enc Try.prog W 0 (fun _ => true) true Try.f4.params.toList args.toList ds p := hA0
  rw [Try.params4] at hA hval
  obtain ⟨v0, vs0, d0, ds0, p0, q0, hargs, rfl, rfl, h0, r0⟩ := trodAll_cons hA
  obtain ⟨rfl, rfl, rfl⟩ := trodAll_nil r0
  obtain rfl : args = #[v0] := by cases args; simp_all
  obtain ⟨rfl, rfl⟩ := trodVars_none hV
  clear hA0 hval0
  obtain ⟨A0, B0, C0, L0, a0, b0, c0, d0, s0, n1, op, pc, r0, r1, r2, r3, r4, r5, r6, r7, AS, zs, cS, n2, n3, rfl, ⟨rW, rG, rC, rL, l0, l1, l2, l3⟩, rZ, lz, u0, u1⟩ := open_does (hval 0 _ v0 rfl rfl) h0
  refine (walk A0 B0 C0 L0 a0 b0 c0 d0 s0 n1 op pc r0 r1 r2 r3 r4 r5 r6 r7 AS zs cS n2 n3 W rW rG rC rL l0 l1 l2 l3 rZ lz u0 u1).mono fun e W' ⟨he, hb⟩ => ?_
  subst he
  exact ⟨_, rfl, law_post (tb := 4) (by kernel_rfl) (by kernel_rfl) (by kernel_rfl) Try.underlying4 rfl hW' rfl hb⟩

theorem over : Rows.coreDoesRow.holds Try.pinned (OpenSpec.ofChange Rows.coreDoesSpec) :=
  OpenClaim.holds_of_wide 4 Try.f4 rfl rfl rfl rfl rfl rfl rfl ⟨rfl, rfl, rfl, rfl, rfl⟩ rfl rfl rfl rfl rfl (by kernel_rfl) Try.func4 (by kernel_rfl)
    (of_decide_eq_true (by kernel_rfl)) (by unfold Func.isWrapper; first | (rw [if_pos (by decide +kernel)]; kernel_rfl) | (rw [if_neg (by decide +kernel)]; exact ⟨rfl, rfl⟩))
    (fun os started H enc _ => lifted os started H enc)
end CoreDoes

theorem coreDoes_holds : Rows.CoreDoesSaid := CoreDoes.over
#print axioms coreDoes_holds
end Go.Proofs.Ytpagekhgeahmaaa
