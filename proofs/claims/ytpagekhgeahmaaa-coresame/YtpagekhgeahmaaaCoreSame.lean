/- For every system and every two uint8, the law CoreSame (systems are the same just if all of them is: with another V, frame, register, retired node, event, or word they aren't) returns true, and the arguments read afterwards as before. No conditions. -/
import Derived.Test.YtpagekhgeahmaaaRows
import Derived.Test.YtpagekhgeahmaaaUni2
import Derived.Test.YtpagekhgeahmaaaOpen3
import Derived.Test.YtpagekhgeahmaaaCore7
import Derived.Test.YtpagekhgeahmaaaLaw
import Derived.Deep.CutBlock
namespace Go.Proofs.Ytpagekhgeahmaaa
namespace CoreSame
open Go.ChangeShapes Go.WideShapes Go.ChangeAt Go.RowKit
set_option linter.unusedVariables false
set_option linter.unusedSimpArgs false

theorem own : ownKnob Try.prog.godebug = none := by kernel_rfl

theorem ne_with {s : Sy} {k : Nat} {x x' : Co} (hx : s.C[k]? = some x) (h : x' ≠ x) : sySame s (syWith s k x') = false ∧ sySame (syWith s k x') s = false := by
  have hk := (List.getElem?_eq_some_iff.1 hx).1
  have h1 : s.C ≠ s.C.set k x' := fun e => by
    rw [e, List.getElem?_set_self hk] at hx
    injection hx with hx
    exact h hx
  constructor <;> simp [sySame, syWith, lSame, h1, Ne.symm h1]
theorem ne_log {s : Sy} {k : Nat} {x : Co} {e : Evt} : sySame s (syWith ⟨s.M, s.C, s.L ++ [e]⟩ k x) = false ∧ sySame (syWith ⟨s.M, s.C, s.L ++ [e]⟩ k x) s = false := by
  have h1 : s.L ≠ s.L ++ [e] := fun h => by have := congrArg List.length h; simp at this
  constructor <;> simp [sySame, syWith, lSame]
theorem ne_bad {s : Sy} {k : Nat} {x : Co} : sySame s (syWith ⟨⟨s.M.W, s.M.G, !s.M.bad⟩, s.C, s.L⟩ k x) = false ∧ sySame (syWith ⟨⟨s.M.W, s.M.G, !s.M.bad⟩, s.C, s.L⟩ k x) s = false := by
  constructor <;> simp [sySame, syWith, mSame]
theorem blk_set {w : World} {g T : Nat} {cs : Array Value} (h : w.heap[g]? = some (.cells cs T (0, 0))) (j : Nat) (u : Value) : (w.setCell ⟨g, j, none⟩ u).heap[g]? = some (.cells (cs.setIfInBounds j u) T (0, 0)) := heap_setCell_same w g j cs T u h
theorem blk_far {w : World} {g b : Nat} (h : b ≠ g) (j : Nat) (u : Value) : (w.setCell ⟨g, j, none⟩ u).heap[b]? = w.heap[b]? := heap_setCell_other w ⟨g, j, none⟩ b u h

/-- Behind the switch. -/
structure Sw (s0 : Sy) (k vc vt : Nat) (wB wx : World) : Prop where
  ex : ∃ (x : Co) (t : Sy) (AF AR A B C L : Option Addr) (cF cR a b c d : Nat), wx.heap[vc]? = some (.cells #[.slice AF x.F.length cF, .int .i64 x.v, .int .i64 x.e, .int .i64 x.x0, .int .i64 x.x1, .int .i64 x.x2, .slice AR x.ret.length cR] 65 (0, 0)) ∧
    wx.heap[vt]? = some (.cells #[.slice A t.M.W.length a, .slice B t.M.G.length b, .bool t.M.bad, .slice C t.C.length c, .slice L t.L.length d] 28 (0, 0)) ∧
    RS wx t A B C L ∧ RowF wx AF x.F ∧ Row wx AR x.ret ∧ x.F.length ≤ cF ∧ t.C.length = s0.C.length ∧ SyFew (syWith t k x) ∧ sySame s0 (syWith t k x) = false ∧ sySame (syWith t k x) s0 = false
  hb : Below wB.heap.size wB wx

set_option maxRecDepth 100000 in
set_option maxHeartbeats 8000000 in
theorem walk_not (A0 B0 C0 L0 : Option Addr) (a0 b0 c0 d0 : Nat) (s0 : Sy) (n1 n2 : Int) (w0 : World)
    (rW : Row w0 A0 s0.M.W) (rG : Row w0 B0 s0.M.G) (rC : RowC w0 C0 s0.C) (rL : RowE w0 L0 s0.L) (g0 : s0.M.W.length ≤ maxLen) (g1 : s0.M.G.length ≤ maxLen) (g2 : s0.C.length ≤ maxLen) (g3 : s0.L.length ≤ maxLen) (u0 : 0 ≤ n1) (u1 : n1 ≤ 255) (u2 : 0 ≤ n2) (u3 : n2 ≤ 255) (q0 : syMays s0 = false) :
    Calls Try.prog 7 #[.agg #[.slice A0 s0.M.W.length a0, .slice B0 s0.M.G.length b0, .bool s0.M.bad, .slice C0 s0.C.length c0, .slice L0 s0.L.length d0], .int .u8 n1, .int .u8 n2] w0 fun e w' => e = .returned (.bool true) ∧ Below w0.heap.size w0 w' := by
  have S0 : RS w0 s0 A0 B0 C0 L0 := ⟨rW, rG, rC, rL⟩
  have hb : Below w0.heap.size w0 w0 := Below.refl _ _
  have HC := rmay3_any A0 B0 C0 L0 a0 b0 c0 d0 s0
  rw [q0] at HC
  replace HC := hid (show ∀ w, RS w s0 A0 B0 C0 L0 → Calls Try.prog 26 #[.agg #[.slice A0 s0.M.W.length a0, .slice B0 s0.M.G.length b0, .bool s0.M.bad, .slice C0 s0.C.length c0, .slice L0 s0.L.length d0], .int .i64 60] w fun e w' => e = .returned (.bool false) ∧ Below w.heap.size w w' from fun w h => HC w h.G h.C g1 g0 g2 g3)
  clear rW rG rC rL g0 g1 g2 g3
  go_enter Try.func7, Try.ntmps7
  go_upto_region 1 with (fail)
  have Bk0 := heap_alloc_new w0 (.cells #[.slice A0 s0.M.W.length a0, .slice B0 s0.M.G.length b0, .bool s0.M.bad, .slice C0 s0.C.length c0, .slice L0 s0.L.length d0] 28)
  have lt0 : w0.heap.size < (w0.alloc (.cells #[.slice A0 s0.M.W.length a0, .slice B0 s0.M.G.length b0, .bool s0.M.bad, .slice C0 s0.C.length c0, .slice L0 s0.L.length d0] 28)).heap.size := by simp
  have hk : Below w0.heap.size w0 (w0.alloc (.cells #[.slice A0 s0.M.W.length a0, .slice B0 s0.M.G.length b0, .bool s0.M.bad, .slice C0 s0.C.length c0, .slice L0 s0.L.length d0] 28)) := boxed _ _
  replace S0 := S0.step hk
  replace hb := bstep hb hk
  clear hk
  obtain ⟨v0, hv⟩ : ∃ v, w0.heap.size = v := ⟨_, rfl⟩
  rw [hv] at Bk0 lt0 ⊢
  clear hv
  generalize (w0.alloc (.cells #[.slice A0 s0.M.W.length a0, .slice B0 s0.M.G.length b0, .bool s0.M.bad, .slice C0 s0.C.length c0, .slice L0 s0.L.length d0] 28)) = w1 at *
  go_wp2_with fail
  refine (shown3_any _).mono ?_
  rintro e w2 ⟨rfl, hk⟩
  replace Bk0 := (hk.block v0 lt0).trans Bk0
  replace lt0 := Nat.lt_of_lt_of_le lt0 hk.size
  replace S0 := S0.step hk
  replace hb := bstep hb hk
  clear hk
  go_upto_region 2 with (fail)
  have m0_0 : w2.cell? ⟨v0, 0, none⟩ = some (.slice A0 s0.M.W.length a0) := cell_of_row w2 _ 0 _ _ _ Bk0
  have m0_1 : w2.cell? ⟨v0, 1, none⟩ = some (.slice B0 s0.M.G.length b0) := cell_of_row w2 _ 1 _ _ _ Bk0
  have m0_2 : w2.cell? ⟨v0, 2, none⟩ = some (.bool s0.M.bad) := cell_of_row w2 _ 2 _ _ _ Bk0
  have m0_3 : w2.cell? ⟨v0, 3, none⟩ = some (.slice C0 s0.C.length c0) := cell_of_row w2 _ 3 _ _ _ Bk0
  have m0_4 : w2.cell? ⟨v0, 4, none⟩ = some (.slice L0 s0.L.length d0) := cell_of_row w2 _ 4 _ _ _ Bk0
  go_wp2_with (go_at_call 26; refine (HC.out _ S0).mono ?_; rintro e wm ⟨rfl, hk⟩)
  go_ret
  exact ⟨rfl, bstep hb hk⟩

set_option maxRecDepth 100000 in
set_option maxHeartbeats 8000000 in
theorem walk_yes (A0 B0 C0 L0 : Option Addr) (a0 b0 c0 d0 : Nat) (s0 : Sy) (n1 n2 : Int) (w0 : World)
    (rW : Row w0 A0 s0.M.W) (rG : Row w0 B0 s0.M.G) (rC : RowC w0 C0 s0.C) (rL : RowE w0 L0 s0.L) (g0 : s0.M.W.length ≤ maxLen) (g1 : s0.M.G.length ≤ maxLen) (g2 : s0.C.length ≤ maxLen) (g3 : s0.L.length ≤ maxLen) (u0 : 0 ≤ n1) (u1 : n1 ≤ 255) (u2 : 0 ≤ n2) (u3 : n2 ≤ 255) (q0 : syMays s0 = true) :
    Calls Try.prog 7 #[.agg #[.slice A0 s0.M.W.length a0, .slice B0 s0.M.G.length b0, .bool s0.M.bad, .slice C0 s0.C.length c0, .slice L0 s0.L.length d0], .int .u8 n1, .int .u8 n2] w0 fun e w' => e = .returned (.bool true) ∧ Below w0.heap.size w0 w' := by
  have S0 : RS w0 s0 A0 B0 C0 L0 := ⟨rW, rG, rC, rL⟩
  have hb : Below w0.heap.size w0 w0 := Below.refl _ _
  have HC := rmay3_any A0 B0 C0 L0 a0 b0 c0 d0 s0
  rw [q0] at HC
  replace HC := hid (show ∀ w, RS w s0 A0 B0 C0 L0 → Calls Try.prog 26 #[.agg #[.slice A0 s0.M.W.length a0, .slice B0 s0.M.G.length b0, .bool s0.M.bad, .slice C0 s0.C.length c0, .slice L0 s0.L.length d0], .int .i64 60] w fun e w' => e = .returned (.bool true) ∧ Below w.heap.size w w' from fun w h => HC w h.G h.C g1 g0 g2 g3)
  clear rW rG rC rL g0 g1 g2 g3
  go_enter Try.func7, Try.ntmps7
  go_upto_region 1 with (fail)
  have Bk0 := heap_alloc_new w0 (.cells #[.slice A0 s0.M.W.length a0, .slice B0 s0.M.G.length b0, .bool s0.M.bad, .slice C0 s0.C.length c0, .slice L0 s0.L.length d0] 28)
  have lt0 : w0.heap.size < (w0.alloc (.cells #[.slice A0 s0.M.W.length a0, .slice B0 s0.M.G.length b0, .bool s0.M.bad, .slice C0 s0.C.length c0, .slice L0 s0.L.length d0] 28)).heap.size := by simp
  have hk : Below w0.heap.size w0 (w0.alloc (.cells #[.slice A0 s0.M.W.length a0, .slice B0 s0.M.G.length b0, .bool s0.M.bad, .slice C0 s0.C.length c0, .slice L0 s0.L.length d0] 28)) := boxed _ _
  replace S0 := S0.step hk
  replace hb := bstep hb hk
  clear hk
  obtain ⟨v0, hv⟩ : ∃ v, w0.heap.size = v := ⟨_, rfl⟩
  rw [hv] at Bk0 lt0 ⊢
  clear hv
  generalize (w0.alloc (.cells #[.slice A0 s0.M.W.length a0, .slice B0 s0.M.G.length b0, .bool s0.M.bad, .slice C0 s0.C.length c0, .slice L0 s0.L.length d0] 28)) = w1 at *
  go_wp2_with fail
  refine (shown3_any _).mono ?_
  rintro e w2 ⟨rfl, hk⟩
  replace Bk0 := (hk.block v0 lt0).trans Bk0
  replace lt0 := Nat.lt_of_lt_of_le lt0 hk.size
  replace S0 := S0.step hk
  replace hb := bstep hb hk
  clear hk
  go_upto_region 2 with (fail)
  have m0_0 : w2.cell? ⟨v0, 0, none⟩ = some (.slice A0 s0.M.W.length a0) := cell_of_row w2 _ 0 _ _ _ Bk0
  have m0_1 : w2.cell? ⟨v0, 1, none⟩ = some (.slice B0 s0.M.G.length b0) := cell_of_row w2 _ 1 _ _ _ Bk0
  have m0_2 : w2.cell? ⟨v0, 2, none⟩ = some (.bool s0.M.bad) := cell_of_row w2 _ 2 _ _ _ Bk0
  have m0_3 : w2.cell? ⟨v0, 3, none⟩ = some (.slice C0 s0.C.length c0) := cell_of_row w2 _ 3 _ _ _ Bk0
  have m0_4 : w2.cell? ⟨v0, 4, none⟩ = some (.slice L0 s0.L.length d0) := cell_of_row w2 _ 4 _ _ _ Bk0
  go_upto_region 4 with (go_at_call 26; refine (HC.out _ S0).mono ?_; rintro e w3 ⟨rfl, hk⟩)
  clear m0_0 m0_1 m0_2 m0_3 m0_4
  replace Bk0 := (hk.block v0 lt0).trans Bk0
  replace lt0 := Nat.lt_of_lt_of_le lt0 hk.size
  replace S0 := S0.step hk
  replace hb := bstep hb hk
  clear hk
  clear HC
  have hmay : sySmall s0 = true ∧ syRight s0 = true := by simpa [syMays] using q0
  have HF := hid (few_of_small hmay.1)
  have HSM := hid (sySmall_few hmay.1)
  have hr := hmay.2
  simp only [syRight, Bool.and_eq_true, decide_eq_true_eq, List.all_eq_true] at hr
  obtain ⟨⟨⟨_, hc1⟩, hc8⟩, hall⟩ := hr
  clear hmay q0
  obtain ⟨k, hk⟩ : ∃ k : Nat, n1.tmod (s0.C.length : Int) = (k : Int) := ⟨(n1.tmod (s0.C.length : Int)).toNat, by rw [Int.tmod_eq_emod_of_nonneg u0, Int.toNat_of_nonneg (Int.emod_nonneg _ (by omega))]⟩
  have hkl : k < s0.C.length := by have h9 := hk; rw [Int.tmod_eq_emod_of_nonneg u0] at h9; have := Int.emod_lt_of_pos n1 (show (0 : Int) < (s0.C.length : Int) by omega); omega
  obtain ⟨x, hx⟩ : ∃ x, s0.C[k]? = some x := ⟨_, List.getElem?_eq_getElem hkl⟩
  have hright := hall x (List.mem_of_getElem? hx)
  clear hall
  obtain ⟨gC, oC, eC, hbl, hat⟩ := S0.C (by omega)
  subst eC
  obtain ⟨AF, AR, cF, cR, hcs, rF, rR, hcF⟩ := (hat k x hx).cs4
  clear hat
  have y0 : w3.cell? ⟨gC, oC + k * 7, none⟩ = some (.slice AF x.F.length cF) := hcs 0 _ rfl
  have y1 : w3.cell? ⟨gC, oC + k * 7 + 1, none⟩ = some (.int .i64 x.v) := hcs 1 _ rfl
  have y2 : w3.cell? ⟨gC, oC + k * 7 + 2, none⟩ = some (.int .i64 x.e) := hcs 2 _ rfl
  have y3 : w3.cell? ⟨gC, oC + k * 7 + 3, none⟩ = some (.int .i64 x.x0) := hcs 3 _ rfl
  have y4 : w3.cell? ⟨gC, oC + k * 7 + 4, none⟩ = some (.int .i64 x.x1) := hcs 4 _ rfl
  have y5 : w3.cell? ⟨gC, oC + k * 7 + 5, none⟩ = some (.int .i64 x.x2) := hcs 5 _ rfl
  have y6 : w3.cell? ⟨gC, oC + k * 7 + 6, none⟩ = some (.slice AR x.ret.length cR) := hcs 6 _ rfl
  have kl : (k : Int) < (s0.C.length : Int) := by omega
  have hne : ((s0.C.length : Int) == 0) = false := by rw [beq_eq_false_iff_ne]; omega
  have HX := hid hx
  have HRT := hid hright
  clear hx hright hcs
  have m0_0 : w3.cell? ⟨v0, 0, none⟩ = some (.slice A0 s0.M.W.length a0) := cell_of_row w3 _ 0 _ _ _ Bk0
  have m0_1 : w3.cell? ⟨v0, 1, none⟩ = some (.slice B0 s0.M.G.length b0) := cell_of_row w3 _ 1 _ _ _ Bk0
  have m0_2 : w3.cell? ⟨v0, 2, none⟩ = some (.bool s0.M.bad) := cell_of_row w3 _ 2 _ _ _ Bk0
  have m0_3 : w3.cell? ⟨v0, 3, none⟩ = some (.slice (some ⟨gC, oC, none⟩) s0.C.length c0) := cell_of_row w3 _ 3 _ _ _ Bk0
  have m0_4 : w3.cell? ⟨v0, 4, none⟩ = some (.slice L0 s0.L.length d0) := cell_of_row w3 _ 4 _ _ _ Bk0
  go_upto_region 6 with (fail)
  clear m0_0 m0_1 m0_2 m0_3 m0_4
  clear y0 y1 y2 y3 y4 y5 y6
  have T0 := S0
  have TF := rF
  have TR := rR
  have hB : Below w3.heap.size w3 w3 := Below.refl _ _
  have z0 : v0 < w3.heap.size := lt0
  have hbB := hb
  clear S0 rF rR
  have hn : w3.heap.size ≤ w3.heap.size := Nat.le_refl _
  have Bkc := heap_alloc_new w3 (.cells #[.slice AF x.F.length cF, .int .i64 x.v, .int .i64 x.e, .int .i64 x.x0, .int .i64 x.x1, .int .i64 x.x2, .slice AR x.ret.length cR] 65)
  have ltc : w3.heap.size < (w3.alloc (.cells #[.slice AF x.F.length cF, .int .i64 x.v, .int .i64 x.e, .int .i64 x.x0, .int .i64 x.x1, .int .i64 x.x2, .slice AR x.ret.length cR] 65)).heap.size := by simp
  have hk : Below w3.heap.size w3 (w3.alloc (.cells #[.slice AF x.F.length cF, .int .i64 x.v, .int .i64 x.e, .int .i64 x.x0, .int .i64 x.x1, .int .i64 x.x2, .slice AR x.ret.length cR] 65)) := boxed _ _
  have ne0_c : v0 ≠ w3.heap.size := Nat.ne_of_lt lt0
  have nwc : w3.heap.size ≤ w3.heap.size := hB.size
  replace Bk0 := (hk.block v0 lt0).trans Bk0
  replace lt0 := Nat.lt_of_lt_of_le lt0 hk.size
  replace hB := bstep hB hk
  replace hb := bstep hb hk
  clear hk
  obtain ⟨vc, hv⟩ : ∃ v, w3.heap.size = v := ⟨_, rfl⟩
  replace nwc := Nat.le_trans nwc (Nat.le_of_eq hv)
  rw [hv] at Bkc ltc ne0_c ⊢
  clear hv
  generalize (w3.alloc (.cells #[.slice AF x.F.length cF, .int .i64 x.v, .int .i64 x.e, .int .i64 x.x0, .int .i64 x.x1, .int .i64 x.x2, .slice AR x.ret.length cR] 65)) = w4 at *
  have m0_0 : w4.cell? ⟨v0, 0, none⟩ = some (.slice A0 s0.M.W.length a0) := cell_of_row w4 _ 0 _ _ _ Bk0
  have m0_1 : w4.cell? ⟨v0, 1, none⟩ = some (.slice B0 s0.M.G.length b0) := cell_of_row w4 _ 1 _ _ _ Bk0
  have m0_2 : w4.cell? ⟨v0, 2, none⟩ = some (.bool s0.M.bad) := cell_of_row w4 _ 2 _ _ _ Bk0
  have m0_3 : w4.cell? ⟨v0, 3, none⟩ = some (.slice (some ⟨gC, oC, none⟩) s0.C.length c0) := cell_of_row w4 _ 3 _ _ _ Bk0
  have m0_4 : w4.cell? ⟨v0, 4, none⟩ = some (.slice L0 s0.L.length d0) := cell_of_row w4 _ 4 _ _ _ Bk0
  go_upto_block 0 with (fail)
  clear m0_0 m0_1 m0_2 m0_3 m0_4
  have Bkt := heap_alloc_new w4 (.cells #[.slice A0 s0.M.W.length a0, .slice B0 s0.M.G.length b0, .bool s0.M.bad, .slice (some ⟨gC, oC, none⟩) s0.C.length c0, .slice L0 s0.L.length d0] 28)
  have ltt : w4.heap.size < (w4.alloc (.cells #[.slice A0 s0.M.W.length a0, .slice B0 s0.M.G.length b0, .bool s0.M.bad, .slice (some ⟨gC, oC, none⟩) s0.C.length c0, .slice L0 s0.L.length d0] 28)).heap.size := by simp
  have hk : Below w4.heap.size w4 (w4.alloc (.cells #[.slice A0 s0.M.W.length a0, .slice B0 s0.M.G.length b0, .bool s0.M.bad, .slice (some ⟨gC, oC, none⟩) s0.C.length c0, .slice L0 s0.L.length d0] 28)) := boxed _ _
  have ne0_t : v0 ≠ w4.heap.size := Nat.ne_of_lt lt0
  have nec_t : vc ≠ w4.heap.size := Nat.ne_of_lt ltc
  have nwt : w3.heap.size ≤ w4.heap.size := hB.size
  replace Bk0 := (hk.block v0 lt0).trans Bk0
  replace lt0 := Nat.lt_of_lt_of_le lt0 hk.size
  replace Bkc := (hk.block vc ltc).trans Bkc
  replace ltc := Nat.lt_of_lt_of_le ltc hk.size
  replace hB := bstep hB hk
  replace hb := bstep hb hk
  clear hk
  obtain ⟨vt, hv⟩ : ∃ v, w4.heap.size = v := ⟨_, rfl⟩
  replace nwt := Nat.le_trans nwt (Nat.le_of_eq hv)
  rw [hv] at Bkt ltt ne0_t nec_t ⊢
  clear hv
  generalize (w4.alloc (.cells #[.slice A0 s0.M.W.length a0, .slice B0 s0.M.G.length b0, .bool s0.M.bad, .slice (some ⟨gC, oC, none⟩) s0.C.length c0, .slice L0 s0.L.length d0] 28)) = w5 at *
  have hnr := HRT.out
  simp only [coRight, coNear, near, Bool.and_eq_true, decide_eq_true_eq] at hnr
  obtain ⟨⟨⟨⟨⟨⟨⟨⟨hv0, hv1⟩, _⟩, hx0, hx1⟩, _⟩, _⟩, hl40⟩, hl200⟩, _⟩ := hnr
  have HM := hid (HF.out.2.2.2.2 x (List.mem_of_getElem? HX.out))
  have hL200 : s0.L.length ≤ 200 := HSM.out.2.2.2.1
  go_cut [10] from 29 (fun s wx => s = .pointer (some ⟨vt, 0, none⟩) ∧ Sw s0 k vc vt w3 wx)
  case first =>
    have m0_0 : w5.cell? ⟨v0, 0, none⟩ = some (.slice A0 s0.M.W.length a0) := cell_of_row w5 _ 0 _ _ _ Bk0
    have m0_1 : w5.cell? ⟨v0, 1, none⟩ = some (.slice B0 s0.M.G.length b0) := cell_of_row w5 _ 1 _ _ _ Bk0
    have m0_2 : w5.cell? ⟨v0, 2, none⟩ = some (.bool s0.M.bad) := cell_of_row w5 _ 2 _ _ _ Bk0
    have m0_3 : w5.cell? ⟨v0, 3, none⟩ = some (.slice (some ⟨gC, oC, none⟩) s0.C.length c0) := cell_of_row w5 _ 3 _ _ _ Bk0
    have m0_4 : w5.cell? ⟨v0, 4, none⟩ = some (.slice L0 s0.L.length d0) := cell_of_row w5 _ 4 _ _ _ Bk0
    have m0_f0 : w5.frozen? ⟨v0, 0, none⟩ = false := frozen_of_row w5 _ 0 _ _ Bk0
    have m0_f1 : w5.frozen? ⟨v0, 1, none⟩ = false := frozen_of_row w5 _ 1 _ _ Bk0
    have m0_f2 : w5.frozen? ⟨v0, 2, none⟩ = false := frozen_of_row w5 _ 2 _ _ Bk0
    have m0_f3 : w5.frozen? ⟨v0, 3, none⟩ = false := frozen_of_row w5 _ 3 _ _ Bk0
    have m0_f4 : w5.frozen? ⟨v0, 4, none⟩ = false := frozen_of_row w5 _ 4 _ _ Bk0
    have mc_0 : w5.cell? ⟨vc, 0, none⟩ = some (.slice AF x.F.length cF) := cell_of_row w5 _ 0 _ _ _ Bkc
    have mc_1 : w5.cell? ⟨vc, 1, none⟩ = some (.int .i64 x.v) := cell_of_row w5 _ 1 _ _ _ Bkc
    have mc_2 : w5.cell? ⟨vc, 2, none⟩ = some (.int .i64 x.e) := cell_of_row w5 _ 2 _ _ _ Bkc
    have mc_3 : w5.cell? ⟨vc, 3, none⟩ = some (.int .i64 x.x0) := cell_of_row w5 _ 3 _ _ _ Bkc
    have mc_4 : w5.cell? ⟨vc, 4, none⟩ = some (.int .i64 x.x1) := cell_of_row w5 _ 4 _ _ _ Bkc
    have mc_5 : w5.cell? ⟨vc, 5, none⟩ = some (.int .i64 x.x2) := cell_of_row w5 _ 5 _ _ _ Bkc
    have mc_6 : w5.cell? ⟨vc, 6, none⟩ = some (.slice AR x.ret.length cR) := cell_of_row w5 _ 6 _ _ _ Bkc
    have mc_f0 : w5.frozen? ⟨vc, 0, none⟩ = false := frozen_of_row w5 _ 0 _ _ Bkc
    have mc_f1 : w5.frozen? ⟨vc, 1, none⟩ = false := frozen_of_row w5 _ 1 _ _ Bkc
    have mc_f2 : w5.frozen? ⟨vc, 2, none⟩ = false := frozen_of_row w5 _ 2 _ _ Bkc
    have mc_f3 : w5.frozen? ⟨vc, 3, none⟩ = false := frozen_of_row w5 _ 3 _ _ Bkc
    have mc_f4 : w5.frozen? ⟨vc, 4, none⟩ = false := frozen_of_row w5 _ 4 _ _ Bkc
    have mc_f5 : w5.frozen? ⟨vc, 5, none⟩ = false := frozen_of_row w5 _ 5 _ _ Bkc
    have mc_f6 : w5.frozen? ⟨vc, 6, none⟩ = false := frozen_of_row w5 _ 6 _ _ Bkc
    have mt_0 : w5.cell? ⟨vt, 0, none⟩ = some (.slice A0 s0.M.W.length a0) := cell_of_row w5 _ 0 _ _ _ Bkt
    have mt_1 : w5.cell? ⟨vt, 1, none⟩ = some (.slice B0 s0.M.G.length b0) := cell_of_row w5 _ 1 _ _ _ Bkt
    have mt_2 : w5.cell? ⟨vt, 2, none⟩ = some (.bool s0.M.bad) := cell_of_row w5 _ 2 _ _ _ Bkt
    have mt_3 : w5.cell? ⟨vt, 3, none⟩ = some (.slice (some ⟨gC, oC, none⟩) s0.C.length c0) := cell_of_row w5 _ 3 _ _ _ Bkt
    have mt_4 : w5.cell? ⟨vt, 4, none⟩ = some (.slice L0 s0.L.length d0) := cell_of_row w5 _ 4 _ _ _ Bkt
    have mt_f0 : w5.frozen? ⟨vt, 0, none⟩ = false := frozen_of_row w5 _ 0 _ _ Bkt
    have mt_f1 : w5.frozen? ⟨vt, 1, none⟩ = false := frozen_of_row w5 _ 1 _ _ Bkt
    have mt_f2 : w5.frozen? ⟨vt, 2, none⟩ = false := frozen_of_row w5 _ 2 _ _ Bkt
    have mt_f3 : w5.frozen? ⟨vt, 3, none⟩ = false := frozen_of_row w5 _ 3 _ _ Bkt
    have mt_f4 : w5.frozen? ⟨vt, 4, none⟩ = false := frozen_of_row w5 _ 4 _ _ Bkt
    have hr : n2 % 7 = 0 ∨ n2 % 7 = 1 ∨ n2 % 7 = 2 ∨ n2 % 7 = 3 ∨ n2 % 7 = 4 ∨ n2 % 7 = 5 ∨ n2 % 7 = 6 := by omega
    rcases hr with hr | hr | hr | hr | hr | hr | hr
    · go_wp2_with fail
      go_meet
      have h9 : Below w3.heap.size w3 (w5.setCell ⟨vc, 1, none⟩ (.int .i64 (x.v + 1))) := hB.setCell (by exact nwc) _
      have hne9 := ne_with (x' := ⟨x.F, x.v + 1, x.e, x.x0, x.x1, x.x2, x.ret⟩) HX.out (fun h => by have h8 := congrArg Co.v h; simp only at h8; omega)
      exact ⟨rfl, ⟨⟨⟨x.F, x.v + 1, x.e, x.x0, x.x1, x.x2, x.ret⟩, s0, AF, AR, A0, B0, some ⟨gC, oC, none⟩, L0, cF, cR, a0, b0, c0, d0, blk_set Bkc 1 _, (blk_far (Ne.symm nec_t) 1 _).trans Bkt, T0.step h9, TF.step h9, TR.step h9, hcF, rfl, few_with HF.out HM.out, hne9.1, hne9.2⟩, h9⟩⟩
    · go_wp2_with fail
      go_meet
      have h9 : Below w3.heap.size w3 (w5.setCell ⟨vc, 2, none⟩ (.int .i64 (wrap64 (x.e + 1)))) := hB.setCell (by exact nwc) _
      have hne9 := ne_with (x' := ⟨x.F, x.v, wrap64 (x.e + 1), x.x0, x.x1, x.x2, x.ret⟩) HX.out (fun h => by have h8 := congrArg Co.e h; simp only at h8; unfold wrap64 at h8; omega)
      exact ⟨rfl, ⟨⟨⟨x.F, x.v, wrap64 (x.e + 1), x.x0, x.x1, x.x2, x.ret⟩, s0, AF, AR, A0, B0, some ⟨gC, oC, none⟩, L0, cF, cR, a0, b0, c0, d0, blk_set Bkc 2 _, (blk_far (Ne.symm nec_t) 2 _).trans Bkt, T0.step h9, TF.step h9, TR.step h9, hcF, rfl, few_with HF.out HM.out, hne9.1, hne9.2⟩, h9⟩⟩
    · have HSR := hid ((TR.step hB).src)
      go_wp2_with (first | (at_builtin; (refine wpList_append_any rfl _ _ _ rfl 3 _ 1 8 Try.underlying22 infoInt rfl (by omega) w5.heap.size rfl (heap_alloc_new _ _) AR cR (x.ret.map inCells) x.ret.length (by simp) rfl (HSR.out.step (boxed _ _)) (by omega) (by omega) ?_); intro v7 w7 ho7 hk7; obtain ⟨A7, c7, rfl⟩ := own_val ho7; have j7 : Below w5.heap.size w5 w7 := (boxed _ _).trans hk7) | (at_builtin; (refine wpList_append_onto rfl _ _ _ rfl (w5.heap.size) 3 _ 1 8 Try.underlying22 infoInt rfl (by omega) (.slice A7 x.ret.length c7) x.ret.length (x.ret.map inCells).flatten rfl (own_step ho7 (boxed _ _)) ⟨w7.heap.size, 0, none⟩ 1 1 [.int .i64 1] rfl rfl (World.news_of_block (heap_alloc_new _ _)) (by simp [Value.oneCell']) (by omega) (by omega) (by have h6 := hk7.size; simp at h6 ⊢; omega) ?_); intro v8 w8 ho8 hg8 hat8; obtain ⟨A8, c8, rfl⟩ := own_val ho8; have t8 : Below w5.heap.size w5 w8 := ((bstep j7 (boxed w7 _)).trans (below_grow hg8 (by have h6 := j7.size; simp; omega) (fun q e => by have h6 := (ho7.lt _ e).1; omega))); have z0 := (t8.block v0 lt0).trans Bk0; have zc := (t8.block vc ltc).trans Bkc; have zt := (t8.block vt ltt).trans Bkt; have z0_0 : w8.cell? ⟨v0, 0, none⟩ = some (.slice A0 s0.M.W.length a0) := cell_of_row w8 _ 0 _ _ _ z0; have z0_1 : w8.cell? ⟨v0, 1, none⟩ = some (.slice B0 s0.M.G.length b0) := cell_of_row w8 _ 1 _ _ _ z0; have z0_2 : w8.cell? ⟨v0, 2, none⟩ = some (.bool s0.M.bad) := cell_of_row w8 _ 2 _ _ _ z0; have z0_3 : w8.cell? ⟨v0, 3, none⟩ = some (.slice (some ⟨gC, oC, none⟩) s0.C.length c0) := cell_of_row w8 _ 3 _ _ _ z0; have z0_4 : w8.cell? ⟨v0, 4, none⟩ = some (.slice L0 s0.L.length d0) := cell_of_row w8 _ 4 _ _ _ z0; have z0_f0 : w8.frozen? ⟨v0, 0, none⟩ = false := frozen_of_row w8 _ 0 _ _ z0; have z0_f1 : w8.frozen? ⟨v0, 1, none⟩ = false := frozen_of_row w8 _ 1 _ _ z0; have z0_f2 : w8.frozen? ⟨v0, 2, none⟩ = false := frozen_of_row w8 _ 2 _ _ z0; have z0_f3 : w8.frozen? ⟨v0, 3, none⟩ = false := frozen_of_row w8 _ 3 _ _ z0; have z0_f4 : w8.frozen? ⟨v0, 4, none⟩ = false := frozen_of_row w8 _ 4 _ _ z0; have zc_0 : w8.cell? ⟨vc, 0, none⟩ = some (.slice AF x.F.length cF) := cell_of_row w8 _ 0 _ _ _ zc; have zc_1 : w8.cell? ⟨vc, 1, none⟩ = some (.int .i64 x.v) := cell_of_row w8 _ 1 _ _ _ zc; have zc_2 : w8.cell? ⟨vc, 2, none⟩ = some (.int .i64 x.e) := cell_of_row w8 _ 2 _ _ _ zc; have zc_3 : w8.cell? ⟨vc, 3, none⟩ = some (.int .i64 x.x0) := cell_of_row w8 _ 3 _ _ _ zc; have zc_4 : w8.cell? ⟨vc, 4, none⟩ = some (.int .i64 x.x1) := cell_of_row w8 _ 4 _ _ _ zc; have zc_5 : w8.cell? ⟨vc, 5, none⟩ = some (.int .i64 x.x2) := cell_of_row w8 _ 5 _ _ _ zc; have zc_6 : w8.cell? ⟨vc, 6, none⟩ = some (.slice AR x.ret.length cR) := cell_of_row w8 _ 6 _ _ _ zc; have zc_f0 : w8.frozen? ⟨vc, 0, none⟩ = false := frozen_of_row w8 _ 0 _ _ zc; have zc_f1 : w8.frozen? ⟨vc, 1, none⟩ = false := frozen_of_row w8 _ 1 _ _ zc; have zc_f2 : w8.frozen? ⟨vc, 2, none⟩ = false := frozen_of_row w8 _ 2 _ _ zc; have zc_f3 : w8.frozen? ⟨vc, 3, none⟩ = false := frozen_of_row w8 _ 3 _ _ zc; have zc_f4 : w8.frozen? ⟨vc, 4, none⟩ = false := frozen_of_row w8 _ 4 _ _ zc; have zc_f5 : w8.frozen? ⟨vc, 5, none⟩ = false := frozen_of_row w8 _ 5 _ _ zc; have zc_f6 : w8.frozen? ⟨vc, 6, none⟩ = false := frozen_of_row w8 _ 6 _ _ zc; have zt_0 : w8.cell? ⟨vt, 0, none⟩ = some (.slice A0 s0.M.W.length a0) := cell_of_row w8 _ 0 _ _ _ zt; have zt_1 : w8.cell? ⟨vt, 1, none⟩ = some (.slice B0 s0.M.G.length b0) := cell_of_row w8 _ 1 _ _ _ zt; have zt_2 : w8.cell? ⟨vt, 2, none⟩ = some (.bool s0.M.bad) := cell_of_row w8 _ 2 _ _ _ zt; have zt_3 : w8.cell? ⟨vt, 3, none⟩ = some (.slice (some ⟨gC, oC, none⟩) s0.C.length c0) := cell_of_row w8 _ 3 _ _ _ zt; have zt_4 : w8.cell? ⟨vt, 4, none⟩ = some (.slice L0 s0.L.length d0) := cell_of_row w8 _ 4 _ _ _ zt; have zt_f0 : w8.frozen? ⟨vt, 0, none⟩ = false := frozen_of_row w8 _ 0 _ _ zt; have zt_f1 : w8.frozen? ⟨vt, 1, none⟩ = false := frozen_of_row w8 _ 1 _ _ zt; have zt_f2 : w8.frozen? ⟨vt, 2, none⟩ = false := frozen_of_row w8 _ 2 _ _ zt; have zt_f3 : w8.frozen? ⟨vt, 3, none⟩ = false := frozen_of_row w8 _ 3 _ _ zt; have zt_f4 : w8.frozen? ⟨vt, 4, none⟩ = false := frozen_of_row w8 _ 4 _ _ zt))
      go_meet
      have hn8 : ∀ q, Value.ownBlock (.slice A8 (x.ret.length + 1) c8) = some q → w5.heap.size ≤ q := fun q hq => (ho8.lt q hq).1
      have hc8 := own_cap ho8
      have h9 : Below w3.heap.size w3 (w8.setCell ⟨vc, 6, none⟩ (.slice A8 (x.ret.length + 1) c8)) := (bstep hB t8).setCell (by exact nwc) _
      have tt : Turn (fun b => b = vc) w8 (w8.setCell ⟨vc, 6, none⟩ (.slice A8 (x.ret.length + 1) c8)) := Turn.set (p := fun b => b = vc) (Turn.refl _ _) rfl _ _
      have ho9 := own_turn ho8 tt (fun q hq e => by have h6 := hn8 q hq; have h7 := ltc; omega)
      have e9 : (x.ret.map inCells).flatten ++ [.int .i64 1] = ((x.ret ++ [1]).map inCells).flatten := by simp [inCells]
      rw [e9] at ho9
      obtain ⟨A9, c9, e8, hs9⟩ := own_src ho9 (fun c hc => by simp at hc; rcases hc with ⟨_, _, rfl⟩ | rfl <;> rfl) (by simp) (fun c hc v hv => by simp at hc; rcases hc with ⟨_, _, rfl⟩ | rfl <;> (simp [inCells] at hv; subst hv; rfl))
      obtain ⟨rfl, rfl⟩ : A8 = A9 ∧ c8 = c9 := by simpa using e8
      have hne9 := ne_with (x' := ⟨x.F, x.v, x.e, x.x0, x.x1, x.x2, x.ret ++ [1]⟩) HX.out (fun h => by have h6 := congrArg (fun y => y.ret.length) h; simp at h6)
      exact ⟨rfl, ⟨⟨⟨x.F, x.v, x.e, x.x0, x.x1, x.x2, x.ret ++ [1]⟩, s0, AF, A8, A0, B0, some ⟨gC, oC, none⟩, L0, cF, c8, a0, b0, c0, d0, by have h6 := blk_set zc 6 (.slice A8 (x.ret.length + 1) c8); simpa using h6, (blk_far (Ne.symm nec_t) 6 _).trans zt, T0.step h9, TF.step h9, hs9.row, hcF, rfl, few_with HF.out ⟨by have h6 := HM.out.1; simp; omega, HM.out.2⟩, hne9.1, hne9.2⟩, h9⟩⟩
    · obtain ⟨ps, hp, hsF, h8, hSr⟩ := TF.src
      have HSR := hid (hsF.step hB)
      have HP := hid hp
      have H8 := hid h8
      have HSr := hid hSr
      clear hp hsF h8 hSr
      go_wp2_with (first | (at_builtin; (refine wpList_append_any rfl _ _ _ rfl 42 _ 11 104 Try.underlying62 infoFr rfl (by omega) w5.heap.size rfl (heap_alloc_new _ _) AF cF (fsCells x.F ps) x.F.length (fsCells_len HP.out) rfl (HSR.out.step (boxed _ _)) (by omega) (by omega) ?_); intro v7 w7 ho7 hk7; obtain ⟨A7, c7, rfl⟩ := own_val ho7; have j7 : Below w5.heap.size w5 w7 := (boxed _ _).trans hk7) | (at_builtin; (refine wpList_append_onto rfl _ _ _ rfl (w5.heap.size) 42 _ 11 104 Try.underlying62 infoFr rfl (by omega) (.slice A7 x.F.length c7) x.F.length (fsCells x.F ps).flatten rfl (own_step ho7 (boxed _ _)) ⟨w7.heap.size, 0, none⟩ 1 1 [.int .i64 0, .int .i64 0, .int .i64 0, .int .i64 0, .int .i64 0, .int .i64 0, .int .i64 0, .int .i64 0, .int .i64 0, .int .i64 0, .slice none 0 0] rfl rfl (World.news_of_block (heap_alloc_new _ _)) (frCells_one ⟨0, 0, [0, 0, 0, 0, 0, 0, 0, 0], []⟩ (none, 0)) (by omega) (by omega) (by have h6 := hk7.size; simp at h6 ⊢; omega) ?_); intro v8 w8 ho8 hg8 hat8; obtain ⟨A8, c8, rfl⟩ := own_val ho8; have t8 : Below w5.heap.size w5 w8 := ((bstep j7 (boxed w7 _)).trans (below_grow hg8 (by have h6 := j7.size; simp; omega) (fun q e => by have h6 := (ho7.lt _ e).1; omega))); have z0 := (t8.block v0 lt0).trans Bk0; have zc := (t8.block vc ltc).trans Bkc; have zt := (t8.block vt ltt).trans Bkt; have z0_0 : w8.cell? ⟨v0, 0, none⟩ = some (.slice A0 s0.M.W.length a0) := cell_of_row w8 _ 0 _ _ _ z0; have z0_1 : w8.cell? ⟨v0, 1, none⟩ = some (.slice B0 s0.M.G.length b0) := cell_of_row w8 _ 1 _ _ _ z0; have z0_2 : w8.cell? ⟨v0, 2, none⟩ = some (.bool s0.M.bad) := cell_of_row w8 _ 2 _ _ _ z0; have z0_3 : w8.cell? ⟨v0, 3, none⟩ = some (.slice (some ⟨gC, oC, none⟩) s0.C.length c0) := cell_of_row w8 _ 3 _ _ _ z0; have z0_4 : w8.cell? ⟨v0, 4, none⟩ = some (.slice L0 s0.L.length d0) := cell_of_row w8 _ 4 _ _ _ z0; have z0_f0 : w8.frozen? ⟨v0, 0, none⟩ = false := frozen_of_row w8 _ 0 _ _ z0; have z0_f1 : w8.frozen? ⟨v0, 1, none⟩ = false := frozen_of_row w8 _ 1 _ _ z0; have z0_f2 : w8.frozen? ⟨v0, 2, none⟩ = false := frozen_of_row w8 _ 2 _ _ z0; have z0_f3 : w8.frozen? ⟨v0, 3, none⟩ = false := frozen_of_row w8 _ 3 _ _ z0; have z0_f4 : w8.frozen? ⟨v0, 4, none⟩ = false := frozen_of_row w8 _ 4 _ _ z0; have zc_0 : w8.cell? ⟨vc, 0, none⟩ = some (.slice AF x.F.length cF) := cell_of_row w8 _ 0 _ _ _ zc; have zc_1 : w8.cell? ⟨vc, 1, none⟩ = some (.int .i64 x.v) := cell_of_row w8 _ 1 _ _ _ zc; have zc_2 : w8.cell? ⟨vc, 2, none⟩ = some (.int .i64 x.e) := cell_of_row w8 _ 2 _ _ _ zc; have zc_3 : w8.cell? ⟨vc, 3, none⟩ = some (.int .i64 x.x0) := cell_of_row w8 _ 3 _ _ _ zc; have zc_4 : w8.cell? ⟨vc, 4, none⟩ = some (.int .i64 x.x1) := cell_of_row w8 _ 4 _ _ _ zc; have zc_5 : w8.cell? ⟨vc, 5, none⟩ = some (.int .i64 x.x2) := cell_of_row w8 _ 5 _ _ _ zc; have zc_6 : w8.cell? ⟨vc, 6, none⟩ = some (.slice AR x.ret.length cR) := cell_of_row w8 _ 6 _ _ _ zc; have zc_f0 : w8.frozen? ⟨vc, 0, none⟩ = false := frozen_of_row w8 _ 0 _ _ zc; have zc_f1 : w8.frozen? ⟨vc, 1, none⟩ = false := frozen_of_row w8 _ 1 _ _ zc; have zc_f2 : w8.frozen? ⟨vc, 2, none⟩ = false := frozen_of_row w8 _ 2 _ _ zc; have zc_f3 : w8.frozen? ⟨vc, 3, none⟩ = false := frozen_of_row w8 _ 3 _ _ zc; have zc_f4 : w8.frozen? ⟨vc, 4, none⟩ = false := frozen_of_row w8 _ 4 _ _ zc; have zc_f5 : w8.frozen? ⟨vc, 5, none⟩ = false := frozen_of_row w8 _ 5 _ _ zc; have zc_f6 : w8.frozen? ⟨vc, 6, none⟩ = false := frozen_of_row w8 _ 6 _ _ zc; have zt_0 : w8.cell? ⟨vt, 0, none⟩ = some (.slice A0 s0.M.W.length a0) := cell_of_row w8 _ 0 _ _ _ zt; have zt_1 : w8.cell? ⟨vt, 1, none⟩ = some (.slice B0 s0.M.G.length b0) := cell_of_row w8 _ 1 _ _ _ zt; have zt_2 : w8.cell? ⟨vt, 2, none⟩ = some (.bool s0.M.bad) := cell_of_row w8 _ 2 _ _ _ zt; have zt_3 : w8.cell? ⟨vt, 3, none⟩ = some (.slice (some ⟨gC, oC, none⟩) s0.C.length c0) := cell_of_row w8 _ 3 _ _ _ zt; have zt_4 : w8.cell? ⟨vt, 4, none⟩ = some (.slice L0 s0.L.length d0) := cell_of_row w8 _ 4 _ _ _ zt; have zt_f0 : w8.frozen? ⟨vt, 0, none⟩ = false := frozen_of_row w8 _ 0 _ _ zt; have zt_f1 : w8.frozen? ⟨vt, 1, none⟩ = false := frozen_of_row w8 _ 1 _ _ zt; have zt_f2 : w8.frozen? ⟨vt, 2, none⟩ = false := frozen_of_row w8 _ 2 _ _ zt; have zt_f3 : w8.frozen? ⟨vt, 3, none⟩ = false := frozen_of_row w8 _ 3 _ _ zt; have zt_f4 : w8.frozen? ⟨vt, 4, none⟩ = false := frozen_of_row w8 _ 4 _ _ zt))
      go_meet
      have hn8 : ∀ q, Value.ownBlock (.slice A8 (x.F.length + 1) c8) = some q → w5.heap.size ≤ q := fun q hq => (ho8.lt q hq).1
      have hc8 := own_cap ho8
      have h9 : Below w3.heap.size w3 (w8.setCell ⟨vc, 0, none⟩ (.slice A8 (x.F.length + 1) c8)) := (bstep hB t8).setCell (by exact nwc) _
      have tt : Turn (fun b => b = vc) w8 (w8.setCell ⟨vc, 0, none⟩ (.slice A8 (x.F.length + 1) c8)) := Turn.set (p := fun b => b = vc) (Turn.refl _ _) rfl _ _
      have ho9 := own_turn ho8 tt (fun q hq e => by have h6 := hn8 q hq; have h7 := ltc; omega)
      have rN := callF_row (w := w3) (f := ⟨0, 0, [0, 0, 0, 0, 0, 0, 0, 0], []⟩) ho9 H8.out HP.out rfl rfl HSr.out h9
      have hne9 := ne_with (x' := ⟨x.F ++ [⟨0, 0, [0, 0, 0, 0, 0, 0, 0, 0], []⟩], x.v, x.e, x.x0, x.x1, x.x2, x.ret⟩) HX.out (fun h => by have h6 := congrArg (fun y => y.F.length) h; simp at h6)
      have h40 : x.F.length ≤ 1000000 := HM.out.2.1
      exact ⟨rfl, ⟨⟨⟨x.F ++ [⟨0, 0, [0, 0, 0, 0, 0, 0, 0, 0], []⟩], x.v, x.e, x.x0, x.x1, x.x2, x.ret⟩, s0, A8, AR, A0, B0, some ⟨gC, oC, none⟩, L0, c8, cR, a0, b0, c0, d0, by have h6 := blk_set zc 0 (.slice A8 (x.F.length + 1) c8); simpa using h6, (blk_far (Ne.symm nec_t) 0 _).trans zt, T0.step h9, rN, TR.step h9, by simpa using hc8, rfl, few_with HF.out ⟨HM.out.1, by simp; omega, fun f hf => by rcases List.mem_append.1 hf with h6 | h6; exact HM.out.2.2 f h6; simp at h6; subst h6; simp⟩, hne9.1, hne9.2⟩, h9⟩⟩
    · go_wp2_with fail
      go_meet
      have h9 : Below w3.heap.size w3 (w5.setCell ⟨vc, 4, none⟩ (.int .i64 (x.x1 + 1))) := hB.setCell (by exact nwc) _
      have hne9 := ne_with (x' := ⟨x.F, x.v, x.e, x.x0, x.x1 + 1, x.x2, x.ret⟩) HX.out (fun h => by have h8 := congrArg Co.x1 h; simp only at h8; omega)
      exact ⟨rfl, ⟨⟨⟨x.F, x.v, x.e, x.x0, x.x1 + 1, x.x2, x.ret⟩, s0, AF, AR, A0, B0, some ⟨gC, oC, none⟩, L0, cF, cR, a0, b0, c0, d0, blk_set Bkc 4 _, (blk_far (Ne.symm nec_t) 4 _).trans Bkt, T0.step h9, TF.step h9, TR.step h9, hcF, rfl, few_with HF.out HM.out, hne9.1, hne9.2⟩, h9⟩⟩
    · have HSR := hid ((T0.L.step hB).src)
      go_wp2_with (first | (at_builtin; (refine wpList_append_any rfl _ _ _ rfl 56 _ 5 40 Try.underlying26 infoEv rfl (by omega) w5.heap.size rfl (heap_alloc_new _ _) L0 d0 (s0.L.map evCells) s0.L.length (by simp) rfl (HSR.out.step (boxed _ _)) (by omega) (by omega) ?_); intro v7 w7 ho7 hk7; obtain ⟨A7, c7, rfl⟩ := own_val ho7; have j7 : Below w5.heap.size w5 w7 := (boxed _ _).trans hk7) | (at_builtin; (refine wpList_append_onto rfl _ _ _ rfl (w5.heap.size) 56 _ 5 40 Try.underlying26 infoEv rfl (by omega) (.slice A7 s0.L.length c7) s0.L.length (s0.L.map evCells).flatten rfl (own_step ho7 (boxed _ _)) ⟨w7.heap.size, 0, none⟩ 1 1 [.int .i64 0, .int .i64 0, .int .i64 0, .int .i64 0, .int .i64 0] rfl rfl (World.news_of_block (heap_alloc_new _ _)) (evCells_one ⟨0, 0, 0, 0, 0⟩) (by omega) (by omega) (by have h6 := hk7.size; simp at h6 ⊢; omega) ?_); intro v8 w8 ho8 hg8 hat8; obtain ⟨A8, c8, rfl⟩ := own_val ho8; have t8 : Below w5.heap.size w5 w8 := ((bstep j7 (boxed w7 _)).trans (below_grow hg8 (by have h6 := j7.size; simp; omega) (fun q e => by have h6 := (ho7.lt _ e).1; omega))); have z0 := (t8.block v0 lt0).trans Bk0; have zc := (t8.block vc ltc).trans Bkc; have zt := (t8.block vt ltt).trans Bkt; have z0_0 : w8.cell? ⟨v0, 0, none⟩ = some (.slice A0 s0.M.W.length a0) := cell_of_row w8 _ 0 _ _ _ z0; have z0_1 : w8.cell? ⟨v0, 1, none⟩ = some (.slice B0 s0.M.G.length b0) := cell_of_row w8 _ 1 _ _ _ z0; have z0_2 : w8.cell? ⟨v0, 2, none⟩ = some (.bool s0.M.bad) := cell_of_row w8 _ 2 _ _ _ z0; have z0_3 : w8.cell? ⟨v0, 3, none⟩ = some (.slice (some ⟨gC, oC, none⟩) s0.C.length c0) := cell_of_row w8 _ 3 _ _ _ z0; have z0_4 : w8.cell? ⟨v0, 4, none⟩ = some (.slice L0 s0.L.length d0) := cell_of_row w8 _ 4 _ _ _ z0; have z0_f0 : w8.frozen? ⟨v0, 0, none⟩ = false := frozen_of_row w8 _ 0 _ _ z0; have z0_f1 : w8.frozen? ⟨v0, 1, none⟩ = false := frozen_of_row w8 _ 1 _ _ z0; have z0_f2 : w8.frozen? ⟨v0, 2, none⟩ = false := frozen_of_row w8 _ 2 _ _ z0; have z0_f3 : w8.frozen? ⟨v0, 3, none⟩ = false := frozen_of_row w8 _ 3 _ _ z0; have z0_f4 : w8.frozen? ⟨v0, 4, none⟩ = false := frozen_of_row w8 _ 4 _ _ z0; have zc_0 : w8.cell? ⟨vc, 0, none⟩ = some (.slice AF x.F.length cF) := cell_of_row w8 _ 0 _ _ _ zc; have zc_1 : w8.cell? ⟨vc, 1, none⟩ = some (.int .i64 x.v) := cell_of_row w8 _ 1 _ _ _ zc; have zc_2 : w8.cell? ⟨vc, 2, none⟩ = some (.int .i64 x.e) := cell_of_row w8 _ 2 _ _ _ zc; have zc_3 : w8.cell? ⟨vc, 3, none⟩ = some (.int .i64 x.x0) := cell_of_row w8 _ 3 _ _ _ zc; have zc_4 : w8.cell? ⟨vc, 4, none⟩ = some (.int .i64 x.x1) := cell_of_row w8 _ 4 _ _ _ zc; have zc_5 : w8.cell? ⟨vc, 5, none⟩ = some (.int .i64 x.x2) := cell_of_row w8 _ 5 _ _ _ zc; have zc_6 : w8.cell? ⟨vc, 6, none⟩ = some (.slice AR x.ret.length cR) := cell_of_row w8 _ 6 _ _ _ zc; have zc_f0 : w8.frozen? ⟨vc, 0, none⟩ = false := frozen_of_row w8 _ 0 _ _ zc; have zc_f1 : w8.frozen? ⟨vc, 1, none⟩ = false := frozen_of_row w8 _ 1 _ _ zc; have zc_f2 : w8.frozen? ⟨vc, 2, none⟩ = false := frozen_of_row w8 _ 2 _ _ zc; have zc_f3 : w8.frozen? ⟨vc, 3, none⟩ = false := frozen_of_row w8 _ 3 _ _ zc; have zc_f4 : w8.frozen? ⟨vc, 4, none⟩ = false := frozen_of_row w8 _ 4 _ _ zc; have zc_f5 : w8.frozen? ⟨vc, 5, none⟩ = false := frozen_of_row w8 _ 5 _ _ zc; have zc_f6 : w8.frozen? ⟨vc, 6, none⟩ = false := frozen_of_row w8 _ 6 _ _ zc; have zt_0 : w8.cell? ⟨vt, 0, none⟩ = some (.slice A0 s0.M.W.length a0) := cell_of_row w8 _ 0 _ _ _ zt; have zt_1 : w8.cell? ⟨vt, 1, none⟩ = some (.slice B0 s0.M.G.length b0) := cell_of_row w8 _ 1 _ _ _ zt; have zt_2 : w8.cell? ⟨vt, 2, none⟩ = some (.bool s0.M.bad) := cell_of_row w8 _ 2 _ _ _ zt; have zt_3 : w8.cell? ⟨vt, 3, none⟩ = some (.slice (some ⟨gC, oC, none⟩) s0.C.length c0) := cell_of_row w8 _ 3 _ _ _ zt; have zt_4 : w8.cell? ⟨vt, 4, none⟩ = some (.slice L0 s0.L.length d0) := cell_of_row w8 _ 4 _ _ _ zt; have zt_f0 : w8.frozen? ⟨vt, 0, none⟩ = false := frozen_of_row w8 _ 0 _ _ zt; have zt_f1 : w8.frozen? ⟨vt, 1, none⟩ = false := frozen_of_row w8 _ 1 _ _ zt; have zt_f2 : w8.frozen? ⟨vt, 2, none⟩ = false := frozen_of_row w8 _ 2 _ _ zt; have zt_f3 : w8.frozen? ⟨vt, 3, none⟩ = false := frozen_of_row w8 _ 3 _ _ zt; have zt_f4 : w8.frozen? ⟨vt, 4, none⟩ = false := frozen_of_row w8 _ 4 _ _ zt))
      go_meet
      have hn8 : ∀ q, Value.ownBlock (.slice A8 (s0.L.length + 1) c8) = some q → w5.heap.size ≤ q := fun q hq => (ho8.lt q hq).1
      have hc8 := own_cap ho8
      have h9 : Below w3.heap.size w3 (w8.setCell ⟨vt, 4, none⟩ (.slice A8 (s0.L.length + 1) c8)) := (bstep hB t8).setCell (by exact nwt) _
      have tt : Turn (fun b => b = vt) w8 (w8.setCell ⟨vt, 4, none⟩ (.slice A8 (s0.L.length + 1) c8)) := Turn.set (p := fun b => b = vt) (Turn.refl _ _) rfl _ _
      have ho9 := own_turn ho8 tt (fun q hq e => by have h6 := hn8 q hq; have h7 := ltt; omega)
      have e9 : (s0.L.map evCells).flatten ++ [.int .i64 0, .int .i64 0, .int .i64 0, .int .i64 0, .int .i64 0] = ((s0.L ++ [(⟨0, 0, 0, 0, 0⟩ : Evt)]).map evCells).flatten := by simp [evCells]
      rw [e9] at ho9
      have e7 : s0.L.length + 1 = (s0.L ++ [(⟨0, 0, 0, 0, 0⟩ : Evt)]).length := by simp
      rw [e7] at ho9
      obtain ⟨A9, c9, e8, r9⟩ := ev_told ho9
      obtain ⟨rfl, rfl⟩ : A8 = A9 ∧ c8 = c9 := by simpa using e8
      rw [← e7] at r9
      have hne9 := ne_log (s := s0) (k := k) (x := x) (e := ⟨0, 0, 0, 0, 0⟩)
      refine ⟨rfl, ⟨⟨x, ⟨s0.M, s0.C, s0.L ++ [⟨0, 0, 0, 0, 0⟩]⟩, AF, AR, A0, B0, some ⟨gC, oC, none⟩, A8, cF, cR, a0, b0, c0, c8, (blk_far nec_t 4 _).trans zc, by have h6 := blk_set zt 4 (.slice A8 (s0.L.length + 1) c8); simpa using h6, ⟨(T0.step h9).W, (T0.step h9).G, (T0.step h9).C, r9⟩, TF.step h9, TR.step h9, hcF, rfl, ?_, hne9.1, hne9.2⟩, h9⟩⟩
      have h6 := few_with (k := k) HF.out HM.out
      exact ⟨h6.1, h6.2.1, h6.2.2.1, by simp [syWith]; omega, h6.2.2.2.2⟩
    · go_wp2_with fail
      go_meet
      have h9 : Below w3.heap.size w3 (w5.setCell ⟨vt, 2, none⟩ (.bool (!s0.M.bad))) := hB.setCell (by exact nwt) _
      have hne9 := ne_bad (s := s0) (k := k) (x := x)
      refine ⟨rfl, ⟨⟨x, ⟨⟨s0.M.W, s0.M.G, !s0.M.bad⟩, s0.C, s0.L⟩, AF, AR, A0, B0, some ⟨gC, oC, none⟩, L0, cF, cR, a0, b0, c0, d0, (blk_far nec_t 2 _).trans Bkc, blk_set Bkt 2 _, ⟨(T0.step h9).W, (T0.step h9).G, (T0.step h9).C, (T0.step h9).L⟩, TF.step h9, TR.step h9, hcF, rfl, ?_, hne9.1, hne9.2⟩, h9⟩⟩
      have h6 := few_with (k := k) HF.out HM.out
      exact ⟨h6.1, h6.2.1, h6.2.2.1, h6.2.2.2.1, h6.2.2.2.2⟩
  case rest =>
    obtain ⟨rfl, ⟨⟨x9, t9, F9, R9, A9, B9, C9, L9, f9, r9, a9, b9, c9, d9, kc, kt, rs, rf, rr, hcap, hlen, hfew, hs1, hs2⟩, hB9⟩⟩ := hcut
    have HLEN := hid hlen
    have kl9 : k < t9.C.length := by rw [hlen]; exact hkl
    have hC9 : t9.C.length ≤ 1000000 := by rw [hlen]; have h6 := HF.out.2.2.1; omega
    clear hlen
    have hb9 : Below w0.heap.size w0 wc := bstep hbB hB9
    have k0 := (hB9.block v0 z0).trans ((hB.block v0 z0).symm.trans Bk0)
    have zt : vt < wc.heap.size := World.block_lt_of_cell? wc ⟨vt, 0, none⟩ (cell_of_row wc _ 0 _ _ _ kt)
    have zv : v0 < wc.heap.size := World.block_lt_of_cell? wc ⟨v0, 0, none⟩ (cell_of_row wc _ 0 _ _ _ k0)
    have cc0 : wc.cell? ⟨vc, 0, none⟩ = some (.slice F9 x9.F.length f9) := cell_of_row wc _ 0 _ _ _ kc
    have cc1 : wc.cell? ⟨vc, 1, none⟩ = some (.int .i64 x9.v) := cell_of_row wc _ 1 _ _ _ kc
    have cc2 : wc.cell? ⟨vc, 2, none⟩ = some (.int .i64 x9.e) := cell_of_row wc _ 2 _ _ _ kc
    have cc3 : wc.cell? ⟨vc, 3, none⟩ = some (.int .i64 x9.x0) := cell_of_row wc _ 3 _ _ _ kc
    have cc4 : wc.cell? ⟨vc, 4, none⟩ = some (.int .i64 x9.x1) := cell_of_row wc _ 4 _ _ _ kc
    have cc5 : wc.cell? ⟨vc, 5, none⟩ = some (.int .i64 x9.x2) := cell_of_row wc _ 5 _ _ _ kc
    have cc6 : wc.cell? ⟨vc, 6, none⟩ = some (.slice R9 x9.ret.length r9) := cell_of_row wc _ 6 _ _ _ kc
    have tc0 : wc.cell? ⟨vt, 0, none⟩ = some (.slice A9 t9.M.W.length a9) := cell_of_row wc _ 0 _ _ _ kt
    have tc1 : wc.cell? ⟨vt, 1, none⟩ = some (.slice B9 t9.M.G.length b9) := cell_of_row wc _ 1 _ _ _ kt
    have tc2 : wc.cell? ⟨vt, 2, none⟩ = some (.bool t9.M.bad) := cell_of_row wc _ 2 _ _ _ kt
    have tc3 : wc.cell? ⟨vt, 3, none⟩ = some (.slice C9 t9.C.length c9) := cell_of_row wc _ 3 _ _ _ kt
    have tc4 : wc.cell? ⟨vt, 4, none⟩ = some (.slice L9 t9.L.length d9) := cell_of_row wc _ 4 _ _ _ kt
    go_wp2_with fail
    have h := rwith_any A9 B9 C9 L9 a9 b9 c9 d9 t9 k F9 R9 f9 r9 x9 wc rs.W rs.G rs.C rs.L hC9 rf rr kl9 hcap
    obtain ⟨t2, ht2⟩ : ∃ t, t = syWith t9 k x9 := ⟨_, rfl⟩
    rw [← ht2] at h hfew hs1 hs2
    refine h.mono ?_
    clear h ht2
    rintro e w10 ⟨A2, B2, C2, L2, a2, b2, c2, d2, rfl, rW, rG, rC, rL, hk⟩
    have T0b : RS w10 s0 A0 B0 (some ⟨gC, oC, none⟩) L0 := T0.step (bstep hB9 hk)
    have N9 := noInt_sys ((hk.block vt zt).trans kt)
    have kt9 := (hk.block vt zt).trans kt
    have kv9 := (hk.block v0 zv).trans k0
    have zt9 := Nat.lt_of_lt_of_le zt hk.size
    have zv9 := Nat.lt_of_lt_of_le zv hk.size
    replace hb9 := bstep hb9 hk
    have q0 : w10.cell? ⟨vt, 0, none⟩ = some (.slice A9 t9.M.W.length a9) := cell_of_row w10 _ 0 _ _ _ kt9
    have q1 : w10.cell? ⟨vt, 1, none⟩ = some (.slice B9 t9.M.G.length b9) := cell_of_row w10 _ 1 _ _ _ kt9
    have q2 : w10.cell? ⟨vt, 2, none⟩ = some (.bool t9.M.bad) := cell_of_row w10 _ 2 _ _ _ kt9
    have q3 : w10.cell? ⟨vt, 3, none⟩ = some (.slice C9 t9.C.length c9) := cell_of_row w10 _ 3 _ _ _ kt9
    have q4 : w10.cell? ⟨vt, 4, none⟩ = some (.slice L9 t9.L.length d9) := cell_of_row w10 _ 4 _ _ _ kt9
    have qf0 : w10.frozen? ⟨vt, 0, none⟩ = false := frozen_of_row w10 _ 0 _ _ kt9
    have qf1 : w10.frozen? ⟨vt, 1, none⟩ = false := frozen_of_row w10 _ 1 _ _ kt9
    have qf2 : w10.frozen? ⟨vt, 2, none⟩ = false := frozen_of_row w10 _ 2 _ _ kt9
    have qf3 : w10.frozen? ⟨vt, 3, none⟩ = false := frozen_of_row w10 _ 3 _ _ kt9
    have qf4 : w10.frozen? ⟨vt, 4, none⟩ = false := frozen_of_row w10 _ 4 _ _ kt9
    go_upto_region 23 with (fail)
    have tt : Turn (fun b => b = vt) w10 (((((w10.setCell ⟨vt, 0, none⟩ (.slice A2 t2.M.W.length a2)).setCell ⟨vt, 1, none⟩ (.slice B2 t2.M.G.length b2)).setCell ⟨vt, 2, none⟩ (.bool t2.M.bad)).setCell ⟨vt, 3, none⟩ (.slice C2 t2.C.length c2)).setCell ⟨vt, 4, none⟩ (.slice L2 t2.L.length d2)) := turn5 _ _ _ _ _ _ _
    have S0 := RS.mk (T0b.W.turnN tt N9) (T0b.G.turnN tt N9) (T0b.C.turnN tt N9) (T0b.L.turnN tt N9)
    have S2 := RS.mk (s := t2) (rW.turnN tt N9) (rG.turnN tt N9) (rC.turnN tt N9) (rL.turnN tt N9)
    have Bkt : (((((w10.setCell ⟨vt, 0, none⟩ (.slice A2 t2.M.W.length a2)).setCell ⟨vt, 1, none⟩ (.slice B2 t2.M.G.length b2)).setCell ⟨vt, 2, none⟩ (.bool t2.M.bad)).setCell ⟨vt, 3, none⟩ (.slice C2 t2.C.length c2)).setCell ⟨vt, 4, none⟩ (.slice L2 t2.L.length d2)).heap[vt]? = some (.cells #[.slice A2 t2.M.W.length a2, .slice B2 t2.M.G.length b2, .bool t2.M.bad, .slice C2 t2.C.length c2, .slice L2 t2.L.length d2] 28 (0, 0)) := (blk_set (blk_set (blk_set (blk_set (blk_set kt9 0 (.slice A2 t2.M.W.length a2)) 1 (.slice B2 t2.M.G.length b2)) 2 (.bool t2.M.bad)) 3 (.slice C2 t2.C.length c2)) 4 (.slice L2 t2.L.length d2))
    have Bk0 := (tt.block v0 zv9 ne0_t).trans kv9
    have ltt := Nat.lt_of_lt_of_le zt9 tt.size
    have lt0 := Nat.lt_of_lt_of_le zv9 tt.size
    have hb := hb9.trans (tt.to_below hb9.size (fun g hg => by have h6 := hbB.size; omega))
    clear tt N9 kt9 kv9 zt9 zv9 hb9 q0 qf0 q1 qf1 q2 qf2 q3 qf3 q4 qf4
    generalize (((((w10.setCell ⟨vt, 0, none⟩ (.slice A2 t2.M.W.length a2)).setCell ⟨vt, 1, none⟩ (.slice B2 t2.M.G.length b2)).setCell ⟨vt, 2, none⟩ (.bool t2.M.bad)).setCell ⟨vt, 3, none⟩ (.slice C2 t2.C.length c2)).setCell ⟨vt, 4, none⟩ (.slice L2 t2.L.length d2)) = w30 at *
    have HA1 := hid (show ∀ w, RS w s0 A0 B0 (some ⟨gC, oC, none⟩) L0 → RS w t2 A2 B2 C2 L2 → Calls Try.prog 22 #[.agg #[.slice A0 s0.M.W.length a0, .slice B0 s0.M.G.length b0, .bool s0.M.bad, .slice (some ⟨gC, oC, none⟩) s0.C.length c0, .slice L0 s0.L.length d0], .agg #[.slice A2 t2.M.W.length a2, .slice B2 t2.M.G.length b2, .bool t2.M.bad, .slice C2 t2.C.length c2, .slice L2 t2.L.length d2]] w fun e w' => e = .returned (.bool false) ∧ Below w.heap.size w w' from fun w h h' => by have := same_u A0 B0 (some ⟨gC, oC, none⟩) L0 A2 B2 C2 L2 a0 b0 c0 d0 a2 b2 c2 d2 s0 t2 w HF.out h h'; rwa [hs1] at this)
    have HA2 := hid (show ∀ w, RS w t2 A2 B2 C2 L2 → RS w s0 A0 B0 (some ⟨gC, oC, none⟩) L0 → Calls Try.prog 22 #[.agg #[.slice A2 t2.M.W.length a2, .slice B2 t2.M.G.length b2, .bool t2.M.bad, .slice C2 t2.C.length c2, .slice L2 t2.L.length d2], .agg #[.slice A0 s0.M.W.length a0, .slice B0 s0.M.G.length b0, .bool s0.M.bad, .slice (some ⟨gC, oC, none⟩) s0.C.length c0, .slice L0 s0.L.length d0]] w fun e w' => e = .returned (.bool false) ∧ Below w.heap.size w w' from fun w h h' => by have := same_u A2 B2 C2 L2 A0 B0 (some ⟨gC, oC, none⟩) L0 a2 b2 c2 d2 a0 b0 c0 d0 t2 s0 w hfew h h'; rwa [hs2] at this)
    have HA3 := hid (show ∀ w, RS w t2 A2 B2 C2 L2 → RS w t2 A2 B2 C2 L2 → Calls Try.prog 22 #[.agg #[.slice A2 t2.M.W.length a2, .slice B2 t2.M.G.length b2, .bool t2.M.bad, .slice C2 t2.C.length c2, .slice L2 t2.L.length d2], .agg #[.slice A2 t2.M.W.length a2, .slice B2 t2.M.G.length b2, .bool t2.M.bad, .slice C2 t2.C.length c2, .slice L2 t2.L.length d2]] w fun e w' => e = .returned (.bool true) ∧ Below w.heap.size w w' from fun w h h' => by have := same_u A2 B2 C2 L2 A2 B2 C2 L2 a2 b2 c2 d2 a2 b2 c2 d2 t2 t2 w hfew h h'; rwa [sySame_self] at this)
    clear hs1 hs2 hfew
    have m0_0 : w30.cell? ⟨v0, 0, none⟩ = some (.slice A0 s0.M.W.length a0) := cell_of_row w30 _ 0 _ _ _ Bk0
    have m0_1 : w30.cell? ⟨v0, 1, none⟩ = some (.slice B0 s0.M.G.length b0) := cell_of_row w30 _ 1 _ _ _ Bk0
    have m0_2 : w30.cell? ⟨v0, 2, none⟩ = some (.bool s0.M.bad) := cell_of_row w30 _ 2 _ _ _ Bk0
    have m0_3 : w30.cell? ⟨v0, 3, none⟩ = some (.slice (some ⟨gC, oC, none⟩) s0.C.length c0) := cell_of_row w30 _ 3 _ _ _ Bk0
    have m0_4 : w30.cell? ⟨v0, 4, none⟩ = some (.slice L0 s0.L.length d0) := cell_of_row w30 _ 4 _ _ _ Bk0
    have mt_0 : w30.cell? ⟨vt, 0, none⟩ = some (.slice A2 t2.M.W.length a2) := cell_of_row w30 _ 0 _ _ _ Bkt
    have mt_1 : w30.cell? ⟨vt, 1, none⟩ = some (.slice B2 t2.M.G.length b2) := cell_of_row w30 _ 1 _ _ _ Bkt
    have mt_2 : w30.cell? ⟨vt, 2, none⟩ = some (.bool t2.M.bad) := cell_of_row w30 _ 2 _ _ _ Bkt
    have mt_3 : w30.cell? ⟨vt, 3, none⟩ = some (.slice C2 t2.C.length c2) := cell_of_row w30 _ 3 _ _ _ Bkt
    have mt_4 : w30.cell? ⟨vt, 4, none⟩ = some (.slice L2 t2.L.length d2) := cell_of_row w30 _ 4 _ _ _ Bkt
    go_wp2_with (first | (go_at_call 22; (with_reducible refine (HA1.out _ S0 S2).mono ?_); rintro e w31 ⟨rfl, hk⟩; replace Bk0 := (hk.block v0 lt0).trans Bk0; replace lt0 := Nat.lt_of_lt_of_le lt0 hk.size; replace Bkt := (hk.block vt ltt).trans Bkt; replace ltt := Nat.lt_of_lt_of_le ltt hk.size; replace S0 := S0.step hk; replace S2 := S2.step hk; replace hb := bstep hb hk; clear hk; clear m0_0 m0_1 m0_2 m0_3 m0_4 mt_0 mt_1 mt_2 mt_3 mt_4; have p0_0 : w31.cell? ⟨v0, 0, none⟩ = some (.slice A0 s0.M.W.length a0) := cell_of_row w31 _ 0 _ _ _ Bk0; have p0_1 : w31.cell? ⟨v0, 1, none⟩ = some (.slice B0 s0.M.G.length b0) := cell_of_row w31 _ 1 _ _ _ Bk0; have p0_2 : w31.cell? ⟨v0, 2, none⟩ = some (.bool s0.M.bad) := cell_of_row w31 _ 2 _ _ _ Bk0; have p0_3 : w31.cell? ⟨v0, 3, none⟩ = some (.slice (some ⟨gC, oC, none⟩) s0.C.length c0) := cell_of_row w31 _ 3 _ _ _ Bk0; have p0_4 : w31.cell? ⟨v0, 4, none⟩ = some (.slice L0 s0.L.length d0) := cell_of_row w31 _ 4 _ _ _ Bk0; have pt_0 : w31.cell? ⟨vt, 0, none⟩ = some (.slice A2 t2.M.W.length a2) := cell_of_row w31 _ 0 _ _ _ Bkt; have pt_1 : w31.cell? ⟨vt, 1, none⟩ = some (.slice B2 t2.M.G.length b2) := cell_of_row w31 _ 1 _ _ _ Bkt; have pt_2 : w31.cell? ⟨vt, 2, none⟩ = some (.bool t2.M.bad) := cell_of_row w31 _ 2 _ _ _ Bkt; have pt_3 : w31.cell? ⟨vt, 3, none⟩ = some (.slice C2 t2.C.length c2) := cell_of_row w31 _ 3 _ _ _ Bkt; have pt_4 : w31.cell? ⟨vt, 4, none⟩ = some (.slice L2 t2.L.length d2) := cell_of_row w31 _ 4 _ _ _ Bkt) | (go_at_call 22; (with_reducible refine (HA2.out _ S2 S0).mono ?_); rintro e w32 ⟨rfl, hk⟩; replace Bk0 := (hk.block v0 lt0).trans Bk0; replace lt0 := Nat.lt_of_lt_of_le lt0 hk.size; replace Bkt := (hk.block vt ltt).trans Bkt; replace ltt := Nat.lt_of_lt_of_le ltt hk.size; replace S0 := S0.step hk; replace S2 := S2.step hk; replace hb := bstep hb hk; clear hk; clear p0_0 p0_1 p0_2 p0_3 p0_4 pt_0 pt_1 pt_2 pt_3 pt_4; have m0_0 : w32.cell? ⟨v0, 0, none⟩ = some (.slice A0 s0.M.W.length a0) := cell_of_row w32 _ 0 _ _ _ Bk0; have m0_1 : w32.cell? ⟨v0, 1, none⟩ = some (.slice B0 s0.M.G.length b0) := cell_of_row w32 _ 1 _ _ _ Bk0; have m0_2 : w32.cell? ⟨v0, 2, none⟩ = some (.bool s0.M.bad) := cell_of_row w32 _ 2 _ _ _ Bk0; have m0_3 : w32.cell? ⟨v0, 3, none⟩ = some (.slice (some ⟨gC, oC, none⟩) s0.C.length c0) := cell_of_row w32 _ 3 _ _ _ Bk0; have m0_4 : w32.cell? ⟨v0, 4, none⟩ = some (.slice L0 s0.L.length d0) := cell_of_row w32 _ 4 _ _ _ Bk0; have mt_0 : w32.cell? ⟨vt, 0, none⟩ = some (.slice A2 t2.M.W.length a2) := cell_of_row w32 _ 0 _ _ _ Bkt; have mt_1 : w32.cell? ⟨vt, 1, none⟩ = some (.slice B2 t2.M.G.length b2) := cell_of_row w32 _ 1 _ _ _ Bkt; have mt_2 : w32.cell? ⟨vt, 2, none⟩ = some (.bool t2.M.bad) := cell_of_row w32 _ 2 _ _ _ Bkt; have mt_3 : w32.cell? ⟨vt, 3, none⟩ = some (.slice C2 t2.C.length c2) := cell_of_row w32 _ 3 _ _ _ Bkt; have mt_4 : w32.cell? ⟨vt, 4, none⟩ = some (.slice L2 t2.L.length d2) := cell_of_row w32 _ 4 _ _ _ Bkt) | (go_at_call 22; (with_reducible refine (HA3.out _ S2 S2).mono ?_); rintro e w33 ⟨rfl, hk⟩; replace Bk0 := (hk.block v0 lt0).trans Bk0; replace lt0 := Nat.lt_of_lt_of_le lt0 hk.size; replace Bkt := (hk.block vt ltt).trans Bkt; replace ltt := Nat.lt_of_lt_of_le ltt hk.size; replace S0 := S0.step hk; replace S2 := S2.step hk; replace hb := bstep hb hk; clear hk))
    go_ret
    exact ⟨rfl, hb⟩

theorem walk (A0 B0 C0 L0 : Option Addr) (a0 b0 c0 d0 : Nat) (s0 : Sy) (n1 n2 : Int) (w0 : World)
    (rW : Row w0 A0 s0.M.W) (rG : Row w0 B0 s0.M.G) (rC : RowC w0 C0 s0.C) (rL : RowE w0 L0 s0.L) (g0 : s0.M.W.length ≤ maxLen) (g1 : s0.M.G.length ≤ maxLen) (g2 : s0.C.length ≤ maxLen) (g3 : s0.L.length ≤ maxLen) (u0 : 0 ≤ n1) (u1 : n1 ≤ 255) (u2 : 0 ≤ n2) (u3 : n2 ≤ 255) :
    Calls Try.prog 7 #[.agg #[.slice A0 s0.M.W.length a0, .slice B0 s0.M.G.length b0, .bool s0.M.bad, .slice C0 s0.C.length c0, .slice L0 s0.L.length d0], .int .u8 n1, .int .u8 n2] w0 fun e w' => e = .returned (.bool true) ∧ Below w0.heap.size w0 w' := by
  rcases q0 : syMays s0 with _ | _
  · exact walk_not A0 B0 C0 L0 a0 b0 c0 d0 s0 n1 n2 w0 rW rG rC rL g0 g1 g2 g3 u0 u1 u2 u3 q0
  · exact walk_yes A0 B0 C0 L0 a0 b0 c0 d0 s0 n1 n2 w0 rW rG rC rL g0 g1 g2 g3 u0 u1 u2 u3 q0

set_option maxRecDepth 100000 in
theorem lifted (os : Os) (started : os.Started) (H : Type) (enc : TypeId × Value → H) :
    ReturnsInHanded {} Try.checked os 7 .any (Rows.coreSameSpec.pre6 enc Try.prog Try.f7 Rows.coreSameRow.domain false) (Rows.coreSameSpec.post enc Try.prog Try.f7 false true false false) := by
  refine returnsInHanded_of_change (C := Try.checked) own started (by kernel_rfl) Try.func7
    (ChangeSpec.witness6 (enc := enc) (C := Try.checked) false ⟨#[], #[.agg #[.slice none 0 0, .slice none 0 0, .bool false, .slice none 0 0, .slice none 0 0], .int .u8 0, .int .u8 0], []⟩ 8 (by kernel_rfl) (by kernel_rfl) (by kernel_rfl) (by kernel_rfl)) ?_
  intro W base args ds gs before hval0 hW hcnd _
  have hval : ∀ (j : Nat) t v, Try.f7.params[j]? = some t → args[j]? = some v → Value.okWide Try.prog W .any base t v := hval0
  have hW' := hW
  obtain ⟨p, q, hA0, hV, rfl, hfz, hnd⟩ := hW
  have hA : DataW.TrodAll enc Try.prog W 0 (fun _ => true) true Try.f7.params.toList args.toList ds p := hA0
  rw [Try.params7] at hA hval
  obtain ⟨v0, vs0, d0, ds0, p0, q0, hargs, rfl, rfl, h0, r0⟩ := trodAll_cons hA
  obtain ⟨v1, vs1, d1, ds1, p1, q1, rfl, rfl, rfl, h1, r1⟩ := trodAll_cons r0
  obtain ⟨v2, vs2, d2, ds2, p2, q2, rfl, rfl, rfl, h2, r2⟩ := trodAll_cons r1
  obtain ⟨rfl, rfl, rfl⟩ := trodAll_nil r2
  obtain rfl : args = #[v0, v1, v2] := by cases args; simp_all
  obtain ⟨rfl, rfl⟩ := trodVars_none hV
  clear hA0 hval0
  obtain ⟨A0, B0, C0, L0, a0, b0, c0, d0, s0, rfl, rW, rG, rC, rL, l0, l1, l2, l3⟩ := open_system (hval 0 _ v0 rfl rfl) h0
  obtain ⟨m1, hm1⟩ := h1
  obtain ⟨a, e1, _, u1⟩ := DataW.trod_int Try.underlying5 hm1
  obtain ⟨a', rfl⟩ := okWide_int Try.underlying5 (hval 1 5 v1 rfl rfl)
  obtain rfl : a' = a := by simpa [Value.cells] using e1
  obtain ⟨y0, y1⟩ := bounds_u8 u1
  obtain ⟨m2, hm2⟩ := h2
  obtain ⟨b, e2, _, u2⟩ := DataW.trod_int Try.underlying5 hm2
  obtain ⟨b', rfl⟩ := okWide_int Try.underlying5 (hval 2 5 v2 rfl rfl)
  obtain rfl : b' = b := by simpa [Value.cells] using e2
  obtain ⟨y2, y3⟩ := bounds_u8 u2
  refine (walk A0 B0 C0 L0 a0 b0 c0 d0 s0 a' b' W rW rG rC rL l0 l1 l2 l3 y0 y1 y2 y3).mono fun e W' ⟨he, hb⟩ => ?_
  subst he
  exact ⟨_, rfl, law_post (tb := 4) (by kernel_rfl) (by kernel_rfl) (by kernel_rfl) Try.underlying4 rfl hW' rfl hb⟩

theorem over : Rows.coreSameRow.holds Try.pinned (OpenSpec.ofChange Rows.coreSameSpec) :=
  OpenClaim.holds_of_wide 7 Try.f7 rfl rfl rfl rfl rfl rfl rfl ⟨rfl, rfl, rfl, rfl, rfl⟩ rfl rfl rfl rfl rfl (by kernel_rfl) Try.func7 (by kernel_rfl)
    (of_decide_eq_true (by kernel_rfl)) (by unfold Func.isWrapper; first | (rw [if_pos (by decide +kernel)]; kernel_rfl) | (rw [if_neg (by decide +kernel)]; exact ⟨rfl, rfl⟩))
    (fun os started H enc _ => lifted os started H enc)
end CoreSame

theorem coreSame_holds : Rows.CoreSameSaid := CoreSame.over
#print axioms coreSame_holds
end Go.Proofs.Ytpagekhgeahmaaa
