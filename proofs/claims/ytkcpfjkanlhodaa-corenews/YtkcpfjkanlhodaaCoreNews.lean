/- For every two uint8, the law CoreNews (a new system is right, and has cores without frames, all nodes free, and no events; it has no core but those) returns true, and the arguments read afterwards as before. No conditions. -/
import Derived.Test.YtkcpfjkanlhodaaRows
import Derived.Test.YtkcpfjkanlhodaaShown3
import Derived.Test.YtkcpfjkanlhodaaLaw
namespace Go.Proofs.Ytkcpfjkanlhodaa
namespace CoreNews
open Go.ChangeShapes Go.WideShapes Go.ChangeAt Go.RowKit
set_option linter.unusedVariables false
set_option linter.unusedSimpArgs false

theorem own : ownKnob Try.prog.godebug = none := by kernel_rfl

theorem same_refl (s : Sy) : sySame s s = true := by simp [sySame, mSame, mInts, lSame]
theorem new_few (k n : Nat) (hk : k ≤ 8) (hn : n ≤ 200) : SyFew (syNew k n) := by
  refine ⟨by simp [syNew, mNew]; omega, by simp [syNew, mNew]; omega, by simp [syNew]; omega, by simp [syNew], fun x hx => ?_⟩
  have : x = coZero := by simp [syNew] at hx; exact hx.2
  subst this
  simp [coZero]
theorem new_right (k n : Nat) (k1 : 1 ≤ k) (k2 : k ≤ 8) (n1 : 1 ≤ n) (n2 : n ≤ 200) : syRight (syNew k n) = true := by
  have h1 : mRight (mNew n) = true := mRight_yes (by simp [mNew]; omega) (by simp [mNew]; omega) (by simp [mNew]; omega) (by simp [mNew, List.getD_eq_getElem?_getD, List.getElem?_replicate]; split <;> rfl) (fun j hj => by
    have : (mNew n).G.getD j 0 = 0 := by simp [mNew, List.getD_eq_getElem?_getD, List.getElem?_replicate]; split <;> rfl
    omega)
  have h2 : (List.replicate k coZero).all coRight = true := by
    rw [List.all_eq_true]
    intro x hx
    have : x = coZero := (List.mem_replicate.1 hx).2
    subst this
    decide
  unfold syRight syNew
  simp only [h1, h2, List.length_replicate, decide_eq_true k1, decide_eq_true k2, Bool.and_self]

set_option maxRecDepth 100000 in
set_option maxHeartbeats 8000000 in
theorem walk (a b : Int) (w0 : World) (a0 : 0 ≤ a) (a1 : a ≤ 255) (b0 : 0 ≤ b) (b1 : b ≤ 255) :
    Calls Try.prog 6 #[.int .u8 a, .int .u8 b] w0 fun e w' => e = .returned (.bool true) ∧ Below w0.heap.size w0 w' := by
  obtain ⟨k, hk⟩ : ∃ k : Nat, 1 + a % 8 = (k : Int) := ⟨(1 + a % 8).toNat, by omega⟩
  obtain ⟨n, hn⟩ : ∃ n : Nat, 1 + b % 200 = (n : Int) := ⟨(1 + b % 200).toNat, by omega⟩
  have k1 : 1 ≤ k := by omega
  have k2 : k ≤ 8 := by omega
  have n1 : 1 ≤ n := by omega
  have n2 : n ≤ 200 := by omega
  obtain ⟨s0, hs0⟩ : ∃ s, s = syNew k n := ⟨_, rfl⟩
  have HF := hid (show SyFew s0 by rw [hs0]; exact new_few k n k2 n2)
  have HBD := hid (show s0.M.bad = false by rw [hs0]; rfl)
  have HLC := hid (show s0.C.length = k by rw [hs0]; simp [syNew])
  have HLG := hid (show s0.M.G.length = n + 1 by rw [hs0]; simp [syNew, mNew]; omega)
  have HLW := hid (show s0.M.W.length = 128 + 4 * n by rw [hs0]; simp [syNew, mNew])
  have HLL := hid (show s0.L.length = 0 by rw [hs0]; rfl)
  have HN0 := hid (show ∀ w, Calls Try.prog 10 #[.int .i64 (k : Int), .int .i64 (n : Int)] w (RetSys2 w s0 (.int .i64 0)) from fun w => by rw [hs0]; exact snew_yes k n w n1 n2 k1 k2)
  have HT := hid (show ∀ (A B C L : Option Addr) (a b c d : Nat) (w : World) (rW : Row w A s0.M.W) (rG : Row w B s0.M.G) (rC : RowC w C s0.C) (rL : RowE w L s0.L) (i : Int), Calls Try.prog 16 #[.agg #[.slice A s0.M.W.length a, .slice B s0.M.G.length b, .bool false, .slice C s0.C.length c, .slice L s0.L.length d], .int .i64 i] w fun e w' => e = .returned (.tuple #[.agg #[.int .i64 0, .int .i64 0, .int .i64 0, .int .i64 0, .int .i64 0, .int .i64 0, .int .i64 0, .int .i64 0, .int .i64 0, .int .i64 0, .slice none 0 0], .bool false]) ∧ Below w.heap.size w w' from fun A B C L a b c d w rW rG rC rL i => by
      cases q : syHas s0 i
      · have h := top_out A B C L a b c d s0 i w (HF.out).2.2.1 q
        rw [HBD.out] at h
        exact h
      · have q2 : 0 ≤ i ∧ i < (s0.C.length : Int) := by simpa [syHas] using q
        obtain ⟨j, rfl⟩ : ∃ j : Nat, i = j := ⟨i.toNat, by omega⟩
        have h := top_none A B C L a b c d s0 j coZero w rC (HF.out).2.2.1 (by have h3 := HLC.out; rw [hs0]; show (List.replicate k coZero)[j]? = _; rw [List.getElem?_replicate, if_pos (by omega)]) rfl
        rw [HBD.out] at h
        exact h)
  have HR := hid (show ∀ (A B C L : Option Addr) (a b c d : Nat) (w : World) (rW : Row w A s0.M.W) (rG : Row w B s0.M.G) (rC : RowC w C s0.C) (rL : RowE w L s0.L), Calls Try.prog 14 #[.agg #[.slice A s0.M.W.length a, .slice B s0.M.G.length b, .bool false, .slice C s0.C.length c, .slice L s0.L.length d]] w fun e w' => e = .returned (.bool true) ∧ Below w.heap.size w w' from fun A B C L a b c d w rW rG rC rL => by
      have h := right3_any A B C L a b c d s0 w rG rC (HF.out).2.1 (HF.out).1 (HF.out).2.2.1 (HF.out).2.2.2.2
      rw [show syRight s0 = true by rw [hs0]; exact new_right k n k1 k2 n1 n2, HBD.out] at h
      exact h)
  have HQ := hid (show ∀ (A B C L : Option Addr) (a b c d : Nat) (w : World) (rW : Row w A s0.M.W) (rG : Row w B s0.M.G) (rC : RowC w C s0.C) (rL : RowE w L s0.L), Calls Try.prog 12 #[.agg #[.slice A s0.M.W.length a, .slice B s0.M.G.length b, .bool false, .slice C s0.C.length c, .slice L s0.L.length d]] w fun e w' => e = .returned (.bool true) ∧ Below w.heap.size w w' from fun A B C L a b c d w rW rG rC rL => by
      have h := rright3_any A B C L a b c d s0 w rG rC (by have := (HF.out).2.1; omega) (by have := (HF.out).1; omega) (HF.out).2.2.1 (fun x hx => ((HF.out).2.2.2.2 x hx).2.1)
      rw [show syRight s0 = true by rw [hs0]; exact new_right k n k1 k2 n1 n2, HBD.out] at h
      exact h)
  have HM := hid (show ∀ (A B C L : Option Addr) (a b c d : Nat) (w : World) (rW : Row w A s0.M.W) (rG : Row w B s0.M.G) (rC : RowC w C s0.C) (rL : RowE w L s0.L), Calls Try.prog 15 #[.agg #[.slice A s0.M.W.length a, .slice B s0.M.G.length b, .bool false, .slice C s0.C.length c, .slice L s0.L.length d], .agg #[.slice A s0.M.W.length a, .slice B s0.M.G.length b, .bool false, .slice C s0.C.length c, .slice L s0.L.length d]] w fun e w' => e = .returned (.bool true) ∧ Below w.heap.size w w' from fun A B C L a b c d w rW rG rC rL => by
      have h := same3_any A B C L A B C L a b c d a b c d s0 s0 w rW rG rC rL rW rG rC rL (HF.out).1 (HF.out).2.1 (HF.out).2.2.1 (by have := (HF.out).2.2.2.1; omega) (HF.out).2.2.2.2
      rw [show sySame s0 s0 = true from same_refl s0, HBD.out] at h
      exact h)
  clear hs0
  have t1 : ((s0.C.length : Int) != (k : Int)) = false := by simp [HLC.out]
  have t2 : ((s0.M.G.length : Int) != (n : Int) + 1) = false := by simp [HLG.out]
  have t3 : ((s0.M.W.length : Int) != 128 + 4 * (n : Int)) = false := by simp [HLW.out]
  have t4 : decide ((0 : Int) < (s0.L.length : Int)) = false := by simp [HLL.out]
  have t5 : ¬ ((0 : Int) < (s0.L.length : Int)) := by rw [HLL.out]; decide
  have t6 : ¬ (0 < s0.L.length) := by rw [HLL.out]; decide
  have hb : Below w0.heap.size w0 w0 := Below.refl _ _
  go_enter Try.func6, Try.ntmps6
  go_wp2_with fail
  refine (shown3_any _).mono ?_
  rintro e w1 ⟨rfl, hk1⟩
  replace hb := bstep hb hk1
  clear hk1
  go_wp2_with fail
  refine (HN0.out _).mono ?_
  rintro e w2 ⟨A0, B0, C0, L0, a0', b0', c0, d0, rfl, rW, rG, rC, rL, hk2⟩
  replace hb := bstep hb hk2
  clear hk2
  go_upto_region 5 with (fail)
  have V0 := SV.mk' a0' b0' c0 d0 rW rG rC rL
  replace hb := bstep hb (boxed w2 (.cells #[.slice A0 s0.M.W.length a0', .slice B0 s0.M.G.length b0', .bool s0.M.bad, .slice C0 s0.C.length c0, .slice L0 s0.L.length d0] 28))
  clear rW rG rC rL
  obtain ⟨v0, hv⟩ : ∃ v, w2.heap.size = v := ⟨_, rfl⟩
  rw [hv] at V0 ⊢
  clear hv
  generalize (w2.alloc (.cells #[.slice A0 s0.M.W.length a0', .slice B0 s0.M.G.length b0', .bool s0.M.bad, .slice C0 s0.C.length c0, .slice L0 s0.L.length d0] 28)) = w3 at *
  have m0 : w3.cell? ⟨v0, 0, none⟩ = some (.slice A0 s0.M.W.length a0') := cell_of_row w3 _ 0 _ _ _ V0.bx
  have m1 : w3.cell? ⟨v0, 1, none⟩ = some (.slice B0 s0.M.G.length b0') := cell_of_row w3 _ 1 _ _ _ V0.bx
  have m2 : w3.cell? ⟨v0, 2, none⟩ = some (.bool false) := (by rw [← HBD.out]; exact cell_of_row w3 _ 2 _ _ _ V0.bx)
  have m3 : w3.cell? ⟨v0, 3, none⟩ = some (.slice C0 s0.C.length c0) := cell_of_row w3 _ 3 _ _ _ V0.bx
  have m4 : w3.cell? ⟨v0, 4, none⟩ = some (.slice L0 s0.L.length d0) := cell_of_row w3 _ 4 _ _ _ V0.bx
  go_wp2_with fail
  clear m0 m1 m2 m3 m4
  go_loopw [10] (fun i wr => ∃ j : Nat, j ≤ k + 2 ∧ i = .int .i64 ((j : Int) - 1) ∧ Below w3.heap.size w3 wr) (fun i _ => ((k : Int) + 1 - intOf i).toNat)
  case atStart => exact ⟨0, by omega, rfl, Below.refl _ _⟩
  case round =>
    obtain ⟨j, hj, rfl, hbr⟩ := hrel
    have V1 := V0.step hbr
    have m0 : wr.cell? ⟨v0, 0, none⟩ = some (.slice A0 s0.M.W.length a0') := cell_of_row wr _ 0 _ _ _ V1.bx
    have m1 : wr.cell? ⟨v0, 1, none⟩ = some (.slice B0 s0.M.G.length b0') := cell_of_row wr _ 1 _ _ _ V1.bx
    have m2 : wr.cell? ⟨v0, 2, none⟩ = some (.bool false) := (by rw [← HBD.out]; exact cell_of_row wr _ 2 _ _ _ V1.bx)
    have m3 : wr.cell? ⟨v0, 3, none⟩ = some (.slice C0 s0.C.length c0) := cell_of_row wr _ 3 _ _ _ V1.bx
    have m4 : wr.cell? ⟨v0, 4, none⟩ = some (.slice L0 s0.L.length d0) := cell_of_row wr _ 4 _ _ _ V1.bx
    by_cases hlt : j ≤ k + 1
    · have q1 : (j : Int) - 1 ≤ (k : Int) := by omega
      go_wp2_with (go_at_call 16; refine (HT.out A0 B0 C0 L0 a0' b0' c0 d0 _ V1.rW V1.rG V1.rC V1.rL _).mono ?_; rintro e wt ⟨rfl, hkt⟩)
      exact ⟨⟨j + 1, by omega, by go_num, bstep hbr (bstep hkt (boxed _ _))⟩, by simp [intOf]; omega⟩
    · have q1 : ¬ ((j : Int) - 1 ≤ (k : Int)) := by omega
      go_wp2_with (first
        | (go_at_call 12; refine (HQ.out A0 B0 C0 L0 a0' b0' c0 d0 _ V1.rW V1.rG V1.rC V1.rL).mono ?_; rintro e wp ⟨rfl, hkp⟩; have V2 := V1.step hkp; have p0 : wp.cell? ⟨v0, 0, none⟩ = some (.slice A0 s0.M.W.length a0') := cell_of_row wp _ 0 _ _ _ V2.bx; have p1 : wp.cell? ⟨v0, 1, none⟩ = some (.slice B0 s0.M.G.length b0') := cell_of_row wp _ 1 _ _ _ V2.bx; have p2 : wp.cell? ⟨v0, 2, none⟩ = some (.bool false) := (by rw [← HBD.out]; exact cell_of_row wp _ 2 _ _ _ V2.bx); have p3 : wp.cell? ⟨v0, 3, none⟩ = some (.slice C0 s0.C.length c0) := cell_of_row wp _ 3 _ _ _ V2.bx; have p4 : wp.cell? ⟨v0, 4, none⟩ = some (.slice L0 s0.L.length d0) := cell_of_row wp _ 4 _ _ _ V2.bx)
        | (go_at_call 14; refine (HR.out A0 B0 C0 L0 a0' b0' c0 d0 _ V2.rW V2.rG V2.rC V2.rL).mono ?_; rintro e wq ⟨rfl, hkq⟩; have V3 := V2.step hkq; have q0 : wq.cell? ⟨v0, 0, none⟩ = some (.slice A0 s0.M.W.length a0') := cell_of_row wq _ 0 _ _ _ V3.bx; have q1 : wq.cell? ⟨v0, 1, none⟩ = some (.slice B0 s0.M.G.length b0') := cell_of_row wq _ 1 _ _ _ V3.bx; have q2 : wq.cell? ⟨v0, 2, none⟩ = some (.bool false) := (by rw [← HBD.out]; exact cell_of_row wq _ 2 _ _ _ V3.bx); have q3 : wq.cell? ⟨v0, 3, none⟩ = some (.slice C0 s0.C.length c0) := cell_of_row wq _ 3 _ _ _ V3.bx; have q4 : wq.cell? ⟨v0, 4, none⟩ = some (.slice L0 s0.L.length d0) := cell_of_row wq _ 4 _ _ _ V3.bx)
        | (go_at_call 15; refine (HM.out A0 B0 C0 L0 a0' b0' c0 d0 _ V3.rW V3.rG V3.rC V3.rL).mono ?_; rintro e wu ⟨rfl, hku⟩))
      go_ret
      exact ⟨rfl, bstep (bstep (bstep (bstep hb hbr) hkp) hkq) hku⟩

set_option maxRecDepth 100000 in
theorem lifted (os : Os) (started : os.Started) (H : Type) (enc : TypeId × Value → H) :
    ReturnsInHanded {} Try.checked os 6 .any (Rows.coreNewsSpec.pre6 enc Try.prog Try.f6 Rows.coreNewsRow.domain false) (Rows.coreNewsSpec.post enc Try.prog Try.f6 false true false false) := by
  refine returnsInHanded_of_change (C := Try.checked) own started (by kernel_rfl) Try.func6
    (ChangeSpec.witness6 (enc := enc) (C := Try.checked) false ⟨#[], #[.int .u8 0, .int .u8 0], []⟩ 8 (by kernel_rfl) (by kernel_rfl) (by kernel_rfl) (by kernel_rfl)) ?_
  intro W base args ds gs before hval0 hW hcnd _
  have hval : ∀ (j : Nat) t v, Try.f6.params[j]? = some t → args[j]? = some v → Value.okWide Try.prog W .any base t v := hval0
  have hW' := hW
  obtain ⟨p, q, hA0, hV, rfl, hfz, hnd⟩ := hW
  have hA : DataW.TrodAll enc Try.prog W 0 (fun _ => true) true Try.f6.params.toList args.toList ds p := hA0
  rw [Try.params6] at hA hval
  obtain ⟨v0, vs0, d0, ds0, p0, q0, hargs, rfl, rfl, h0, r0⟩ := trodAll_cons hA
  obtain ⟨v1, vs1, d1, ds1, p1, q1, rfl, rfl, rfl, h1, r1⟩ := trodAll_cons r0
  obtain ⟨rfl, rfl, rfl⟩ := trodAll_nil r1
  obtain rfl : args = #[v0, v1] := by cases args; simp_all
  obtain ⟨rfl, rfl⟩ := trodVars_none hV
  clear hA0 hval0
  obtain ⟨n1, hn1⟩ := h0
  obtain ⟨a, e1, _, u1⟩ := DataW.trod_int Try.underlying5 hn1
  obtain ⟨a', rfl⟩ := okWide_int Try.underlying5 (hval 0 5 v0 rfl rfl)
  obtain rfl : a' = a := by simpa [Value.cells] using e1
  obtain ⟨a0, a1⟩ := bounds_u8 u1
  obtain ⟨n2, hn2⟩ := h1
  obtain ⟨b, e2, _, u2⟩ := DataW.trod_int Try.underlying5 hn2
  obtain ⟨b', rfl⟩ := okWide_int Try.underlying5 (hval 1 5 v1 rfl rfl)
  obtain rfl : b' = b := by simpa [Value.cells] using e2
  obtain ⟨b0, b1⟩ := bounds_u8 u2
  refine (walk a' b' W a0 a1 b0 b1).mono fun e W' ⟨he, hb⟩ => ?_
  subst he
  exact ⟨_, rfl, law_post (tb := 4) (by kernel_rfl) (by kernel_rfl) (by kernel_rfl) Try.underlying4 rfl hW' rfl hb⟩

theorem over : Rows.coreNewsRow.holds Try.pinned (OpenSpec.ofChange Rows.coreNewsSpec) :=
  OpenClaim.holds_of_wide 6 Try.f6 rfl rfl rfl rfl rfl rfl rfl ⟨rfl, rfl, rfl, rfl, rfl⟩ rfl rfl rfl rfl rfl (by kernel_rfl) Try.func6 (by kernel_rfl)
    (of_decide_eq_true (by kernel_rfl)) (by unfold Func.isWrapper; first | (rw [if_pos (by decide +kernel)]; kernel_rfl) | (rw [if_neg (by decide +kernel)]; exact ⟨rfl, rfl⟩))
    (fun os started H enc _ => lifted os started H enc)
end CoreNews

theorem coreNews_holds : Rows.CoreNewsSaid := CoreNews.over
#print axioms coreNews_holds
end Go.Proofs.Ytkcpfjkanlhodaa
