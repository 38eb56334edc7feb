/- Contracts: frames that are the same, by the program. -/
import Derived.Test.YtpagekhgeahmaaaCore8
import Derived.Test.YtpagekhgeahmaaaMemA
import Derived.Test.YtpagekhgeahmaaaCells2
namespace Go.Proofs.Ytpagekhgeahmaaa
open Go.RowKit
set_option linter.unusedVariables false
set_option linter.unusedSimpArgs false

set_option maxRecDepth 100000 in
set_option maxHeartbeats 2000000 in
theorem sameFrame_any (A B : Option Addr) (c d : Nat) (op pc op2 pc2 r0 r1 r2 r3 r4 r5 r6 r7 s0 s1 s2 s3 s4 s5 s6 s7 : Int) (xs ys : List Int) (w : World) (hA : Row w A xs) (hB : Row w B ys) (h0 : xs.length ≤ 1000000) :
    Calls Try.prog 95 #[.agg #[.int .i64 op, .int .i64 pc, .int .i64 r0, .int .i64 r1, .int .i64 r2, .int .i64 r3, .int .i64 r4, .int .i64 r5, .int .i64 r6, .int .i64 r7, .slice A xs.length c], .agg #[.int .i64 op2, .int .i64 pc2, .int .i64 s0, .int .i64 s1, .int .i64 s2, .int .i64 s3, .int .i64 s4, .int .i64 s5, .int .i64 s6, .int .i64 s7, .slice B ys.length d]] w fun e w' => e = .returned (.bool (frSame ⟨op, pc, [r0, r1, r2, r3, r4, r5, r6, r7], xs⟩ ⟨op2, pc2, [s0, s1, s2, s3, s4, s5, s6, s7], ys⟩)) ∧ Below w.heap.size w w' := by
  have hq := eql8 r0 r1 r2 r3 r4 r5 r6 r7 s0 s1 s2 s3 s4 s5 s6 s7
  have HF := hid (show frSame ⟨op, pc, [r0, r1, r2, r3, r4, r5, r6, r7], xs⟩ ⟨op2, pc2, [s0, s1, s2, s3, s4, s5, s6, s7], ys⟩ = ((op == op2) && (pc == pc2) && decide ([r0, r1, r2, r3, r4, r5, r6, r7] = [s0, s1, s2, s3, s4, s5, s6, s7]) && mInts xs ys) by
    unfold frSame
    dsimp only
    cases mInts xs ys <;> cases (op == op2) <;> cases (pc == pc2) <;> cases decide ([r0, r1, r2, r3, r4, r5, r6, r7] = [s0, s1, s2, s3, s4, s5, s6, s7]) <;> rfl)
  obtain ⟨v, hv⟩ : ∃ v, frSame ⟨op, pc, [r0, r1, r2, r3, r4, r5, r6, r7], xs⟩ ⟨op2, pc2, [s0, s1, s2, s3, s4, s5, s6, s7], ys⟩ = v := ⟨_, rfl⟩
  rw [hv] at HF ⊢
  clear hv
  obtain ⟨z, hz⟩ : ∃ z, decide ([r0, r1, r2, r3, r4, r5, r6, r7] = [s0, s1, s2, s3, s4, s5, s6, s7]) = z := ⟨_, rfl⟩
  rw [hz] at HF
  have hq2 : ∀ w, (binOp .eql 40 (.agg #[.int .i64 r0, .int .i64 r1, .int .i64 r2, .int .i64 r3, .int .i64 r4, .int .i64 r5, .int .i64 r6, .int .i64 r7]) (.agg #[.int .i64 s0, .int .i64 s1, .int .i64 s2, .int .i64 s3, .int .i64 s4, .int .i64 s5, .int .i64 s6, .int .i64 s7])).run Try.prog w = .ok (.bool z) w := fun w => by rw [hq w, hz]
  clear hq hz
  cases t1 : (op == op2)
  · rw [t1] at HF
    go_enter Try.func95, Try.ntmps95
    go_wp2
    go_ret
    exact ⟨ret_bool (by rw [HF.out]; rfl), bstep (boxed _ _) (boxed _ _)⟩
  · cases t2 : (pc == pc2)
    · rw [t1, t2] at HF
      go_enter Try.func95, Try.ntmps95
      go_wp2
      go_ret
      exact ⟨ret_bool (by rw [HF.out]; rfl), bstep (boxed _ _) (boxed _ _)⟩
    · cases z
      · rw [t1, t2] at HF
        go_enter Try.func95, Try.ntmps95
        go_wp2
        go_ret
        exact ⟨ret_bool (by rw [HF.out]; rfl), bstep (boxed _ _) (boxed _ _)⟩
      · rw [t1, t2] at HF
        go_enter Try.func95, Try.ntmps95
        go_wp2_with (go_at_call 93; refine (equal_any _ _ _ _ xs ys _ ((hA.alloc _).alloc _) ((hB.alloc _).alloc _) (by omega)).mono ?_; rintro e wk ⟨rfl, hk⟩)
        go_ret
        exact ⟨ret_bool (by rw [HF.out]; rfl), bstep (bstep (boxed _ _) (boxed _ _)) hk⟩

set_option maxRecDepth 100000 in
set_option maxHeartbeats 4000000 in
theorem eqF_any (A B : Option Addr) (c d : Nat) (fs gs : List Fr) (w : World) (hF : RowF w A fs) (hG : RowF w B gs) (h0 : fs.length ≤ 1000000) (h1 : ∀ f ∈ fs, f.S.length ≤ 1000000) :
    Calls Try.prog 94 #[.slice A fs.length c, .slice B gs.length d, .func (.func 95) #[] #[]] w fun e w' => e = .returned (.bool (lSame fs gs)) ∧ Below w.heap.size w w' := by
  have H1 := hid h1
  clear h1
  by_cases hl : fs.length = gs.length
  · have HL := hid hl
    have l1 : fs.length ≤ gs.length := by omega
    have l2 : gs.length ≤ fs.length := by omega
    have l3 : ((fs.length : Int) != (gs.length : Int)) = false := by simp [hl]
    clear hl
    go_enter Try.func94, Try.ntmps94
    go_wp2
    go_loopw [17] (fun i wr => ∃ k : Nat, k ≤ fs.length ∧ i = .int .i64 k ∧ Hid (fs.take k = gs.take k) ∧ Below w.heap.size w wr) (fun i _ => fs.length - (intOf i).toNat)
    case atStart => exact ⟨0, Nat.zero_le _, rfl, hid rfl, Below.refl _ _⟩
    case round =>
      obtain ⟨k, hk, rfl, HT, hbr⟩ := hrel
      by_cases hlt : k < fs.length
      · obtain ⟨b1, o1, rfl, hb1, hat1⟩ := hF (by omega)
        obtain ⟨b2, o2, rfl, hb2, hat2⟩ := hG (by omega)
        obtain ⟨f, hf⟩ : ∃ f, fs[k]? = some f := ⟨_, List.getElem?_eq_getElem hlt⟩
        obtain ⟨g, hg⟩ : ∃ g, gs[k]? = some g := ⟨_, List.getElem?_eq_getElem (by omega)⟩
        have hg1 : b1 < wr.heap.size := Nat.lt_of_lt_of_le hb1 hbr.size
        have hg2 : b2 < wr.heap.size := Nat.lt_of_lt_of_le hb2 hbr.size
        have n1 : b1 ≠ wr.heap.size := by omega
        have n2 : b2 ≠ wr.heap.size := by omega
        obtain ⟨⟨A1, c1⟩, h81, hc1, rS⟩ := ((hat1 k f hf).step hb1 hbr).cs
        obtain ⟨⟨A2, c2⟩, h82, hc2, sS⟩ := ((hat2 k g hg).step hb2 hbr).cs
        have hfS := H1.out f (List.mem_of_getElem? hf)
        obtain ⟨op, pc, Rs, xs⟩ := f
        obtain ⟨op2, pc2, Qs, ys⟩ := g
        dsimp only at h81 h82 hfS rS sS
        obtain ⟨r0, r1, r2, r3, r4, r5, r6, r7, rfl⟩ := fr8 h81
        obtain ⟨s0, s1, s2, s3, s4, s5, s6, s7, rfl⟩ := fr8 h82
        have u0 : wr.cell? ⟨b1, o1 + k * 11, none⟩ = some (.int .i64 op) := hc1 0 _ rfl
        have u1 : wr.cell? ⟨b1, o1 + k * 11 + 1, none⟩ = some (.int .i64 pc) := hc1 1 _ rfl
        have u2 : wr.cell? ⟨b1, o1 + k * 11 + 2, none⟩ = some (.int .i64 r0) := hc1 2 _ rfl
        have u3 : wr.cell? ⟨b1, o1 + k * 11 + 3, none⟩ = some (.int .i64 r1) := hc1 3 _ rfl
        have u4 : wr.cell? ⟨b1, o1 + k * 11 + 4, none⟩ = some (.int .i64 r2) := hc1 4 _ rfl
        have u5 : wr.cell? ⟨b1, o1 + k * 11 + 5, none⟩ = some (.int .i64 r3) := hc1 5 _ rfl
        have u6 : wr.cell? ⟨b1, o1 + k * 11 + 6, none⟩ = some (.int .i64 r4) := hc1 6 _ rfl
        have u7 : wr.cell? ⟨b1, o1 + k * 11 + 7, none⟩ = some (.int .i64 r5) := hc1 7 _ rfl
        have u8 : wr.cell? ⟨b1, o1 + k * 11 + 8, none⟩ = some (.int .i64 r6) := hc1 8 _ rfl
        have u9 : wr.cell? ⟨b1, o1 + k * 11 + 9, none⟩ = some (.int .i64 r7) := hc1 9 _ rfl
        have u10 : wr.cell? ⟨b1, o1 + k * 11 + 10, none⟩ = some (.slice A1 xs.length c1) := hc1 10 _ rfl
        have v0 : wr.cell? ⟨b2, o2 + k * 11, none⟩ = some (.int .i64 op2) := hc2 0 _ rfl
        have v1 : wr.cell? ⟨b2, o2 + k * 11 + 1, none⟩ = some (.int .i64 pc2) := hc2 1 _ rfl
        have v2 : wr.cell? ⟨b2, o2 + k * 11 + 2, none⟩ = some (.int .i64 s0) := hc2 2 _ rfl
        have v3 : wr.cell? ⟨b2, o2 + k * 11 + 3, none⟩ = some (.int .i64 s1) := hc2 3 _ rfl
        have v4 : wr.cell? ⟨b2, o2 + k * 11 + 4, none⟩ = some (.int .i64 s2) := hc2 4 _ rfl
        have v5 : wr.cell? ⟨b2, o2 + k * 11 + 5, none⟩ = some (.int .i64 s3) := hc2 5 _ rfl
        have v6 : wr.cell? ⟨b2, o2 + k * 11 + 6, none⟩ = some (.int .i64 s4) := hc2 6 _ rfl
        have v7 : wr.cell? ⟨b2, o2 + k * 11 + 7, none⟩ = some (.int .i64 s5) := hc2 7 _ rfl
        have v8 : wr.cell? ⟨b2, o2 + k * 11 + 8, none⟩ = some (.int .i64 s6) := hc2 8 _ rfl
        have v9 : wr.cell? ⟨b2, o2 + k * 11 + 9, none⟩ = some (.int .i64 s7) := hc2 9 _ rfl
        have v10 : wr.cell? ⟨b2, o2 + k * 11 + 10, none⟩ = some (.slice A2 ys.length c2) := hc2 10 _ rfl
        clear hc1 hc2 h81 h82
        have HFF := hid hf
        have HGG := hid hg
        clear hat1 hat2 hf hg
        have kl : (k : Int) < (fs.length : Int) := by omega
        have kl2 : (k : Int) < (gs.length : Int) := by omega
        have hfs := frSame_eq ⟨op, pc, [r0, r1, r2, r3, r4, r5, r6, r7], xs⟩ ⟨op2, pc2, [s0, s1, s2, s3, s4, s5, s6, s7], ys⟩
        by_cases heq : (⟨op, pc, [r0, r1, r2, r3, r4, r5, r6, r7], xs⟩ : Fr) = ⟨op2, pc2, [s0, s1, s2, s3, s4, s5, s6, s7], ys⟩
        · rw [decide_eq_true heq] at hfs
          have HT2 := hid (lSame_more HFF.out (by rw [heq]; exact HGG.out) HT.out)
          clear heq
          go_wp2_with (go_at_call 95; refine (sameFrame_any A1 A2 c1 c2 op pc op2 pc2 r0 r1 r2 r3 r4 r5 r6 r7 s0 s1 s2 s3 s4 s5 s6 s7 xs ys _ ((rS.alloc _).alloc _) ((sS.alloc _).alloc _) hfS).mono ?_; rintro e wk ⟨rfl, hk2⟩)
          go_roundw
          case rel => exact ⟨k + 1, by omega, by go_num, HT2, bstep hbr (bstep (bstep (boxed _ _) (boxed _ _)) hk2)⟩
          case measure => simp [intOf]; omega
        · rw [decide_eq_false heq] at hfs
          have HNE := hid heq
          clear heq
          go_wp2_with (go_at_call 95; refine (sameFrame_any A1 A2 c1 c2 op pc op2 pc2 r0 r1 r2 r3 r4 r5 r6 r7 s0 s1 s2 s3 s4 s5 s6 s7 xs ys _ ((rS.alloc _).alloc _) ((sS.alloc _).alloc _) hfS).mono ?_; rintro e wk ⟨rfl, hk2⟩)
          go_ret
          exact ⟨ret_bool (lSame_at HFF.out HGG.out HNE.out).symm, bstep hbr (bstep (bstep (boxed _ _) (boxed _ _)) hk2)⟩
      · go_wp2
        go_ret
        obtain rfl : k = fs.length := by omega
        exact ⟨ret_bool (lSame_all HL.out HT.out).symm, hbr⟩
  · have HL := hid hl
    have l3 : ((fs.length : Int) != (gs.length : Int)) = true := by simp; omega
    clear hl
    go_enter Try.func94, Try.ntmps94
    go_wp2
    go_ret
    exact ⟨ret_bool (lSame_len HL.out).symm, Below.refl _ _⟩
end Go.Proofs.Ytpagekhgeahmaaa
