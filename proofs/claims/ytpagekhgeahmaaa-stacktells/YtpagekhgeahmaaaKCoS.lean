/- Contracts: frames that are the same, by the program. -/
import Derived.Test.YtpagekhgeahmaaaKCoB
import Derived.Test.YtpagekhgeahmaaaKRef
import Derived.Test.YtpagekhgeahmaaaKBas

namespace Go.Proofs.Ytpagekhgeahmaaa
open Go.RowKit
set_option linter.unusedVariables false
set_option linter.unusedSimpArgs false

set_option maxRecDepth 100000 in
set_option maxHeartbeats 2000000 in
theorem sameFrame_any (A B : Option Addr) (c d : Nat) (op pc op2 pc2 r0 r1 r2 r3 r4 r5 r6 r7 s0 s1 s2 s3 s4 s5 s6 s7 : Int) (xs ys : List Int) (w : World) (hA : Row w A xs) (hB : Row w B ys) (h0 : xs.length ≤ 1000000) :
    Calls Try.prog 95 #[.agg #[.int .i64 op, .int .i64 pc, .int .i64 r0, .int .i64 r1, .int .i64 r2, .int .i64 r3, .int .i64 r4, .int .i64 r5, .int .i64 r6, .int .i64 r7, .slice A xs.length c], .agg #[.int .i64 op2, .int .i64 pc2, .int .i64 s0, .int .i64 s1, .int .i64 s2, .int .i64 s3, .int .i64 s4, .int .i64 s5, .int .i64 s6, .int .i64 s7, .slice B ys.length d]] w fun e w' => e = .returned (.bool (frSame ⟨op, pc, [r0, r1, r2, r3, r4, r5, r6, r7], xs⟩ ⟨op2, pc2, [s0, s1, s2, s3, s4, s5, s6, s7], ys⟩)) ∧ Below w.heap.size w w' := by
  have hq := eql8 r0 r1 r2 r3 r4 r5 r6 r7 s0 s1 s2 s3 s4 s5 s6 s7
  have HF := hid (show frSame ⟨op, pc, [r0, r1, r2, r3, r4, r5, r6, r7], xs⟩ ⟨op2, pc2, [s0, s1, s2, s3, s4, s5, s6, s7], ys⟩ = ((op == op2) && (pc == pc2) && decide ([r0, r1, r2, r3, r4, r5, r6, r7] = [s0, s1, s2, s3, s4, s5, s6, s7]) && mInts xs ys) by
    unfold frSame
    dsimp only
    cases mInts xs ys <;> cases (op == op2) <;> cases (pc == pc2) <;> cases decide ([r0, r1, r2, r3, r4, r5, r6, r7] = [s0, s1, s2, s3, s4, s5, s6, s7]) <;> rfl)
  obtain ⟨v, hv⟩ : ∃ v, frSame ⟨op, pc, [r0, r1, r2, r3, r4, r5, r6, r7], xs⟩ ⟨op2, pc2, [s0, s1, s2, s3, s4, s5, s6, s7], ys⟩ = v := ⟨_, rfl⟩
  rw [hv] at HF ⊢
  clear hv
  obtain ⟨z, hz⟩ : ∃ z, decide ([r0, r1, r2, r3, r4, r5, r6, r7] = [s0, s1, s2, s3, s4, s5, s6, s7]) = z := ⟨_, rfl⟩
  rw [hz] at HF
  have hq2 : ∀ w, (binOp .eql 40 (.agg #[.int .i64 r0, .int .i64 r1, .int .i64 r2, .int .i64 r3, .int .i64 r4, .int .i64 r5, .int .i64 r6, .int .i64 r7]) (.agg #[.int .i64 s0, .int .i64 s1, .int .i64 s2, .int .i64 s3, .int .i64 s4, .int .i64 s5, .int .i64 s6, .int .i64 s7])).run Try.prog w = .ok (.bool z) w := fun w => by rw [hq w, hz]
  clear hq hz
  cases t1 : (op == op2)
  · rw [t1] at HF
    go_enter Try.func95, Try.ntmps95
    go_wp2
    go_ret
    exact ⟨ret_bool (by rw [HF.out]; rfl), bstep (boxed _ _) (boxed _ _)⟩
  · cases t2 : (pc == pc2)
    · rw [t1, t2] at HF
      go_enter Try.func95, Try.ntmps95
      go_wp2
      go_ret
      exact ⟨ret_bool (by rw [HF.out]; rfl), bstep (boxed _ _) (boxed _ _)⟩
    · cases z
      · rw [t1, t2] at HF
        go_enter Try.func95, Try.ntmps95
        go_wp2
        go_ret
        exact ⟨ret_bool (by rw [HF.out]; rfl), bstep (boxed _ _) (boxed _ _)⟩
      · rw [t1, t2] at HF
        go_enter Try.func95, Try.ntmps95
        go_wp2_with (go_at_call 93; refine (equal_any _ _ _ _ xs ys _ ((hA.alloc _).alloc _) ((hB.alloc _).alloc _) (by omega)).mono ?_; rintro e wk ⟨rfl, hk⟩)
        go_ret
        exact ⟨ret_bool (by rw [HF.out]; rfl), bstep (bstep (boxed _ _) (boxed _ _)) hk⟩

set_option maxRecDepth 100000 in
set_option maxHeartbeats 4000000 in
theorem eqF_any (A B : Option Addr) (c d : Nat) (fs gs : List Fr) (w : World) (hF : RowF w A fs) (hG : RowF w B gs) (h0 : fs.length ≤ 1000000) (h1 : ∀ f ∈ fs, f.S.length ≤ 1000000) :
    Calls Try.prog 94 #[.slice A fs.length c, .slice B gs.length d, .func (.func 95) #[] #[]] w fun e w' => e = .returned (.bool (lSame fs gs)) ∧ Below w.heap.size w w' := by
  have H1 := hid h1
  clear h1
  by_cases hl : fs.length = gs.length
  · have HL := hid hl
    have l1 : fs.length ≤ gs.length := by omega
    have l2 : gs.length ≤ fs.length := by omega
    have l3 : ((fs.length : Int) != (gs.length : Int)) = false := by simp [hl]
    clear hl
    go_enter Try.func94, Try.ntmps94
    go_wp2
    go_loopw [17] (fun i wr => ∃ k : Nat, k ≤ fs.length ∧ i = .int .i64 k ∧ Hid (fs.take k = gs.take k) ∧ Below w.heap.size w wr) (fun i _ => fs.length - (intOf i).toNat)
    case atStart => exact ⟨0, Nat.zero_le _, rfl, hid rfl, Below.refl _ _⟩
    case round =>
      obtain ⟨k, hk, rfl, HT, hbr⟩ := hrel
      by_cases hlt : k < fs.length
      · obtain ⟨b1, o1, rfl, hb1, hat1⟩ := hF (by omega)
        obtain ⟨b2, o2, rfl, hb2, hat2⟩ := hG (by omega)
        obtain ⟨f, hf⟩ : ∃ f, fs[k]? = some f := ⟨_, List.getElem?_eq_getElem hlt⟩
        obtain ⟨g, hg⟩ : ∃ g, gs[k]? = some g := ⟨_, List.getElem?_eq_getElem (by omega)⟩
        have hg1 : b1 < wr.heap.size := Nat.lt_of_lt_of_le hb1 hbr.size
        have hg2 : b2 < wr.heap.size := Nat.lt_of_lt_of_le hb2 hbr.size
        have n1 : b1 ≠ wr.heap.size := by omega
        have n2 : b2 ≠ wr.heap.size := by omega
        obtain ⟨⟨A1, c1⟩, h81, hc1, rS⟩ := ((hat1 k f hf).step hb1 hbr).cs
        obtain ⟨⟨A2, c2⟩, h82, hc2, sS⟩ := ((hat2 k g hg).step hb2 hbr).cs
        have hfS := H1.out f (List.mem_of_getElem? hf)
        obtain ⟨op, pc, Rs, xs⟩ := f
        obtain ⟨op2, pc2, Qs, ys⟩ := g
        dsimp only at h81 h82 hfS rS sS
        obtain ⟨r0, r1, r2, r3, r4, r5, r6, r7, rfl⟩ := fr8 h81
        obtain ⟨s0, s1, s2, s3, s4, s5, s6, s7, rfl⟩ := fr8 h82
        have u0 : wr.cell? ⟨b1, o1 + k * 11, none⟩ = some (.int .i64 op) := hc1 0 _ rfl
        have u1 : wr.cell? ⟨b1, o1 + k * 11 + 1, none⟩ = some (.int .i64 pc) := hc1 1 _ rfl
        have u2 : wr.cell? ⟨b1, o1 + k * 11 + 2, none⟩ = some (.int .i64 r0) := hc1 2 _ rfl
        have u3 : wr.cell? ⟨b1, o1 + k * 11 + 3, none⟩ = some (.int .i64 r1) := hc1 3 _ rfl
        have u4 : wr.cell? ⟨b1, o1 + k * 11 + 4, none⟩ = some (.int .i64 r2) := hc1 4 _ rfl
        have u5 : wr.cell? ⟨b1, o1 + k * 11 + 5, none⟩ = some (.int .i64 r3) := hc1 5 _ rfl
        have u6 : wr.cell? ⟨b1, o1 + k * 11 + 6, none⟩ = some (.int .i64 r4) := hc1 6 _ rfl
        have u7 : wr.cell? ⟨b1, o1 + k * 11 + 7, none⟩ = some (.int .i64 r5) := hc1 7 _ rfl
        have u8 : wr.cell? ⟨b1, o1 + k * 11 + 8, none⟩ = some (.int .i64 r6) := hc1 8 _ rfl
        have u9 : wr.cell? ⟨b1, o1 + k * 11 + 9, none⟩ = some (.int .i64 r7) := hc1 9 _ rfl
        have u10 : wr.cell? ⟨b1, o1 + k * 11 + 10, none⟩ = some (.slice A1 xs.length c1) := hc1 10 _ rfl
        have v0 : wr.cell? ⟨b2, o2 + k * 11, none⟩ = some (.int .i64 op2) := hc2 0 _ rfl
        have v1 : wr.cell? ⟨b2, o2 + k * 11 + 1, none⟩ = some (.int .i64 pc2) := hc2 1 _ rfl
        have v2 : wr.cell? ⟨b2, o2 + k * 11 + 2, none⟩ = some (.int .i64 s0) := hc2 2 _ rfl
        have v3 : wr.cell? ⟨b2, o2 + k * 11 + 3, none⟩ = some (.int .i64 s1) := hc2 3 _ rfl
        have v4 : wr.cell? ⟨b2, o2 + k * 11 + 4, none⟩ = some (.int .i64 s2) := hc2 4 _ rfl
        have v5 : wr.cell? ⟨b2, o2 + k * 11 + 5, none⟩ = some (.int .i64 s3) := hc2 5 _ rfl
        have v6 : wr.cell? ⟨b2, o2 + k * 11 + 6, none⟩ = some (.int .i64 s4) := hc2 6 _ rfl
        have v7 : wr.cell? ⟨b2, o2 + k * 11 + 7, none⟩ = some (.int .i64 s5) := hc2 7 _ rfl
        have v8 : wr.cell? ⟨b2, o2 + k * 11 + 8, none⟩ = some (.int .i64 s6) := hc2 8 _ rfl
        have v9 : wr.cell? ⟨b2, o2 + k * 11 + 9, none⟩ = some (.int .i64 s7) := hc2 9 _ rfl
        have v10 : wr.cell? ⟨b2, o2 + k * 11 + 10, none⟩ = some (.slice A2 ys.length c2) := hc2 10 _ rfl
        clear hc1 hc2 h81 h82
        have HFF := hid hf
        have HGG := hid hg
        clear hat1 hat2 hf hg
        have kl : (k : Int) < (fs.length : Int) := by omega
        have kl2 : (k : Int) < (gs.length : Int) := by omega
        have hfs := frSame_eq ⟨op, pc, [r0, r1, r2, r3, r4, r5, r6, r7], xs⟩ ⟨op2, pc2, [s0, s1, s2, s3, s4, s5, s6, s7], ys⟩
        by_cases heq : (⟨op, pc, [r0, r1, r2, r3, r4, r5, r6, r7], xs⟩ : Fr) = ⟨op2, pc2, [s0, s1, s2, s3, s4, s5, s6, s7], ys⟩
        · rw [decide_eq_true heq] at hfs
          have HT2 := hid (lSame_more HFF.out (by rw [heq]; exact HGG.out) HT.out)
          clear heq
          go_wp2_with (go_at_call 95; refine (sameFrame_any A1 A2 c1 c2 op pc op2 pc2 r0 r1 r2 r3 r4 r5 r6 r7 s0 s1 s2 s3 s4 s5 s6 s7 xs ys _ ((rS.alloc _).alloc _) ((sS.alloc _).alloc _) hfS).mono ?_; rintro e wk ⟨rfl, hk2⟩)
          go_roundw
          case rel => exact ⟨k + 1, by omega, by go_num, HT2, bstep hbr (bstep (bstep (boxed _ _) (boxed _ _)) hk2)⟩
          case measure => simp [intOf]; omega
        · rw [decide_eq_false heq] at hfs
          have HNE := hid heq
          clear heq
          go_wp2_with (go_at_call 95; refine (sameFrame_any A1 A2 c1 c2 op pc op2 pc2 r0 r1 r2 r3 r4 r5 r6 r7 s0 s1 s2 s3 s4 s5 s6 s7 xs ys _ ((rS.alloc _).alloc _) ((sS.alloc _).alloc _) hfS).mono ?_; rintro e wk ⟨rfl, hk2⟩)
          go_ret
          exact ⟨ret_bool (lSame_at HFF.out HGG.out HNE.out).symm, bstep hbr (bstep (bstep (boxed _ _) (boxed _ _)) hk2)⟩
      · go_wp2
        go_ret
        obtain rfl : k = fs.length := by omega
        exact ⟨ret_bool (lSame_all HL.out HT.out).symm, hbr⟩
  · have HL := hid hl
    have l3 : ((fs.length : Int) != (gs.length : Int)) = true := by simp; omega
    clear hl
    go_enter Try.func94, Try.ntmps94
    go_wp2
    go_ret
    exact ⟨ret_bool (lSame_len HL.out).symm, Below.refl _ _⟩
end Go.Proofs.Ytpagekhgeahmaaa

/- Contracts: cores and systems that are the same, by the program. -/
namespace Go.Proofs.Ytpagekhgeahmaaa
open Go.RowKit
set_option linter.unusedVariables false
set_option linter.unusedSimpArgs false

theorem eql3 (a b c a' b' c' : Int) (w : World) : (binOp .eql 63 (.agg #[.int .i64 a, .int .i64 b, .int .i64 c]) (.agg #[.int .i64 a', .int .i64 b', .int .i64 c'])).run Try.prog w = .ok (.bool (decide ([a, b, c] = [a', b', c']))) w := by
  obtain ⟨i, hi⟩ := int_info3
  exact run_eql_ints w Try.underlying63 Try.underlying3 hi (by kernel_rfl) [a, b, c] [a', b', c'] rfl rfl

set_option maxRecDepth 100000 in
set_option maxHeartbeats 4000000 in
theorem sameCore_any (AF AR BF BR : Option Addr) (cF cR dF dR : Nat) (x y : Co) (w : World) (hF : RowF w AF x.F) (hR : Row w AR x.ret) (kF : RowF w BF y.F) (kR : Row w BR y.ret) (h0 : x.ret.length ≤ 1000000) (h1 : x.F.length ≤ 1000000) (h2 : ∀ f ∈ x.F, f.S.length ≤ 1000000) :
    Calls Try.prog 64 #[.agg #[.slice AF x.F.length cF, .int .i64 x.v, .int .i64 x.e, .int .i64 x.x0, .int .i64 x.x1, .int .i64 x.x2, .slice AR x.ret.length cR], .agg #[.slice BF y.F.length dF, .int .i64 y.v, .int .i64 y.e, .int .i64 y.x0, .int .i64 y.x1, .int .i64 y.x2, .slice BR y.ret.length dR]] w fun e w' => e = .returned (.bool (coSame x y)) ∧ Below w.heap.size w w' := by
  have H2 := hid h2
  clear h2
  have hq := eql3 x.x0 x.x1 x.x2 y.x0 y.x1 y.x2
  have HC := hid (show coSame x y = (lSame x.F y.F && (x.v == y.v) && (x.e == y.e) && decide ([x.x0, x.x1, x.x2] = [y.x0, y.x1, y.x2]) && mInts x.ret y.ret) by
    unfold coSame
    cases mInts x.ret y.ret <;> cases (x.v == y.v) <;> cases (x.e == y.e) <;> cases decide ([x.x0, x.x1, x.x2] = [y.x0, y.x1, y.x2]) <;> cases lSame x.F y.F <;> rfl)
  obtain ⟨z, hz⟩ : ∃ z, decide ([x.x0, x.x1, x.x2] = [y.x0, y.x1, y.x2]) = z := ⟨_, rfl⟩
  rw [hz] at HC
  have hq2 : ∀ w, (binOp .eql 63 (.agg #[.int .i64 x.x0, .int .i64 x.x1, .int .i64 x.x2]) (.agg #[.int .i64 y.x0, .int .i64 y.x1, .int .i64 y.x2])).run Try.prog w = .ok (.bool z) w := fun w => by rw [hq w, hz]
  clear hq hz
  cases t0 : lSame x.F y.F
  · rw [t0] at HC
    go_enter Try.func64, Try.ntmps64
    go_wp2_with fail
    refine (eqF_any _ _ _ _ x.F y.F _ ((hF.step (boxed w _)).step (boxed _ _)) ((kF.step (boxed w _)).step (boxed _ _)) h1 H2.out).mono ?_
    rintro e wk ⟨rfl, hk⟩
    rw [t0]
    obtain ⟨gc, gf⟩ := bcell hk
    have hz1 : w.heap.size + 1 < wk.heap.size := (by have := hk.size; simp at this; omega)
    have hz0 : w.heap.size < wk.heap.size := (by omega)
    go_wp2
    go_ret
    exact ⟨ret_bool (by rw [HC.out]; rfl), bstep (bstep (boxed _ _) (boxed _ _)) hk⟩
  · cases t1 : (x.v == y.v)
    · rw [t0, t1] at HC
      go_enter Try.func64, Try.ntmps64
      go_wp2_with fail
      refine (eqF_any _ _ _ _ x.F y.F _ ((hF.step (boxed w _)).step (boxed _ _)) ((kF.step (boxed w _)).step (boxed _ _)) h1 H2.out).mono ?_
      rintro e wk ⟨rfl, hk⟩
      rw [t0]
      obtain ⟨gc, gf⟩ := bcell hk
      have hz1 : w.heap.size + 1 < wk.heap.size := (by have := hk.size; simp at this; omega)
      have hz0 : w.heap.size < wk.heap.size := (by omega)
      go_wp2
      go_ret
      exact ⟨ret_bool (by rw [HC.out]; rfl), bstep (bstep (boxed _ _) (boxed _ _)) hk⟩
    · cases t2 : (x.e == y.e)
      · rw [t0, t1, t2] at HC
        go_enter Try.func64, Try.ntmps64
        go_wp2_with fail
        refine (eqF_any _ _ _ _ x.F y.F _ ((hF.step (boxed w _)).step (boxed _ _)) ((kF.step (boxed w _)).step (boxed _ _)) h1 H2.out).mono ?_
        rintro e wk ⟨rfl, hk⟩
        rw [t0]
        obtain ⟨gc, gf⟩ := bcell hk
        have hz1 : w.heap.size + 1 < wk.heap.size := (by have := hk.size; simp at this; omega)
        have hz0 : w.heap.size < wk.heap.size := (by omega)
        go_wp2
        go_ret
        exact ⟨ret_bool (by rw [HC.out]; rfl), bstep (bstep (boxed _ _) (boxed _ _)) hk⟩
      · cases z
        · rw [t0, t1, t2] at HC
          go_enter Try.func64, Try.ntmps64
          go_wp2_with fail
          refine (eqF_any _ _ _ _ x.F y.F _ ((hF.step (boxed w _)).step (boxed _ _)) ((kF.step (boxed w _)).step (boxed _ _)) h1 H2.out).mono ?_
          rintro e wk ⟨rfl, hk⟩
          rw [t0]
          obtain ⟨gc, gf⟩ := bcell hk
          have hz1 : w.heap.size + 1 < wk.heap.size := (by have := hk.size; simp at this; omega)
          have hz0 : w.heap.size < wk.heap.size := (by omega)
          go_wp2
          go_ret
          exact ⟨ret_bool (by rw [HC.out]; rfl), bstep (bstep (boxed _ _) (boxed _ _)) hk⟩
        · rw [t0, t1, t2] at HC
          go_enter Try.func64, Try.ntmps64
          go_wp2_with fail
          refine (eqF_any _ _ _ _ x.F y.F _ ((hF.step (boxed w _)).step (boxed _ _)) ((kF.step (boxed w _)).step (boxed _ _)) h1 H2.out).mono ?_
          rintro e wk ⟨rfl, hk⟩
          rw [t0]
          obtain ⟨gc, gf⟩ := bcell hk
          have hz1 : w.heap.size + 1 < wk.heap.size := (by have := hk.size; simp at this; omega)
          have hz0 : w.heap.size < wk.heap.size := (by omega)
          go_wp2_with fail
          refine (equal_any _ _ _ _ x.ret y.ret _ (((hR.alloc _).alloc _).step hk) (((kR.alloc _).alloc _).step hk) (by omega)).mono ?_
          rintro e wl ⟨rfl, hl⟩
          go_wp2
          go_ret
          exact ⟨ret_bool (by rw [HC.out]; rfl), bstep (bstep (bstep (boxed _ _) (boxed _ _)) hk) hl⟩

set_option maxRecDepth 100000 in
set_option maxHeartbeats 4000000 in
theorem eqC_any (A B : Option Addr) (c d : Nat) (fs gs : List Co) (w : World) (hF : RowC w A fs) (hG : RowC w B gs) (h0 : fs.length ≤ 1000000) (h1 : ∀ x ∈ fs, x.ret.length ≤ 1000000 ∧ x.F.length ≤ 1000000 ∧ ∀ f ∈ x.F, f.S.length ≤ 1000000) :
    Calls Try.prog 63 #[.slice A fs.length c, .slice B gs.length d, .func (.func 64) #[] #[]] w fun e w' => e = .returned (.bool (lSame fs gs)) ∧ Below w.heap.size w w' := by
  have H1 := hid h1
  clear h1
  by_cases hl : fs.length = gs.length
  · have HL := hid hl
    have l1 : fs.length ≤ gs.length := by omega
    have l2 : gs.length ≤ fs.length := by omega
    have l3 : ((fs.length : Int) != (gs.length : Int)) = false := by simp [hl]
    clear hl
    go_enter Try.func63, Try.ntmps63
    go_wp2
    go_loopw [17] (fun i wr => ∃ k : Nat, k ≤ fs.length ∧ i = .int .i64 k ∧ Hid (fs.take k = gs.take k) ∧ Below w.heap.size w wr) (fun i _ => fs.length - (intOf i).toNat)
    case atStart => exact ⟨0, Nat.zero_le _, rfl, hid rfl, Below.refl _ _⟩
    case round =>
      obtain ⟨k, hk, rfl, HT, hbr⟩ := hrel
      by_cases hlt : k < fs.length
      · obtain ⟨b1, o1, rfl, hb1, hat1⟩ := hF (by omega)
        obtain ⟨b2, o2, rfl, hb2, hat2⟩ := hG (by omega)
        obtain ⟨f, hf⟩ : ∃ f, fs[k]? = some f := ⟨_, List.getElem?_eq_getElem hlt⟩
        obtain ⟨g, hg⟩ : ∃ g, gs[k]? = some g := ⟨_, List.getElem?_eq_getElem (by omega)⟩
        have hg1 : b1 < wr.heap.size := Nat.lt_of_lt_of_le hb1 hbr.size
        have hg2 : b2 < wr.heap.size := Nat.lt_of_lt_of_le hb2 hbr.size
        have n1 : b1 ≠ wr.heap.size := by omega
        have n2 : b2 ≠ wr.heap.size := by omega
        obtain ⟨AF, AR, cF, cR, hc1, rF, rR⟩ := ((hat1 k f hf).step hb1 hbr).cs
        obtain ⟨BF, BR, dF, dR, hc2, sF, sR⟩ := ((hat2 k g hg).step hb2 hbr).cs
        obtain ⟨y1, y2, y3⟩ := H1.out f (List.mem_of_getElem? hf)
        have u0 : wr.cell? ⟨b1, o1 + k * 7, none⟩ = some (.slice AF f.F.length cF) := hc1 0 _ rfl
        have u1 : wr.cell? ⟨b1, o1 + k * 7 + 1, none⟩ = some (.int .i64 f.v) := hc1 1 _ rfl
        have u2 : wr.cell? ⟨b1, o1 + k * 7 + 2, none⟩ = some (.int .i64 f.e) := hc1 2 _ rfl
        have u3 : wr.cell? ⟨b1, o1 + k * 7 + 3, none⟩ = some (.int .i64 f.x0) := hc1 3 _ rfl
        have u4 : wr.cell? ⟨b1, o1 + k * 7 + 4, none⟩ = some (.int .i64 f.x1) := hc1 4 _ rfl
        have u5 : wr.cell? ⟨b1, o1 + k * 7 + 5, none⟩ = some (.int .i64 f.x2) := hc1 5 _ rfl
        have u6 : wr.cell? ⟨b1, o1 + k * 7 + 6, none⟩ = some (.slice AR f.ret.length cR) := hc1 6 _ rfl
        have v0 : wr.cell? ⟨b2, o2 + k * 7, none⟩ = some (.slice BF g.F.length dF) := hc2 0 _ rfl
        have v1 : wr.cell? ⟨b2, o2 + k * 7 + 1, none⟩ = some (.int .i64 g.v) := hc2 1 _ rfl
        have v2 : wr.cell? ⟨b2, o2 + k * 7 + 2, none⟩ = some (.int .i64 g.e) := hc2 2 _ rfl
        have v3 : wr.cell? ⟨b2, o2 + k * 7 + 3, none⟩ = some (.int .i64 g.x0) := hc2 3 _ rfl
        have v4 : wr.cell? ⟨b2, o2 + k * 7 + 4, none⟩ = some (.int .i64 g.x1) := hc2 4 _ rfl
        have v5 : wr.cell? ⟨b2, o2 + k * 7 + 5, none⟩ = some (.int .i64 g.x2) := hc2 5 _ rfl
        have v6 : wr.cell? ⟨b2, o2 + k * 7 + 6, none⟩ = some (.slice BR g.ret.length dR) := hc2 6 _ rfl
        have HY := hid y3
        clear hc1 hc2 y3
        have HFF := hid hf
        have HGG := hid hg
        clear hat1 hat2 hf hg
        have kl : (k : Int) < (fs.length : Int) := by omega
        have kl2 : (k : Int) < (gs.length : Int) := by omega
        have hfs := coSame_eq f g
        by_cases heq : f = g
        · rw [decide_eq_true heq] at hfs
          have HT2 := hid (lSame_more HFF.out (by rw [heq]; exact HGG.out) HT.out)
          clear heq
          go_wp2_with (go_at_call 64; refine (sameCore_any AF AR BF BR cF cR dF dR f g _ ((rF.step (boxed wr _)).step (boxed _ _)) ((rR.alloc _).alloc _) ((sF.step (boxed wr _)).step (boxed _ _)) ((sR.alloc _).alloc _) y1 y2 HY.out).mono ?_; rintro e wk ⟨rfl, hk2⟩)
          go_roundw
          case rel => exact ⟨k + 1, by omega, by go_num, HT2, bstep hbr (bstep (bstep (boxed _ _) (boxed _ _)) hk2)⟩
          case measure => simp [intOf]; omega
        · rw [decide_eq_false heq] at hfs
          have HNE := hid heq
          clear heq
          go_wp2_with (go_at_call 64; refine (sameCore_any AF AR BF BR cF cR dF dR f g _ ((rF.step (boxed wr _)).step (boxed _ _)) ((rR.alloc _).alloc _) ((sF.step (boxed wr _)).step (boxed _ _)) ((sR.alloc _).alloc _) y1 y2 HY.out).mono ?_; rintro e wk ⟨rfl, hk2⟩)
          go_ret
          exact ⟨ret_bool (lSame_at HFF.out HGG.out HNE.out).symm, bstep hbr (bstep (bstep (boxed _ _) (boxed _ _)) hk2)⟩
      · go_wp2
        go_ret
        obtain rfl : k = fs.length := by omega
        exact ⟨ret_bool (lSame_all HL.out HT.out).symm, hbr⟩
  · have HL := hid hl
    have l3 : ((fs.length : Int) != (gs.length : Int)) = true := by simp; omega
    clear hl
    go_enter Try.func63, Try.ntmps63
    go_wp2
    go_ret
    exact ⟨ret_bool (lSame_len HL.out).symm, Below.refl _ _⟩
end Go.Proofs.Ytpagekhgeahmaaa

/- Contracts: systems that are the same, by the program. -/
namespace Go.Proofs.Ytpagekhgeahmaaa
open Go.RowKit
set_option linter.unusedVariables false
set_option linter.unusedSimpArgs false

set_option maxHeartbeats 2000000 in
theorem evs_any (A B : Option Addr) (c d : Nat) (xs ys : List Evt) (w : World) (ha : RowE w A xs) (hb : RowE w B ys) (h0 : xs.length ≤ 1000000000) :
    Calls Try.prog 65 #[.slice A xs.length c, .slice B ys.length d] w fun e w' => e = .returned (.bool (lSame xs ys)) ∧ Below w.heap.size w w' := by
  by_cases hl : xs.length = ys.length
  · have HL := hid hl
    have hl1 : xs.length ≤ ys.length := by omega
    have hl2 : ys.length ≤ xs.length := by omega
    have hl3 : ((xs.length : Int) != (ys.length : Int)) = false := by simp [hl]
    clear hl
    go_enter Try.func65, Try.ntmps65
    go_wp2
    go_loopw [13] (fun i wr => ∃ (k nq : Nat), k ≤ xs.length ∧ i = .int .i64 k ∧ Hid (xs.take k = ys.take k) ∧ wr = w.drewN nq) (fun i _ => xs.length - (intOf i).toNat)
    case atStart => exact ⟨0, 0, Nat.zero_le _, rfl, hid rfl, rfl⟩
    case round =>
      obtain ⟨k, nq, hk, rfl, HT, rfl⟩ := hrel
      by_cases hlt : k < xs.length
      · have hlt2 : k < ys.length := by omega
        obtain ⟨b1, o1, rfl, hb1, hat1⟩ := ha (by omega)
        obtain ⟨b2, o2, rfl, hb2, hat2⟩ := hb (by omega)
        obtain ⟨x, hx⟩ : ∃ x, xs[k]? = some x := ⟨_, List.getElem?_eq_getElem hlt⟩
        obtain ⟨y, hy⟩ : ∃ y, ys[k]? = some y := ⟨_, List.getElem?_eq_getElem hlt2⟩
        obtain ⟨c0, c1, c2, c3, c4⟩ := hat1 k x hx
        obtain ⟨d0, d1, d2, d3, d4⟩ := hat2 k y hy
        have HX := hid hx
        have HY := hid hy
        have hq := neqEv x y
        clear hat1 hat2 hx hy
        by_cases t : x = y
        · subst t
          have hq2 : ∀ w, (binOp .neq 56 (.agg #[.int .i64 x.core, .int .i64 x.kind, .int .i64 x.a, .int .i64 x.b, .int .i64 x.v]) (.agg #[.int .i64 x.core, .int .i64 x.kind, .int .i64 x.a, .int .i64 x.b, .int .i64 x.v])).run Try.prog w = .ok (.bool false) w := fun w => by rw [hq w]; simp
          clear hq
          have HT2 := hid (lSame_more HX.out HY.out HT.out)
          go_wp2_with fail
          go_quiet (fail)
          go_wp2
          go_roundw
          case rel => exact ⟨k + 1, _, by omega, by go_num, HT2, rfl⟩
          case measure => simp [intOf]; omega
        · have hq2 : ∀ w, (binOp .neq 56 (.agg #[.int .i64 x.core, .int .i64 x.kind, .int .i64 x.a, .int .i64 x.b, .int .i64 x.v]) (.agg #[.int .i64 y.core, .int .i64 y.kind, .int .i64 y.a, .int .i64 y.b, .int .i64 y.v])).run Try.prog w = .ok (.bool true) w := fun w => by rw [hq w]; simp [t]
          have HN := hid t
          clear hq t
          go_wp2_with fail
          go_quiet (fail)
          go_wp2
          go_ret
          exact ⟨ret_bool (lSame_at HX.out HY.out HN.out).symm, bdrewN (bdrewN (Below.refl _ _) _) _⟩
      · go_wp2
        go_ret
        obtain rfl : k = xs.length := by omega
        exact ⟨ret_bool (lSame_all HL.out HT.out).symm, bdrewN (Below.refl _ _) _⟩
  · have HL := hid hl
    have hl3 : ((xs.length : Int) != (ys.length : Int)) = true := by simp; omega
    clear hl
    go_enter Try.func65, Try.ntmps65
    go_wp2
    go_ret
    exact ⟨ret_bool (lSame_len HL.out).symm, Below.refl _ _⟩

set_option maxRecDepth 100000 in
set_option maxHeartbeats 2000000 in
theorem same3_any (A B AC AL A2 B2 BC BL : Option Addr) (c d cC cL c2 d2 dC dL : Nat) (x y : Sy) (w : World) (hW : Row w A x.M.W) (hG : Row w B x.M.G) (hC : RowC w AC x.C) (hL : RowE w AL x.L) (kW : Row w A2 y.M.W) (kG : Row w B2 y.M.G) (kC : RowC w BC y.C) (kL : RowE w BL y.L)
    (h0 : x.M.W.length ≤ 1000000) (h1 : x.M.G.length ≤ 1000000) (h2 : x.C.length ≤ 1000000) (h3 : x.L.length ≤ 1000000) (h4 : ∀ z ∈ x.C, z.ret.length ≤ 1000000 ∧ z.F.length ≤ 1000000 ∧ ∀ f ∈ z.F, f.S.length ≤ 1000000) :
    Calls Try.prog 22 #[.agg #[.slice A x.M.W.length c, .slice B x.M.G.length d, .bool x.M.bad, .slice AC x.C.length cC, .slice AL x.L.length cL], .agg #[.slice A2 y.M.W.length c2, .slice B2 y.M.G.length d2, .bool y.M.bad, .slice BC y.C.length dC, .slice BL y.L.length dL]] w fun e w' => e = .returned (.bool (sySame x y)) ∧ Below w.heap.size w w' := by
  have H4 := hid h4
  clear h4
  have HC := hid (show sySame x y = (mSame x.M y.M && lSame x.C y.C && lSame x.L y.L) by
    unfold sySame
    cases mSame x.M y.M <;> cases lSame x.C y.C <;> cases lSame x.L y.L <;> rfl)
  cases t0 : mSame x.M y.M
  · rw [t0] at HC
    go_enter Try.func22, Try.ntmps22
    go_wp2_with (go_at_call 62; refine (same_any _ _ _ _ _ _ _ _ x.M y.M _ ((hW.alloc _).alloc _) ((hG.alloc _).alloc _) ((kW.alloc _).alloc _) ((kG.alloc _).alloc _) (by omega) (by omega)).mono ?_; rintro e wk ⟨rfl, hk⟩; obtain ⟨gc, gf⟩ := bcell hk; have hz1 : w.heap.size + 1 < wk.heap.size := (by have := hk.size; simp at this; omega); have hz0 : w.heap.size < wk.heap.size := (by omega))
    go_ret
    exact ⟨ret_bool (by rw [HC.out]; rfl), bstep (bstep (boxed _ _) (boxed _ _)) hk⟩
  · cases t1 : lSame x.C y.C
    · rw [t0, t1] at HC
      go_enter Try.func22, Try.ntmps22
      go_wp2_with (first
        | (go_at_call 62; refine (same_any _ _ _ _ _ _ _ _ x.M y.M _ ((hW.alloc _).alloc _) ((hG.alloc _).alloc _) ((kW.alloc _).alloc _) ((kG.alloc _).alloc _) (by omega) (by omega)).mono ?_; rintro e wk ⟨rfl, hk⟩; obtain ⟨gc, gf⟩ := bcell hk; have hz1 : w.heap.size + 1 < wk.heap.size := (by have := hk.size; simp at this; omega); have hz0 : w.heap.size < wk.heap.size := (by omega))
        | (go_at_call 63; refine (eqC_any _ _ _ _ x.C y.C _ (((hC.step (boxed w _)).step (boxed _ _)).step hk) (((kC.step (boxed w _)).step (boxed _ _)).step hk) h2 H4.out).mono ?_; rintro e wl ⟨rfl, hl⟩; obtain ⟨gc2, gf2⟩ := bcell hl))
      go_ret
      exact ⟨ret_bool (by rw [HC.out]; rfl), bstep (bstep (bstep (boxed _ _) (boxed _ _)) hk) hl⟩
    · rw [t0, t1] at HC
      go_enter Try.func22, Try.ntmps22
      go_wp2_with (first
        | (go_at_call 62; refine (same_any _ _ _ _ _ _ _ _ x.M y.M _ ((hW.alloc _).alloc _) ((hG.alloc _).alloc _) ((kW.alloc _).alloc _) ((kG.alloc _).alloc _) (by omega) (by omega)).mono ?_; rintro e wk ⟨rfl, hk⟩; obtain ⟨gc, gf⟩ := bcell hk; have hz1 : w.heap.size + 1 < wk.heap.size := (by have := hk.size; simp at this; omega); have hz0 : w.heap.size < wk.heap.size := (by omega))
        | (go_at_call 63; refine (eqC_any _ _ _ _ x.C y.C _ (((hC.step (boxed w _)).step (boxed _ _)).step hk) (((kC.step (boxed w _)).step (boxed _ _)).step hk) h2 H4.out).mono ?_; rintro e wl ⟨rfl, hl⟩; obtain ⟨gc2, gf2⟩ := bcell hl)
        | (go_at_call 65; refine (evs_any _ _ _ _ x.L y.L _ ((((hL.step (boxed w _)).step (boxed _ _)).step hk).step hl) ((((kL.step (boxed w _)).step (boxed _ _)).step hk).step hl) (by omega)).mono ?_; rintro e wm ⟨rfl, hm⟩))
      go_ret
      exact ⟨ret_bool (by rw [HC.out]; rfl), bstep (bstep (bstep (bstep (boxed _ _) (boxed _ _)) hk) hl) hm⟩
end Go.Proofs.Ytpagekhgeahmaaa
