/- Contracts: cores and systems that are the same, by the program. -/
import Derived.Test.YtpagekhgeahmaaaCoreS1
namespace Go.Proofs.Ytpagekhgeahmaaa
open Go.RowKit
set_option linter.unusedVariables false
set_option linter.unusedSimpArgs false

theorem eql3 (a b c a' b' c' : Int) (w : World) : (binOp .eql 63 (.agg #[.int .i64 a, .int .i64 b, .int .i64 c]) (.agg #[.int .i64 a', .int .i64 b', .int .i64 c'])).run Try.prog w = .ok (.bool (decide ([a, b, c] = [a', b', c']))) w := by
  obtain ⟨i, hi⟩ := int_info3
  exact run_eql_ints w Try.underlying63 Try.underlying3 hi (by kernel_rfl) [a, b, c] [a', b', c'] rfl rfl

set_option maxRecDepth 100000 in
set_option maxHeartbeats 4000000 in
theorem sameCore_any (AF AR BF BR : Option Addr) (cF cR dF dR : Nat) (x y : Co) (w : World) (hF : RowF w AF x.F) (hR : Row w AR x.ret) (kF : RowF w BF y.F) (kR : Row w BR y.ret) (h0 : x.ret.length ≤ 1000000) (h1 : x.F.length ≤ 1000000) (h2 : ∀ f ∈ x.F, f.S.length ≤ 1000000) :
    Calls Try.prog 64 #[.agg #[.slice AF x.F.length cF, .int .i64 x.v, .int .i64 x.e, .int .i64 x.x0, .int .i64 x.x1, .int .i64 x.x2, .slice AR x.ret.length cR], .agg #[.slice BF y.F.length dF, .int .i64 y.v, .int .i64 y.e, .int .i64 y.x0, .int .i64 y.x1, .int .i64 y.x2, .slice BR y.ret.length dR]] w fun e w' => e = .returned (.bool (coSame x y)) ∧ Below w.heap.size w w' := by
  have H2 := hid h2
  clear h2
  have hq := eql3 x.x0 x.x1 x.x2 y.x0 y.x1 y.x2
  have HC := hid (show coSame x y = (lSame x.F y.F && (x.v == y.v) && (x.e == y.e) && decide ([x.x0, x.x1, x.x2] = [y.x0, y.x1, y.x2]) && mInts x.ret y.ret) by
    unfold coSame
    cases mInts x.ret y.ret <;> cases (x.v == y.v) <;> cases (x.e == y.e) <;> cases decide ([x.x0, x.x1, x.x2] = [y.x0, y.x1, y.x2]) <;> cases lSame x.F y.F <;> rfl)
  obtain ⟨z, hz⟩ : ∃ z, decide ([x.x0, x.x1, x.x2] = [y.x0, y.x1, y.x2]) = z := ⟨_, rfl⟩
  rw [hz] at HC
  have hq2 : ∀ w, (binOp .eql 63 (.agg #[.int .i64 x.x0, .int .i64 x.x1, .int .i64 x.x2]) (.agg #[.int .i64 y.x0, .int .i64 y.x1, .int .i64 y.x2])).run Try.prog w = .ok (.bool z) w := fun w => by rw [hq w, hz]
  clear hq hz
  cases t0 : lSame x.F y.F
  · rw [t0] at HC
    go_enter Try.func64, Try.ntmps64
    go_wp2_with fail
    refine (eqF_any _ _ _ _ x.F y.F _ ((hF.step (boxed w _)).step (boxed _ _)) ((kF.step (boxed w _)).step (boxed _ _)) h1 H2.out).mono ?_
    rintro e wk ⟨rfl, hk⟩
    rw [t0]
    obtain ⟨gc, gf⟩ := bcell hk
    have hz1 : w.heap.size + 1 < wk.heap.size := (by have := hk.size; simp at this; omega)
    have hz0 : w.heap.size < wk.heap.size := (by omega)
    go_wp2
    go_ret
    exact ⟨ret_bool (by rw [HC.out]; rfl), bstep (bstep (boxed _ _) (boxed _ _)) hk⟩
  · cases t1 : (x.v == y.v)
    · rw [t0, t1] at HC
      go_enter Try.func64, Try.ntmps64
      go_wp2_with fail
      refine (eqF_any _ _ _ _ x.F y.F _ ((hF.step (boxed w _)).step (boxed _ _)) ((kF.step (boxed w _)).step (boxed _ _)) h1 H2.out).mono ?_
      rintro e wk ⟨rfl, hk⟩
      rw [t0]
      obtain ⟨gc, gf⟩ := bcell hk
      have hz1 : w.heap.size + 1 < wk.heap.size := (by have := hk.size; simp at this; omega)
      have hz0 : w.heap.size < wk.heap.size := (by omega)
      go_wp2
      go_ret
      exact ⟨ret_bool (by rw [HC.out]; rfl), bstep (bstep (boxed _ _) (boxed _ _)) hk⟩
    · cases t2 : (x.e == y.e)
      · rw [t0, t1, t2] at HC
        go_enter Try.func64, Try.ntmps64
        go_wp2_with fail
        refine (eqF_any _ _ _ _ x.F y.F _ ((hF.step (boxed w _)).step (boxed _ _)) ((kF.step (boxed w _)).step (boxed _ _)) h1 H2.out).mono ?_
        rintro e wk ⟨rfl, hk⟩
        rw [t0]
        obtain ⟨gc, gf⟩ := bcell hk
        have hz1 : w.heap.size + 1 < wk.heap.size := (by have := hk.size; simp at this; omega)
        have hz0 : w.heap.size < wk.heap.size := (by omega)
        go_wp2
        go_ret
        exact ⟨ret_bool (by rw [HC.out]; rfl), bstep (bstep (boxed _ _) (boxed _ _)) hk⟩
      · cases z
        · rw [t0, t1, t2] at HC
          go_enter Try.func64, Try.ntmps64
          go_wp2_with fail
          refine (eqF_any _ _ _ _ x.F y.F _ ((hF.step (boxed w _)).step (boxed _ _)) ((kF.step (boxed w _)).step (boxed _ _)) h1 H2.out).mono ?_
          rintro e wk ⟨rfl, hk⟩
          rw [t0]
          obtain ⟨gc, gf⟩ := bcell hk
          have hz1 : w.heap.size + 1 < wk.heap.size := (by have := hk.size; simp at this; omega)
          have hz0 : w.heap.size < wk.heap.size := (by omega)
          go_wp2
          go_ret
          exact ⟨ret_bool (by rw [HC.out]; rfl), bstep (bstep (boxed _ _) (boxed _ _)) hk⟩
        · rw [t0, t1, t2] at HC
          go_enter Try.func64, Try.ntmps64
          go_wp2_with fail
          refine (eqF_any _ _ _ _ x.F y.F _ ((hF.step (boxed w _)).step (boxed _ _)) ((kF.step (boxed w _)).step (boxed _ _)) h1 H2.out).mono ?_
          rintro e wk ⟨rfl, hk⟩
          rw [t0]
          obtain ⟨gc, gf⟩ := bcell hk
          have hz1 : w.heap.size + 1 < wk.heap.size := (by have := hk.size; simp at this; omega)
          have hz0 : w.heap.size < wk.heap.size := (by omega)
          go_wp2_with fail
          refine (equal_any _ _ _ _ x.ret y.ret _ (((hR.alloc _).alloc _).step hk) (((kR.alloc _).alloc _).step hk) (by omega)).mono ?_
          rintro e wl ⟨rfl, hl⟩
          go_wp2
          go_ret
          exact ⟨ret_bool (by rw [HC.out]; rfl), bstep (bstep (bstep (boxed _ _) (boxed _ _)) hk) hl⟩

set_option maxRecDepth 100000 in
set_option maxHeartbeats 4000000 in
theorem eqC_any (A B : Option Addr) (c d : Nat) (fs gs : List Co) (w : World) (hF : RowC w A fs) (hG : RowC w B gs) (h0 : fs.length ≤ 1000000) (h1 : ∀ x ∈ fs, x.ret.length ≤ 1000000 ∧ x.F.length ≤ 1000000 ∧ ∀ f ∈ x.F, f.S.length ≤ 1000000) :
    Calls Try.prog 63 #[.slice A fs.length c, .slice B gs.length d, .func (.func 64) #[] #[]] w fun e w' => e = .returned (.bool (lSame fs gs)) ∧ Below w.heap.size w w' := by
  have H1 := hid h1
  clear h1
  by_cases hl : fs.length = gs.length
  · have HL := hid hl
    have l1 : fs.length ≤ gs.length := by omega
    have l2 : gs.length ≤ fs.length := by omega
    have l3 : ((fs.length : Int) != (gs.length : Int)) = false := by simp [hl]
    clear hl
    go_enter Try.func63, Try.ntmps63
    go_wp2
    go_loopw [17] (fun i wr => ∃ k : Nat, k ≤ fs.length ∧ i = .int .i64 k ∧ Hid (fs.take k = gs.take k) ∧ Below w.heap.size w wr) (fun i _ => fs.length - (intOf i).toNat)
    case atStart => exact ⟨0, Nat.zero_le _, rfl, hid rfl, Below.refl _ _⟩
    case round =>
      obtain ⟨k, hk, rfl, HT, hbr⟩ := hrel
      by_cases hlt : k < fs.length
      · obtain ⟨b1, o1, rfl, hb1, hat1⟩ := hF (by omega)
        obtain ⟨b2, o2, rfl, hb2, hat2⟩ := hG (by omega)
        obtain ⟨f, hf⟩ : ∃ f, fs[k]? = some f := ⟨_, List.getElem?_eq_getElem hlt⟩
        obtain ⟨g, hg⟩ : ∃ g, gs[k]? = some g := ⟨_, List.getElem?_eq_getElem (by omega)⟩
        have hg1 : b1 < wr.heap.size := Nat.lt_of_lt_of_le hb1 hbr.size
        have hg2 : b2 < wr.heap.size := Nat.lt_of_lt_of_le hb2 hbr.size
        have n1 : b1 ≠ wr.heap.size := by omega
        have n2 : b2 ≠ wr.heap.size := by omega
        obtain ⟨AF, AR, cF, cR, hc1, rF, rR⟩ := ((hat1 k f hf).step hb1 hbr).cs
        obtain ⟨BF, BR, dF, dR, hc2, sF, sR⟩ := ((hat2 k g hg).step hb2 hbr).cs
        obtain ⟨y1, y2, y3⟩ := H1.out f (List.mem_of_getElem? hf)
        have u0 : wr.cell? ⟨b1, o1 + k * 7, none⟩ = some (.slice AF f.F.length cF) := hc1 0 _ rfl
        have u1 : wr.cell? ⟨b1, o1 + k * 7 + 1, none⟩ = some (.int .i64 f.v) := hc1 1 _ rfl
        have u2 : wr.cell? ⟨b1, o1 + k * 7 + 2, none⟩ = some (.int .i64 f.e) := hc1 2 _ rfl
        have u3 : wr.cell? ⟨b1, o1 + k * 7 + 3, none⟩ = some (.int .i64 f.x0) := hc1 3 _ rfl
        have u4 : wr.cell? ⟨b1, o1 + k * 7 + 4, none⟩ = some (.int .i64 f.x1) := hc1 4 _ rfl
        have u5 : wr.cell? ⟨b1, o1 + k * 7 + 5, none⟩ = some (.int .i64 f.x2) := hc1 5 _ rfl
        have u6 : wr.cell? ⟨b1, o1 + k * 7 + 6, none⟩ = some (.slice AR f.ret.length cR) := hc1 6 _ rfl
        have v0 : wr.cell? ⟨b2, o2 + k * 7, none⟩ = some (.slice BF g.F.length dF) := hc2 0 _ rfl
        have v1 : wr.cell? ⟨b2, o2 + k * 7 + 1, none⟩ = some (.int .i64 g.v) := hc2 1 _ rfl
        have v2 : wr.cell? ⟨b2, o2 + k * 7 + 2, none⟩ = some (.int .i64 g.e) := hc2 2 _ rfl
        have v3 : wr.cell? ⟨b2, o2 + k * 7 + 3, none⟩ = some (.int .i64 g.x0) := hc2 3 _ rfl
        have v4 : wr.cell? ⟨b2, o2 + k * 7 + 4, none⟩ = some (.int .i64 g.x1) := hc2 4 _ rfl
        have v5 : wr.cell? ⟨b2, o2 + k * 7 + 5, none⟩ = some (.int .i64 g.x2) := hc2 5 _ rfl
        have v6 : wr.cell? ⟨b2, o2 + k * 7 + 6, none⟩ = some (.slice BR g.ret.length dR) := hc2 6 _ rfl
        have HY := hid y3
        clear hc1 hc2 y3
        have HFF := hid hf
        have HGG := hid hg
        clear hat1 hat2 hf hg
        have kl : (k : Int) < (fs.length : Int) := by omega
        have kl2 : (k : Int) < (gs.length : Int) := by omega
        have hfs := coSame_eq f g
        by_cases heq : f = g
        · rw [decide_eq_true heq] at hfs
          have HT2 := hid (lSame_more HFF.out (by rw [heq]; exact HGG.out) HT.out)
          clear heq
          go_wp2_with (go_at_call 64; refine (sameCore_any AF AR BF BR cF cR dF dR f g _ ((rF.step (boxed wr _)).step (boxed _ _)) ((rR.alloc _).alloc _) ((sF.step (boxed wr _)).step (boxed _ _)) ((sR.alloc _).alloc _) y1 y2 HY.out).mono ?_; rintro e wk ⟨rfl, hk2⟩)
          go_roundw
          case rel => exact ⟨k + 1, by omega, by go_num, HT2, bstep hbr (bstep (bstep (boxed _ _) (boxed _ _)) hk2)⟩
          case measure => simp [intOf]; omega
        · rw [decide_eq_false heq] at hfs
          have HNE := hid heq
          clear heq
          go_wp2_with (go_at_call 64; refine (sameCore_any AF AR BF BR cF cR dF dR f g _ ((rF.step (boxed wr _)).step (boxed _ _)) ((rR.alloc _).alloc _) ((sF.step (boxed wr _)).step (boxed _ _)) ((sR.alloc _).alloc _) y1 y2 HY.out).mono ?_; rintro e wk ⟨rfl, hk2⟩)
          go_ret
          exact ⟨ret_bool (lSame_at HFF.out HGG.out HNE.out).symm, bstep hbr (bstep (bstep (boxed _ _) (boxed _ _)) hk2)⟩
      · go_wp2
        go_ret
        obtain rfl : k = fs.length := by omega
        exact ⟨ret_bool (lSame_all HL.out HT.out).symm, hbr⟩
  · have HL := hid hl
    have l3 : ((fs.length : Int) != (gs.length : Int)) = true := by simp; omega
    clear hl
    go_enter Try.func63, Try.ntmps63
    go_wp2
    go_ret
    exact ⟨ret_bool (lSame_len HL.out).symm, Below.refl _ _⟩
end Go.Proofs.Ytpagekhgeahmaaa
