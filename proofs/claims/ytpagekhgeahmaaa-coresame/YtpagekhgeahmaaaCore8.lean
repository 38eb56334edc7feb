/- Contract of the document's answer for layer 3: systems that are the same. -/
import Derived.Test.YtpagekhgeahmaaaCore6
namespace Go.Proofs.Ytpagekhgeahmaaa
open Go.RowKit
set_option linter.unusedVariables false
set_option linter.unusedSimpArgs false

theorem coSame_eq (x y : Co) : coSame x y = decide (x = y) := by
  obtain ⟨a, b, c, d, e, f, g⟩ := x
  obtain ⟨a', b', c', d', e', f', g'⟩ := y
  unfold coSame mInts lSame
  rw [Bool.eq_iff_iff]
  simp
  constructor
  · rintro ⟨⟨⟨⟨h1, h2⟩, h3⟩, h4, h5, h6⟩, h7⟩; exact ⟨h7, h2, h3, h4, h5, h6, h1⟩
  · rintro ⟨h7, h2, h3, h4, h5, h6, h1⟩; exact ⟨⟨⟨⟨h1, h2⟩, h3⟩, h4, h5, h6⟩, h7⟩

def sySame (a b : Sy) : Bool := mSame a.M b.M && lSame a.L b.L && lSame a.C b.C

set_option maxRecDepth 100000 in
set_option maxHeartbeats 4000000 in
theorem rsame3_any (A A' AC AL B B' BC BL : Option Addr) (c c' cC cL d d' dC dL : Nat) (x y : Sy) (w : World)
    (hW : Row w A x.M.W) (hG : Row w A' x.M.G) (hC : RowC w AC x.C) (hL : RowE w AL x.L) (kW : Row w B y.M.W) (kG : Row w B' y.M.G) (kC : RowC w BC y.C) (kL : RowE w BL y.L)
    (h0 : x.M.W.length ≤ 1000000) (h1 : x.M.G.length ≤ 1000000) (h2 : x.C.length ≤ 1000000) (h3 : x.L.length ≤ 1000000) (h4 : ∀ o ∈ x.C, o.ret.length ≤ 1000000 ∧ o.F.length ≤ 1000000 ∧ ∀ f ∈ o.F, f.S.length ≤ 1000000) :
    Calls Try.prog 20 #[.agg #[.slice A x.M.W.length c, .slice A' x.M.G.length c', .bool x.M.bad, .slice AC x.C.length cC, .slice AL x.L.length cL], .agg #[.slice B y.M.W.length d, .slice B' y.M.G.length d', .bool y.M.bad, .slice BC y.C.length dC, .slice BL y.L.length dL]] w fun e w' => e = .returned (.bool (sySame x y)) ∧ Below w.heap.size w w' := by
  have HC := hid (show sySame x y = (mSame x.M y.M && lSame x.L y.L && lSame x.C y.C) from rfl)
  have H4 := hid h4
  clear h4
  by_cases hall : mSame x.M y.M = true ∧ lSame x.L y.L = true ∧ x.C.length = y.C.length
  · obtain ⟨t0, t1, t4⟩ := hall
    have T4 := hid t4
    have l1 : x.C.length ≤ y.C.length := by omega
    have l2 : y.C.length ≤ x.C.length := by omega
    have t5 : ((x.C.length : Int) != (y.C.length : Int)) = false := by simp [t4]
    clear t4
    have HC2 : Hid (sySame x y = lSame x.C y.C) := by
      show _ = _
      rw [HC.out, t0, t1]
      rfl
    go_enter Try.func20, Try.ntmps20
    go_wp2_with (first
      | (go_at_call 41; refine (rsame_any _ _ _ _ _ _ _ _ x.M y.M _ ((hW.alloc _).alloc _) ((hG.alloc _).alloc _) ((kW.alloc _).alloc _) ((kG.alloc _).alloc _) (by omega) (by omega)).mono ?_; rintro e wk ⟨rfl, hk⟩; obtain ⟨gc, gf⟩ := bcell hk; have hz1 : w.heap.size + 1 < wk.heap.size := (by have := hk.size; simp at this; omega); have hz0 : w.heap.size < wk.heap.size := (by omega))
      | (go_at_call 57; refine (revs_any _ _ _ _ x.L y.L _ (((hL.step (boxed w _)).step (boxed _ _)).step hk) (((kL.step (boxed w _)).step (boxed _ _)).step hk) (by omega)).mono ?_; rintro e wl ⟨rfl, hl⟩; obtain ⟨gc2, gf2⟩ := bcell hl))
    have p0 : wl.cell? ⟨w.heap.size, 3, none⟩ = some (.slice AC x.C.length cC) := by rw [gc2 _ _ hz0, gc _ _ (by simp; omega)]; simp [go_sem]
    have p1 : wl.cell? ⟨w.heap.size + 1, 3, none⟩ = some (.slice BC y.C.length dC) := by rw [gc2 _ _ hz1, gc _ _ (by simp)]; simp [go_sem]
    have hkl := bstep hk hl
    have hb : Below w.heap.size w wl := bstep (bstep (boxed _ _) (boxed _ _)) hkl
    have rC := ((hC.step (boxed w _)).step (boxed _ _)).step hkl
    have sC := ((kC.step (boxed w _)).step (boxed _ _)).step hkl
    have hz1 : w.heap.size + 1 < wl.heap.size := Nat.lt_of_lt_of_le hz1 hl.size
    have hz0 : w.heap.size < wl.heap.size := by omega
    clear gc gf hk gc2 gf2 hl hkl
    go_loopw [7] (fun i wr => ∃ k : Nat, k ≤ x.C.length ∧ i = .int .i64 k ∧ Hid (x.C.take k = y.C.take k) ∧ Below wl.heap.size wl wr) (fun i _ => x.C.length - (intOf i).toNat)
    case atStart => exact ⟨0, Nat.zero_le _, rfl, hid rfl, Below.refl _ _⟩
    case round =>
      obtain ⟨k, hkk, rfl, HT, hbr⟩ := hrel
      have c0 := (hbr.cell hz0).trans p0
      have c1 := (hbr.cell hz1).trans p1
      by_cases hlt : k < x.C.length
      · obtain ⟨b1, o1, rfl, hb1, hat1⟩ := rC (by omega)
        obtain ⟨b2, o2, rfl, hb2, hat2⟩ := sC (by omega)
        obtain ⟨f, hf⟩ : ∃ f, x.C[k]? = some f := ⟨_, List.getElem?_eq_getElem hlt⟩
        obtain ⟨g, hg⟩ : ∃ g, y.C[k]? = some g := ⟨_, List.getElem?_eq_getElem (by omega)⟩
        have hb1r : b1 < wr.heap.size := Nat.lt_of_lt_of_le hb1 hbr.size
        have hb2r : b2 < wr.heap.size := Nat.lt_of_lt_of_le hb2 hbr.size
        have U := (hat1 k f hf).step hb1 hbr
        have T := (hat2 k g hg).step hb2 hbr
        obtain ⟨hf1, hf2, hf3⟩ := H4.out f (List.mem_of_getElem? hf)
        have HF3 := hid hf3
        obtain ⟨⟨AF, cF, u0, rF, _⟩, u1, u2, u3, u4, u5, AR, cR, u6, rR⟩ := U
        obtain ⟨⟨BF, dF, t0', sF, _⟩, t1', t2, t3, t4, t5', BR, dR, t6, sR⟩ := T
        have HF := hid hf
        have HG := hid hg
        clear hat1 hat2 hf hg hf3
        have z0 : w.heap.size < wr.heap.size := Nat.lt_of_lt_of_le hz0 hbr.size
        have z1 : w.heap.size + 1 < wr.heap.size := Nat.lt_of_lt_of_le hz1 hbr.size
        have kl : (k : Int) < (y.C.length : Int) := by omega
        have kl2 : k < y.C.length := by omega
        go_upto_region 8 with (fail)
        go_cut [8] from 45 to 64 (fun s wx => s = .bool (coSame f g) ∧ Below wr.heap.size wr wx)
        case first =>
          have hS : ∀ w', Below wr.heap.size wr w' → (Below wr.heap.size wr w' ∧ w'.cell? ⟨w.heap.size, 3, none⟩ = some (.slice (some ⟨b1, o1, none⟩) x.C.length cC) ∧ w'.cell? ⟨w.heap.size + 1, 3, none⟩ = some (.slice (some ⟨b2, o2, none⟩) y.C.length dC) ∧ w'.cell? ⟨b1, o1 + k * 7, none⟩ = some (.slice AF f.F.length cF) ∧ w'.cell? ⟨b1, o1 + k * 7 + 1, none⟩ = some (.int .i64 f.v) ∧ w'.cell? ⟨b1, o1 + k * 7 + 2, none⟩ = some (.int .i64 f.e) ∧ w'.cell? ⟨b1, o1 + k * 7 + 3, none⟩ = some (.int .i64 f.x0) ∧ w'.cell? ⟨b1, o1 + k * 7 + 4, none⟩ = some (.int .i64 f.x1) ∧ w'.cell? ⟨b1, o1 + k * 7 + 5, none⟩ = some (.int .i64 f.x2) ∧ w'.cell? ⟨b1, o1 + k * 7 + 6, none⟩ = some (.slice AR f.ret.length cR) ∧ w'.cell? ⟨b2, o2 + k * 7, none⟩ = some (.slice BF g.F.length dF) ∧ w'.cell? ⟨b2, o2 + k * 7 + 1, none⟩ = some (.int .i64 g.v) ∧ w'.cell? ⟨b2, o2 + k * 7 + 2, none⟩ = some (.int .i64 g.e) ∧ w'.cell? ⟨b2, o2 + k * 7 + 3, none⟩ = some (.int .i64 g.x0) ∧ w'.cell? ⟨b2, o2 + k * 7 + 4, none⟩ = some (.int .i64 g.x1) ∧ w'.cell? ⟨b2, o2 + k * 7 + 5, none⟩ = some (.int .i64 g.x2) ∧ w'.cell? ⟨b2, o2 + k * 7 + 6, none⟩ = some (.slice BR g.ret.length dR)) := fun w' h => ⟨h, (h.cell z0).trans c0, (h.cell z1).trans c1, (h.cell hb1r).trans u0, (h.cell hb1r).trans u1, (h.cell hb1r).trans u2, (h.cell hb1r).trans u3, (h.cell hb1r).trans u4, (h.cell hb1r).trans u5, (h.cell hb1r).trans u6, (h.cell hb2r).trans t0', (h.cell hb2r).trans t1', (h.cell hb2r).trans t2, (h.cell hb2r).trans t3, (h.cell hb2r).trans t4, (h.cell hb2r).trans t5', (h.cell hb2r).trans t6⟩
          go_region_held3 (fun w' => Below wr.heap.size wr w' ∧ w'.cell? ⟨w.heap.size, 3, none⟩ = some (.slice (some ⟨b1, o1, none⟩) x.C.length cC) ∧ w'.cell? ⟨w.heap.size + 1, 3, none⟩ = some (.slice (some ⟨b2, o2, none⟩) y.C.length dC) ∧ w'.cell? ⟨b1, o1 + k * 7, none⟩ = some (.slice AF f.F.length cF) ∧ w'.cell? ⟨b1, o1 + k * 7 + 1, none⟩ = some (.int .i64 f.v) ∧ w'.cell? ⟨b1, o1 + k * 7 + 2, none⟩ = some (.int .i64 f.e) ∧ w'.cell? ⟨b1, o1 + k * 7 + 3, none⟩ = some (.int .i64 f.x0) ∧ w'.cell? ⟨b1, o1 + k * 7 + 4, none⟩ = some (.int .i64 f.x1) ∧ w'.cell? ⟨b1, o1 + k * 7 + 5, none⟩ = some (.int .i64 f.x2) ∧ w'.cell? ⟨b1, o1 + k * 7 + 6, none⟩ = some (.slice AR f.ret.length cR) ∧ w'.cell? ⟨b2, o2 + k * 7, none⟩ = some (.slice BF g.F.length dF) ∧ w'.cell? ⟨b2, o2 + k * 7 + 1, none⟩ = some (.int .i64 g.v) ∧ w'.cell? ⟨b2, o2 + k * 7 + 2, none⟩ = some (.int .i64 g.e) ∧ w'.cell? ⟨b2, o2 + k * 7 + 3, none⟩ = some (.int .i64 g.x0) ∧ w'.cell? ⟨b2, o2 + k * 7 + 4, none⟩ = some (.int .i64 g.x1) ∧ w'.cell? ⟨b2, o2 + k * 7 + 5, none⟩ = some (.int .i64 g.x2) ∧ w'.cell? ⟨b2, o2 + k * 7 + 6, none⟩ = some (.slice BR g.ret.length dR)) (first | exact hS _ ((Below.refl _ _).drew) | exact hS _ (bstep ((Below.refl _ _).drew) hk1))
            (first
              | (go_at_call 58; (with_reducible refine (rone_any _ _ _ _ _ _ _ _ f g _ (rF.step ((Below.refl _ _).drew)) (rR.step ((Below.refl _ _).drew)) (sF.step ((Below.refl _ _).drew)) (sR.step ((Below.refl _ _).drew)) hf1 hf2 HF3.out).mono ?_); rintro e wk1 ⟨rfl, hk1⟩))
          all_goals go_wp2_with fail
          all_goals go_meet
          all_goals exact ⟨rfl, bstep ((Below.refl _ _).drew) hk1⟩
        case rest =>
          obtain ⟨rfl, hk⟩ := hcut
          have hfs := coSame_eq f g
          by_cases heq : f = g
          · rw [decide_eq_true heq] at hfs
            have HT2 := hid (lSame_more HF.out (by rw [heq]; exact HG.out) HT.out)
            clear heq
            go_wp2
            go_roundw
            case rel => exact ⟨k + 1, by omega, by go_num, HT2, bstep hbr hk⟩
            case measure => simp [intOf]; omega
          · rw [decide_eq_false heq] at hfs
            have HNE := hid heq
            clear heq
            go_wp2
            go_ret
            exact ⟨ret_bool (by rw [HC2.out, lSame_at HF.out HG.out HNE.out]), bstep hb (bstep hbr hk)⟩
      · go_wp2
        go_ret
        obtain rfl : k = x.C.length := by omega
        exact ⟨ret_bool (by rw [HC2.out, lSame_all T4.out HT.out]), bstep hb hbr⟩
  · have q' : mSame x.M y.M = false ∨ (mSame x.M y.M = true ∧ lSame x.L y.L = false) ∨ (mSame x.M y.M = true ∧ lSame x.L y.L = true ∧ ((x.C.length : Int) != (y.C.length : Int)) = true) := by
      cases t0 : mSame x.M y.M
      · exact .inl rfl
      · cases t1 : lSame x.L y.L
        · exact .inr (.inl ⟨rfl, rfl⟩)
        · refine .inr (.inr ⟨rfl, rfl, ?_⟩)
          have : ¬ x.C.length = y.C.length := fun h => hall ⟨t0, t1, h⟩
          simp
          omega
    clear hall
    have fin : (mSame x.M y.M && lSame x.L y.L && lSame x.C y.C) = false → sySame x y = false := fun h => HC.out.trans h
    have Fin := hid fin
    clear fin HC
    rcases q' with t0 | ⟨t0, t1⟩ | ⟨t0, t1, t2⟩
    all_goals
      go_enter Try.func20, Try.ntmps20
      go_wp2_with (first
        | (go_at_call 41; refine (rsame_any _ _ _ _ _ _ _ _ x.M y.M _ ((hW.alloc _).alloc _) ((hG.alloc _).alloc _) ((kW.alloc _).alloc _) ((kG.alloc _).alloc _) (by omega) (by omega)).mono ?_; rintro e wk ⟨rfl, hk⟩; obtain ⟨gc, gf⟩ := bcell hk; have hz1 : w.heap.size + 1 < wk.heap.size := (by have := hk.size; simp at this; omega); have hz0 : w.heap.size < wk.heap.size := (by omega))
        | (go_at_call 57; refine (revs_any _ _ _ _ x.L y.L _ (((hL.step (boxed w _)).step (boxed _ _)).step hk) (((kL.step (boxed w _)).step (boxed _ _)).step hk) (by omega)).mono ?_; rintro e wl ⟨rfl, hl⟩; obtain ⟨gc2, gf2⟩ := bcell hl))
      go_ret
      refine ⟨ret_bool (Fin.out ?_).symm, bstep (bstep (boxed _ _) (boxed _ _)) (bstep hk hl)⟩
      first
        | (rw [t0]; rfl; done)
        | (rw [t1]; simp; done)
        | (rw [lSame_len (a := x.C) (b := y.C) (by have := t2; simp at this; omega)]; simp; done)
end Go.Proofs.Ytpagekhgeahmaaa
