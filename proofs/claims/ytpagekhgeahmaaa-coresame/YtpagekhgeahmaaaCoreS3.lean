/- Contracts: systems that are the same, by the program. -/
import Derived.Test.YtpagekhgeahmaaaCoreS2
namespace Go.Proofs.Ytpagekhgeahmaaa
open Go.RowKit
set_option linter.unusedVariables false
set_option linter.unusedSimpArgs false

set_option maxHeartbeats 2000000 in
theorem evs_any (A B : Option Addr) (c d : Nat) (xs ys : List Evt) (w : World) (ha : RowE w A xs) (hb : RowE w B ys) (h0 : xs.length ≤ 1000000000) :
    Calls Try.prog 65 #[.slice A xs.length c, .slice B ys.length d] w fun e w' => e = .returned (.bool (lSame xs ys)) ∧ Below w.heap.size w w' := by
  by_cases hl : xs.length = ys.length
  · have HL := hid hl
    have hl1 : xs.length ≤ ys.length := by omega
    have hl2 : ys.length ≤ xs.length := by omega
    have hl3 : ((xs.length : Int) != (ys.length : Int)) = false := by simp [hl]
    clear hl
    go_enter Try.func65, Try.ntmps65
    go_wp2
    go_loopw [13] (fun i wr => ∃ (k nq : Nat), k ≤ xs.length ∧ i = .int .i64 k ∧ Hid (xs.take k = ys.take k) ∧ wr = w.drewN nq) (fun i _ => xs.length - (intOf i).toNat)
    case atStart => exact ⟨0, 0, Nat.zero_le _, rfl, hid rfl, rfl⟩
    case round =>
      obtain ⟨k, nq, hk, rfl, HT, rfl⟩ := hrel
      by_cases hlt : k < xs.length
      · have hlt2 : k < ys.length := by omega
        obtain ⟨b1, o1, rfl, hb1, hat1⟩ := ha (by omega)
        obtain ⟨b2, o2, rfl, hb2, hat2⟩ := hb (by omega)
        obtain ⟨x, hx⟩ : ∃ x, xs[k]? = some x := ⟨_, List.getElem?_eq_getElem hlt⟩
        obtain ⟨y, hy⟩ : ∃ y, ys[k]? = some y := ⟨_, List.getElem?_eq_getElem hlt2⟩
        obtain ⟨c0, c1, c2, c3, c4⟩ := hat1 k x hx
        obtain ⟨d0, d1, d2, d3, d4⟩ := hat2 k y hy
        have HX := hid hx
        have HY := hid hy
        have hq := neqEv x y
        clear hat1 hat2 hx hy
        by_cases t : x = y
        · subst t
          have hq2 : ∀ w, (binOp .neq 56 (.agg #[.int .i64 x.core, .int .i64 x.kind, .int .i64 x.a, .int .i64 x.b, .int .i64 x.v]) (.agg #[.int .i64 x.core, .int .i64 x.kind, .int .i64 x.a, .int .i64 x.b, .int .i64 x.v])).run Try.prog w = .ok (.bool false) w := fun w => by rw [hq w]; simp
          clear hq
          have HT2 := hid (lSame_more HX.out HY.out HT.out)
          go_wp2_with fail
          go_quiet (fail)
          go_wp2
          go_roundw
          case rel => exact ⟨k + 1, _, by omega, by go_num, HT2, rfl⟩
          case measure => simp [intOf]; omega
        · have hq2 : ∀ w, (binOp .neq 56 (.agg #[.int .i64 x.core, .int .i64 x.kind, .int .i64 x.a, .int .i64 x.b, .int .i64 x.v]) (.agg #[.int .i64 y.core, .int .i64 y.kind, .int .i64 y.a, .int .i64 y.b, .int .i64 y.v])).run Try.prog w = .ok (.bool true) w := fun w => by rw [hq w]; simp [t]
          have HN := hid t
          clear hq t
          go_wp2_with fail
          go_quiet (fail)
          go_wp2
          go_ret
          exact ⟨ret_bool (lSame_at HX.out HY.out HN.out).symm, bdrewN (bdrewN (Below.refl _ _) _) _⟩
      · go_wp2
        go_ret
        obtain rfl : k = xs.length := by omega
        exact ⟨ret_bool (lSame_all HL.out HT.out).symm, bdrewN (Below.refl _ _) _⟩
  · have HL := hid hl
    have hl3 : ((xs.length : Int) != (ys.length : Int)) = true := by simp; omega
    clear hl
    go_enter Try.func65, Try.ntmps65
    go_wp2
    go_ret
    exact ⟨ret_bool (lSame_len HL.out).symm, Below.refl _ _⟩

set_option maxRecDepth 100000 in
set_option maxHeartbeats 2000000 in
theorem same3_any (A B AC AL A2 B2 BC BL : Option Addr) (c d cC cL c2 d2 dC dL : Nat) (x y : Sy) (w : World) (hW : Row w A x.M.W) (hG : Row w B x.M.G) (hC : RowC w AC x.C) (hL : RowE w AL x.L) (kW : Row w A2 y.M.W) (kG : Row w B2 y.M.G) (kC : RowC w BC y.C) (kL : RowE w BL y.L)
    (h0 : x.M.W.length ≤ 1000000) (h1 : x.M.G.length ≤ 1000000) (h2 : x.C.length ≤ 1000000) (h3 : x.L.length ≤ 1000000) (h4 : ∀ z ∈ x.C, z.ret.length ≤ 1000000 ∧ z.F.length ≤ 1000000 ∧ ∀ f ∈ z.F, f.S.length ≤ 1000000) :
    Calls Try.prog 22 #[.agg #[.slice A x.M.W.length c, .slice B x.M.G.length d, .bool x.M.bad, .slice AC x.C.length cC, .slice AL x.L.length cL], .agg #[.slice A2 y.M.W.length c2, .slice B2 y.M.G.length d2, .bool y.M.bad, .slice BC y.C.length dC, .slice BL y.L.length dL]] w fun e w' => e = .returned (.bool (sySame x y)) ∧ Below w.heap.size w w' := by
  have H4 := hid h4
  clear h4
  have HC := hid (show sySame x y = (mSame x.M y.M && lSame x.C y.C && lSame x.L y.L) by
    unfold sySame
    cases mSame x.M y.M <;> cases lSame x.C y.C <;> cases lSame x.L y.L <;> rfl)
  cases t0 : mSame x.M y.M
  · rw [t0] at HC
    go_enter Try.func22, Try.ntmps22
    go_wp2_with (go_at_call 62; refine (same_any _ _ _ _ _ _ _ _ x.M y.M _ ((hW.alloc _).alloc _) ((hG.alloc _).alloc _) ((kW.alloc _).alloc _) ((kG.alloc _).alloc _) (by omega) (by omega)).mono ?_; rintro e wk ⟨rfl, hk⟩; obtain ⟨gc, gf⟩ := bcell hk; have hz1 : w.heap.size + 1 < wk.heap.size := (by have := hk.size; simp at this; omega); have hz0 : w.heap.size < wk.heap.size := (by omega))
    go_ret
    exact ⟨ret_bool (by rw [HC.out]; rfl), bstep (bstep (boxed _ _) (boxed _ _)) hk⟩
  · cases t1 : lSame x.C y.C
    · rw [t0, t1] at HC
      go_enter Try.func22, Try.ntmps22
      go_wp2_with (first
        | (go_at_call 62; refine (same_any _ _ _ _ _ _ _ _ x.M y.M _ ((hW.alloc _).alloc _) ((hG.alloc _).alloc _) ((kW.alloc _).alloc _) ((kG.alloc _).alloc _) (by omega) (by omega)).mono ?_; rintro e wk ⟨rfl, hk⟩; obtain ⟨gc, gf⟩ := bcell hk; have hz1 : w.heap.size + 1 < wk.heap.size := (by have := hk.size; simp at this; omega); have hz0 : w.heap.size < wk.heap.size := (by omega))
        | (go_at_call 63; refine (eqC_any _ _ _ _ x.C y.C _ (((hC.step (boxed w _)).step (boxed _ _)).step hk) (((kC.step (boxed w _)).step (boxed _ _)).step hk) h2 H4.out).mono ?_; rintro e wl ⟨rfl, hl⟩; obtain ⟨gc2, gf2⟩ := bcell hl))
      go_ret
      exact ⟨ret_bool (by rw [HC.out]; rfl), bstep (bstep (bstep (boxed _ _) (boxed _ _)) hk) hl⟩
    · rw [t0, t1] at HC
      go_enter Try.func22, Try.ntmps22
      go_wp2_with (first
        | (go_at_call 62; refine (same_any _ _ _ _ _ _ _ _ x.M y.M _ ((hW.alloc _).alloc _) ((hG.alloc _).alloc _) ((kW.alloc _).alloc _) ((kG.alloc _).alloc _) (by omega) (by omega)).mono ?_; rintro e wk ⟨rfl, hk⟩; obtain ⟨gc, gf⟩ := bcell hk; have hz1 : w.heap.size + 1 < wk.heap.size := (by have := hk.size; simp at this; omega); have hz0 : w.heap.size < wk.heap.size := (by omega))
        | (go_at_call 63; refine (eqC_any _ _ _ _ x.C y.C _ (((hC.step (boxed w _)).step (boxed _ _)).step hk) (((kC.step (boxed w _)).step (boxed _ _)).step hk) h2 H4.out).mono ?_; rintro e wl ⟨rfl, hl⟩; obtain ⟨gc2, gf2⟩ := bcell hl)
        | (go_at_call 65; refine (evs_any _ _ _ _ x.L y.L _ ((((hL.step (boxed w _)).step (boxed _ _)).step hk).step hl) ((((kL.step (boxed w _)).step (boxed _ _)).step hk).step hl) (by omega)).mono ?_; rintro e wm ⟨rfl, hm⟩))
      go_ret
      exact ⟨ret_bool (by rw [HC.out]; rfl), bstep (bstep (bstep (bstep (boxed _ _) (boxed _ _)) hk) hl) hm⟩
end Go.Proofs.Ytpagekhgeahmaaa
