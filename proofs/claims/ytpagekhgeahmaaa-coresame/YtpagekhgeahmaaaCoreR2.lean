/- Contracts: right cores and systems, by the program. -/
import Derived.Test.YtpagekhgeahmaaaCoreR1
namespace Go.Proofs.Ytpagekhgeahmaaa
open Go.RowKit
set_option linter.unusedVariables false
set_option linter.unusedSimpArgs false

set_option maxRecDepth 100000 in
set_option maxHeartbeats 2000000 in
theorem rightCore_any (AF AR : Option Addr) (cF cR : Nat) (x : Co) (w : World) (hF : RowF w AF x.F) (h0 : x.F.length ≤ 1000000) (h1 : x.ret.length ≤ 1000000) (h2 : ∀ f ∈ x.F, f.S.length ≤ 1000000) :
    Calls Try.prog 61 #[.agg #[.slice AF x.F.length cF, .int .i64 x.v, .int .i64 x.e, .int .i64 x.x0, .int .i64 x.x1, .int .i64 x.x2, .slice AR x.ret.length cR]] w fun e w' => e = .returned (.bool (coRight x)) ∧ Below w.heap.size w w' := by
  have HC := hid (coRight_prog x)
  have hX : Row ((w.alloc (.cells #[.slice AF x.F.length cF, .int .i64 x.v, .int .i64 x.e, .int .i64 x.x0, .int .i64 x.x1, .int .i64 x.x2, .slice AR x.ret.length cR] 65)).alloc (.cells #[.int .i64 x.v] 3)) (some ⟨w.heap.size, 3, none⟩) [x.x0, x.x1, x.x2] := (rowIn w _ _ 3 _ at3).alloc _
  have hV : Row ((w.alloc (.cells #[.slice AF x.F.length cF, .int .i64 x.v, .int .i64 x.e, .int .i64 x.x0, .int .i64 x.x1, .int .i64 x.x2, .slice AR x.ret.length cR] 65)).alloc (.cells #[.int .i64 x.v] 3)) (some ⟨(w.alloc (.cells #[.slice AF x.F.length cF, .int .i64 x.v, .int .i64 x.e, .int .i64 x.x0, .int .i64 x.x1, .int .i64 x.x2, .slice AR x.ret.length cR] 65)).heap.size, 0, none⟩) [x.v] := rowIn _ _ _ 0 _ (fun j y hy => by match j, hy with | 0, hy => simp at hy; subst hy; rfl)
  rw [show (w.alloc (.cells #[.slice AF x.F.length cF, .int .i64 x.v, .int .i64 x.e, .int .i64 x.x0, .int .i64 x.x1, .int .i64 x.x2, .slice AR x.ret.length cR] 65)).heap.size = w.heap.size + 1 by simp] at hV
  have H2 := hid h2
  clear h2
  by_cases q1 : x.F.length ≤ 40
  · by_cases q2 : x.ret.length ≤ 200
    · cases q3 : near x.v
      · have hv1 : [x.v].all near = false := by simp [q3]
        rw [decide_eq_true q1, decide_eq_true q2, q3] at HC
        go_enter Try.func61, Try.ntmps61
        go_wp2_with fail
        refine (pnear_any _ _ [x.v] _ hV (by simp)).mono ?_
        rintro e w' ⟨rfl, rfl⟩
        rw [hv1]
        go_wp2
        go_ret
        exact ⟨ret_bool (by rw [HC.out]; rfl), bstep (boxed _ _) (boxed _ _)⟩
      · have hv1 : [x.v].all near = true := by simp [q3]
        cases q4 : [x.x0, x.x1, x.x2].all near
        · rw [decide_eq_true q1, decide_eq_true q2, q3, q4] at HC
          have Q4 := hid q4
          clear q4
          go_enter Try.func61, Try.ntmps61
          go_wp2_with fail
          refine (pnear_any _ _ [x.v] _ hV (by simp)).mono ?_
          rintro e w' ⟨rfl, rfl⟩
          rw [hv1]
          go_wp2_with fail
          refine (pnear_any _ _ [x.x0, x.x1, x.x2] _ hX (by simp)).mono ?_
          rintro e w' ⟨rfl, rfl⟩
          rw [Q4.out]
          go_wp2
          go_ret
          exact ⟨ret_bool (by rw [HC.out]; rfl), bstep (boxed _ _) (boxed _ _)⟩
        · rw [decide_eq_true q1, decide_eq_true q2, q3, q4] at HC
          have Q4 := hid q4
          clear q4
          go_enter Try.func61, Try.ntmps61
          go_wp2_with fail
          refine (pnear_any _ _ [x.v] _ hV (by simp)).mono ?_
          rintro e w' ⟨rfl, rfl⟩
          rw [hv1]
          go_wp2_with fail
          refine (pnear_any _ _ [x.x0, x.x1, x.x2] _ hX (by simp)).mono ?_
          rintro e w' ⟨rfl, rfl⟩
          rw [Q4.out]
          go_wp2_with fail
          refine (allF_any _ _ x.F _ ((hF.step (boxed _ _)).step (boxed _ _)) h0 H2.out).mono ?_
          rintro e wk ⟨rfl, hk⟩
          go_wp2
          go_ret
          exact ⟨ret_bool (by rw [HC.out]; rfl), bstep (bstep (boxed _ _) (boxed _ _)) hk⟩
    · rw [decide_eq_true q1, decide_eq_false q2] at HC
      go_enter Try.func61, Try.ntmps61
      go_wp2
      go_ret
      exact ⟨ret_bool (by rw [HC.out]; rfl), boxed _ _⟩
  · rw [decide_eq_false q1] at HC
    go_enter Try.func61, Try.ntmps61
    go_wp2
    go_ret
    exact ⟨ret_bool (by rw [HC.out]; rfl), boxed _ _⟩

set_option maxRecDepth 100000 in
set_option maxHeartbeats 2000000 in
theorem allC_any (A : Option Addr) (c : Nat) (cs : List Co) (w : World) (hC : RowC w A cs) (h0 : cs.length ≤ 1000000) (h1 : ∀ x ∈ cs, x.ret.length ≤ 1000000 ∧ x.F.length ≤ 1000000 ∧ ∀ f ∈ x.F, f.S.length ≤ 1000000) :
    Calls Try.prog 60 #[.slice A cs.length c, .func (.func 61) #[] #[]] w fun e w' => e = .returned (.bool (cs.all coRight)) ∧ Below w.heap.size w w' := by
  have H1 := hid h1
  clear h1
  go_enter Try.func60, Try.ntmps60
  go_wp2
  go_loopw [9] (fun i wr => ∃ k : Nat, k ≤ cs.length ∧ i = .int .i64 k ∧ Hid ((cs.take k).all coRight = true) ∧ Below w.heap.size w wr) (fun i _ => cs.length - (intOf i).toNat)
  case atStart => exact ⟨0, Nat.zero_le _, rfl, hid rfl, Below.refl _ _⟩
  case round =>
    obtain ⟨k, hk, rfl, HT, hbr⟩ := hrel
    by_cases hlt : k < cs.length
    · obtain ⟨b, o, rfl, hb, hat⟩ := hC (by omega)
      obtain ⟨x, hx⟩ : ∃ x, cs[k]? = some x := ⟨_, List.getElem?_eq_getElem hlt⟩
      obtain ⟨AF, AR, cF, cR, hc, rF, rR⟩ := ((hat k x hx).step hb hbr).cs
      obtain ⟨y1, y2, y3⟩ := H1.out x (List.mem_of_getElem? hx)
      have HX := hid hx
      have HY := hid y3
      clear hat hx y3
      have u0 : wr.cell? ⟨b, o + k * 7, none⟩ = some (.slice AF x.F.length cF) := hc 0 _ rfl
      have u1 : wr.cell? ⟨b, o + k * 7 + 1, none⟩ = some (.int .i64 x.v) := hc 1 _ rfl
      have u2 : wr.cell? ⟨b, o + k * 7 + 2, none⟩ = some (.int .i64 x.e) := hc 2 _ rfl
      have u3 : wr.cell? ⟨b, o + k * 7 + 3, none⟩ = some (.int .i64 x.x0) := hc 3 _ rfl
      have u4 : wr.cell? ⟨b, o + k * 7 + 4, none⟩ = some (.int .i64 x.x1) := hc 4 _ rfl
      have u5 : wr.cell? ⟨b, o + k * 7 + 5, none⟩ = some (.int .i64 x.x2) := hc 5 _ rfl
      have u6 : wr.cell? ⟨b, o + k * 7 + 6, none⟩ = some (.slice AR x.ret.length cR) := hc 6 _ rfl
      clear hc
      have kl : (k : Int) < (cs.length : Int) := by omega
      cases q : coRight x
      · go_wp2_with (go_at_call 61; refine (rightCore_any AF AR cF cR x _ (rF.step (boxed _ _)) y2 y1 HY.out).mono ?_; rintro e wk ⟨rfl, hk2⟩)
        go_ret
        exact ⟨ret_bool (all_bad HX.out q).symm, bstep hbr (bstep (boxed _ _) hk2)⟩
      · go_wp2_with (go_at_call 61; refine (rightCore_any AF AR cF cR x _ (rF.step (boxed _ _)) y2 y1 HY.out).mono ?_; rintro e wk ⟨rfl, hk2⟩)
        go_roundw
        case rel => exact ⟨k + 1, by omega, by go_num, hid (all_more HX.out HT.out q), bstep hbr (bstep (boxed _ _) hk2)⟩
        case measure => simp [intOf]; omega
    · go_wp2
      go_ret
      exact ⟨ret_bool (all_full (by omega) HT.out).symm, hbr⟩

set_option maxHeartbeats 2000000 in
theorem right3_any (A B AC AL : Option Addr) (c d cC cL : Nat) (s : Sy) (w : World) (hG : Row w B s.M.G) (hC : RowC w AC s.C) (h0 : s.M.G.length ≤ 1000000) (h1 : s.M.W.length ≤ 1000000) (h2 : s.C.length ≤ 1000000) (h3 : ∀ x ∈ s.C, x.ret.length ≤ 1000000 ∧ x.F.length ≤ 1000000 ∧ ∀ f ∈ x.F, f.S.length ≤ 1000000) :
    Calls Try.prog 21 #[.agg #[.slice A s.M.W.length c, .slice B s.M.G.length d, .bool s.M.bad, .slice AC s.C.length cC, .slice AL s.L.length cL]] w fun e w' => e = .returned (.bool (syRight s)) ∧ Below w.heap.size w w' := by
  have HS := hid (show syRight s = (mRight s.M && decide (1 ≤ s.C.length) && decide (s.C.length ≤ 8) && s.C.all coRight) from rfl)
  have H3 := hid h3
  clear h3
  cases q0 : mRight s.M
  · rw [q0] at HS
    go_enter Try.func21, Try.ntmps21
    go_wp2_with (go_at_call 59; refine (right_any _ _ _ _ s.M _ (hG.alloc _) (by omega) (by omega)).mono ?_; rintro e wk ⟨rfl, hk⟩; obtain ⟨gc, gf⟩ := bcell hk; have hz : w.heap.size < wk.heap.size := (by have := hk.size; simp at this; omega))
    go_ret
    exact ⟨ret_bool (by rw [HS.out]; rfl), bstep (boxed _ _) hk⟩
  · by_cases q1 : 1 ≤ s.C.length
    · by_cases q2 : s.C.length ≤ 8
      · rw [q0, decide_eq_true q1, decide_eq_true q2] at HS
        go_enter Try.func21, Try.ntmps21
        go_wp2_with (first
          | (go_at_call 59; refine (right_any _ _ _ _ s.M _ (hG.alloc _) (by omega) (by omega)).mono ?_; rintro e wk ⟨rfl, hk⟩; obtain ⟨gc, gf⟩ := bcell hk; have hz : w.heap.size < wk.heap.size := (by have := hk.size; simp at this; omega))
          | (go_at_call 60; refine (allC_any _ _ s.C _ ((hC.step (boxed _ _)).step hk) h2 H3.out).mono ?_; rintro e wl ⟨rfl, hl⟩))
        go_ret
        exact ⟨ret_bool (by rw [HS.out]; rfl), bstep (bstep (boxed _ _) hk) hl⟩
      · rw [q0, decide_eq_true q1, decide_eq_false q2] at HS
        go_enter Try.func21, Try.ntmps21
        go_wp2_with (go_at_call 59; refine (right_any _ _ _ _ s.M _ (hG.alloc _) (by omega) (by omega)).mono ?_; rintro e wk ⟨rfl, hk⟩; obtain ⟨gc, gf⟩ := bcell hk; have hz : w.heap.size < wk.heap.size := (by have := hk.size; simp at this; omega))
        go_ret
        exact ⟨ret_bool (by rw [HS.out]; rfl), bstep (boxed _ _) hk⟩
    · rw [q0, decide_eq_false q1] at HS
      go_enter Try.func21, Try.ntmps21
      go_wp2_with (go_at_call 59; refine (right_any _ _ _ _ s.M _ (hG.alloc _) (by omega) (by omega)).mono ?_; rintro e wk ⟨rfl, hk⟩; obtain ⟨gc, gf⟩ := bcell hk; have hz : w.heap.size < wk.heap.size := (by have := hk.size; simp at this; omega))
      go_ret
      exact ⟨ret_bool (by rw [HS.out]; rfl), bstep (boxed _ _) hk⟩
end Go.Proofs.Ytpagekhgeahmaaa
