/- Contracts of the document's answers for layer 3: right systems. -/
import Derived.Test.YtpagekhgeahmaaaCore2
namespace Go.Proofs.Ytpagekhgeahmaaa
open Go.RowKit
set_option linter.unusedVariables false
set_option linter.unusedSimpArgs false

def frFew (f : Fr) : Bool := decide (f.S.length ≤ 24)
def coRight (x : Co) : Bool := coNear x && decide (x.F.length ≤ 40) && decide (x.ret.length ≤ 200) && x.F.all frFew
def syRight (s : Sy) : Bool := mRight s.M && decide (1 ≤ s.C.length) && decide (s.C.length ≤ 8) && s.C.all coRight

set_option maxHeartbeats 4000000 in
theorem rright3_any (A B AC AL : Option Addr) (c d cC cL : Nat) (s : Sy) (w : World) (hG : Row w B s.M.G) (hC : RowC w AC s.C) (h0 : s.M.G.length ≤ 1000000000) (h1 : s.M.W.length ≤ 1000000000) (h2 : s.C.length ≤ 1000000) (h3 : ∀ x ∈ s.C, x.F.length ≤ 1000000) :
    Calls Try.prog 19 #[.agg #[.slice A s.M.W.length c, .slice B s.M.G.length d, .bool s.M.bad, .slice AC s.C.length cC, .slice AL s.L.length cL]] w fun e w' => e = .returned (.bool (syRight s)) ∧ Below w.heap.size w w' := by
  have HS := hid (show syRight s = (mRight s.M && decide (1 ≤ s.C.length) && decide (s.C.length ≤ 8) && s.C.all coRight) from rfl)
  have H3 := hid h3
  clear h3
  by_cases q : mRight s.M = true ∧ 1 ≤ s.C.length ∧ s.C.length ≤ 8
  · obtain ⟨q1, q2, q3⟩ := q
    go_enter Try.func19, Try.ntmps19
    go_wp2_with (go_at_call 55; refine (rright_any _ _ _ _ s.M _ (hG.alloc _) h0 h1).mono ?_; rintro e wk ⟨rfl, hk⟩; obtain ⟨gc, gf⟩ := bcell hk; have hz : w.heap.size < wk.heap.size := (by have := hk.size; simp at this; omega))
    have hCk := (hC.step (boxed w _)).step hk
    have b0 : wk.cell? ⟨w.heap.size, 3, none⟩ = some (.slice AC s.C.length cC) := by rw [gc _ _ (by simp)]; simp [go_sem]
    have hb : Below w.heap.size w wk := bstep (boxed _ _) hk
    clear gc gf hk
    go_loopw [4] (fun i wr => ∃ k : Nat, k ≤ s.C.length ∧ i = .int .i64 k ∧ Hid ((s.C.take k).all coRight = true) ∧ Below wk.heap.size wk wr) (fun i _ => s.C.length - (intOf i).toNat)
    case atStart => exact ⟨0, Nat.zero_le _, rfl, hid rfl, Below.refl _ _⟩
    case round =>
      obtain ⟨k, hkk, rfl, HT, hbr⟩ := hrel
      have b1 : wr.cell? ⟨w.heap.size, 3, none⟩ = some (.slice AC s.C.length cC) := (hbr.cell hz).trans b0
      by_cases hlt : k < s.C.length
      · obtain ⟨b, o, rfl, hbl, hat⟩ := hCk (by omega)
        obtain ⟨x, hx⟩ : ∃ x, s.C[k]? = some x := ⟨_, List.getElem?_eq_getElem hlt⟩
        have hxF := H3.out x (List.mem_of_getElem? hx)
        have hblr : b < wr.heap.size := Nat.lt_of_lt_of_le hbl hbr.size
        have X := (hat k x hx).step hbl hbr
        obtain ⟨⟨AF, cF, c0, rF, _⟩, c1, c2, c3, c4, c5, AR, cR, c6, rR⟩ := X
        have HX := hid hx
        clear hat hx
        have fin : coRight x = false → syRight s = false := fun h => by rw [HS.out, all_bad HX.out h]; simp
        have Fin := hid fin
        have HC := hid (show coRight x = (coNear x && decide (x.F.length ≤ 40) && decide (x.ret.length ≤ 200) && x.F.all frFew) from rfl)
        clear fin
        have m1l : w.heap.size < wr.heap.size := Nat.lt_of_lt_of_le hz hbr.size
        cases t : coNear x
        · go_wp2_with fail
          refine (rcore_any _ _ _ _ x _ rF hxF).mono ?_
          rintro e wl ⟨rfl, hl⟩
          go_wp2
          go_ret
          exact ⟨ret_bool (Fin.out (by rw [HC.out, t]; rfl)).symm, bstep hb (bstep hbr hl)⟩
        · by_cases r1 : x.F.length ≤ 40
          · by_cases r2 : x.ret.length ≤ 200
            · go_wp2_with fail
              refine (rcore_any _ _ _ _ x _ rF hxF).mono ?_
              rintro e wl ⟨rfl, hl⟩
              have d0 := (hl.cell hblr).trans c0
              have d6 := (hl.cell hblr).trans c6
              have e1 : wl.cell? ⟨w.heap.size, 3, none⟩ = some (.slice (some ⟨b, o, none⟩) s.C.length cC) := (hl.cell m1l).trans b1
              have rF2 := rF.step hl
              go_wp2
              go_loop [6] (fun i => ∃ j : Nat, j ≤ x.F.length ∧ i = .int .i64 j ∧ Hid ((x.F.take j).all frFew = true)) (fun i => x.F.length - (intOf i).toNat)
              case atStart => exact ⟨0, Nat.zero_le _, rfl, hid rfl⟩
              case round =>
                obtain ⟨j, hjj, rfl, HJ⟩ := hrel
                by_cases hjt : j < x.F.length
                · obtain ⟨b', o', rfl, hbl', hat⟩ := rF2 (by omega)
                  obtain ⟨f, hf⟩ : ∃ f, x.F[j]? = some f := ⟨_, List.getElem?_eq_getElem hjt⟩
                  obtain ⟨_, _, _, _, AS, cS, c10, rS⟩ := hat j f hf
                  have HF := hid hf
                  clear hat hf
                  by_cases r3 : f.S.length ≤ 24
                  · go_wp2
                    go_round
                    case rel => exact ⟨j + 1, by omega, by go_num, hid (all_more HF.out HJ.out (by simp [frFew]; omega))⟩
                    case measure => simp [intOf]; omega
                  · go_wp2
                    go_ret
                    exact ⟨ret_bool (Fin.out (by rw [HC.out, all_bad HF.out (by simp [frFew]; omega)]; simp)).symm, bstep hb (bstep hbr hl)⟩
                · go_wp2
                  go_roundw
                  case rel => exact ⟨k + 1, by omega, by go_num, hid (all_more HX.out HT.out (by rw [HC.out, t, decide_eq_true r1, decide_eq_true r2, all_full (by omega) HJ.out]; rfl)), bstep hbr hl⟩
                  case measure => simp [intOf]; omega
            · go_wp2_with fail
              refine (rcore_any _ _ _ _ x _ rF hxF).mono ?_
              rintro e wl ⟨rfl, hl⟩
              have d0 := (hl.cell hblr).trans c0
              have d6 := (hl.cell hblr).trans c6
              have e1 : wl.cell? ⟨w.heap.size, 3, none⟩ = some (.slice (some ⟨b, o, none⟩) s.C.length cC) := (hl.cell m1l).trans b1
              go_wp2
              go_ret
              exact ⟨ret_bool (Fin.out (by rw [HC.out, decide_eq_false r2]; simp)).symm, bstep hb (bstep hbr hl)⟩
          · go_wp2_with fail
            refine (rcore_any _ _ _ _ x _ rF hxF).mono ?_
            rintro e wl ⟨rfl, hl⟩
            have d0 := (hl.cell hblr).trans c0
            have e1 : wl.cell? ⟨w.heap.size, 3, none⟩ = some (.slice (some ⟨b, o, none⟩) s.C.length cC) := (hl.cell m1l).trans b1
            go_wp2
            go_ret
            exact ⟨ret_bool (Fin.out (by rw [HC.out, decide_eq_false r1]; simp)).symm, bstep hb (bstep hbr hl)⟩
      · go_wp2
        go_ret
        exact ⟨ret_bool (by rw [HS.out, q1, decide_eq_true q2, decide_eq_true q3, all_full (by omega) HT.out]; rfl), bstep hb hbr⟩
  · have q' : mRight s.M = false ∨ (mRight s.M = true ∧ s.C.length < 1) ∨ (mRight s.M = true ∧ 1 ≤ s.C.length ∧ 8 < s.C.length) := by
      by_cases t : mRight s.M = true
      · right
        by_cases t1 : s.C.length < 1
        · exact .inl ⟨t, t1⟩
        · right
          by_cases t2 : 8 < s.C.length
          · exact ⟨t, by omega, t2⟩
          · exact absurd ⟨t, by omega, by omega⟩ q
      · exact .inl (by simpa using t)
    clear q
    rcases q' with q1 | ⟨q1, q2⟩ | ⟨q1, q2, q3⟩
    all_goals
      go_enter Try.func19, Try.ntmps19
      go_wp2_with (go_at_call 55; refine (rright_any _ _ _ _ s.M _ (hG.alloc _) h0 h1).mono ?_; rintro e wk ⟨rfl, hk⟩; obtain ⟨gc, gf⟩ := bcell hk; have hz : w.heap.size < wk.heap.size := (by have := hk.size; simp at this; omega))
      go_ret
      exact ⟨ret_bool (by rw [HS.out, q1]; first | rfl | (rw [decide_eq_false (show ¬ 1 ≤ s.C.length by omega)]; simp) | (rw [decide_eq_false (show ¬ s.C.length ≤ 8 by omega)]; simp)), bstep (boxed _ _) hk⟩
end Go.Proofs.Ytpagekhgeahmaaa
