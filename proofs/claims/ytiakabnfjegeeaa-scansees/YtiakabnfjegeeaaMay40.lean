/- Contract of the document's answer for layer 3: few and right, where there are 40 nodes at most. -/
import Derived.Test.YtiakabnfjegeeaaKCoB
import Derived.Test.YtiakabnfjegeeaaKUni
namespace Go.Proofs.Ytiakabnfjegeeaa
open Go.RowKit
set_option linter.unusedVariables false
set_option linter.unusedSimpArgs false

def mSmall4 (m : Ar) : Bool := decide (m.G.length ≤ 41) && decide (m.W.length ≤ 288)
def sySmall4 (s : Sy) : Bool := mSmall4 s.M && decide (s.C.length ≤ 9) && decide (s.L.length ≤ 200) && s.C.all coSmall
def syMays4 (s : Sy) : Bool := sySmall4 s && syRight s
theorem small_of4 {s : Sy} (h : sySmall4 s = true) : sySmall s = true := by
  simp only [sySmall4, mSmall4, sySmall, mSmall, Bool.and_eq_true, decide_eq_true_eq] at h ⊢
  obtain ⟨⟨⟨⟨h1, h2⟩, h3⟩, h4⟩, h5⟩ := h
  exact ⟨⟨⟨⟨by omega, by omega⟩, h3⟩, h4⟩, h5⟩

set_option maxHeartbeats 1000000 in
theorem small4_any (A A' : Option Addr) (c c' : Nat) (m : Ar) (w : World) (h0 : m.G.length ≤ maxLen) (h1 : m.W.length ≤ maxLen) :
    Calls Try.prog 54 #[.agg #[.slice A m.W.length c, .slice A' m.G.length c', .bool m.bad], .int .i64 40] w fun e w' => e = .returned (.bool (mSmall4 m)) ∧ Below w.heap.size w w' := by
  unfold maxLen at h0 h1
  go_enter Try.func54, Try.ntmps54
  go_wp2
  all_goals
    go_ret
    exact ⟨ret_bool (by rw [Bool.eq_iff_iff]; simp [mSmall4]; omega), boxed _ _⟩

set_option maxRecDepth 100000 in
set_option maxHeartbeats 8000000 in
theorem rsmall4_any (A B AC AL : Option Addr) (c d cC cL : Nat) (s : Sy) (w : World) (hC : RowC w AC s.C) (h0 : s.M.G.length ≤ maxLen) (h1 : s.M.W.length ≤ maxLen) (h2 : s.C.length ≤ maxLen) (h3 : s.L.length ≤ maxLen) :
    Calls Try.prog 38 #[.agg #[.slice A s.M.W.length c, .slice B s.M.G.length d, .bool s.M.bad, .slice AC s.C.length cC, .slice AL s.L.length cL], .int .i64 40] w fun e w' => e = .returned (.bool (sySmall4 s)) ∧ Below w.heap.size w w' := by
  have hS : sySmall4 s = (mSmall4 s.M && decide (s.C.length ≤ 9) && decide (s.L.length ≤ 200) && s.C.all coSmall) := rfl
  have HS := hid hS
  clear hS
  by_cases q : mSmall4 s.M = true ∧ s.C.length ≤ 9 ∧ s.L.length ≤ 200
  · obtain ⟨q1, q2, q3⟩ := q
    go_enter Try.func38, Try.ntmps38
    go_wp2_with (go_at_call 54; refine (small4_any _ _ _ _ s.M _ h0 h1).mono ?_; rintro e wk ⟨rfl, hk⟩; obtain ⟨gc, gf⟩ := bcell hk; have hz : w.heap.size < wk.heap.size := (by have := hk.size; simp at this; omega))
    have hCk := (hC.step (boxed w _)).step hk
    have b0 : wk.cell? ⟨w.heap.size, 3, none⟩ = some (.slice AC s.C.length cC) := by rw [gc _ _ (by simp)]; simp [go_sem]
    have hb : Below w.heap.size w wk := bstep (boxed _ _) hk
    clear gc gf hk
    go_loop [6] (fun i => ∃ k : Nat, k ≤ s.C.length ∧ i = .int .i64 k ∧ Hid ((s.C.take k).all coSmall = true)) (fun i => s.C.length - (intOf i).toNat)
    case atStart => exact ⟨0, Nat.zero_le _, rfl, hid rfl⟩
    case round =>
      obtain ⟨k, hkk, rfl, HT⟩ := hrel
      by_cases hlt : k < s.C.length
      · obtain ⟨b, o, rfl, hbl, hat⟩ := hCk (by omega)
        obtain ⟨x, hx⟩ : ∃ x, s.C[k]? = some x := ⟨_, List.getElem?_eq_getElem hlt⟩
        obtain ⟨⟨AF, cF, c0, rF, _⟩, _, _, _, _, _, AR, cR, c6, rR⟩ := hat k x hx
        have HX := hid hx
        clear hat hx
        have fin : coSmall x = false → sySmall4 s = false := fun h => by rw [HS.out, all_bad HX.out h]; simp
        have Fin := hid fin
        clear fin
        by_cases r1 : x.F.length ≤ 45
        · by_cases r2 : x.ret.length ≤ 210
          · go_wp2
            go_loop [7] (fun i => ∃ j : Nat, j ≤ x.F.length ∧ i = .int .i64 j ∧ Hid ((x.F.take j).all frSmall = true)) (fun i => x.F.length - (intOf i).toNat)
            case atStart => exact ⟨0, Nat.zero_le _, rfl, hid rfl⟩
            case round =>
              obtain ⟨j, hjj, rfl, HJ⟩ := hrel
              by_cases hjt : j < x.F.length
              · obtain ⟨b', o', rfl, hbl', hat⟩ := rF (by omega)
                obtain ⟨f, hf⟩ : ∃ f, x.F[j]? = some f := ⟨_, List.getElem?_eq_getElem hjt⟩
                obtain ⟨_, _, _, _, AS, cS, c10, rS⟩ := hat j f hf
                have HF := hid hf
                clear hat hf
                by_cases r3 : f.S.length ≤ 30
                · go_wp2
                  go_round
                  case rel => exact ⟨j + 1, by omega, by go_num, hid (all_more HF.out HJ.out (by simp [frSmall]; omega))⟩
                  case measure => simp [intOf]; omega
                · go_wp2
                  go_ret
                  exact ⟨ret_bool (Fin.out (by unfold coSmall; rw [all_bad HF.out (by simp [frSmall]; omega)]; simp)).symm, hb⟩
              · go_wp2
                go_round
                case rel => exact ⟨k + 1, by omega, by go_num, hid (all_more HX.out HT.out (by unfold coSmall; rw [decide_eq_true r1, decide_eq_true r2, all_full (by omega) HJ.out]; rfl))⟩
                case measure => simp [intOf]; omega
          · go_wp2
            go_ret
            exact ⟨ret_bool (Fin.out (by unfold coSmall; rw [decide_eq_false r2]; simp)).symm, hb⟩
        · go_wp2
          go_ret
          exact ⟨ret_bool (Fin.out (by unfold coSmall; rw [decide_eq_false r1]; simp)).symm, hb⟩
      · go_wp2
        go_ret
        exact ⟨ret_bool (by rw [HS.out, q1, decide_eq_true q2, decide_eq_true q3, all_full (by omega) HT.out]; rfl), hb⟩
  · have q' : mSmall4 s.M = false ∨ (mSmall4 s.M = true ∧ 9 < s.C.length) ∨ (mSmall4 s.M = true ∧ s.C.length ≤ 9 ∧ 200 < s.L.length) := by
      by_cases t : mSmall4 s.M = true
      · right
        by_cases t1 : 9 < s.C.length
        · exact .inl ⟨t, t1⟩
        · right
          by_cases t2 : 200 < s.L.length
          · exact ⟨t, by omega, t2⟩
          · exact absurd ⟨t, by omega, by omega⟩ q
      · exact .inl (by simpa using t)
    clear q
    unfold maxLen at h2 h3
    rcases q' with q1 | ⟨q1, q2⟩ | ⟨q1, q2, q3⟩
    all_goals
      go_enter Try.func38, Try.ntmps38
      go_wp2_with (go_at_call 54; refine (small4_any _ _ _ _ s.M _ h0 h1).mono ?_; rintro e wk ⟨rfl, hk⟩; obtain ⟨gc, gf⟩ := bcell hk; have hz : w.heap.size < wk.heap.size := (by have := hk.size; simp at this; omega))
      go_ret
      exact ⟨ret_bool (by rw [HS.out, q1]; first | rfl | (rw [decide_eq_false (show ¬ s.C.length ≤ 9 by omega)]; simp) | (rw [decide_eq_false (show ¬ s.L.length ≤ 200 by omega)]; simp)), bstep (boxed _ _) hk⟩

/-- What few says of a system. -/
theorem sySmall4_few {s : Sy} (h : sySmall4 s = true) : s.M.G.length ≤ 41 ∧ s.M.W.length ≤ 288 ∧ s.C.length ≤ 9 ∧ s.L.length ≤ 200 ∧ (∀ x ∈ s.C, x.F.length ≤ 45 ∧ x.ret.length ≤ 210 ∧ ∀ f ∈ x.F, f.S.length ≤ 30) := by
  simp only [sySmall4, mSmall4, coSmall, frSmall, Bool.and_eq_true, decide_eq_true_eq, List.all_eq_true] at h
  obtain ⟨⟨⟨h1, h2⟩, h3⟩, h4⟩ := h
  exact ⟨by omega, by omega, h2, h3, fun x hx => ⟨(h4 x hx).1.1, (h4 x hx).1.2, (h4 x hx).2⟩⟩

set_option maxHeartbeats 4000000 in
theorem rmay4_any (A B AC AL : Option Addr) (c d cC cL : Nat) (s : Sy) (w : World) (hG : Row w B s.M.G) (hC : RowC w AC s.C) (h0 : s.M.G.length ≤ maxLen) (h1 : s.M.W.length ≤ maxLen) (h2 : s.C.length ≤ maxLen) (h3 : s.L.length ≤ maxLen) :
    Calls Try.prog 17 #[.agg #[.slice A s.M.W.length c, .slice B s.M.G.length d, .bool s.M.bad, .slice AC s.C.length cC, .slice AL s.L.length cL], .int .i64 40] w fun e w' => e = .returned (.bool (syMays4 s)) ∧ Below w.heap.size w w' := by
  have hm : syMays4 s = (sySmall4 s && syRight s) := rfl
  cases q : sySmall4 s
  · rw [q] at hm
    have HM := hid hm
    clear hm
    go_enter Try.func17, Try.ntmps17
    go_wp2_with (go_at_call 38; refine (rsmall4_any _ _ _ _ _ _ _ _ s _ (hC.step (boxed w _)) h0 h1 h2 h3).mono ?_; rintro e wk ⟨rfl, hk⟩)
    go_ret
    exact ⟨ret_bool HM.out.symm, bstep (boxed _ _) hk⟩
  · obtain ⟨q1, q2, q3, q4, q5⟩ := sySmall4_few q
    have Q5 := hid (fun x hx => Nat.le_trans (q5 x hx).1 (by decide) : ∀ x ∈ s.C, x.F.length ≤ 1000000)
    rw [q] at hm
    have HM := hid hm
    clear hm q5
    go_enter Try.func17, Try.ntmps17
    go_wp2_with (first
      | (go_at_call 38; refine (rsmall4_any _ _ _ _ _ _ _ _ s _ (hC.step (boxed w _)) h0 h1 h2 h3).mono ?_; rintro e wk ⟨rfl, hk⟩; obtain ⟨gc, gf⟩ := bcell hk; have hz : w.heap.size < wk.heap.size := (by have := hk.size; simp at this; omega))
      | (go_at_call 39; refine (rright3_any _ _ _ _ _ _ _ _ s _ ((hG.alloc _).step hk) ((hC.step (boxed w _)).step hk) (by omega) (by omega) (by omega) Q5.out).mono ?_; rintro e wl ⟨rfl, hl⟩))
    go_ret
    exact ⟨ret_bool (by rw [HM.out]; rfl), bstep (boxed _ _) (bstep hk hl)⟩
end Go.Proofs.Ytiakabnfjegeeaa
