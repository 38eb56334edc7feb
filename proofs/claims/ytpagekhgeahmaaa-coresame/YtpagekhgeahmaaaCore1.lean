/- Contracts of the document's answers for layer 3: what is small. -/
import Derived.Test.YtpagekhgeahmaaaChecked
import Derived.Test.YtpagekhgeahmaaaSys
import Derived.Test.YtpagekhgeahmaaaRefMem
namespace Go.Proofs.Ytpagekhgeahmaaa
open Go.RowKit
set_option linter.unusedVariables false
set_option linter.unusedSimpArgs false

def frSmall (f : Fr) : Bool := decide (f.S.length ≤ 30)
def coSmall (x : Co) : Bool := decide (x.F.length ≤ 45) && decide (x.ret.length ≤ 210) && x.F.all frSmall
def sySmall (s : Sy) : Bool := mSmall s.M && decide (s.C.length ≤ 9) && decide (s.L.length ≤ 200) && s.C.all coSmall

theorem all_more {α : Type} {l : List α} {p : α → Bool} {k : Nat} {x : α} (hx : l[k]? = some x) (h : (l.take k).all p = true) (hp : p x = true) : (l.take (k + 1)).all p = true := by
  rw [List.take_add_one, hx, List.all_append, h]
  simp [hp]
theorem all_bad {α : Type} {l : List α} {p : α → Bool} {k : Nat} {x : α} (hx : l[k]? = some x) (hp : p x = false) : l.all p = false := by
  rw [List.all_eq_false]
  exact ⟨x, List.mem_of_getElem? hx, by simp [hp]⟩
theorem all_full {α : Type} {l : List α} {p : α → Bool} {k : Nat} (hk : l.length ≤ k) (h : (l.take k).all p = true) : l.all p = true := by
  rw [List.take_of_length_le hk] at h
  exact h

set_option maxHeartbeats 2000000 in
theorem rsmall_any (A B AC AL : Option Addr) (c d cC cL : Nat) (s : Sy) (w : World) (hC : RowC w AC s.C) (h0 : s.M.G.length ≤ maxLen) (h1 : s.M.W.length ≤ maxLen) (h2 : s.C.length ≤ maxLen) (h3 : s.L.length ≤ maxLen) :
    Calls Try.prog 16 #[.agg #[.slice A s.M.W.length c, .slice B s.M.G.length d, .bool s.M.bad, .slice AC s.C.length cC, .slice AL s.L.length cL], .int .i64 60] w fun e w' => e = .returned (.bool (sySmall s)) ∧ Below w.heap.size w w' := by
  have hS : sySmall s = (mSmall s.M && decide (s.C.length ≤ 9) && decide (s.L.length ≤ 200) && s.C.all coSmall) := rfl
  have HS := hid hS
  clear hS
  by_cases q : mSmall s.M = true ∧ s.C.length ≤ 9 ∧ s.L.length ≤ 200
  · obtain ⟨q1, q2, q3⟩ := q
    go_enter Try.func16, Try.ntmps16
    go_wp2_with (go_at_call 52; refine (small_any _ _ _ _ s.M _ h0 h1).mono ?_; rintro e wk ⟨rfl, hk⟩; obtain ⟨gc, gf⟩ := bcell hk; have hz : w.heap.size < wk.heap.size := (by have := hk.size; simp at this; omega))
    have hCk := (hC.step (boxed w _)).step hk
    have b0 : wk.cell? ⟨w.heap.size, 3, none⟩ = some (.slice AC s.C.length cC) := by rw [gc _ _ (by simp)]; simp [go_sem]
    have hb : Below w.heap.size w wk := bstep (boxed _ _) hk
    clear gc gf hk
    go_loop [6] (fun i => ∃ k : Nat, k ≤ s.C.length ∧ i = .int .i64 k ∧ Hid ((s.C.take k).all coSmall = true)) (fun i => s.C.length - (intOf i).toNat)
    case atStart => exact ⟨0, Nat.zero_le _, rfl, hid rfl⟩
    case round =>
      obtain ⟨k, hkk, rfl, HT⟩ := hrel
      by_cases hlt : k < s.C.length
      · obtain ⟨b, o, rfl, hbl, hat⟩ := hCk (by omega)
        obtain ⟨x, hx⟩ : ∃ x, s.C[k]? = some x := ⟨_, List.getElem?_eq_getElem hlt⟩
        obtain ⟨⟨AF, cF, c0, rF, _⟩, _, _, _, _, _, AR, cR, c6, rR⟩ := hat k x hx
        have HX := hid hx
        clear hat hx
        have fin : coSmall x = false → sySmall s = false := fun h => by rw [HS.out, all_bad HX.out h]; simp
        have Fin := hid fin
        clear fin
        by_cases r1 : x.F.length ≤ 45
        · by_cases r2 : x.ret.length ≤ 210
          · go_wp2
            go_loop [7] (fun i => ∃ j : Nat, j ≤ x.F.length ∧ i = .int .i64 j ∧ Hid ((x.F.take j).all frSmall = true)) (fun i => x.F.length - (intOf i).toNat)
            case atStart => exact ⟨0, Nat.zero_le _, rfl, hid rfl⟩
            case round =>
              obtain ⟨j, hjj, rfl, HJ⟩ := hrel
              by_cases hjt : j < x.F.length
              · obtain ⟨b', o', rfl, hbl', hat⟩ := rF (by omega)
                obtain ⟨f, hf⟩ : ∃ f, x.F[j]? = some f := ⟨_, List.getElem?_eq_getElem hjt⟩
                obtain ⟨_, _, _, _, AS, cS, c10, rS⟩ := hat j f hf
                have HF := hid hf
                clear hat hf
                by_cases r3 : f.S.length ≤ 30
                · go_wp2
                  go_round
                  case rel => exact ⟨j + 1, by omega, by go_num, hid (all_more HF.out HJ.out (by simp [frSmall]; omega))⟩
                  case measure => simp [intOf]; omega
                · go_wp2
                  go_ret
                  exact ⟨ret_bool (Fin.out (by unfold coSmall; rw [all_bad HF.out (by simp [frSmall]; omega)]; simp)).symm, hb⟩
              · go_wp2
                go_round
                case rel => exact ⟨k + 1, by omega, by go_num, hid (all_more HX.out HT.out (by unfold coSmall; rw [decide_eq_true r1, decide_eq_true r2, all_full (by omega) HJ.out]; rfl))⟩
                case measure => simp [intOf]; omega
          · go_wp2
            go_ret
            exact ⟨ret_bool (Fin.out (by unfold coSmall; rw [decide_eq_false r2]; simp)).symm, hb⟩
        · go_wp2
          go_ret
          exact ⟨ret_bool (Fin.out (by unfold coSmall; rw [decide_eq_false r1]; simp)).symm, hb⟩
      · go_wp2
        go_ret
        exact ⟨ret_bool (by rw [HS.out, q1, decide_eq_true q2, decide_eq_true q3, all_full (by omega) HT.out]; rfl), hb⟩
  · have q' : mSmall s.M = false ∨ (mSmall s.M = true ∧ 9 < s.C.length) ∨ (mSmall s.M = true ∧ s.C.length ≤ 9 ∧ 200 < s.L.length) := by
      by_cases t : mSmall s.M = true
      · right
        by_cases t1 : 9 < s.C.length
        · exact .inl ⟨t, t1⟩
        · right
          by_cases t2 : 200 < s.L.length
          · exact ⟨t, by omega, t2⟩
          · exact absurd ⟨t, by omega, by omega⟩ q
      · exact .inl (by simpa using t)
    clear q
    unfold maxLen at h2 h3
    rcases q' with q1 | ⟨q1, q2⟩ | ⟨q1, q2, q3⟩
    all_goals
      go_enter Try.func16, Try.ntmps16
      go_wp2_with (go_at_call 52; refine (small_any _ _ _ _ s.M _ h0 h1).mono ?_; rintro e wk ⟨rfl, hk⟩; obtain ⟨gc, gf⟩ := bcell hk; have hz : w.heap.size < wk.heap.size := (by have := hk.size; simp at this; omega))
      go_ret
      exact ⟨ret_bool (by rw [HS.out, q1]; first | rfl | (rw [decide_eq_false (show ¬ s.C.length ≤ 9 by omega)]; simp) | (rw [decide_eq_false (show ¬ s.L.length ≤ 200 by omega)]; simp)), bstep (boxed _ _) hk⟩
end Go.Proofs.Ytpagekhgeahmaaa
