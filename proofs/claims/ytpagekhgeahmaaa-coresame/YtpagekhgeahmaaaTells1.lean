/- core.New, hazelref03.New, and the two Tops, stated once for all inputs. -/
import Derived.Test.YtpagekhgeahmaaaShown3
import Derived.Test.YtpagekhgeahmaaaCore1
import Derived.Test.YtpagekhgeahmaaaCore9
namespace Go.Proofs.Ytpagekhgeahmaaa
open Go.RowKit
set_option linter.unusedVariables false

theorem few_of_small {s : Sy} (h : sySmall s = true) : SyFew s := by
  simp only [sySmall, mSmall, Bool.and_eq_true, decide_eq_true_eq, List.all_eq_true] at h
  obtain ⟨⟨⟨⟨h1, h2⟩, h3⟩, h4⟩, h5⟩ := h
  refine ⟨by omega, by omega, by omega, by omega, fun x hx => ?_⟩
  have h6 := h5 x hx
  simp only [coSmall, Bool.and_eq_true, decide_eq_true_eq, List.all_eq_true] at h6
  obtain ⟨⟨h7, h8⟩, h9⟩ := h6
  refine ⟨by omega, by omega, fun f hf => ?_⟩
  have := h9 f hf
  simp only [frSmall, decide_eq_true_eq] at this
  omega

theorem few_new (k n : Nat) (hk : k ≤ 8) (hn : n ≤ 200) : SyFew (syNew k n) := by
  refine ⟨by simp [syNew, mNew]; omega, by simp [syNew, mNew]; omega, by simp [syNew]; omega, by simp [syNew], fun x hx => ?_⟩
  have : x = coZero := by simp [syNew] at hx; exact hx.2
  subst this
  simp [coZero]
theorem few_none : SyFew syNone := by
  refine ⟨by simp [syNone, mNone], by simp [syNone, mNone], by simp [syNone], by simp [syNone], fun x hx => ?_⟩
  simp [syNone] at hx

theorem new_both (k n : Int) : ∃ (s : Sy) (x : Int), SyFew s ∧ (∀ w, Calls Try.prog 17 #[.int .i64 k, .int .i64 n] w (RetSys2 w s (.int .i64 x))) ∧ (∀ w, Calls Try.prog 18 #[.int .i64 k, .int .i64 n] w (RetSys2 w s (.int .i64 x))) := by
  by_cases hn : n < 1 ∨ 200 < n
  · exact ⟨syNone, 1, few_none, fun w => snew_nodes k n w hn, fun w => rsnew_nodes k n w hn⟩
  · obtain ⟨m, rfl⟩ : ∃ m : Nat, n = m := ⟨n.toNat, by omega⟩
    by_cases hk : k < 1 ∨ 8 < k
    · exact ⟨syNone, 1, few_none, fun w => snew_cores k m w (by omega) (by omega) hk, fun w => rsnew_cores k m w (by omega) (by omega) hk⟩
    · obtain ⟨l, rfl⟩ : ∃ l : Nat, k = l := ⟨k.toNat, by omega⟩
      exact ⟨syNew l m, 0, few_new l m (by omega) (by omega), fun w => snew_yes l m w (by omega) (by omega) (by omega) (by omega), fun w => rsnew_yes l m w (by omega) (by omega) (by omega) (by omega)⟩

theorem eight {l : List Int} (h : l.length = 8) : ∃ r0 r1 r2 r3 r4 r5 r6 r7 : Int, l = [r0, r1, r2, r3, r4, r5, r6, r7] := by
  match l, h with
  | [r0, r1, r2, r3, r4, r5, r6, r7], _ => exact ⟨r0, r1, r2, r3, r4, r5, r6, r7, rfl⟩

theorem top_both (s : Sy) (i : Int) (hs : SyFew s) {w0 : World} {C0 : Option Addr} (h0 : RowC w0 C0 s.C) :
    ∃ (t : Bool) (op pc r0 r1 r2 r3 r4 r5 r6 r7 : Int) (xs : List Int), xs.length ≤ 1000000 ∧
      (∀ (A B C L : Option Addr) (a b c d : Nat) (w : World), RowC w C s.C → Calls Try.prog 23 #[.agg #[.slice A s.M.W.length a, .slice B s.M.G.length b, .bool s.M.bad, .slice C s.C.length c, .slice L s.L.length d], .int .i64 i] w fun e w' => ∃ (A' : Option Addr) (c' : Nat), e = .returned (.tuple #[.agg #[.int .i64 op, .int .i64 pc, .int .i64 r0, .int .i64 r1, .int .i64 r2, .int .i64 r3, .int .i64 r4, .int .i64 r5, .int .i64 r6, .int .i64 r7, .slice A' xs.length c'], .bool t]) ∧ Row w' A' xs ∧ Below w.heap.size w w') ∧
      (∀ (A B C L : Option Addr) (a b c d : Nat) (w : World), RowC w C s.C → Calls Try.prog 24 #[.agg #[.slice A s.M.W.length a, .slice B s.M.G.length b, .bool s.M.bad, .slice C s.C.length c, .slice L s.L.length d], .int .i64 i] w fun e w' => ∃ (A' : Option Addr) (c' : Nat), e = .returned (.tuple #[.agg #[.int .i64 op, .int .i64 pc, .int .i64 r0, .int .i64 r1, .int .i64 r2, .int .i64 r3, .int .i64 r4, .int .i64 r5, .int .i64 r6, .int .i64 r7, .slice A' xs.length c'], .bool t]) ∧ Row w' A' xs ∧ Below w.heap.size w w') := by
  have h2 := hs.2.2.1
  by_cases q : 0 ≤ i ∧ i < (s.C.length : Int)
  · obtain ⟨j, rfl⟩ : ∃ j : Nat, i = j := ⟨i.toNat, by omega⟩
    have hj : j < s.C.length := by omega
    obtain ⟨x, hx⟩ : ∃ x, s.C[j]? = some x := ⟨_, List.getElem?_eq_getElem hj⟩
    obtain ⟨_, g2, g3⟩ := hs.2.2.2.2 x (List.mem_of_getElem? hx)
    rcases Nat.eq_zero_or_pos x.F.length with hF | hF
    · exact ⟨false, 0, 0, 0, 0, 0, 0, 0, 0, 0, 0, [], by simp, fun A B C L a b c d w rC => (top_none A B C L a b c d s j x w rC h2 hx hF).mono fun e w' ⟨he, hb⟩ => ⟨none, 0, he, Row.nil _ _, hb⟩, fun A B C L a b c d w rC => (rtop_none A B C L a b c d s j x w rC h2 hx hF).mono fun e w' ⟨he, hb⟩ => ⟨none, 0, he, Row.nil _ _, hb⟩⟩
    · obtain ⟨n, hn⟩ : ∃ n, x.F.length = n + 1 := ⟨x.F.length - 1, by omega⟩
      obtain ⟨f, hf⟩ : ∃ f, x.F[n]? = some f := ⟨_, List.getElem?_eq_getElem (by omega)⟩
      have h4 := g3 f (List.mem_of_getElem? hf)
      obtain ⟨b, o, _, _, hat⟩ := h0 (by omega)
      obtain ⟨⟨A, c, _, rF, _⟩, _⟩ := hat j x hx
      obtain ⟨b', o', _, _, hat'⟩ := rF hF
      have h8 : f.R.length = 8 := (hat' n f hf).1
      obtain ⟨op, pc, rs, xs⟩ := f
      obtain ⟨r0, r1, r2, r3, r4, r5, r6, r7, e8⟩ := eight h8
      simp only at e8 h4
      subst e8
      exact ⟨true, op, pc, r0, r1, r2, r3, r4, r5, r6, r7, xs, h4, fun A B C L a b c d w rC => top_yes A B C L a b c d s j n x op pc r0 r1 r2 r3 r4 r5 r6 r7 xs w rC h2 hx hn (by omega) h4 hf, fun A B C L a b c d w rC => (rtop_yes A B C L a b c d s j n x op pc r0 r1 r2 r3 r4 r5 r6 r7 xs w rC h2 hx hn (by omega) hf).mono fun e w' ⟨A', c', he, hr, hb⟩ => ⟨A', c', he, hr.step hb, hb⟩⟩
  · exact ⟨false, 0, 0, 0, 0, 0, 0, 0, 0, 0, 0, [], by simp, fun A B C L a b c d w rC => (top_out A B C L a b c d s i w h2 (by simpa [syHas] using q)).mono fun e w' ⟨he, hb⟩ => ⟨none, 0, he, Row.nil _ _, hb⟩, fun A B C L a b c d w rC => (rtop_out A B C L a b c d s i w h2 (by omega)).mono fun e w' ⟨he, hb⟩ => ⟨none, 0, he, Row.nil _ _, hb⟩⟩
end Go.Proofs.Ytpagekhgeahmaaa
