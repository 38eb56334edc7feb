/- The document's Log over a plain function, for every core. -/
import Derived.Test.YtpagekhgeahmaaaUni
import Derived.Test.YtpagekhgeahmaaaRLog
namespace Go.Proofs.Ytpagekhgeahmaaa
open Go.RowKit
theorem rlog_u (A B C L : Option Addr) (a b c d : Nat) (s : Sy) (i y0 kind p q z : Int) (w : World) (hs : SyFew s) (h : RS w s A B C L) :
    Calls Try.prog 34 #[.agg #[.slice A s.M.W.length a, .slice B s.M.G.length b, .bool s.M.bad, .slice C s.C.length c, .slice L s.L.length d], .int .i64 i, .agg #[.int .i64 y0, .int .i64 kind, .int .i64 p, .int .i64 q, .int .i64 z]] w (RetSys w (pLog s i kind p q z)) := by
  obtain ⟨f0, f1, f2, f3, f4⟩ := hs
  rcases pAt_cases s i with ⟨h1, h1b, h2⟩ | ⟨k, x, rfl, hk, hx, h1, h2⟩
  · have e : pLog s i kind p q z = s := by unfold pLog; rw [h1]; rfl
    rw [e]
    exact rlog_out A B C L a b c d s i y0 kind p q z h1b w h.W h.G h.C h.L f2
  · have e : pLog s (k : Int) kind p q z = syLog s ⟨k, kind, p, q, z⟩ := by unfold pLog; rw [h1]; rfl
    rw [e]
    exact rlog_at A B C L a b c d s k y0 kind p q z hk w h.W h.G h.C h.L f2 f3
theorem few_log {s : Sy} (h : SyFew s) (h3 : s.L.length ≤ 999998) (i kind p q z : Int) : SyFew (pLog s i kind p q z) := by
  obtain ⟨f0, f1, f2, f3, f4⟩ := h
  unfold pLog
  split
  · exact ⟨f0, f1, f2, by simp [syLog]; omega, f4⟩
  · exact ⟨f0, f1, f2, f3, f4⟩
theorem few_set {s : Sy} (h : SyFew s) {f : Fr} (hf : f.S.length ≤ 1000000) (i : Int) : SyFew (pSet s i f) := by
  unfold pSet
  split
  · exact h
  · next x hx =>
    split
    · exact h
    · have hm : x ∈ s.C := by
        unfold pAt at hx
        split at hx
        · exact List.mem_of_getElem? hx
        · cases hx
      obtain ⟨g1, g2, g3⟩ := h.2.2.2.2 x hm
      refine few_with h ⟨g1, by simpa [coSet] using g2, fun y hy => ?_⟩
      rcases List.mem_or_eq_of_mem_set hy with q | q
      · exact g3 y q
      · rw [q]; exact hf
theorem few_back {s : Sy} (h : SyFew s) (i v e : Int) : SyFew (pBack s i v e) := by
  unfold pBack
  split
  · exact h
  · next x hx =>
    split
    · exact h
    · have hm : x ∈ s.C := by
        unfold pAt at hx
        split at hx
        · exact List.mem_of_getElem? hx
        · cases hx
      obtain ⟨g1, g2, g3⟩ := h.2.2.2.2 x hm
      exact few_with h ⟨g1, by simp [coBack]; omega, fun y hy => g3 y (List.mem_of_mem_take hy)⟩
theorem few_call {s : Sy} (h : SyFew s) {f : Fr} (hf : f.S.length ≤ 1000000) (i : Int) : SyFew (pCall s i f) := by
  unfold pCall
  split
  · exact h
  · next x hx =>
    split
    · exact h
    · have hm : x ∈ s.C := by
        unfold pAt at hx
        split at hx
        · exact List.mem_of_getElem? hx
        · cases hx
      obtain ⟨g1, g2, g3⟩ := h.2.2.2.2 x hm
      refine few_with h ⟨g1, by simp [coCall]; omega, fun y hy => ?_⟩
      rcases List.mem_append.1 hy with q | q
      · exact g3 y q
      · simp at q; rw [q]; exact hf
end Go.Proofs.Ytpagekhgeahmaaa
