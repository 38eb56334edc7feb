/- Contracts: a node that is turned, by the program. -/
import Derived.Test.YtbpkndjnohdnjaaMem6
namespace Go.Proofs.Ytbpkndjnohdnjaa
open Go.RowKit
set_option linter.unusedVariables false
set_option linter.unusedSimpArgs false

theorem keep3 {B r : Nat} {a w : World} (h : Below B a w) (hr : B ≤ r) (x y z : Value) : Below B a (((w.setCell ⟨r, 0, none⟩ x).setCell ⟨r, 1, none⟩ y).setCell ⟨r, 2, none⟩ z) :=
  ((h.setCell (p := ⟨r, 0, none⟩) hr x).setCell (p := ⟨r, 1, none⟩) hr y).setCell (p := ⟨r, 2, none⟩) hr z
theorem Blk.keep3 {g r : Nat} {w : World} {xs : List Int} (h : Blk w g xs) (hr : g ≠ r) (x y z : Value) : Blk (((w.setCell ⟨r, 0, none⟩ x).setCell ⟨r, 1, none⟩ y).setCell ⟨r, 2, none⟩ z) g xs :=
  ((h.far (p := ⟨r, 0, none⟩) hr x).far (p := ⟨r, 1, none⟩) hr y).far (p := ⟨r, 2, none⟩) hr z

set_option maxHeartbeats 2000000 in
theorem turn_any (A A' : Option Addr) (c c' : Nat) (m : Ar) (i z : Int) (w : World) (hW : Row w A m.W) (hG : Row w A' m.G) (h0 : m.W.length ≤ 1000000) (h1 : m.G.length ≤ 1000000) :
    Calls Try.prog 32 #[.agg #[.slice A m.W.length c, .slice A' m.G.length c', .bool m.bad], .int .i64 i, .int .i64 z] w (RetMem w (mTurn m i z)) := by
  by_cases q1 : i < 1
  · have T := hid (mTurn_no (mTurns_out (m := m) (i := i) (z := z) (.inl q1)))
    go_enter Try.func32, Try.ntmps32
    go_wp2_with (go_at_call 42; refine (copied_any _ _ _ _ m _ ((hW.alloc _).alloc _) ((hG.alloc _).alloc _) h0 h1).mono ?_; rintro e wk ⟨g, g', rfl, hgg, hg, hg', B1, B2, hk⟩; obtain ⟨gc, gf⟩ := bcell hk; have hz : w.heap.size + 1 < wk.heap.size := (by have := hk.size; simp at this; omega); have hz0 : w.heap.size < wk.heap.size := (by omega))
    refine bodyPost_ret (v := .agg #[.slice (some ⟨g, 0, none⟩) m.W.length m.W.length, .slice (some ⟨g', 0, none⟩) m.G.length m.G.length, .bool true]) (by simp [results, Try.results32, go_sem, gc, hz]) rfl ?_
    obtain ⟨t1, t2, t3⟩ := T.out
    have n1 : g ≠ w.heap.size + 1 := by simp at hg; omega
    have n2 : g' ≠ w.heap.size + 1 := by simp at hg'; omega
    exact RetMem.mk (by rw [t1]) (by rw [t2]) t3.symm (by rw [t1]; exact ((B1.keep3 n1 _ _ _).alloc _).row) (by rw [t2]; exact ((B2.keep3 n2 _ _ _).alloc _).row) (bstep (keep3 (bstep (bstep (boxed _ _) (boxed _ _)) hk) (by omega) _ _ _) (boxed _ _))
  · have q2 : 1 ≤ i := by omega
    clear q1
    by_cases q3 : (m.G.length : Int) ≤ i
    · have T := hid (mTurn_no (mTurns_out (m := m) (i := i) (z := z) (.inr q3)))
      have q4 : (m.G.length : Int) - 1 < i := by omega
      go_enter Try.func32, Try.ntmps32
      go_wp2_with (first
        | (go_at_call 42; refine (copied_any _ _ _ _ m _ ((hW.alloc _).alloc _) ((hG.alloc _).alloc _) h0 h1).mono ?_; rintro e wk ⟨g, g', rfl, hgg, hg, hg', B1, B2, hk⟩; obtain ⟨gc, gf⟩ := bcell hk; have hz : w.heap.size + 1 < wk.heap.size := (by have := hk.size; simp at this; omega); have hz0 : w.heap.size < wk.heap.size := (by omega))
        | (go_at_call 35; refine (nodes_any _ _ _ _ _ _ _ _ (by omega)).mono ?_; rintro e wl ⟨rfl, hl⟩; obtain ⟨lc, lf⟩ := bcell hl; have hy : wk.heap.size < wl.heap.size := (by have := hl.size; simp at this; omega); have hy0 : w.heap.size < wk.heap.size + 1 := (by omega); have hy1 : w.heap.size + 1 < wk.heap.size + 1 := (by omega); have hy2 : w.heap.size + 1 < wl.heap.size := (by omega)))
      refine bodyPost_ret (v := .agg #[.slice (some ⟨g, 0, none⟩) m.W.length m.W.length, .slice (some ⟨g', 0, none⟩) m.G.length m.G.length, .bool true]) (by simp [results, Try.results32, go_sem, gc, lc, hz, hy1]) rfl ?_
      obtain ⟨t1, t2, t3⟩ := T.out
      have n1 : g ≠ w.heap.size + 1 := by simp at hg; omega
      have n2 : g' ≠ w.heap.size + 1 := by simp at hg'; omega
      have l1 := B1.lt
      have l2 := B2.lt
      have C1 := (B1.alloc _).step hl (by simp; omega)
      have C2 := (B2.alloc _).step hl (by simp; omega)
      have hb := bstep (bstep (bstep (bstep (boxed _ _) (boxed _ _)) hk) (boxed _ _)) hl
      exact RetMem.mk (by rw [t1]) (by rw [t2]) t3.symm (by rw [t1]; exact ((C1.far (p := ⟨wk.heap.size, 2, none⟩) (by simp; omega) _).keep3 n1 _ _ _).row) (by rw [t2]; exact ((C2.far (p := ⟨wk.heap.size, 2, none⟩) (by simp; omega) _).keep3 n2 _ _ _).row) (keep3 (hb.setCell (p := ⟨wk.heap.size, 2, none⟩) (by simp; omega) _) (by omega) _ _ _)
    · obtain ⟨k, rfl⟩ : ∃ k : Nat, i = k := ⟨i.toNat, by omega⟩
      have hkl : k < m.G.length := by omega
      have q4 : (k : Int) ≤ (m.G.length : Int) - 1 := by omega
      have hT := mTurns_in (m := m) (z := z) q2 (by omega)
      rw [Int.toNat_natCast] at hT
      clear q3
      obtain ⟨b1, o1, x, rfl, hb1, X, hc⟩ := hG.atX k hkl
      rw [X.out] at hT
      cases t : mMay x z
      · rw [t] at hT
        have T := hid (mTurn_no hT)
        clear hT
        go_enter Try.func32, Try.ntmps32
        go_wp2_with (first
          | (go_at_call 42; refine (copied_any _ _ _ _ m _ ((hW.alloc _).alloc _) ((hG.alloc _).alloc _) h0 h1).mono ?_; rintro e wk ⟨g, g', rfl, hgg, hg, hg', B1, B2, hk⟩; obtain ⟨gc, gf⟩ := bcell hk; have hz : w.heap.size + 1 < wk.heap.size := (by have := hk.size; simp at this; omega); have hz0 : w.heap.size < wk.heap.size := (by omega))
          | (go_at_call 35; refine (nodes_any _ _ _ _ _ _ _ _ (by omega)).mono ?_; rintro e wl ⟨rfl, hl⟩; obtain ⟨lc, lf⟩ := bcell hl; have hy : wk.heap.size < wl.heap.size := (by have := hl.size; simp at this; omega); have hy0 : w.heap.size < wk.heap.size + 1 := (by omega); have hy1 : w.heap.size + 1 < wk.heap.size + 1 := (by omega); have hy2 : w.heap.size + 1 < wl.heap.size := (by omega); have hcl := Row.cellX (((((hG.alloc _).alloc _).step hk).alloc _).step hl) k hkl X)
          | (go_at_call 43; refine (mayTurn_any _ _ _).mono ?_; rintro e w' ⟨rfl, rfl⟩))
        refine bodyPost_ret (v := .agg #[.slice (some ⟨g, 0, none⟩) m.W.length m.W.length, .slice (some ⟨g', 0, none⟩) m.G.length m.G.length, .bool true]) (by simp [results, Try.results32, go_sem, gc, lc, hz, hy1]) rfl ?_
        obtain ⟨t1, t2, t3⟩ := T.out
        have n1 : g ≠ w.heap.size + 1 := by simp at hg; omega
        have n2 : g' ≠ w.heap.size + 1 := by simp at hg'; omega
        have l1 := B1.lt
        have l2 := B2.lt
        have C1 := (B1.alloc _).step hl (by simp; omega)
        have C2 := (B2.alloc _).step hl (by simp; omega)
        have hb := bstep (bstep (bstep (bstep (boxed _ _) (boxed _ _)) hk) (boxed _ _)) hl
        exact RetMem.mk (by rw [t1]) (by rw [t2]) t3.symm (by rw [t1]; exact ((C1.far (p := ⟨wk.heap.size, 2, none⟩) (by simp; omega) _).keep3 n1 _ _ _).row) (by rw [t2]; exact ((C2.far (p := ⟨wk.heap.size, 2, none⟩) (by simp; omega) _).keep3 n2 _ _ _).row) (keep3 (hb.setCell (p := ⟨wk.heap.size, 2, none⟩) (by simp; omega) _) (by omega) _ _ _)
      · rw [t] at hT
        have T := hid (mTurn_yes hT)
        clear hT
        go_enter Try.func32, Try.ntmps32
        go_wp2_with (first
          | (go_at_call 42; refine (copied_any _ _ _ _ m _ ((hW.alloc _).alloc _) ((hG.alloc _).alloc _) h0 h1).mono ?_; rintro e wk ⟨g, g', rfl, hgg, hg, hg', B1, B2, hk⟩; obtain ⟨gc, gf⟩ := bcell hk; have hz : w.heap.size + 1 < wk.heap.size := (by have := hk.size; simp at this; omega); have hz0 : w.heap.size < wk.heap.size := (by omega))
          | (go_at_call 35; refine (nodes_any _ _ _ _ _ _ _ _ (by omega)).mono ?_; rintro e wl ⟨rfl, hl⟩; obtain ⟨lc, lf⟩ := bcell hl; have hy : wk.heap.size < wl.heap.size := (by have := hl.size; simp at this; omega); have hy0 : w.heap.size < wk.heap.size + 1 := (by omega); have hy1 : w.heap.size + 1 < wk.heap.size + 1 := (by omega); have hy2 : w.heap.size + 1 < wl.heap.size := (by omega); have hcl := Row.cellX (((((hG.alloc _).alloc _).step hk).alloc _).step hl) k hkl X; have l1 := B1.lt; have l2 := B2.lt; have C1 := (B1.alloc _).step hl (by simp; omega); have C2 := (B2.alloc _).step hl (by simp; omega); have d1 := C2.cellD k hkl; have d2 := C2.frozen k; have d3 := B2.cellD k hkl; have d4 := B2.frozen k; have n1 : g ≠ w.heap.size + 1 := (by simp at hg; omega); have n2 : g' ≠ w.heap.size + 1 := (by simp at hg'; omega); have n3 := n2.symm; have n4 : g' ≠ wk.heap.size := (by omega); have n5 := n4.symm)
          | (go_at_call 43; refine (mayTurn_any _ _ _).mono ?_; rintro e w' ⟨rfl, rfl⟩))
        refine bodyPost_ret (v := .agg #[.slice (some ⟨g, 0, none⟩) m.W.length m.W.length, .slice (some ⟨g', 0, none⟩) m.G.length m.G.length, .bool m.bad]) (by simp [results, Try.results32, go_sem, gc, lc, hz, hy1, n2, n3]) rfl ?_
        obtain ⟨t1, t2, t3⟩ := T.out
        rw [Int.toNat_natCast] at t2
        have hb := bstep (bstep (bstep (bstep (boxed _ _) (boxed _ _)) hk) (boxed _ _)) hl
        exact RetMem.mk (by rw [t1]) (by rw [t2, List.length_set]) t3.symm (by rw [t1]; exact ((C1.far (p := ⟨g', k, none⟩) hgg _).keep3 n1 _ _ _).row) (by rw [t2]; exact ((C2.set k z).keep3 n2 _ _ _).row) (keep3 (hb.setCell (p := ⟨g', k, none⟩) (by simp at hg' ⊢; omega) _) (by omega) _ _ _)
end Go.Proofs.Ytbpkndjnohdnjaa
