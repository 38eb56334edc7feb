/- Contracts: loads, stores and swaps, by the document. -/
import Derived.Test.YtbpkndjnohdnjaaMem9
import Derived.Deep.RegionHeld3
namespace Go.Proofs.Ytbpkndjnohdnjaa
open Go.RowKit
set_option linter.unusedVariables false
set_option linter.unusedSimpArgs false

/-- A variable that holds an arena, behind the region that makes it. -/
structure Var (w0 : World) (v : Nat) (cs : Array Value) (wx : World) : Prop where
  lv : w0.heap.size ≤ v
  bx : wx.heap[v]? = some (.cells cs 24 (0, 0))
  be : Below w0.heap.size w0 wx

theorem undrew {B : Nat} {a w : World} (h : Below B a.drew w) : Below B a w := ⟨h.os, h.tape, h.output, h.size, h.block⟩

/-- Three cells are kept over a call that turns nothing old. -/
theorem keepS {W w1 : World} {b : Nat} {x y z : Value} (hb : Below W.heap.size W w1) (h : W.cell? ⟨b, 0, none⟩ = some x ∧ W.cell? ⟨b, 1, none⟩ = some y ∧ W.cell? ⟨b, 2, none⟩ = some z) :
    w1.cell? ⟨b, 0, none⟩ = some x ∧ w1.cell? ⟨b, 1, none⟩ = some y ∧ w1.cell? ⟨b, 2, none⟩ = some z := by
  have hl : b < W.heap.size := World.block_lt_of_cell? W _ h.1
  exact ⟨(hb.cell hl).trans h.1, (hb.cell hl).trans h.2.1, (hb.cell hl).trans h.2.2⟩

theorem keepT {W : World} {b r : Nat} {x y z u v t : Value} (hne : b ≠ r) (h : W.cell? ⟨b, 0, none⟩ = some x ∧ W.cell? ⟨b, 1, none⟩ = some y ∧ W.cell? ⟨b, 2, none⟩ = some z) :
    (((W.setCell ⟨r, 0, none⟩ u).setCell ⟨r, 1, none⟩ v).setCell ⟨r, 2, none⟩ t).cell? ⟨b, 0, none⟩ = some x ∧ (((W.setCell ⟨r, 0, none⟩ u).setCell ⟨r, 1, none⟩ v).setCell ⟨r, 2, none⟩ t).cell? ⟨b, 1, none⟩ = some y ∧ (((W.setCell ⟨r, 0, none⟩ u).setCell ⟨r, 1, none⟩ v).setCell ⟨r, 2, none⟩ t).cell? ⟨b, 2, none⟩ = some z := by
  have e : ∀ (V : World) (i j : Nat) (q : Value), (V.setCell ⟨r, i, none⟩ q).cell? ⟨b, j, none⟩ = V.cell? ⟨b, j, none⟩ := fun V i j q => World.cell?_setCell_other V _ _ _ (fun h => hne (by injection h with h; exact h.symm))
  rw [e, e, e, e, e, e, e, e, e]
  exact h

theorem set3 {W : World} {v : Nat} {t : TypeId} {a b c x y z : Value} (h : W.heap[v]? = some (.cells #[a, b, c] t (0, 0))) :
    (((W.setCell ⟨v, 0, none⟩ x).setCell ⟨v, 1, none⟩ y).setCell ⟨v, 2, none⟩ z).heap[v]? = some (.cells #[x, y, z] t (0, 0)) := by
  have h1 := heap_setCell_same W v 0 _ _ x h
  have h2 := heap_setCell_same _ v 1 _ _ y h1
  exact heap_setCell_same _ v 2 _ _ z h2

theorem mVal_yes {m : Ar} {k : Nat} (h : (k : Int) < (m.W.length : Int)) : mVal m k = m.W.getD k 0 := by
  unfold mVal
  rw [if_pos (mIn_yes (by omega) h), Int.toNat_natCast]
theorem mVal_no {m : Ar} {p : Int} (h : p < 0 ∨ (m.W.length : Int) ≤ p) : mVal m p = 0 := by
  unfold mVal
  rw [mIn_no h]
  rfl

set_option maxHeartbeats 1000000 in
theorem rload_any (A A' : Option Addr) (c c' : Nat) (m : Ar) (p : Int) (w : World) (hW : Row w A m.W) (hG : Row w A' m.G) (h0 : m.W.length ≤ 1000000) (h1 : m.G.length ≤ 1000000) (h2 : 1 ≤ m.G.length) :
    Calls Try.prog 27 #[.agg #[.slice A m.W.length c, .slice A' m.G.length c', .bool m.bad], .int .i64 p] w (RetMem2 w (mLoad m p) (.int .i64 (mVal m p))) := by
  go_enter Try.func27, Try.ntmps27
  go_upto_region 1 with (fail)
  go_cut [6] from 7 (fun t wx => ∃ v : Nat, t = .pointer (some ⟨v, 0, none⟩) ∧ Var ((w.alloc (.cells #[.slice A m.W.length c, .slice A' m.G.length c', .bool m.bad] 24)).alloc (.cells #[.slice none 0 0, .slice none 0 0, .bool false] 24)) v #[.slice A m.W.length c, .slice A' m.G.length c', .bool (mBad m p)] wx)
  case first =>
    go_region_held3 (fun w' => w'.cell? ⟨w.heap.size, 0, none⟩ = some (.slice A m.W.length c) ∧ w'.cell? ⟨w.heap.size, 1, none⟩ = some (.slice A' m.G.length c') ∧ w'.cell? ⟨w.heap.size, 2, none⟩ = some (.bool m.bad)) (first | go_keep | (refine keepS hk ?_; simp [*]) | (refine keepS hk ?_; simp) | (refine keepS (bstep hk (boxed _ _)) ?_; simp) | exact keepT (by omega) (keepS hk (by simp [go_sem])))
      (first
        | (go_at_call 39; refine (bad_any _ _ _ _ m p _ (by first | exact (hG.alloc _).alloc _ | exact ((hG.alloc _).alloc _).alloc _) h0 h1 h2).mono ?_; rintro e wk ⟨rfl, hk⟩; obtain ⟨gc, gf⟩ := bcell hk))
    all_goals go_wp2_with fail
    all_goals go_meet
    · exact ⟨_, rfl, ⟨hk.size, heap_alloc_new _ _, bstep (undrew hk) (boxed _ _)⟩⟩
    · have hb0 : wk.heap[w.heap.size + 1 + 1]? = some (.cells #[.slice none 0 0, .slice none 0 0, .bool false] 24 (0, 0)) :=
        (hk.block _ (show w.heap.size + 1 + 1 < (((w.alloc _).alloc _).alloc _).heap.size by simp)).trans (by
          rw [show w.heap.size + 1 + 1 = ((w.alloc (.cells #[.slice A m.W.length c, .slice A' m.G.length c', .bool m.bad] 24)).alloc (.cells #[.slice none 0 0, .slice none 0 0, .bool false] 24)).heap.size by simp]
          exact heap_alloc_new _ _)
      exact ⟨_, rfl, ⟨by simp, set3 hb0, keep3 (bstep (boxed _ _) (undrew hk)) (by simp) _ _ _⟩⟩
  case rest =>
    obtain ⟨v, rfl, V⟩ := hcut
    have v0 : wc.cell? ⟨v, 0, none⟩ = some (.slice A m.W.length c) := cell_of_row wc v 0 _ _ _ V.bx
    have v1 : wc.cell? ⟨v, 1, none⟩ = some (.slice A' m.G.length c') := cell_of_row wc v 1 _ _ _ V.bx
    have v2 : wc.cell? ⟨v, 2, none⟩ = some (.bool (mBad m p)) := cell_of_row wc v 2 _ _ _ V.bx
    obtain ⟨lc, lf⟩ := bcell V.be
    have lv := V.lv
    have e3 : w.heap.size + 1 ≠ v := by simp at lv; omega
    clear lv
    have rW := ((hW.alloc _).alloc _).step V.be
    have rG := ((hG.alloc _).alloc _).step V.be
    have hb : Below w.heap.size w wc := bstep (bstep (boxed _ _) (boxed _ _)) V.be
    by_cases q1 : p < 0
    · have hv := hid (mVal_no (m := m) (.inl q1))
      go_wp2
      refine bodyPost_ret (v := .tuple #[.agg #[.slice A m.W.length c, .slice A' m.G.length c', .bool (mBad m p)], .int .i64 0]) (by simp [results, Try.results27, go_sem, lc]) rfl ?_
      rw [hv.out]
      have hb3 := keep3 hb (r := w.heap.size + 1) (by omega) (.slice A m.W.length c) (.slice A' m.G.length c') (.bool (mBad m p))
      exact RetMem2.mk rfl rfl rfl (hW.step hb3) (hG.step hb3) hb3
    · have q2 : 0 ≤ p := by omega
      clear q1
      by_cases q3 : (m.W.length : Int) ≤ p
      · have hv := hid (mVal_no (m := m) (.inr q3))
        go_wp2
        refine bodyPost_ret (v := .tuple #[.agg #[.slice A m.W.length c, .slice A' m.G.length c', .bool (mBad m p)], .int .i64 0]) (by simp [results, Try.results27, go_sem, lc]) rfl ?_
        rw [hv.out]
        have hb3 := keep3 hb (r := w.heap.size + 1) (by omega) (.slice A m.W.length c) (.slice A' m.G.length c') (.bool (mBad m p))
        exact RetMem2.mk rfl rfl rfl (hW.step hb3) (hG.step hb3) hb3
      · obtain ⟨k, hk⟩ : ∃ k : Nat, p = k := ⟨p.toNat, by omega⟩
        have q4 : p < (m.W.length : Int) := by omega
        have hkl : k < m.W.length := by omega
        obtain ⟨b1, o1, x, rfl, hb1, X, hc0⟩ := hW.atX k hkl
        have hc := rW.cellX k hkl X
        have n1 : b1 ≠ w.heap.size + 1 := by omega
        have n2 := n1.symm
        clear hc0
        have hv : Hid (mVal m p = x) := by rw [hk, mVal_yes (by omega)]; exact X.out
        have ht : p.toNat = k := by omega
        clear q3
        subst hk
        go_wp2
        go_region
        all_goals go_wp2
        refine bodyPost_ret (v := .tuple #[.agg #[.slice (some ⟨b1, o1, none⟩) m.W.length c, .slice A' m.G.length c', .bool (mBad m k)], .int .i64 x]) (by simp [results, Try.results27, go_sem, lc]) rfl ?_
        rw [hv.out]
        have hb3 := (keep3 hb (r := w.heap.size + 1) (by omega) (.slice (some ⟨b1, o1, none⟩) m.W.length c) (.slice A' m.G.length c') (.bool (mBad m k))).drew
        exact RetMem2.mk rfl rfl rfl (hW.step hb3) (hG.step hb3) hb3
end Go.Proofs.Ytbpkndjnohdnjaa
