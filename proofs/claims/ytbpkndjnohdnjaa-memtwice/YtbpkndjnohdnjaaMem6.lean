/- Contracts: arenas that are copied. -/
import Derived.Test.YtbpkndjnohdnjaaMem5
import Derived.Test.YtbpkndjnohdnjaaCopy
import Derived.Deep.CutRange
namespace Go.Proofs.Ytbpkndjnohdnjaa
open Go.RowKit
set_option linter.unusedVariables false

/-- An arena in two blocks of its own, beside each other. -/
def RetOwn (w : World) (m : Ar) (e : Ending) (w' : World) : Prop :=
  ∃ g g' : Nat, e = .returned (.agg #[.slice (some ⟨g, 0, none⟩) m.W.length m.W.length, .slice (some ⟨g', 0, none⟩) m.G.length m.G.length, .bool m.bad]) ∧ g ≠ g' ∧ w.heap.size ≤ g ∧ w.heap.size ≤ g' ∧ Blk w' g m.W ∧ Blk w' g' m.G ∧ Below w.heap.size w w'

/-- Behind the two makes: the two blocks, and the variable's. -/
structure Laid (w0 : World) (m : Ar) (g g' v : Nat) (wx : World) : Prop where
  gg : g ≠ g'
  gv : v ≠ g
  gv' : v ≠ g'
  lg : w0.heap.size ≤ g
  lg' : w0.heap.size ≤ g'
  lv : w0.heap.size ≤ v
  lw : v < wx.heap.size
  bx : wx.heap[v]? = some (.cells #[.slice (some ⟨g, 0, none⟩) m.W.length m.W.length, .slice (some ⟨g', 0, none⟩) m.G.length m.G.length, .bool m.bad] 24 (0, 0))
  bg : Blk wx g (List.replicate m.W.length 0)
  bg' : Blk wx g' (List.replicate m.G.length 0)
  be : Below w0.heap.size w0 wx

theorem madeBlk {w : World} {g n : Nat} (h : w.heap[g]? = some (.cells (madeCells #[.int .i64 0] n) 3)) : Blk w g (List.replicate n 0) := by
  unfold Blk
  rw [h]
  congr 2
  apply Array.ext
  · simp [madeCells]
  · intro i h1 h2
    simp [madeCells, Nat.mod_one]

theorem heap3 (w0 : World) (a b c : Obj) (n : Nat) (hn : w0.heap.size = n) :
    (((w0.alloc a).alloc b).alloc c).drew.heap[n]? = some a ∧ (((w0.alloc a).alloc b).alloc c).drew.heap[n + 1]? = some b ∧ (((w0.alloc a).alloc b).alloc c).drew.heap[n + 1 + 1]? = some c ∧
      n + 1 + 1 < (((w0.alloc a).alloc b).alloc c).drew.heap.size ∧ Below w0.heap.size w0 (((w0.alloc a).alloc b).alloc c).drew := by
  subst hn
  refine ⟨?_, ?_, ?_, ?_, (bstep (bstep (boxed _ _) (boxed _ _)) (boxed _ _)).drew⟩
  · rw [heap_drew, heap_alloc_old _ _ (by simp; omega), heap_alloc_old _ _ (by simp), heap_alloc_new]
  · rw [heap_drew, heap_alloc_old _ _ (by simp), show w0.heap.size + 1 = (w0.alloc a).heap.size by simp, heap_alloc_new]
  · rw [heap_drew, show w0.heap.size + 1 + 1 = ((w0.alloc a).alloc b).heap.size by simp, heap_alloc_new]
  · rw [heap_drew]; simp

set_option maxHeartbeats 1000000 in
theorem copied_any (A A' : Option Addr) (c c' : Nat) (m : Ar) (w : World) (hW : Row w A m.W) (hG : Row w A' m.G) (h0 : m.W.length ≤ 1000000) (h1 : m.G.length ≤ 1000000) :
    Calls Try.prog 42 #[.agg #[.slice A m.W.length c, .slice A' m.G.length c', .bool m.bad]] w (RetOwn w m) := by
  have k1 := make_ints m.W.length h0
  have k2 := make_ints m.G.length h1
  go_enter Try.func42, Try.ntmps42
  go_upto_region 1 with (fail)
  go_cut [3] from 4 (fun t wx => ∃ g g' v : Nat, t = .pointer (some ⟨v, 0, none⟩) ∧ Laid ((w.alloc (.cells #[.slice A m.W.length c, .slice A' m.G.length c', .bool m.bad] 24)).alloc (.cells #[.slice none 0 0, .slice none 0 0, .bool false] 24)) m g g' v wx)
  case first =>
    go_region
    all_goals go_wp2_with fail
    all_goals go_meet
    all_goals
      obtain ⟨p, q, r, s, t⟩ := heap3 ((w.alloc (.cells #[.slice A m.W.length c, .slice A' m.G.length c', .bool m.bad] 24)).alloc (.cells #[.slice none 0 0, .slice none 0 0, .bool false] 24)) _ _ _ (w.heap.size + 1 + 1) (by simp)
      first
      | exact ⟨_, _, _, rfl, ⟨by omega, by omega, by omega, by simp <;> omega, by simp <;> omega, by simp <;> omega, by omega, p, madeBlk q, madeBlk r, t⟩⟩
      | exact ⟨_, _, _, rfl, ⟨by omega, by omega, by omega, by simp <;> omega, by simp <;> omega, by simp <;> omega, by omega, p, madeBlk r, madeBlk q, t⟩⟩
      | exact ⟨_, _, _, rfl, ⟨by omega, by omega, by omega, by simp <;> omega, by simp <;> omega, by simp <;> omega, by omega, q, madeBlk p, madeBlk r, t⟩⟩
      | exact ⟨_, _, _, rfl, ⟨by omega, by omega, by omega, by simp <;> omega, by simp <;> omega, by simp <;> omega, by omega, q, madeBlk r, madeBlk p, t⟩⟩
      | exact ⟨_, _, _, rfl, ⟨by omega, by omega, by omega, by simp <;> omega, by simp <;> omega, by simp <;> omega, by omega, r, madeBlk p, madeBlk q, t⟩⟩
      | exact ⟨_, _, _, rfl, ⟨by omega, by omega, by omega, by simp <;> omega, by simp <;> omega, by simp <;> omega, by omega, r, madeBlk q, madeBlk p, t⟩⟩
  case rest =>
    obtain ⟨g, g', v, rfl, L⟩ := hcut
    have v0 : wc.cell? ⟨v, 0, none⟩ = some (.slice (some ⟨g, 0, none⟩) m.W.length m.W.length) := cell_of_row wc v 0 _ _ _ L.bx
    have v1 : wc.cell? ⟨v, 1, none⟩ = some (.slice (some ⟨g', 0, none⟩) m.G.length m.G.length) := cell_of_row wc v 1 _ _ _ L.bx
    have v2 : wc.cell? ⟨v, 2, none⟩ = some (.bool m.bad) := cell_of_row wc v 2 _ _ _ L.bx
    obtain ⟨lc, lf⟩ := bcell L.be
    have lg := L.lg
    have lg' := L.lg'
    have lw := L.lw
    have e0 := L.gv
    have e1 := L.gv'
    have e2 : w.heap.size ≠ g := by simp at lg; omega
    have e3 : w.heap.size + 1 ≠ g := by simp at lg; omega
    have e4 : w.heap.size ≠ g' := by simp at lg'; omega
    have e5 : w.heap.size + 1 ≠ g' := by simp at lg'; omega
    have rW := ((hW.alloc (.cells #[.slice A m.W.length c, .slice A' m.G.length c', .bool m.bad] 24)).alloc (.cells #[.slice none 0 0, .slice none 0 0, .bool false] 24)).step L.be
    have rG := (hG.alloc (.cells #[.slice A m.W.length c, .slice A' m.G.length c', .bool m.bad] 24)).alloc (.cells #[.slice none 0 0, .slice none 0 0, .bool false] 24)
    clear lg lg' k1 k2
    go_wp2_with (first
      | ((with_reducible refine wpList_copy_mine rfl (.tmp 16) (.tmp 18) 22 22 rfl 3 Try.underlying22 (by kernel_rfl) g _ _ A m.W _ rfl rfl L.bg (by simp) rW ?_); intro w2 B2 O2; obtain ⟨oc, of⟩ := O2.cells)
      | ((with_reducible refine wpList_copy_mine rfl (.tmp 21) (.tmp 23) 22 22 rfl 3 Try.underlying22 (by kernel_rfl) g' _ _ A' m.G _ rfl rfl (O2.blk L.gg.symm L.bg') (by simp) (rG.step (O2.below L.be L.lg)) ?_); intro w3 B3 O3; obtain ⟨pc, pf⟩ := O3.cells))
    refine bodyPost_ret (v := .agg #[.slice (some ⟨g, 0, none⟩) m.W.length m.W.length, .slice (some ⟨g', 0, none⟩) m.G.length m.G.length, .bool m.bad]) (by simp [results, Try.results42, go_sem, pc, oc, lc, e3, e5]) rfl ?_
    refine ⟨g, g', rfl, L.gg, ?_, ?_, ?_, ?_, ?_⟩
    · have := L.lg; simp at this; omega
    · have := L.lg'; simp at this; omega
    · exact (((O3.blk L.gg B2).far e3.symm _).far e3.symm _).far e3.symm _
    · exact ((B3.far e5.symm _).far e5.symm _).far e5.symm _
    · have hb : Below w.heap.size w w3 := (bstep (boxed _ _) (boxed _ _)).trans ((O3.below (O2.below L.be L.lg) L.lg').mono (by simp; omega))
      exact ((hb.setCell (by simp) _).setCell (by simp) _).setCell (by simp) _
end Go.Proofs.Ytbpkndjnohdnjaa
