/- Contracts: a node that is turned, by the document. -/
import Derived.Test.YtbpkndjnohdnjaaMem7
import Derived.Test.YtbpkndjnohdnjaaAppend
namespace Go.Proofs.Ytbpkndjnohdnjaa
open Go.RowKit
set_option linter.unusedVariables false
set_option linter.unusedSimpArgs false

theorem Own.keep3 {g r : Nat} {w : World} {xs : List Int} (h : Own w g xs) (hr : g ≠ r) (x y z : Value) : Own (((w.setCell ⟨r, 0, none⟩ x).setCell ⟨r, 1, none⟩ y).setCell ⟨r, 2, none⟩ z) g xs :=
  ((h.far (p := ⟨r, 0, none⟩) hr x).far (p := ⟨r, 1, none⟩) hr y).far (p := ⟨r, 2, none⟩) hr z

set_option maxHeartbeats 2000000 in
theorem rturn_any (A A' : Option Addr) (c c' : Nat) (m : Ar) (i z : Int) (w : World) (hW : Row w A m.W) (hG : Row w A' m.G) (h0 : m.W.length ≤ 1000000) (h1 : m.G.length ≤ 1000000) :
    Calls Try.prog 33 #[.agg #[.slice A m.W.length c, .slice A' m.G.length c', .bool m.bad], .int .i64 i, .int .i64 z] w (RetMem w (mTurn m i z)) := by
  by_cases q1 : i < 1
  · have T := hid (mTurn_no (mTurns_out (m := m) (i := i) (z := z) (.inl q1)))
    go_enter Try.func33, Try.ntmps33
    go_wp2
    refine bodyPost_ret (v := .agg #[.slice A m.W.length c, .slice A' m.G.length c', .bool true]) (by simp [results, Try.results33, go_sem]) rfl ?_
    obtain ⟨t1, t2, t3⟩ := T.out
    exact RetMem.mk (by rw [t1]) (by rw [t2]) t3.symm (by rw [t1]; exact (hW.alloc _).alloc _) (by rw [t2]; exact (hG.alloc _).alloc _) (bstep (boxed _ _) (boxed _ _))
  · have q2 : 1 ≤ i := by omega
    clear q1
    by_cases q3 : (m.G.length : Int) ≤ i
    · have T := hid (mTurn_no (mTurns_out (m := m) (i := i) (z := z) (.inr q3)))
      go_enter Try.func33, Try.ntmps33
      go_wp2
      refine bodyPost_ret (v := .agg #[.slice A m.W.length c, .slice A' m.G.length c', .bool true]) (by simp [results, Try.results33, go_sem]) rfl ?_
      obtain ⟨t1, t2, t3⟩ := T.out
      exact RetMem.mk (by rw [t1]) (by rw [t2]) t3.symm (by rw [t1]; exact (hW.alloc _).alloc _) (by rw [t2]; exact (hG.alloc _).alloc _) (bstep (boxed _ _) (boxed _ _))
    · obtain ⟨k, rfl⟩ : ∃ k : Nat, i = k := ⟨i.toNat, by omega⟩
      have hkl : k < m.G.length := by omega
      have q4 : (k : Int) < (m.G.length : Int) := by omega
      have hT := mTurns_in (m := m) (z := z) q2 (by omega)
      rw [Int.toNat_natCast] at hT
      clear q3
      obtain ⟨b1, o1, x, rfl, hb1, X, hc⟩ := hG.atX k hkl
      rw [X.out] at hT
      have HT := hid hT
      clear hT
      go_enter Try.func33, Try.ntmps33
      go_upto_region 4 with (fail)
      go_cut [8] from 29 (fun s wx => s = .bool (mMay x z) ∧ wx = (w.alloc (.cells #[.slice A m.W.length c, .slice (some ⟨b1, o1, none⟩) m.G.length c', .bool m.bad] 24)).alloc (.cells #[.slice none 0 0, .slice none 0 0, .bool false] 24))
      case first =>
        rcases three x with ⟨x0, x1, x2⟩ | ⟨x0, x1, x2⟩ | ⟨x0, x1, x2⟩ | ⟨x0, x1, x2⟩
        all_goals rcases three z with ⟨z0, z1, z2⟩ | ⟨z0, z1, z2⟩ | ⟨z0, z1, z2⟩ | ⟨z0, z1, z2⟩
        all_goals
          have M : mMay x z = ((x == 0 && z == 1) || (x == 1 && z == 2) || (x == 1 && z == 0) || (x == 2 && z == 0)) := rfl
          rw [x0, x1, x2, z0, z1, z2] at M
          have HM := hid M
          clear M
          go_wp2
          go_meet
          exact ⟨by rw [HM.out]; rfl, rfl⟩
      case rest =>
        obtain ⟨rfl, rfl⟩ := hcut
        cases t : mMay x z
        · have T := hid (mTurn_no (HT.out.trans t))
          go_wp2
          refine bodyPost_ret (v := .agg #[.slice A m.W.length c, .slice (some ⟨b1, o1, none⟩) m.G.length c', .bool true]) (by simp [results, Try.results33, go_sem]) rfl ?_
          obtain ⟨t1, t2, t3⟩ := T.out
          exact RetMem.mk (by rw [t1]) (by rw [t2]) t3.symm (by rw [t1]; exact (hW.alloc _).alloc _) (by rw [t2]; exact (hG.alloc _).alloc _) (bstep (boxed _ _) (boxed _ _))
        · have T := hid (mTurn_yes (HT.out.trans t))
          go_wp2_with (at_builtin; refine wpList_append_new rfl (.tmp 66) (.tmp 68) _ rfl int_info Try.underlying22 (w.heap.size + 1 + 1) rfl ?_ _ m.G c' rfl (((hG.alloc _).alloc _).alloc _) (by omega) h1 ?_; (rw [show w.heap.size + 1 + 1 = ((w.alloc (.cells #[.slice A m.W.length c, .slice (some ⟨b1, o1, none⟩) m.G.length c', .bool m.bad] 24)).alloc (.cells #[.slice none 0 0, .slice none 0 0, .bool false] 24)).heap.size by simp]; exact heap_alloc_new _ _); intro g cap w2 O2 hg2 hb2; have d1 := O2.cellD k hkl; have d2 := O2.frozen k; obtain ⟨gc, gf⟩ := bcellB hb2; have n1 : g ≠ w.heap.size := (by omega); have n2 : g ≠ w.heap.size + 1 := (by omega); have n3 := n1.symm; have n4 := n2.symm; have n5 : w.heap.size < w.heap.size + 1 + 1 := (by omega); have n6 : w.heap.size + 1 < w.heap.size + 1 + 1 := (by omega); have n7 := O2.lt; have n8 : w.heap.size + 1 < w2.heap.size := (by omega); have n9 : w.heap.size < w2.heap.size := (by omega))
          refine bodyPost_ret (v := .agg #[.slice A m.W.length c, .slice (some ⟨g, 0, none⟩) m.G.length cap, .bool m.bad]) (by simp [results, Try.results33, go_sem, gc, n2, n4, n6]) rfl ?_
          obtain ⟨t1, t2, t3⟩ := T.out
          rw [Int.toNat_natCast] at t2
          have hb : Below w.heap.size w w2 := (bstep (bstep (boxed _ _) (boxed _ _)) (boxed _ _)).trans (hb2.mono (by omega))
          have hb' := hb.setCell (p := ⟨g, k, none⟩) (by simp; omega) (.int .i64 z)
          have hb3 := keep3 hb' (r := w.heap.size + 1) (by omega) (.slice A m.W.length c) (.slice (some ⟨g, 0, none⟩) m.G.length cap) (.bool m.bad)
          exact RetMem.mk (by rw [t1]) (by rw [t2, List.length_set]) t3.symm (by rw [t1]; exact hW.step hb3) (by rw [t2]; exact ((O2.set k z).keep3 n2 _ _ _).row) hb3
end Go.Proofs.Ytbpkndjnohdnjaa
