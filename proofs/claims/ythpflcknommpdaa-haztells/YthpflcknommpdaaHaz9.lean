/- Contracts: which nodes are named, by the document; are two rows the same (hazelref05.Named, Flags). -/
import Derived.Test.YthpflcknommpdaaHazN
import Derived.Test.YthpflcknommpdaaKPla
namespace Go.Proofs.Ythpflcknommpdaa
open Go.RowKit
set_option linter.unusedVariables false
set_option linter.unusedSimpArgs false

theorem pNameds_to {m : Ar} (hw : 128 ≤ m.W.length) : ∀ k, k ≤ 24 → pNameds m (prs k) = pNamedTo m k
  | 0, _ => rfl
  | k + 1, h => by
    have h1 := prs_succ (k / 3) (k % 3) (by omega)
    rw [show 3 * (k / 3) + k % 3 = k by omega] at h1
    rw [← h1, pNameds_snoc, pNameds_to hw k (by omega)]
    show pNote _ (mVal m (pPlace ((k / 3 : Nat) : Int) ((k % 3 : Nat) : Int))) = pNote _ (m.W.getD (8 + k) 0)
    rw [pPlace_in (by omega) (by omega) (by omega) (by omega), show (8 + 3 * ((k / 3 : Nat) : Int) + ((k % 3 : Nat) : Int)) = ((8 + k : Nat) : Int) by omega, root_val (by omega) hw]

theorem note_yes {bs : List Bool} {v : Nat} (h : 0 < v) (hl : v < bs.length) : pNote bs (v : Int) = bs.set v true := by
  unfold pNote; rw [if_pos (by omega)]; rfl
theorem note_no {bs : List Bool} {v : Int} (h : ¬ (0 < v ∧ v < (bs.length : Int))) : pNote bs v = bs := by
  unfold pNote; rw [if_neg h]

set_option maxRecDepth 100000 in
set_option maxHeartbeats 4000000 in
theorem rnamed_any (A B C L : Option Addr) (a b c d : Nat) (s : Sy) (w : World) (hs : SyFew s) (hw : 128 ≤ s.M.W.length) (hc : s.C.length ≤ 8) (h : RS w s A B C L) :
    Calls Try.prog 15 #[.agg #[.slice A s.M.W.length a, .slice B s.M.G.length b, .bool s.M.bad, .slice C s.C.length c, .slice L s.L.length d]] w fun e w' => ∃ g, e = .returned (.slice (some ⟨g, 0, none⟩) s.M.G.length s.M.G.length) ∧ w'.heap[g]? = some (.cells ((pNamedTo s.M (3 * s.C.length)).map Value.bool).toArray 4 (0, 0)) ∧ w.heap.size ≤ g ∧ Below w.heap.size w w' := by
  have mk := make_bools s.M.G.length hs.2.1
  obtain ⟨e0, e1, bs⟩ := heap2 w (.cells #[.slice A s.M.W.length a, .slice B s.M.G.length b, .bool s.M.bad, .slice C s.C.length c, .slice L s.L.length d] 28) (.cells (madeCells #[Value.bool false] s.M.G.length) 4)
  have hb : Below w.heap.size w ((w.alloc (.cells #[.slice A s.M.W.length a, .slice B s.M.G.length b, .bool s.M.bad, .slice C s.C.length c, .slice L s.L.length d] 28)).alloc (.cells (madeCells #[Value.bool false] s.M.G.length) 4)) := bstep (boxed _ _) (boxed _ _)
  clear bs
  rw [made_bools] at e0 e1 hb
  have hW := h.W
  have hcl : (s.C.length : Int) ≤ 8 := by omega
  have HGL := hid hs.2.1
  clear h hs
  go_enter Try.func15, Try.ntmps15
  go_wp2
  clear mk
  rw [made_bools]
  generalize ((w.alloc (.cells #[.slice A s.M.W.length a, .slice B s.M.G.length b, .bool s.M.bad, .slice C s.C.length c, .slice L s.L.length d] 28)).alloc (.cells ((List.replicate s.M.G.length false).map Value.bool).toArray 4)) = w1 at *
  go_loopw [4] (fun i wr => ∃ j : Nat, j ≤ 3 * s.C.length ∧ i = .int .i64 (j : Int) ∧ wr.heap[w.heap.size]? = some (.cells #[.slice A s.M.W.length a, .slice B s.M.G.length b, .bool s.M.bad, .slice C s.C.length c, .slice L s.L.length d] 28 (0, 0)) ∧ wr.heap[w.heap.size + 1]? = some (.cells ((pNamedTo s.M j).map Value.bool).toArray 4 (0, 0)) ∧ Below w.heap.size w wr) (fun i _ => 3 * s.C.length - (intOf i).toNat)
  case atStart => exact ⟨0, by omega, rfl, e0, e1, hb⟩
  case round =>
    clear e0 e1 hb
    obtain ⟨j, hj, rfl, k0, k1, kb⟩ := hrel
    obtain ⟨p0, -, -, p3⟩ := cells4 k0
    have t3 : wrap64 (3 * (s.C.length : Int)) = ((3 * s.C.length : Nat) : Int) := by unfold wrap64; omega
    by_cases q : j < 3 * s.C.length
    · have d0 : decide ((j : Int) < ((3 * s.C.length : Nat) : Int)) = true := by simp only [decide_eq_true_eq]; omega
      have t8 : wrap64 (8 + (j : Int)) = ((8 + j : Nat) : Int) := by unfold wrap64; omega
      have t1 : wrap64 ((j : Int) + 1) = ((j + 1 : Nat) : Int) := by unfold wrap64; omega
      have hlt : 8 + j < s.M.W.length := by omega
      obtain ⟨bW, oW, rfl, hbW, hat⟩ := (hW.step kb) (by omega)
      have cW := hat (8 + j) (s.M.W.getD (8 + j) 0) (by simp [List.getD, List.getElem?_eq_getElem hlt])
      obtain ⟨v, hv⟩ : ∃ v, v = s.M.W.getD (8 + j) 0 := ⟨_, rfl⟩
      rw [← hv] at cW
      have HN := hid (show pNamedTo s.M (j + 1) = pNote (pNamedTo s.M j) v by rw [hv]; rfl)
      have HL := hid (pNamedTo_len s.M j)
      clear hat hv
      by_cases q1 : 0 < v
      · by_cases q2 : v < (s.M.G.length : Int)
        · obtain ⟨k, rfl⟩ : ∃ k : Nat, v = (k : Int) := ⟨v.toNat, by omega⟩
          have d1 : decide ((0 : Int) < (k : Int)) = true := by simpa using q1
          have d2 : decide ((k : Int) < (s.M.G.length : Int)) = true := by simpa using q2
          have hkl : k < s.M.G.length := by omega
          have v2 : wr.cell? ⟨w.heap.size + 1, k, none⟩ = some (.bool ((pNamedTo s.M j).getD k false)) := cell_of_bools k1 (by rw [HL.out]; exact hkl)
          have v3 : wr.frozen? ⟨w.heap.size + 1, k, none⟩ = false := frozen_of_row _ _ k _ _ k1
          have t : Turn (fun x => x = w.heap.size + 1) wr (wr.setCell ⟨w.heap.size + 1, k, none⟩ (.bool true)) := Turn.set (p := fun x => x = w.heap.size + 1) (Turn.refl _ _) rfl _ _
          have hz := (Array.getElem?_eq_some_iff.1 k1).1
          have n0 := (t.block w.heap.size (by omega) (by omega)).trans k0
          have n1 : (wr.setCell ⟨w.heap.size + 1, k, none⟩ (.bool true)).heap[w.heap.size + 1]? = some (.cells ((pNamedTo s.M (j + 1)).map Value.bool).toArray 4 (0, 0)) := by
            rw [heap_setCell_same wr (w.heap.size + 1) k _ _ (.bool true) k1, HN.out, note_yes (by omega) (by rw [HL.out]; exact hkl)]
            congr 2
            simp
          have nb := kb.trans (t.to_below kb.size (fun g hg => by omega))
          clear t
          go_wp2
          go_roundw
          case rel => exact ⟨j + 1, by omega, rfl, n0, n1, nb⟩
          case measure => simp [intOf]; omega
        · have d1 : decide ((0 : Int) < v) = true := by simpa using q1
          have d2 : decide (v < (s.M.G.length : Int)) = false := by simp; omega
          have n1 : wr.heap[w.heap.size + 1]? = some (.cells ((pNamedTo s.M (j + 1)).map Value.bool).toArray 4 (0, 0)) := by rw [HN.out, note_no (by rw [HL.out]; omega)]; exact k1
          go_wp2
          go_roundw
          case rel => exact ⟨j + 1, by omega, rfl, k0, n1, kb⟩
          case measure => simp [intOf]; omega
      · have d1 : decide ((0 : Int) < v) = false := by simp; omega
        have n1 : wr.heap[w.heap.size + 1]? = some (.cells ((pNamedTo s.M (j + 1)).map Value.bool).toArray 4 (0, 0)) := by rw [HN.out, note_no (by omega)]; exact k1
        go_wp2
        go_roundw
        case rel => exact ⟨j + 1, by omega, rfl, k0, n1, kb⟩
        case measure => simp [intOf]; omega
    · have d0 : decide ((j : Int) < ((3 * s.C.length : Nat) : Int)) = false := by simp only [decide_eq_false_iff_not]; omega
      have hje : j = 3 * s.C.length := by omega
      go_wp2
      go_ret
      rw [hje] at k1
      exact ⟨_, rfl, k1, by omega, kb⟩

set_option maxRecDepth 100000 in
set_option maxHeartbeats 4000000 in
theorem rflags_any (g1 g2 c1 c2 : Nat) (l : List Bool) (w : World) (h1 : w.heap[g1]? = some (.cells (l.map Value.bool).toArray 4 (0, 0))) (h2 : w.heap[g2]? = some (.cells (l.map Value.bool).toArray 4 (0, 0))) (hl : l.length ≤ 1000000) :
    Calls Try.prog 13 #[.slice (some ⟨g1, 0, none⟩) l.length c1, .slice (some ⟨g2, 0, none⟩) l.length c2] w fun e w' => e = .returned (.bool true) ∧ Below w.heap.size w w' := by
  have z1 := (Array.getElem?_eq_some_iff.1 h1).1
  have z2 := (Array.getElem?_eq_some_iff.1 h2).1
  have hll : (l.length : Int) ≤ 1000000 := by omega
  go_enter Try.func13, Try.ntmps13
  go_wp2
  go_loopw [5] (fun i wr => ∃ j : Nat, j ≤ l.length ∧ i = .int .i64 (j : Int) ∧ Below w.heap.size w wr) (fun i _ => l.length - (intOf i).toNat)
  case atStart => exact ⟨0, by omega, rfl, Below.refl _ _⟩
  case round =>
    obtain ⟨j, hj, rfl, kb⟩ := hrel
    by_cases q : j < l.length
    · have d0 : decide ((j : Int) < (l.length : Int)) = true := by simp only [decide_eq_true_eq]; omega
      have t1 : wrap64 ((j : Int) + 1) = ((j + 1 : Nat) : Int) := by unfold wrap64; omega
      have x1 := (kb.cell (p := ⟨g1, j, none⟩) z1).trans (cell_of_bools h1 q)
      have x2 := (kb.cell (p := ⟨g2, j, none⟩) z2).trans (cell_of_bools h2 q)
      go_wp2_with fail
      go_quiet (fail)
      go_wp2
      go_roundw
      case rel => exact ⟨j + 1, by omega, rfl, bdrewN kb _⟩
      case measure => simp [intOf]; omega
    · have d0 : decide ((j : Int) < (l.length : Int)) = false := by simp only [decide_eq_false_iff_not]; omega
      go_wp2
      go_ret
      exact ⟨rfl, kb⟩
end Go.Proofs.Ythpflcknommpdaa
