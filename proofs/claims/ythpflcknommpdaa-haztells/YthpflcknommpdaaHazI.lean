/- Contract: all slots of so many cores, one behind the other (haz.slots: an iterator). -/
import Derived.RangeFuncNested
import Derived.RangeFuncBound
import Derived.RangeFuncCalls
import Derived.RangeFuncLeaves
import Derived.Shelf.Abstract
import Derived.Shelf.RegionOpen
import Derived.WalkKit
import Derived.OwnWalkIn
import Derived.TacticsInMore
import Derived.LoopNIn
import Derived.LoopIn
import Derived.Test.YthpflcknommpdaaKMeA
namespace Go.Proofs.Ythpflcknommpdaa
open Go.RowKit Go.Shelf
set_option linter.unusedVariables false
set_option linter.unusedSimpArgs false
attribute [local go_sem] Oper.semAt_some

/-- The first k slots: core and number. -/
def prs (k : Nat) : List (Int × Int) := (List.range k).map (fun j => (((j / 3 : Nat) : Int), ((j % 3 : Nat) : Int)))
theorem prs_succ (i k : Nat) (hk : k < 3) : prs (3 * i + k) ++ [((i : Int), (k : Int))] = prs (3 * i + k + 1) := by
  unfold prs
  have h1 : (3 * i + k) / 3 = i := by omega
  have h2 : (3 * i + k) % 3 = k := by omega
  rw [List.range_succ, List.map_append, List.map_cons, h1, h2]
  rfl
theorem prs_len (k : Nat) : (prs k).length = k := by simp [prs]
abbrev encs2 (p : Int × Int) : Array Value := #[.int .i64 p.1, .int .i64 p.2]

theorem slots_w (n : Int) (w : World) : Calls Try.prog 37 #[.int .i64 n] w fun e w' => e = .returned (.func (.func 70) #[] #[.pointer (some ⟨w.heap.size, 0, none⟩)]) ∧ w' = w.alloc (.cells #[.int .i64 n] 3) := by
  go_enter Try.func37, Try.ntmps37
  go_wp2
  go_ret
  exact ⟨rfl, rfl⟩

set_option maxRecDepth 100000 in
set_option maxHeartbeats 2000000 in
theorem slots_stops (F : Fence) (n : Nat) (h79 : F.fn 70) (hro : F.round = none) (hn : 1 ≤ n) (b c : Nat) (hc : c ≤ 1000000000) (w : World) (hB : w.cell? ⟨b, 0, none⟩ = some (.int .i64 c)) (hb : b < w.heap.size) :
    SeqStopsA F n Try.prog 70 #[.pointer (some ⟨b, 0, none⟩)] encs2 (fun xs => xs = prs (3 * c)) (fun _ => True) (3 * c) w := fun l J Jx W hW _ _ hY h0 => by
  have hB' : W.cell? ⟨b, 0, none⟩ = some (.int .i64 c) := (hW.cell (p := ⟨b, 0, none⟩) hb).trans hB
  refine callsIn_of_wp Try.func70 rfl h79 ?_ hro
  simp only [Try.ntmps70, List.size_toArray, List.length_cons, List.length_nil, Nat.reduceAdd, Nat.reduceSub, Array.replicate_succ, Array.replicate_zero, List.push_toArray, List.append_toArray, List.nil_append, List.cons_append]
  gi_wp2
  clear hB hB' hW
  gi_loopw [6] (fun p wr => ∃ i : Nat, p = .int .i64 (i : Int) ∧ i ≤ c ∧ J (prs (3 * i)) wr) (fun p _ => c - (intOf p).toNat)
  case atStart => exact ⟨0, rfl, by omega, h0⟩
  case round =>
    obtain ⟨i, rfl, hi, hJ⟩ := hrel
    by_cases q : i < c
    · have hd : decide ((i : Int) < (c : Int)) = true := by simpa using q
      gi_wp2
      gi_loopw [9] (fun p wr => ∃ k : Nat, p = .int .i64 (k : Int) ∧ k ≤ 3 ∧ J (prs (3 * i + k)) wr) (fun p _ => 3 - (intOf p).toNat)
      case atStart => exact ⟨0, rfl, by omega, hJ⟩
      case round =>
        obtain ⟨k, rfl, hk, hJk⟩ := hrel
        by_cases q2 : k < 3
        · have hd2 : decide ((k : Int) < 3) = true := by simp; omega
          obtain ⟨fn, tmps, assign, body, hy, hR⟩ := hY _ ((i : Int), (k : Int)) _ hJk (by rw [prs_len]; omega)
          dsimp only [encs2] at hy
          gi_wp2
          refine hR.mono ?_
          rintro e W3 (⟨rfl, hJ3, hk3⟩ | ⟨rfl, hJx3⟩)
          · have hw : wrap64 ((k : Int) + 1) = ((k + 1 : Nat) : Int) := by unfold wrap64; omega
            gi_wp2
            refine ⟨⟨k + 1, rfl, by omega, ?_⟩, by simp only [intOf]; omega⟩
            rw [prs_succ i k q2] at hJ3
            exact hJ3
          · gi_wp2
            refine bodyPost_ret (results_none rfl _ _ _) rfl ?_
            exact ⟨⟨_, rfl⟩, .inr ⟨_, trivial, hJx3⟩⟩
        · have hd2 : decide ((k : Int) < 3) = false := by simp; omega
          gi_wp2
          obtain rfl : k = 3 := by omega
          exact ⟨⟨i + 1, rfl, by omega, hJk⟩, by simp only [intOf]; omega⟩
    · have hd : decide ((i : Int) < (c : Int)) = false := by simp; omega
      gi_wp2
      go_end0
      exact ⟨⟨_, rfl⟩, .inl ⟨_, by rw [show c = i by omega], hJ⟩⟩
end Go.Proofs.Ythpflcknommpdaa
