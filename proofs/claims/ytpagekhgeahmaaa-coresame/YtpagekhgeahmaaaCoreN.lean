/- Contracts: new systems, by the program and by the document. -/
import Derived.Test.YtpagekhgeahmaaaNoInt
import Derived.Test.YtpagekhgeahmaaaCopy4
import Derived.Test.YtpagekhgeahmaaaMemB
namespace Go.Proofs.Ytpagekhgeahmaaa
open Go.RowKit
set_option linter.unusedVariables false
set_option linter.unusedSimpArgs false

def coZero : Co := ⟨[], 0, 0, 0, 0, 0, []⟩
def syNew (k n : Nat) : Sy := ⟨mNew n, List.replicate k coZero, []⟩
def syNone : Sy := ⟨mNone, [], []⟩

/-- A system and something besides are returned. -/
def RetSys2 (w : World) (s : Sy) (x : Value) (e : Ending) (w' : World) : Prop :=
  ∃ (A B AC AL : Option Addr) (c d cC cL : Nat), e = .returned (.tuple #[.agg #[.slice A s.M.W.length c, .slice B s.M.G.length d, .bool s.M.bad, .slice AC s.C.length cC, .slice AL s.L.length cL], x]) ∧
    Row w' A s.M.W ∧ Row w' B s.M.G ∧ RowC w' AC s.C ∧ RowE w' AL s.L ∧ Below w.heap.size w w'

/-- make([]api.Core, n), in any world. -/
theorem make_cores (k : Nat) (hk : k ≤ 1000) (w : World) :
    (Instr.makeSlice 25 (.int .i64 (k : Int)) (.int .i64 (k : Int))).run Try.prog w = .ok (.slice (some ⟨w.heap.size, 0, none⟩) k k) (w.alloc (.cells (madeCells #[.slice none 0 0, .int .i64 0, .int .i64 0, .int .i64 0, .int .i64 0, .int .i64 0, .slice none 0 0] (k * 7)) 65)) := by
  obtain ⟨i0, hi0, hz0, hz1, hz2⟩ := info_parts infoCo
  have hr := run_make (P := Try.prog) w 25 65 i0 _ Try.underlying25 hi0 hz0 .i64 .i64 k k (by omega) (by omega) (by rw [hz2]; omega) (by omega)
  simp only [Int.toNat_natCast, hz1] at hr
  exact hr

theorem made_rowC (w : World) (k : Nat) : RowC (w.alloc (.cells (madeCells #[.slice none 0 0, .int .i64 0, .int .i64 0, .int .i64 0, .int .i64 0, .int .i64 0, .slice none 0 0] (k * 7)) 65)) (some ⟨w.heap.size, 0, none⟩) (List.replicate k coZero) := fun hn => by
  refine ⟨_, _, rfl, by simp, fun j x hx => ?_⟩
  rw [List.getElem?_replicate] at hx
  split at hx
  · rename_i hj
    injection hx with hx
    subst hx
    refine CoAt.mk (AF := none) (AR := none) (cF := 0) (cR := 0) (fun r v hv => ?_) (fun h => absurd h (by simp [coZero])) (Row.nil _ _) (by simp [coZero])
    have hr : r < 7 := (List.getElem?_eq_some_iff.1 hv).1
    rw [cell_of_row _ _ _ _ _ _ (heap_alloc_new w _)]
    have hlt : 0 + j * 7 + r < k * 7 := by omega
    have hmod : (0 + j * 7 + r) % 7 = r := by omega
    have hrg : (Array.range (k * 7))[0 + j * 7 + r]? = some (0 + j * 7 + r) := by
      rw [Array.getElem?_eq_getElem (by simpa using hlt)]
      simp
    unfold madeCells
    rw [Array.getElem?_map, hrg]
    show some ((#[.slice none 0 0, .int .i64 0, .int .i64 0, .int .i64 0, .int .i64 0, .int .i64 0, .slice none 0 0] : Array Value)[(0 + j * 7 + r) % 7]!) = some v
    rw [hmod]
    match r, hr, hv with
    | 0, _, hv => exact hv
    | 1, _, hv => exact hv
    | 2, _, hv => exact hv
    | 3, _, hv => exact hv
    | 4, _, hv => exact hv
    | 5, _, hv => exact hv
    | 6, _, hv => exact hv
  · cases hx

set_option maxRecDepth 100000 in
set_option maxHeartbeats 4000000 in
theorem snew_nodes (k n : Int) (w : World) (hn : n < 1 ∨ 200 < n) : Calls Try.prog 17 #[.int .i64 k, .int .i64 n] w (RetSys2 w syNone (.int .i64 1)) := by
  have b1 := heap_alloc_new w (.cells #[.slice none 0 0, .slice none 0 0, .bool false, .slice none 0 0, .slice none 0 0] 28)
  have hb : Below w.heap.size w (w.alloc (.cells #[.slice none 0 0, .slice none 0 0, .bool false, .slice none 0 0, .slice none 0 0] 28)) := boxed _ _
  have s1 : w.heap.size < (w.alloc (.cells #[.slice none 0 0, .slice none 0 0, .bool false, .slice none 0 0, .slice none 0 0] 28)).heap.size := by simp
  go_enter Try.func17, Try.ntmps17
  go_wp2_with fail
  generalize (w.alloc (.cells #[.slice none 0 0, .slice none 0 0, .bool false, .slice none 0 0, .slice none 0 0] 28)) = w1 at *
  refine (new_no n _ hn).mono ?_
  rintro e w2 ⟨A1, B1, c1, d1, rfl, _, _, hk⟩
  replace b1 := (hk.block w.heap.size s1).trans b1
  replace hb := bstep hb hk
  replace s1 := Nat.lt_of_lt_of_le s1 hk.size
  clear hk
  go_upto_region 2 with (fail)
  replace b1 := (Below.heap_alloc w2 (.cells #[.slice A1 (mNone).W.length c1, .slice B1 (mNone).G.length d1, .bool (mNone).bad] 24) _ s1).trans b1
  have s2 : w2.heap.size < (w2.alloc (.cells #[.slice A1 (mNone).W.length c1, .slice B1 (mNone).G.length d1, .bool (mNone).bad] 24)).heap.size := by simp
  have bm := heap_alloc_new w2 (.cells #[.slice A1 (mNone).W.length c1, .slice B1 (mNone).G.length d1, .bool (mNone).bad] 24)
  replace hb := bstep hb (boxed w2 (.cells #[.slice A1 (mNone).W.length c1, .slice B1 (mNone).G.length d1, .bool (mNone).bad] 24))
  generalize (w2.alloc (.cells #[.slice A1 (mNone).W.length c1, .slice B1 (mNone).G.length d1, .bool (mNone).bad] 24)) = w3 at *
  clear bm
  have q0 : w3.cell? ⟨w.heap.size, 0, none⟩ = some (.slice none 0 0) := cell_of_row w3 _ 0 _ _ _ b1
  have q1 : w3.cell? ⟨w.heap.size, 1, none⟩ = some (.slice none 0 0) := cell_of_row w3 _ 1 _ _ _ b1
  have q2 : w3.cell? ⟨w.heap.size, 2, none⟩ = some (.bool false) := cell_of_row w3 _ 2 _ _ _ b1
  have q3 : w3.cell? ⟨w.heap.size, 3, none⟩ = some (.slice none 0 0) := cell_of_row w3 _ 3 _ _ _ b1
  have q4 : w3.cell? ⟨w.heap.size, 4, none⟩ = some (.slice none 0 0) := cell_of_row w3 _ 4 _ _ _ b1
  have qf0 : w3.frozen? ⟨w.heap.size, 0, none⟩ = false := frozen_of_row w3 _ 0 _ _ b1
  have qf1 : w3.frozen? ⟨w.heap.size, 1, none⟩ = false := frozen_of_row w3 _ 1 _ _ b1
  have qf2 : w3.frozen? ⟨w.heap.size, 2, none⟩ = false := frozen_of_row w3 _ 2 _ _ b1
  have qf3 : w3.frozen? ⟨w.heap.size, 3, none⟩ = false := frozen_of_row w3 _ 3 _ _ b1
  have qf4 : w3.frozen? ⟨w.heap.size, 4, none⟩ = false := frozen_of_row w3 _ 4 _ _ b1
  clear b1
  go_wp2
  refine bodyPost_ret (v := .tuple #[.agg #[.slice none 0 0, .slice none 0 0, .bool false, .slice none 0 0, .slice none 0 0], .int .i64 1]) (by simp [results, Try.results17, go_sem, q0, q1, q2, q3, q4]) rfl ?_
  have key : ∀ w', Turn (fun b => b = w.heap.size) w3 w' → RetSys2 w syNone (.int .i64 1) (.returned (.tuple #[.agg #[.slice none 0 0, .slice none 0 0, .bool false, .slice none 0 0, .slice none 0 0], .int .i64 1])) w' := fun w' hT => ⟨none, none, none, none, 0, 0, 0, 0, rfl, Row.nil _ _, Row.nil _ _, fun h => absurd h (by simp [syNone]), fun h => absurd h (by simp [syNone]), hb.trans (hT.to_below hb.size (fun g hg => by omega))⟩
  exact key _ (turn5 _ _ _ _ _ _ _)

set_option maxRecDepth 100000 in
set_option maxHeartbeats 4000000 in
theorem snew_cores (k : Int) (n : Nat) (w : World) (hn1 : 1 ≤ n) (hn2 : n ≤ 200) (hk2 : k < 1 ∨ 8 < k) : Calls Try.prog 17 #[.int .i64 k, .int .i64 n] w (RetSys2 w syNone (.int .i64 1)) := by
  have b1 := heap_alloc_new w (.cells #[.slice none 0 0, .slice none 0 0, .bool false, .slice none 0 0, .slice none 0 0] 28)
  have hb : Below w.heap.size w (w.alloc (.cells #[.slice none 0 0, .slice none 0 0, .bool false, .slice none 0 0, .slice none 0 0] 28)) := boxed _ _
  have s1 : w.heap.size < (w.alloc (.cells #[.slice none 0 0, .slice none 0 0, .bool false, .slice none 0 0, .slice none 0 0] 28)).heap.size := by simp
  go_enter Try.func17, Try.ntmps17
  go_wp2_with fail
  generalize (w.alloc (.cells #[.slice none 0 0, .slice none 0 0, .bool false, .slice none 0 0, .slice none 0 0] 28)) = w1 at *
  refine (new_yes n _ hn1 hn2).mono ?_
  rintro e w2 ⟨A1, B1, c1, d1, rfl, _, _, hk⟩
  replace b1 := (hk.block w.heap.size s1).trans b1
  replace hb := bstep hb hk
  replace s1 := Nat.lt_of_lt_of_le s1 hk.size
  clear hk
  go_upto_region 2 with (fail)
  replace b1 := (Below.heap_alloc w2 (.cells #[.slice A1 (mNew n).W.length c1, .slice B1 (mNew n).G.length d1, .bool (mNew n).bad] 24) _ s1).trans b1
  have s2 : w2.heap.size < (w2.alloc (.cells #[.slice A1 (mNew n).W.length c1, .slice B1 (mNew n).G.length d1, .bool (mNew n).bad] 24)).heap.size := by simp
  have bm := heap_alloc_new w2 (.cells #[.slice A1 (mNew n).W.length c1, .slice B1 (mNew n).G.length d1, .bool (mNew n).bad] 24)
  replace hb := bstep hb (boxed w2 (.cells #[.slice A1 (mNew n).W.length c1, .slice B1 (mNew n).G.length d1, .bool (mNew n).bad] 24))
  generalize (w2.alloc (.cells #[.slice A1 (mNew n).W.length c1, .slice B1 (mNew n).G.length d1, .bool (mNew n).bad] 24)) = w3 at *
  clear bm
  rcases hk2 with hk2 | hk2
  · have q0 : w3.cell? ⟨w.heap.size, 0, none⟩ = some (.slice none 0 0) := cell_of_row w3 _ 0 _ _ _ b1
    have q1 : w3.cell? ⟨w.heap.size, 1, none⟩ = some (.slice none 0 0) := cell_of_row w3 _ 1 _ _ _ b1
    have q2 : w3.cell? ⟨w.heap.size, 2, none⟩ = some (.bool false) := cell_of_row w3 _ 2 _ _ _ b1
    have q3 : w3.cell? ⟨w.heap.size, 3, none⟩ = some (.slice none 0 0) := cell_of_row w3 _ 3 _ _ _ b1
    have q4 : w3.cell? ⟨w.heap.size, 4, none⟩ = some (.slice none 0 0) := cell_of_row w3 _ 4 _ _ _ b1
    have qf0 : w3.frozen? ⟨w.heap.size, 0, none⟩ = false := frozen_of_row w3 _ 0 _ _ b1
    have qf1 : w3.frozen? ⟨w.heap.size, 1, none⟩ = false := frozen_of_row w3 _ 1 _ _ b1
    have qf2 : w3.frozen? ⟨w.heap.size, 2, none⟩ = false := frozen_of_row w3 _ 2 _ _ b1
    have qf3 : w3.frozen? ⟨w.heap.size, 3, none⟩ = false := frozen_of_row w3 _ 3 _ _ b1
    have qf4 : w3.frozen? ⟨w.heap.size, 4, none⟩ = false := frozen_of_row w3 _ 4 _ _ b1
    clear b1
    go_wp2
    refine bodyPost_ret (v := .tuple #[.agg #[.slice none 0 0, .slice none 0 0, .bool false, .slice none 0 0, .slice none 0 0], .int .i64 1]) (by simp [results, Try.results17, go_sem, q0, q1, q2, q3, q4]) rfl ?_
    have key : ∀ w', Turn (fun b => b = w.heap.size) w3 w' → RetSys2 w syNone (.int .i64 1) (.returned (.tuple #[.agg #[.slice none 0 0, .slice none 0 0, .bool false, .slice none 0 0, .slice none 0 0], .int .i64 1])) w' := fun w' hT => ⟨none, none, none, none, 0, 0, 0, 0, rfl, Row.nil _ _, Row.nil _ _, fun h => absurd h (by simp [syNone]), fun h => absurd h (by simp [syNone]), hb.trans (hT.to_below hb.size (fun g hg => by omega))⟩
    exact key _ (turn5 _ _ _ _ _ _ _)
  · have hk3 : ¬ k < 1 := by omega
    have q0 : w3.cell? ⟨w.heap.size, 0, none⟩ = some (.slice none 0 0) := cell_of_row w3 _ 0 _ _ _ b1
    have q1 : w3.cell? ⟨w.heap.size, 1, none⟩ = some (.slice none 0 0) := cell_of_row w3 _ 1 _ _ _ b1
    have q2 : w3.cell? ⟨w.heap.size, 2, none⟩ = some (.bool false) := cell_of_row w3 _ 2 _ _ _ b1
    have q3 : w3.cell? ⟨w.heap.size, 3, none⟩ = some (.slice none 0 0) := cell_of_row w3 _ 3 _ _ _ b1
    have q4 : w3.cell? ⟨w.heap.size, 4, none⟩ = some (.slice none 0 0) := cell_of_row w3 _ 4 _ _ _ b1
    have qf0 : w3.frozen? ⟨w.heap.size, 0, none⟩ = false := frozen_of_row w3 _ 0 _ _ b1
    have qf1 : w3.frozen? ⟨w.heap.size, 1, none⟩ = false := frozen_of_row w3 _ 1 _ _ b1
    have qf2 : w3.frozen? ⟨w.heap.size, 2, none⟩ = false := frozen_of_row w3 _ 2 _ _ b1
    have qf3 : w3.frozen? ⟨w.heap.size, 3, none⟩ = false := frozen_of_row w3 _ 3 _ _ b1
    have qf4 : w3.frozen? ⟨w.heap.size, 4, none⟩ = false := frozen_of_row w3 _ 4 _ _ b1
    clear b1
    go_wp2
    refine bodyPost_ret (v := .tuple #[.agg #[.slice none 0 0, .slice none 0 0, .bool false, .slice none 0 0, .slice none 0 0], .int .i64 1]) (by simp [results, Try.results17, go_sem, q0, q1, q2, q3, q4]) rfl ?_
    have key : ∀ w', Turn (fun b => b = w.heap.size) w3 w' → RetSys2 w syNone (.int .i64 1) (.returned (.tuple #[.agg #[.slice none 0 0, .slice none 0 0, .bool false, .slice none 0 0, .slice none 0 0], .int .i64 1])) w' := fun w' hT => ⟨none, none, none, none, 0, 0, 0, 0, rfl, Row.nil _ _, Row.nil _ _, fun h => absurd h (by simp [syNone]), fun h => absurd h (by simp [syNone]), hb.trans (hT.to_below hb.size (fun g hg => by omega))⟩
    exact key _ (turn5 _ _ _ _ _ _ _)

set_option maxRecDepth 100000 in
set_option maxHeartbeats 4000000 in
theorem snew_yes (k n : Nat) (w : World) (hn1 : 1 ≤ n) (hn2 : n ≤ 200) (hk1 : 1 ≤ k) (hk2 : k ≤ 8) : Calls Try.prog 17 #[.int .i64 k, .int .i64 n] w (RetSys2 w (syNew k n) (.int .i64 0)) := by
  have hmk := make_cores k (by omega)
  have kk1 : ¬ ((k : Int) < 1) := by omega
  have kk2 : ¬ ((8 : Int) < k) := by omega
  have b1 := heap_alloc_new w (.cells #[.slice none 0 0, .slice none 0 0, .bool false, .slice none 0 0, .slice none 0 0] 28)
  have hb : Below w.heap.size w (w.alloc (.cells #[.slice none 0 0, .slice none 0 0, .bool false, .slice none 0 0, .slice none 0 0] 28)) := boxed _ _
  have s1 : w.heap.size < (w.alloc (.cells #[.slice none 0 0, .slice none 0 0, .bool false, .slice none 0 0, .slice none 0 0] 28)).heap.size := by simp
  go_enter Try.func17, Try.ntmps17
  go_wp2_with fail
  generalize (w.alloc (.cells #[.slice none 0 0, .slice none 0 0, .bool false, .slice none 0 0, .slice none 0 0] 28)) = w1 at *
  refine (new_yes n _ hn1 hn2).mono ?_
  rintro e w2 ⟨A1, B1, c1, d1, rfl, rW, rG, hk⟩
  replace b1 := (hk.block w.heap.size s1).trans b1
  replace hb := bstep hb hk
  replace s1 := Nat.lt_of_lt_of_le s1 hk.size
  clear hk
  go_upto_region 2 with (fail)
  replace b1 := (Below.heap_alloc w2 (.cells #[.slice A1 (mNew n).W.length c1, .slice B1 (mNew n).G.length d1, .bool (mNew n).bad] 24) _ s1).trans b1
  have s2 : w2.heap.size < (w2.alloc (.cells #[.slice A1 (mNew n).W.length c1, .slice B1 (mNew n).G.length d1, .bool (mNew n).bad] 24)).heap.size := by simp
  have bm := heap_alloc_new w2 (.cells #[.slice A1 (mNew n).W.length c1, .slice B1 (mNew n).G.length d1, .bool (mNew n).bad] 24)
  replace hb := bstep hb (boxed w2 (.cells #[.slice A1 (mNew n).W.length c1, .slice B1 (mNew n).G.length d1, .bool (mNew n).bad] 24))
  replace rW := rW.step (boxed w2 (.cells #[.slice A1 (mNew n).W.length c1, .slice B1 (mNew n).G.length d1, .bool (mNew n).bad] 24))
  replace rG := rG.step (boxed w2 (.cells #[.slice A1 (mNew n).W.length c1, .slice B1 (mNew n).G.length d1, .bool (mNew n).bad] 24))
  obtain ⟨y, hy⟩ : ∃ y, w2.heap.size = y := ⟨_, rfl⟩
  generalize (w2.alloc (.cells #[.slice A1 (mNew n).W.length c1, .slice B1 (mNew n).G.length d1, .bool (mNew n).bad] 24)) = w3 at *
  rw [hy] at bm s2 s1 ⊢
  clear hy
  have q0 : w3.cell? ⟨w.heap.size, 0, none⟩ = some (.slice none 0 0) := cell_of_row w3 _ 0 _ _ _ b1
  have q1 : w3.cell? ⟨w.heap.size, 1, none⟩ = some (.slice none 0 0) := cell_of_row w3 _ 1 _ _ _ b1
  have q2 : w3.cell? ⟨w.heap.size, 2, none⟩ = some (.bool false) := cell_of_row w3 _ 2 _ _ _ b1
  have q3 : w3.cell? ⟨w.heap.size, 3, none⟩ = some (.slice none 0 0) := cell_of_row w3 _ 3 _ _ _ b1
  have q4 : w3.cell? ⟨w.heap.size, 4, none⟩ = some (.slice none 0 0) := cell_of_row w3 _ 4 _ _ _ b1
  have qf0 : w3.frozen? ⟨w.heap.size, 0, none⟩ = false := frozen_of_row w3 _ 0 _ _ b1
  have qf1 : w3.frozen? ⟨w.heap.size, 1, none⟩ = false := frozen_of_row w3 _ 1 _ _ b1
  have qf2 : w3.frozen? ⟨w.heap.size, 2, none⟩ = false := frozen_of_row w3 _ 2 _ _ b1
  have qf3 : w3.frozen? ⟨w.heap.size, 3, none⟩ = false := frozen_of_row w3 _ 3 _ _ b1
  have qf4 : w3.frozen? ⟨w.heap.size, 4, none⟩ = false := frozen_of_row w3 _ 4 _ _ b1
  have m0 : w3.cell? ⟨y, 0, none⟩ = some (.slice A1 (mNew n).W.length c1) := cell_of_row w3 _ 0 _ _ _ bm
  have m1 : w3.cell? ⟨y, 1, none⟩ = some (.slice B1 (mNew n).G.length d1) := cell_of_row w3 _ 1 _ _ _ bm
  have m2 : w3.cell? ⟨y, 2, none⟩ = some (.bool (mNew n).bad) := cell_of_row w3 _ 2 _ _ _ bm
  have NI := hid (noInt_sys b1)
  have s3 : w.heap.size < w3.heap.size := by omega
  have hne : w.heap.size ≠ w3.heap.size := by omega
  clear b1 bm
  go_wp2
  go_region
  all_goals go_wp2_with fail
  all_goals refine bodyPost_ret (v := .tuple #[.agg #[.slice A1 (mNew n).W.length c1, .slice B1 (mNew n).G.length d1, .bool (mNew n).bad, .slice (some ⟨w3.heap.size, 0, none⟩) k k, .slice none 0 0], .int .i64 0]) (by simp [results, Try.results17, go_sem, hne, s3, q0, q1, q2, q3, q4]) rfl ?_
  all_goals
    have t5 := turn5 w3 w.heap.size (.slice A1 (mNew n).W.length c1) (.slice B1 (mNew n).G.length d1) (.bool (mNew n).bad) (.slice (some ⟨w3.heap.size, 0, none⟩) k k) (.slice none 0 0)
    have e5 : (((((w3.setCell ⟨w.heap.size, 0, none⟩ (.slice A1 (mNew n).W.length c1)).setCell ⟨w.heap.size, 1, none⟩ (.slice B1 (mNew n).G.length d1)).setCell ⟨w.heap.size, 2, none⟩ (.bool (mNew n).bad)).setCell ⟨w.heap.size, 3, none⟩ (.slice (some ⟨w3.heap.size, 0, none⟩) k k)).setCell ⟨w.heap.size, 4, none⟩ (.slice none 0 0)).heap.size = w3.heap.size := by simp [World.setCell]
    have rC := made_rowC (((((w3.setCell ⟨w.heap.size, 0, none⟩ (.slice A1 (mNew n).W.length c1)).setCell ⟨w.heap.size, 1, none⟩ (.slice B1 (mNew n).G.length d1)).setCell ⟨w.heap.size, 2, none⟩ (.bool (mNew n).bad)).setCell ⟨w.heap.size, 3, none⟩ (.slice (some ⟨w3.heap.size, 0, none⟩) k k)).setCell ⟨w.heap.size, 4, none⟩ (.slice none 0 0)) k
    rw [e5] at rC
    have hb5 : Below w.heap.size w (((((w3.setCell ⟨w.heap.size, 0, none⟩ (.slice A1 (mNew n).W.length c1)).setCell ⟨w.heap.size, 1, none⟩ (.slice B1 (mNew n).G.length d1)).setCell ⟨w.heap.size, 2, none⟩ (.bool (mNew n).bad)).setCell ⟨w.heap.size, 3, none⟩ (.slice (some ⟨w3.heap.size, 0, none⟩) k k)).setCell ⟨w.heap.size, 4, none⟩ (.slice none 0 0)) := hb.trans (t5.to_below hb.size (fun g hg => by omega))
    have bA := (boxed (((((w3.setCell ⟨w.heap.size, 0, none⟩ (.slice A1 (mNew n).W.length c1)).setCell ⟨w.heap.size, 1, none⟩ (.slice B1 (mNew n).G.length d1)).setCell ⟨w.heap.size, 2, none⟩ (.bool (mNew n).bad)).setCell ⟨w.heap.size, 3, none⟩ (.slice (some ⟨w3.heap.size, 0, none⟩) k k)).setCell ⟨w.heap.size, 4, none⟩ (.slice none 0 0)) (.cells (madeCells #[.slice none 0 0, .int .i64 0, .int .i64 0, .int .i64 0, .int .i64 0, .int .i64 0, .slice none 0 0] (k * 7)) 65)).drew
    refine ⟨A1, B1, some ⟨w3.heap.size, 0, none⟩, none, c1, d1, k, 0, ?_, (rW.turnN t5 NI.out).step bA, (rG.turnN t5 NI.out).step bA, rC.step ((Below.refl _ _).drew), fun h => absurd h (by simp [syNew]), bstep hb5 bA⟩
    simp [syNew]

set_option maxRecDepth 100000 in
set_option maxHeartbeats 4000000 in
theorem rsnew_nodes (k n : Int) (w : World) (hn : n < 1 ∨ 200 < n) : Calls Try.prog 18 #[.int .i64 k, .int .i64 n] w (RetSys2 w syNone (.int .i64 1)) := by
  have b1 := heap_alloc_new w (.cells #[.slice none 0 0, .slice none 0 0, .bool false, .slice none 0 0, .slice none 0 0] 28)
  have hb : Below w.heap.size w (w.alloc (.cells #[.slice none 0 0, .slice none 0 0, .bool false, .slice none 0 0, .slice none 0 0] 28)) := boxed _ _
  have s1 : w.heap.size < (w.alloc (.cells #[.slice none 0 0, .slice none 0 0, .bool false, .slice none 0 0, .slice none 0 0] 28)).heap.size := by simp
  go_enter Try.func18, Try.ntmps18
  go_wp2_with fail
  generalize (w.alloc (.cells #[.slice none 0 0, .slice none 0 0, .bool false, .slice none 0 0, .slice none 0 0] 28)) = w1 at *
  refine (rnew_no n _ hn).mono ?_
  rintro e w2 ⟨A1, B1, c1, d1, rfl, _, _, hk⟩
  replace b1 := (hk.block w.heap.size s1).trans b1
  replace hb := bstep hb hk
  replace s1 := Nat.lt_of_lt_of_le s1 hk.size
  clear hk
  go_upto_region 2 with (fail)
  replace b1 := (Below.heap_alloc w2 (.cells #[.slice A1 (mNone).W.length c1, .slice B1 (mNone).G.length d1, .bool (mNone).bad] 24) _ s1).trans b1
  have s2 : w2.heap.size < (w2.alloc (.cells #[.slice A1 (mNone).W.length c1, .slice B1 (mNone).G.length d1, .bool (mNone).bad] 24)).heap.size := by simp
  have bm := heap_alloc_new w2 (.cells #[.slice A1 (mNone).W.length c1, .slice B1 (mNone).G.length d1, .bool (mNone).bad] 24)
  replace hb := bstep hb (boxed w2 (.cells #[.slice A1 (mNone).W.length c1, .slice B1 (mNone).G.length d1, .bool (mNone).bad] 24))
  generalize (w2.alloc (.cells #[.slice A1 (mNone).W.length c1, .slice B1 (mNone).G.length d1, .bool (mNone).bad] 24)) = w3 at *
  clear bm
  have q0 : w3.cell? ⟨w.heap.size, 0, none⟩ = some (.slice none 0 0) := cell_of_row w3 _ 0 _ _ _ b1
  have q1 : w3.cell? ⟨w.heap.size, 1, none⟩ = some (.slice none 0 0) := cell_of_row w3 _ 1 _ _ _ b1
  have q2 : w3.cell? ⟨w.heap.size, 2, none⟩ = some (.bool false) := cell_of_row w3 _ 2 _ _ _ b1
  have q3 : w3.cell? ⟨w.heap.size, 3, none⟩ = some (.slice none 0 0) := cell_of_row w3 _ 3 _ _ _ b1
  have q4 : w3.cell? ⟨w.heap.size, 4, none⟩ = some (.slice none 0 0) := cell_of_row w3 _ 4 _ _ _ b1
  have qf0 : w3.frozen? ⟨w.heap.size, 0, none⟩ = false := frozen_of_row w3 _ 0 _ _ b1
  have qf1 : w3.frozen? ⟨w.heap.size, 1, none⟩ = false := frozen_of_row w3 _ 1 _ _ b1
  have qf2 : w3.frozen? ⟨w.heap.size, 2, none⟩ = false := frozen_of_row w3 _ 2 _ _ b1
  have qf3 : w3.frozen? ⟨w.heap.size, 3, none⟩ = false := frozen_of_row w3 _ 3 _ _ b1
  have qf4 : w3.frozen? ⟨w.heap.size, 4, none⟩ = false := frozen_of_row w3 _ 4 _ _ b1
  clear b1
  go_wp2
  refine bodyPost_ret (v := .tuple #[.agg #[.slice none 0 0, .slice none 0 0, .bool false, .slice none 0 0, .slice none 0 0], .int .i64 1]) (by simp [results, Try.results18, go_sem, q0, q1, q2, q3, q4]) rfl ?_
  have key : ∀ w', Turn (fun b => b = w.heap.size) w3 w' → RetSys2 w syNone (.int .i64 1) (.returned (.tuple #[.agg #[.slice none 0 0, .slice none 0 0, .bool false, .slice none 0 0, .slice none 0 0], .int .i64 1])) w' := fun w' hT => ⟨none, none, none, none, 0, 0, 0, 0, rfl, Row.nil _ _, Row.nil _ _, fun h => absurd h (by simp [syNone]), fun h => absurd h (by simp [syNone]), hb.trans (hT.to_below hb.size (fun g hg => by omega))⟩
  exact key _ (turn5 _ _ _ _ _ _ _)

set_option maxRecDepth 100000 in
set_option maxHeartbeats 4000000 in
theorem rsnew_cores (k : Int) (n : Nat) (w : World) (hn1 : 1 ≤ n) (hn2 : n ≤ 200) (hk2 : k < 1 ∨ 8 < k) : Calls Try.prog 18 #[.int .i64 k, .int .i64 n] w (RetSys2 w syNone (.int .i64 1)) := by
  have b1 := heap_alloc_new w (.cells #[.slice none 0 0, .slice none 0 0, .bool false, .slice none 0 0, .slice none 0 0] 28)
  have hb : Below w.heap.size w (w.alloc (.cells #[.slice none 0 0, .slice none 0 0, .bool false, .slice none 0 0, .slice none 0 0] 28)) := boxed _ _
  have s1 : w.heap.size < (w.alloc (.cells #[.slice none 0 0, .slice none 0 0, .bool false, .slice none 0 0, .slice none 0 0] 28)).heap.size := by simp
  go_enter Try.func18, Try.ntmps18
  go_wp2_with fail
  generalize (w.alloc (.cells #[.slice none 0 0, .slice none 0 0, .bool false, .slice none 0 0, .slice none 0 0] 28)) = w1 at *
  refine (rnew_yes n _ hn1 hn2).mono ?_
  rintro e w2 ⟨A1, B1, c1, d1, rfl, _, _, hk⟩
  replace b1 := (hk.block w.heap.size s1).trans b1
  replace hb := bstep hb hk
  replace s1 := Nat.lt_of_lt_of_le s1 hk.size
  clear hk
  go_upto_region 2 with (fail)
  replace b1 := (Below.heap_alloc w2 (.cells #[.slice A1 (mNew n).W.length c1, .slice B1 (mNew n).G.length d1, .bool (mNew n).bad] 24) _ s1).trans b1
  have s2 : w2.heap.size < (w2.alloc (.cells #[.slice A1 (mNew n).W.length c1, .slice B1 (mNew n).G.length d1, .bool (mNew n).bad] 24)).heap.size := by simp
  have bm := heap_alloc_new w2 (.cells #[.slice A1 (mNew n).W.length c1, .slice B1 (mNew n).G.length d1, .bool (mNew n).bad] 24)
  replace hb := bstep hb (boxed w2 (.cells #[.slice A1 (mNew n).W.length c1, .slice B1 (mNew n).G.length d1, .bool (mNew n).bad] 24))
  generalize (w2.alloc (.cells #[.slice A1 (mNew n).W.length c1, .slice B1 (mNew n).G.length d1, .bool (mNew n).bad] 24)) = w3 at *
  clear bm
  rcases hk2 with hk2 | hk2
  · have q0 : w3.cell? ⟨w.heap.size, 0, none⟩ = some (.slice none 0 0) := cell_of_row w3 _ 0 _ _ _ b1
    have q1 : w3.cell? ⟨w.heap.size, 1, none⟩ = some (.slice none 0 0) := cell_of_row w3 _ 1 _ _ _ b1
    have q2 : w3.cell? ⟨w.heap.size, 2, none⟩ = some (.bool false) := cell_of_row w3 _ 2 _ _ _ b1
    have q3 : w3.cell? ⟨w.heap.size, 3, none⟩ = some (.slice none 0 0) := cell_of_row w3 _ 3 _ _ _ b1
    have q4 : w3.cell? ⟨w.heap.size, 4, none⟩ = some (.slice none 0 0) := cell_of_row w3 _ 4 _ _ _ b1
    have qf0 : w3.frozen? ⟨w.heap.size, 0, none⟩ = false := frozen_of_row w3 _ 0 _ _ b1
    have qf1 : w3.frozen? ⟨w.heap.size, 1, none⟩ = false := frozen_of_row w3 _ 1 _ _ b1
    have qf2 : w3.frozen? ⟨w.heap.size, 2, none⟩ = false := frozen_of_row w3 _ 2 _ _ b1
    have qf3 : w3.frozen? ⟨w.heap.size, 3, none⟩ = false := frozen_of_row w3 _ 3 _ _ b1
    have qf4 : w3.frozen? ⟨w.heap.size, 4, none⟩ = false := frozen_of_row w3 _ 4 _ _ b1
    clear b1
    go_wp2
    refine bodyPost_ret (v := .tuple #[.agg #[.slice none 0 0, .slice none 0 0, .bool false, .slice none 0 0, .slice none 0 0], .int .i64 1]) (by simp [results, Try.results18, go_sem, q0, q1, q2, q3, q4]) rfl ?_
    have key : ∀ w', Turn (fun b => b = w.heap.size) w3 w' → RetSys2 w syNone (.int .i64 1) (.returned (.tuple #[.agg #[.slice none 0 0, .slice none 0 0, .bool false, .slice none 0 0, .slice none 0 0], .int .i64 1])) w' := fun w' hT => ⟨none, none, none, none, 0, 0, 0, 0, rfl, Row.nil _ _, Row.nil _ _, fun h => absurd h (by simp [syNone]), fun h => absurd h (by simp [syNone]), hb.trans (hT.to_below hb.size (fun g hg => by omega))⟩
    exact key _ (turn5 _ _ _ _ _ _ _)
  · have hk3 : ¬ k < 1 := by omega
    have q0 : w3.cell? ⟨w.heap.size, 0, none⟩ = some (.slice none 0 0) := cell_of_row w3 _ 0 _ _ _ b1
    have q1 : w3.cell? ⟨w.heap.size, 1, none⟩ = some (.slice none 0 0) := cell_of_row w3 _ 1 _ _ _ b1
    have q2 : w3.cell? ⟨w.heap.size, 2, none⟩ = some (.bool false) := cell_of_row w3 _ 2 _ _ _ b1
    have q3 : w3.cell? ⟨w.heap.size, 3, none⟩ = some (.slice none 0 0) := cell_of_row w3 _ 3 _ _ _ b1
    have q4 : w3.cell? ⟨w.heap.size, 4, none⟩ = some (.slice none 0 0) := cell_of_row w3 _ 4 _ _ _ b1
    have qf0 : w3.frozen? ⟨w.heap.size, 0, none⟩ = false := frozen_of_row w3 _ 0 _ _ b1
    have qf1 : w3.frozen? ⟨w.heap.size, 1, none⟩ = false := frozen_of_row w3 _ 1 _ _ b1
    have qf2 : w3.frozen? ⟨w.heap.size, 2, none⟩ = false := frozen_of_row w3 _ 2 _ _ b1
    have qf3 : w3.frozen? ⟨w.heap.size, 3, none⟩ = false := frozen_of_row w3 _ 3 _ _ b1
    have qf4 : w3.frozen? ⟨w.heap.size, 4, none⟩ = false := frozen_of_row w3 _ 4 _ _ b1
    clear b1
    go_wp2
    refine bodyPost_ret (v := .tuple #[.agg #[.slice none 0 0, .slice none 0 0, .bool false, .slice none 0 0, .slice none 0 0], .int .i64 1]) (by simp [results, Try.results18, go_sem, q0, q1, q2, q3, q4]) rfl ?_
    have key : ∀ w', Turn (fun b => b = w.heap.size) w3 w' → RetSys2 w syNone (.int .i64 1) (.returned (.tuple #[.agg #[.slice none 0 0, .slice none 0 0, .bool false, .slice none 0 0, .slice none 0 0], .int .i64 1])) w' := fun w' hT => ⟨none, none, none, none, 0, 0, 0, 0, rfl, Row.nil _ _, Row.nil _ _, fun h => absurd h (by simp [syNone]), fun h => absurd h (by simp [syNone]), hb.trans (hT.to_below hb.size (fun g hg => by omega))⟩
    exact key _ (turn5 _ _ _ _ _ _ _)

set_option maxRecDepth 100000 in
set_option maxHeartbeats 4000000 in
theorem rsnew_yes (k n : Nat) (w : World) (hn1 : 1 ≤ n) (hn2 : n ≤ 200) (hk1 : 1 ≤ k) (hk2 : k ≤ 8) : Calls Try.prog 18 #[.int .i64 k, .int .i64 n] w (RetSys2 w (syNew k n) (.int .i64 0)) := by
  have hmk := make_cores k (by omega)
  have kk1 : ¬ ((k : Int) < 1) := by omega
  have kk2 : ¬ ((8 : Int) < k) := by omega
  have b1 := heap_alloc_new w (.cells #[.slice none 0 0, .slice none 0 0, .bool false, .slice none 0 0, .slice none 0 0] 28)
  have hb : Below w.heap.size w (w.alloc (.cells #[.slice none 0 0, .slice none 0 0, .bool false, .slice none 0 0, .slice none 0 0] 28)) := boxed _ _
  have s1 : w.heap.size < (w.alloc (.cells #[.slice none 0 0, .slice none 0 0, .bool false, .slice none 0 0, .slice none 0 0] 28)).heap.size := by simp
  go_enter Try.func18, Try.ntmps18
  go_wp2_with fail
  generalize (w.alloc (.cells #[.slice none 0 0, .slice none 0 0, .bool false, .slice none 0 0, .slice none 0 0] 28)) = w1 at *
  refine (rnew_yes n _ hn1 hn2).mono ?_
  rintro e w2 ⟨A1, B1, c1, d1, rfl, rW, rG, hk⟩
  replace b1 := (hk.block w.heap.size s1).trans b1
  replace hb := bstep hb hk
  replace s1 := Nat.lt_of_lt_of_le s1 hk.size
  clear hk
  go_upto_region 2 with (fail)
  replace b1 := (Below.heap_alloc w2 (.cells #[.slice A1 (mNew n).W.length c1, .slice B1 (mNew n).G.length d1, .bool (mNew n).bad] 24) _ s1).trans b1
  have s2 : w2.heap.size < (w2.alloc (.cells #[.slice A1 (mNew n).W.length c1, .slice B1 (mNew n).G.length d1, .bool (mNew n).bad] 24)).heap.size := by simp
  have bm := heap_alloc_new w2 (.cells #[.slice A1 (mNew n).W.length c1, .slice B1 (mNew n).G.length d1, .bool (mNew n).bad] 24)
  replace hb := bstep hb (boxed w2 (.cells #[.slice A1 (mNew n).W.length c1, .slice B1 (mNew n).G.length d1, .bool (mNew n).bad] 24))
  replace rW := rW.step (boxed w2 (.cells #[.slice A1 (mNew n).W.length c1, .slice B1 (mNew n).G.length d1, .bool (mNew n).bad] 24))
  replace rG := rG.step (boxed w2 (.cells #[.slice A1 (mNew n).W.length c1, .slice B1 (mNew n).G.length d1, .bool (mNew n).bad] 24))
  obtain ⟨y, hy⟩ : ∃ y, w2.heap.size = y := ⟨_, rfl⟩
  generalize (w2.alloc (.cells #[.slice A1 (mNew n).W.length c1, .slice B1 (mNew n).G.length d1, .bool (mNew n).bad] 24)) = w3 at *
  rw [hy] at bm s2 s1 ⊢
  clear hy
  have q0 : w3.cell? ⟨w.heap.size, 0, none⟩ = some (.slice none 0 0) := cell_of_row w3 _ 0 _ _ _ b1
  have q1 : w3.cell? ⟨w.heap.size, 1, none⟩ = some (.slice none 0 0) := cell_of_row w3 _ 1 _ _ _ b1
  have q2 : w3.cell? ⟨w.heap.size, 2, none⟩ = some (.bool false) := cell_of_row w3 _ 2 _ _ _ b1
  have q3 : w3.cell? ⟨w.heap.size, 3, none⟩ = some (.slice none 0 0) := cell_of_row w3 _ 3 _ _ _ b1
  have q4 : w3.cell? ⟨w.heap.size, 4, none⟩ = some (.slice none 0 0) := cell_of_row w3 _ 4 _ _ _ b1
  have qf0 : w3.frozen? ⟨w.heap.size, 0, none⟩ = false := frozen_of_row w3 _ 0 _ _ b1
  have qf1 : w3.frozen? ⟨w.heap.size, 1, none⟩ = false := frozen_of_row w3 _ 1 _ _ b1
  have qf2 : w3.frozen? ⟨w.heap.size, 2, none⟩ = false := frozen_of_row w3 _ 2 _ _ b1
  have qf3 : w3.frozen? ⟨w.heap.size, 3, none⟩ = false := frozen_of_row w3 _ 3 _ _ b1
  have qf4 : w3.frozen? ⟨w.heap.size, 4, none⟩ = false := frozen_of_row w3 _ 4 _ _ b1
  have m0 : w3.cell? ⟨y, 0, none⟩ = some (.slice A1 (mNew n).W.length c1) := cell_of_row w3 _ 0 _ _ _ bm
  have m1 : w3.cell? ⟨y, 1, none⟩ = some (.slice B1 (mNew n).G.length d1) := cell_of_row w3 _ 1 _ _ _ bm
  have m2 : w3.cell? ⟨y, 2, none⟩ = some (.bool (mNew n).bad) := cell_of_row w3 _ 2 _ _ _ bm
  have NI := hid (noInt_sys b1)
  have s3 : w.heap.size < w3.heap.size := by omega
  have hne : w.heap.size ≠ w3.heap.size := by omega
  clear b1 bm
  go_wp2
  go_region
  all_goals go_wp2_with fail
  all_goals refine bodyPost_ret (v := .tuple #[.agg #[.slice A1 (mNew n).W.length c1, .slice B1 (mNew n).G.length d1, .bool (mNew n).bad, .slice (some ⟨w3.heap.size, 0, none⟩) k k, .slice none 0 0], .int .i64 0]) (by simp [results, Try.results18, go_sem, hne, s3, q0, q1, q2, q3, q4]) rfl ?_
  all_goals
    have t5 := turn5 w3 w.heap.size (.slice A1 (mNew n).W.length c1) (.slice B1 (mNew n).G.length d1) (.bool (mNew n).bad) (.slice (some ⟨w3.heap.size, 0, none⟩) k k) (.slice none 0 0)
    have e5 : (((((w3.setCell ⟨w.heap.size, 0, none⟩ (.slice A1 (mNew n).W.length c1)).setCell ⟨w.heap.size, 1, none⟩ (.slice B1 (mNew n).G.length d1)).setCell ⟨w.heap.size, 2, none⟩ (.bool (mNew n).bad)).setCell ⟨w.heap.size, 3, none⟩ (.slice (some ⟨w3.heap.size, 0, none⟩) k k)).setCell ⟨w.heap.size, 4, none⟩ (.slice none 0 0)).heap.size = w3.heap.size := by simp [World.setCell]
    have rC := made_rowC (((((w3.setCell ⟨w.heap.size, 0, none⟩ (.slice A1 (mNew n).W.length c1)).setCell ⟨w.heap.size, 1, none⟩ (.slice B1 (mNew n).G.length d1)).setCell ⟨w.heap.size, 2, none⟩ (.bool (mNew n).bad)).setCell ⟨w.heap.size, 3, none⟩ (.slice (some ⟨w3.heap.size, 0, none⟩) k k)).setCell ⟨w.heap.size, 4, none⟩ (.slice none 0 0)) k
    rw [e5] at rC
    have hb5 : Below w.heap.size w (((((w3.setCell ⟨w.heap.size, 0, none⟩ (.slice A1 (mNew n).W.length c1)).setCell ⟨w.heap.size, 1, none⟩ (.slice B1 (mNew n).G.length d1)).setCell ⟨w.heap.size, 2, none⟩ (.bool (mNew n).bad)).setCell ⟨w.heap.size, 3, none⟩ (.slice (some ⟨w3.heap.size, 0, none⟩) k k)).setCell ⟨w.heap.size, 4, none⟩ (.slice none 0 0)) := hb.trans (t5.to_below hb.size (fun g hg => by omega))
    have bA := (boxed (((((w3.setCell ⟨w.heap.size, 0, none⟩ (.slice A1 (mNew n).W.length c1)).setCell ⟨w.heap.size, 1, none⟩ (.slice B1 (mNew n).G.length d1)).setCell ⟨w.heap.size, 2, none⟩ (.bool (mNew n).bad)).setCell ⟨w.heap.size, 3, none⟩ (.slice (some ⟨w3.heap.size, 0, none⟩) k k)).setCell ⟨w.heap.size, 4, none⟩ (.slice none 0 0)) (.cells (madeCells #[.slice none 0 0, .int .i64 0, .int .i64 0, .int .i64 0, .int .i64 0, .int .i64 0, .slice none 0 0] (k * 7)) 65)).drew
    refine ⟨A1, B1, some ⟨w3.heap.size, 0, none⟩, none, c1, d1, k, 0, ?_, (rW.turnN t5 NI.out).step bA, (rG.turnN t5 NI.out).step bA, rC.step ((Below.refl _ _).drew), fun h => absurd h (by simp [syNew]), bstep hb5 bA⟩
    simp [syNew]
end Go.Proofs.Ytpagekhgeahmaaa
