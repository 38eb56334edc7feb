/- Contracts: new arenas. -/
import Derived.Test.YtpagekhgeahmaaaRefMem
import Derived.RegionTactic
import Derived.ChangeAlike
namespace Go.Proofs.Ytpagekhgeahmaaa
open Go.RowKit
set_option linter.unusedVariables false

/-- What is returned is an arena (and besides it x): its rows lie in memory that there is; what was there is as it was. -/
def RetMem (w : World) (m : Ar) (e : Ending) (w' : World) : Prop :=
  ∃ (A A' : Option Addr) (c c' : Nat), e = .returned (.agg #[.slice A m.W.length c, .slice A' m.G.length c', .bool m.bad]) ∧ Row w' A m.W ∧ Row w' A' m.G ∧ Below w.heap.size w w'
def RetMem2 (w : World) (m : Ar) (x : Value) (e : Ending) (w' : World) : Prop :=
  ∃ (A A' : Option Addr) (c c' : Nat), e = .returned (.tuple #[.agg #[.slice A m.W.length c, .slice A' m.G.length c', .bool m.bad], x]) ∧ Row w' A m.W ∧ Row w' A' m.G ∧ Below w.heap.size w w'

theorem RetMem.mk {w w' : World} {m : Ar} {A A' : Option Addr} {c c' n n' : Nat} {b : Bool} (h1 : n = m.W.length) (h2 : n' = m.G.length) (h3 : b = m.bad) (r1 : Row w' A m.W) (r2 : Row w' A' m.G) (hb : Below w.heap.size w w') :
    RetMem w m (.returned (.agg #[.slice A n c, .slice A' n' c', .bool b])) w' := by
  subst h1 h2 h3
  exact ⟨_, _, _, _, rfl, r1, r2, hb⟩
theorem RetMem2.mk {w w' : World} {m : Ar} {x : Value} {A A' : Option Addr} {c c' n n' : Nat} {b : Bool} (h1 : n = m.W.length) (h2 : n' = m.G.length) (h3 : b = m.bad) (r1 : Row w' A m.W) (r2 : Row w' A' m.G) (hb : Below w.heap.size w w') :
    RetMem2 w m x (.returned (.tuple #[.agg #[.slice A n c, .slice A' n' c', .bool b], x])) w' := by
  subst h1 h2 h3
  exact ⟨_, _, _, _, rfl, r1, r2, hb⟩

theorem int_info : (Try.prog.info? 3).map (fun i => (i.zero, i.size, i.bytes)) = some (some (.int .i64 0), 1, 8) := by kernel_rfl

/-- make([]int, n), in any world. -/
theorem make_ints (n : Nat) (hn : n ≤ 1000000) (w : World) :
    (Instr.makeSlice 22 (.int .i64 (n : Int)) (.int .i64 (n : Int))).run Try.prog w = .ok (.slice (some ⟨w.heap.size, 0, none⟩) n n) (w.alloc (.cells (madeCells #[.int .i64 0] n) 3)) := by
  obtain ⟨i0, hi0, hz0, hz1, hz2⟩ := info_parts int_info
  have hr := run_make (P := Try.prog) w 22 3 i0 _ Try.underlying22 hi0 hz0 .i64 .i64 n n (by omega) (by omega) (by rw [hz2]; omega) (by omega)
  simp only [Int.toNat_natCast, hz1, Nat.mul_one] at hr
  exact hr

theorem made2 (w1 : World) (g n k : Nat) (hg : w1.heap.size = g) : Blk ((w1.alloc (.cells (madeCells #[.int .i64 0] n) 3)).alloc (.cells (madeCells #[.int .i64 0] k) 3)).drew g (List.replicate n 0) ∧
    Blk ((w1.alloc (.cells (madeCells #[.int .i64 0] n) 3)).alloc (.cells (madeCells #[.int .i64 0] k) 3)).drew (g + 1) (List.replicate k 0) := by
  subst hg
  refine ⟨(Blk.made w1 n).alloc _, ?_⟩
  have := Blk.made (w1.alloc (.cells (madeCells #[.int .i64 0] n) 3)) k
  rw [show (w1.alloc (.cells (madeCells #[.int .i64 0] n) 3)).heap.size = w1.heap.size + 1 by simp] at this
  exact this

theorem mNew_w (n : Nat) : (mNew n).W = List.replicate (128 + 4 * n) 0 := rfl
theorem mNew_g (n : Nat) : (mNew n).G = List.replicate (1 + n) 0 := rfl

set_option maxHeartbeats 1000000 in
theorem new_yes (n : Nat) (w : World) (h1 : 1 ≤ n) (h2 : n ≤ 200) :
    Calls Try.prog 53 #[.int .i64 (n : Int)] w (RetMem2 w (mNew n) (.int .i64 0)) := by
  have k1 := make_ints (128 + 4 * n) (by omega)
  have k2 := make_ints (1 + n) (by omega)
  have e1 : ((128 + 4 * n : Nat) : Int) = 128 + 4 * (n : Int) := by omega
  have e2 : ((1 + n : Nat) : Int) = 1 + (n : Int) := by omega
  rw [e1] at k1
  rw [e2] at k2
  clear e1 e2
  go_enter Try.func53, Try.ntmps53
  go_wp2
  go_region
  all_goals go_wp2
  · refine bodyPost_ret (v := .tuple #[.agg #[.slice (some ⟨w.heap.size + 1, 0, none⟩) (128 + 4 * n) (128 + 4 * n), .slice (some ⟨w.heap.size + 1 + 1, 0, none⟩) (1 + n) (1 + n), .bool false], .int .i64 0]) (by simp [results, Try.results53, go_sem]) rfl ?_
    obtain ⟨q1, q2⟩ := made2 (w.alloc (.cells #[.slice (some ⟨w.heap.size + 1, 0, none⟩) (128 + 4 * n) (128 + 4 * n), .slice (some ⟨w.heap.size + 1 + 1, 0, none⟩) (1 + n) (1 + n), .bool false] 24)) (w.heap.size + 1) (128 + 4 * n) (1 + n) (by simp)
    exact RetMem2.mk (by simp [mNew]) (by simp [mNew] <;> omega) rfl (by rw [mNew_w]; exact q1.row) (by rw [mNew_g]; first | exact q2.row | (rw [Nat.add_comm 1 n]; exact q2.row)) ((bstep (bstep (boxed _ _) (boxed _ _)) (boxed _ _)).drew)
  · refine bodyPost_ret (v := .tuple #[.agg #[.slice (some ⟨w.heap.size + 1 + 1, 0, none⟩) (128 + 4 * n) (128 + 4 * n), .slice (some ⟨w.heap.size + 1, 0, none⟩) (1 + n) (1 + n), .bool false], .int .i64 0]) (by simp [results, Try.results53, go_sem]) rfl ?_
    obtain ⟨q1, q2⟩ := made2 (w.alloc (.cells #[.slice (some ⟨w.heap.size + 1 + 1, 0, none⟩) (128 + 4 * n) (128 + 4 * n), .slice (some ⟨w.heap.size + 1, 0, none⟩) (1 + n) (1 + n), .bool false] 24)) (w.heap.size + 1) (1 + n) (128 + 4 * n) (by simp)
    exact RetMem2.mk (by simp [mNew]) (by simp [mNew] <;> omega) rfl (by rw [mNew_w]; exact q2.row) (by rw [mNew_g]; first | exact q1.row | (rw [Nat.add_comm 1 n]; exact q1.row)) ((bstep (bstep (boxed _ _) (boxed _ _)) (boxed _ _)).drew)

theorem new_no (n : Int) (w : World) (h : n < 1 ∨ 200 < n) :
    Calls Try.prog 53 #[.int .i64 n] w (RetMem2 w mNone (.int .i64 1)) := by
  rcases h with h | h
  · go_enter Try.func53, Try.ntmps53
    go_wp2
    exact bodyPost_ret (v := .tuple #[.agg #[.slice none 0 0, .slice none 0 0, .bool false], .int .i64 1]) (by simp [results, Try.results53, go_sem]) rfl (RetMem2.mk rfl rfl rfl (Row.nil _ _) (Row.nil _ _) (boxed _ _))
  · have h' : 1 ≤ n := by omega
    go_enter Try.func53, Try.ntmps53
    go_wp2
    exact bodyPost_ret (v := .tuple #[.agg #[.slice none 0 0, .slice none 0 0, .bool false], .int .i64 1]) (by simp [results, Try.results53, go_sem]) rfl (RetMem2.mk rfl rfl rfl (Row.nil _ _) (Row.nil _ _) (boxed _ _))

set_option maxHeartbeats 1000000 in
theorem rnew_yes (n : Nat) (w : World) (h1 : 1 ≤ n) (h2 : n ≤ 200) :
    Calls Try.prog 54 #[.int .i64 (n : Int)] w (RetMem2 w (mNew n) (.int .i64 0)) := by
  have k1 := make_ints (128 + 4 * n) (by omega)
  have k2 := make_ints (n + 1) (by omega)
  have e1 : ((128 + 4 * n : Nat) : Int) = 128 + 4 * (n : Int) := by omega
  have e2 : ((n + 1 : Nat) : Int) = (n : Int) + 1 := by omega
  rw [e1] at k1
  rw [e2] at k2
  clear e1 e2
  go_enter Try.func54, Try.ntmps54
  go_wp2
  go_region
  all_goals go_wp2
  · refine bodyPost_ret (v := .tuple #[.agg #[.slice (some ⟨w.heap.size + 1, 0, none⟩) (128 + 4 * n) (128 + 4 * n), .slice (some ⟨w.heap.size + 1 + 1, 0, none⟩) (n + 1) (n + 1), .bool false], .int .i64 0]) (by simp [results, Try.results54, go_sem]) rfl ?_
    obtain ⟨q1, q2⟩ := made2 (w.alloc (.cells #[.slice (some ⟨w.heap.size + 1, 0, none⟩) (128 + 4 * n) (128 + 4 * n), .slice (some ⟨w.heap.size + 1 + 1, 0, none⟩) (n + 1) (n + 1), .bool false] 24)) (w.heap.size + 1) (128 + 4 * n) (n + 1) (by simp)
    exact RetMem2.mk (by simp [mNew]) (by simp [mNew] <;> omega) rfl (by rw [mNew_w]; exact q1.row) (by rw [mNew_g]; first | exact q2.row | (rw [Nat.add_comm 1 n]; exact q2.row)) ((bstep (bstep (boxed _ _) (boxed _ _)) (boxed _ _)).drew)
  · refine bodyPost_ret (v := .tuple #[.agg #[.slice (some ⟨w.heap.size + 1 + 1, 0, none⟩) (128 + 4 * n) (128 + 4 * n), .slice (some ⟨w.heap.size + 1, 0, none⟩) (n + 1) (n + 1), .bool false], .int .i64 0]) (by simp [results, Try.results54, go_sem]) rfl ?_
    obtain ⟨q1, q2⟩ := made2 (w.alloc (.cells #[.slice (some ⟨w.heap.size + 1 + 1, 0, none⟩) (128 + 4 * n) (128 + 4 * n), .slice (some ⟨w.heap.size + 1, 0, none⟩) (n + 1) (n + 1), .bool false] 24)) (w.heap.size + 1) (n + 1) (128 + 4 * n) (by simp)
    exact RetMem2.mk (by simp [mNew]) (by simp [mNew] <;> omega) rfl (by rw [mNew_w]; exact q2.row) (by rw [mNew_g]; first | exact q1.row | (rw [Nat.add_comm 1 n]; exact q1.row)) ((bstep (bstep (boxed _ _) (boxed _ _)) (boxed _ _)).drew)

theorem rnew_no (n : Int) (w : World) (h : n < 1 ∨ 200 < n) :
    Calls Try.prog 54 #[.int .i64 n] w (RetMem2 w mNone (.int .i64 1)) := by
  rcases h with h | h
  · go_enter Try.func54, Try.ntmps54
    go_wp2
    exact bodyPost_ret (v := .tuple #[.agg #[.slice none 0 0, .slice none 0 0, .bool false], .int .i64 1]) (by simp [results, Try.results54, go_sem]) rfl (RetMem2.mk rfl rfl rfl (Row.nil _ _) (Row.nil _ _) (boxed _ _))
  · have h' : 1 ≤ n := by omega
    go_enter Try.func54, Try.ntmps54
    go_wp2
    exact bodyPost_ret (v := .tuple #[.agg #[.slice none 0 0, .slice none 0 0, .bool false], .int .i64 1]) (by simp [results, Try.results54, go_sem]) rfl (RetMem2.mk rfl rfl rfl (Row.nil _ _) (Row.nil _ _) (boxed _ _))

end Go.Proofs.Ytpagekhgeahmaaa
