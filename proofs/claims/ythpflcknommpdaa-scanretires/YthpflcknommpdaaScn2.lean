/- Contracts: the limit, which ops are of layer 6, which layer an op is of, by the program. -/
import Derived.Test.YthpflcknommpdaaKHzA
import Derived.Test.YthpflcknommpdaaScn1
import Derived.Test.YthpflcknommpdaaStk9
import Derived.WalkMore
import Derived.Laws.EntriesVeiled
namespace Go.Proofs.Ythpflcknommpdaa
open Go.RowKit
set_option linter.unusedVariables false
set_option linter.unusedSimpArgs false

theorem limit_any (n : Int) (w : World) : Calls Try.prog 26 #[.int .i64 n] w fun e w' => e = .returned (.int .i64 (pLimit n)) ∧ w = w' := by
  go_enter Try.func26, Try.ntmps26
  go_wp2
  go_ret
  exact ⟨ret_int (by unfold pLimit wrap64; omega), rfl⟩
theorem own4_w (op : Int) (w : World) : Calls Try.prog 104 #[.int .i64 op] w fun e w' => e = .returned (.bool (op == 1 || op == 2)) ∧ w = w' := by
  rcases Bool.eq_false_or_eq_true (op == 1) with h | h
  · go_enter Try.func104, Try.ntmps104
    go_wp2
    go_ret
    rw [h]
    exact ⟨rfl, rfl⟩
  · go_enter Try.func104, Try.ntmps104
    go_wp2
    go_ret
    rw [h]
    exact ⟨rfl, rfl⟩
theorem own6_w (op : Int) (w : World) : Calls Try.prog 106 #[.int .i64 op] w fun e w' => e = .returned (.bool (op == 5 || op == 6)) ∧ w = w' := by
  rcases Bool.eq_false_or_eq_true (op == 5) with h | h
  · go_enter Try.func106, Try.ntmps106
    go_wp2
    go_ret
    rw [h]
    exact ⟨rfl, rfl⟩
  · go_enter Try.func106, Try.ntmps106
    go_wp2
    go_ret
    rw [h]
    exact ⟨rfl, rfl⟩
theorem own4_b {op : Int} {b : Bool} (h : (op == 1 || op == 2) = b) (w : World) : Calls Try.prog 104 #[.int .i64 op] w fun e w' => e = .returned (.bool b) ∧ w = w' := by subst h; exact own4_w op w
theorem own5_b {op : Int} {b : Bool} (h : (op == 3 || op == 4) = b) (w : World) : Calls Try.prog 11 #[.int .i64 op] w fun e w' => e = .returned (.bool b) ∧ w = w' := by subst h; exact own5_any op w
theorem own6_b {op : Int} {b : Bool} (h : (op == 5 || op == 6) = b) (w : World) : Calls Try.prog 106 #[.int .i64 op] w fun e w' => e = .returned (.bool b) ∧ w = w' := by subst h; exact own6_w op w
theorem layers_any (w : World) : Calls Try.prog 86 #[] w fun e w' => e = .returned (.slice (some ⟨w.heap.size, 0, none⟩) 3 3) ∧ w'.heap[w.heap.size]? = some (.cells #[.func (.func 104) #[] #[], .func (.func 105) #[] #[], .func (.func 11) #[] #[], .func (.func 17) #[] #[], .func (.func 106) #[] #[], .func (.func 107) #[] #[]] 93 (0, 0)) ∧ Below w.heap.size w w' := by
  go_enter Try.func86, Try.ntmps86
  go_wp2
  go_ret
  exact ⟨rfl, heap_alloc_new _ _, boxed _ _⟩

set_option maxRecDepth 100000 in
set_option maxHeartbeats 4000000 in
theorem whose_0 (op : Int) (w : World) (h0 : (op == 1 || op == 2) = true) : Calls Try.prog 59 #[.int .i64 op] w fun e w' => e = .returned (.tuple #[.agg #[.func (.func 104) #[] #[], .func (.func 105) #[] #[]], .bool true]) ∧ Below w.heap.size w w' := by
  go_enter Try.func59, Try.ntmps59
  have b1 := heap_alloc_new w (.cells #[.nilFunc, .nilFunc] 93)
  have hb : Below w.heap.size w (w.alloc (.cells #[.nilFunc, .nilFunc] 93)) := boxed _ _
  have z1 : w.heap.size < (w.alloc (.cells #[.nilFunc, .nilFunc] 93)).heap.size := by simp
  have H0 := hid h0
  clear h0
  go_wp2
  go_step3
  go_wp2
  go_step3
  go_upto_region 1 with (fail)
  generalize (w.alloc (.cells #[.nilFunc, .nilFunc] 93)) = w1 at *
  go_wp2_with (go_at_call 86; (with_reducible refine (layers_any _).mono ?_); rintro e w2 ⟨rfl, b2, hk⟩)
  replace b1 := (hk.block w.heap.size z1).trans b1
  replace hb := bstep hb hk
  have z2 : w1.heap.size < w2.heap.size := (Array.getElem?_eq_some_iff.1 b2).1
  replace z1 := Nat.lt_of_lt_of_le z1 hk.size
  clear hk
  generalize w1.heap.size = vL at *
  refine wp_loop_rounds 4 ?_
  rw [rounds_succ]
  obtain ⟨c0, c1⟩ := cells2 b2
  go_upto_region 4 with (fail)
  clear c0 c1
  have hk : Below w2.heap.size w2 (w2.alloc (.cells #[.func (.func 104) #[] #[], .func (.func 105) #[] #[]] 93)) := boxed _ _
  have b3 := heap_alloc_new w2 (.cells #[.func (.func 104) #[] #[], .func (.func 105) #[] #[]] 93)
  replace b1 := (hk.block w.heap.size z1).trans b1
  replace b2 := (hk.block vL z2).trans b2
  replace hb := bstep hb hk
  replace z1 := Nat.lt_of_lt_of_le z1 hk.size
  replace z2 := Nat.lt_of_lt_of_le z2 hk.size
  clear hk
  generalize (w2.alloc (.cells #[.func (.func 104) #[] #[], .func (.func 105) #[] #[]] 93)) = w3 at *
  obtain ⟨v0, hv⟩ : ∃ v, w2.heap.size = v := ⟨_, rfl⟩
  rw [hv] at b3 ⊢
  clear hv
  obtain ⟨d0, d1⟩ := cells2 b3
  obtain ⟨q0, q1⟩ := cells2 b1
  obtain ⟨qf0, qf1⟩ := frz2 b1
  go_wp2_with (go_at_call 104; (with_reducible refine (own4_b H0.out _).mono ?_); rintro e wk ⟨rfl, rfl⟩)
  try rw [Exit.noGoto_ret]
  refine bodyPost_ret (v := .tuple #[.agg #[.func (.func 104) #[] #[], .func (.func 105) #[] #[]], .bool true]) (by simp [results, Try.results59, go_sem, q0, q1]) rfl ?_
  exact ⟨rfl, hb.trans (((Turn.refl (fun b => b = w.heap.size) _).set rfl _ _).set rfl _ _ |>.to_below hb.size (fun g hg => by omega))⟩

set_option maxRecDepth 100000 in
set_option maxHeartbeats 4000000 in
theorem whose_1 (op : Int) (w : World) (h0 : (op == 1 || op == 2) = false) (h1 : (op == 3 || op == 4) = true) : Calls Try.prog 59 #[.int .i64 op] w fun e w' => e = .returned (.tuple #[.agg #[.func (.func 11) #[] #[], .func (.func 17) #[] #[]], .bool true]) ∧ Below w.heap.size w w' := by
  go_enter Try.func59, Try.ntmps59
  have b1 := heap_alloc_new w (.cells #[.nilFunc, .nilFunc] 93)
  have hb : Below w.heap.size w (w.alloc (.cells #[.nilFunc, .nilFunc] 93)) := boxed _ _
  have z1 : w.heap.size < (w.alloc (.cells #[.nilFunc, .nilFunc] 93)).heap.size := by simp
  have H0 := hid h0
  have H1 := hid h1
  clear h0 h1
  go_wp2
  go_step3
  go_wp2
  go_step3
  go_upto_region 1 with (fail)
  generalize (w.alloc (.cells #[.nilFunc, .nilFunc] 93)) = w1 at *
  go_wp2_with (go_at_call 86; (with_reducible refine (layers_any _).mono ?_); rintro e w2 ⟨rfl, b2, hk⟩)
  replace b1 := (hk.block w.heap.size z1).trans b1
  replace hb := bstep hb hk
  have z2 : w1.heap.size < w2.heap.size := (Array.getElem?_eq_some_iff.1 b2).1
  replace z1 := Nat.lt_of_lt_of_le z1 hk.size
  clear hk
  generalize w1.heap.size = vL at *
  refine wp_loop_rounds 4 ?_
  rw [rounds_succ]
  obtain ⟨c0, c1⟩ := cells2 b2
  go_upto_region 4 with (fail)
  clear c0 c1
  have hk : Below w2.heap.size w2 (w2.alloc (.cells #[.func (.func 104) #[] #[], .func (.func 105) #[] #[]] 93)) := boxed _ _
  have b3 := heap_alloc_new w2 (.cells #[.func (.func 104) #[] #[], .func (.func 105) #[] #[]] 93)
  replace b1 := (hk.block w.heap.size z1).trans b1
  replace b2 := (hk.block vL z2).trans b2
  replace hb := bstep hb hk
  replace z1 := Nat.lt_of_lt_of_le z1 hk.size
  replace z2 := Nat.lt_of_lt_of_le z2 hk.size
  clear hk
  generalize (w2.alloc (.cells #[.func (.func 104) #[] #[], .func (.func 105) #[] #[]] 93)) = w3 at *
  obtain ⟨v0, hv⟩ : ∃ v, w2.heap.size = v := ⟨_, rfl⟩
  rw [hv] at b3 ⊢
  clear hv
  obtain ⟨d0, d1⟩ := cells2 b3
  go_wp2_with (go_at_call 104; (with_reducible refine (own4_b H0.out _).mono ?_); rintro e wk ⟨rfl, rfl⟩)
  clear d0 d1 b3
  rw [rounds_succ]
  obtain ⟨-, -, c2, c3⟩ := cells4 b2
  go_upto_region 4 with (fail)
  clear c2 c3
  have hk : Below w3.heap.size w3 (w3.alloc (.cells #[.func (.func 11) #[] #[], .func (.func 17) #[] #[]] 93)) := boxed _ _
  have b3 := heap_alloc_new w3 (.cells #[.func (.func 11) #[] #[], .func (.func 17) #[] #[]] 93)
  replace b1 := (hk.block w.heap.size z1).trans b1
  replace b2 := (hk.block vL z2).trans b2
  replace hb := bstep hb hk
  replace z1 := Nat.lt_of_lt_of_le z1 hk.size
  replace z2 := Nat.lt_of_lt_of_le z2 hk.size
  clear hk
  generalize (w3.alloc (.cells #[.func (.func 11) #[] #[], .func (.func 17) #[] #[]] 93)) = w4 at *
  obtain ⟨v1, hv⟩ : ∃ v, w3.heap.size = v := ⟨_, rfl⟩
  rw [hv] at b3 ⊢
  clear hv
  obtain ⟨d0, d1⟩ := cells2 b3
  obtain ⟨q0, q1⟩ := cells2 b1
  obtain ⟨qf0, qf1⟩ := frz2 b1
  go_wp2_with (go_at_call 11; (with_reducible refine (own5_b H1.out _).mono ?_); rintro e wk ⟨rfl, rfl⟩)
  try rw [Exit.noGoto_ret]
  refine bodyPost_ret (v := .tuple #[.agg #[.func (.func 11) #[] #[], .func (.func 17) #[] #[]], .bool true]) (by simp [results, Try.results59, go_sem, q0, q1]) rfl ?_
  exact ⟨rfl, hb.trans (((Turn.refl (fun b => b = w.heap.size) _).set rfl _ _).set rfl _ _ |>.to_below hb.size (fun g hg => by omega))⟩

set_option maxRecDepth 100000 in
set_option maxHeartbeats 4000000 in
theorem whose_2 (op : Int) (w : World) (h0 : (op == 1 || op == 2) = false) (h1 : (op == 3 || op == 4) = false) (h2 : (op == 5 || op == 6) = true) : Calls Try.prog 59 #[.int .i64 op] w fun e w' => e = .returned (.tuple #[.agg #[.func (.func 106) #[] #[], .func (.func 107) #[] #[]], .bool true]) ∧ Below w.heap.size w w' := by
  go_enter Try.func59, Try.ntmps59
  have b1 := heap_alloc_new w (.cells #[.nilFunc, .nilFunc] 93)
  have hb : Below w.heap.size w (w.alloc (.cells #[.nilFunc, .nilFunc] 93)) := boxed _ _
  have z1 : w.heap.size < (w.alloc (.cells #[.nilFunc, .nilFunc] 93)).heap.size := by simp
  have H0 := hid h0
  have H1 := hid h1
  have H2 := hid h2
  clear h0 h1 h2
  go_wp2
  go_step3
  go_wp2
  go_step3
  go_upto_region 1 with (fail)
  generalize (w.alloc (.cells #[.nilFunc, .nilFunc] 93)) = w1 at *
  go_wp2_with (go_at_call 86; (with_reducible refine (layers_any _).mono ?_); rintro e w2 ⟨rfl, b2, hk⟩)
  replace b1 := (hk.block w.heap.size z1).trans b1
  replace hb := bstep hb hk
  have z2 : w1.heap.size < w2.heap.size := (Array.getElem?_eq_some_iff.1 b2).1
  replace z1 := Nat.lt_of_lt_of_le z1 hk.size
  clear hk
  generalize w1.heap.size = vL at *
  refine wp_loop_rounds 4 ?_
  rw [rounds_succ]
  obtain ⟨c0, c1⟩ := cells2 b2
  go_upto_region 4 with (fail)
  clear c0 c1
  have hk : Below w2.heap.size w2 (w2.alloc (.cells #[.func (.func 104) #[] #[], .func (.func 105) #[] #[]] 93)) := boxed _ _
  have b3 := heap_alloc_new w2 (.cells #[.func (.func 104) #[] #[], .func (.func 105) #[] #[]] 93)
  replace b1 := (hk.block w.heap.size z1).trans b1
  replace b2 := (hk.block vL z2).trans b2
  replace hb := bstep hb hk
  replace z1 := Nat.lt_of_lt_of_le z1 hk.size
  replace z2 := Nat.lt_of_lt_of_le z2 hk.size
  clear hk
  generalize (w2.alloc (.cells #[.func (.func 104) #[] #[], .func (.func 105) #[] #[]] 93)) = w3 at *
  obtain ⟨v0, hv⟩ : ∃ v, w2.heap.size = v := ⟨_, rfl⟩
  rw [hv] at b3 ⊢
  clear hv
  obtain ⟨d0, d1⟩ := cells2 b3
  go_wp2_with (go_at_call 104; (with_reducible refine (own4_b H0.out _).mono ?_); rintro e wk ⟨rfl, rfl⟩)
  clear d0 d1 b3
  rw [rounds_succ]
  obtain ⟨-, -, c2, c3⟩ := cells4 b2
  go_upto_region 4 with (fail)
  clear c2 c3
  have hk : Below w3.heap.size w3 (w3.alloc (.cells #[.func (.func 11) #[] #[], .func (.func 17) #[] #[]] 93)) := boxed _ _
  have b3 := heap_alloc_new w3 (.cells #[.func (.func 11) #[] #[], .func (.func 17) #[] #[]] 93)
  replace b1 := (hk.block w.heap.size z1).trans b1
  replace b2 := (hk.block vL z2).trans b2
  replace hb := bstep hb hk
  replace z1 := Nat.lt_of_lt_of_le z1 hk.size
  replace z2 := Nat.lt_of_lt_of_le z2 hk.size
  clear hk
  generalize (w3.alloc (.cells #[.func (.func 11) #[] #[], .func (.func 17) #[] #[]] 93)) = w4 at *
  obtain ⟨v1, hv⟩ : ∃ v, w3.heap.size = v := ⟨_, rfl⟩
  rw [hv] at b3 ⊢
  clear hv
  obtain ⟨d0, d1⟩ := cells2 b3
  go_wp2_with (go_at_call 11; (with_reducible refine (own5_b H1.out _).mono ?_); rintro e wk ⟨rfl, rfl⟩)
  clear d0 d1 b3
  rw [rounds_succ]
  obtain ⟨-, -, -, -, c4, c5⟩ := cells6 b2
  go_upto_region 4 with (fail)
  clear c4 c5
  have hk : Below w4.heap.size w4 (w4.alloc (.cells #[.func (.func 106) #[] #[], .func (.func 107) #[] #[]] 93)) := boxed _ _
  have b3 := heap_alloc_new w4 (.cells #[.func (.func 106) #[] #[], .func (.func 107) #[] #[]] 93)
  replace b1 := (hk.block w.heap.size z1).trans b1
  replace b2 := (hk.block vL z2).trans b2
  replace hb := bstep hb hk
  replace z1 := Nat.lt_of_lt_of_le z1 hk.size
  replace z2 := Nat.lt_of_lt_of_le z2 hk.size
  clear hk
  generalize (w4.alloc (.cells #[.func (.func 106) #[] #[], .func (.func 107) #[] #[]] 93)) = w5 at *
  obtain ⟨v2, hv⟩ : ∃ v, w4.heap.size = v := ⟨_, rfl⟩
  rw [hv] at b3 ⊢
  clear hv
  obtain ⟨d0, d1⟩ := cells2 b3
  obtain ⟨q0, q1⟩ := cells2 b1
  obtain ⟨qf0, qf1⟩ := frz2 b1
  go_wp2_with (go_at_call 106; (with_reducible refine (own6_b H2.out _).mono ?_); rintro e wk ⟨rfl, rfl⟩)
  try rw [Exit.noGoto_ret]
  refine bodyPost_ret (v := .tuple #[.agg #[.func (.func 106) #[] #[], .func (.func 107) #[] #[]], .bool true]) (by simp [results, Try.results59, go_sem, q0, q1]) rfl ?_
  exact ⟨rfl, hb.trans (((Turn.refl (fun b => b = w.heap.size) _).set rfl _ _).set rfl _ _ |>.to_below hb.size (fun g hg => by omega))⟩

set_option maxRecDepth 100000 in
set_option maxHeartbeats 4000000 in
theorem whose_3 (op : Int) (w : World) (h0 : (op == 1 || op == 2) = false) (h1 : (op == 3 || op == 4) = false) (h2 : (op == 5 || op == 6) = false) : Calls Try.prog 59 #[.int .i64 op] w fun e w' => e = .returned (.tuple #[.agg #[.nilFunc, .nilFunc], .bool false]) ∧ Below w.heap.size w w' := by
  go_enter Try.func59, Try.ntmps59
  have b1 := heap_alloc_new w (.cells #[.nilFunc, .nilFunc] 93)
  have hb : Below w.heap.size w (w.alloc (.cells #[.nilFunc, .nilFunc] 93)) := boxed _ _
  have z1 : w.heap.size < (w.alloc (.cells #[.nilFunc, .nilFunc] 93)).heap.size := by simp
  have H0 := hid h0
  have H1 := hid h1
  have H2 := hid h2
  clear h0 h1 h2
  go_wp2
  go_step3
  go_wp2
  go_step3
  go_upto_region 1 with (fail)
  generalize (w.alloc (.cells #[.nilFunc, .nilFunc] 93)) = w1 at *
  go_wp2_with (go_at_call 86; (with_reducible refine (layers_any _).mono ?_); rintro e w2 ⟨rfl, b2, hk⟩)
  replace b1 := (hk.block w.heap.size z1).trans b1
  replace hb := bstep hb hk
  have z2 : w1.heap.size < w2.heap.size := (Array.getElem?_eq_some_iff.1 b2).1
  replace z1 := Nat.lt_of_lt_of_le z1 hk.size
  clear hk
  generalize w1.heap.size = vL at *
  refine wp_loop_rounds 4 ?_
  rw [rounds_succ]
  obtain ⟨c0, c1⟩ := cells2 b2
  go_upto_region 4 with (fail)
  clear c0 c1
  have hk : Below w2.heap.size w2 (w2.alloc (.cells #[.func (.func 104) #[] #[], .func (.func 105) #[] #[]] 93)) := boxed _ _
  have b3 := heap_alloc_new w2 (.cells #[.func (.func 104) #[] #[], .func (.func 105) #[] #[]] 93)
  replace b1 := (hk.block w.heap.size z1).trans b1
  replace b2 := (hk.block vL z2).trans b2
  replace hb := bstep hb hk
  replace z1 := Nat.lt_of_lt_of_le z1 hk.size
  replace z2 := Nat.lt_of_lt_of_le z2 hk.size
  clear hk
  generalize (w2.alloc (.cells #[.func (.func 104) #[] #[], .func (.func 105) #[] #[]] 93)) = w3 at *
  obtain ⟨v0, hv⟩ : ∃ v, w2.heap.size = v := ⟨_, rfl⟩
  rw [hv] at b3 ⊢
  clear hv
  obtain ⟨d0, d1⟩ := cells2 b3
  go_wp2_with (go_at_call 104; (with_reducible refine (own4_b H0.out _).mono ?_); rintro e wk ⟨rfl, rfl⟩)
  clear d0 d1 b3
  rw [rounds_succ]
  obtain ⟨-, -, c2, c3⟩ := cells4 b2
  go_upto_region 4 with (fail)
  clear c2 c3
  have hk : Below w3.heap.size w3 (w3.alloc (.cells #[.func (.func 11) #[] #[], .func (.func 17) #[] #[]] 93)) := boxed _ _
  have b3 := heap_alloc_new w3 (.cells #[.func (.func 11) #[] #[], .func (.func 17) #[] #[]] 93)
  replace b1 := (hk.block w.heap.size z1).trans b1
  replace b2 := (hk.block vL z2).trans b2
  replace hb := bstep hb hk
  replace z1 := Nat.lt_of_lt_of_le z1 hk.size
  replace z2 := Nat.lt_of_lt_of_le z2 hk.size
  clear hk
  generalize (w3.alloc (.cells #[.func (.func 11) #[] #[], .func (.func 17) #[] #[]] 93)) = w4 at *
  obtain ⟨v1, hv⟩ : ∃ v, w3.heap.size = v := ⟨_, rfl⟩
  rw [hv] at b3 ⊢
  clear hv
  obtain ⟨d0, d1⟩ := cells2 b3
  go_wp2_with (go_at_call 11; (with_reducible refine (own5_b H1.out _).mono ?_); rintro e wk ⟨rfl, rfl⟩)
  clear d0 d1 b3
  rw [rounds_succ]
  obtain ⟨-, -, -, -, c4, c5⟩ := cells6 b2
  go_upto_region 4 with (fail)
  clear c4 c5
  have hk : Below w4.heap.size w4 (w4.alloc (.cells #[.func (.func 106) #[] #[], .func (.func 107) #[] #[]] 93)) := boxed _ _
  have b3 := heap_alloc_new w4 (.cells #[.func (.func 106) #[] #[], .func (.func 107) #[] #[]] 93)
  replace b1 := (hk.block w.heap.size z1).trans b1
  replace b2 := (hk.block vL z2).trans b2
  replace hb := bstep hb hk
  replace z1 := Nat.lt_of_lt_of_le z1 hk.size
  replace z2 := Nat.lt_of_lt_of_le z2 hk.size
  clear hk
  generalize (w4.alloc (.cells #[.func (.func 106) #[] #[], .func (.func 107) #[] #[]] 93)) = w5 at *
  obtain ⟨v2, hv⟩ : ∃ v, w4.heap.size = v := ⟨_, rfl⟩
  rw [hv] at b3 ⊢
  clear hv
  obtain ⟨d0, d1⟩ := cells2 b3
  go_wp2_with (go_at_call 106; (with_reducible refine (own6_b H2.out _).mono ?_); rintro e wk ⟨rfl, rfl⟩)
  clear d0 d1 b3
  rw [rounds_succ]
  obtain ⟨q0, q1⟩ := cells2 b1
  obtain ⟨qf0, qf1⟩ := frz2 b1
  go_wp2
  try rw [Exit.noGoto_ret]
  refine bodyPost_ret (v := .tuple #[.agg #[.nilFunc, .nilFunc], .bool false]) (by simp [results, Try.results59, go_sem, q0, q1]) rfl ?_
  exact ⟨rfl, hb.trans (((Turn.refl (fun b => b = w.heap.size) _).set rfl _ _).set rfl _ _ |>.to_below hb.size (fun g hg => by omega))⟩

end Go.Proofs.Ythpflcknommpdaa
