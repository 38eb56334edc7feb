/- Contracts: the limit, which ops are of layer 6, which layer an op is of, by the program. -/
import Derived.Test.YtfipcdhodojodaaGreatKHzA
import Derived.Test.YtfipcdhodojodaaGreatScn1
import Derived.Test.YtfipcdhodojodaaGreatStk9
import Derived.WalkMore
import Derived.Laws.EntriesVeiled
import Derived.Test.YtfipcdhodojodaaGreatKBas
import Derived.Deep.AppendSrc
import Derived.Deep.Upon
import Derived.Laws.MakeOwn
import Derived.Deep.RegionLaw
import Derived.Deep.RegionHeld3
import Derived.Test.YtfipcdhodojodaaGreatKWal
namespace Go.Proofs.YtfipcdhodojodaaGreat
open Go.RowKit
set_option maxRecDepth 100000
set_option maxHeartbeats 4000000
set_option linter.unusedVariables false
set_option linter.unusedSimpArgs false
theorem limit_any (n:Int) (w:World):Calls Tryz.prog 122 #[.int .i64 n] w fun e w'=>e = .returned (.int .i64 (pLimit n))∧w = w':=by
 go_enter Tryz.func122,Tryz.ntmps122
 go_wp2
 go_ret
 exact ⟨ret_int (by unfold pLimit wrap64;omega),rfl⟩
theorem own4_w (op:Int) (w:World):Calls Tryz.prog 84 #[.int .i64 op] w fun e w'=>e = .returned (.bool (op == 1 || op == 2))∧w = w':=by
 rcases Bool.eq_false_or_eq_true (op == 1) with h | h
 ·go_enter Tryz.func84,Tryz.ntmps84
  go_wp2
  go_ret
  rw [h]
  exact ⟨rfl,rfl⟩
 ·go_enter Tryz.func84,Tryz.ntmps84
  go_wp2
  go_ret
  rw [h]
  exact ⟨rfl,rfl⟩
theorem own6_w (op:Int) (w:World):Calls Tryz.prog 88 #[.int .i64 op] w fun e w'=>e = .returned (.bool (op == 5 || op == 6))∧w = w':=by
 rcases Bool.eq_false_or_eq_true (op == 5) with h | h
 ·go_enter Tryz.func88,Tryz.ntmps88
  go_wp2
  go_ret
  rw [h]
  exact ⟨rfl,rfl⟩
 ·go_enter Tryz.func88,Tryz.ntmps88
  go_wp2
  go_ret
  rw [h]
  exact ⟨rfl,rfl⟩
theorem own4_b {op:Int} {b:Bool} (h:(op == 1 || op == 2) = b) (w:World):Calls Tryz.prog 84 #[.int .i64 op] w fun e w'=>e = .returned (.bool b)∧w = w':=by subst h;exact own4_w op w
theorem own5_b {op:Int} {b:Bool} (h:(op == 3 || op == 4) = b) (w:World):Calls Tryz.prog 86 #[.int .i64 op] w fun e w'=>e = .returned (.bool b)∧w = w':=by subst h;exact own5_any op w
theorem own6_b {op:Int} {b:Bool} (h:(op == 5 || op == 6) = b) (w:World):Calls Tryz.prog 88 #[.int .i64 op] w fun e w'=>e = .returned (.bool b)∧w = w':=by subst h;exact own6_w op w
theorem layers_any (w:World):Calls Tryz.prog 68 #[] w fun e w'=>e = .returned (.slice (some ⟨w.heap.size,0,none⟩) 3 3)∧w'.heap[w.heap.size]? = some (.cells #[.func (.func 84) #[] #[],.func (.func 85) #[] #[],.func (.func 86) #[] #[],.func (.func 87) #[] #[],.func (.func 88) #[] #[],.func (.func 89) #[] #[]] 80 (0,0))∧Below w.heap.size w w':=by
 go_enter Tryz.func68,Tryz.ntmps68
 go_wp2
 go_ret
 exact ⟨rfl,heap_alloc_new _ _,boxed _ _⟩
theorem whose_0 (op:Int) (w:World) (h0:(op == 1 || op == 2) = true):Calls Tryz.prog 51 #[.int .i64 op] w fun e w'=>e = .returned (.tuple #[.agg #[.func (.func 84) #[] #[],.func (.func 85) #[] #[]],.bool true])∧Below w.heap.size w w':=by
 go_enter Tryz.func51,Tryz.ntmps51
 have b1:=heap_alloc_new w (.cells #[.nilFunc,.nilFunc] 80)
 have hb:Below w.heap.size w (w.alloc (.cells #[.nilFunc,.nilFunc] 80)):=boxed _ _
 have z1:w.heap.size < (w.alloc (.cells #[.nilFunc,.nilFunc] 80)).heap.size:=by simp
 have H0:=hid h0
 clear h0
 go_wp2
 go_step3
 go_wp2
 go_step3
 go_upto_region 1 with (fail)
 generalize (w.alloc (.cells #[.nilFunc,.nilFunc] 80)) = w1 at *
 go_wp2_with (go_at_call 68;(with_reducible refine (layers_any _).mono ?_);rintro e w2 ⟨rfl,b2,hk⟩)
 replace b1:=(hk.block w.heap.size z1).trans b1
 replace hb:=bstep hb hk
 have z2:w1.heap.size < w2.heap.size:=(Array.getElem?_eq_some_iff.1 b2).1
 replace z1:=Nat.lt_of_lt_of_le z1 hk.size
 clear hk
 generalize w1.heap.size = vL at *
 refine wp_loop_rounds 4 ?_
 rw [rounds_succ]
 obtain ⟨c0,c1⟩:=cells2 b2
 go_upto_region 4 with (fail)
 clear c0 c1
 have hk:Below w2.heap.size w2 (w2.alloc (.cells #[.func (.func 84) #[] #[],.func (.func 85) #[] #[]] 80)):=boxed _ _
 have b3:=heap_alloc_new w2 (.cells #[.func (.func 84) #[] #[],.func (.func 85) #[] #[]] 80)
 replace b1:=(hk.block w.heap.size z1).trans b1
 replace b2:=(hk.block vL z2).trans b2
 replace hb:=bstep hb hk
 replace z1:=Nat.lt_of_lt_of_le z1 hk.size
 replace z2:=Nat.lt_of_lt_of_le z2 hk.size
 clear hk
 generalize (w2.alloc (.cells #[.func (.func 84) #[] #[],.func (.func 85) #[] #[]] 80)) = w3 at *
 obtain ⟨v0,hv⟩:∃ v,w2.heap.size = v:=⟨_,rfl⟩
 rw [hv] at b3 ⊢
 clear hv
 obtain ⟨d0,d1⟩:=cells2 b3
 obtain ⟨q0,q1⟩:=cells2 b1
 obtain ⟨qf0,qf1⟩:=frz2 b1
 go_wp2_with (go_at_call 84;(with_reducible refine (own4_b H0.out _).mono ?_);rintro e wk ⟨rfl,rfl⟩)
 try rw [Exit.noGoto_ret]
 refine bodyPost_ret (v:=.tuple #[.agg #[.func (.func 84) #[] #[],.func (.func 85) #[] #[]],.bool true]) (by simp [results,Tryz.results51,go_sem,q0,q1]) rfl ?_
 exact ⟨rfl,hb.trans (((Turn.refl (fun b=>b = w.heap.size) _).set rfl _ _).set rfl _ _ |>.to_below hb.size (fun g hg=>by omega))⟩
theorem whose_1 (op:Int) (w:World) (h0:(op == 1 || op == 2) = false) (h1:(op == 3 || op == 4) = true):Calls Tryz.prog 51 #[.int .i64 op] w fun e w'=>e = .returned (.tuple #[.agg #[.func (.func 86) #[] #[],.func (.func 87) #[] #[]],.bool true])∧Below w.heap.size w w':=by
 go_enter Tryz.func51,Tryz.ntmps51
 have b1:=heap_alloc_new w (.cells #[.nilFunc,.nilFunc] 80)
 have hb:Below w.heap.size w (w.alloc (.cells #[.nilFunc,.nilFunc] 80)):=boxed _ _
 have z1:w.heap.size < (w.alloc (.cells #[.nilFunc,.nilFunc] 80)).heap.size:=by simp
 have H0:=hid h0
 have H1:=hid h1
 clear h0 h1
 go_wp2
 go_step3
 go_wp2
 go_step3
 go_upto_region 1 with (fail)
 generalize (w.alloc (.cells #[.nilFunc,.nilFunc] 80)) = w1 at *
 go_wp2_with (go_at_call 68;(with_reducible refine (layers_any _).mono ?_);rintro e w2 ⟨rfl,b2,hk⟩)
 replace b1:=(hk.block w.heap.size z1).trans b1
 replace hb:=bstep hb hk
 have z2:w1.heap.size < w2.heap.size:=(Array.getElem?_eq_some_iff.1 b2).1
 replace z1:=Nat.lt_of_lt_of_le z1 hk.size
 clear hk
 generalize w1.heap.size = vL at *
 refine wp_loop_rounds 4 ?_
 rw [rounds_succ]
 obtain ⟨c0,c1⟩:=cells2 b2
 go_upto_region 4 with (fail)
 clear c0 c1
 have hk:Below w2.heap.size w2 (w2.alloc (.cells #[.func (.func 84) #[] #[],.func (.func 85) #[] #[]] 80)):=boxed _ _
 have b3:=heap_alloc_new w2 (.cells #[.func (.func 84) #[] #[],.func (.func 85) #[] #[]] 80)
 replace b1:=(hk.block w.heap.size z1).trans b1
 replace b2:=(hk.block vL z2).trans b2
 replace hb:=bstep hb hk
 replace z1:=Nat.lt_of_lt_of_le z1 hk.size
 replace z2:=Nat.lt_of_lt_of_le z2 hk.size
 clear hk
 generalize (w2.alloc (.cells #[.func (.func 84) #[] #[],.func (.func 85) #[] #[]] 80)) = w3 at *
 obtain ⟨v0,hv⟩:∃ v,w2.heap.size = v:=⟨_,rfl⟩
 rw [hv] at b3 ⊢
 clear hv
 obtain ⟨d0,d1⟩:=cells2 b3
 go_wp2_with (go_at_call 84;(with_reducible refine (own4_b H0.out _).mono ?_);rintro e wk ⟨rfl,rfl⟩)
 clear d0 d1 b3
 rw [rounds_succ]
 obtain ⟨-,-,c2,c3⟩:=cells4 b2
 go_upto_region 4 with (fail)
 clear c2 c3
 have hk:Below w3.heap.size w3 (w3.alloc (.cells #[.func (.func 86) #[] #[],.func (.func 87) #[] #[]] 80)):=boxed _ _
 have b3:=heap_alloc_new w3 (.cells #[.func (.func 86) #[] #[],.func (.func 87) #[] #[]] 80)
 replace b1:=(hk.block w.heap.size z1).trans b1
 replace b2:=(hk.block vL z2).trans b2
 replace hb:=bstep hb hk
 replace z1:=Nat.lt_of_lt_of_le z1 hk.size
 replace z2:=Nat.lt_of_lt_of_le z2 hk.size
 clear hk
 generalize (w3.alloc (.cells #[.func (.func 86) #[] #[],.func (.func 87) #[] #[]] 80)) = w4 at *
 obtain ⟨v1,hv⟩:∃ v,w3.heap.size = v:=⟨_,rfl⟩
 rw [hv] at b3 ⊢
 clear hv
 obtain ⟨d0,d1⟩:=cells2 b3
 obtain ⟨q0,q1⟩:=cells2 b1
 obtain ⟨qf0,qf1⟩:=frz2 b1
 go_wp2_with (go_at_call 86;(with_reducible refine (own5_b H1.out _).mono ?_);rintro e wk ⟨rfl,rfl⟩)
 try rw [Exit.noGoto_ret]
 refine bodyPost_ret (v:=.tuple #[.agg #[.func (.func 86) #[] #[],.func (.func 87) #[] #[]],.bool true]) (by simp [results,Tryz.results51,go_sem,q0,q1]) rfl ?_
 exact ⟨rfl,hb.trans (((Turn.refl (fun b=>b = w.heap.size) _).set rfl _ _).set rfl _ _ |>.to_below hb.size (fun g hg=>by omega))⟩
theorem whose_2 (op:Int) (w:World) (h0:(op == 1 || op == 2) = false) (h1:(op == 3 || op == 4) = false) (h2:(op == 5 || op == 6) = true):Calls Tryz.prog 51 #[.int .i64 op] w fun e w'=>e = .returned (.tuple #[.agg #[.func (.func 88) #[] #[],.func (.func 89) #[] #[]],.bool true])∧Below w.heap.size w w':=by
 go_enter Tryz.func51,Tryz.ntmps51
 have b1:=heap_alloc_new w (.cells #[.nilFunc,.nilFunc] 80)
 have hb:Below w.heap.size w (w.alloc (.cells #[.nilFunc,.nilFunc] 80)):=boxed _ _
 have z1:w.heap.size < (w.alloc (.cells #[.nilFunc,.nilFunc] 80)).heap.size:=by simp
 have H0:=hid h0
 have H1:=hid h1
 have H2:=hid h2
 clear h0 h1 h2
 go_wp2
 go_step3
 go_wp2
 go_step3
 go_upto_region 1 with (fail)
 generalize (w.alloc (.cells #[.nilFunc,.nilFunc] 80)) = w1 at *
 go_wp2_with (go_at_call 68;(with_reducible refine (layers_any _).mono ?_);rintro e w2 ⟨rfl,b2,hk⟩)
 replace b1:=(hk.block w.heap.size z1).trans b1
 replace hb:=bstep hb hk
 have z2:w1.heap.size < w2.heap.size:=(Array.getElem?_eq_some_iff.1 b2).1
 replace z1:=Nat.lt_of_lt_of_le z1 hk.size
 clear hk
 generalize w1.heap.size = vL at *
 refine wp_loop_rounds 4 ?_
 rw [rounds_succ]
 obtain ⟨c0,c1⟩:=cells2 b2
 go_upto_region 4 with (fail)
 clear c0 c1
 have hk:Below w2.heap.size w2 (w2.alloc (.cells #[.func (.func 84) #[] #[],.func (.func 85) #[] #[]] 80)):=boxed _ _
 have b3:=heap_alloc_new w2 (.cells #[.func (.func 84) #[] #[],.func (.func 85) #[] #[]] 80)
 replace b1:=(hk.block w.heap.size z1).trans b1
 replace b2:=(hk.block vL z2).trans b2
 replace hb:=bstep hb hk
 replace z1:=Nat.lt_of_lt_of_le z1 hk.size
 replace z2:=Nat.lt_of_lt_of_le z2 hk.size
 clear hk
 generalize (w2.alloc (.cells #[.func (.func 84) #[] #[],.func (.func 85) #[] #[]] 80)) = w3 at *
 obtain ⟨v0,hv⟩:∃ v,w2.heap.size = v:=⟨_,rfl⟩
 rw [hv] at b3 ⊢
 clear hv
 obtain ⟨d0,d1⟩:=cells2 b3
 go_wp2_with (go_at_call 84;(with_reducible refine (own4_b H0.out _).mono ?_);rintro e wk ⟨rfl,rfl⟩)
 clear d0 d1 b3
 rw [rounds_succ]
 obtain ⟨-,-,c2,c3⟩:=cells4 b2
 go_upto_region 4 with (fail)
 clear c2 c3
 have hk:Below w3.heap.size w3 (w3.alloc (.cells #[.func (.func 86) #[] #[],.func (.func 87) #[] #[]] 80)):=boxed _ _
 have b3:=heap_alloc_new w3 (.cells #[.func (.func 86) #[] #[],.func (.func 87) #[] #[]] 80)
 replace b1:=(hk.block w.heap.size z1).trans b1
 replace b2:=(hk.block vL z2).trans b2
 replace hb:=bstep hb hk
 replace z1:=Nat.lt_of_lt_of_le z1 hk.size
 replace z2:=Nat.lt_of_lt_of_le z2 hk.size
 clear hk
 generalize (w3.alloc (.cells #[.func (.func 86) #[] #[],.func (.func 87) #[] #[]] 80)) = w4 at *
 obtain ⟨v1,hv⟩:∃ v,w3.heap.size = v:=⟨_,rfl⟩
 rw [hv] at b3 ⊢
 clear hv
 obtain ⟨d0,d1⟩:=cells2 b3
 go_wp2_with (go_at_call 86;(with_reducible refine (own5_b H1.out _).mono ?_);rintro e wk ⟨rfl,rfl⟩)
 clear d0 d1 b3
 rw [rounds_succ]
 obtain ⟨-,-,-,-,c4,c5⟩:=cells6 b2
 go_upto_region 4 with (fail)
 clear c4 c5
 have hk:Below w4.heap.size w4 (w4.alloc (.cells #[.func (.func 88) #[] #[],.func (.func 89) #[] #[]] 80)):=boxed _ _
 have b3:=heap_alloc_new w4 (.cells #[.func (.func 88) #[] #[],.func (.func 89) #[] #[]] 80)
 replace b1:=(hk.block w.heap.size z1).trans b1
 replace b2:=(hk.block vL z2).trans b2
 replace hb:=bstep hb hk
 replace z1:=Nat.lt_of_lt_of_le z1 hk.size
 replace z2:=Nat.lt_of_lt_of_le z2 hk.size
 clear hk
 generalize (w4.alloc (.cells #[.func (.func 88) #[] #[],.func (.func 89) #[] #[]] 80)) = w5 at *
 obtain ⟨v2,hv⟩:∃ v,w4.heap.size = v:=⟨_,rfl⟩
 rw [hv] at b3 ⊢
 clear hv
 obtain ⟨d0,d1⟩:=cells2 b3
 obtain ⟨q0,q1⟩:=cells2 b1
 obtain ⟨qf0,qf1⟩:=frz2 b1
 go_wp2_with (go_at_call 88;(with_reducible refine (own6_b H2.out _).mono ?_);rintro e wk ⟨rfl,rfl⟩)
 try rw [Exit.noGoto_ret]
 refine bodyPost_ret (v:=.tuple #[.agg #[.func (.func 88) #[] #[],.func (.func 89) #[] #[]],.bool true]) (by simp [results,Tryz.results51,go_sem,q0,q1]) rfl ?_
 exact ⟨rfl,hb.trans (((Turn.refl (fun b=>b = w.heap.size) _).set rfl _ _).set rfl _ _ |>.to_below hb.size (fun g hg=>by omega))⟩
theorem whose_3 (op:Int) (w:World) (h0:(op == 1 || op == 2) = false) (h1:(op == 3 || op == 4) = false) (h2:(op == 5 || op == 6) = false):Calls Tryz.prog 51 #[.int .i64 op] w fun e w'=>e = .returned (.tuple #[.agg #[.nilFunc,.nilFunc],.bool false])∧Below w.heap.size w w':=by
 go_enter Tryz.func51,Tryz.ntmps51
 have b1:=heap_alloc_new w (.cells #[.nilFunc,.nilFunc] 80)
 have hb:Below w.heap.size w (w.alloc (.cells #[.nilFunc,.nilFunc] 80)):=boxed _ _
 have z1:w.heap.size < (w.alloc (.cells #[.nilFunc,.nilFunc] 80)).heap.size:=by simp
 have H0:=hid h0
 have H1:=hid h1
 have H2:=hid h2
 clear h0 h1 h2
 go_wp2
 go_step3
 go_wp2
 go_step3
 go_upto_region 1 with (fail)
 generalize (w.alloc (.cells #[.nilFunc,.nilFunc] 80)) = w1 at *
 go_wp2_with (go_at_call 68;(with_reducible refine (layers_any _).mono ?_);rintro e w2 ⟨rfl,b2,hk⟩)
 replace b1:=(hk.block w.heap.size z1).trans b1
 replace hb:=bstep hb hk
 have z2:w1.heap.size < w2.heap.size:=(Array.getElem?_eq_some_iff.1 b2).1
 replace z1:=Nat.lt_of_lt_of_le z1 hk.size
 clear hk
 generalize w1.heap.size = vL at *
 refine wp_loop_rounds 4 ?_
 rw [rounds_succ]
 obtain ⟨c0,c1⟩:=cells2 b2
 go_upto_region 4 with (fail)
 clear c0 c1
 have hk:Below w2.heap.size w2 (w2.alloc (.cells #[.func (.func 84) #[] #[],.func (.func 85) #[] #[]] 80)):=boxed _ _
 have b3:=heap_alloc_new w2 (.cells #[.func (.func 84) #[] #[],.func (.func 85) #[] #[]] 80)
 replace b1:=(hk.block w.heap.size z1).trans b1
 replace b2:=(hk.block vL z2).trans b2
 replace hb:=bstep hb hk
 replace z1:=Nat.lt_of_lt_of_le z1 hk.size
 replace z2:=Nat.lt_of_lt_of_le z2 hk.size
 clear hk
 generalize (w2.alloc (.cells #[.func (.func 84) #[] #[],.func (.func 85) #[] #[]] 80)) = w3 at *
 obtain ⟨v0,hv⟩:∃ v,w2.heap.size = v:=⟨_,rfl⟩
 rw [hv] at b3 ⊢
 clear hv
 obtain ⟨d0,d1⟩:=cells2 b3
 go_wp2_with (go_at_call 84;(with_reducible refine (own4_b H0.out _).mono ?_);rintro e wk ⟨rfl,rfl⟩)
 clear d0 d1 b3
 rw [rounds_succ]
 obtain ⟨-,-,c2,c3⟩:=cells4 b2
 go_upto_region 4 with (fail)
 clear c2 c3
 have hk:Below w3.heap.size w3 (w3.alloc (.cells #[.func (.func 86) #[] #[],.func (.func 87) #[] #[]] 80)):=boxed _ _
 have b3:=heap_alloc_new w3 (.cells #[.func (.func 86) #[] #[],.func (.func 87) #[] #[]] 80)
 replace b1:=(hk.block w.heap.size z1).trans b1
 replace b2:=(hk.block vL z2).trans b2
 replace hb:=bstep hb hk
 replace z1:=Nat.lt_of_lt_of_le z1 hk.size
 replace z2:=Nat.lt_of_lt_of_le z2 hk.size
 clear hk
 generalize (w3.alloc (.cells #[.func (.func 86) #[] #[],.func (.func 87) #[] #[]] 80)) = w4 at *
 obtain ⟨v1,hv⟩:∃ v,w3.heap.size = v:=⟨_,rfl⟩
 rw [hv] at b3 ⊢
 clear hv
 obtain ⟨d0,d1⟩:=cells2 b3
 go_wp2_with (go_at_call 86;(with_reducible refine (own5_b H1.out _).mono ?_);rintro e wk ⟨rfl,rfl⟩)
 clear d0 d1 b3
 rw [rounds_succ]
 obtain ⟨-,-,-,-,c4,c5⟩:=cells6 b2
 go_upto_region 4 with (fail)
 clear c4 c5
 have hk:Below w4.heap.size w4 (w4.alloc (.cells #[.func (.func 88) #[] #[],.func (.func 89) #[] #[]] 80)):=boxed _ _
 have b3:=heap_alloc_new w4 (.cells #[.func (.func 88) #[] #[],.func (.func 89) #[] #[]] 80)
 replace b1:=(hk.block w.heap.size z1).trans b1
 replace b2:=(hk.block vL z2).trans b2
 replace hb:=bstep hb hk
 replace z1:=Nat.lt_of_lt_of_le z1 hk.size
 replace z2:=Nat.lt_of_lt_of_le z2 hk.size
 clear hk
 generalize (w4.alloc (.cells #[.func (.func 88) #[] #[],.func (.func 89) #[] #[]] 80)) = w5 at *
 obtain ⟨v2,hv⟩:∃ v,w4.heap.size = v:=⟨_,rfl⟩
 rw [hv] at b3 ⊢
 clear hv
 obtain ⟨d0,d1⟩:=cells2 b3
 go_wp2_with (go_at_call 88;(with_reducible refine (own6_b H2.out _).mono ?_);rintro e wk ⟨rfl,rfl⟩)
 clear d0 d1 b3
 rw [rounds_succ]
 obtain ⟨q0,q1⟩:=cells2 b1
 obtain ⟨qf0,qf1⟩:=frz2 b1
 go_wp2
 try rw [Exit.noGoto_ret]
 refine bodyPost_ret (v:=.tuple #[.agg #[.nilFunc,.nilFunc],.bool false]) (by simp [results,Tryz.results51,go_sem,q0,q1]) rfl ?_
 exact ⟨rfl,hb.trans (((Turn.refl (fun b=>b = w.heap.size) _).set rfl _ _).set rfl _ _ |>.to_below hb.size (fun g hg=>by omega))⟩
theorem run_append_full {P:Program} {w:World} (t ty:TypeId)
  (hinfo:(P.info? 3).map (fun i=>(i.zero,i.size,i.bytes)) = some (some (.int .i64 0),1,8)) (ht:P.underlying t = some (.slice 3))
  (A:Option Addr) (xs:List Int) (hp:Row w A xs) (hlen:xs.length≤1000000) (A2:Option Addr) (c2:Nat) (ys:List Int) (hY:Row w A2 ys) (hl2:ys.length≤1000000) :
  ∃ A' c' w',(Builtin.append_ #[t,t] ty #[.slice A xs.length xs.length,.slice A2 ys.length c2]).run P w = .ok (.slice A' (xs++ys).length c') w'∧Row w' A' (xs++ys)∧(xs++ys).length≤c'∧Below w.heap.size w w'∧((A' = A∧ys = []) ∨ A' = some ⟨w.heap.size,0,none⟩):=by
 obtain ⟨i,hi,hz0,hz1,hz2⟩:=info_parts hinfo
 have hsrc:Go.Src P i.size t (.slice A2 ys.length c2) ys.length (ys.map (Value.int .i64)) w:=by
  rcases Nat.eq_zero_or_pos ys.length with h0 | h0
  ·have e:ys = []:=List.eq_nil_of_length_eq_zero h0
   subst e
   cases A2 with
   | none=>exact Go.Src.ofNil w ht c2
   | some ad=>exact Go.Src.ofSlice w ht ad 0 c2 [] (by simp) (fun j v hj=>by simp at hj) (fun u hu=>by cases hu)
  ·obtain ⟨b,o,rfl,_,hc⟩:=hY h0
   refine Go.Src.ofSlice w ht _ ys.length c2 _ (by rw [hz1];simp) (fun j u hj=>?_) (fun u hu=>?_)
   ·simp only [List.getElem?_map,Option.map_eq_some_iff] at hj
    obtain ⟨y,hy,rfl⟩:=hj
    rw [Addr.add_lit]
    exact hc j y hy
   ·simp only [List.mem_map] at hu
    obtain ⟨y,_,rfl⟩:=hu
    rfl
 have hold:(Builtin.firstCells i.size xs.length (.slice A xs.length xs.length)).run P w.drew = .ok (xs.map (Value.int .i64)).toArray w.drew:=by
  rcases Nat.eq_zero_or_pos xs.length with h0 | h0
  ·have e:xs = []:=List.eq_nil_of_length_eq_zero h0
   subst e
   cases A with
   | none=>exact run_firstCells_none w.drew i.size 0 0 0
   | some ad=>exact run_firstCells_some w.drew i.size 0 ad 0 0 [] (by simp) (fun j v hj=>by simp at hj)
  ·obtain ⟨b,of,rfl,_,hcell⟩:=hp h0
   refine run_firstCells_some w.drew i.size xs.length ⟨b,of,none⟩ xs.length xs.length _ (by rw [hz1];simp) (fun j u hj=>?_)
   simp only [List.getElem?_map,Option.map_eq_some_iff] at hj
   obtain ⟨y,hy,rfl⟩:=hj
   rw [Addr.add_lit]
   simpa using hcell j y hy
 rcases Nat.eq_zero_or_pos ys.length with h0 | h0
 ·have e:ys = []:=List.eq_nil_of_length_eq_zero h0
  subst e
  refine ⟨A,xs.length,w,?_,by rw [List.append_nil];exact hp,by simp,Below.refl _ _,.inl ⟨rfl,rfl⟩⟩
  have hr:=run_append_nothing (P:=P) w t t ty 3 i ht hi A xs.length xs.length (Nat.le_refl _) (.slice A2 0 c2) hsrc
  rw [List.append_nil]
  exact hr
 ·have hr:=run_append_grow_src (P:=P) w t t ty 3 i (.int .i64 0) ht hi hz0 A xs.length xs.length (xs.map (Value.int .i64)) hold (.slice A2 ys.length c2) ys.length (ys.map (Value.int .i64)) hsrc (by omega) (by omega) (by
   rw [hz2]
   have:=nextslicecap_le (need:=xs.length+ys.length) (old:=xs.length) (by omega)
   omega)
  obtain ⟨g,hg⟩:∃ g,g = grownCap w (xs.length+ys.length) xs.length 3:=⟨_,rfl⟩
  have hgl:xs.length+ys.length≤g:=by rw [hg];exact grownCap_ge _ _ _ _
  rw [← hg] at hr
  refine ⟨some ⟨w.heap.size,0,none⟩,g,w.drew.alloc (.cells ((xs.map (Value.int .i64)++ys.map (Value.int .i64)).toArray++Builtin.zeroCells (Value.cells (Value.int .i64 0)) (g - (xs.length+ys.length))) 3),by rw [List.length_append];exact hr,fun _=>⟨w.heap.size,0,rfl,by simp,fun j y hj=>?_⟩,by rw [List.length_append];exact hgl,?_,.inr rfl⟩
  ·have hb:=heap_alloc_new w.drew (.cells ((xs.map (Value.int .i64)++ys.map (Value.int .i64)).toArray++Builtin.zeroCells (Value.cells (Value.int .i64 0)) (g - (xs.length+ys.length))) 3)
   rw [Nat.zero_add,cell_of_row _ w.heap.size j _ _ _ hb]
   have hjl:j < xs.length+ys.length:=by
    have:=(List.getElem?_eq_some_iff.1 hj).1
    simpa using this
   rw [Array.getElem?_append_left (by simpa using hjl)]
   have:((xs++ys).map (Value.int .i64))[j]? = some (.int .i64 y):=by rw [List.getElem?_map,hj];rfl
   simpa using this
  ·exact ((Below.refl w.heap.size w).drew).alloc (by simp) _
theorem wpList_append_full {P:Program} {w:World} {ops:Array Oper} {rest:List Oper} {o:Oper} {a:Act} {Q:Exit→Act→World→Prop} (hgd:o.guard = none) (s x:Operand) (t:TypeId)
  (ho:o.op = .call { callee:=.builtin .append,args:=#[s,x],argTypes:=#[t,t] })
  (hinfo:(P.info? 3).map (fun i=>(i.zero,i.size,i.bytes)) = some (some (.int .i64 0),1,8)) (ht:P.underlying t = some (.slice 3))
  (A:Option Addr) (xs:List Int) (n c:Nat) (hs:a.eval s = .slice A n c) (hn:n = xs.length) (hc:c = xs.length) (hp:Row w A xs) (hlen:xs.length≤1000000)
  (A2:Option Addr) (c2 m:Nat) (ys:List Int) (hx:a.eval x = .slice A2 m c2) (hm:m = ys.length) (hY:Row w A2 ys) (hl2:ys.length≤1000000)
  (h:∀ A' c' w',Row w' A' (xs++ys)→(xs++ys).length≤c'→Below w.heap.size w w'→((A' = A∧ys = []) ∨ A' = some ⟨w.heap.size,0,none⟩)→wpList P ops Q rest (a.put o.dst (.slice A' (xs++ys).length c')) w'):wpList P ops Q (o :: rest) a w:=by
 subst hn;subst hc;subst hm
 obtain ⟨A',c',w',hr,h1,h1c,h2,h3⟩:=run_append_full (P:=P) t o.type hinfo ht A xs hp hlen A2 c2 ys hY hl2
 refine wpList_plain hgd fun K hK=>?_
 unfold Oper.wp execOp
 simp only [ho,resolve,invoke,builtin,Sem.run_bind,Sem.run_pure,Result.andThen_ok,List.map_toArray,List.map_cons,List.map_nil,hs,hx,hr]
 exact hK _ _ (h A' c' w' h1 h1c h2 h3)
theorem step_append_full {P:Program} {w:World} {ops:Array Oper} {o:Oper} {a:Act} {K:Act→World→Prop} {Q:Exit→Act→World→Prop} {E:Prop} (hgd:o.guard = none) (s x:Operand) (t:TypeId)
  (ho:o.op = .call { callee:=.builtin .append,args:=#[s,x],argTypes:=#[t,t] })
  (hinfo:(P.info? 3).map (fun i=>(i.zero,i.size,i.bytes)) = some (some (.int .i64 0),1,8)) (ht:P.underlying t = some (.slice 3))
  (A:Option Addr) (xs:List Int) (n c:Nat) (hs:a.eval s = .slice A n c) (hn:n = xs.length) (hc:c = xs.length) (hp:Row w A xs) (hlen:xs.length≤1000000)
  (A2:Option Addr) (c2 m:Nat) (ys:List Int) (hx:a.eval x = .slice A2 m c2) (hm:m = ys.length) (hY:Row w A2 ys) (hl2:ys.length≤1000000)
  (h:∀ A' c' w',Row w' A' (xs++ys)→(xs++ys).length≤c'→Below w.heap.size w w'→((A' = A∧ys = []) ∨ A' = some ⟨w.heap.size,0,none⟩)→K (a.put o.dst (.slice A' (xs++ys).length c')) w') :
  if Region.wanted o (yielded ops a.tmps) = true then Oper.wp P o a w K Q else E:=by
 subst hn;subst hc;subst hm
 have hw:Region.wanted o (yielded ops a.tmps) = true:=by simp [Region.wanted,hgd]
 rw [if_pos hw]
 obtain ⟨A',c',w',hr,h1,h1c,h2,h3⟩:=run_append_full (P:=P) t o.type hinfo ht A xs hp hlen A2 c2 ys hY hl2
 unfold Oper.wp execOp
 simp only [ho,resolve,invoke,builtin,Sem.run_bind,Sem.run_pure,Result.andThen_ok,List.map_toArray,List.map_cons,List.map_nil,hs,hx,hr]
 exact h A' c' w' h1 h1c h2 h3
theorem infoI:(Tryz.prog.info? 3).map (fun i=>(i.zero,i.size,i.bytes)) = some (some (.int .i64 0),1,8):=by kernel_rfl
theorem Row.cut {w:World} {A:Option Addr} {xs:List Int} (h:Row w A xs) (i:Nat) (p:Prop) [Decidable p] (ys:List Int) (hy:∀ j y,ys[j]? = some y→xs[i+j]? = some y) (hp:p→ys = []):Row w (if p then A else Option.map (fun x=>({ block:=x.block,off:=x.off+i }:Addr)) A) ys:=fun hn=>by
 have q:¬ p:=fun q=>by rw [hp q] at hn;simp at hn
 have hx:=hy 0 _ (List.getElem?_eq_getElem hn)
 obtain ⟨b,o,e,hl,hc⟩:=h (by have:=(List.getElem?_eq_some_iff.1 hx).1;omega)
 refine ⟨b,o+i,by rw [if_neg q,e];rfl,hl,fun j y hj=>?_⟩
 have:=hc (i+j) y (hy j y hj)
 rw [show o+i+j = o+(i+j) by omega];exact this
theorem more_any (A:Option Addr) (c:Nat) (xs:List Int) (z:Int) (w:World) (h:Row w A xs) (hc:xs.length≤c) (hl:xs.length≤1000000) :
  Calls Tryz.prog 121 #[.slice A xs.length c,.int .i64 z] w fun e w'=>∃ (A':Option Addr) (c':Nat),e = .returned (.slice A' (xs++[z]).length c')∧Row w' A' (xs++[z])∧(xs++[z]).length≤c'∧Below w.heap.size w w'∧∀ q,A' = some q→w.heap.size≤q.block:=by
 go_enter Tryz.func121,Tryz.ntmps121
 go_wp2_with (at_builtin;refine wpList_append_full rfl _ _ _ rfl infoI Tryz.underlying24 _ xs _ _ rfl (by omega) (by omega) (h.alloc _) hl _ _ _ [z] rfl rfl (Blk.row (xs:=[z]) (heap_alloc_new w _)) (by simp) ?_;intro A' c' w' rA hcA hk hw)
 refine bodyPost_ret (v:=.slice A' (xs++[z]).length c') (by simp [results,Tryz.results121,go_sem]) rfl ?_
 refine ⟨A',c',rfl,rA,hcA,bstep (boxed _ _) hk,fun q e=>?_⟩
 rcases hw with ⟨_,h0⟩ | h0
 ·simp at h0
 ·rw [h0] at e;injection e with e;subst e;simp
theorem without_L (A:Option Addr) (c:Nat) (xs L:List Int) (k:Nat) (w:World) (h:Row w A xs) (hc:xs.length≤c) (hl:xs.length≤1000000) (hk:k < xs.length) (hL:L = xs.take k++xs.drop (k+1)) :
  Calls Tryz.prog 124 #[.slice A xs.length c,.int .i64 k] w fun e w'=>∃ (A':Option Addr) (c':Nat),e = .returned (.slice A' L.length c')∧Row w' A' L∧L.length≤c'∧Below w.heap.size w w'∧∀ q,A' = some q→A = some q ∨ w.heap.size≤q.block:=by
 have e1:(xs.take k).length = k:=by simp;omega
 have e2:(xs.drop (k+1)).length = xs.length - (k+1):=by simp
 have E3:=hid (show k+(xs.length - (k+1)) = L.length by rw [hL,List.length_append,e1,e2])
 have k1:k≤c:=by omega
 have k2:k+1≤xs.length:=by omega
 have k3:k+1≤c:=by omega
 have k4:IntKind.i64.wrap ((k:Int)+1) = (k:Int)+1:=IntWalk.i64_in _ (by omega)
 have k5:0≤(k:Int)+1:=by omega
 have k6:(k:Int)+1≤(xs.length:Int):=by omega
 have rT:Row w A (xs.take k):=fun hn=>by
  obtain ⟨b,o,e,h1,h2⟩:=h (by omega)
  exact ⟨b,o,e,h1,fun j x hx=>h2 j x (by rw [List.getElem?_take] at hx;split at hx;exact hx;cases hx)⟩
 have rD:=h.cut (k+1) (c = k+1) (xs.drop (k+1)) (fun j y hj=>by simpa using hj) (fun q=>List.eq_nil_of_length_eq_zero (by omega))
 have HL:=hid hL
 clear hL
 go_enter Tryz.func124,Tryz.ntmps124
 go_upto_region 1 with (fail)
 go_region_held3 (fun w'=>Below w.heap.size w w') (exact (by repeat (first | (with_reducible exact Below.refl _ _) | (with_reducible refine Below.drew ?_) | (with_reducible refine bstep ?_ hk9))))
  (first | (refine step_append_full rfl _ _ _ rfl infoI Tryz.underlying24 _ (xs.take k) _ _ rfl (by omega) (by omega) (rT.step (by repeat (first | (with_reducible exact Below.refl _ _) | (with_reducible refine Below.drew ?_)))) (by omega) _ _ _ (xs.drop (k+1)) rfl (by omega) (rD.step (by repeat (first | (with_reducible exact Below.refl _ _) | (with_reducible refine Below.drew ?_)))) (by omega) ?_;intro A' c' w4 rA hcA hk9 hw9;rw [← HL.out] at rA hcA ⊢))
 rename_i hHeld
 clear e1 e2
 go_wp2
 all_goals refine bodyPost_ret (v:=.slice A' L.length c') (by simp [results,Tryz.results124,go_sem]) rfl ?_
 all_goals refine ⟨A',c',rfl,rA,hcA,hHeld,fun q e=>?_⟩
 all_goals rcases hw9 with ⟨h0,_⟩ | h0
 all_goals first | (left;rw [← h0];exact e) | (right;rw [h0] at e;injection e with e;subst e;simp)
theorem without_any (A:Option Addr) (c:Nat) (xs:List Int) (k:Nat) (w:World) (h:Row w A xs) (hc:xs.length≤c) (hl:xs.length≤1000000) (hk:k < xs.length) :
  Calls Tryz.prog 124 #[.slice A xs.length c,.int .i64 k] w fun e w'=>∃ (A':Option Addr) (c':Nat),e = .returned (.slice A' (xs.take k++xs.drop (k+1)).length c')∧Row w' A' (xs.take k++xs.drop (k+1))∧(xs.take k++xs.drop (k+1)).length≤c'∧Below w.heap.size w w'∧∀ q,A' = some q→A = some q ∨ w.heap.size≤q.block:=by
 exact without_L A c xs _ k w h hc hl hk rfl
theorem contains_at6 {l:List Int} {p:Int} {k:Nat} (hk:k < l.length) (h:l[k] = p):p ∈ l:=by
 rw [← h];exact List.getElem_mem hk
theorem contains_no6 {l:List Int} {p:Int} (h:∀ j,j < l.length→l[j]? ≠ some p):¬ p ∈ l:=by
 intro hc
 obtain ⟨i,hi⟩:=List.mem_iff_getElem?.1 hc
 exact h i (List.getElem?_eq_some_iff.1 hi).1 hi
theorem index_any (A:Option Addr) (c:Nat) (l:List Int) (p:Int) (w:World) (h:Row w A l) (hl:l.length≤1000000) :
  Calls Tryz.prog 129 #[.slice A l.length c,.int .i64 p] w fun e w'=>∃ n:Int,e = .returned (.int .i64 n)∧(0≤n ↔ p ∈ l)∧w = w':=by
 go_enter Tryz.func129,Tryz.ntmps129
 go_wp2
 go_loop [8] (fun i=>∃ k:Nat,k≤l.length∧i = .int .i64 k∧Hid (∀ j,j < k→l[j]? ≠ some p)) (fun i=>l.length - (intOf i).toNat)
 case atStart=>exact ⟨0,Nat.zero_le _,rfl,hid (fun j hj=>by omega)⟩
 case round =>
  obtain ⟨k,hk,rfl,HT⟩:=hrel
  by_cases hlt:k < l.length
  ·have kl:(k:Int) < (l.length:Int):=by omega
   obtain ⟨b1,o1,rfl,hb1,hc⟩:=h.atE k hlt
   have HE:=hid (List.getElem?_eq_getElem hlt)
   obtain ⟨z,hz⟩:∃ z,z = l[k]:=⟨_,rfl⟩
   rw [← hz] at hc HE
   have HZ:=hid hz
   clear hz
   by_cases hzp:p = z
   ·have e1:(p == z) = true:=by simpa using hzp
    have HP:=hid (contains_at6 hlt (HZ.out.symm.trans hzp.symm))
    clear hzp
    go_wp2_with fail
    go_ret
    exact ⟨(k:Int),rfl,⟨fun _=>HP.out,fun _=>by omega⟩,rfl⟩
   ·have e1:(p == z) = false:=by simpa using hzp
    have HN:=hid (show ∀ j,j < k+1→l[j]? ≠ some p from fun j hj=>by
     rcases Nat.lt_or_ge j k with q | q
     ·exact HT.out j q
     ·have:j = k:=by omega
      subst this
      rw [HE.out]
      intro e
      exact hzp (Option.some.inj e).symm)
    clear hzp HE HZ HT
    go_wp2_with fail
    go_round
    case rel=>exact ⟨k+1,by omega,by go_num,HN⟩
    case measure=>simp [intOf];omega
  ·have kl:¬ (k:Int) < (l.length:Int):=by omega
   have HP:=hid (contains_no6 (fun j hj=>HT.out j (by omega)))
   go_wp2_with fail
   go_ret
   exact ⟨-1,rfl,⟨fun h=>by omega,fun h=>(HP.out h).elim⟩,rfl⟩
theorem contains_any (A:Option Addr) (c:Nat) (l:List Int) (p:Int) (w:World) (h:Row w A l) (hl:l.length≤1000000) :
  Calls Tryz.prog 128 #[.slice A l.length c,.int .i64 p] w fun e w'=>e = .returned (.bool (decide (p ∈ l)))∧w = w':=by
 go_enter Tryz.func128,Tryz.ntmps128
 go_wp2_with (go_at_call 129;(with_reducible refine (index_any A c l p _ h hl).mono ?_);rintro e w' ⟨n,rfl,hn,rfl⟩;have HN:=hid hn;clear hn)
 go_ret
 exact ⟨ret_bool (decide_eq_decide.2 HN.out),rfl⟩
theorem contains_b {l:List Int} {p:Int} {b:Bool} (hb:decide (p ∈ l) = b) (A:Option Addr) (c:Nat) (w:World) (h:Row w A l) (hl:l.length≤1000000) :
  Calls Tryz.prog 128 #[.slice A l.length c,.int .i64 p] w fun e w'=>e = .returned (.bool b)∧w = w':=by subst hb;exact contains_any A c l p w h hl
def UnRet (o:Option Nat) (e:Ending):Prop:=match o with
 | none=>e = .returned (.tuple #[.int .i64 0,.bool false])
 | some j=>e = .returned (.tuple #[.int .i64 (j:Int),.bool true])
theorem unnamed_any (A A2:Option Addr) (c c2:Nat) (l seen:List Int) (r:Int) (w:World) (h:Row w A l) (h2:Row w A2 seen) (hl:l.length≤1000000) (hl2:seen.length≤1000000) :
  Calls Tryz.prog 123 #[.slice A l.length c,.slice A2 seen.length c2,.int .i64 r] w fun e w'=>UnRet (pUn l seen r) e∧w = w':=by
 by_cases hr:r < 0
 ·have HP:=hid (pUn_no (ret:=l) (seen:=seen) hr)
  go_enter Tryz.func123,Tryz.ntmps123
  go_wp2
  refine bodyPost_ret (v:=.tuple #[.int .i64 0,.bool false]) (by simp [results,Tryz.results123,go_sem]) rfl ?_
  exact ⟨by rw [HP.out];exact rfl,rfl⟩
 obtain ⟨r,rfl⟩:∃ n:Nat,r = (n:Int):=⟨r.toNat,by omega⟩
 go_enter Tryz.func123,Tryz.ntmps123
 go_wp2
 go_loop [8] (fun i=>∃ k:Nat,r≤k∧(k≤l.length ∨ k = r)∧i = .int .i64 k∧Hid (∀ q,r≤q→q < k→l.getD q 0 ∈ seen)) (fun i=>l.length - (intOf i).toNat)
 case atStart=>exact ⟨r,Nat.le_refl _,.inr rfl,rfl,hid (fun j hj hj2=>by omega)⟩
 case round =>
  obtain ⟨k,hk0,hk,rfl,HT⟩:=hrel
  by_cases hlt:k < l.length
  ·have kl:(k:Int) < (l.length:Int):=by omega
   obtain ⟨b1,o1,rfl,hb1,hc⟩:=h.atE k hlt
   obtain ⟨z,hz⟩:∃ z,z = l[k]:=⟨_,rfl⟩
   have HE:=hid (show l.getD k 0 = z by rw [List.getD_eq_getElem?_getD,List.getElem?_eq_getElem hlt,hz];rfl)
   rw [← hz] at hc
   clear hz
   by_cases hzp:z ∈ seen
   ·have HN:=hid (show ∀ q,r≤q→q < k+1→l.getD q 0 ∈ seen from fun j h1 hj=>by
     rcases Nat.lt_or_ge j k with q | q
     ·exact HT.out j h1 q
     ·have:j = k:=by omega
      subst this
      rw [HE.out]
      exact hzp)
    have e1:=hid (decide_eq_true hzp)
    clear hzp HE HT
    go_wp2_with (go_at_call 128;(with_reducible refine (contains_b e1.out A2 c2 _ h2 hl2).mono ?_);rintro e w' ⟨rfl,rfl⟩)
    go_round
    case rel=>exact ⟨k+1,by omega,.inl (by omega),by go_num,HN⟩
    case measure=>simp [intOf];omega
   ·have e1:=hid (decide_eq_false hzp)
    have HP:=hid (pUn_at hk0 hlt (by rw [HE.out];exact hzp) HT.out)
    clear hzp
    go_wp2_with (go_at_call 128;(with_reducible refine (contains_b e1.out A2 c2 _ h2 hl2).mono ?_);rintro e w' ⟨rfl,rfl⟩)
    refine bodyPost_ret (v:=.tuple #[.int .i64 k,.bool true]) (by simp [results,Tryz.results123,go_sem]) rfl ?_
    exact ⟨by rw [HP.out];exact rfl,rfl⟩
  ·have kl:¬ (k:Int) < (l.length:Int):=by omega
   have HP:=hid (pUn_none (fun q h1 h3=>HT.out q h1 (by omega)))
   go_wp2_with fail
   refine bodyPost_ret (v:=.tuple #[.int .i64 0,.bool false]) (by simp [results,Tryz.results123,go_sem]) rfl ?_
   exact ⟨by rw [HP.out];exact rfl,rfl⟩
theorem wpList_append_ontoR {P:Program} {w:World} {ops:Array Oper} {rest:List Oper} {o:Oper} {a:Act} {Q:Exit→Act→World→Prop} (hgd:o.guard = none) (s x:Operand) (t:TypeId)
  (ho:o.op = .call { callee:=.builtin .append,args:=#[s,x],argTypes:=#[t,t] })
  (base:Nat) (ht:P.underlying t = some (.slice 3)) (hinfo:(P.info? 3).map (fun i=>(i.zero,i.size,i.bytes)) = some (some (.int .i64 0),1,8))
  (v:Value) (n:Nat) (xs:List Int) (hn:n = xs.length) (hs:a.eval s = v) (hown:w.ownsRow base 3 1 v n (xs.map inCells).flatten)
  (A2:Option Addr) (c2 m:Nat) (ys:List Int) (hx:a.eval x = .slice A2 m c2) (hm:m = ys.length) (hY:Row w A2 ys) (hlen:xs.length+ys.length≤1000000) (hbase:base≤w.heap.size)
  (h:∀ v' w',w'.ownsRow base 3 1 v' (xs++ys).length ((xs++ys).map inCells).flatten→w.grownBy w' v.ownBlock→wpList P ops Q rest (a.put o.dst v') w'):wpList P ops Q (o :: rest) a w:=by
 subst hn;subst hm
 have ef:∀ zs:List Int,(zs.map inCells).flatten = zs.map (Value.int .i64):=fun zs=>by
  induction zs with
  | nil=>rfl
  | cons z zs ih=>simp only [List.map_cons,List.flatten_cons,ih];rfl
 rcases Nat.eq_zero_or_pos ys.length with h0 | h0
 ·have e:ys = []:=List.eq_nil_of_length_eq_zero h0
  subst e
  obtain ⟨i,hi,hz0,hz1,hz2⟩:=info_parts hinfo
  obtain ⟨A1,c1,ev⟩:=own_val hown
  have hcap:xs.length≤c1:=by rw [ev] at hown;exact own_cap hown
  have hsrc:Go.Src P i.size t (.slice A2 0 c2) 0 [] w:=by
   cases A2 with
   | none=>exact Go.Src.ofNil w ht c2
   | some ad=>exact Go.Src.ofSlice w ht ad 0 c2 [] (by simp) (fun j v hj=>by simp at hj) (fun u hu=>by cases hu)
  have hr:=run_append_nothing (P:=P) w t t o.type 3 i ht hi A1 xs.length c1 hcap (.slice A2 0 c2) hsrc
  refine wpList_plain hgd fun K hK=>?_
  have h9:=h v w (by rw [List.append_nil];exact hown) (World.grownBy.refl _ _)
  unfold Oper.wp execOp
  simp only [ho,resolve,invoke,builtin,Sem.run_bind,Sem.run_pure,Result.andThen_ok,List.map_toArray,List.map_cons,List.map_nil,hs,hx,ev,hr,List.length_nil]
  rw [ev] at h9
  exact hK _ _ h9
 ·obtain ⟨b,of,rfl,_,hc⟩:=hY h0
  refine wpList_append_onto hgd s x t ho base 3 (.int .i64 0) 1 8 ht hinfo rfl (by omega) v xs.length _ hs hown ⟨b,of,none⟩ ys.length c2 (ys.map (Value.int .i64)) hx (by simp) (fun j u hj=>?_) (fun u hu=>?_) hlen (by omega) hbase (fun v' w' h1 h2 h3=>?_)
  ·simp only [List.getElem?_map,Option.map_eq_some_iff] at hj
   obtain ⟨y,hy,rfl⟩:=hj
   rw [Addr.add_lit]
   exact hc j y hy
  ·obtain ⟨y,_,rfl⟩:=List.mem_map.1 hu
   rfl
  ·refine h v' w' ?_ h2
   rw [ef,List.map_append,List.length_append,← ef xs]
   exact h1
end Go.Proofs.YtfipcdhodojodaaGreat
