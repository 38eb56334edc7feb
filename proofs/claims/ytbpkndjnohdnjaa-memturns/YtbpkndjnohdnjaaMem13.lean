/- Contracts: loads, stores and swaps, by the program. -/
import Derived.Test.YtbpkndjnohdnjaaTouchLoad
import Derived.Test.YtbpkndjnohdnjaaTouchStore
import Derived.Test.YtbpkndjnohdnjaaTouchCas
namespace Go.Proofs.Ytbpkndjnohdnjaa
open Go.RowKit
set_option linter.unusedVariables false
set_option linter.unusedSimpArgs false

theorem heap_at (w : World) (o : Obj) (n : Nat) (h : n = w.heap.size) : (w.alloc o).heap[n]? = some o := by
  subst h
  exact heap_alloc_new w o

set_option maxHeartbeats 1000000 in
theorem load_any (A A' : Option Addr) (c c' : Nat) (m : Ar) (p : Int) (w : World) (hW : Row w A m.W) (hG : Row w A' m.G) (h0 : m.W.length ≤ 1000000) (h1 : m.G.length ≤ 1000000) (h2 : 2 ≤ m.G.length) (hp : -9223372036854775808 ≤ p) (hq : p ≤ 9223372036854775807) :
    Calls Try.prog 26 #[.agg #[.slice A m.W.length c, .slice A' m.G.length c', .bool m.bad], .int .i64 p] w (RetMem2 w (mLoad m p) (.int .i64 (mVal m p))) := by
  go_enter Try.func26, Try.ntmps26
  go_wp2_with (go_at_call 37; refine (touch_load _ _ _ _ m p (w.heap.size + 1 + 1) w _ hW hG (bstep (bstep (boxed _ _) (boxed _ _)) (boxed _ _)) h0 h1 h2 hp hq (by simp [go_sem]) (by simp [go_sem]) (by omega) (by simp)).mono ?_; rintro e wk ⟨C1, C2, e1, e2, rfl, S1, S2, hk, hc⟩; have hc' : wk.cell? ⟨w.heap.size + 1 + 1, 0, none⟩ = some (.int .i64 (mVal m p)) := hc; clear hc; obtain ⟨gc, gf⟩ := bcellB hk; have hz : w.heap.size + 1 + 1 < wk.heap.size := (by have := hk.size; simp at this; omega); have hz0 : w.heap.size + 1 < wk.heap.size := (by omega); have hz2 : w.heap.size + 1 < w.heap.size + 1 + 1 := (by omega))
  go_region
  all_goals go_wp2
  refine bodyPost_ret (v := .tuple #[.agg #[.slice C1 (mLoad m p).W.length e1, .slice C2 (mLoad m p).G.length e2, .bool (mLoad m p).bad], .int .i64 (mVal m p)]) (by simp [results, Try.results26, go_sem, gc, hz0, hz2]) rfl ?_
  have hz1 : wk.heap[w.heap.size + 1]? = some (.cells #[.slice none 0 0, .slice none 0 0, .bool false] 24 (0, 0)) := (hk.block _ (by omega)).trans ((heap_alloc_old _ _ (by simp)).trans (heap_alloc2_new w _ _))
  exact RetMem2.mk rfl rfl rfl ((S1.far3 hz1 _ _ _).alloc _).drew ((S2.far3 hz1 _ _ _).alloc _).drew (bstep (keep3 ((bstep (bstep (boxed _ _) (boxed _ _)) (boxed _ _)).trans (hk.mono (by omega))) (by omega) _ _ _) (boxed _ _)).drew

set_option maxHeartbeats 1000000 in
theorem store_any (A A' : Option Addr) (c c' : Nat) (m : Ar) (p y : Int) (w : World) (hW : Row w A m.W) (hG : Row w A' m.G) (h0 : m.W.length ≤ 1000000) (h1 : m.G.length ≤ 1000000) (h2 : 2 ≤ m.G.length) (hp : -9223372036854775808 ≤ p) (hq : p ≤ 9223372036854775807) :
    Calls Try.prog 30 #[.agg #[.slice A m.W.length c, .slice A' m.G.length c', .bool m.bad], .int .i64 p, .int .i64 y] w (RetMem w (mStore m p y)) := by
  go_enter Try.func30, Try.ntmps30
  go_wp2_with (go_at_call 37; refine (touch_store _ _ _ _ m p y (w.heap.size + 1) w _ hW hG (bstep (bstep (boxed _ _) (boxed _ _)) (boxed _ _)) h0 h1 h2 hp hq (by simp [go_sem]) (by omega) (by simp)).mono ?_; rintro e wk ⟨C1, C2, e1, e2, rfl, S1, S2, hk, _⟩; obtain ⟨gc, gf⟩ := bcell hk; have hz : w.heap.size + 1 + 1 < wk.heap.size := (by have := hk.size; simp at this; omega))
  refine bodyPost_ret (v := .agg #[.slice C1 (mStore m p y).W.length e1, .slice C2 (mStore m p y).G.length e2, .bool (mStore m p y).bad]) (by simp [results, Try.results30, go_sem, gc, hz]) rfl ?_
  have hz1 : wk.heap[w.heap.size + 1 + 1]? = some (.cells #[.slice none 0 0, .slice none 0 0, .bool false] 24 (0, 0)) := (hk.block _ (by simp)).trans (heap_at _ _ _ (by simp))
  exact RetMem.mk rfl rfl rfl (S1.far3 hz1 _ _ _) (S2.far3 hz1 _ _ _) (keep3 (bstep (bstep (bstep (boxed _ _) (boxed _ _)) (boxed _ _)) hk) (by omega) _ _ _)

set_option maxHeartbeats 1000000 in
theorem cas_any (A A' : Option Addr) (c c' : Nat) (m : Ar) (p old now : Int) (w : World) (hW : Row w A m.W) (hG : Row w A' m.G) (h0 : m.W.length ≤ 1000000) (h1 : m.G.length ≤ 1000000) (h2 : 2 ≤ m.G.length) (hp : -9223372036854775808 ≤ p) (hq : p ≤ 9223372036854775807) :
    Calls Try.prog 28 #[.agg #[.slice A m.W.length c, .slice A' m.G.length c', .bool m.bad], .int .i64 p, .int .i64 old, .int .i64 now] w (RetMem2 w (mCas m p old now) (.bool (mIs m p old))) := by
  go_enter Try.func28, Try.ntmps28
  go_wp2_with (go_at_call 37; refine (touch_cas _ _ _ _ m p old now (w.heap.size + 1 + 1 + 1 + 1) (w.heap.size + 1) (w.heap.size + 1 + 1) w _ hW hG (bstep (bstep (bstep (bstep (boxed _ _) (boxed _ _)) (boxed _ _)) (boxed _ _)) (boxed _ _)) h0 h1 h2 hp hq (by simp [go_sem]) (by simp [go_sem]) (by simp [go_sem]) (by simp [go_sem]) (by omega) (by simp) (by omega) (by omega)).mono ?_; rintro e wk ⟨C1, C2, e1, e2, rfl, S1, S2, hk, hc⟩; have hc' : wk.cell? ⟨w.heap.size + 1 + 1 + 1 + 1, 0, none⟩ = some (.bool (mIs m p old)) := hc; clear hc; obtain ⟨gc, gf⟩ := bcellB hk; have hz : w.heap.size + 1 + 1 + 1 + 1 < wk.heap.size := (by have := hk.size; simp at this; omega); have hz0 : w.heap.size + 1 + 1 + 1 < wk.heap.size := (by omega); have hz2 : w.heap.size + 1 + 1 + 1 < w.heap.size + 1 + 1 + 1 + 1 := (by omega))
  go_region
  all_goals go_wp2
  refine bodyPost_ret (v := .tuple #[.agg #[.slice C1 (mCas m p old now).W.length e1, .slice C2 (mCas m p old now).G.length e2, .bool (mCas m p old now).bad], .bool (mIs m p old)]) (by simp [results, Try.results28, go_sem, gc, hz0, hz2]) rfl ?_
  have hz1 : wk.heap[w.heap.size + 1 + 1 + 1]? = some (.cells #[.slice none 0 0, .slice none 0 0, .bool false] 24 (0, 0)) := (hk.block _ (by omega)).trans ((heap_alloc_old _ _ (by simp)).trans (heap_at _ _ _ (by simp)))
  exact RetMem2.mk rfl rfl rfl ((S1.far3 hz1 _ _ _).alloc _).drew ((S2.far3 hz1 _ _ _).alloc _).drew (bstep (keep3 ((bstep (bstep (bstep (bstep (boxed _ _) (boxed _ _)) (boxed _ _)) (boxed _ _)) (boxed _ _)).trans (hk.mono (by omega))) (by omega) _ _ _) (boxed _ _)).drew
end Go.Proofs.Ytbpkndjnohdnjaa
