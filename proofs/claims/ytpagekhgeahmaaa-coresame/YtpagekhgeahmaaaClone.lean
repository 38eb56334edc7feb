/- Contracts: slices that are cloned. -/
import Derived.Test.YtpagekhgeahmaaaChecked
import Derived.Test.YtpagekhgeahmaaaCells2
import Derived.RegionTactic
import Derived.Lib.SliceRun
namespace Go.Proofs.Ytpagekhgeahmaaa
open Go.RowKit
set_option linter.unusedVariables false
set_option linter.unusedSimpArgs false

/-- What is returned is a slice of the call's own. -/
def RetRow (w : World) (T : TypeId) (k n : Nat) (css : List (List Value)) (e : Ending) (w' : World) : Prop := ∃ v, e = .returned v ∧ w'.ownsRow w.heap.size T k v n css.flatten ∧ Below w.heap.size w w'

theorem infoInt : (Try.prog.info? 3).map (fun i => (i.zero, i.size, i.bytes)) = some (some (.int .i64 0), 1, 8) := by kernel_rfl

set_option maxRecDepth 100000 in
set_option maxHeartbeats 1000000 in
theorem cloneInt (A : Option Addr) (n c : Nat) (css : List (List Value)) (w : World) (h : Src w A 1 css) (hn : css.length = n) (hl : n ≤ 1000000) :
    Calls Try.prog 96 #[.slice A n c] w (RetRow w 3 1 n css) := by
  cases A with
  | none =>
    obtain rfl : n = 0 := by
      rcases Nat.eq_zero_or_pos n with h0 | h0
      · exact h0
      · obtain ⟨b, o, e, _⟩ := h.at_ (by omega)
        cases e
    obtain rfl : css = [] := List.eq_nil_of_length_eq_zero hn
    have hq := fun w => Go.Lib.run_eql_slice_nil (P := Try.prog) w 22 _ none 0 c 0 0 Try.underlying22
    go_enter Try.func96, Try.ntmps96
    go_wp2
    go_ret
    exact ⟨_, rfl, World.ownsRow_nil _ _ _ _, Below.refl _ _⟩
  | some ad =>
    have hq := fun w => Go.Lib.run_eql_slice_nil (P := Try.prog) w 22 _ (some ad) n c 0 0 Try.underlying22
    have h' := h.step (boxed w (.cells #[] 3))
    go_enter Try.func96, Try.ntmps96
    go_wp2_with (at_builtin; refine wpList_append_fresh rfl _ _ _ rfl 3 _ 1 8 Try.underlying22 infoInt rfl (by omega) w.heap.size rfl (heap_alloc_new _ _) ad c css n hn rfl h' hl (by omega) ?_; intro v' w' ho hb)
    go_ret
    exact ⟨_, rfl, ho, (boxed _ _).trans hb⟩

theorem infoFr : (Try.prog.info? 42).map (fun i => (i.zero, i.size, i.bytes)) = some (some (.agg #[.int .i64 0, .int .i64 0, .int .i64 0, .int .i64 0, .int .i64 0, .int .i64 0, .int .i64 0, .int .i64 0, .int .i64 0, .int .i64 0, .slice none 0 0]), 11, 104) := by kernel_rfl

set_option maxRecDepth 100000 in
set_option maxHeartbeats 1000000 in
theorem cloneFr (A : Option Addr) (n c : Nat) (css : List (List Value)) (w : World) (h : Src w A 11 css) (hn : css.length = n) (hl : n ≤ 1000000) :
    Calls Try.prog 115 #[.slice A n c] w (RetRow w 42 11 n css) := by
  cases A with
  | none =>
    obtain rfl : n = 0 := by
      rcases Nat.eq_zero_or_pos n with h0 | h0
      · exact h0
      · obtain ⟨b, o, e, _⟩ := h.at_ (by omega)
        cases e
    obtain rfl : css = [] := List.eq_nil_of_length_eq_zero hn
    have hq := fun w => Go.Lib.run_eql_slice_nil (P := Try.prog) w 62 _ none 0 c 0 0 Try.underlying62
    go_enter Try.func115, Try.ntmps115
    go_wp2
    go_ret
    exact ⟨_, rfl, World.ownsRow_nil _ _ _ _, Below.refl _ _⟩
  | some ad =>
    have hq := fun w => Go.Lib.run_eql_slice_nil (P := Try.prog) w 62 _ (some ad) n c 0 0 Try.underlying62
    have h' := h.step (boxed w (.cells #[] 42))
    go_enter Try.func115, Try.ntmps115
    go_wp2_with (at_builtin; refine wpList_append_fresh rfl _ _ _ rfl 42 _ 11 104 Try.underlying62 infoFr rfl (by omega) w.heap.size rfl (heap_alloc_new _ _) ad c css n hn rfl h' hl (by omega) ?_; intro v' w' ho hb)
    go_ret
    exact ⟨_, rfl, ho, (boxed _ _).trans hb⟩

theorem infoCo : (Try.prog.info? 65).map (fun i => (i.zero, i.size, i.bytes)) = some (some (.agg #[.slice none 0 0, .int .i64 0, .int .i64 0, .int .i64 0, .int .i64 0, .int .i64 0, .slice none 0 0]), 7, 88) := by kernel_rfl

set_option maxRecDepth 100000 in
set_option maxHeartbeats 1000000 in
theorem cloneCo (A : Option Addr) (n c : Nat) (css : List (List Value)) (w : World) (h : Src w A 7 css) (hn : css.length = n) (hl : n ≤ 1000000) :
    Calls Try.prog 97 #[.slice A n c] w (RetRow w 65 7 n css) := by
  cases A with
  | none =>
    obtain rfl : n = 0 := by
      rcases Nat.eq_zero_or_pos n with h0 | h0
      · exact h0
      · obtain ⟨b, o, e, _⟩ := h.at_ (by omega)
        cases e
    obtain rfl : css = [] := List.eq_nil_of_length_eq_zero hn
    have hq := fun w => Go.Lib.run_eql_slice_nil (P := Try.prog) w 25 _ none 0 c 0 0 Try.underlying25
    go_enter Try.func97, Try.ntmps97
    go_wp2
    go_ret
    exact ⟨_, rfl, World.ownsRow_nil _ _ _ _, Below.refl _ _⟩
  | some ad =>
    have hq := fun w => Go.Lib.run_eql_slice_nil (P := Try.prog) w 25 _ (some ad) n c 0 0 Try.underlying25
    have h' := h.step (boxed w (.cells #[] 65))
    go_enter Try.func97, Try.ntmps97
    go_wp2_with (at_builtin; refine wpList_append_fresh rfl _ _ _ rfl 65 _ 7 88 Try.underlying25 infoCo rfl (by omega) w.heap.size rfl (heap_alloc_new _ _) ad c css n hn rfl h' hl (by omega) ?_; intro v' w' ho hb)
    go_ret
    exact ⟨_, rfl, ho, (boxed _ _).trans hb⟩

theorem infoEv : (Try.prog.info? 56).map (fun i => (i.zero, i.size, i.bytes)) = some (some (.agg #[.int .i64 0, .int .i64 0, .int .i64 0, .int .i64 0, .int .i64 0]), 5, 40) := by kernel_rfl

set_option maxRecDepth 100000 in
set_option maxHeartbeats 1000000 in
theorem cloneEv (A : Option Addr) (n c : Nat) (css : List (List Value)) (w : World) (h : Src w A 5 css) (hn : css.length = n) (hl : n ≤ 1000000) :
    Calls Try.prog 98 #[.slice A n c] w (RetRow w 56 5 n css) := by
  cases A with
  | none =>
    obtain rfl : n = 0 := by
      rcases Nat.eq_zero_or_pos n with h0 | h0
      · exact h0
      · obtain ⟨b, o, e, _⟩ := h.at_ (by omega)
        cases e
    obtain rfl : css = [] := List.eq_nil_of_length_eq_zero hn
    have hq := fun w => Go.Lib.run_eql_slice_nil (P := Try.prog) w 26 _ none 0 c 0 0 Try.underlying26
    go_enter Try.func98, Try.ntmps98
    go_wp2
    go_ret
    exact ⟨_, rfl, World.ownsRow_nil _ _ _ _, Below.refl _ _⟩
  | some ad =>
    have hq := fun w => Go.Lib.run_eql_slice_nil (P := Try.prog) w 26 _ (some ad) n c 0 0 Try.underlying26
    have h' := h.step (boxed w (.cells #[] 56))
    go_enter Try.func98, Try.ntmps98
    go_wp2_with (at_builtin; refine wpList_append_fresh rfl _ _ _ rfl 56 _ 5 40 Try.underlying26 infoEv rfl (by omega) w.heap.size rfl (heap_alloc_new _ _) ad c css n hn rfl h' hl (by omega) ?_; intro v' w' ho hb)
    go_ret
    exact ⟨_, rfl, ho, (boxed _ _).trans hb⟩
end Go.Proofs.Ytpagekhgeahmaaa
