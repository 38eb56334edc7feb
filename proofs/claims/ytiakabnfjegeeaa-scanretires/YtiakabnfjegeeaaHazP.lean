/- Contracts: slots' places, which ops these are; a step of OProt, by the program. -/
import Derived.Test.YtiakabnfjegeeaaStk6
import Derived.Test.YtiakabnfjegeeaaHaz1
namespace Go.Proofs.Ytiakabnfjegeeaa
open Go.RowKit
set_option linter.unusedVariables false
set_option linter.unusedSimpArgs false

theorem wrap_pl (i k : Int) : wrap64 (wrap64 (8 + wrap64 (3 * i)) + k) = pPlace i k := by unfold pPlace wrap64; omega
theorem place_w (i k : Int) (w : World) : Calls Try.prog 101 #[.int .i64 i, .int .i64 k] w fun e w' => e = .returned (.int .i64 (pPlace i k)) ∧ w = w' := by
  go_enter Try.func101, Try.ntmps101
  go_wp2
  go_ret
  exact ⟨ret_int (wrap_pl i k), rfl⟩
theorem rplace_w (i k : Int) (w : World) : Calls Try.prog 22 #[.int .i64 i, .int .i64 k] w fun e w' => e = .returned (.int .i64 (pPlace i k)) ∧ w = w' := by
  go_enter Try.func22, Try.ntmps22
  go_wp2
  go_ret
  exact ⟨ret_int (wrap_pl i k), rfl⟩
theorem own5_any (op : Int) (w : World) : Calls Try.prog 75 #[.int .i64 op] w fun e w' => e = .returned (.bool (op == 3 || op == 4)) ∧ w = w' := by
  rcases Bool.eq_false_or_eq_true (op == 3) with h | h
  · go_enter Try.func75, Try.ntmps75
    go_wp2
    go_ret
    rw [h]
    exact ⟨rfl, rfl⟩
  · go_enter Try.func75, Try.ntmps75
    go_wp2
    go_ret
    rw [h]
    exact ⟨rfl, rfl⟩
end Go.Proofs.Ytiakabnfjegeeaa
