/- Contracts: slots' places, which ops these are; a step of OProt, by the program. -/
import Derived.Test.YtnjleafhllepiaaStk6
import Derived.Test.YtnjleafhllepiaaHaz1
namespace Go.Proofs.Ytnjleafhllepiaa
open Go.RowKit
set_option linter.unusedVariables false
set_option linter.unusedSimpArgs false

theorem wrap_pl (i k : Int) : wrap64 (wrap64 (8 + wrap64 (3 * i)) + k) = pPlace i k := by unfold pPlace wrap64; omega
theorem place_w (i k : Int) (w : World) : Calls Try.prog 32 #[.int .i64 i, .int .i64 k] w fun e w' => e = .returned (.int .i64 (pPlace i k)) ∧ w = w' := by
  go_enter Try.func32, Try.ntmps32
  go_wp2
  go_ret
  exact ⟨ret_int (wrap_pl i k), rfl⟩
theorem rplace_w (i k : Int) (w : World) : Calls Try.prog 12 #[.int .i64 i, .int .i64 k] w fun e w' => e = .returned (.int .i64 (pPlace i k)) ∧ w = w' := by
  go_enter Try.func12, Try.ntmps12
  go_wp2
  go_ret
  exact ⟨ret_int (wrap_pl i k), rfl⟩
theorem own5_any (op : Int) (w : World) : Calls Try.prog 33 #[.int .i64 op] w fun e w' => e = .returned (.bool (op == 3 || op == 4)) ∧ w = w' := by
  rcases Bool.eq_false_or_eq_true (op == 3) with h | h
  · go_enter Try.func33, Try.ntmps33
    go_wp2
    go_ret
    rw [h]
    exact ⟨rfl, rfl⟩
  · go_enter Try.func33, Try.ntmps33
    go_wp2
    go_ret
    rw [h]
    exact ⟨rfl, rfl⟩
end Go.Proofs.Ytnjleafhllepiaa
