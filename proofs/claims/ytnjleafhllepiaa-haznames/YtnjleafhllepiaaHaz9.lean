/- Contracts: which nodes are named, by the document; are two rows the same (hazelref05.Named, Flags). -/
import Derived.Test.YtnjleafhllepiaaHazN
import Derived.Test.YtnjleafhllepiaaHaz6
namespace Go.Proofs.Ytnjleafhllepiaa
open Go.RowKit
set_option linter.unusedVariables false
set_option linter.unusedSimpArgs false

theorem pNameds_to {m : Ar} (hw : 128 ≤ m.W.length) : ∀ k, k ≤ 24 → pNameds m (prs k) = pNamedTo m k
  | 0, _ => rfl
  | k + 1, h => by
    have h1 := prs_succ (k / 3) (k % 3) (by omega)
    rw [show 3 * (k / 3) + k % 3 = k by omega] at h1
    rw [← h1, pNameds_snoc, pNameds_to hw k (by omega)]
    show pNote _ (mVal m (pPlace ((k / 3 : Nat) : Int) ((k % 3 : Nat) : Int))) = pNote _ (m.W.getD (8 + k) 0)
    rw [pPlace_in (by omega) (by omega) (by omega) (by omega), show (8 + 3 * ((k / 3 : Nat) : Int) + ((k % 3 : Nat) : Int)) = ((8 + k : Nat) : Int) by omega, root_val (by omega) hw]

theorem note_yes {bs : List Bool} {v : Nat} (h : 0 < v) (hl : v < bs.length) : pNote bs (v : Int) = bs.set v true := by
  unfold pNote; rw [if_pos (by omega)]; rfl
theorem note_no {bs : List Bool} {v : Int} (h : ¬ (0 < v ∧ v < (bs.length : Int))) : pNote bs v = bs := by
  unfold pNote; rw [if_neg h]

end Go.Proofs.Ytnjleafhllepiaa
