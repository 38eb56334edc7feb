/- Contracts: a step of a pop, by the document. -/
import Derived.Test.YthpflcknommpdaaStkR
namespace Go.Proofs.Ythpflcknommpdaa
open Go.RowKit
set_option linter.unusedVariables false
set_option linter.unusedSimpArgs false

theorem SF.via {w : World} {s : Sy} {A B C L : Option Addr} {a b c d : Nat} {fc : Array Value} {wx wc wy : World} (h : SF w s A B C L a b c d fc wx) (hk : Below wc.heap.size wc wy) (hb : Below wx.heap.size wx wc) : SF w s A B C L a b c d fc wc ∧ SF w s A B C L a b c d fc wy := ⟨h.step hb, (h.step hb).step hk⟩
/-- An arena's variable has been laid. -/
def Laid4 (w : World) (s : Sy) (A B C L : Option Addr) (a b c d : Nat) (fc : Array Value) (m : Ar) (p : Value) (wx : World) : Prop :=
  ∃ (vM : Nat) (A2 B2 : Option Addr) (a2 b2 : Nat), p = .pointer (some ⟨vM, 0, none⟩) ∧ SF w s A B C L a b c d fc wx ∧ MVar w m A2 B2 a2 b2 vM wx
end Go.Proofs.Ythpflcknommpdaa
