/-
  No cell of these rows narrows 'for every input' (looked for: loops, veiled, ifaces, maps, wideKeys, modest, calm, conditions, laid).
  DERIVED. THE GIVEN ROWS OF THIS SEAT. 8 by the template 'for every input the law returns true; each argument reads behind the call as it read before'; 0 by the template 'total and deterministic' (their statements: YtbpkndjnohdnjaaTotals.lean).
  GIVEN WITH THE SEED: the statements are not yours to turn. If you find one false, say at which input.
  Laid BY PROGRAM, IN A SANDBOX (cutbox-rows.mjs): the forced cells as the released guide's own fill.sh prints them over the translation 6e93482b338376d8… (all of the seat's roots in one cut). By AI agents, Wed Nov 11 2026. No macro, syntax, notation, axiom, sorry.
-/
import Derived.Test.YtbpkndjnohdnjaaChecked
import GoSem.Claim
import GoSem.ClaimJoined
import GoSem.ClaimMapViews
import Derived.JoinedTies
import Derived.KernelRfl
namespace Go.Proofs.Ytbpkndjnohdnjaa
/- THE CELL 'sum', in the pinned program and in every row, IS THE sha256 OF THE DUMP (.gsa) THAT YtbpkndjnohdnjaaProg.lean LOADS. Nothing in Lean hashes anything: it is a label: what it is worth is what the hold of that sum in a sandbox is worth. -/
noncomputable def Try.pinned : Pinned := { name := "ytbpkndjnohdnjaa", sum := "6e93482b338376d86964c2ee79453407d777fe2609445a360d24046cdfe088e1", checked := Try.checked }
namespace Rows
def none {H : Type} : Left H := { results := [], args := [] }

/-- 'hazellaw02.MemTells': WHATEVER THE INPUT: true; the input reads as it did. -/
def memTellsSpec : ChangeSpec := { name := "memTells", fn := fun _ => fun
  | [d] => { results := [.lit (.bool true)], args := [d] }
  | _ => none }
def memTellsRow : OpenClaim := { program := "ytbpkndjnohdnjaa", sum := "6e93482b338376d86964c2ee79453407d777fe2609445a360d24046cdfe088e1", func := "hazel/hazellaw02.MemTells", spec := "memTells", unfollowed := true, recurses := true, apart := false }
def MemTellsSaid : Prop := memTellsRow.holds Try.pinned (OpenSpec.ofChange memTellsSpec)

/-- ITS FALSE NEIGHBOUR: 'it returns false'. Refute it at one input. -/
def memTellsWrong : ChangeSpec := { name := "memTells", fn := fun _ => fun
  | [d] => { results := [.lit (.bool false)], args := [d] }
  | _ => none }
def MemTellsWrongFalsely : Prop := memTellsRow.holds Try.pinned (OpenSpec.ofChange memTellsWrong)

/-- 'hazellaw02.MemDoes': WHATEVER THE INPUT: true; the input reads as it did. -/
def memDoesSpec : ChangeSpec := { name := "memDoes", fn := fun _ => fun
  | [d] => { results := [.lit (.bool true)], args := [d] }
  | _ => none }
def memDoesRow : OpenClaim := { program := "ytbpkndjnohdnjaa", sum := "6e93482b338376d86964c2ee79453407d777fe2609445a360d24046cdfe088e1", func := "hazel/hazellaw02.MemDoes", spec := "memDoes", unfollowed := true, recurses := true, apart := false }
def MemDoesSaid : Prop := memDoesRow.holds Try.pinned (OpenSpec.ofChange memDoesSpec)

/-- ITS FALSE NEIGHBOUR: 'it returns false'. Refute it at one input. -/
def memDoesWrong : ChangeSpec := { name := "memDoes", fn := fun _ => fun
  | [d] => { results := [.lit (.bool false)], args := [d] }
  | _ => none }
def MemDoesWrongFalsely : Prop := memDoesRow.holds Try.pinned (OpenSpec.ofChange memDoesWrong)

/-- 'hazellaw02.MemBack': WHATEVER THE INPUT: true; the input reads as it did. -/
def memBackSpec : ChangeSpec := { name := "memBack", fn := fun _ => fun
  | [d] => { results := [.lit (.bool true)], args := [d] }
  | _ => none }
def memBackRow : OpenClaim := { program := "ytbpkndjnohdnjaa", sum := "6e93482b338376d86964c2ee79453407d777fe2609445a360d24046cdfe088e1", func := "hazel/hazellaw02.MemBack", spec := "memBack", unfollowed := true, recurses := true, apart := false }
def MemBackSaid : Prop := memBackRow.holds Try.pinned (OpenSpec.ofChange memBackSpec)

/-- ITS FALSE NEIGHBOUR: 'it returns false'. Refute it at one input. -/
def memBackWrong : ChangeSpec := { name := "memBack", fn := fun _ => fun
  | [d] => { results := [.lit (.bool false)], args := [d] }
  | _ => none }
def MemBackWrongFalsely : Prop := memBackRow.holds Try.pinned (OpenSpec.ofChange memBackWrong)

/-- 'hazellaw02.MemGuards': WHATEVER THE INPUT: true; the input reads as it did. -/
def memGuardsSpec : ChangeSpec := { name := "memGuards", fn := fun _ => fun
  | [d1, d2, d3] => { results := [.lit (.bool true)], args := [d1, d2, d3] }
  | _ => none }
def memGuardsRow : OpenClaim := { program := "ytbpkndjnohdnjaa", sum := "6e93482b338376d86964c2ee79453407d777fe2609445a360d24046cdfe088e1", func := "hazel/hazellaw02.MemGuards", spec := "memGuards", unfollowed := true, recurses := true, apart := false }
def MemGuardsSaid : Prop := memGuardsRow.holds Try.pinned (OpenSpec.ofChange memGuardsSpec)

/-- ITS FALSE NEIGHBOUR: 'it returns false'. Refute it at one input. -/
def memGuardsWrong : ChangeSpec := { name := "memGuards", fn := fun _ => fun
  | [d1, d2, d3] => { results := [.lit (.bool false)], args := [d1, d2, d3] }
  | _ => none }
def MemGuardsWrongFalsely : Prop := memGuardsRow.holds Try.pinned (OpenSpec.ofChange memGuardsWrong)

/-- 'hazellaw02.MemTwice': WHATEVER THE INPUT: true; the input reads as it did. -/
def memTwiceSpec : ChangeSpec := { name := "memTwice", fn := fun _ => fun
  | [d1, d2, d3] => { results := [.lit (.bool true)], args := [d1, d2, d3] }
  | _ => none }
def memTwiceRow : OpenClaim := { program := "ytbpkndjnohdnjaa", sum := "6e93482b338376d86964c2ee79453407d777fe2609445a360d24046cdfe088e1", func := "hazel/hazellaw02.MemTwice", spec := "memTwice", unfollowed := true, recurses := true, apart := false }
def MemTwiceSaid : Prop := memTwiceRow.holds Try.pinned (OpenSpec.ofChange memTwiceSpec)

/-- ITS FALSE NEIGHBOUR: 'it returns false'. Refute it at one input. -/
def memTwiceWrong : ChangeSpec := { name := "memTwice", fn := fun _ => fun
  | [d1, d2, d3] => { results := [.lit (.bool false)], args := [d1, d2, d3] }
  | _ => none }
def MemTwiceWrongFalsely : Prop := memTwiceRow.holds Try.pinned (OpenSpec.ofChange memTwiceWrong)

/-- 'hazellaw02.MemPlaces': WHATEVER THE INPUT: true; the input reads as it did. -/
def memPlacesSpec : ChangeSpec := { name := "memPlaces", fn := fun _ => fun
  | [d1, d2] => { results := [.lit (.bool true)], args := [d1, d2] }
  | _ => none }
def memPlacesRow : OpenClaim := { program := "ytbpkndjnohdnjaa", sum := "6e93482b338376d86964c2ee79453407d777fe2609445a360d24046cdfe088e1", func := "hazel/hazellaw02.MemPlaces", spec := "memPlaces", unfollowed := true, recurses := true, apart := false }
def MemPlacesSaid : Prop := memPlacesRow.holds Try.pinned (OpenSpec.ofChange memPlacesSpec)

/-- ITS FALSE NEIGHBOUR: 'it returns false'. Refute it at one input. -/
def memPlacesWrong : ChangeSpec := { name := "memPlaces", fn := fun _ => fun
  | [d1, d2] => { results := [.lit (.bool false)], args := [d1, d2] }
  | _ => none }
def MemPlacesWrongFalsely : Prop := memPlacesRow.holds Try.pinned (OpenSpec.ofChange memPlacesWrong)

/-- 'hazellaw02.MemTurns': WHATEVER THE INPUT: true; the input reads as it did. -/
def memTurnsSpec : ChangeSpec := { name := "memTurns", fn := fun _ => fun
  | [d1, d2, d3] => { results := [.lit (.bool true)], args := [d1, d2, d3] }
  | _ => none }
def memTurnsRow : OpenClaim := { program := "ytbpkndjnohdnjaa", sum := "6e93482b338376d86964c2ee79453407d777fe2609445a360d24046cdfe088e1", func := "hazel/hazellaw02.MemTurns", spec := "memTurns", unfollowed := true, recurses := true, apart := false }
def MemTurnsSaid : Prop := memTurnsRow.holds Try.pinned (OpenSpec.ofChange memTurnsSpec)

/-- ITS FALSE NEIGHBOUR: 'it returns false'. Refute it at one input. -/
def memTurnsWrong : ChangeSpec := { name := "memTurns", fn := fun _ => fun
  | [d1, d2, d3] => { results := [.lit (.bool false)], args := [d1, d2, d3] }
  | _ => none }
def MemTurnsWrongFalsely : Prop := memTurnsRow.holds Try.pinned (OpenSpec.ofChange memTurnsWrong)

/-- 'hazellaw02.MemCounts': WHATEVER THE INPUT: true; the input reads as it did. -/
def memCountsSpec : ChangeSpec := { name := "memCounts", fn := fun _ => fun
  | [d1, d2, d3] => { results := [.lit (.bool true)], args := [d1, d2, d3] }
  | _ => none }
def memCountsRow : OpenClaim := { program := "ytbpkndjnohdnjaa", sum := "6e93482b338376d86964c2ee79453407d777fe2609445a360d24046cdfe088e1", func := "hazel/hazellaw02.MemCounts", spec := "memCounts", unfollowed := true, recurses := true, apart := false }
def MemCountsSaid : Prop := memCountsRow.holds Try.pinned (OpenSpec.ofChange memCountsSpec)

/-- ITS FALSE NEIGHBOUR: 'it returns false'. Refute it at one input. -/
def memCountsWrong : ChangeSpec := { name := "memCounts", fn := fun _ => fun
  | [d1, d2, d3] => { results := [.lit (.bool false)], args := [d1, d2, d3] }
  | _ => none }
def MemCountsWrongFalsely : Prop := memCountsRow.holds Try.pinned (OpenSpec.ofChange memCountsWrong)

/- THE SECOND FORM. 'bulk': how many values and letters a reading holds, each counted each time it is reached (what is shared counts as often as it is met; a slice's spare places count too). A statement '..UptoSaid' is the law's where the arguments, and the package variables that the reading takes, are together of bulk at most 1048576: NARROWER than '..Said'. Prove '..Said' where nothing that the law and all that it calls make is longer than what came in: it says more and counts as full. Else prove '..UptoSaid'. A law counts once. -/
mutual
def uptoBulk {H : Type} : DataW H → Nat
  | .lit (.string bytes) => bytes.length + 1
  | .lit _ => 1
  | .nil => 1
  | .ptr d => uptoBulk d + 1
  | .slice elems spare => uptoBulkAll elems + uptoBulkAll spare + 1
  | .agg parts => uptoBulkAll parts + 1
  | .iface _ d => uptoBulk d + 1
  | .map entries => uptoBulkEntries entries + 1
  | .held _ => 1
def uptoBulkAll {H : Type} : List (DataW H) → Nat
  | [] => 0
  | d :: r => uptoBulk d + uptoBulkAll r
def uptoBulkEntries {H : Type} : List (Lit × DataW H) → Nat
  | [] => 0
  | x :: r => uptoBulkEntry x + uptoBulkEntries r
def uptoBulkEntry {H : Type} : Lit × DataW H → Nat
  | (.string bytes, d) => bytes.length + uptoBulk d + 1
  | (_, d) => uptoBulk d + 1
 end
def uptoSmall : (H : Type) → List (DataW H) → Bool := fun _ ds => decide (uptoBulkAll ds ≤ 1048576)
def OpenSpec.upto (s : _root_.Go.ChangeSpec) : _root_.Go.OpenSpec := { _root_.Go.OpenSpec.ofChange s with cond := some uptoSmall }

/-- 'hazellaw02.MemTells', WHERE WHAT IT READS IS OF BULK AT MOST 1048576: true; the input reads as it did. -/
def memTellsUptoRow : OpenClaim := { program := "ytbpkndjnohdnjaa", sum := "6e93482b338376d86964c2ee79453407d777fe2609445a360d24046cdfe088e1", func := "hazel/hazellaw02.MemTells", spec := "memTells", unfollowed := true, recurses := true, apart := false, narrowed := true }
def MemTellsUptoSaid : Prop := memTellsUptoRow.holds Try.pinned (OpenSpec.upto memTellsSpec)

/-- 'hazellaw02.MemDoes', WHERE WHAT IT READS IS OF BULK AT MOST 1048576: true; the input reads as it did. -/
def memDoesUptoRow : OpenClaim := { program := "ytbpkndjnohdnjaa", sum := "6e93482b338376d86964c2ee79453407d777fe2609445a360d24046cdfe088e1", func := "hazel/hazellaw02.MemDoes", spec := "memDoes", unfollowed := true, recurses := true, apart := false, narrowed := true }
def MemDoesUptoSaid : Prop := memDoesUptoRow.holds Try.pinned (OpenSpec.upto memDoesSpec)

/-- 'hazellaw02.MemBack', WHERE WHAT IT READS IS OF BULK AT MOST 1048576: true; the input reads as it did. -/
def memBackUptoRow : OpenClaim := { program := "ytbpkndjnohdnjaa", sum := "6e93482b338376d86964c2ee79453407d777fe2609445a360d24046cdfe088e1", func := "hazel/hazellaw02.MemBack", spec := "memBack", unfollowed := true, recurses := true, apart := false, narrowed := true }
def MemBackUptoSaid : Prop := memBackUptoRow.holds Try.pinned (OpenSpec.upto memBackSpec)

/-- 'hazellaw02.MemGuards', WHERE WHAT IT READS IS OF BULK AT MOST 1048576: true; the input reads as it did. -/
def memGuardsUptoRow : OpenClaim := { program := "ytbpkndjnohdnjaa", sum := "6e93482b338376d86964c2ee79453407d777fe2609445a360d24046cdfe088e1", func := "hazel/hazellaw02.MemGuards", spec := "memGuards", unfollowed := true, recurses := true, apart := false, narrowed := true }
def MemGuardsUptoSaid : Prop := memGuardsUptoRow.holds Try.pinned (OpenSpec.upto memGuardsSpec)

/-- 'hazellaw02.MemTwice', WHERE WHAT IT READS IS OF BULK AT MOST 1048576: true; the input reads as it did. -/
def memTwiceUptoRow : OpenClaim := { program := "ytbpkndjnohdnjaa", sum := "6e93482b338376d86964c2ee79453407d777fe2609445a360d24046cdfe088e1", func := "hazel/hazellaw02.MemTwice", spec := "memTwice", unfollowed := true, recurses := true, apart := false, narrowed := true }
def MemTwiceUptoSaid : Prop := memTwiceUptoRow.holds Try.pinned (OpenSpec.upto memTwiceSpec)

/-- 'hazellaw02.MemPlaces', WHERE WHAT IT READS IS OF BULK AT MOST 1048576: true; the input reads as it did. -/
def memPlacesUptoRow : OpenClaim := { program := "ytbpkndjnohdnjaa", sum := "6e93482b338376d86964c2ee79453407d777fe2609445a360d24046cdfe088e1", func := "hazel/hazellaw02.MemPlaces", spec := "memPlaces", unfollowed := true, recurses := true, apart := false, narrowed := true }
def MemPlacesUptoSaid : Prop := memPlacesUptoRow.holds Try.pinned (OpenSpec.upto memPlacesSpec)

/-- 'hazellaw02.MemTurns', WHERE WHAT IT READS IS OF BULK AT MOST 1048576: true; the input reads as it did. -/
def memTurnsUptoRow : OpenClaim := { program := "ytbpkndjnohdnjaa", sum := "6e93482b338376d86964c2ee79453407d777fe2609445a360d24046cdfe088e1", func := "hazel/hazellaw02.MemTurns", spec := "memTurns", unfollowed := true, recurses := true, apart := false, narrowed := true }
def MemTurnsUptoSaid : Prop := memTurnsUptoRow.holds Try.pinned (OpenSpec.upto memTurnsSpec)

/-- 'hazellaw02.MemCounts', WHERE WHAT IT READS IS OF BULK AT MOST 1048576: true; the input reads as it did. -/
def memCountsUptoRow : OpenClaim := { program := "ytbpkndjnohdnjaa", sum := "6e93482b338376d86964c2ee79453407d777fe2609445a360d24046cdfe088e1", func := "hazel/hazellaw02.MemCounts", spec := "memCounts", unfollowed := true, recurses := true, apart := false, narrowed := true }
def MemCountsUptoSaid : Prop := memCountsUptoRow.holds Try.pinned (OpenSpec.upto memCountsSpec)

end Rows
end Go.Proofs.Ytbpkndjnohdnjaa
