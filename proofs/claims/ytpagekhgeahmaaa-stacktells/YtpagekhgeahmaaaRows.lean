/-
  No cell of these rows narrows 'for every input' (looked for: loops, veiled, ifaces, maps, wideKeys, modest, calm, conditions, laid).
  DERIVED. THE GIVEN ROWS OF THIS SEAT. 12 by the template 'for every input the law returns true; each argument reads behind the call as it read before'; 0 by the template 'total and deterministic' (their statements: YtpagekhgeahmaaaTotals.lean).
  GIVEN WITH THE SEED: the statements are not yours to turn. If you find one false, say at which input.
  Laid BY PROGRAM, IN A SANDBOX (cutbox-rows.mjs): the forced cells as the released guide's own fill.sh prints them over the translation 35236fbfbfaede81… (all of the seat's roots in one cut). By AI agents, Wed Nov 11 2026. No macro, syntax, notation, axiom, sorry.
-/
import Derived.Test.YtpagekhgeahmaaaChecked
import GoSem.Claim
import GoSem.ClaimJoined
import GoSem.ClaimMapViews
import Derived.JoinedTies
import Derived.KernelRfl
namespace Go.Proofs.Ytpagekhgeahmaaa
/- THE CELL 'sum', in the pinned program and in every row, IS THE sha256 OF THE DUMP (.gsa) THAT YtpagekhgeahmaaaProg.lean LOADS. Nothing in Lean hashes anything: it is a label: what it is worth is what the hold of that sum in a sandbox is worth. -/
noncomputable def Try.pinned : Pinned := { name := "ytpagekhgeahmaaa", sum := "35236fbfbfaede811d21820d0a18efc019b82574a6b4d6f76fcf3fb92e777be1", checked := Try.checked }
namespace Rows
def none {H : Type} : Left H := { results := [], args := [] }

/-- 'hazellaw03.CoreTells': WHATEVER THE INPUT: true; the input reads as it did. -/
def coreTellsSpec : ChangeSpec := { name := "coreTells", fn := fun _ => fun
  | [d] => { results := [.lit (.bool true)], args := [d] }
  | _ => none }
def coreTellsRow : OpenClaim := { program := "ytpagekhgeahmaaa", sum := "35236fbfbfaede811d21820d0a18efc019b82574a6b4d6f76fcf3fb92e777be1", func := "hazel/hazellaw03.CoreTells", spec := "coreTells", unfollowed := true, recurses := true, apart := false }
def CoreTellsSaid : Prop := coreTellsRow.holds Try.pinned (OpenSpec.ofChange coreTellsSpec)

/-- ITS FALSE NEIGHBOUR: 'it returns false'. Refute it at one input. -/
def coreTellsWrong : ChangeSpec := { name := "coreTells", fn := fun _ => fun
  | [d] => { results := [.lit (.bool false)], args := [d] }
  | _ => none }
def CoreTellsWrongFalsely : Prop := coreTellsRow.holds Try.pinned (OpenSpec.ofChange coreTellsWrong)

/-- 'hazellaw03.CoreDoes': WHATEVER THE INPUT: true; the input reads as it did. -/
def coreDoesSpec : ChangeSpec := { name := "coreDoes", fn := fun _ => fun
  | [d] => { results := [.lit (.bool true)], args := [d] }
  | _ => none }
def coreDoesRow : OpenClaim := { program := "ytpagekhgeahmaaa", sum := "35236fbfbfaede811d21820d0a18efc019b82574a6b4d6f76fcf3fb92e777be1", func := "hazel/hazellaw03.CoreDoes", spec := "coreDoes", unfollowed := true, recurses := true, apart := false }
def CoreDoesSaid : Prop := coreDoesRow.holds Try.pinned (OpenSpec.ofChange coreDoesSpec)

/-- ITS FALSE NEIGHBOUR: 'it returns false'. Refute it at one input. -/
def coreDoesWrong : ChangeSpec := { name := "coreDoes", fn := fun _ => fun
  | [d] => { results := [.lit (.bool false)], args := [d] }
  | _ => none }
def CoreDoesWrongFalsely : Prop := coreDoesRow.holds Try.pinned (OpenSpec.ofChange coreDoesWrong)

/-- 'hazellaw03.CoreLogs': WHATEVER THE INPUT: true; the input reads as it did. -/
def coreLogsSpec : ChangeSpec := { name := "coreLogs", fn := fun _ => fun
  | [d] => { results := [.lit (.bool true)], args := [d] }
  | _ => none }
def coreLogsRow : OpenClaim := { program := "ytpagekhgeahmaaa", sum := "35236fbfbfaede811d21820d0a18efc019b82574a6b4d6f76fcf3fb92e777be1", func := "hazel/hazellaw03.CoreLogs", spec := "coreLogs", unfollowed := true, recurses := true, apart := false }
def CoreLogsSaid : Prop := coreLogsRow.holds Try.pinned (OpenSpec.ofChange coreLogsSpec)

/-- ITS FALSE NEIGHBOUR: 'it returns false'. Refute it at one input. -/
def coreLogsWrong : ChangeSpec := { name := "coreLogs", fn := fun _ => fun
  | [d] => { results := [.lit (.bool false)], args := [d] }
  | _ => none }
def CoreLogsWrongFalsely : Prop := coreLogsRow.holds Try.pinned (OpenSpec.ofChange coreLogsWrong)

/-- 'hazellaw03.CoreNews': WHATEVER THE INPUT: true; the input reads as it did. -/
def coreNewsSpec : ChangeSpec := { name := "coreNews", fn := fun _ => fun
  | [d1, d2] => { results := [.lit (.bool true)], args := [d1, d2] }
  | _ => none }
def coreNewsRow : OpenClaim := { program := "ytpagekhgeahmaaa", sum := "35236fbfbfaede811d21820d0a18efc019b82574a6b4d6f76fcf3fb92e777be1", func := "hazel/hazellaw03.CoreNews", spec := "coreNews", unfollowed := true, recurses := true, apart := false }
def CoreNewsSaid : Prop := coreNewsRow.holds Try.pinned (OpenSpec.ofChange coreNewsSpec)

/-- ITS FALSE NEIGHBOUR: 'it returns false'. Refute it at one input. -/
def coreNewsWrong : ChangeSpec := { name := "coreNews", fn := fun _ => fun
  | [d1, d2] => { results := [.lit (.bool false)], args := [d1, d2] }
  | _ => none }
def CoreNewsWrongFalsely : Prop := coreNewsRow.holds Try.pinned (OpenSpec.ofChange coreNewsWrong)

/-- 'hazellaw03.CoreSame': WHATEVER THE INPUT: true; the input reads as it did. -/
def coreSameSpec : ChangeSpec := { name := "coreSame", fn := fun _ => fun
  | [d1, d2, d3] => { results := [.lit (.bool true)], args := [d1, d2, d3] }
  | _ => none }
def coreSameRow : OpenClaim := { program := "ytpagekhgeahmaaa", sum := "35236fbfbfaede811d21820d0a18efc019b82574a6b4d6f76fcf3fb92e777be1", func := "hazel/hazellaw03.CoreSame", spec := "coreSame", unfollowed := true, recurses := true, apart := false }
def CoreSameSaid : Prop := coreSameRow.holds Try.pinned (OpenSpec.ofChange coreSameSpec)

/-- ITS FALSE NEIGHBOUR: 'it returns false'. Refute it at one input. -/
def coreSameWrong : ChangeSpec := { name := "coreSame", fn := fun _ => fun
  | [d1, d2, d3] => { results := [.lit (.bool false)], args := [d1, d2, d3] }
  | _ => none }
def CoreSameWrongFalsely : Prop := coreSameRow.holds Try.pinned (OpenSpec.ofChange coreSameWrong)

/-- 'hazellaw04.StackTells': WHATEVER THE INPUT: true; the input reads as it did. -/
def stackTellsSpec : ChangeSpec := { name := "stackTells", fn := fun _ => fun
  | [d1, d2, d3] => { results := [.lit (.bool true)], args := [d1, d2, d3] }
  | _ => none }
def stackTellsRow : OpenClaim := { program := "ytpagekhgeahmaaa", sum := "35236fbfbfaede811d21820d0a18efc019b82574a6b4d6f76fcf3fb92e777be1", func := "hazel/hazellaw04.StackTells", spec := "stackTells", unfollowed := true, recurses := true, apart := false }
def StackTellsSaid : Prop := stackTellsRow.holds Try.pinned (OpenSpec.ofChange stackTellsSpec)

/-- ITS FALSE NEIGHBOUR: 'it returns false'. Refute it at one input. -/
def stackTellsWrong : ChangeSpec := { name := "stackTells", fn := fun _ => fun
  | [d1, d2, d3] => { results := [.lit (.bool false)], args := [d1, d2, d3] }
  | _ => none }
def StackTellsWrongFalsely : Prop := stackTellsRow.holds Try.pinned (OpenSpec.ofChange stackTellsWrong)

/-- 'hazellaw04.StackSafe': WHATEVER THE INPUT: true; the input reads as it did. -/
def stackSafeSpec : ChangeSpec := { name := "stackSafe", fn := fun _ => fun
  | [d1, d2, d3] => { results := [.lit (.bool true)], args := [d1, d2, d3] }
  | _ => none }
def stackSafeRow : OpenClaim := { program := "ytpagekhgeahmaaa", sum := "35236fbfbfaede811d21820d0a18efc019b82574a6b4d6f76fcf3fb92e777be1", func := "hazel/hazellaw04.StackSafe", spec := "stackSafe", unfollowed := true, recurses := true, apart := false }
def StackSafeSaid : Prop := stackSafeRow.holds Try.pinned (OpenSpec.ofChange stackSafeSpec)

/-- ITS FALSE NEIGHBOUR: 'it returns false'. Refute it at one input. -/
def stackSafeWrong : ChangeSpec := { name := "stackSafe", fn := fun _ => fun
  | [d1, d2, d3] => { results := [.lit (.bool false)], args := [d1, d2, d3] }
  | _ => none }
def StackSafeWrongFalsely : Prop := stackSafeRow.holds Try.pinned (OpenSpec.ofChange stackSafeWrong)

/-- 'hazellaw04.StackFull': WHATEVER THE INPUT: true; the input reads as it did. -/
def stackFullSpec : ChangeSpec := { name := "stackFull", fn := fun _ => fun
  | [d] => { results := [.lit (.bool true)], args := [d] }
  | _ => none }
def stackFullRow : OpenClaim := { program := "ytpagekhgeahmaaa", sum := "35236fbfbfaede811d21820d0a18efc019b82574a6b4d6f76fcf3fb92e777be1", func := "hazel/hazellaw04.StackFull", spec := "stackFull", unfollowed := true, recurses := true, apart := false }
def StackFullSaid : Prop := stackFullRow.holds Try.pinned (OpenSpec.ofChange stackFullSpec)

/-- ITS FALSE NEIGHBOUR: 'it returns false'. Refute it at one input. -/
def stackFullWrong : ChangeSpec := { name := "stackFull", fn := fun _ => fun
  | [d] => { results := [.lit (.bool false)], args := [d] }
  | _ => none }
def StackFullWrongFalsely : Prop := stackFullRow.holds Try.pinned (OpenSpec.ofChange stackFullWrong)

/-- 'hazellaw04.StackFree': WHATEVER THE INPUT: true; the input reads as it did. -/
def stackFreeSpec : ChangeSpec := { name := "stackFree", fn := fun _ => fun
  | [d] => { results := [.lit (.bool true)], args := [d] }
  | _ => none }
def stackFreeRow : OpenClaim := { program := "ytpagekhgeahmaaa", sum := "35236fbfbfaede811d21820d0a18efc019b82574a6b4d6f76fcf3fb92e777be1", func := "hazel/hazellaw04.StackFree", spec := "stackFree", unfollowed := true, recurses := true, apart := false }
def StackFreeSaid : Prop := stackFreeRow.holds Try.pinned (OpenSpec.ofChange stackFreeSpec)

/-- ITS FALSE NEIGHBOUR: 'it returns false'. Refute it at one input. -/
def stackFreeWrong : ChangeSpec := { name := "stackFree", fn := fun _ => fun
  | [d] => { results := [.lit (.bool false)], args := [d] }
  | _ => none }
def StackFreeWrongFalsely : Prop := stackFreeRow.holds Try.pinned (OpenSpec.ofChange stackFreeWrong)

/-- 'hazellaw04.StackAlone': WHATEVER THE INPUT: true; the input reads as it did. -/
def stackAloneSpec : ChangeSpec := { name := "stackAlone", fn := fun _ => fun
  | [d] => { results := [.lit (.bool true)], args := [d] }
  | _ => none }
def stackAloneRow : OpenClaim := { program := "ytpagekhgeahmaaa", sum := "35236fbfbfaede811d21820d0a18efc019b82574a6b4d6f76fcf3fb92e777be1", func := "hazel/hazellaw04.StackAlone", spec := "stackAlone", unfollowed := true, recurses := true, apart := false }
def StackAloneSaid : Prop := stackAloneRow.holds Try.pinned (OpenSpec.ofChange stackAloneSpec)

/-- ITS FALSE NEIGHBOUR: 'it returns false'. Refute it at one input. -/
def stackAloneWrong : ChangeSpec := { name := "stackAlone", fn := fun _ => fun
  | [d] => { results := [.lit (.bool false)], args := [d] }
  | _ => none }
def StackAloneWrongFalsely : Prop := stackAloneRow.holds Try.pinned (OpenSpec.ofChange stackAloneWrong)

/-- 'hazellaw04.StackFills': WHATEVER THE INPUT: true; the input reads as it did. -/
def stackFillsSpec : ChangeSpec := { name := "stackFills", fn := fun _ => fun
  | [d] => { results := [.lit (.bool true)], args := [d] }
  | _ => none }
def stackFillsRow : OpenClaim := { program := "ytpagekhgeahmaaa", sum := "35236fbfbfaede811d21820d0a18efc019b82574a6b4d6f76fcf3fb92e777be1", func := "hazel/hazellaw04.StackFills", spec := "stackFills", unfollowed := true, recurses := true, apart := false }
def StackFillsSaid : Prop := stackFillsRow.holds Try.pinned (OpenSpec.ofChange stackFillsSpec)

/-- ITS FALSE NEIGHBOUR: 'it returns false'. Refute it at one input. -/
def stackFillsWrong : ChangeSpec := { name := "stackFills", fn := fun _ => fun
  | [d] => { results := [.lit (.bool false)], args := [d] }
  | _ => none }
def StackFillsWrongFalsely : Prop := stackFillsRow.holds Try.pinned (OpenSpec.ofChange stackFillsWrong)

/-- 'hazellaw04.StackTags': WHATEVER THE INPUT: true; the input reads as it did. -/
def stackTagsSpec : ChangeSpec := { name := "stackTags", fn := fun _ => fun
  | [d] => { results := [.lit (.bool true)], args := [d] }
  | _ => none }
def stackTagsRow : OpenClaim := { program := "ytpagekhgeahmaaa", sum := "35236fbfbfaede811d21820d0a18efc019b82574a6b4d6f76fcf3fb92e777be1", func := "hazel/hazellaw04.StackTags", spec := "stackTags", unfollowed := true, recurses := true, apart := false }
def StackTagsSaid : Prop := stackTagsRow.holds Try.pinned (OpenSpec.ofChange stackTagsSpec)

/-- ITS FALSE NEIGHBOUR: 'it returns false'. Refute it at one input. -/
def stackTagsWrong : ChangeSpec := { name := "stackTags", fn := fun _ => fun
  | [d] => { results := [.lit (.bool false)], args := [d] }
  | _ => none }
def StackTagsWrongFalsely : Prop := stackTagsRow.holds Try.pinned (OpenSpec.ofChange stackTagsWrong)

/- THE SECOND FORM. 'bulk': how many values and letters a reading holds, each counted each time it is reached (what is shared counts as often as it is met; a slice's spare places count too). A statement '..UptoSaid' is the law's where the arguments, and the package variables that the reading takes, are together of bulk at most 1048576: NARROWER than '..Said'. Prove '..Said' where nothing that the law and all that it calls make is longer than what came in: it says more and counts as full. Else prove '..UptoSaid'. A law counts once. -/
mutual
def uptoBulk {H : Type} : DataW H → Nat
  | .lit (.string bytes) => bytes.length + 1
  | .lit _ => 1
  | .nil => 1
  | .ptr d => uptoBulk d + 1
  | .slice elems spare => uptoBulkAll elems + uptoBulkAll spare + 1
  | .agg parts => uptoBulkAll parts + 1
  | .iface _ d => uptoBulk d + 1
  | .map entries => uptoBulkEntries entries + 1
  | .held _ => 1
def uptoBulkAll {H : Type} : List (DataW H) → Nat
  | [] => 0
  | d :: r => uptoBulk d + uptoBulkAll r
def uptoBulkEntries {H : Type} : List (Lit × DataW H) → Nat
  | [] => 0
  | x :: r => uptoBulkEntry x + uptoBulkEntries r
def uptoBulkEntry {H : Type} : Lit × DataW H → Nat
  | (.string bytes, d) => bytes.length + uptoBulk d + 1
  | (_, d) => uptoBulk d + 1
 end
def uptoSmall : (H : Type) → List (DataW H) → Bool := fun _ ds => decide (uptoBulkAll ds ≤ 1048576)
def OpenSpec.upto (s : _root_.Go.ChangeSpec) : _root_.Go.OpenSpec := { _root_.Go.OpenSpec.ofChange s with cond := some uptoSmall }

/-- 'hazellaw03.CoreTells', WHERE WHAT IT READS IS OF BULK AT MOST 1048576: true; the input reads as it did. -/
def coreTellsUptoRow : OpenClaim := { program := "ytpagekhgeahmaaa", sum := "35236fbfbfaede811d21820d0a18efc019b82574a6b4d6f76fcf3fb92e777be1", func := "hazel/hazellaw03.CoreTells", spec := "coreTells", unfollowed := true, recurses := true, apart := false, narrowed := true }
def CoreTellsUptoSaid : Prop := coreTellsUptoRow.holds Try.pinned (OpenSpec.upto coreTellsSpec)

/-- 'hazellaw03.CoreDoes', WHERE WHAT IT READS IS OF BULK AT MOST 1048576: true; the input reads as it did. -/
def coreDoesUptoRow : OpenClaim := { program := "ytpagekhgeahmaaa", sum := "35236fbfbfaede811d21820d0a18efc019b82574a6b4d6f76fcf3fb92e777be1", func := "hazel/hazellaw03.CoreDoes", spec := "coreDoes", unfollowed := true, recurses := true, apart := false, narrowed := true }
def CoreDoesUptoSaid : Prop := coreDoesUptoRow.holds Try.pinned (OpenSpec.upto coreDoesSpec)

/-- 'hazellaw03.CoreLogs', WHERE WHAT IT READS IS OF BULK AT MOST 1048576: true; the input reads as it did. -/
def coreLogsUptoRow : OpenClaim := { program := "ytpagekhgeahmaaa", sum := "35236fbfbfaede811d21820d0a18efc019b82574a6b4d6f76fcf3fb92e777be1", func := "hazel/hazellaw03.CoreLogs", spec := "coreLogs", unfollowed := true, recurses := true, apart := false, narrowed := true }
def CoreLogsUptoSaid : Prop := coreLogsUptoRow.holds Try.pinned (OpenSpec.upto coreLogsSpec)

/-- 'hazellaw03.CoreNews', WHERE WHAT IT READS IS OF BULK AT MOST 1048576: true; the input reads as it did. -/
def coreNewsUptoRow : OpenClaim := { program := "ytpagekhgeahmaaa", sum := "35236fbfbfaede811d21820d0a18efc019b82574a6b4d6f76fcf3fb92e777be1", func := "hazel/hazellaw03.CoreNews", spec := "coreNews", unfollowed := true, recurses := true, apart := false, narrowed := true }
def CoreNewsUptoSaid : Prop := coreNewsUptoRow.holds Try.pinned (OpenSpec.upto coreNewsSpec)

/-- 'hazellaw03.CoreSame', WHERE WHAT IT READS IS OF BULK AT MOST 1048576: true; the input reads as it did. -/
def coreSameUptoRow : OpenClaim := { program := "ytpagekhgeahmaaa", sum := "35236fbfbfaede811d21820d0a18efc019b82574a6b4d6f76fcf3fb92e777be1", func := "hazel/hazellaw03.CoreSame", spec := "coreSame", unfollowed := true, recurses := true, apart := false, narrowed := true }
def CoreSameUptoSaid : Prop := coreSameUptoRow.holds Try.pinned (OpenSpec.upto coreSameSpec)

/-- 'hazellaw04.StackTells', WHERE WHAT IT READS IS OF BULK AT MOST 1048576: true; the input reads as it did. -/
def stackTellsUptoRow : OpenClaim := { program := "ytpagekhgeahmaaa", sum := "35236fbfbfaede811d21820d0a18efc019b82574a6b4d6f76fcf3fb92e777be1", func := "hazel/hazellaw04.StackTells", spec := "stackTells", unfollowed := true, recurses := true, apart := false, narrowed := true }
def StackTellsUptoSaid : Prop := stackTellsUptoRow.holds Try.pinned (OpenSpec.upto stackTellsSpec)

/-- 'hazellaw04.StackSafe', WHERE WHAT IT READS IS OF BULK AT MOST 1048576: true; the input reads as it did. -/
def stackSafeUptoRow : OpenClaim := { program := "ytpagekhgeahmaaa", sum := "35236fbfbfaede811d21820d0a18efc019b82574a6b4d6f76fcf3fb92e777be1", func := "hazel/hazellaw04.StackSafe", spec := "stackSafe", unfollowed := true, recurses := true, apart := false, narrowed := true }
def StackSafeUptoSaid : Prop := stackSafeUptoRow.holds Try.pinned (OpenSpec.upto stackSafeSpec)

/-- 'hazellaw04.StackFull', WHERE WHAT IT READS IS OF BULK AT MOST 1048576: true; the input reads as it did. -/
def stackFullUptoRow : OpenClaim := { program := "ytpagekhgeahmaaa", sum := "35236fbfbfaede811d21820d0a18efc019b82574a6b4d6f76fcf3fb92e777be1", func := "hazel/hazellaw04.StackFull", spec := "stackFull", unfollowed := true, recurses := true, apart := false, narrowed := true }
def StackFullUptoSaid : Prop := stackFullUptoRow.holds Try.pinned (OpenSpec.upto stackFullSpec)

/-- 'hazellaw04.StackFree', WHERE WHAT IT READS IS OF BULK AT MOST 1048576: true; the input reads as it did. -/
def stackFreeUptoRow : OpenClaim := { program := "ytpagekhgeahmaaa", sum := "35236fbfbfaede811d21820d0a18efc019b82574a6b4d6f76fcf3fb92e777be1", func := "hazel/hazellaw04.StackFree", spec := "stackFree", unfollowed := true, recurses := true, apart := false, narrowed := true }
def StackFreeUptoSaid : Prop := stackFreeUptoRow.holds Try.pinned (OpenSpec.upto stackFreeSpec)

/-- 'hazellaw04.StackAlone', WHERE WHAT IT READS IS OF BULK AT MOST 1048576: true; the input reads as it did. -/
def stackAloneUptoRow : OpenClaim := { program := "ytpagekhgeahmaaa", sum := "35236fbfbfaede811d21820d0a18efc019b82574a6b4d6f76fcf3fb92e777be1", func := "hazel/hazellaw04.StackAlone", spec := "stackAlone", unfollowed := true, recurses := true, apart := false, narrowed := true }
def StackAloneUptoSaid : Prop := stackAloneUptoRow.holds Try.pinned (OpenSpec.upto stackAloneSpec)

/-- 'hazellaw04.StackFills', WHERE WHAT IT READS IS OF BULK AT MOST 1048576: true; the input reads as it did. -/
def stackFillsUptoRow : OpenClaim := { program := "ytpagekhgeahmaaa", sum := "35236fbfbfaede811d21820d0a18efc019b82574a6b4d6f76fcf3fb92e777be1", func := "hazel/hazellaw04.StackFills", spec := "stackFills", unfollowed := true, recurses := true, apart := false, narrowed := true }
def StackFillsUptoSaid : Prop := stackFillsUptoRow.holds Try.pinned (OpenSpec.upto stackFillsSpec)

/-- 'hazellaw04.StackTags', WHERE WHAT IT READS IS OF BULK AT MOST 1048576: true; the input reads as it did. -/
def stackTagsUptoRow : OpenClaim := { program := "ytpagekhgeahmaaa", sum := "35236fbfbfaede811d21820d0a18efc019b82574a6b4d6f76fcf3fb92e777be1", func := "hazel/hazellaw04.StackTags", spec := "stackTags", unfollowed := true, recurses := true, apart := false, narrowed := true }
def StackTagsUptoSaid : Prop := stackTagsUptoRow.holds Try.pinned (OpenSpec.upto stackTagsSpec)

end Rows
end Go.Proofs.Ytpagekhgeahmaaa
