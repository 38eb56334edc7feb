/-
  No cell of these rows narrows 'for every input' (looked for: loops, veiled, ifaces, maps, wideKeys, modest, calm, conditions, laid).
  DERIVED. THE GIVEN ROWS OF THIS SEAT. 8 by the template 'for every input the law returns true; each argument reads behind the call as it read before'; 0 by the template 'total and deterministic' (their statements: YtbkiafdmhkeffaaTotals.lean).
  GIVEN WITH THE SEED: the statements are not yours to turn. If you find one false, say at which input.
  Laid BY PROGRAM, IN A SANDBOX (cutbox-rows.mjs): the forced cells as the released guide's own fill.sh prints them over the translation ef3a3e07b90e87eb… (all of the seat's roots in one cut). By AI agents, Wed Nov 11 2026. No macro, syntax, notation, axiom, sorry.
-/
import Derived.Test.YtbkiafdmhkeffaaChecked
import GoSem.Claim
import GoSem.ClaimJoined
import GoSem.ClaimMapViews
import Derived.JoinedTies
import Derived.KernelRfl
namespace Go.Proofs.Ytbkiafdmhkeffaa
/- THE CELL 'sum', in the pinned program and in every row, IS THE sha256 OF THE DUMP (.gsa) THAT YtbkiafdmhkeffaaProg.lean LOADS. Nothing in Lean hashes anything: it is a label: what it is worth is what the hold of that sum in a sandbox is worth. -/
noncomputable def Try.pinned : Pinned := { name := "ytbkiafdmhkeffaa", sum := "ef3a3e07b90e87eb4aac07054e20906f71be8fb79f0862447baddfb3eaa82b16", checked := Try.checked }
namespace Rows
def none {H : Type} : Left H := { results := [], args := [] }

/-- 'hazellaw01.PackTells': WHATEVER THE INPUT: true; the input reads as it did. -/
def packTellsSpec : ChangeSpec := { name := "packTells", fn := fun _ => fun
  | [d] => { results := [.lit (.bool true)], args := [d] }
  | _ => none }
def packTellsRow : OpenClaim := { program := "ytbkiafdmhkeffaa", sum := "ef3a3e07b90e87eb4aac07054e20906f71be8fb79f0862447baddfb3eaa82b16", func := "hazel/hazellaw01.PackTells", spec := "packTells", apart := false }
def PackTellsSaid : Prop := packTellsRow.holds Try.pinned (OpenSpec.ofChange packTellsSpec)

/-- ITS FALSE NEIGHBOUR: 'it returns false'. Refute it at one input. -/
def packTellsWrong : ChangeSpec := { name := "packTells", fn := fun _ => fun
  | [d] => { results := [.lit (.bool false)], args := [d] }
  | _ => none }
def PackTellsWrongFalsely : Prop := packTellsRow.holds Try.pinned (OpenSpec.ofChange packTellsWrong)

/-- 'hazellaw01.PackBack': WHATEVER THE INPUT: true; the input reads as it did. -/
def packBackSpec : ChangeSpec := { name := "packBack", fn := fun _ => fun
  | [d] => { results := [.lit (.bool true)], args := [d] }
  | _ => none }
def packBackRow : OpenClaim := { program := "ytbkiafdmhkeffaa", sum := "ef3a3e07b90e87eb4aac07054e20906f71be8fb79f0862447baddfb3eaa82b16", func := "hazel/hazellaw01.PackBack", spec := "packBack", apart := false }
def PackBackSaid : Prop := packBackRow.holds Try.pinned (OpenSpec.ofChange packBackSpec)

/-- ITS FALSE NEIGHBOUR: 'it returns false'. Refute it at one input. -/
def packBackWrong : ChangeSpec := { name := "packBack", fn := fun _ => fun
  | [d] => { results := [.lit (.bool false)], args := [d] }
  | _ => none }
def PackBackWrongFalsely : Prop := packBackRow.holds Try.pinned (OpenSpec.ofChange packBackWrong)

/-- 'hazellaw01.PackNext': WHATEVER THE INPUT: true; the input reads as it did. -/
def packNextSpec : ChangeSpec := { name := "packNext", fn := fun _ => fun
  | [d] => { results := [.lit (.bool true)], args := [d] }
  | _ => none }
def packNextRow : OpenClaim := { program := "ytbkiafdmhkeffaa", sum := "ef3a3e07b90e87eb4aac07054e20906f71be8fb79f0862447baddfb3eaa82b16", func := "hazel/hazellaw01.PackNext", spec := "packNext", apart := false }
def PackNextSaid : Prop := packNextRow.holds Try.pinned (OpenSpec.ofChange packNextSpec)

/-- ITS FALSE NEIGHBOUR: 'it returns false'. Refute it at one input. -/
def packNextWrong : ChangeSpec := { name := "packNext", fn := fun _ => fun
  | [d] => { results := [.lit (.bool false)], args := [d] }
  | _ => none }
def PackNextWrongFalsely : Prop := packNextRow.holds Try.pinned (OpenSpec.ofChange packNextWrong)

/-- 'hazellaw01.PackApart': WHATEVER THE INPUT: true; the input reads as it did. -/
def packApartSpec : ChangeSpec := { name := "packApart", fn := fun _ => fun
  | [d1, d2] => { results := [.lit (.bool true)], args := [d1, d2] }
  | _ => none }
def packApartRow : OpenClaim := { program := "ytbkiafdmhkeffaa", sum := "ef3a3e07b90e87eb4aac07054e20906f71be8fb79f0862447baddfb3eaa82b16", func := "hazel/hazellaw01.PackApart", spec := "packApart", apart := false }
def PackApartSaid : Prop := packApartRow.holds Try.pinned (OpenSpec.ofChange packApartSpec)

/-- ITS FALSE NEIGHBOUR: 'it returns false'. Refute it at one input. -/
def packApartWrong : ChangeSpec := { name := "packApart", fn := fun _ => fun
  | [d1, d2] => { results := [.lit (.bool false)], args := [d1, d2] }
  | _ => none }
def PackApartWrongFalsely : Prop := packApartRow.holds Try.pinned (OpenSpec.ofChange packApartWrong)

/-- 'hazellaw01.PackParts': WHATEVER THE INPUT: true; the input reads as it did. -/
def packPartsSpec : ChangeSpec := { name := "packParts", fn := fun _ => fun
  | [d] => { results := [.lit (.bool true)], args := [d] }
  | _ => none }
def packPartsRow : OpenClaim := { program := "ytbkiafdmhkeffaa", sum := "ef3a3e07b90e87eb4aac07054e20906f71be8fb79f0862447baddfb3eaa82b16", func := "hazel/hazellaw01.PackParts", spec := "packParts", apart := false }
def PackPartsSaid : Prop := packPartsRow.holds Try.pinned (OpenSpec.ofChange packPartsSpec)

/-- ITS FALSE NEIGHBOUR: 'it returns false'. Refute it at one input. -/
def packPartsWrong : ChangeSpec := { name := "packParts", fn := fun _ => fun
  | [d] => { results := [.lit (.bool false)], args := [d] }
  | _ => none }
def PackPartsWrongFalsely : Prop := packPartsRow.holds Try.pinned (OpenSpec.ofChange packPartsWrong)

/-- 'hazellaw01.PackOne': WHATEVER THE INPUT: true; the input reads as it did. -/
def packOneSpec : ChangeSpec := { name := "packOne", fn := fun _ => fun
  | [d1, d2, d3] => { results := [.lit (.bool true)], args := [d1, d2, d3] }
  | _ => none }
def packOneRow : OpenClaim := { program := "ytbkiafdmhkeffaa", sum := "ef3a3e07b90e87eb4aac07054e20906f71be8fb79f0862447baddfb3eaa82b16", func := "hazel/hazellaw01.PackOne", spec := "packOne", apart := false }
def PackOneSaid : Prop := packOneRow.holds Try.pinned (OpenSpec.ofChange packOneSpec)

/-- ITS FALSE NEIGHBOUR: 'it returns false'. Refute it at one input. -/
def packOneWrong : ChangeSpec := { name := "packOne", fn := fun _ => fun
  | [d1, d2, d3] => { results := [.lit (.bool false)], args := [d1, d2, d3] }
  | _ => none }
def PackOneWrongFalsely : Prop := packOneRow.holds Try.pinned (OpenSpec.ofChange packOneWrong)

/-- 'hazellaw01.PackWraps': WHATEVER THE INPUT: true; the input reads as it did. -/
def packWrapsSpec : ChangeSpec := { name := "packWraps", fn := fun _ => fun
  | [d1, d2, d3] => { results := [.lit (.bool true)], args := [d1, d2, d3] }
  | _ => none }
def packWrapsRow : OpenClaim := { program := "ytbkiafdmhkeffaa", sum := "ef3a3e07b90e87eb4aac07054e20906f71be8fb79f0862447baddfb3eaa82b16", func := "hazel/hazellaw01.PackWraps", spec := "packWraps", apart := false }
def PackWrapsSaid : Prop := packWrapsRow.holds Try.pinned (OpenSpec.ofChange packWrapsSpec)

/-- ITS FALSE NEIGHBOUR: 'it returns false'. Refute it at one input. -/
def packWrapsWrong : ChangeSpec := { name := "packWraps", fn := fun _ => fun
  | [d1, d2, d3] => { results := [.lit (.bool false)], args := [d1, d2, d3] }
  | _ => none }
def PackWrapsWrongFalsely : Prop := packWrapsRow.holds Try.pinned (OpenSpec.ofChange packWrapsWrong)

/-- 'hazellaw01.PackOdd': WHATEVER THE INPUT: true; the input reads as it did. -/
def packOddSpec : ChangeSpec := { name := "packOdd", fn := fun _ => fun
  | [d] => { results := [.lit (.bool true)], args := [d] }
  | _ => none }
def packOddRow : OpenClaim := { program := "ytbkiafdmhkeffaa", sum := "ef3a3e07b90e87eb4aac07054e20906f71be8fb79f0862447baddfb3eaa82b16", func := "hazel/hazellaw01.PackOdd", spec := "packOdd", apart := false }
def PackOddSaid : Prop := packOddRow.holds Try.pinned (OpenSpec.ofChange packOddSpec)

/-- ITS FALSE NEIGHBOUR: 'it returns false'. Refute it at one input. -/
def packOddWrong : ChangeSpec := { name := "packOdd", fn := fun _ => fun
  | [d] => { results := [.lit (.bool false)], args := [d] }
  | _ => none }
def PackOddWrongFalsely : Prop := packOddRow.holds Try.pinned (OpenSpec.ofChange packOddWrong)

/- THE SECOND FORM. 'bulk': how many values and letters a reading holds, each counted each time it is reached (what is shared counts as often as it is met; a slice's spare places count too). A statement '..UptoSaid' is the law's where the arguments, and the package variables that the reading takes, are together of bulk at most 1048576: NARROWER than '..Said'. Prove '..Said' where nothing that the law and all that it calls make is longer than what came in: it says more and counts as full. Else prove '..UptoSaid'. A law counts once. -/
mutual
def uptoBulk {H : Type} : DataW H → Nat
  | .lit (.string bytes) => bytes.length + 1
  | .lit _ => 1
  | .nil => 1
  | .ptr d => uptoBulk d + 1
  | .slice elems spare => uptoBulkAll elems + uptoBulkAll spare + 1
  | .agg parts => uptoBulkAll parts + 1
  | .iface _ d => uptoBulk d + 1
  | .map entries => uptoBulkEntries entries + 1
  | .held _ => 1
def uptoBulkAll {H : Type} : List (DataW H) → Nat
  | [] => 0
  | d :: r => uptoBulk d + uptoBulkAll r
def uptoBulkEntries {H : Type} : List (Lit × DataW H) → Nat
  | [] => 0
  | x :: r => uptoBulkEntry x + uptoBulkEntries r
def uptoBulkEntry {H : Type} : Lit × DataW H → Nat
  | (.string bytes, d) => bytes.length + uptoBulk d + 1
  | (_, d) => uptoBulk d + 1
 end
def uptoSmall : (H : Type) → List (DataW H) → Bool := fun _ ds => decide (uptoBulkAll ds ≤ 1048576)
def OpenSpec.upto (s : _root_.Go.ChangeSpec) : _root_.Go.OpenSpec := { _root_.Go.OpenSpec.ofChange s with cond := some uptoSmall }

/-- 'hazellaw01.PackTells', WHERE WHAT IT READS IS OF BULK AT MOST 1048576: true; the input reads as it did. -/
def packTellsUptoRow : OpenClaim := { program := "ytbkiafdmhkeffaa", sum := "ef3a3e07b90e87eb4aac07054e20906f71be8fb79f0862447baddfb3eaa82b16", func := "hazel/hazellaw01.PackTells", spec := "packTells", apart := false, narrowed := true }
def PackTellsUptoSaid : Prop := packTellsUptoRow.holds Try.pinned (OpenSpec.upto packTellsSpec)

/-- 'hazellaw01.PackBack', WHERE WHAT IT READS IS OF BULK AT MOST 1048576: true; the input reads as it did. -/
def packBackUptoRow : OpenClaim := { program := "ytbkiafdmhkeffaa", sum := "ef3a3e07b90e87eb4aac07054e20906f71be8fb79f0862447baddfb3eaa82b16", func := "hazel/hazellaw01.PackBack", spec := "packBack", apart := false, narrowed := true }
def PackBackUptoSaid : Prop := packBackUptoRow.holds Try.pinned (OpenSpec.upto packBackSpec)

/-- 'hazellaw01.PackNext', WHERE WHAT IT READS IS OF BULK AT MOST 1048576: true; the input reads as it did. -/
def packNextUptoRow : OpenClaim := { program := "ytbkiafdmhkeffaa", sum := "ef3a3e07b90e87eb4aac07054e20906f71be8fb79f0862447baddfb3eaa82b16", func := "hazel/hazellaw01.PackNext", spec := "packNext", apart := false, narrowed := true }
def PackNextUptoSaid : Prop := packNextUptoRow.holds Try.pinned (OpenSpec.upto packNextSpec)

/-- 'hazellaw01.PackApart', WHERE WHAT IT READS IS OF BULK AT MOST 1048576: true; the input reads as it did. -/
def packApartUptoRow : OpenClaim := { program := "ytbkiafdmhkeffaa", sum := "ef3a3e07b90e87eb4aac07054e20906f71be8fb79f0862447baddfb3eaa82b16", func := "hazel/hazellaw01.PackApart", spec := "packApart", apart := false, narrowed := true }
def PackApartUptoSaid : Prop := packApartUptoRow.holds Try.pinned (OpenSpec.upto packApartSpec)

/-- 'hazellaw01.PackParts', WHERE WHAT IT READS IS OF BULK AT MOST 1048576: true; the input reads as it did. -/
def packPartsUptoRow : OpenClaim := { program := "ytbkiafdmhkeffaa", sum := "ef3a3e07b90e87eb4aac07054e20906f71be8fb79f0862447baddfb3eaa82b16", func := "hazel/hazellaw01.PackParts", spec := "packParts", apart := false, narrowed := true }
def PackPartsUptoSaid : Prop := packPartsUptoRow.holds Try.pinned (OpenSpec.upto packPartsSpec)

/-- 'hazellaw01.PackOne', WHERE WHAT IT READS IS OF BULK AT MOST 1048576: true; the input reads as it did. -/
def packOneUptoRow : OpenClaim := { program := "ytbkiafdmhkeffaa", sum := "ef3a3e07b90e87eb4aac07054e20906f71be8fb79f0862447baddfb3eaa82b16", func := "hazel/hazellaw01.PackOne", spec := "packOne", apart := false, narrowed := true }
def PackOneUptoSaid : Prop := packOneUptoRow.holds Try.pinned (OpenSpec.upto packOneSpec)

/-- 'hazellaw01.PackWraps', WHERE WHAT IT READS IS OF BULK AT MOST 1048576: true; the input reads as it did. -/
def packWrapsUptoRow : OpenClaim := { program := "ytbkiafdmhkeffaa", sum := "ef3a3e07b90e87eb4aac07054e20906f71be8fb79f0862447baddfb3eaa82b16", func := "hazel/hazellaw01.PackWraps", spec := "packWraps", apart := false, narrowed := true }
def PackWrapsUptoSaid : Prop := packWrapsUptoRow.holds Try.pinned (OpenSpec.upto packWrapsSpec)

/-- 'hazellaw01.PackOdd', WHERE WHAT IT READS IS OF BULK AT MOST 1048576: true; the input reads as it did. -/
def packOddUptoRow : OpenClaim := { program := "ytbkiafdmhkeffaa", sum := "ef3a3e07b90e87eb4aac07054e20906f71be8fb79f0862447baddfb3eaa82b16", func := "hazel/hazellaw01.PackOdd", spec := "packOdd", apart := false, narrowed := true }
def PackOddUptoSaid : Prop := packOddUptoRow.holds Try.pinned (OpenSpec.upto packOddSpec)

end Rows
end Go.Proofs.Ytbkiafdmhkeffaa
