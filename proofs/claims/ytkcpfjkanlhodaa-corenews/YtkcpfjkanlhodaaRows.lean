/-
  No cell of these rows narrows 'for every input' (looked for: loops, veiled, ifaces, maps, wideKeys, modest, calm, conditions, laid).
  DERIVED. THE GIVEN ROWS OF THIS SEAT. 5 by the template 'for every input the law returns true; each argument reads behind the call as it read before'; 0 by the template 'total and deterministic' (their statements: YtkcpfjkanlhodaaTotals.lean).
  GIVEN WITH THE SEED: the statements are not yours to turn. If you find one false, say at which input.
  Laid BY PROGRAM, IN A SANDBOX (cutbox-rows.mjs): the forced cells as the released guide's own fill.sh prints them over the translation 7cf00b85ad13ea9a… (all of the seat's roots in one cut). By AI agents, Wed Nov 11 2026. No macro, syntax, notation, axiom, sorry.
-/
import Derived.Test.YtkcpfjkanlhodaaChecked
import GoSem.Claim
import GoSem.ClaimJoined
import GoSem.ClaimMapViews
import Derived.JoinedTies
import Derived.KernelRfl
namespace Go.Proofs.Ytkcpfjkanlhodaa
/- THE CELL 'sum', in the pinned program and in every row, IS THE sha256 OF THE DUMP (.gsa) THAT YtkcpfjkanlhodaaProg.lean LOADS. Nothing in Lean hashes anything: it is a label: what it is worth is what the hold of that sum in a sandbox is worth. -/
noncomputable def Try.pinned : Pinned := { name := "ytkcpfjkanlhodaa", sum := "7cf00b85ad13ea9ac0e8e4400e66731cc94a045594c1461b03df80e33a0ef914", checked := Try.checked }
namespace Rows
def none {H : Type} : Left H := { results := [], args := [] }

/-- 'hazellaw03.CoreTells': WHATEVER THE INPUT: true; the input reads as it did. -/
def coreTellsSpec : ChangeSpec := { name := "coreTells", fn := fun _ => fun
  | [d] => { results := [.lit (.bool true)], args := [d] }
  | _ => none }
def coreTellsRow : OpenClaim := { program := "ytkcpfjkanlhodaa", sum := "7cf00b85ad13ea9ac0e8e4400e66731cc94a045594c1461b03df80e33a0ef914", func := "hazel/hazellaw03.CoreTells", spec := "coreTells", unfollowed := true, recurses := true, apart := false }
def CoreTellsSaid : Prop := coreTellsRow.holds Try.pinned (OpenSpec.ofChange coreTellsSpec)

/-- ITS FALSE NEIGHBOUR: 'it returns false'. Refute it at one input. -/
def coreTellsWrong : ChangeSpec := { name := "coreTells", fn := fun _ => fun
  | [d] => { results := [.lit (.bool false)], args := [d] }
  | _ => none }
def CoreTellsWrongFalsely : Prop := coreTellsRow.holds Try.pinned (OpenSpec.ofChange coreTellsWrong)

/-- 'hazellaw03.CoreDoes': WHATEVER THE INPUT: true; the input reads as it did. -/
def coreDoesSpec : ChangeSpec := { name := "coreDoes", fn := fun _ => fun
  | [d] => { results := [.lit (.bool true)], args := [d] }
  | _ => none }
def coreDoesRow : OpenClaim := { program := "ytkcpfjkanlhodaa", sum := "7cf00b85ad13ea9ac0e8e4400e66731cc94a045594c1461b03df80e33a0ef914", func := "hazel/hazellaw03.CoreDoes", spec := "coreDoes", unfollowed := true, recurses := true, apart := false }
def CoreDoesSaid : Prop := coreDoesRow.holds Try.pinned (OpenSpec.ofChange coreDoesSpec)

/-- ITS FALSE NEIGHBOUR: 'it returns false'. Refute it at one input. -/
def coreDoesWrong : ChangeSpec := { name := "coreDoes", fn := fun _ => fun
  | [d] => { results := [.lit (.bool false)], args := [d] }
  | _ => none }
def CoreDoesWrongFalsely : Prop := coreDoesRow.holds Try.pinned (OpenSpec.ofChange coreDoesWrong)

/-- 'hazellaw03.CoreLogs': WHATEVER THE INPUT: true; the input reads as it did. -/
def coreLogsSpec : ChangeSpec := { name := "coreLogs", fn := fun _ => fun
  | [d] => { results := [.lit (.bool true)], args := [d] }
  | _ => none }
def coreLogsRow : OpenClaim := { program := "ytkcpfjkanlhodaa", sum := "7cf00b85ad13ea9ac0e8e4400e66731cc94a045594c1461b03df80e33a0ef914", func := "hazel/hazellaw03.CoreLogs", spec := "coreLogs", unfollowed := true, recurses := true, apart := false }
def CoreLogsSaid : Prop := coreLogsRow.holds Try.pinned (OpenSpec.ofChange coreLogsSpec)

/-- ITS FALSE NEIGHBOUR: 'it returns false'. Refute it at one input. -/
def coreLogsWrong : ChangeSpec := { name := "coreLogs", fn := fun _ => fun
  | [d] => { results := [.lit (.bool false)], args := [d] }
  | _ => none }
def CoreLogsWrongFalsely : Prop := coreLogsRow.holds Try.pinned (OpenSpec.ofChange coreLogsWrong)

/-- 'hazellaw03.CoreNews': WHATEVER THE INPUT: true; the input reads as it did. -/
def coreNewsSpec : ChangeSpec := { name := "coreNews", fn := fun _ => fun
  | [d1, d2] => { results := [.lit (.bool true)], args := [d1, d2] }
  | _ => none }
def coreNewsRow : OpenClaim := { program := "ytkcpfjkanlhodaa", sum := "7cf00b85ad13ea9ac0e8e4400e66731cc94a045594c1461b03df80e33a0ef914", func := "hazel/hazellaw03.CoreNews", spec := "coreNews", unfollowed := true, recurses := true, apart := false }
def CoreNewsSaid : Prop := coreNewsRow.holds Try.pinned (OpenSpec.ofChange coreNewsSpec)

/-- ITS FALSE NEIGHBOUR: 'it returns false'. Refute it at one input. -/
def coreNewsWrong : ChangeSpec := { name := "coreNews", fn := fun _ => fun
  | [d1, d2] => { results := [.lit (.bool false)], args := [d1, d2] }
  | _ => none }
def CoreNewsWrongFalsely : Prop := coreNewsRow.holds Try.pinned (OpenSpec.ofChange coreNewsWrong)

/-- 'hazellaw03.CoreSame': WHATEVER THE INPUT: true; the input reads as it did. -/
def coreSameSpec : ChangeSpec := { name := "coreSame", fn := fun _ => fun
  | [d1, d2, d3] => { results := [.lit (.bool true)], args := [d1, d2, d3] }
  | _ => none }
def coreSameRow : OpenClaim := { program := "ytkcpfjkanlhodaa", sum := "7cf00b85ad13ea9ac0e8e4400e66731cc94a045594c1461b03df80e33a0ef914", func := "hazel/hazellaw03.CoreSame", spec := "coreSame", unfollowed := true, recurses := true, apart := false }
def CoreSameSaid : Prop := coreSameRow.holds Try.pinned (OpenSpec.ofChange coreSameSpec)

/-- ITS FALSE NEIGHBOUR: 'it returns false'. Refute it at one input. -/
def coreSameWrong : ChangeSpec := { name := "coreSame", fn := fun _ => fun
  | [d1, d2, d3] => { results := [.lit (.bool false)], args := [d1, d2, d3] }
  | _ => none }
def CoreSameWrongFalsely : Prop := coreSameRow.holds Try.pinned (OpenSpec.ofChange coreSameWrong)

/- THE SECOND FORM. 'bulk': how many values and letters a reading holds, each counted each time it is reached (what is shared counts as often as it is met; a slice's spare places count too). A statement '..UptoSaid' is the law's where the arguments, and the package variables that the reading takes, are together of bulk at most 1048576: NARROWER than '..Said'. Prove '..Said' where nothing that the law and all that it calls make is longer than what came in: it says more and counts as full. Else prove '..UptoSaid'. A law counts once. -/
mutual
def uptoBulk {H : Type} : DataW H → Nat
  | .lit (.string bytes) => bytes.length + 1
  | .lit _ => 1
  | .nil => 1
  | .ptr d => uptoBulk d + 1
  | .slice elems spare => uptoBulkAll elems + uptoBulkAll spare + 1
  | .agg parts => uptoBulkAll parts + 1
  | .iface _ d => uptoBulk d + 1
  | .map entries => uptoBulkEntries entries + 1
  | .held _ => 1
def uptoBulkAll {H : Type} : List (DataW H) → Nat
  | [] => 0
  | d :: r => uptoBulk d + uptoBulkAll r
def uptoBulkEntries {H : Type} : List (Lit × DataW H) → Nat
  | [] => 0
  | x :: r => uptoBulkEntry x + uptoBulkEntries r
def uptoBulkEntry {H : Type} : Lit × DataW H → Nat
  | (.string bytes, d) => bytes.length + uptoBulk d + 1
  | (_, d) => uptoBulk d + 1
 end
def uptoSmall : (H : Type) → List (DataW H) → Bool := fun _ ds => decide (uptoBulkAll ds ≤ 1048576)
def OpenSpec.upto (s : _root_.Go.ChangeSpec) : _root_.Go.OpenSpec := { _root_.Go.OpenSpec.ofChange s with cond := some uptoSmall }

/-- 'hazellaw03.CoreTells', WHERE WHAT IT READS IS OF BULK AT MOST 1048576: true; the input reads as it did. -/
def coreTellsUptoRow : OpenClaim := { program := "ytkcpfjkanlhodaa", sum := "7cf00b85ad13ea9ac0e8e4400e66731cc94a045594c1461b03df80e33a0ef914", func := "hazel/hazellaw03.CoreTells", spec := "coreTells", unfollowed := true, recurses := true, apart := false, narrowed := true }
def CoreTellsUptoSaid : Prop := coreTellsUptoRow.holds Try.pinned (OpenSpec.upto coreTellsSpec)

/-- 'hazellaw03.CoreDoes', WHERE WHAT IT READS IS OF BULK AT MOST 1048576: true; the input reads as it did. -/
def coreDoesUptoRow : OpenClaim := { program := "ytkcpfjkanlhodaa", sum := "7cf00b85ad13ea9ac0e8e4400e66731cc94a045594c1461b03df80e33a0ef914", func := "hazel/hazellaw03.CoreDoes", spec := "coreDoes", unfollowed := true, recurses := true, apart := false, narrowed := true }
def CoreDoesUptoSaid : Prop := coreDoesUptoRow.holds Try.pinned (OpenSpec.upto coreDoesSpec)

/-- 'hazellaw03.CoreLogs', WHERE WHAT IT READS IS OF BULK AT MOST 1048576: true; the input reads as it did. -/
def coreLogsUptoRow : OpenClaim := { program := "ytkcpfjkanlhodaa", sum := "7cf00b85ad13ea9ac0e8e4400e66731cc94a045594c1461b03df80e33a0ef914", func := "hazel/hazellaw03.CoreLogs", spec := "coreLogs", unfollowed := true, recurses := true, apart := false, narrowed := true }
def CoreLogsUptoSaid : Prop := coreLogsUptoRow.holds Try.pinned (OpenSpec.upto coreLogsSpec)

/-- 'hazellaw03.CoreNews', WHERE WHAT IT READS IS OF BULK AT MOST 1048576: true; the input reads as it did. -/
def coreNewsUptoRow : OpenClaim := { program := "ytkcpfjkanlhodaa", sum := "7cf00b85ad13ea9ac0e8e4400e66731cc94a045594c1461b03df80e33a0ef914", func := "hazel/hazellaw03.CoreNews", spec := "coreNews", unfollowed := true, recurses := true, apart := false, narrowed := true }
def CoreNewsUptoSaid : Prop := coreNewsUptoRow.holds Try.pinned (OpenSpec.upto coreNewsSpec)

/-- 'hazellaw03.CoreSame', WHERE WHAT IT READS IS OF BULK AT MOST 1048576: true; the input reads as it did. -/
def coreSameUptoRow : OpenClaim := { program := "ytkcpfjkanlhodaa", sum := "7cf00b85ad13ea9ac0e8e4400e66731cc94a045594c1461b03df80e33a0ef914", func := "hazel/hazellaw03.CoreSame", spec := "coreSame", unfollowed := true, recurses := true, apart := false, narrowed := true }
def CoreSameUptoSaid : Prop := coreSameUptoRow.holds Try.pinned (OpenSpec.upto coreSameSpec)

end Rows
end Go.Proofs.Ytkcpfjkanlhodaa
