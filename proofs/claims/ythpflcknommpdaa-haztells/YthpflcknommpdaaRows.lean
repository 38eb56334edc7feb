/-
  No cell of these rows narrows 'for every input' (looked for: loops, veiled, ifaces, maps, wideKeys, modest, calm, conditions, laid).
  DERIVED. THE GIVEN ROWS OF THIS SEAT. 4 by the template 'for every input the law returns true; each argument reads behind the call as it read before'; 0 by the template 'total and deterministic' (their statements: YthpflcknommpdaaTotals.lean).
  GIVEN WITH THE SEED: the statements are not yours to turn. If you find one false, say at which input.
  Laid BY PROGRAM, IN A SANDBOX (cutbox-rows.mjs): the forced cells as the released guide's own fill.sh prints them over the translation ba69030926dcf93c… (all of the seat's roots in one cut). By AI agents, Wed Nov 11 2026. No macro, syntax, notation, axiom, sorry.
-/
import Derived.Test.YthpflcknommpdaaChecked
import GoSem.Claim
import GoSem.ClaimJoined
import GoSem.ClaimMapViews
import Derived.JoinedTies
import Derived.KernelRfl
namespace Go.Proofs.Ythpflcknommpdaa
/- THE CELL 'sum', in the pinned program and in every row, IS THE sha256 OF THE DUMP (.gsa) THAT YthpflcknommpdaaProg.lean LOADS. Nothing in Lean hashes anything: it is a label: what it is worth is what the hold of that sum in a sandbox is worth. -/
noncomputable def Try.pinned : Pinned := { name := "ythpflcknommpdaa", sum := "ba69030926dcf93ca9d2af501e1c3d2e567f2891631d5a592ec380c271dc1e82", checked := Try.checked }
namespace Rows
def none {H : Type} : Left H := { results := [], args := [] }

/-- 'hazellaw05.HazTells': WHATEVER THE INPUT: true; the input reads as it did. -/
def hazTellsSpec : ChangeSpec := { name := "hazTells", fn := fun _ => fun
  | [d] => { results := [.lit (.bool true)], args := [d] }
  | _ => none }
def hazTellsRow : OpenClaim := { program := "ythpflcknommpdaa", sum := "ba69030926dcf93ca9d2af501e1c3d2e567f2891631d5a592ec380c271dc1e82", func := "hazel/hazellaw05.HazTells", spec := "hazTells", unfollowed := true, recurses := true, apart := false }
def HazTellsSaid : Prop := hazTellsRow.holds Try.pinned (OpenSpec.ofChange hazTellsSpec)

/-- ITS FALSE NEIGHBOUR: 'it returns false'. Refute it at one input. -/
def hazTellsWrong : ChangeSpec := { name := "hazTells", fn := fun _ => fun
  | [d] => { results := [.lit (.bool false)], args := [d] }
  | _ => none }
def HazTellsWrongFalsely : Prop := hazTellsRow.holds Try.pinned (OpenSpec.ofChange hazTellsWrong)

/-- 'hazellaw06.ScanSafe': WHATEVER THE INPUT: true; the input reads as it did. -/
def scanSafeSpec : ChangeSpec := { name := "scanSafe", fn := fun _ => fun
  | [d1, d2, d3] => { results := [.lit (.bool true)], args := [d1, d2, d3] }
  | _ => none }
def scanSafeRow : OpenClaim := { program := "ythpflcknommpdaa", sum := "ba69030926dcf93ca9d2af501e1c3d2e567f2891631d5a592ec380c271dc1e82", func := "hazel/hazellaw06.ScanSafe", spec := "scanSafe", unfollowed := true, recurses := true, apart := false }
def ScanSafeSaid : Prop := scanSafeRow.holds Try.pinned (OpenSpec.ofChange scanSafeSpec)

/-- ITS FALSE NEIGHBOUR: 'it returns false'. Refute it at one input. -/
def scanSafeWrong : ChangeSpec := { name := "scanSafe", fn := fun _ => fun
  | [d1, d2, d3] => { results := [.lit (.bool false)], args := [d1, d2, d3] }
  | _ => none }
def ScanSafeWrongFalsely : Prop := scanSafeRow.holds Try.pinned (OpenSpec.ofChange scanSafeWrong)

/-- 'hazellaw06.ScanRetires': WHATEVER THE INPUT: true; the input reads as it did. -/
def scanRetiresSpec : ChangeSpec := { name := "scanRetires", fn := fun _ => fun
  | [d1, d2, d3] => { results := [.lit (.bool true)], args := [d1, d2, d3] }
  | _ => none }
def scanRetiresRow : OpenClaim := { program := "ythpflcknommpdaa", sum := "ba69030926dcf93ca9d2af501e1c3d2e567f2891631d5a592ec380c271dc1e82", func := "hazel/hazellaw06.ScanRetires", spec := "scanRetires", unfollowed := true, recurses := true, apart := false }
def ScanRetiresSaid : Prop := scanRetiresRow.holds Try.pinned (OpenSpec.ofChange scanRetiresSpec)

/-- ITS FALSE NEIGHBOUR: 'it returns false'. Refute it at one input. -/
def scanRetiresWrong : ChangeSpec := { name := "scanRetires", fn := fun _ => fun
  | [d1, d2, d3] => { results := [.lit (.bool false)], args := [d1, d2, d3] }
  | _ => none }
def ScanRetiresWrongFalsely : Prop := scanRetiresRow.holds Try.pinned (OpenSpec.ofChange scanRetiresWrong)

/-- 'hazellaw07.AllocSafe': WHATEVER THE INPUT: true; the input reads as it did. -/
def allocSafeSpec : ChangeSpec := { name := "allocSafe", fn := fun _ => fun
  | [d1, d2, d3] => { results := [.lit (.bool true)], args := [d1, d2, d3] }
  | _ => none }
def allocSafeRow : OpenClaim := { program := "ythpflcknommpdaa", sum := "ba69030926dcf93ca9d2af501e1c3d2e567f2891631d5a592ec380c271dc1e82", func := "hazel/hazellaw07.AllocSafe", spec := "allocSafe", unfollowed := true, recurses := true, apart := false }
def AllocSafeSaid : Prop := allocSafeRow.holds Try.pinned (OpenSpec.ofChange allocSafeSpec)

/-- ITS FALSE NEIGHBOUR: 'it returns false'. Refute it at one input. -/
def allocSafeWrong : ChangeSpec := { name := "allocSafe", fn := fun _ => fun
  | [d1, d2, d3] => { results := [.lit (.bool false)], args := [d1, d2, d3] }
  | _ => none }
def AllocSafeWrongFalsely : Prop := allocSafeRow.holds Try.pinned (OpenSpec.ofChange allocSafeWrong)

/- THE SECOND FORM. 'bulk': how many values and letters a reading holds, each counted each time it is reached (what is shared counts as often as it is met; a slice's spare places count too). A statement '..UptoSaid' is the law's where the arguments, and the package variables that the reading takes, are together of bulk at most 1048576: NARROWER than '..Said'. Prove '..Said' where nothing that the law and all that it calls make is longer than what came in: it says more and counts as full. Else prove '..UptoSaid'. A law counts once. -/
mutual
def uptoBulk {H : Type} : DataW H → Nat
  | .lit (.string bytes) => bytes.length + 1
  | .lit _ => 1
  | .nil => 1
  | .ptr d => uptoBulk d + 1
  | .slice elems spare => uptoBulkAll elems + uptoBulkAll spare + 1
  | .agg parts => uptoBulkAll parts + 1
  | .iface _ d => uptoBulk d + 1
  | .map entries => uptoBulkEntries entries + 1
  | .held _ => 1
def uptoBulkAll {H : Type} : List (DataW H) → Nat
  | [] => 0
  | d :: r => uptoBulk d + uptoBulkAll r
def uptoBulkEntries {H : Type} : List (Lit × DataW H) → Nat
  | [] => 0
  | x :: r => uptoBulkEntry x + uptoBulkEntries r
def uptoBulkEntry {H : Type} : Lit × DataW H → Nat
  | (.string bytes, d) => bytes.length + uptoBulk d + 1
  | (_, d) => uptoBulk d + 1
 end
def uptoSmall : (H : Type) → List (DataW H) → Bool := fun _ ds => decide (uptoBulkAll ds ≤ 1048576)
def OpenSpec.upto (s : _root_.Go.ChangeSpec) : _root_.Go.OpenSpec := { _root_.Go.OpenSpec.ofChange s with cond := some uptoSmall }

/-- 'hazellaw05.HazTells', WHERE WHAT IT READS IS OF BULK AT MOST 1048576: true; the input reads as it did. -/
def hazTellsUptoRow : OpenClaim := { program := "ythpflcknommpdaa", sum := "ba69030926dcf93ca9d2af501e1c3d2e567f2891631d5a592ec380c271dc1e82", func := "hazel/hazellaw05.HazTells", spec := "hazTells", unfollowed := true, recurses := true, apart := false, narrowed := true }
def HazTellsUptoSaid : Prop := hazTellsUptoRow.holds Try.pinned (OpenSpec.upto hazTellsSpec)

/-- 'hazellaw06.ScanSafe', WHERE WHAT IT READS IS OF BULK AT MOST 1048576: true; the input reads as it did. -/
def scanSafeUptoRow : OpenClaim := { program := "ythpflcknommpdaa", sum := "ba69030926dcf93ca9d2af501e1c3d2e567f2891631d5a592ec380c271dc1e82", func := "hazel/hazellaw06.ScanSafe", spec := "scanSafe", unfollowed := true, recurses := true, apart := false, narrowed := true }
def ScanSafeUptoSaid : Prop := scanSafeUptoRow.holds Try.pinned (OpenSpec.upto scanSafeSpec)

/-- 'hazellaw06.ScanRetires', WHERE WHAT IT READS IS OF BULK AT MOST 1048576: true; the input reads as it did. -/
def scanRetiresUptoRow : OpenClaim := { program := "ythpflcknommpdaa", sum := "ba69030926dcf93ca9d2af501e1c3d2e567f2891631d5a592ec380c271dc1e82", func := "hazel/hazellaw06.ScanRetires", spec := "scanRetires", unfollowed := true, recurses := true, apart := false, narrowed := true }
def ScanRetiresUptoSaid : Prop := scanRetiresUptoRow.holds Try.pinned (OpenSpec.upto scanRetiresSpec)

/-- 'hazellaw07.AllocSafe', WHERE WHAT IT READS IS OF BULK AT MOST 1048576: true; the input reads as it did. -/
def allocSafeUptoRow : OpenClaim := { program := "ythpflcknommpdaa", sum := "ba69030926dcf93ca9d2af501e1c3d2e567f2891631d5a592ec380c271dc1e82", func := "hazel/hazellaw07.AllocSafe", spec := "allocSafe", unfollowed := true, recurses := true, apart := false, narrowed := true }
def AllocSafeUptoSaid : Prop := allocSafeUptoRow.holds Try.pinned (OpenSpec.upto allocSafeSpec)

end Rows
end Go.Proofs.Ythpflcknommpdaa
