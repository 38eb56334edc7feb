/-
  No cell of these rows narrows 'for every input' (looked for: loops, veiled, ifaces, maps, wideKeys, modest, calm, conditions, laid).
  DERIVED. THE GIVEN ROWS OF THIS SEAT. 9 by the template 'for every input the law returns true; each argument reads behind the call as it read before'; 0 by the template 'total and deterministic' (their statements: YtgjpgbdloflfbaaTotals.lean).
  GIVEN WITH THE SEED: the statements are not yours to turn. If you find one false, say at which input.
  Laid BY PROGRAM, IN A SANDBOX (cutbox-rows.mjs): the forced cells as the released guide's own fill.sh prints them over the translation 0fab12402e69f533… (all of the seat's roots in one cut). By AI agents, Wed Nov 11 2026. No macro, syntax, notation, axiom, sorry.
-/
import Derived.Test.YtgjpgbdloflfbaaChecked
import GoSem.Claim
import GoSem.ClaimJoined
import GoSem.ClaimMapViews
import Derived.JoinedTies
import Derived.KernelRfl
namespace Go.Proofs.Ytgjpgbdloflfbaa
/- THE CELL 'sum', in the pinned program and in every row, IS THE sha256 OF THE DUMP (.gsa) THAT YtgjpgbdloflfbaaProg.lean LOADS. Nothing in Lean hashes anything: it is a label: what it is worth is what the hold of that sum in a sandbox is worth. -/
noncomputable def Try.pinned : Pinned := { name := "ytgjpgbdloflfbaa", sum := "0fab12402e69f533ef4886953a173afc0286da49235075d920cf9f72d169bc5c", checked := Try.checked }
namespace Rows
def none {H : Type} : Left H := { results := [], args := [] }

/-- 'hazellaw04.StackSafe': WHATEVER THE INPUT: true; the input reads as it did. -/
def stackSafeSpec : ChangeSpec := { name := "stackSafe", fn := fun _ => fun
  | [d1, d2, d3] => { results := [.lit (.bool true)], args := [d1, d2, d3] }
  | _ => none }
def stackSafeRow : OpenClaim := { program := "ytgjpgbdloflfbaa", sum := "0fab12402e69f533ef4886953a173afc0286da49235075d920cf9f72d169bc5c", func := "hazel/hazellaw04.StackSafe", spec := "stackSafe", unfollowed := true, recurses := true, apart := false }
def StackSafeSaid : Prop := stackSafeRow.holds Try.pinned (OpenSpec.ofChange stackSafeSpec)

/-- ITS FALSE NEIGHBOUR: 'it returns false'. Refute it at one input. -/
def stackSafeWrong : ChangeSpec := { name := "stackSafe", fn := fun _ => fun
  | [d1, d2, d3] => { results := [.lit (.bool false)], args := [d1, d2, d3] }
  | _ => none }
def StackSafeWrongFalsely : Prop := stackSafeRow.holds Try.pinned (OpenSpec.ofChange stackSafeWrong)

/-- 'hazellaw04.StackFull': WHATEVER THE INPUT: true; the input reads as it did. -/
def stackFullSpec : ChangeSpec := { name := "stackFull", fn := fun _ => fun
  | [d] => { results := [.lit (.bool true)], args := [d] }
  | _ => none }
def stackFullRow : OpenClaim := { program := "ytgjpgbdloflfbaa", sum := "0fab12402e69f533ef4886953a173afc0286da49235075d920cf9f72d169bc5c", func := "hazel/hazellaw04.StackFull", spec := "stackFull", unfollowed := true, recurses := true, apart := false }
def StackFullSaid : Prop := stackFullRow.holds Try.pinned (OpenSpec.ofChange stackFullSpec)

/-- ITS FALSE NEIGHBOUR: 'it returns false'. Refute it at one input. -/
def stackFullWrong : ChangeSpec := { name := "stackFull", fn := fun _ => fun
  | [d] => { results := [.lit (.bool false)], args := [d] }
  | _ => none }
def StackFullWrongFalsely : Prop := stackFullRow.holds Try.pinned (OpenSpec.ofChange stackFullWrong)

/-- 'hazellaw04.StackFree': WHATEVER THE INPUT: true; the input reads as it did. -/
def stackFreeSpec : ChangeSpec := { name := "stackFree", fn := fun _ => fun
  | [d] => { results := [.lit (.bool true)], args := [d] }
  | _ => none }
def stackFreeRow : OpenClaim := { program := "ytgjpgbdloflfbaa", sum := "0fab12402e69f533ef4886953a173afc0286da49235075d920cf9f72d169bc5c", func := "hazel/hazellaw04.StackFree", spec := "stackFree", unfollowed := true, recurses := true, apart := false }
def StackFreeSaid : Prop := stackFreeRow.holds Try.pinned (OpenSpec.ofChange stackFreeSpec)

/-- ITS FALSE NEIGHBOUR: 'it returns false'. Refute it at one input. -/
def stackFreeWrong : ChangeSpec := { name := "stackFree", fn := fun _ => fun
  | [d] => { results := [.lit (.bool false)], args := [d] }
  | _ => none }
def StackFreeWrongFalsely : Prop := stackFreeRow.holds Try.pinned (OpenSpec.ofChange stackFreeWrong)

/-- 'hazellaw04.StackTags': WHATEVER THE INPUT: true; the input reads as it did. -/
def stackTagsSpec : ChangeSpec := { name := "stackTags", fn := fun _ => fun
  | [d] => { results := [.lit (.bool true)], args := [d] }
  | _ => none }
def stackTagsRow : OpenClaim := { program := "ytgjpgbdloflfbaa", sum := "0fab12402e69f533ef4886953a173afc0286da49235075d920cf9f72d169bc5c", func := "hazel/hazellaw04.StackTags", spec := "stackTags", unfollowed := true, recurses := true, apart := false }
def StackTagsSaid : Prop := stackTagsRow.holds Try.pinned (OpenSpec.ofChange stackTagsSpec)

/-- ITS FALSE NEIGHBOUR: 'it returns false'. Refute it at one input. -/
def stackTagsWrong : ChangeSpec := { name := "stackTags", fn := fun _ => fun
  | [d] => { results := [.lit (.bool false)], args := [d] }
  | _ => none }
def StackTagsWrongFalsely : Prop := stackTagsRow.holds Try.pinned (OpenSpec.ofChange stackTagsWrong)

/-- 'hazellaw05.HazTells': WHATEVER THE INPUT: true; the input reads as it did. -/
def hazTellsSpec : ChangeSpec := { name := "hazTells", fn := fun _ => fun
  | [d] => { results := [.lit (.bool true)], args := [d] }
  | _ => none }
def hazTellsRow : OpenClaim := { program := "ytgjpgbdloflfbaa", sum := "0fab12402e69f533ef4886953a173afc0286da49235075d920cf9f72d169bc5c", func := "hazel/hazellaw05.HazTells", spec := "hazTells", unfollowed := true, recurses := true, apart := false }
def HazTellsSaid : Prop := hazTellsRow.holds Try.pinned (OpenSpec.ofChange hazTellsSpec)

/-- ITS FALSE NEIGHBOUR: 'it returns false'. Refute it at one input. -/
def hazTellsWrong : ChangeSpec := { name := "hazTells", fn := fun _ => fun
  | [d] => { results := [.lit (.bool false)], args := [d] }
  | _ => none }
def HazTellsWrongFalsely : Prop := hazTellsRow.holds Try.pinned (OpenSpec.ofChange hazTellsWrong)

/-- 'hazellaw05.HazClears': WHATEVER THE INPUT: true; the input reads as it did. -/
def hazClearsSpec : ChangeSpec := { name := "hazClears", fn := fun _ => fun
  | [d1, d2] => { results := [.lit (.bool true)], args := [d1, d2] }
  | _ => none }
def hazClearsRow : OpenClaim := { program := "ytgjpgbdloflfbaa", sum := "0fab12402e69f533ef4886953a173afc0286da49235075d920cf9f72d169bc5c", func := "hazel/hazellaw05.HazClears", spec := "hazClears", unfollowed := true, recurses := true, apart := false }
def HazClearsSaid : Prop := hazClearsRow.holds Try.pinned (OpenSpec.ofChange hazClearsSpec)

/-- ITS FALSE NEIGHBOUR: 'it returns false'. Refute it at one input. -/
def hazClearsWrong : ChangeSpec := { name := "hazClears", fn := fun _ => fun
  | [d1, d2] => { results := [.lit (.bool false)], args := [d1, d2] }
  | _ => none }
def HazClearsWrongFalsely : Prop := hazClearsRow.holds Try.pinned (OpenSpec.ofChange hazClearsWrong)

/-- 'hazellaw05.HazNames': WHATEVER THE INPUT: true; the input reads as it did. -/
def hazNamesSpec : ChangeSpec := { name := "hazNames", fn := fun _ => fun
  | [d] => { results := [.lit (.bool true)], args := [d] }
  | _ => none }
def hazNamesRow : OpenClaim := { program := "ytgjpgbdloflfbaa", sum := "0fab12402e69f533ef4886953a173afc0286da49235075d920cf9f72d169bc5c", func := "hazel/hazellaw05.HazNames", spec := "hazNames", unfollowed := true, recurses := true, apart := false }
def HazNamesSaid : Prop := hazNamesRow.holds Try.pinned (OpenSpec.ofChange hazNamesSpec)

/-- ITS FALSE NEIGHBOUR: 'it returns false'. Refute it at one input. -/
def hazNamesWrong : ChangeSpec := { name := "hazNames", fn := fun _ => fun
  | [d] => { results := [.lit (.bool false)], args := [d] }
  | _ => none }
def HazNamesWrongFalsely : Prop := hazNamesRow.holds Try.pinned (OpenSpec.ofChange hazNamesWrong)

/-- 'hazellaw05.HazPlaces': WHATEVER THE INPUT: true; the input reads as it did. -/
def hazPlacesSpec : ChangeSpec := { name := "hazPlaces", fn := fun _ => fun
  | [d] => { results := [.lit (.bool true)], args := [d] }
  | _ => none }
def hazPlacesRow : OpenClaim := { program := "ytgjpgbdloflfbaa", sum := "0fab12402e69f533ef4886953a173afc0286da49235075d920cf9f72d169bc5c", func := "hazel/hazellaw05.HazPlaces", spec := "hazPlaces", unfollowed := true, recurses := true, apart := false }
def HazPlacesSaid : Prop := hazPlacesRow.holds Try.pinned (OpenSpec.ofChange hazPlacesSpec)

/-- ITS FALSE NEIGHBOUR: 'it returns false'. Refute it at one input. -/
def hazPlacesWrong : ChangeSpec := { name := "hazPlaces", fn := fun _ => fun
  | [d] => { results := [.lit (.bool false)], args := [d] }
  | _ => none }
def HazPlacesWrongFalsely : Prop := hazPlacesRow.holds Try.pinned (OpenSpec.ofChange hazPlacesWrong)

/-- 'hazellaw05.HazApart': WHATEVER THE INPUT: true; the input reads as it did. -/
def hazApartSpec : ChangeSpec := { name := "hazApart", fn := fun _ => fun
  | [d1, d2] => { results := [.lit (.bool true)], args := [d1, d2] }
  | _ => none }
def hazApartRow : OpenClaim := { program := "ytgjpgbdloflfbaa", sum := "0fab12402e69f533ef4886953a173afc0286da49235075d920cf9f72d169bc5c", func := "hazel/hazellaw05.HazApart", spec := "hazApart", unfollowed := true, recurses := true, apart := false }
def HazApartSaid : Prop := hazApartRow.holds Try.pinned (OpenSpec.ofChange hazApartSpec)

/-- ITS FALSE NEIGHBOUR: 'it returns false'. Refute it at one input. -/
def hazApartWrong : ChangeSpec := { name := "hazApart", fn := fun _ => fun
  | [d1, d2] => { results := [.lit (.bool false)], args := [d1, d2] }
  | _ => none }
def HazApartWrongFalsely : Prop := hazApartRow.holds Try.pinned (OpenSpec.ofChange hazApartWrong)

/- THE SECOND FORM. 'bulk': how many values and letters a reading holds, each counted each time it is reached (what is shared counts as often as it is met; a slice's spare places count too). A statement '..UptoSaid' is the law's where the arguments, and the package variables that the reading takes, are together of bulk at most 1048576: NARROWER than '..Said'. Prove '..Said' where nothing that the law and all that it calls make is longer than what came in: it says more and counts as full. Else prove '..UptoSaid'. A law counts once. -/
mutual
def uptoBulk {H : Type} : DataW H → Nat
  | .lit (.string bytes) => bytes.length + 1
  | .lit _ => 1
  | .nil => 1
  | .ptr d => uptoBulk d + 1
  | .slice elems spare => uptoBulkAll elems + uptoBulkAll spare + 1
  | .agg parts => uptoBulkAll parts + 1
  | .iface _ d => uptoBulk d + 1
  | .map entries => uptoBulkEntries entries + 1
  | .held _ => 1
def uptoBulkAll {H : Type} : List (DataW H) → Nat
  | [] => 0
  | d :: r => uptoBulk d + uptoBulkAll r
def uptoBulkEntries {H : Type} : List (Lit × DataW H) → Nat
  | [] => 0
  | x :: r => uptoBulkEntry x + uptoBulkEntries r
def uptoBulkEntry {H : Type} : Lit × DataW H → Nat
  | (.string bytes, d) => bytes.length + uptoBulk d + 1
  | (_, d) => uptoBulk d + 1
 end
def uptoSmall : (H : Type) → List (DataW H) → Bool := fun _ ds => decide (uptoBulkAll ds ≤ 1048576)
def OpenSpec.upto (s : _root_.Go.ChangeSpec) : _root_.Go.OpenSpec := { _root_.Go.OpenSpec.ofChange s with cond := some uptoSmall }

/-- 'hazellaw04.StackSafe', WHERE WHAT IT READS IS OF BULK AT MOST 1048576: true; the input reads as it did. -/
def stackSafeUptoRow : OpenClaim := { program := "ytgjpgbdloflfbaa", sum := "0fab12402e69f533ef4886953a173afc0286da49235075d920cf9f72d169bc5c", func := "hazel/hazellaw04.StackSafe", spec := "stackSafe", unfollowed := true, recurses := true, apart := false, narrowed := true }
def StackSafeUptoSaid : Prop := stackSafeUptoRow.holds Try.pinned (OpenSpec.upto stackSafeSpec)

/-- 'hazellaw04.StackFull', WHERE WHAT IT READS IS OF BULK AT MOST 1048576: true; the input reads as it did. -/
def stackFullUptoRow : OpenClaim := { program := "ytgjpgbdloflfbaa", sum := "0fab12402e69f533ef4886953a173afc0286da49235075d920cf9f72d169bc5c", func := "hazel/hazellaw04.StackFull", spec := "stackFull", unfollowed := true, recurses := true, apart := false, narrowed := true }
def StackFullUptoSaid : Prop := stackFullUptoRow.holds Try.pinned (OpenSpec.upto stackFullSpec)

/-- 'hazellaw04.StackFree', WHERE WHAT IT READS IS OF BULK AT MOST 1048576: true; the input reads as it did. -/
def stackFreeUptoRow : OpenClaim := { program := "ytgjpgbdloflfbaa", sum := "0fab12402e69f533ef4886953a173afc0286da49235075d920cf9f72d169bc5c", func := "hazel/hazellaw04.StackFree", spec := "stackFree", unfollowed := true, recurses := true, apart := false, narrowed := true }
def StackFreeUptoSaid : Prop := stackFreeUptoRow.holds Try.pinned (OpenSpec.upto stackFreeSpec)

/-- 'hazellaw04.StackTags', WHERE WHAT IT READS IS OF BULK AT MOST 1048576: true; the input reads as it did. -/
def stackTagsUptoRow : OpenClaim := { program := "ytgjpgbdloflfbaa", sum := "0fab12402e69f533ef4886953a173afc0286da49235075d920cf9f72d169bc5c", func := "hazel/hazellaw04.StackTags", spec := "stackTags", unfollowed := true, recurses := true, apart := false, narrowed := true }
def StackTagsUptoSaid : Prop := stackTagsUptoRow.holds Try.pinned (OpenSpec.upto stackTagsSpec)

/-- 'hazellaw05.HazTells', WHERE WHAT IT READS IS OF BULK AT MOST 1048576: true; the input reads as it did. -/
def hazTellsUptoRow : OpenClaim := { program := "ytgjpgbdloflfbaa", sum := "0fab12402e69f533ef4886953a173afc0286da49235075d920cf9f72d169bc5c", func := "hazel/hazellaw05.HazTells", spec := "hazTells", unfollowed := true, recurses := true, apart := false, narrowed := true }
def HazTellsUptoSaid : Prop := hazTellsUptoRow.holds Try.pinned (OpenSpec.upto hazTellsSpec)

/-- 'hazellaw05.HazClears', WHERE WHAT IT READS IS OF BULK AT MOST 1048576: true; the input reads as it did. -/
def hazClearsUptoRow : OpenClaim := { program := "ytgjpgbdloflfbaa", sum := "0fab12402e69f533ef4886953a173afc0286da49235075d920cf9f72d169bc5c", func := "hazel/hazellaw05.HazClears", spec := "hazClears", unfollowed := true, recurses := true, apart := false, narrowed := true }
def HazClearsUptoSaid : Prop := hazClearsUptoRow.holds Try.pinned (OpenSpec.upto hazClearsSpec)

/-- 'hazellaw05.HazNames', WHERE WHAT IT READS IS OF BULK AT MOST 1048576: true; the input reads as it did. -/
def hazNamesUptoRow : OpenClaim := { program := "ytgjpgbdloflfbaa", sum := "0fab12402e69f533ef4886953a173afc0286da49235075d920cf9f72d169bc5c", func := "hazel/hazellaw05.HazNames", spec := "hazNames", unfollowed := true, recurses := true, apart := false, narrowed := true }
def HazNamesUptoSaid : Prop := hazNamesUptoRow.holds Try.pinned (OpenSpec.upto hazNamesSpec)

/-- 'hazellaw05.HazPlaces', WHERE WHAT IT READS IS OF BULK AT MOST 1048576: true; the input reads as it did. -/
def hazPlacesUptoRow : OpenClaim := { program := "ytgjpgbdloflfbaa", sum := "0fab12402e69f533ef4886953a173afc0286da49235075d920cf9f72d169bc5c", func := "hazel/hazellaw05.HazPlaces", spec := "hazPlaces", unfollowed := true, recurses := true, apart := false, narrowed := true }
def HazPlacesUptoSaid : Prop := hazPlacesUptoRow.holds Try.pinned (OpenSpec.upto hazPlacesSpec)

/-- 'hazellaw05.HazApart', WHERE WHAT IT READS IS OF BULK AT MOST 1048576: true; the input reads as it did. -/
def hazApartUptoRow : OpenClaim := { program := "ytgjpgbdloflfbaa", sum := "0fab12402e69f533ef4886953a173afc0286da49235075d920cf9f72d169bc5c", func := "hazel/hazellaw05.HazApart", spec := "hazApart", unfollowed := true, recurses := true, apart := false, narrowed := true }
def HazApartUptoSaid : Prop := hazApartUptoRow.holds Try.pinned (OpenSpec.upto hazApartSpec)

end Rows
end Go.Proofs.Ytgjpgbdloflfbaa
