/-
  No cell of these rows narrows 'for every input' (looked for: loops, veiled, ifaces, maps, wideKeys, modest, calm, conditions, laid).
  DERIVED. THE GIVEN ROWS OF THIS SEAT. 6 by the template 'for every input the law returns true; each argument reads behind the call as it read before'; 0 by the template 'total and deterministic' (their statements: YtomijmikkbhgmabTotals.lean).
  GIVEN WITH THE SEED: the statements are not yours to turn. If you find one false, say at which input.
  Laid BY PROGRAM, IN A SANDBOX (cutbox-rows.mjs): the forced cells as the released guide's own fill.sh prints them over the translation 0f04b78b6f458605… (all of the seat's roots in one cut). By AI agents, Wed Nov 11 2026. No macro, syntax, notation, axiom, sorry.
-/
import Derived.Test.YtomijmikkbhgmabChecked
import GoSem.Claim
import GoSem.ClaimJoined
import GoSem.ClaimMapViews
import Derived.JoinedTies
import Derived.KernelRfl
namespace Go.Proofs.Ytomijmikkbhgmab
/- THE CELL 'sum', in the pinned program and in every row, IS THE sha256 OF THE DUMP (.gsa) THAT YtomijmikkbhgmabProg.lean LOADS. Nothing in Lean hashes anything: it is a label: what it is worth is what the hold of that sum in a sandbox is worth. -/
noncomputable def Try.pinned : Pinned := { name := "ytomijmikkbhgmab", sum := "0f04b78b6f458605ef7b9ae2c636d32d52229d1d8b3d11f1c1b4a99531c56f2a", checked := Try.checked }
namespace Rows
def none {H : Type} : Left H := { results := [], args := [] }

/-- 'litmuskeep.Fenced': WHATEVER THE INPUT: true; the input reads as it did. -/
def fencedSpec : ChangeSpec := { name := "fenced", fn := fun _ => fun
  | [d] => { results := [.lit (.bool true)], args := [d] }
  | _ => none }
def fencedRow : OpenClaim := { program := "ytomijmikkbhgmab", sum := "0f04b78b6f458605ef7b9ae2c636d32d52229d1d8b3d11f1c1b4a99531c56f2a", func := "litmus/litmuskeep.Fenced", spec := "fenced", recurses := true, apart := false }
def FencedSaid : Prop := fencedRow.holds Try.pinned (OpenSpec.ofChange fencedSpec)

/-- ITS FALSE NEIGHBOUR: 'it returns false'. Refute it at one input. -/
def fencedWrong : ChangeSpec := { name := "fenced", fn := fun _ => fun
  | [d] => { results := [.lit (.bool false)], args := [d] }
  | _ => none }
def FencedWrongFalsely : Prop := fencedRow.holds Try.pinned (OpenSpec.ofChange fencedWrong)

/-- 'litmuskeep.Single': WHATEVER THE INPUT: true; the input reads as it did. -/
def singleSpec : ChangeSpec := { name := "single", fn := fun _ => fun
  | [d1, d2] => { results := [.lit (.bool true)], args := [d1, d2] }
  | _ => none }
def singleRow : OpenClaim := { program := "ytomijmikkbhgmab", sum := "0f04b78b6f458605ef7b9ae2c636d32d52229d1d8b3d11f1c1b4a99531c56f2a", func := "litmus/litmuskeep.Single", spec := "single", recurses := true, apart := false }
def SingleSaid : Prop := singleRow.holds Try.pinned (OpenSpec.ofChange singleSpec)

/-- ITS FALSE NEIGHBOUR: 'it returns false'. Refute it at one input. -/
def singleWrong : ChangeSpec := { name := "single", fn := fun _ => fun
  | [d1, d2] => { results := [.lit (.bool false)], args := [d1, d2] }
  | _ => none }
def SingleWrongFalsely : Prop := singleRow.holds Try.pinned (OpenSpec.ofChange singleWrong)

/-- 'litmuskeep.Monotone': WHATEVER THE INPUT: true; the input reads as it did. -/
def monotoneSpec : ChangeSpec := { name := "monotone", fn := fun _ => fun
  | [d1, d2, d3, d4] => { results := [.lit (.bool true)], args := [d1, d2, d3, d4] }
  | _ => none }
def monotoneRow : OpenClaim := { program := "ytomijmikkbhgmab", sum := "0f04b78b6f458605ef7b9ae2c636d32d52229d1d8b3d11f1c1b4a99531c56f2a", func := "litmus/litmuskeep.Monotone", spec := "monotone", recurses := true, apart := false }
def MonotoneSaid : Prop := monotoneRow.holds Try.pinned (OpenSpec.ofChange monotoneSpec)

/-- ITS FALSE NEIGHBOUR: 'it returns false'. Refute it at one input. -/
def monotoneWrong : ChangeSpec := { name := "monotone", fn := fun _ => fun
  | [d1, d2, d3, d4] => { results := [.lit (.bool false)], args := [d1, d2, d3, d4] }
  | _ => none }
def MonotoneWrongFalsely : Prop := monotoneRow.holds Try.pinned (OpenSpec.ofChange monotoneWrong)

/-- 'litmuskeep.Renamed': WHATEVER THE INPUT: true; the input reads as it did. -/
def renamedSpec : ChangeSpec := { name := "renamed", fn := fun _ => fun
  | [d1, d2, d3, d4, d5] => { results := [.lit (.bool true)], args := [d1, d2, d3, d4, d5] }
  | _ => none }
def renamedRow : OpenClaim := { program := "ytomijmikkbhgmab", sum := "0f04b78b6f458605ef7b9ae2c636d32d52229d1d8b3d11f1c1b4a99531c56f2a", func := "litmus/litmuskeep.Renamed", spec := "renamed", recurses := true, apart := false }
def RenamedSaid : Prop := renamedRow.holds Try.pinned (OpenSpec.ofChange renamedSpec)

/-- ITS FALSE NEIGHBOUR: 'it returns false'. Refute it at one input. -/
def renamedWrong : ChangeSpec := { name := "renamed", fn := fun _ => fun
  | [d1, d2, d3, d4, d5] => { results := [.lit (.bool false)], args := [d1, d2, d3, d4, d5] }
  | _ => none }
def RenamedWrongFalsely : Prop := renamedRow.holds Try.pinned (OpenSpec.ofChange renamedWrong)

/-- 'litmuskeep.Sections': WHATEVER THE INPUT: true; the input reads as it did. -/
def sectionsSpec : ChangeSpec := { name := "sections", fn := fun _ => fun
  | [d1, d2] => { results := [.lit (.bool true)], args := [d1, d2] }
  | _ => none }
def sectionsRow : OpenClaim := { program := "ytomijmikkbhgmab", sum := "0f04b78b6f458605ef7b9ae2c636d32d52229d1d8b3d11f1c1b4a99531c56f2a", func := "litmus/litmuskeep.Sections", spec := "sections", recurses := true, apart := false }
def SectionsSaid : Prop := sectionsRow.holds Try.pinned (OpenSpec.ofChange sectionsSpec)

/-- ITS FALSE NEIGHBOUR: 'it returns false'. Refute it at one input. -/
def sectionsWrong : ChangeSpec := { name := "sections", fn := fun _ => fun
  | [d1, d2] => { results := [.lit (.bool false)], args := [d1, d2] }
  | _ => none }
def SectionsWrongFalsely : Prop := sectionsRow.holds Try.pinned (OpenSpec.ofChange sectionsWrong)

/-- 'litmuskeep.Known': WHATEVER THE INPUT: true; the input reads as it did. -/
def knownSpec : ChangeSpec := { name := "known", fn := fun _ => fun
  | [d] => { results := [.lit (.bool true)], args := [d] }
  | _ => none }
def knownRow : OpenClaim := { program := "ytomijmikkbhgmab", sum := "0f04b78b6f458605ef7b9ae2c636d32d52229d1d8b3d11f1c1b4a99531c56f2a", func := "litmus/litmuskeep.Known", spec := "known", recurses := true, apart := false }
def KnownSaid : Prop := knownRow.holds Try.pinned (OpenSpec.ofChange knownSpec)

/-- ITS FALSE NEIGHBOUR: 'it returns false'. Refute it at one input. -/
def knownWrong : ChangeSpec := { name := "known", fn := fun _ => fun
  | [d] => { results := [.lit (.bool false)], args := [d] }
  | _ => none }
def KnownWrongFalsely : Prop := knownRow.holds Try.pinned (OpenSpec.ofChange knownWrong)

/- THE SECOND FORM. 'bulk': how many values and letters a reading holds, each counted each time it is reached (what is shared counts as often as it is met; a slice's spare places count too). A statement '..UptoSaid' is the law's where the arguments, and the package variables that the reading takes, are together of bulk at most 1048576: NARROWER than '..Said'. Prove '..Said' where nothing that the law and all that it calls make is longer than what came in: it says more and counts as full. Else prove '..UptoSaid'. A law counts once. -/
mutual
def uptoBulk {H : Type} : DataW H → Nat
  | .lit (.string bytes) => bytes.length + 1
  | .lit _ => 1
  | .nil => 1
  | .ptr d => uptoBulk d + 1
  | .slice elems spare => uptoBulkAll elems + uptoBulkAll spare + 1
  | .agg parts => uptoBulkAll parts + 1
  | .iface _ d => uptoBulk d + 1
  | .map entries => uptoBulkEntries entries + 1
  | .held _ => 1
def uptoBulkAll {H : Type} : List (DataW H) → Nat
  | [] => 0
  | d :: r => uptoBulk d + uptoBulkAll r
def uptoBulkEntries {H : Type} : List (Lit × DataW H) → Nat
  | [] => 0
  | x :: r => uptoBulkEntry x + uptoBulkEntries r
def uptoBulkEntry {H : Type} : Lit × DataW H → Nat
  | (.string bytes, d) => bytes.length + uptoBulk d + 1
  | (_, d) => uptoBulk d + 1
 end
def uptoSmall : (H : Type) → List (DataW H) → Bool := fun _ ds => decide (uptoBulkAll ds ≤ 1048576)
def OpenSpec.upto (s : _root_.Go.ChangeSpec) : _root_.Go.OpenSpec := { _root_.Go.OpenSpec.ofChange s with cond := some uptoSmall }

/-- 'litmuskeep.Fenced', WHERE WHAT IT READS IS OF BULK AT MOST 1048576: true; the input reads as it did. -/
def fencedUptoRow : OpenClaim := { program := "ytomijmikkbhgmab", sum := "0f04b78b6f458605ef7b9ae2c636d32d52229d1d8b3d11f1c1b4a99531c56f2a", func := "litmus/litmuskeep.Fenced", spec := "fenced", recurses := true, apart := false, narrowed := true }
def FencedUptoSaid : Prop := fencedUptoRow.holds Try.pinned (OpenSpec.upto fencedSpec)

/-- 'litmuskeep.Single', WHERE WHAT IT READS IS OF BULK AT MOST 1048576: true; the input reads as it did. -/
def singleUptoRow : OpenClaim := { program := "ytomijmikkbhgmab", sum := "0f04b78b6f458605ef7b9ae2c636d32d52229d1d8b3d11f1c1b4a99531c56f2a", func := "litmus/litmuskeep.Single", spec := "single", recurses := true, apart := false, narrowed := true }
def SingleUptoSaid : Prop := singleUptoRow.holds Try.pinned (OpenSpec.upto singleSpec)

/-- 'litmuskeep.Monotone', WHERE WHAT IT READS IS OF BULK AT MOST 1048576: true; the input reads as it did. -/
def monotoneUptoRow : OpenClaim := { program := "ytomijmikkbhgmab", sum := "0f04b78b6f458605ef7b9ae2c636d32d52229d1d8b3d11f1c1b4a99531c56f2a", func := "litmus/litmuskeep.Monotone", spec := "monotone", recurses := true, apart := false, narrowed := true }
def MonotoneUptoSaid : Prop := monotoneUptoRow.holds Try.pinned (OpenSpec.upto monotoneSpec)

/-- 'litmuskeep.Renamed', WHERE WHAT IT READS IS OF BULK AT MOST 1048576: true; the input reads as it did. -/
def renamedUptoRow : OpenClaim := { program := "ytomijmikkbhgmab", sum := "0f04b78b6f458605ef7b9ae2c636d32d52229d1d8b3d11f1c1b4a99531c56f2a", func := "litmus/litmuskeep.Renamed", spec := "renamed", recurses := true, apart := false, narrowed := true }
def RenamedUptoSaid : Prop := renamedUptoRow.holds Try.pinned (OpenSpec.upto renamedSpec)

/-- 'litmuskeep.Sections', WHERE WHAT IT READS IS OF BULK AT MOST 1048576: true; the input reads as it did. -/
def sectionsUptoRow : OpenClaim := { program := "ytomijmikkbhgmab", sum := "0f04b78b6f458605ef7b9ae2c636d32d52229d1d8b3d11f1c1b4a99531c56f2a", func := "litmus/litmuskeep.Sections", spec := "sections", recurses := true, apart := false, narrowed := true }
def SectionsUptoSaid : Prop := sectionsUptoRow.holds Try.pinned (OpenSpec.upto sectionsSpec)

/-- 'litmuskeep.Known', WHERE WHAT IT READS IS OF BULK AT MOST 1048576: true; the input reads as it did. -/
def knownUptoRow : OpenClaim := { program := "ytomijmikkbhgmab", sum := "0f04b78b6f458605ef7b9ae2c636d32d52229d1d8b3d11f1c1b4a99531c56f2a", func := "litmus/litmuskeep.Known", spec := "known", recurses := true, apart := false, narrowed := true }
def KnownUptoSaid : Prop := knownUptoRow.holds Try.pinned (OpenSpec.upto knownSpec)

end Rows
end Go.Proofs.Ytomijmikkbhgmab
