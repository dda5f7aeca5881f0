/-
  No cell of these rows narrows 'for every input' (looked for: loops, veiled, ifaces, maps, wideKeys, modest, calm, conditions, laid).
  DERIVED. THE GIVEN ROWS OF THIS SEAT. 6 by the template 'for every input the law returns true; each argument reads behind the call as it read before'; 0 by the template 'total and deterministic' (their statements: YtomijmikkbhgmaaGreatTotals.lean).
  GIVEN WITH THE SEED: the statements are not yours to turn. If you find one false, say at which input.
  Laid BY PROGRAM, IN A SANDBOX (cutbox-rows.mjs): the forced cells as the released guide's own fill.sh prints them over the translation 933fcb032c0cf8c2… (all of the seat's roots in one cut). By AI agents, Wed Nov 11 2026. No macro, syntax, notation, axiom, sorry.
-/
import Derived.Test.YtomijmikkbhgmaaGreatChecked
import GoSem.Claim
import GoSem.ClaimJoined
import GoSem.ClaimMapViews
import Derived.JoinedTies
import Derived.KernelRfl
namespace Go.Proofs.YtomijmikkbhgmaaGreat
/- THE CELL 'sum', in the pinned program and in every row, IS THE sha256 OF THE DUMP (.gsa) THAT YtomijmikkbhgmaaGreatProg.lean LOADS. Nothing in Lean hashes anything: it is a label: what it is worth is what the hold of that sum in a sandbox is worth. -/
noncomputable def Tryz.pinned : Pinned := { name := "ytomijmikkbhgmaagreat", sum := "933fcb032c0cf8c2f25e12075d66f67b8facf0e0938eac4e559d66b233372e64", checked := Tryz.checked }
namespace Rows
def none {H : Type} : Left H := { results := [], args := [] }

/-- 'litmuslaw.States': WHATEVER THE INPUT: true; the input reads as it did. -/
def statesSpec : ChangeSpec := { name := "states", fn := fun _ => fun
  | [d1, d2] => { results := [.lit (.bool true)], args := [d1, d2] }
  | _ => none }
def statesRow : OpenClaim := { program := "ytomijmikkbhgmaagreat", sum := "933fcb032c0cf8c2f25e12075d66f67b8facf0e0938eac4e559d66b233372e64", func := "litmus/litmuslaw.States", spec := "states", recurses := true, apart := false }
def StatesSaid : Prop := statesRow.holds Tryz.pinned (OpenSpec.ofChange statesSpec)

/-- ITS FALSE NEIGHBOUR: 'it returns false'. Refute it at one input. -/
def statesWrong : ChangeSpec := { name := "states", fn := fun _ => fun
  | [d1, d2] => { results := [.lit (.bool false)], args := [d1, d2] }
  | _ => none }
def StatesWrongFalsely : Prop := statesRow.holds Tryz.pinned (OpenSpec.ofChange statesWrong)

/-- 'litmuslaw.Ends': WHATEVER THE INPUT: true; the input reads as it did. -/
def endsSpec : ChangeSpec := { name := "ends", fn := fun _ => fun
  | [d] => { results := [.lit (.bool true)], args := [d] }
  | _ => none }
def endsRow : OpenClaim := { program := "ytomijmikkbhgmaagreat", sum := "933fcb032c0cf8c2f25e12075d66f67b8facf0e0938eac4e559d66b233372e64", func := "litmus/litmuslaw.Ends", spec := "ends", recurses := true, apart := false }
def EndsSaid : Prop := endsRow.holds Tryz.pinned (OpenSpec.ofChange endsSpec)

/-- ITS FALSE NEIGHBOUR: 'it returns false'. Refute it at one input. -/
def endsWrong : ChangeSpec := { name := "ends", fn := fun _ => fun
  | [d] => { results := [.lit (.bool false)], args := [d] }
  | _ => none }
def EndsWrongFalsely : Prop := endsRow.holds Tryz.pinned (OpenSpec.ofChange endsWrong)

/-- 'litmuslaw.Verdicts': WHATEVER THE INPUT: true; the input reads as it did. -/
def verdictsSpec : ChangeSpec := { name := "verdicts", fn := fun _ => fun
  | [d] => { results := [.lit (.bool true)], args := [d] }
  | _ => none }
def verdictsRow : OpenClaim := { program := "ytomijmikkbhgmaagreat", sum := "933fcb032c0cf8c2f25e12075d66f67b8facf0e0938eac4e559d66b233372e64", func := "litmus/litmuslaw.Verdicts", spec := "verdicts", recurses := true, apart := false }
def VerdictsSaid : Prop := verdictsRow.holds Tryz.pinned (OpenSpec.ofChange verdictsSpec)

/-- ITS FALSE NEIGHBOUR: 'it returns false'. Refute it at one input. -/
def verdictsWrong : ChangeSpec := { name := "verdicts", fn := fun _ => fun
  | [d] => { results := [.lit (.bool false)], args := [d] }
  | _ => none }
def VerdictsWrongFalsely : Prop := verdictsRow.holds Tryz.pinned (OpenSpec.ofChange verdictsWrong)

/-- 'litmuslaw.Graces': WHATEVER THE INPUT: true; the input reads as it did. -/
def gracesSpec : ChangeSpec := { name := "graces", fn := fun _ => fun
  | [d1, d2] => { results := [.lit (.bool true)], args := [d1, d2] }
  | _ => none }
def gracesRow : OpenClaim := { program := "ytomijmikkbhgmaagreat", sum := "933fcb032c0cf8c2f25e12075d66f67b8facf0e0938eac4e559d66b233372e64", func := "litmus/litmuslaw.Graces", spec := "graces", recurses := true, apart := false }
def GracesSaid : Prop := gracesRow.holds Tryz.pinned (OpenSpec.ofChange gracesSpec)

/-- ITS FALSE NEIGHBOUR: 'it returns false'. Refute it at one input. -/
def gracesWrong : ChangeSpec := { name := "graces", fn := fun _ => fun
  | [d1, d2] => { results := [.lit (.bool false)], args := [d1, d2] }
  | _ => none }
def GracesWrongFalsely : Prop := gracesRow.holds Tryz.pinned (OpenSpec.ofChange gracesWrong)

/-- 'litmuslaw.Wholes': WHATEVER THE INPUT: true; the input reads as it did. -/
def wholesSpec : ChangeSpec := { name := "wholes", fn := fun _ => fun
  | [d] => { results := [.lit (.bool true)], args := [d] }
  | _ => none }
def wholesRow : OpenClaim := { program := "ytomijmikkbhgmaagreat", sum := "933fcb032c0cf8c2f25e12075d66f67b8facf0e0938eac4e559d66b233372e64", func := "litmus/litmuslaw.Wholes", spec := "wholes", recurses := true, apart := false }
def WholesSaid : Prop := wholesRow.holds Tryz.pinned (OpenSpec.ofChange wholesSpec)

/-- ITS FALSE NEIGHBOUR: 'it returns false'. Refute it at one input. -/
def wholesWrong : ChangeSpec := { name := "wholes", fn := fun _ => fun
  | [d] => { results := [.lit (.bool false)], args := [d] }
  | _ => none }
def WholesWrongFalsely : Prop := wholesRow.holds Tryz.pinned (OpenSpec.ofChange wholesWrong)

/-- 'litmuslaw.All': WHATEVER THE INPUT: true; the input reads as it did. -/
def allSpec : ChangeSpec := { name := "all", fn := fun _ => fun
  | [d1, d2, d3] => { results := [.lit (.bool true)], args := [d1, d2, d3] }
  | _ => none }
def allRow : OpenClaim := { program := "ytomijmikkbhgmaagreat", sum := "933fcb032c0cf8c2f25e12075d66f67b8facf0e0938eac4e559d66b233372e64", func := "litmus/litmuslaw.All", spec := "all", recurses := true, apart := false }
def AllSaid : Prop := allRow.holds Tryz.pinned (OpenSpec.ofChange allSpec)

/-- ITS FALSE NEIGHBOUR: 'it returns false'. Refute it at one input. -/
def allWrong : ChangeSpec := { name := "all", fn := fun _ => fun
  | [d1, d2, d3] => { results := [.lit (.bool false)], args := [d1, d2, d3] }
  | _ => none }
def AllWrongFalsely : Prop := allRow.holds Tryz.pinned (OpenSpec.ofChange allWrong)

/- THE SECOND FORM. 'bulk': how many values and letters a reading holds, each counted each time it is reached (what is shared counts as often as it is met; a slice's spare places count too). A statement '..UptoSaid' is the law's where the arguments, and the package variables that the reading takes, are together of bulk at most 1048576: NARROWER than '..Said'. Prove '..Said' where nothing that the law and all that it calls make is longer than what came in: it says more and counts as full. Else prove '..UptoSaid'. A law counts once. -/
mutual
def uptoBulk {H : Type} : DataW H → Nat
  | .lit (.string bytes) => bytes.length + 1
  | .lit _ => 1
  | .nil => 1
  | .ptr d => uptoBulk d + 1
  | .slice elems spare => uptoBulkAll elems + uptoBulkAll spare + 1
  | .agg parts => uptoBulkAll parts + 1
  | .iface _ d => uptoBulk d + 1
  | .map entries => uptoBulkEntries entries + 1
  | .held _ => 1
def uptoBulkAll {H : Type} : List (DataW H) → Nat
  | [] => 0
  | d :: r => uptoBulk d + uptoBulkAll r
def uptoBulkEntries {H : Type} : List (Lit × DataW H) → Nat
  | [] => 0
  | x :: r => uptoBulkEntry x + uptoBulkEntries r
def uptoBulkEntry {H : Type} : Lit × DataW H → Nat
  | (.string bytes, d) => bytes.length + uptoBulk d + 1
  | (_, d) => uptoBulk d + 1
 end
def uptoSmall : (H : Type) → List (DataW H) → Bool := fun _ ds => decide (uptoBulkAll ds ≤ 1048576)
def OpenSpec.upto (s : _root_.Go.ChangeSpec) : _root_.Go.OpenSpec := { _root_.Go.OpenSpec.ofChange s with cond := some uptoSmall }

/-- 'litmuslaw.States', WHERE WHAT IT READS IS OF BULK AT MOST 1048576: true; the input reads as it did. -/
def statesUptoRow : OpenClaim := { program := "ytomijmikkbhgmaagreat", sum := "933fcb032c0cf8c2f25e12075d66f67b8facf0e0938eac4e559d66b233372e64", func := "litmus/litmuslaw.States", spec := "states", recurses := true, apart := false, narrowed := true }
def StatesUptoSaid : Prop := statesUptoRow.holds Tryz.pinned (OpenSpec.upto statesSpec)

/-- 'litmuslaw.Ends', WHERE WHAT IT READS IS OF BULK AT MOST 1048576: true; the input reads as it did. -/
def endsUptoRow : OpenClaim := { program := "ytomijmikkbhgmaagreat", sum := "933fcb032c0cf8c2f25e12075d66f67b8facf0e0938eac4e559d66b233372e64", func := "litmus/litmuslaw.Ends", spec := "ends", recurses := true, apart := false, narrowed := true }
def EndsUptoSaid : Prop := endsUptoRow.holds Tryz.pinned (OpenSpec.upto endsSpec)

/-- 'litmuslaw.Verdicts', WHERE WHAT IT READS IS OF BULK AT MOST 1048576: true; the input reads as it did. -/
def verdictsUptoRow : OpenClaim := { program := "ytomijmikkbhgmaagreat", sum := "933fcb032c0cf8c2f25e12075d66f67b8facf0e0938eac4e559d66b233372e64", func := "litmus/litmuslaw.Verdicts", spec := "verdicts", recurses := true, apart := false, narrowed := true }
def VerdictsUptoSaid : Prop := verdictsUptoRow.holds Tryz.pinned (OpenSpec.upto verdictsSpec)

/-- 'litmuslaw.Graces', WHERE WHAT IT READS IS OF BULK AT MOST 1048576: true; the input reads as it did. -/
def gracesUptoRow : OpenClaim := { program := "ytomijmikkbhgmaagreat", sum := "933fcb032c0cf8c2f25e12075d66f67b8facf0e0938eac4e559d66b233372e64", func := "litmus/litmuslaw.Graces", spec := "graces", recurses := true, apart := false, narrowed := true }
def GracesUptoSaid : Prop := gracesUptoRow.holds Tryz.pinned (OpenSpec.upto gracesSpec)

/-- 'litmuslaw.Wholes', WHERE WHAT IT READS IS OF BULK AT MOST 1048576: true; the input reads as it did. -/
def wholesUptoRow : OpenClaim := { program := "ytomijmikkbhgmaagreat", sum := "933fcb032c0cf8c2f25e12075d66f67b8facf0e0938eac4e559d66b233372e64", func := "litmus/litmuslaw.Wholes", spec := "wholes", recurses := true, apart := false, narrowed := true }
def WholesUptoSaid : Prop := wholesUptoRow.holds Tryz.pinned (OpenSpec.upto wholesSpec)

/-- 'litmuslaw.All', WHERE WHAT IT READS IS OF BULK AT MOST 1048576: true; the input reads as it did. -/
def allUptoRow : OpenClaim := { program := "ytomijmikkbhgmaagreat", sum := "933fcb032c0cf8c2f25e12075d66f67b8facf0e0938eac4e559d66b233372e64", func := "litmus/litmuslaw.All", spec := "all", recurses := true, apart := false, narrowed := true }
def AllUptoSaid : Prop := allUptoRow.holds Tryz.pinned (OpenSpec.upto allSpec)

end Rows
end Go.Proofs.YtomijmikkbhgmaaGreat
