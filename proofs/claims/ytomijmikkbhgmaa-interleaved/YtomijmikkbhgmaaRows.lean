/-
  No cell of these rows narrows 'for every input' (looked for: loops, veiled, ifaces, maps, wideKeys, modest, calm, conditions, laid).
  DERIVED. THE GIVEN ROWS OF THIS SEAT. 6 by the template 'for every input the law returns true; each argument reads behind the call as it read before'; 0 by the template 'total and deterministic' (their statements: YtomijmikkbhgmaaTotals.lean).
  GIVEN WITH THE SEED: the statements are not yours to turn. If you find one false, say at which input.
  Laid BY PROGRAM, IN A SANDBOX (cutbox-rows.mjs): the forced cells as the released guide's own fill.sh prints them over the translation 8e34ad0b2d486c42… (all of the seat's roots in one cut). By AI agents, Wed Nov 11 2026. No macro, syntax, notation, axiom, sorry.
-/
import Derived.Test.YtomijmikkbhgmaaChecked
import GoSem.Claim
import GoSem.ClaimJoined
import GoSem.ClaimMapViews
import Derived.JoinedTies
import Derived.KernelRfl
namespace Go.Proofs.Ytomijmikkbhgmaa
/- THE CELL 'sum', in the pinned program and in every row, IS THE sha256 OF THE DUMP (.gsa) THAT YtomijmikkbhgmaaProg.lean LOADS. Nothing in Lean hashes anything: it is a label: what it is worth is what the hold of that sum in a sandbox is worth. -/
noncomputable def Try.pinned : Pinned := { name := "ytomijmikkbhgmaa", sum := "8e34ad0b2d486c42983be16d9436b5f327c89ed2db8afbe7eb49709a6c04f347", checked := Try.checked }
namespace Rows
def none {H : Type} : Left H := { results := [], args := [] }

/-- 'litmuslaw.Checks': WHATEVER THE INPUT: true; the input reads as it did. -/
def checksSpec : ChangeSpec := { name := "checks", fn := fun _ => fun
  | [d] => { results := [.lit (.bool true)], args := [d] }
  | _ => none }
def checksRow : OpenClaim := { program := "ytomijmikkbhgmaa", sum := "8e34ad0b2d486c42983be16d9436b5f327c89ed2db8afbe7eb49709a6c04f347", func := "litmus/litmuslaw.Checks", spec := "checks", apart := false }
def ChecksSaid : Prop := checksRow.holds Try.pinned (OpenSpec.ofChange checksSpec)

/-- ITS FALSE NEIGHBOUR: 'it returns false'. Refute it at one input. -/
def checksWrong : ChangeSpec := { name := "checks", fn := fun _ => fun
  | [d] => { results := [.lit (.bool false)], args := [d] }
  | _ => none }
def ChecksWrongFalsely : Prop := checksRow.holds Try.pinned (OpenSpec.ofChange checksWrong)

/-- 'litmuslaw.Lists': WHATEVER THE INPUT: true; the input reads as it did. -/
def listsSpec : ChangeSpec := { name := "lists", fn := fun _ => fun
  | [d] => { results := [.lit (.bool true)], args := [d] }
  | _ => none }
def listsRow : OpenClaim := { program := "ytomijmikkbhgmaa", sum := "8e34ad0b2d486c42983be16d9436b5f327c89ed2db8afbe7eb49709a6c04f347", func := "litmus/litmuslaw.Lists", spec := "lists", apart := false }
def ListsSaid : Prop := listsRow.holds Try.pinned (OpenSpec.ofChange listsSpec)

/-- ITS FALSE NEIGHBOUR: 'it returns false'. Refute it at one input. -/
def listsWrong : ChangeSpec := { name := "lists", fn := fun _ => fun
  | [d] => { results := [.lit (.bool false)], args := [d] }
  | _ => none }
def ListsWrongFalsely : Prop := listsRow.holds Try.pinned (OpenSpec.ofChange listsWrong)

/-- 'litmuslaw.Candidates': WHATEVER THE INPUT: true; the input reads as it did. -/
def candidatesSpec : ChangeSpec := { name := "candidates", fn := fun _ => fun
  | [d1, d2] => { results := [.lit (.bool true)], args := [d1, d2] }
  | _ => none }
def candidatesRow : OpenClaim := { program := "ytomijmikkbhgmaa", sum := "8e34ad0b2d486c42983be16d9436b5f327c89ed2db8afbe7eb49709a6c04f347", func := "litmus/litmuslaw.Candidates", spec := "candidates", recurses := true, apart := false }
def CandidatesSaid : Prop := candidatesRow.holds Try.pinned (OpenSpec.ofChange candidatesSpec)

/-- ITS FALSE NEIGHBOUR: 'it returns false'. Refute it at one input. -/
def candidatesWrong : ChangeSpec := { name := "candidates", fn := fun _ => fun
  | [d1, d2] => { results := [.lit (.bool false)], args := [d1, d2] }
  | _ => none }
def CandidatesWrongFalsely : Prop := candidatesRow.holds Try.pinned (OpenSpec.ofChange candidatesWrong)

/-- 'litmuslaw.Judges': WHATEVER THE INPUT: true; the input reads as it did. -/
def judgesSpec : ChangeSpec := { name := "judges", fn := fun _ => fun
  | [d1, d2] => { results := [.lit (.bool true)], args := [d1, d2] }
  | _ => none }
def judgesRow : OpenClaim := { program := "ytomijmikkbhgmaa", sum := "8e34ad0b2d486c42983be16d9436b5f327c89ed2db8afbe7eb49709a6c04f347", func := "litmus/litmuslaw.Judges", spec := "judges", recurses := true, apart := false }
def JudgesSaid : Prop := judgesRow.holds Try.pinned (OpenSpec.ofChange judgesSpec)

/-- ITS FALSE NEIGHBOUR: 'it returns false'. Refute it at one input. -/
def judgesWrong : ChangeSpec := { name := "judges", fn := fun _ => fun
  | [d1, d2] => { results := [.lit (.bool false)], args := [d1, d2] }
  | _ => none }
def JudgesWrongFalsely : Prop := judgesRow.holds Try.pinned (OpenSpec.ofChange judgesWrong)

/-- 'litmuskeep.Numbered': WHATEVER THE INPUT: true; the input reads as it did. -/
def numberedSpec : ChangeSpec := { name := "numbered", fn := fun _ => fun
  | [d] => { results := [.lit (.bool true)], args := [d] }
  | _ => none }
def numberedRow : OpenClaim := { program := "ytomijmikkbhgmaa", sum := "8e34ad0b2d486c42983be16d9436b5f327c89ed2db8afbe7eb49709a6c04f347", func := "litmus/litmuskeep.Numbered", spec := "numbered", apart := false }
def NumberedSaid : Prop := numberedRow.holds Try.pinned (OpenSpec.ofChange numberedSpec)

/-- ITS FALSE NEIGHBOUR: 'it returns false'. Refute it at one input. -/
def numberedWrong : ChangeSpec := { name := "numbered", fn := fun _ => fun
  | [d] => { results := [.lit (.bool false)], args := [d] }
  | _ => none }
def NumberedWrongFalsely : Prop := numberedRow.holds Try.pinned (OpenSpec.ofChange numberedWrong)

/-- 'litmuskeep.Interleaved': WHATEVER THE INPUT: true; the input reads as it did. -/
def interleavedSpec : ChangeSpec := { name := "interleaved", fn := fun _ => fun
  | [d] => { results := [.lit (.bool true)], args := [d] }
  | _ => none }
def interleavedRow : OpenClaim := { program := "ytomijmikkbhgmaa", sum := "8e34ad0b2d486c42983be16d9436b5f327c89ed2db8afbe7eb49709a6c04f347", func := "litmus/litmuskeep.Interleaved", spec := "interleaved", recurses := true, apart := false }
def InterleavedSaid : Prop := interleavedRow.holds Try.pinned (OpenSpec.ofChange interleavedSpec)

/-- ITS FALSE NEIGHBOUR: 'it returns false'. Refute it at one input. -/
def interleavedWrong : ChangeSpec := { name := "interleaved", fn := fun _ => fun
  | [d] => { results := [.lit (.bool false)], args := [d] }
  | _ => none }
def InterleavedWrongFalsely : Prop := interleavedRow.holds Try.pinned (OpenSpec.ofChange interleavedWrong)

/- THE SECOND FORM. 'bulk': how many values and letters a reading holds, each counted each time it is reached (what is shared counts as often as it is met; a slice's spare places count too). A statement '..UptoSaid' is the law's where the arguments, and the package variables that the reading takes, are together of bulk at most 1048576: NARROWER than '..Said'. Prove '..Said' where nothing that the law and all that it calls make is longer than what came in: it says more and counts as full. Else prove '..UptoSaid'. A law counts once. -/
mutual
def uptoBulk {H : Type} : DataW H → Nat
  | .lit (.string bytes) => bytes.length + 1
  | .lit _ => 1
  | .nil => 1
  | .ptr d => uptoBulk d + 1
  | .slice elems spare => uptoBulkAll elems + uptoBulkAll spare + 1
  | .agg parts => uptoBulkAll parts + 1
  | .iface _ d => uptoBulk d + 1
  | .map entries => uptoBulkEntries entries + 1
  | .held _ => 1
def uptoBulkAll {H : Type} : List (DataW H) → Nat
  | [] => 0
  | d :: r => uptoBulk d + uptoBulkAll r
def uptoBulkEntries {H : Type} : List (Lit × DataW H) → Nat
  | [] => 0
  | x :: r => uptoBulkEntry x + uptoBulkEntries r
def uptoBulkEntry {H : Type} : Lit × DataW H → Nat
  | (.string bytes, d) => bytes.length + uptoBulk d + 1
  | (_, d) => uptoBulk d + 1
 end
def uptoSmall : (H : Type) → List (DataW H) → Bool := fun _ ds => decide (uptoBulkAll ds ≤ 1048576)
def OpenSpec.upto (s : _root_.Go.ChangeSpec) : _root_.Go.OpenSpec := { _root_.Go.OpenSpec.ofChange s with cond := some uptoSmall }

/-- 'litmuslaw.Checks', WHERE WHAT IT READS IS OF BULK AT MOST 1048576: true; the input reads as it did. -/
def checksUptoRow : OpenClaim := { program := "ytomijmikkbhgmaa", sum := "8e34ad0b2d486c42983be16d9436b5f327c89ed2db8afbe7eb49709a6c04f347", func := "litmus/litmuslaw.Checks", spec := "checks", apart := false, narrowed := true }
def ChecksUptoSaid : Prop := checksUptoRow.holds Try.pinned (OpenSpec.upto checksSpec)

/-- 'litmuslaw.Lists', WHERE WHAT IT READS IS OF BULK AT MOST 1048576: true; the input reads as it did. -/
def listsUptoRow : OpenClaim := { program := "ytomijmikkbhgmaa", sum := "8e34ad0b2d486c42983be16d9436b5f327c89ed2db8afbe7eb49709a6c04f347", func := "litmus/litmuslaw.Lists", spec := "lists", apart := false, narrowed := true }
def ListsUptoSaid : Prop := listsUptoRow.holds Try.pinned (OpenSpec.upto listsSpec)

/-- 'litmuslaw.Candidates', WHERE WHAT IT READS IS OF BULK AT MOST 1048576: true; the input reads as it did. -/
def candidatesUptoRow : OpenClaim := { program := "ytomijmikkbhgmaa", sum := "8e34ad0b2d486c42983be16d9436b5f327c89ed2db8afbe7eb49709a6c04f347", func := "litmus/litmuslaw.Candidates", spec := "candidates", recurses := true, apart := false, narrowed := true }
def CandidatesUptoSaid : Prop := candidatesUptoRow.holds Try.pinned (OpenSpec.upto candidatesSpec)

/-- 'litmuslaw.Judges', WHERE WHAT IT READS IS OF BULK AT MOST 1048576: true; the input reads as it did. -/
def judgesUptoRow : OpenClaim := { program := "ytomijmikkbhgmaa", sum := "8e34ad0b2d486c42983be16d9436b5f327c89ed2db8afbe7eb49709a6c04f347", func := "litmus/litmuslaw.Judges", spec := "judges", recurses := true, apart := false, narrowed := true }
def JudgesUptoSaid : Prop := judgesUptoRow.holds Try.pinned (OpenSpec.upto judgesSpec)

/-- 'litmuskeep.Numbered', WHERE WHAT IT READS IS OF BULK AT MOST 1048576: true; the input reads as it did. -/
def numberedUptoRow : OpenClaim := { program := "ytomijmikkbhgmaa", sum := "8e34ad0b2d486c42983be16d9436b5f327c89ed2db8afbe7eb49709a6c04f347", func := "litmus/litmuskeep.Numbered", spec := "numbered", apart := false, narrowed := true }
def NumberedUptoSaid : Prop := numberedUptoRow.holds Try.pinned (OpenSpec.upto numberedSpec)

/-- 'litmuskeep.Interleaved', WHERE WHAT IT READS IS OF BULK AT MOST 1048576: true; the input reads as it did. -/
def interleavedUptoRow : OpenClaim := { program := "ytomijmikkbhgmaa", sum := "8e34ad0b2d486c42983be16d9436b5f327c89ed2db8afbe7eb49709a6c04f347", func := "litmus/litmuskeep.Interleaved", spec := "interleaved", recurses := true, apart := false, narrowed := true }
def InterleavedUptoSaid : Prop := interleavedUptoRow.holds Try.pinned (OpenSpec.upto interleavedSpec)

end Rows
end Go.Proofs.Ytomijmikkbhgmaa
