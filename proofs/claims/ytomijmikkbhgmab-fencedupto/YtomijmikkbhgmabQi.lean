import Derived.Test.YtomijmikkbhgmabT8
import Derived.Deep.CutRange
import Derived.Deep.RegionWith
namespace Go.Proofs.Ytomijmikkbhgmab
open Go.RowKit

/-- Each event is of an instruction of the test. -/
def EvOk (T : List (List Ins)) (E : List Evt) : Prop := ∀ y ∈ E, ∃ (i p : Nat) (l : List Ins), y.thread = (i : Int) ∧ y.place = (p : Int) ∧ T[i]? = some l ∧ p < l.length

def lastB (E : List Evt) (i j : Nat) (b : Evt) : Bool := b.kind == 1 && (if b.ins.op == 1 then srcG b (E.take j) 0 (-1) == (i : Int) else b.ins.op == 3 && (i : Int) == (j : Int) - 1)
/-- Does the thread keep event i ahead of event j? -/
def keepB (E : List Evt) (i j : Nat) (l : List Ins) (a b : Evt) : Bool := fenB l a b || markB a b || lastB E i j b

end Go.Proofs.Ytomijmikkbhgmab
