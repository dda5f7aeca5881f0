import Derived.Test.YtomijmikkbhgmabT33
import Derived.Test.YtomijmikkbhgmabT34
import Derived.KernelRfl
namespace Go.Proofs.Ytomijmikkbhgmab

def stoI (loc val mode : Int) : Ins := ⟨0, loc, 0, val, mode⟩
def lodI (reg loc mode : Int) : Ins := ⟨2, loc, reg, 0, mode⟩
def fenI (mode : Int) : Ins := ⟨4, 0, 0, 0, mode⟩

/-- A test, and in how many allowed candidates its condition holds and does not. -/
structure Knw where
  T : List (List Ins)
  c : List Atm
  good : Nat
  bad : Nat

def bufK (bt : List Ins) (good : Nat) : Knw := ⟨[stoI 0 1 0 :: bt ++ [lodI 0 1 0], stoI 1 1 0 :: bt ++ [lodI 0 0 0]], [⟨0, 0, 0⟩, ⟨1, 0, 0⟩], good, 3⟩
def mesK (rel acq : Int) (good : Nat) : Knw := ⟨[[stoI 0 1 0, stoI 1 1 rel], [lodI 0 1 acq, lodI 1 0 0]], [⟨1, 0, 1⟩, ⟨1, 1, 0⟩], good, 3⟩
def earK (mode : Int) (good : Nat) : Knw := ⟨[[lodI 0 0 0, stoI 1 1 mode], [lodI 0 1 0, stoI 0 1 mode]], [⟨0, 0, 1⟩, ⟨1, 0, 1⟩], good, 3⟩
def apaK (bt : List Ins) (good : Nat) : Knw := ⟨[[stoI 0 1 0], [stoI 1 1 0], lodI 0 0 0 :: bt ++ [lodI 1 1 0], lodI 0 1 0 :: bt ++ [lodI 1 0 0]], [⟨2, 0, 1⟩, ⟨2, 1, 0⟩, ⟨3, 0, 1⟩, ⟨3, 1, 0⟩], good, 15⟩
def twiK : Knw := ⟨[[stoI 0 1 0], [lodI 0 0 0, lodI 1 0 0]], [⟨1, 0, 1⟩, ⟨1, 1, 0⟩], 0, 3⟩
def takK : Knw := ⟨[[⟨3, 0, 0, 1, 0⟩], [⟨3, 0, 0, 1, 0⟩]], [⟨0, 0, 0⟩, ⟨1, 0, 0⟩], 0, 2⟩

def tabK : List Knw := [bufK [] 1, bufK [fenI 0] 0, bufK [fenI 1] 1, bufK [fenI 2] 1, mesK 0 0 1, mesK 2 0 1, mesK 0 1 1, mesK 2 1 0, earK 0 1, earK 2 0, apaK [] 1, apaK [fenI 1] 0, apaK [fenI 0] 0, apaK [fenI 2] 1, twiK, takK]

def okK (k : Knw) : Bool := (chk k.T k.c).1 == 0 && (gdN k.T.length k.c (optL (fun n => alB k.T (evsT k.T 0) (exN (evsT k.T 0) n)) k.T (evsT k.T 0) (sizeN (evsT k.T 0))) == k.good && bdN k.T.length k.c (optL (fun n => alB k.T (evsT k.T 0) (exN (evsT k.T 0) n)) k.T (evsT k.T 0) (sizeN (evsT k.T 0))) == k.bad)

set_option maxRecDepth 100000 in
theorem tabK_ok : tabK.all okK = true := by kernel_rfl

end Go.Proofs.Ytomijmikkbhgmab
