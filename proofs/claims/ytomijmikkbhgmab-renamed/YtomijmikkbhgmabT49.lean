import Derived.Test.YtomijmikkbhgmabT35
import Derived.Test.YtomijmikkbhgmabT38
import Derived.KernelRfl
namespace Go.Proofs.Ytomijmikkbhgmab
open Go.RowKit

/-- In how many allowed candidates the condition holds, and in how many not. -/
def gdN (n : Nat) (c : List Atm) (L : List (Option (List Int))) : Nat := ((L.filterMap id).filter fun s => metB n c s).length
def bdN (n : Nat) (c : List Atm) (L : List (Option (List Int))) : Nat := ((L.filterMap id).filter fun s => !metB n c s).length
theorem gdN_none (n : Nat) (c : List Atm) (L : List (Option (List Int))) : gdN n c (L ++ [none]) = gdN n c L ∧ bdN n c (L ++ [none]) = bdN n c L := by
  unfold gdN bdN; rw [List.filterMap_append]; simp
theorem gdN_yes {n : Nat} {c : List Atm} {l : List Int} (h : metB n c l = true) (L : List (Option (List Int))) : gdN n c (L ++ [some l]) = gdN n c L + 1 ∧ bdN n c (L ++ [some l]) = bdN n c L := by
  unfold gdN bdN; rw [List.filterMap_append]; simp [h]
theorem gdN_no {n : Nat} {c : List Atm} {l : List Int} (h : metB n c l = false) (L : List (Option (List Int))) : gdN n c (L ++ [some l]) = gdN n c L ∧ bdN n c (L ++ [some l]) = bdN n c L + 1 := by
  unfold gdN bdN; rw [List.filterMap_append]; simp [h]
theorem gdN_le (n : Nat) (c : List Atm) (L : List (Option (List Int))) : gdN n c L ≤ L.length ∧ bdN n c L ≤ L.length := by
  unfold gdN bdN
  exact ⟨Nat.le_trans (List.length_filter_le _ _) (List.length_filterMap_le _ _), Nat.le_trans (List.length_filter_le _ _) (List.length_filterMap_le _ _)⟩

/-- A report. -/
def repV (g b : Nat) (fa : Bool) : Value := .agg #[.int .i64 (if g == 0 then 0 else if b == 0 then 2 else 1), .int .i64 g, .int .i64 b, .bool (if fa then b == 0 else decide (0 < g))]
def noRep : Value := .agg #[.int .i64 0, .int .i64 0, .int .i64 0, .bool false]
def verV (T : List (List Ins)) (c : List Atm) (fa : Bool) (al : Nat → Bool) : Value :=
  if (chk T c).1 == 0 then .tuple #[repV (gdN T.length c (optL al T (evsT T 0) (sizeN (evsT T 0)))) (bdN T.length c (optL al T (evsT T 0) (sizeN (evsT T 0)))) fa, .int .i64 0] else .tuple #[noRep, .int .i64 (chk T c).1]

/-- A report in a block of its own. -/
structure RepC (w : World) (R : Nat) (v : Int) (g b : Nat) (h : Bool) : Prop where
  c0 : w.cell? ⟨R, 0, none⟩ = some (.int .i64 v)
  c1 : w.cell? ⟨R, 1, none⟩ = some (.int .i64 g)
  c2 : w.cell? ⟨R, 2, none⟩ = some (.int .i64 b)
  c3 : w.cell? ⟨R, 3, none⟩ = some (.bool h)
  f0 : w.frozen? ⟨R, 0, none⟩ = false
  f1 : w.frozen? ⟨R, 1, none⟩ = false
  f2 : w.frozen? ⟨R, 2, none⟩ = false
  f3 : w.frozen? ⟨R, 3, none⟩ = false
theorem RepC.lt {w : World} {R : Nat} {v : Int} {g b : Nat} {h : Bool} (k : RepC w R v g b h) : R < w.heap.size := World.block_lt_of_cell? w _ k.c0
theorem RepC.keep {w w' : World} {R : Nat} {v : Int} {g b : Nat} {h : Bool} (k : RepC w R v g b h) (hb : Below w.heap.size w w') : RepC w' R v g b h :=
  ⟨keep_cell hb k.c0, keep_cell hb k.c1, keep_cell hb k.c2, keep_cell hb k.c3, (hb.frozen (p := ⟨R, 0, none⟩) k.lt).trans k.f0, (hb.frozen (p := ⟨R, 1, none⟩) k.lt).trans k.f1, (hb.frozen (p := ⟨R, 2, none⟩) k.lt).trans k.f2, (hb.frozen (p := ⟨R, 3, none⟩) k.lt).trans k.f3⟩

end Go.Proofs.Ytomijmikkbhgmab

namespace Go.Proofs.Ytomijmikkbhgmab

def stoI (loc val mode : Int) : Ins := ⟨0, loc, 0, val, mode⟩
def lodI (reg loc mode : Int) : Ins := ⟨2, loc, reg, 0, mode⟩
def fenI (mode : Int) : Ins := ⟨4, 0, 0, 0, mode⟩

/-- A test, and in how many allowed candidates its condition holds and does not. -/
structure Knw where
  T : List (List Ins)
  c : List Atm
  good : Nat
  bad : Nat

def bufK (bt : List Ins) (good : Nat) : Knw := ⟨[stoI 0 1 0 :: bt ++ [lodI 0 1 0], stoI 1 1 0 :: bt ++ [lodI 0 0 0]], [⟨0, 0, 0⟩, ⟨1, 0, 0⟩], good, 3⟩
def mesK (rel acq : Int) (good : Nat) : Knw := ⟨[[stoI 0 1 0, stoI 1 1 rel], [lodI 0 1 acq, lodI 1 0 0]], [⟨1, 0, 1⟩, ⟨1, 1, 0⟩], good, 3⟩
def earK (mode : Int) (good : Nat) : Knw := ⟨[[lodI 0 0 0, stoI 1 1 mode], [lodI 0 1 0, stoI 0 1 mode]], [⟨0, 0, 1⟩, ⟨1, 0, 1⟩], good, 3⟩
def apaK (bt : List Ins) (good : Nat) : Knw := ⟨[[stoI 0 1 0], [stoI 1 1 0], lodI 0 0 0 :: bt ++ [lodI 1 1 0], lodI 0 1 0 :: bt ++ [lodI 1 0 0]], [⟨2, 0, 1⟩, ⟨2, 1, 0⟩, ⟨3, 0, 1⟩, ⟨3, 1, 0⟩], good, 15⟩
def twiK : Knw := ⟨[[stoI 0 1 0], [lodI 0 0 0, lodI 1 0 0]], [⟨1, 0, 1⟩, ⟨1, 1, 0⟩], 0, 3⟩
def takK : Knw := ⟨[[⟨3, 0, 0, 1, 0⟩], [⟨3, 0, 0, 1, 0⟩]], [⟨0, 0, 0⟩, ⟨1, 0, 0⟩], 0, 2⟩

def tabK : List Knw := [bufK [] 1, bufK [fenI 0] 0, bufK [fenI 1] 1, bufK [fenI 2] 1, mesK 0 0 1, mesK 2 0 1, mesK 0 1 1, mesK 2 1 0, earK 0 1, earK 2 0, apaK [] 1, apaK [fenI 1] 0, apaK [fenI 0] 0, apaK [fenI 2] 1, twiK, takK]

def okK (k : Knw) : Bool := (chk k.T k.c).1 == 0 && (gdN k.T.length k.c (optL (fun n => alB k.T (evsT k.T 0) (exN (evsT k.T 0) n)) k.T (evsT k.T 0) (sizeN (evsT k.T 0))) == k.good && bdN k.T.length k.c (optL (fun n => alB k.T (evsT k.T 0) (exN (evsT k.T 0) n)) k.T (evsT k.T 0) (sizeN (evsT k.T 0))) == k.bad)

set_option maxRecDepth 100000 in
theorem tabK_ok : tabK.all okK = true := by kernel_rfl

end Go.Proofs.Ytomijmikkbhgmab
