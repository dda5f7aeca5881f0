import Derived.Test.YtomijmikkbhgmabT11
import Derived.Test.YtomijmikkbhgmabT8
namespace Go.Proofs.Ytomijmikkbhgmab
open Go.RowKit

def okFrom (E : List Evt) (q : (Nat × Evt) × Int) : Bool := (wrs E 0 q.1.2.loc).contains q.2 || q.2 == -1
def okOrd (E : List Evt) (x : Exe) (j : Nat) : Bool := shufB (x.order.getD j []) (wrs E 0 (j : Int))
/-- Is it an execution of these events? -/
def exeB (E : List Evt) (x : Exe) : Bool :=
  (x.from'.length == (rdsX E 0).length && x.order.length == 3) && ((((rdsX E 0).zip x.from').all (okFrom E)) && ((List.range' 0 3).all (okOrd E x)))

theorem exeB_no {E : List Evt} {x : Exe} (h : ¬ (x.from'.length = (rdsX E 0).length ∧ x.order.length = 3)) : exeB E x = false := by
  unfold exeB
  have : (x.from'.length == (rdsX E 0).length && x.order.length == 3) = false := by
    cases hh : (x.from'.length == (rdsX E 0).length && x.order.length == 3)
    · rfl
    · simp only [Bool.and_eq_true, beq_iff_eq] at hh; exact absurd hh h
  rw [this, Bool.false_and]

theorem exeB_yes {E : List Evt} {x : Exe} (h1 : x.from'.length = (rdsX E 0).length) (h3 : x.order.length = 3) : exeB E x = ((((rdsX E 0).zip x.from').drop 0).all (okFrom E) && (List.range' 0 (3 - 0)).all (okOrd E x)) := by
  unfold exeB
  rw [h1, h3]
  simp

theorem range_step {j : Nat} (h : j < 3) (f : Nat → Bool) : (List.range' j (3 - j)).all f = (f j && (List.range' (j + 1) (3 - (j + 1))).all f) := by
  rw [show 3 - j = (3 - (j + 1)) + 1 by omega, List.range'_succ, List.all_cons]

end Go.Proofs.Ytomijmikkbhgmab
