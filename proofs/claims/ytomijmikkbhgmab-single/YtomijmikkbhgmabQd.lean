import Derived.Test.YtomijmikkbhgmabT8
import Derived.Test.YtomijmikkbhgmabT2
import Derived.Deep.CutRange
import Derived.Deep.RegionLaw
import Derived.Deep.RegionWith
import Derived.StillTailTactics
namespace Go.Proofs.Ytomijmikkbhgmab
open Go.RowKit

theorem ordAt_get {x : Exe} {loc : Int} (h3 : x.order.length = 3) (hl : locB loc = true) : ∃ m : Nat, loc = (m : Int) ∧ m < 3 ∧ x.order[m]? = some (ordAt x loc) := by
  unfold locB at hl
  simp only [Bool.and_eq_true, decide_eq_true_eq] at hl
  obtain ⟨m, rfl⟩ := Int.eq_ofNat_of_zero_le hl.1
  refine ⟨m, rfl, by omega, ?_⟩
  unfold ordAt
  rw [Int.toNat_natCast, List.getD, List.getElem?_eq_getElem (by omega)]; rfl

theorem zip_at {α β : Type} {l : List α} {m : List β} {k : Nat} {a : α} {b : β} (h1 : l[k]? = some a) (h2 : m[k]? = some b) : (l.zip m)[k]? = some (a, b) := by
  rw [List.getElem?_zip_eq_some]; exact ⟨h1, h2⟩

end Go.Proofs.Ytomijmikkbhgmab
