import Derived.Test.YtomijmikkbhgmabT5
import Derived.Test.YtomijmikkbhgmabMath6
import Derived.Deep.OwnRows
namespace Go.Proofs.Ytomijmikkbhgmab
open Go.RowKit

structure ArwC (w : World) (b off : Nat) (p : Int × Int) : Prop where
  c0 : w.cell? ⟨b, off, none⟩ = some (.int .i64 p.1)
  c1 : w.cell? ⟨b, off + 1, none⟩ = some (.int .i64 p.2)
theorem arwC_keeps : Keeps ArwC := fun _ _ _ _ _ hb h => ⟨keep_cell hb h.c0, keep_cell hb h.c1⟩
def ArwAt (w : World) (v : Value) (l : List (Int × Int)) : Prop := ∃ ao b off cap, SlAt w 2 ArwC v l ao b off cap
theorem ArwAt.keep {w w' : World} {v : Value} {l : List (Int × Int)} (h : ArwAt w v l) (hb : Below w.heap.size w w') : ArwAt w' v l := by
  obtain ⟨ao, b, off, cap, h⟩ := h
  exact ⟨ao, b, off, cap, h.keep arwC_keeps hb⟩

theorem Try.infoBool : (Try.prog.info? 4).map (fun i => (i.zero, i.size, i.bytes)) = some (some (.bool false), 1, 1) := by kernel_rfl

theorem ldB_hit {g : Nat → Bool} {to : Int} {p : Int × Int} (A : List (Int × Int)) (h1 : p.2 = to) (h2 : g p.1.toNat = false) : ldB g to (p :: A) = true := by simp [ldB, h1, h2]
theorem ldB_mis {g : Nat → Bool} {to : Int} {p : Int × Int} (A : List (Int × Int)) (h : p.2 = to → g p.1.toNat = true) : ldB g to (p :: A) = ldB g to A := by
  unfold ldB
  rw [List.any_cons]
  by_cases e : p.2 = to
  · simp [e, h e]
  · simp [e]

end Go.Proofs.Ytomijmikkbhgmab
