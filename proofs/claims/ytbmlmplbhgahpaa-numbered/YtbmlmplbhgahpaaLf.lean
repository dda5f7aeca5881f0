import Derived.Test.YtbmlmplbhgahpaaLa
import Derived.Deep.Light
namespace Go.Proofs.Ytbmlmplbhgahpaa
open Go.RowKit

theorem intAt_nil (w : World) (B : Nat) : IntNew B w (.slice none 0 0) [] := ⟨none, B, 0, 0, ⟨rfl, fun h => absurd rfl h, fun _ => ⟨rfl, rfl⟩, fun k x h => by simp at h⟩, Nat.le_refl _, Nat.le_refl _⟩

theorem intAt_one (w : World) (a : Int) (t : TypeId) : IntNew w.heap.size (w.alloc (.cells #[.int .i64 a] t)) (.slice (some ⟨w.heap.size, 0, none⟩) 1 1) [a] :=
  ⟨_, w.heap.size, 0, 1, ⟨rfl, fun _ => rfl, fun h => by simp at h, fun k x h => by
    match k, h with
    | 0, h => simp at h; subst h; simp [IntC]⟩, Nat.le_refl _, Nat.le_refl _⟩

theorem intAt_two (w : World) (a b : Int) (t : TypeId) : IntNew w.heap.size (w.alloc (.cells #[.int .i64 a, .int .i64 b] t)) (.slice (some ⟨w.heap.size, 0, none⟩) 2 2) [a, b] :=
  ⟨_, w.heap.size, 0, 2, ⟨rfl, fun _ => rfl, fun h => by simp at h, fun k x h => by
    match k, h with
    | 0, h => simp at h; subst h; simp [IntC]
    | 1, h => simp at h; subst h; simp [IntC]⟩, Nat.le_refl _, Nat.le_refl _⟩

theorem IntNew.of {B : Nat} {w : World} {v : Value} {l m : List Int} (h : IntNew B w v l) (e : m = l) : IntNew B w v m := by rw [e]; exact h

set_option maxHeartbeats 1000000 in
theorem kindsR_any (op : Int) (w : World) :
    Calls Try.prog 45 #[.int .i64 op] w fun e w' => ∃ v, e = .returned v ∧ IntNew w.heap.size w' v (kindsOf op) ∧ Below w.heap.size w w' := by
  go_enter Try.func45, Try.ntmps45
  go_wp2
  all_goals go_ret
  all_goals first
    | exact ⟨_, rfl, (intAt_one _ _ _).of (by simp [kindsOf, *]), below_alloc _ _⟩
    | exact ⟨_, rfl, (intAt_two _ _ _ _).of (by simp [kindsOf, *]), below_alloc _ _⟩
    | exact ⟨_, rfl, (intAt_nil _ _).of (by simp [kindsOf, *]), Below.refl _ _⟩

set_option maxHeartbeats 1000000 in
theorem kindsP_any (op : Int) (w : World) :
    Calls Try.prog 46 #[.int .i64 op] w fun e w' => ∃ v, e = .returned v ∧ IntNew w.heap.size w' v (kindsOf op) ∧ Below w.heap.size w w' := by
  go_enter Try.func46, Try.ntmps46
  go_wp2
  all_goals go_ret
  all_goals first
    | exact ⟨_, rfl, (intAt_one _ _ _).of (by simp [kindsOf, *]), below_alloc _ _⟩
    | exact ⟨_, rfl, (intAt_two _ _ _ _).of (by simp [kindsOf, *]), below_alloc _ _⟩
    | exact ⟨_, rfl, (intAt_nil _ _).of (by simp [kindsOf, *]), Below.refl _ _⟩

end Go.Proofs.Ytbmlmplbhgahpaa
