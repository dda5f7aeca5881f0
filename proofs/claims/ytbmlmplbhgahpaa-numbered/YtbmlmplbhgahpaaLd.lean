import Derived.Test.YtbmlmplbhgahpaaLc
import Derived.Deep.Light
namespace Go.Proofs.Ytbmlmplbhgahpaa
open Go.RowKit

set_option maxHeartbeats 1000000 in
theorem mayBeAsked_any (a : Atm) (n : Nat) (_hn : n ≤ 4) (w : World) :
    Calls Try.prog 57 #[.agg #[.int .i64 a.thread, .int .i64 a.at', .int .i64 a.val], .int .i64 n] w fun e w' => e = .returned (.bool (atmB a n)) ∧ Below w.heap.size w w' := by
  go_enter Try.func57, Try.ntmps57
  go_wp2_with (first
    | (go_at_call 62; refine (isLoc_any _ _).mono ?_; rintro e w' ⟨rfl, rfl⟩)
    | (go_at_call 65; refine (isReg_any _ _).mono ?_; rintro e w' ⟨rfl, rfl⟩)
    | (go_at_call 63; refine (isVal_any _ _).mono ?_; rintro e w' ⟨rfl, rfl⟩))
  all_goals go_ret
  all_goals refine ⟨ret_bool ?_, below_alloc _ _⟩
  all_goals (go_light; simp_all [atmB]; try omega)

set_option maxHeartbeats 1000000 in
theorem atom_any (a : Atm) (n : Nat) (_hn : n ≤ 4) (w : World) :
    Calls Try.prog 28 #[.agg #[.int .i64 a.thread, .int .i64 a.at', .int .i64 a.val], .int .i64 n] w fun e w' => e = .returned (.bool (atmB a n)) ∧ Below w.heap.size w w' := by
  go_enter Try.func28, Try.ntmps28
  go_wp2_with (go_at_call 43; refine (within_any _ _ _ _).mono ?_; rintro e w' ⟨rfl, rfl⟩)
  all_goals go_ret
  all_goals refine ⟨ret_bool ?_, below_alloc _ _⟩
  all_goals (go_light; rw [Bool.eq_iff_iff]; simp_all [atmB, within, valB, locB]; try omega)

end Go.Proofs.Ytbmlmplbhgahpaa
