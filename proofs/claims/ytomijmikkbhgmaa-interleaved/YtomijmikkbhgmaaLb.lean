import Derived.Test.YtomijmikkbhgmaaT1
namespace Go.Proofs.Ytomijmikkbhgmaa
open Go.RowKit

set_option maxHeartbeats 1000000 in
theorem mayBe_any (x : Ins) (w : World) :
    Calls Try.prog 80 #[.agg #[.int .i64 x.op, .int .i64 x.loc, .int .i64 x.reg, .int .i64 x.val, .int .i64 x.mode]] w fun e w' => e = .returned (.bool (mayB x)) ∧ Below w.heap.size w w' := by
  go_enter Try.func80, Try.ntmps80
  go_wp2_with (first
    | (go_at_call 110; refine (isLoc_any _ _).mono ?_; rintro e w' ⟨rfl, rfl⟩)
    | (go_at_call 113; refine (isReg_any _ _).mono ?_; rintro e w' ⟨rfl, rfl⟩)
    | (go_at_call 111; refine (isVal_any _ _).mono ?_; rintro e w' ⟨rfl, rfl⟩)
    | (go_at_call 112; refine (isWriteMode_any _ _).mono ?_; rintro e w' ⟨rfl, rfl⟩)
    | (go_at_call 114; refine (isReadMode_any _ _).mono ?_; rintro e w' ⟨rfl, rfl⟩)
    | (go_at_call 115; refine (isFenceMode_any _ _).mono ?_; rintro e w' ⟨rfl, rfl⟩))
  all_goals go_ret
  all_goals refine ⟨ret_bool ?_, below_alloc _ _⟩
  all_goals simp [mayB, *]

end Go.Proofs.Ytomijmikkbhgmaa
