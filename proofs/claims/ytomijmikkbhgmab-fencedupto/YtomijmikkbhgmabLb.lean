import Derived.Test.YtomijmikkbhgmabT1
namespace Go.Proofs.Ytomijmikkbhgmab
open Go.RowKit

set_option maxHeartbeats 1000000 in
theorem mayBe_any (x : Ins) (w : World) :
    Calls Try.prog 71 #[.agg #[.int .i64 x.op, .int .i64 x.loc, .int .i64 x.reg, .int .i64 x.val, .int .i64 x.mode]] w fun e w' => e = .returned (.bool (mayB x)) ∧ Below w.heap.size w w' := by
  go_enter Try.func71, Try.ntmps71
  go_wp2_with (first
    | (go_at_call 84; refine (isLoc_any _ _).mono ?_; rintro e w' ⟨rfl, rfl⟩)
    | (go_at_call 87; refine (isReg_any _ _).mono ?_; rintro e w' ⟨rfl, rfl⟩)
    | (go_at_call 85; refine (isVal_any _ _).mono ?_; rintro e w' ⟨rfl, rfl⟩)
    | (go_at_call 86; refine (isWriteMode_any _ _).mono ?_; rintro e w' ⟨rfl, rfl⟩)
    | (go_at_call 88; refine (isReadMode_any _ _).mono ?_; rintro e w' ⟨rfl, rfl⟩)
    | (go_at_call 89; refine (isFenceMode_any _ _).mono ?_; rintro e w' ⟨rfl, rfl⟩))
  all_goals go_ret
  all_goals refine ⟨ret_bool ?_, below_alloc _ _⟩
  all_goals simp [mayB, *]

end Go.Proofs.Ytomijmikkbhgmab
