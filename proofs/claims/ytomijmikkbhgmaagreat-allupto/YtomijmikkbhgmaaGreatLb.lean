import Derived.Test.YtomijmikkbhgmaaGreatT1
namespace Go.Proofs.YtomijmikkbhgmaaGreat
open Go.RowKit

set_option maxHeartbeats 1000000 in
theorem mayBe_any (x : Ins) (w : World) :
    Calls Tryz.prog 123 #[.agg #[.int .i64 x.op, .int .i64 x.loc, .int .i64 x.reg, .int .i64 x.val, .int .i64 x.mode]] w fun e w' => e = .returned (.bool (mayB x)) ∧ Below w.heap.size w w' := by
  go_enter Tryz.func123, Tryz.ntmps123
  go_wp2_with (first
    | (go_at_call 153; refine (isLoc_any _ _).mono ?_; rintro e w' ⟨rfl, rfl⟩)
    | (go_at_call 156; refine (isReg_any _ _).mono ?_; rintro e w' ⟨rfl, rfl⟩)
    | (go_at_call 154; refine (isVal_any _ _).mono ?_; rintro e w' ⟨rfl, rfl⟩)
    | (go_at_call 155; refine (isWriteMode_any _ _).mono ?_; rintro e w' ⟨rfl, rfl⟩)
    | (go_at_call 157; refine (isReadMode_any _ _).mono ?_; rintro e w' ⟨rfl, rfl⟩)
    | (go_at_call 158; refine (isFenceMode_any _ _).mono ?_; rintro e w' ⟨rfl, rfl⟩))
  all_goals go_ret
  all_goals refine ⟨ret_bool ?_, below_alloc _ _⟩
  all_goals simp [mayB, *]

end Go.Proofs.YtomijmikkbhgmaaGreat
