import Derived.Test.YtomijmikkbhgmaaGreatT1
namespace Go.Proofs.YtomijmikkbhgmaaGreat
open Go.RowKit

theorem within_loc (n : Int) : within n 0 2 = locB n := by
  unfold within locB; congr 1; simp; omega
theorem within_val (n : Int) : within n 0 3 = valB n := rfl

set_option maxRecDepth 100000 in
set_option maxHeartbeats 1000000 in
theorem fits_any (x : Ins) (w : World) :
    Calls Tryz.prog 89 #[.agg #[.int .i64 x.op, .int .i64 x.loc, .int .i64 x.reg, .int .i64 x.val, .int .i64 x.mode]] w fun e w' => e = .returned (.bool (mayB x)) ∧ Below w.heap.size w w' := by
  go_enter Tryz.func89, Tryz.ntmps89
  go_wp2_with (go_at_call 127; refine (within_any _ _ _ _).mono ?_; rintro e w' ⟨rfl, rfl⟩)
  all_goals go_ret
  all_goals refine ⟨ret_bool ?_, below_alloc _ _⟩
  all_goals first | (simp [mayB, wModeB, rModeB, fModeB, ← within_loc, ← within_val, *]; done) | (simp [mayB, wModeB, rModeB, ← within_loc, ← within_val, *]; cases x.mode == 0 <;> simp)

end Go.Proofs.YtomijmikkbhgmaaGreat
