import Derived.Test.YtbmlmplbhgahpaaRows
import Derived.Test.YtbmlmplbhgahpaaPred
namespace Go.Proofs.Ytbmlmplbhgahpaa
open Go.RowKit

theorem ret_bool {a b : Bool} (h : a = b) : Ending.returned (.bool a) = .returned (.bool b) := by rw [h]
theorem ret_int {a b : Int} (h : a = b) : Ending.returned (.int .i64 a) = .returned (.int .i64 b) := by rw [h]

theorem isLoc_any (n : Int) (w : World) :
    Calls Try.prog 62 #[.int .i64 n] w fun e w' => e = .returned (.bool (locB n)) ∧ w' = w := by
  unfold locB
  go_enter Try.func62, Try.ntmps62
  go_wp2
  all_goals go_ret
  all_goals exact ⟨ret_bool (by first | (simp; done) | (simp; omega)), rfl⟩

theorem isReg_any (n : Int) (w : World) :
    Calls Try.prog 65 #[.int .i64 n] w fun e w' => e = .returned (.bool (locB n)) ∧ w' = w := by
  unfold locB
  go_enter Try.func65, Try.ntmps65
  go_wp2
  all_goals go_ret
  all_goals exact ⟨ret_bool (by first | (simp; done) | (simp; omega)), rfl⟩

theorem isVal_any (n : Int) (w : World) :
    Calls Try.prog 63 #[.int .i64 n] w fun e w' => e = .returned (.bool (valB n)) ∧ w' = w := by
  unfold valB
  go_enter Try.func63, Try.ntmps63
  go_wp2
  all_goals go_ret
  all_goals exact ⟨ret_bool (by first | (simp; done) | (simp; omega)), rfl⟩

theorem isWriteMode_any (n : Int) (w : World) :
    Calls Try.prog 64 #[.int .i64 n] w fun e w' => e = .returned (.bool (wModeB n)) ∧ w' = w := by
  unfold wModeB
  go_enter Try.func64, Try.ntmps64
  go_wp2
  all_goals go_ret
  all_goals exact ⟨ret_bool (by first | (simp [*]; done) | (simp; omega)), rfl⟩

theorem isReadMode_any (n : Int) (w : World) :
    Calls Try.prog 66 #[.int .i64 n] w fun e w' => e = .returned (.bool (rModeB n)) ∧ w' = w := by
  unfold rModeB
  go_enter Try.func66, Try.ntmps66
  go_wp2
  all_goals go_ret
  all_goals exact ⟨ret_bool (by first | (simp [*]; done) | (simp; omega)), rfl⟩

theorem isFenceMode_any (n : Int) (w : World) :
    Calls Try.prog 67 #[.int .i64 n] w fun e w' => e = .returned (.bool (fModeB n)) ∧ w' = w := by
  unfold fModeB
  go_enter Try.func67, Try.ntmps67
  go_wp2
  all_goals go_ret
  all_goals exact ⟨ret_bool (by first | (simp [*]; done) | (simp; omega)), rfl⟩

def within (v lo hi : Int) : Bool := decide (lo ≤ v) && decide (v ≤ hi)

theorem within_any (v lo hi : Int) (w : World) :
    Calls Try.prog 43 #[.int .i64 v, .int .i64 lo, .int .i64 hi] w fun e w' => e = .returned (.bool (within v lo hi)) ∧ w' = w := by
  unfold within
  go_enter Try.func43, Try.ntmps43
  go_wp2
  all_goals go_ret
  all_goals exact ⟨ret_bool (by first | (simp; done) | (simp; omega)), rfl⟩

theorem placeOf_any (i j : Nat) (hi : i ≤ 4) (hj : j ≤ 12) (w : World) :
    Calls Try.prog 55 #[.int .i64 i, .int .i64 j] w fun e w' => e = .returned (.int .i64 (100 * i + j)) ∧ w' = w := by
  go_enter Try.func55, Try.ntmps55
  go_wp2
  go_ret
  exact ⟨ret_int (by simp), rfl⟩

theorem capped_any (n : Nat) (w : World) :
    Calls Try.prog 48 #[.int .i64 n] w fun e w' => e = .returned (.int .i64 (cap2 n : Nat)) ∧ w' = w := by
  unfold cap2
  by_cases h : 2000 < n
  · rw [if_pos h]
    go_enter Try.func48, Try.ntmps48
    go_wp2
    go_ret
    exact ⟨ret_int (by simp), rfl⟩
  · rw [if_neg h]
    go_enter Try.func48, Try.ntmps48
    go_wp2
    go_ret
    exact ⟨ret_int (by simp), rfl⟩

end Go.Proofs.Ytbmlmplbhgahpaa
