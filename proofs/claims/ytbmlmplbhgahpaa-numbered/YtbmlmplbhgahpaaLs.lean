import Derived.Test.YtbmlmplbhgahpaaLr
import Derived.Deep.QuietTactic
import Derived.BigQuiet
namespace Go.Proofs.Ytbmlmplbhgahpaa
open Go.RowKit

set_option maxHeartbeats 1000000 in
theorem check_any (T : List (List Ins)) (fa : Bool) (c : List Atm) (v vt vc : Value) (w : World) (h : TestAt w v T fa c vt vc) :
    Calls Try.prog 7 #[v] w fun e w' => e = .returned (.tuple #[.int .i64 (chk T c).1, .int .i64 (chk T c).2]) ∧ Below w.heap.size w w' := by
  have HT : Hid (TestAt w v T fa c vt vc) := h
  obtain ⟨hv, _, _⟩ := h
  subst hv
  generalize hq : chk T c = q
  have HQ : Hid (chk T c = q) := hq
  clear hq
  go_enter Try.func7, Try.ntmps7
  go_wp2_with (go_at_call 24; refine (find_any T fa c _ vt vc _ (HT.out.keep (below_alloc _ _))).mono ?_; rw [HQ.out]; rintro e w3 ⟨rfl, hb3⟩; unfold fault2)
  go_quiet (fail)
  go_wp2_with fail
  go_ret2
  exact ⟨rfl, below_drewN ((below_more (below_alloc _ _) hb3).alloc (by have := hb3.size; simp at this; omega) _) _⟩

end Go.Proofs.Ytbmlmplbhgahpaa
