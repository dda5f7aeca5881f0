import Derived.Test.YtomijmikkbhgmaaGreatT49
namespace Go.Proofs.YtomijmikkbhgmaaGreat
open Go.RowKit

set_option maxHeartbeats 1000000 in
theorem ends_any (T : List (List Ins)) (fa : Bool) (c : List Atm) (vt vc : Value) (w : World) (h : TestAt w (.agg #[vt, .bool fa, vc]) T fa c vt vc) :
    Calls Tryz.prog 4 #[.agg #[vt, .bool fa, vc]] w fun e w' => e = .returned (.bool true) ∧ Below w.heap.size w w' := by
  have HO : Hid (∀ w', Below w.heap.size w w' → Calls Tryz.prog 9 #[.agg #[vt, .bool fa, vc]] w' fun e w'' => e = .returned (.bool (opnB T)) ∧ Below w'.heap.size w' w'') := fun w' hb => open_any T fa c vt vc w' (h.keep hb)
  have HJ : Hid (∀ w', Below w.heap.size w w' → Calls Tryz.prog 11 #[.agg #[vt, .bool fa, vc]] w' fun e w'' => e = .returned (.bool true) ∧ Below w'.heap.size w' w'') := fun w' hb => ended_any T fa c vt vc w' (h.keep hb)
  generalize opnB T = B at HO
  obtain ⟨ht0, aot, bt, offt, capt, htv, _⟩ := h.ht.opened
  obtain ⟨hc0, aoc, bc, offc, capc, hsc⟩ := h.hc
  have hcv := hsc.hv
  subst htv hcv
  clear h hsc
  go_enter Tryz.func4, Tryz.ntmps4
  go_wp2_with fail
  have hba := below_alloc w (.cells #[.slice aot T.length capt, .bool fa, .slice aoc c.length capc] 25)
  refine (HO.out _ hba).mono ?_
  rintro e w3 ⟨rfl, hb3⟩
  have hbw3 := below_more hba hb3
  have t0 := keep_cell hb3 (b := w.heap.size) (off := 0) (u := .slice aot T.length capt) (by simp)
  have t1 := keep_cell hb3 (b := w.heap.size) (off := 1) (u := .bool fa) (by simp)
  have t2 := keep_cell hb3 (b := w.heap.size) (off := 2) (u := .slice aoc c.length capc) (by simp)
  cases B
  · go_wp2_with fail
    go_ret
    exact ⟨rfl, hbw3⟩
  · go_wp2_with fail
    refine (HJ.out w3 hbw3).mono ?_
    rintro e w4 ⟨rfl, hb4⟩
    go_wp2_with fail
    go_ret
    exact ⟨rfl, below_more hbw3 hb4⟩

end Go.Proofs.YtomijmikkbhgmaaGreat
