import Derived.Test.YtomijmikkbhgmaaT8
import Derived.Test.YtomijmikkbhgmaaT10
import Derived.Test.YtomijmikkbhgmaaLu
namespace Go.Proofs.Ytomijmikkbhgmaa
open Go.RowKit

set_option maxHeartbeats 1000000 in
theorem checks_any (T : List (List Ins)) (fa : Bool) (c : List Atm) (v vt vc : Value) (w : World) (h : TestAt w v T fa c vt vc) :
    Calls Try.prog 3 #[v] w fun e w' => e = .returned (.bool true) ∧ Below w.heap.size w w' := by
  have HT : Hid (TestAt w v T fa c vt vc) := h
  obtain ⟨hv, _, _⟩ := h
  subst hv
  go_enter Try.func3, Try.ntmps3
  go_wp2_with fail
  refine (copy_any T fa c _ vt vc _ (HT.out.keep (below_alloc _ _))).mono ?_
  rintro e w1 ⟨vt1, vc1, rfl, ht1, hb1⟩
  go_wp2_with fail
  refine (check_any T fa c _ vt1 vc1 _ ht1).mono ?_
  rintro e w2 ⟨rfl, hb2⟩
  have hb12 := below_more hb1 hb2
  have e0 := keep_cell hb12 (b := w.heap.size) (off := 0) (u := vt) (by simp)
  have e1 := keep_cell hb12 (b := w.heap.size) (off := 1) (u := .bool fa) (by simp)
  have e2 := keep_cell hb12 (b := w.heap.size) (off := 2) (u := vc) (by simp)
  have hbw2 := below_more (below_alloc _ _) hb12
  clear hb1 hb2 hb12 ht1
  generalize hq : chk T c = q
  have HQ : Hid (chk T c = q) := hq
  clear hq
  go_wp2_with fail
  refine (checkR_any T fa c _ vt vc _ (HT.out.keep hbw2)).mono ?_
  rw [HQ.out]
  rintro e w3 ⟨rfl, hb3⟩
  have k1 : (q.1 == q.1) = true := by simp
  have k2 : (q.2 == q.2) = true := by simp
  go_wp2_with fail
  go_ret
  exact ⟨rfl, below_more hbw2 hb3⟩

end Go.Proofs.Ytomijmikkbhgmaa
