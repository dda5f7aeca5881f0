import Derived.Test.YtomijmikkbhgmaaT5
import Derived.Test.YtomijmikkbhgmaaMc
namespace Go.Proofs.Ytomijmikkbhgmaa
open Go.RowKit

theorem evsR_len (T : List (List Ins)) (c : List Atm) : (evsR T c).length ≤ 96 := by
  unfold evsR
  cases hz : (chk T c).1 == 0
  · simp
  · obtain ⟨h2, hL, _⟩ := sizeB_parts (chk_zero hz)
    have := evsT_len T 0 hL
    simp; omega

set_option maxHeartbeats 1000000 in
theorem lists_any (T : List (List Ins)) (fa : Bool) (c : List Atm) (v vt vc : Value) (w : World) (h : TestAt w v T fa c vt vc) :
    Calls Try.prog 4 #[v] w fun e w' => e = .returned (.bool true) ∧ Below w.heap.size w w' := by
  have HT : Hid (TestAt w v T fa c vt vc) := h
  obtain ⟨hv, _, _⟩ := h
  subst hv
  have hlen := evsR_len T c
  go_enter Try.func4, Try.ntmps4
  go_wp2_with fail
  refine (copy_any T fa c _ vt vc _ (HT.out.keep (below_alloc _ _))).mono ?_
  rintro e w1 ⟨vt1, vc1, rfl, ht1, hb1⟩
  go_wp2_with fail
  refine (eventsP_any T fa c _ vt1 vc1 _ ht1).mono ?_
  rintro e w2 ⟨u1, rfl, hu1, hb2⟩
  have hb12 := below_more hb1 hb2
  have e0 := keep_cell hb12 (b := w.heap.size) (off := 0) (u := vt) (by simp)
  have e1 := keep_cell hb12 (b := w.heap.size) (off := 1) (u := .bool fa) (by simp)
  have e2 := keep_cell hb12 (b := w.heap.size) (off := 2) (u := vc) (by simp)
  have hbw2 := below_more (below_alloc _ _) hb12
  clear hb1 hb2 hb12 ht1
  have HU1 : Hid (Ev4At w2 u1 (evsR T c)) := hu1
  clear hu1
  go_wp2_with fail
  refine (eventsR_any T fa c _ vt vc _ (HT.out.keep hbw2)).mono ?_
  rintro e w3 ⟨u2, rfl, hu2, hb3⟩
  replace e0 := keep_cell hb3 e0
  replace e1 := keep_cell hb3 e1
  replace e2 := keep_cell hb3 e2
  have hbw3 := below_more hbw2 hb3
  have HU2 : Hid (Ev4At w3 u1 (evsR T c) ∧ Ev4At w3 u2 (evsR T c)) := ⟨HU1.out.keep hb3, hu2⟩
  clear hb3 HU1 hu2
  go_wp2_with fail
  refine (sameEvents_any _ hlen _ _ _ HU2.out.1 HU2.out.2).mono ?_
  rintro e w4 ⟨rfl, hb4⟩
  replace e0 := keep_cell hb4 e0
  replace e1 := keep_cell hb4 e1
  replace e2 := keep_cell hb4 e2
  have hbw4 := below_more hbw3 hb4
  clear hb4 HU2
  go_wp2_with fail
  refine (copy_any T fa c _ vt vc _ (HT.out.keep hbw4)).mono ?_
  rintro e w5 ⟨vt5, vc5, rfl, ht5, hb5⟩
  replace e0 := keep_cell hb5 e0
  replace e1 := keep_cell hb5 e1
  replace e2 := keep_cell hb5 e2
  have hbw5 := below_more hbw4 hb5
  clear hb5
  go_wp2_with fail
  refine (sizeP_any T fa c _ vt5 vc5 _ ht5).mono ?_
  rintro e w6 ⟨rfl, hb6⟩
  replace e0 := keep_cell hb6 e0
  replace e1 := keep_cell hb6 e1
  replace e2 := keep_cell hb6 e2
  have hbw6 := below_more hbw5 hb6
  clear hb6 ht5
  generalize hq : chk T c = q
  have HQ : Hid (chk T c = q) := hq
  clear hq
  generalize hs : sizR T c = s
  have HS : Hid (sizR T c = s) := hs
  clear hs
  go_wp2_with fail
  refine (sizeR_any T fa c _ vt vc _ (HT.out.keep hbw6)).mono ?_
  rw [HQ.out, HS.out]
  rintro e w7 ⟨rfl, hb7⟩
  have hbw7 := below_more hbw6 hb7
  have k1 : (q.1 == q.1) = true := by simp
  have k2 : ((s : Int) == (s : Int)) = true := by simp
  go_wp2_with fail
  go_ret
  exact ⟨rfl, hbw7⟩

end Go.Proofs.Ytomijmikkbhgmaa
