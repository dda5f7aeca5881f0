import Derived.Test.YtomijmikkbhgmaaT8
import Derived.Test.YtomijmikkbhgmaaLu
import Derived.Deep.QuietTactic
import Derived.BigQuiet
namespace Go.Proofs.Ytomijmikkbhgmaa
open Go.RowKit

/-- The events, where Check says OK. -/
def evsR (T : List (List Ins)) (c : List Atm) : List Evt := if (chk T c).1 == 0 then evsT T 0 else []
/-- How many candidates, where Check says OK. -/
def sizR (T : List (List Ins)) (c : List Atm) : Nat := if (chk T c).1 == 0 then cap2 (sizeN (evsT T 0)) else 0

theorem chk_zero {T : List (List Ins)} {c : List Atm} (h : ((chk T c).1 == 0) = true) : sizeB T c = true := by
  cases hs : sizeB T c
  · rw [chk_size hs] at h; simp at h
  · rfl

theorem ev4_nil (w : World) : Ev4At w (.slice none 0 0) [] := ⟨none, 0, 0, 0, rfl, fun h => absurd rfl h, fun _ => ⟨rfl, rfl⟩, fun k x h => by simp at h⟩

set_option maxHeartbeats 1000000 in
theorem eventsP_any (T : List (List Ins)) (fa : Bool) (c : List Atm) (v vt vc : Value) (w : World) (h : TestAt w v T fa c vt vc) :
    Calls Try.prog 12 #[v] w fun e w' => ∃ u, e = .returned (.tuple #[u, .int .i64 (chk T c).1]) ∧ Ev4At w' u (evsR T c) ∧ Below w.heap.size w w' := by
  have HT : Hid (TestAt w v T fa c vt vc) := h
  obtain ⟨hv, _, _⟩ := h
  subst hv
  have HZ : Hid (((chk T c).1 == 0) = true → sizeB T c = true) := chk_zero
  have HE : Hid (evsR T c = if (chk T c).1 == 0 then evsT T 0 else []) := rfl
  generalize hq : chk T c = q at HZ HE
  have HQ : Hid (chk T c = q) := hq
  clear hq
  generalize evsR T c = E at HE
  go_enter Try.func12, Try.ntmps12
  go_wp2_with fail
  refine (find_any T fa c _ vt vc _ (HT.out.keep (below_alloc _ _))).mono ?_
  rw [HQ.out]
  rintro e w3 ⟨rfl, hb3⟩
  unfold fault2
  have hs3 : w.heap.size < w3.heap.size := by have := hb3.size; simp at this; omega
  have e0 := keep_cell hb3 (b := w.heap.size) (off := 0) (u := vt) (by simp)
  have hbw3 := below_more (below_alloc _ _) hb3
  clear hb3
  cases hz : q.1 == 0
  · have hz2 : (q.1 != 0) = true := by simp [bne, hz]
    have HE2 : Hid (E = []) := HE.out.trans (by rw [hz]; rfl)
    clear HE
    go_wp2_with fail
    go_quiet (fail)
    go_wp2_with fail
    go_ret2
    exact ⟨_, rfl, by rw [HE2.out]; exact ev4_nil _, below_drewN (hbw3.alloc hbw3.size _) _⟩
  · have hz2 : (q.1 != 0) = false := by simp [bne, hz]
    have HE2 : Hid (E = evsT T 0) := HE.out.trans (by rw [hz]; rfl)
    have hq0 : q.1 = 0 := by simpa using hz
    obtain ⟨h2, hL, _⟩ := sizeB_parts (HZ.out hz)
    have HL : Hid (lensB T = true) := hL
    have HQ0 : Hid (q.1 = 0) := hq0
    clear HE hL hq0
    go_wp2_with fail
    refine (list_any T vt _ (HT.out.ht.keep (hbw3.alloc hbw3.size _)) h2 HL.out).mono ?_
    rintro e w5 ⟨u, rfl, hu, hb5⟩
    go_wp2_with fail
    go_ret2
    exact ⟨u, by rw [HQ0.out]; rfl, by rw [HE2.out]; exact hu, below_more (hbw3.alloc hbw3.size _) hb5⟩

set_option maxHeartbeats 1000000 in
theorem sizeP_any (T : List (List Ins)) (fa : Bool) (c : List Atm) (v vt vc : Value) (w : World) (h : TestAt w v T fa c vt vc) :
    Calls Try.prog 15 #[v] w fun e w' => e = .returned (.tuple #[.int .i64 (sizR T c : Nat), .int .i64 (chk T c).1]) ∧ Below w.heap.size w w' := by
  have HT : Hid (TestAt w v T fa c vt vc) := h
  obtain ⟨hv, _, _⟩ := h
  subst hv
  have HZ : Hid (((chk T c).1 == 0) = true → sizeB T c = true) := chk_zero
  have HE : Hid (sizR T c = if (chk T c).1 == 0 then cap2 (sizeN (evsT T 0)) else 0) := rfl
  generalize hq : chk T c = q at HZ HE
  have HQ : Hid (chk T c = q) := hq
  clear hq
  generalize sizR T c = E at HE
  go_enter Try.func15, Try.ntmps15
  go_wp2_with fail
  refine (find_any T fa c _ vt vc _ (HT.out.keep (below_alloc _ _))).mono ?_
  rw [HQ.out]
  rintro e w3 ⟨rfl, hb3⟩
  unfold fault2
  have hs3 : w.heap.size < w3.heap.size := by have := hb3.size; simp at this; omega
  have e0 := keep_cell hb3 (b := w.heap.size) (off := 0) (u := vt) (by simp)
  have hbw3 := below_more (below_alloc _ _) hb3
  clear hb3
  cases hz : q.1 == 0
  · have hz2 : (q.1 != 0) = true := by simp [bne, hz]
    have HE2 : Hid (E = 0) := HE.out.trans (by rw [hz]; rfl)
    clear HE
    go_wp2_with fail
    go_quiet (fail)
    go_wp2_with fail
    go_ret2
    exact ⟨by rw [HE2.out]; rfl, below_drewN (hbw3.alloc hbw3.size _) _⟩
  · have hz2 : (q.1 != 0) = false := by simp [bne, hz]
    have HE2 : Hid (E = cap2 (sizeN (evsT T 0))) := HE.out.trans (by rw [hz]; rfl)
    have hq0 : q.1 = 0 := by simpa using hz
    obtain ⟨h2, hL, _⟩ := sizeB_parts (HZ.out hz)
    have HL : Hid (lensB T = true) := hL
    have HQ0 : Hid (q.1 = 0) := hq0
    have hEl : (evsT T 0).length ≤ 96 := by have := evsT_len T 0 HL.out; omega
    clear HE hL hq0
    go_wp2_with fail
    refine (list_any T vt _ (HT.out.ht.keep (hbw3.alloc hbw3.size _)) h2 HL.out).mono ?_
    rintro e w5 ⟨u, rfl, hu, hb5⟩
    have hbw5 := below_more (hbw3.alloc hbw3.size _) hb5
    clear hb5
    go_wp2_with fail
    refine (countP_any _ hEl _ _ hu).mono ?_
    rintro e w6 ⟨rfl, hb6⟩
    go_wp2_with fail
    go_ret2
    exact ⟨by rw [HQ0.out, HE2.out]; rfl, below_more hbw5 hb6⟩

set_option maxHeartbeats 1000000 in
theorem sizeR_any (T : List (List Ins)) (fa : Bool) (c : List Atm) (v vt vc : Value) (w : World) (h : TestAt w v T fa c vt vc) :
    Calls Try.prog 16 #[v] w fun e w' => e = .returned (.tuple #[.int .i64 (sizR T c : Nat), .int .i64 (chk T c).1]) ∧ Below w.heap.size w w' := by
  have HT : Hid (TestAt w v T fa c vt vc) := h
  obtain ⟨hv, _, _⟩ := h
  subst hv
  have HZ : Hid (((chk T c).1 == 0) = true → sizeB T c = true) := chk_zero
  have HE : Hid (sizR T c = if (chk T c).1 == 0 then cap2 (sizeN (evsT T 0)) else 0) := rfl
  generalize hq : chk T c = q at HZ HE
  have HQ : Hid (chk T c = q) := hq
  clear hq
  generalize sizR T c = E at HE
  go_enter Try.func16, Try.ntmps16
  go_wp2_with fail
  refine (checkR_any T fa c _ vt vc _ (HT.out.keep (below_alloc _ _))).mono ?_
  rw [HQ.out]
  rintro e w3 ⟨rfl, hb3⟩
  have e0 := keep_cell hb3 (b := w.heap.size) (off := 0) (u := vt) (by simp)
  have e1 := keep_cell hb3 (b := w.heap.size) (off := 1) (u := .bool fa) (by simp)
  have e2 := keep_cell hb3 (b := w.heap.size) (off := 2) (u := vc) (by simp)
  have hbw3 := below_more (below_alloc _ _) hb3
  clear hb3
  cases hz : q.1 == 0
  · have hz2 : (q.1 != 0) = true := by simp [bne, hz]
    have HE2 : Hid (E = 0) := HE.out.trans (by rw [hz]; rfl)
    clear HE
    go_wp2_with fail
    go_ret2
    exact ⟨by rw [HE2.out]; rfl, hbw3⟩
  · have hz2 : (q.1 != 0) = false := by simp [bne, hz]
    have HE2 : Hid (E = cap2 (sizeN (evsT T 0))) := HE.out.trans (by rw [hz]; rfl)
    have hq0 : q.1 = 0 := by simpa using hz
    obtain ⟨h2, hL, _⟩ := sizeB_parts (HZ.out hz)
    have HL : Hid (lensB T = true) := hL
    have HQ0 : Hid (q.1 = 0) := hq0
    have hEl : (evsT T 0).length ≤ 96 := by have := evsT_len T 0 HL.out; omega
    clear HE hL hq0
    go_wp2_with fail
    refine (events_any T fa c _ vt vc _ (HT.out.keep hbw3) h2 HL.out).mono ?_
    rintro e w5 ⟨u, rfl, hu, hb5⟩
    have hbw5 := below_more hbw3 hb5
    clear hb5
    go_wp2_with fail
    refine (size_any _ hEl _ _ hu).mono ?_
    rintro e w6 ⟨rfl, hb6⟩
    go_wp2_with fail
    go_ret2
    exact ⟨by rw [HQ0.out, HE2.out]; rfl, below_more hbw5 hb6⟩

end Go.Proofs.Ytomijmikkbhgmaa
