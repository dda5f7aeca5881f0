import Derived.Test.YtomijmikkbhgmaaT12
import Derived.Test.YtomijmikkbhgmaaLu
import Derived.Deep.QuietTactic
import Derived.BigQuiet
import Derived.Test.YtomijmikkbhgmaaT8
import Derived.Test.YtomijmikkbhgmaaT6
namespace Go.Proofs.Ytomijmikkbhgmaa
open Go.RowKit

/-- The events, where Check says OK. -/
def evsR (T : List (List Ins)) (c : List Atm) : List Evt := if (chk T c).1 == 0 then evsT T 0 else []
/-- How many candidates, where Check says OK. -/
def sizR (T : List (List Ins)) (c : List Atm) : Nat := if (chk T c).1 == 0 then cap2 (sizeN (evsT T 0)) else 0

theorem chk_zero {T : List (List Ins)} {c : List Atm} (h : ((chk T c).1 == 0) = true) : sizeB T c = true := by
  cases hs : sizeB T c
  · rw [chk_size hs] at h; simp at h
  · rfl

theorem ev4_nil (w : World) : Ev4At w (.slice none 0 0) [] := ⟨none, 0, 0, 0, rfl, fun h => absurd rfl h, fun _ => ⟨rfl, rfl⟩, fun k x h => by simp at h⟩

set_option maxHeartbeats 1000000 in
theorem eventsP_any (T : List (List Ins)) (fa : Bool) (c : List Atm) (v vt vc : Value) (w : World) (h : TestAt w v T fa c vt vc) :
    Calls Try.prog 12 #[v] w fun e w' => ∃ u, e = .returned (.tuple #[u, .int .i64 (chk T c).1]) ∧ Ev4At w' u (evsR T c) ∧ Below w.heap.size w w' := by
  have HT : Hid (TestAt w v T fa c vt vc) := h
  obtain ⟨hv, _, _⟩ := h
  subst hv
  have HZ : Hid (((chk T c).1 == 0) = true → sizeB T c = true) := chk_zero
  have HE : Hid (evsR T c = if (chk T c).1 == 0 then evsT T 0 else []) := rfl
  generalize hq : chk T c = q at HZ HE
  have HQ : Hid (chk T c = q) := hq
  clear hq
  generalize evsR T c = E at HE
  go_enter Try.func12, Try.ntmps12
  go_wp2_with fail
  refine (find_any T fa c _ vt vc _ (HT.out.keep (below_alloc _ _))).mono ?_
  rw [HQ.out]
  rintro e w3 ⟨rfl, hb3⟩
  unfold fault2
  have hs3 : w.heap.size < w3.heap.size := by have := hb3.size; simp at this; omega
  have e0 := keep_cell hb3 (b := w.heap.size) (off := 0) (u := vt) (by simp)
  have hbw3 := below_more (below_alloc _ _) hb3
  clear hb3
  cases hz : q.1 == 0
  · have hz2 : (q.1 != 0) = true := by simp [bne, hz]
    have HE2 : Hid (E = []) := HE.out.trans (by rw [hz]; rfl)
    clear HE
    go_wp2_with fail
    go_quiet (fail)
    go_wp2_with fail
    go_ret2
    exact ⟨_, rfl, by rw [HE2.out]; exact ev4_nil _, below_drewN (hbw3.alloc hbw3.size _) _⟩
  · have hz2 : (q.1 != 0) = false := by simp [bne, hz]
    have HE2 : Hid (E = evsT T 0) := HE.out.trans (by rw [hz]; rfl)
    have hq0 : q.1 = 0 := by simpa using hz
    obtain ⟨h2, hL, _⟩ := sizeB_parts (HZ.out hz)
    have HL : Hid (lensB T = true) := hL
    have HQ0 : Hid (q.1 = 0) := hq0
    clear HE hL hq0
    go_wp2_with fail
    refine (list_any T vt _ (HT.out.ht.keep (hbw3.alloc hbw3.size _)) h2 HL.out).mono ?_
    rintro e w5 ⟨u, rfl, hu, hb5⟩
    go_wp2_with fail
    go_ret2
    exact ⟨u, by rw [HQ0.out]; rfl, by rw [HE2.out]; exact hu, below_more (hbw3.alloc hbw3.size _) hb5⟩

set_option maxHeartbeats 1000000 in
theorem sizeP_any (T : List (List Ins)) (fa : Bool) (c : List Atm) (v vt vc : Value) (w : World) (h : TestAt w v T fa c vt vc) :
    Calls Try.prog 15 #[v] w fun e w' => e = .returned (.tuple #[.int .i64 (sizR T c : Nat), .int .i64 (chk T c).1]) ∧ Below w.heap.size w w' := by
  have HT : Hid (TestAt w v T fa c vt vc) := h
  obtain ⟨hv, _, _⟩ := h
  subst hv
  have HZ : Hid (((chk T c).1 == 0) = true → sizeB T c = true) := chk_zero
  have HE : Hid (sizR T c = if (chk T c).1 == 0 then cap2 (sizeN (evsT T 0)) else 0) := rfl
  generalize hq : chk T c = q at HZ HE
  have HQ : Hid (chk T c = q) := hq
  clear hq
  generalize sizR T c = E at HE
  go_enter Try.func15, Try.ntmps15
  go_wp2_with fail
  refine (find_any T fa c _ vt vc _ (HT.out.keep (below_alloc _ _))).mono ?_
  rw [HQ.out]
  rintro e w3 ⟨rfl, hb3⟩
  unfold fault2
  have hs3 : w.heap.size < w3.heap.size := by have := hb3.size; simp at this; omega
  have e0 := keep_cell hb3 (b := w.heap.size) (off := 0) (u := vt) (by simp)
  have hbw3 := below_more (below_alloc _ _) hb3
  clear hb3
  cases hz : q.1 == 0
  · have hz2 : (q.1 != 0) = true := by simp [bne, hz]
    have HE2 : Hid (E = 0) := HE.out.trans (by rw [hz]; rfl)
    clear HE
    go_wp2_with fail
    go_quiet (fail)
    go_wp2_with fail
    go_ret2
    exact ⟨by rw [HE2.out]; rfl, below_drewN (hbw3.alloc hbw3.size _) _⟩
  · have hz2 : (q.1 != 0) = false := by simp [bne, hz]
    have HE2 : Hid (E = cap2 (sizeN (evsT T 0))) := HE.out.trans (by rw [hz]; rfl)
    have hq0 : q.1 = 0 := by simpa using hz
    obtain ⟨h2, hL, _⟩ := sizeB_parts (HZ.out hz)
    have HL : Hid (lensB T = true) := hL
    have HQ0 : Hid (q.1 = 0) := hq0
    have hEl : (evsT T 0).length ≤ 96 := by have := evsT_len T 0 HL.out; omega
    clear HE hL hq0
    go_wp2_with fail
    refine (list_any T vt _ (HT.out.ht.keep (hbw3.alloc hbw3.size _)) h2 HL.out).mono ?_
    rintro e w5 ⟨u, rfl, hu, hb5⟩
    have hbw5 := below_more (hbw3.alloc hbw3.size _) hb5
    clear hb5
    go_wp2_with fail
    refine (countP_any _ hEl _ _ hu).mono ?_
    rintro e w6 ⟨rfl, hb6⟩
    go_wp2_with fail
    go_ret2
    exact ⟨by rw [HQ0.out, HE2.out]; rfl, below_more hbw5 hb6⟩

set_option maxHeartbeats 1000000 in
theorem sizeR_any (T : List (List Ins)) (fa : Bool) (c : List Atm) (v vt vc : Value) (w : World) (h : TestAt w v T fa c vt vc) :
    Calls Try.prog 16 #[v] w fun e w' => e = .returned (.tuple #[.int .i64 (sizR T c : Nat), .int .i64 (chk T c).1]) ∧ Below w.heap.size w w' := by
  have HT : Hid (TestAt w v T fa c vt vc) := h
  obtain ⟨hv, _, _⟩ := h
  subst hv
  have HZ : Hid (((chk T c).1 == 0) = true → sizeB T c = true) := chk_zero
  have HE : Hid (sizR T c = if (chk T c).1 == 0 then cap2 (sizeN (evsT T 0)) else 0) := rfl
  generalize hq : chk T c = q at HZ HE
  have HQ : Hid (chk T c = q) := hq
  clear hq
  generalize sizR T c = E at HE
  go_enter Try.func16, Try.ntmps16
  go_wp2_with fail
  refine (checkR_any T fa c _ vt vc _ (HT.out.keep (below_alloc _ _))).mono ?_
  rw [HQ.out]
  rintro e w3 ⟨rfl, hb3⟩
  have e0 := keep_cell hb3 (b := w.heap.size) (off := 0) (u := vt) (by simp)
  have e1 := keep_cell hb3 (b := w.heap.size) (off := 1) (u := .bool fa) (by simp)
  have e2 := keep_cell hb3 (b := w.heap.size) (off := 2) (u := vc) (by simp)
  have hbw3 := below_more (below_alloc _ _) hb3
  clear hb3
  cases hz : q.1 == 0
  · have hz2 : (q.1 != 0) = true := by simp [bne, hz]
    have HE2 : Hid (E = 0) := HE.out.trans (by rw [hz]; rfl)
    clear HE
    go_wp2_with fail
    go_ret2
    exact ⟨by rw [HE2.out]; rfl, hbw3⟩
  · have hz2 : (q.1 != 0) = false := by simp [bne, hz]
    have HE2 : Hid (E = cap2 (sizeN (evsT T 0))) := HE.out.trans (by rw [hz]; rfl)
    have hq0 : q.1 = 0 := by simpa using hz
    obtain ⟨h2, hL, _⟩ := sizeB_parts (HZ.out hz)
    have HL : Hid (lensB T = true) := hL
    have HQ0 : Hid (q.1 = 0) := hq0
    have hEl : (evsT T 0).length ≤ 96 := by have := evsT_len T 0 HL.out; omega
    clear HE hL hq0
    go_wp2_with fail
    refine (events_any T fa c _ vt vc _ (HT.out.keep hbw3) h2 HL.out).mono ?_
    rintro e w5 ⟨u, rfl, hu, hb5⟩
    have hbw5 := below_more hbw3 hb5
    clear hb5
    go_wp2_with fail
    refine (size_any _ hEl _ _ hu).mono ?_
    rintro e w6 ⟨rfl, hb6⟩
    go_wp2_with fail
    go_ret2
    exact ⟨by rw [HQ0.out, HE2.out]; rfl, below_more hbw5 hb6⟩

end Go.Proofs.Ytomijmikkbhgmaa

namespace Go.Proofs.Ytomijmikkbhgmaa
open Go.RowKit

def cErr (T : List (List Ins)) (c : List Atm) (n : Int) : Int := if (chk T c).1 == 0 then (if 0 ≤ n ∧ n < (sizeN (evsT T 0) : Int) then 0 else 6) else (chk T c).1
def cExe (T : List (List Ins)) (c : List Atm) (n : Int) : Exe := if (chk T c).1 == 0 then (if 0 ≤ n ∧ n < (sizeN (evsT T 0) : Int) then exN (evsT T 0) n.toNat else ⟨[], []⟩) else ⟨[], []⟩

theorem chk_many_no {T : List (List Ins)} {c : List Atm} (h : ((chk T c).1 == 0) = true) : sizeN (evsT T 0) ≤ 2000 := by
  have hs := chk_zero h
  cases hi : insF T 0 with
  | some p => rw [chk_ins hs hi] at h; simp at h
  | none =>
    cases hn : nstF T 0 with
    | some p => rw [chk_nst hs hi hn] at h; simp at h
    | none =>
      cases ha : atmF c 0 T.length with
      | some p => rw [chk_atm hs hi hn ha] at h; simp at h
      | none =>
        cases hm : manyB T
        · unfold manyB at hm
          simp only [Bool.or_eq_false_iff, decide_eq_false_iff_not] at hm
          have := hm.2
          unfold cap2 at this
          split at this <;> omega
        · rw [chk_many hs hi hn ha hm] at h; simp at h

theorem exe_nil (w : World) : ExeAt w (.slice none 0 0) (.slice none 0 0) ⟨[], []⟩ :=
  ⟨(intAt_nil w 0).at', none, 0, 0, 0, rfl, fun h => absurd rfl h, fun _ => ⟨rfl, rfl⟩, fun k x h => by simp at h⟩

/-- Two cells that hold no numbers, and no third one: an execution doesn't lie there. -/
theorem exe_store {w w' : World} {vf vo : Value} {x : Exe} {R : Nat} (h : ExeAt w vf vo x) (h3 : x.order.length = 3) (hR : ∀ o z, w.cell? ⟨R, o, none⟩ = some z → z = .slice none 0 0 ∧ o < 2) (hk : ∀ b : Nat, b ≠ R → w'.heap[b]? = w.heap[b]?) : ExeAt w' vf vo x := by
  have hI : ∀ (u : Value) (l : List Int), IntAt w u l → IntAt w' u l := by
    intro u l hu
    obtain ⟨ao, b, off, cap, hv, ha, hn, hc⟩ := hu
    refine ⟨ao, b, off, cap, hv, ha, hn, fun k y hy => ?_⟩
    have hc1 := hc k y hy
    unfold IntC at hc1
    have hb : b ≠ R := fun e => by subst e; have := (hR _ _ hc1).1; cases this
    exact cell_heap (hk b hb) hc1
  refine ⟨hI _ _ h.f, ?_⟩
  obtain ⟨ao, b, off, cap, hv, ha, hn, hc⟩ := h.o
  refine ⟨ao, b, off, cap, hv, ha, hn, fun k y hy => ?_⟩
  have hb : b ≠ R := by
    obtain ⟨z, hz⟩ := get_of_lt (l := x.order) (k := 2) (by omega)
    obtain ⟨u, h1, _⟩ := hc 2 z hz
    intro e
    subst e
    have := (hR _ _ h1).2
    omega
  obtain ⟨u, h1, h2⟩ := hc k y hy
  exact ⟨u, cell_heap (hk b hb) h1, hI _ _ h2⟩

theorem nil_cells {w w3 : World} {x : Obj} {t : TypeId} (hb : Below (w.heap.size + 2) ((w.alloc x).alloc (.cells #[.slice none 0 0, .slice none 0 0] t)) w3) : ∀ o z, w3.cell? ⟨w.heap.size + 1, o, none⟩ = some z → z = .slice none 0 0 ∧ o < 2 := by
  intro o z hz
  rw [hb.cell (p := ⟨w.heap.size + 1, o, none⟩) (by simp)] at hz
  have e : w.heap.size + 1 = (w.alloc x).heap.size := by simp
  rw [e, cell_of_row _ _ o _ t (0, 0) (heap_alloc_new _ _)] at hz
  match o, hz with
  | 0, hz => simp at hz; exact ⟨hz.symm, by omega⟩
  | 1, hz => simp at hz; exact ⟨hz.symm, by omega⟩
  | o + 2, hz => simp at hz

set_option maxHeartbeats 2000000 in
theorem candP_any (T : List (List Ins)) (fa : Bool) (c : List Atm) (v vt vc : Value) (n : Int) (w : World) (h : TestAt w v T fa c vt vc) :
    Calls Try.prog 17 #[v, .int .i64 n] w fun e w' => ∃ vf vo, e = .returned (.tuple #[.agg #[vf, vo], .int .i64 (cErr T c n)]) ∧ ExeAt w' vf vo (cExe T c n) ∧ Below w.heap.size w w' := by
  have HT : Hid (TestAt w v T fa c vt vc) := h
  obtain ⟨hv, _, _⟩ := h
  subst hv
  have HZ : Hid (((chk T c).1 == 0) = true → sizeB T c = true ∧ sizeN (evsT T 0) ≤ 2000) := fun h => ⟨chk_zero h, chk_many_no h⟩
  have HE : Hid (cErr T c n = if (chk T c).1 == 0 then (if 0 ≤ n ∧ n < (sizeN (evsT T 0) : Int) then 0 else 6) else (chk T c).1) := rfl
  have HX : Hid (cExe T c n = if (chk T c).1 == 0 then (if 0 ≤ n ∧ n < (sizeN (evsT T 0) : Int) then exN (evsT T 0) n.toNat else ⟨[], []⟩) else ⟨[], []⟩) := rfl
  generalize hq : chk T c = q at HZ HE HX
  have HQ : Hid (chk T c = q) := hq
  clear hq
  generalize cErr T c n = er at HE
  generalize cExe T c n = ex at HX
  go_enter Try.func17, Try.ntmps17
  go_wp2_with fail
  refine (find_any T fa c _ vt vc _ (HT.out.keep (below_two _ _ _))).mono ?_
  rw [HQ.out]
  rintro e w3 ⟨rfl, hb3⟩
  unfold fault2
  simp only [World.size_alloc] at hb3
  obtain ⟨g0, g1, g2, d0, d1, f0, f1, s2, s3⟩ := own5 hb3
  have hbw3 : Below w.heap.size w w3 := (below_two _ _ _).trans (hb3.mono (by omega))
  have HNC : Hid (∀ o z, w3.cell? ⟨w.heap.size + 1, o, none⟩ = some z → z = .slice none 0 0 ∧ o < 2) := nil_cells hb3
  clear hb3 g1 g2
  cases hz : q.1 == 0
  · have hz2 : (q.1 != 0) = true := by simp [bne, hz]
    have HE2 : Hid (er = q.1) := HE.out.trans (by rw [hz]; rfl)
    have HX2 : Hid (ex = ⟨[], []⟩) := HX.out.trans (by rw [hz]; rfl)
    clear HE HX
    go_wp2_with fail
    go_region
    all_goals
      go_wp2_with fail
      refine bodyPost_ret (v := .tuple #[.agg #[.slice none 0 0, .slice none 0 0], .int .i64 q.1]) (by simp [results, Try.results17, go_sem, *]) rfl ⟨_, _, by rw [HE2.out], by rw [HX2.out]; exact exe_nil _, ?_⟩
      exact Below.drew ((((hbw3.setCell (by simp) _).setCell (by simp) _).alloc (by simp [World.setCell]; omega) _))
  · have hz2 : (q.1 != 0) = false := by simp [bne, hz]
    have hq0 : q.1 = 0 := by simpa using hz
    obtain ⟨hsb, hN⟩ := HZ.out hz
    obtain ⟨h2, hL, _⟩ := sizeB_parts hsb
    have HL : Hid (lensB T = true) := hL
    have hEl : (evsT T 0).length ≤ 96 := by have := evsT_len T 0 HL.out; omega
    have HE2 : Hid (er = if 0 ≤ n ∧ n < (sizeN (evsT T 0) : Int) then 0 else 6) := HE.out.trans (by rw [hz]; rfl)
    have HX2 : Hid (ex = if 0 ≤ n ∧ n < (sizeN (evsT T 0) : Int) then exN (evsT T 0) n.toNat else ⟨[], []⟩) := HX.out.trans (by rw [hz]; rfl)
    clear HE HX hL hq0 hsb
    go_wp2_with fail
    refine (list_any T vt _ (HT.out.ht.keep (hbw3.alloc hbw3.size _)) h2 HL.out).mono ?_
    generalize evsT T 0 = E at hEl hN HE2 HX2
    rintro e w5 ⟨u, rfl, hu, hb5⟩
    have k5 := below_more (below_alloc w3 _) hb5
    have hbw5 := below_more hbw3 k5
    have HNC5 : Hid (∀ o z, w5.cell? ⟨w.heap.size + 1, o, none⟩ = some z → z = .slice none 0 0 ∧ o < 2) := fun o z hz => HNC.out o z (by rw [← k5.cell (p := ⟨w.heap.size + 1, o, none⟩) s3]; exact hz)
    replace d0 := keep_cell k5 d0
    replace d1 := keep_cell k5 d1
    replace f0 := (k5.frozen (p := ⟨w.heap.size + 1, 0, none⟩) s3).trans f0
    replace f1 := (k5.frozen (p := ⟨w.heap.size + 1, 1, none⟩) s3).trans f1
    have s5 : w.heap.size + 1 < w5.heap.size := by have := k5.size; omega
    clear hb5 k5 HNC g0 s3
    by_cases hn : 0 ≤ n ∧ n < (sizeN E : Int)
    · obtain ⟨n', hn'⟩ := Int.eq_ofNat_of_zero_le hn.1
      subst hn'
      have HE3 : Hid (er = 0) := HE2.out.trans (if_pos hn)
      have HX3 : Hid (ex = exN E n') := HX2.out.trans (by rw [if_pos hn]; simp)
      have hlt : n' < sizeN E := by omega
      clear HE2 HX2 hn
      go_wp2_with fail
      refine (nth_yes E hEl u n' _ hu hlt hN).mono ?_
      rintro e w6 ⟨vf, vo, rfl, hx, hb6⟩
      have HNC6 : Hid (∀ o z, w6.cell? ⟨w.heap.size + 1, o, none⟩ = some z → z = .slice none 0 0 ∧ o < 2) := fun o z hz => HNC5.out o z (by rw [← hb6.cell (p := ⟨w.heap.size + 1, o, none⟩) s5]; exact hz)
      have hbw6 := below_more hbw5 hb6
      replace d0 := keep_cell hb6 d0
      replace d1 := keep_cell hb6 d1
      replace f0 := (hb6.frozen (p := ⟨w.heap.size + 1, 0, none⟩) s5).trans f0
      replace f1 := (hb6.frozen (p := ⟨w.heap.size + 1, 1, none⟩) s5).trans f1
      obtain ⟨aof, cf, hff⟩ := hx.f.form
      obtain ⟨aoo, bo, oo, co, hso⟩ := hx.o
      have hfo := hso.hv
      subst hff hfo
      have HXX : Hid (ExeAt w6 (.slice aof (exN E n').from'.length cf) (.slice aoo (exN E n').order.length co) (exN E n')) := hx
      generalize hl1 : (exN E n').from'.length = l1 at HXX
      generalize hl2 : (exN E n').order.length = l2 at HXX
      have HL2 : Hid (l2 = 3) := hl2.symm
      clear hx hso hb6 HNC5 hl1 hl2
      go_wp2_with fail
      refine bodyPost_ret (v := .tuple #[.agg #[.slice aof l1 cf, .slice aoo l2 co], .int .i64 0]) (by simp [results, Try.results17, go_sem, *]) rfl ⟨_, _, by rw [HE3.out], ?_, ?_⟩
      · rw [HX3.out]
        exact exe_store HXX.out rfl HNC6.out (fun b hb => by rw [Below.heap_setCell _ _ _ _ hb, Below.heap_setCell _ _ _ _ hb])
      · exact (hbw6.setCell (by simp) _).setCell (by simp) _
    · have HE3 : Hid (er = 6) := HE2.out.trans (if_neg hn)
      have HX3 : Hid (ex = ⟨[], []⟩) := HX2.out.trans (if_neg hn)
      clear HE2 HX2
      go_wp2_with fail
      refine (nth_no E hEl u n _ hu (by omega) hN).mono ?_
      rintro e w6 ⟨rfl, hb6⟩
      unfold noExe
      have hbw6 := below_more hbw5 hb6
      replace d0 := keep_cell hb6 d0
      replace d1 := keep_cell hb6 d1
      replace f0 := (hb6.frozen (p := ⟨w.heap.size + 1, 0, none⟩) s5).trans f0
      replace f1 := (hb6.frozen (p := ⟨w.heap.size + 1, 1, none⟩) s5).trans f1
      clear hb6
      go_wp2_with fail
      refine bodyPost_ret (v := .tuple #[.agg #[.slice none 0 0, .slice none 0 0], .int .i64 6]) (by simp [results, Try.results17, go_sem, *]) rfl ⟨_, _, by rw [HE3.out], by rw [HX3.out]; exact exe_nil _, ?_⟩
      exact (hbw6.setCell (by simp) _).setCell (by simp) _

end Go.Proofs.Ytomijmikkbhgmaa

namespace Go.Proofs.Ytomijmikkbhgmaa
open Go.RowKit

/-- The reads: their numbers, and they themselves. -/
def rdsX : List Evt → Nat → List (Nat × Evt)
  | [], _ => []
  | x :: E, i => if x.kind == 0 then (i, x) :: rdsX E (i + 1) else rdsX E (i + 1)
def rdsI (E : List Evt) (i : Nat) : List Int := (rdsX E i).map fun p => (p.1 : Int)

theorem rdsX_hit {x : Evt} (h : (x.kind == 0) = true) (E : List Evt) (i : Nat) : rdsX (x :: E) i = (i, x) :: rdsX E (i + 1) := by rw [rdsX, if_pos h]
theorem rdsX_mis {x : Evt} (h : (x.kind == 0) = false) (E : List Evt) (i : Nat) : rdsX (x :: E) i = rdsX E (i + 1) := by rw [rdsX, if_neg (by simp [h])]

theorem rdo_eq (E R : List Evt) (i : Nat) : rdo E R = (rdsX R i).map fun p => -1 :: wrs E 0 p.2.loc := by
  induction R generalizing i with
  | nil => rfl
  | cons x R ih =>
    cases h : x.kind == 0
    · rw [rdsX_mis h, rdo, if_neg (by simp [h])]; exact ih (i + 1)
    · rw [rdsX_hit h, rdo, if_pos h, List.map_cons, ih (i + 1)]

theorem rdsX_get {R : List Evt} {i : Nat} {p : Nat × Evt} (h : p ∈ rdsX R i) : i ≤ p.1 ∧ R[p.1 - i]? = some p.2 := by
  induction R generalizing i with
  | nil => simp [rdsX] at h
  | cons x R ih =>
    have key : p ∈ rdsX R (i + 1) → i ≤ p.1 ∧ (x :: R)[p.1 - i]? = some p.2 := by
      intro hp
      obtain ⟨h1, h2⟩ := ih hp
      refine ⟨by omega, ?_⟩
      rw [show p.1 - i = (p.1 - (i + 1)) + 1 by omega]
      simpa using h2
    cases hk : x.kind == 0
    · rw [rdsX_mis hk] at h; exact key h
    · rw [rdsX_hit hk] at h
      rcases List.mem_cons.1 h with rfl | h
      · simp
      · exact key h

theorem rdsX_len (R : List Evt) (i : Nat) : (rdsX R i).length ≤ R.length := by
  induction R generalizing i with
  | nil => simp [rdsX]
  | cons x R ih => have := ih (i + 1); unfold rdsX; split <;> simp <;> omega

set_option maxHeartbeats 1000000 in
theorem reads_any (E : List Evt) (hE : E.length ≤ 96) (v : Value) (w : World) (h : Ev9At w v E) :
    Calls Try.prog 86 #[v] w fun e w' => ∃ u, e = .returned u ∧ IntNew w.heap.size w' u (rdsI E 0) ∧ Below w.heap.size w w' := by
  obtain ⟨ao, b, off, cap, hv, ha, _, hc⟩ := h
  subst hv
  obtain ⟨i0, hi, hz0, hz1, hz2⟩ := info_parts Try.info3
  have HI : Hid (Try.prog.info? 3 = some i0 ∧ i0.zero = some (.int .i64 0) ∧ i0.size = 1 ∧ i0.bytes = 8) := ⟨hi, hz0, hz1, hz2⟩
  clear hi hz0 hz1 hz2
  go_enter Try.func86, Try.ntmps86
  go_wp2_with fail
  go_loopw [3, 4] (fun u i wr => ∃ (k : Nat) (xs : List Int), k ≤ E.length ∧ i = .int .i64 k ∧ xs.length ≤ k ∧ Hid (rdsI E 0 = xs ++ rdsI (E.drop k) k) ∧ wr.ownsRow w.heap.size 3 1 u xs.length (xs.map (Value.int .i64)) ∧ Below w.heap.size w wr) (fun _ i _ => E.length - (intOf i).toNat)
  case atStart => exact ⟨0, [], Nat.zero_le _, rfl, Nat.le_refl _, rfl, World.ownsRow_nil _ _ _ _, Below.refl _ _⟩
  case round =>
    obtain ⟨k, xs, hk, rfl, hxk, hn, hown, hb⟩ := hrel
    have hsz := hb.size
    by_cases hlt : k < E.length
    · obtain ⟨x, hx⟩ := get_of_lt hlt
      have hC := hc k x hx
      have hbl := hC.lt
      obtain rfl := ha (ne_nil hlt)
      obtain ⟨_, _, c2, _, _, _, _, _, _⟩ := ev9C_keeps _ _ _ _ _ hb hC
      have HN : Hid (rdsI E 0 = xs ++ rdsI (x :: E.drop (k + 1)) k) := by rw [← drop_cons hx]; exact hn
      have HC : Hid (∀ k x, E[k]? = some x → Ev9C w b (off + k * 9) x) := hc
      clear hn hx hc hC ha
      cases h1 : x.kind == 0
      · have HM : Hid (rdsI E 0 = xs ++ rdsI (E.drop (k + 1)) (k + 1)) := HN.out.trans (by unfold rdsI; rw [rdsX_mis h1])
        go_wp2_with fail
        go_roundw
        case measure => simp [intOf]; omega
        case rel => exact ⟨k + 1, xs, by omega, by go_num, by omega, HM.out, hown, hb⟩
      · have HM : Hid (rdsI E 0 = (xs ++ [(k : Int)]) ++ rdsI (E.drop (k + 1)) (k + 1)) := HN.out.trans (by unfold rdsI; rw [rdsX_hit h1]; simp)
        go_wp2_with (at_builtin; refine append_new _ rfl (.tmp 17) (.tmp 19) 37 rfl w.heap.size 3 i0 (.int .i64 0) 1 8 Try.underlying37 HI.out.1 HI.out.2.1 HI.out.2.2.1 HI.out.2.2.2 rfl (by decide) u3 xs.length (xs.map (Value.int .i64)) rfl (hown.alloc _) (some ⟨wr.heap.size, 0, none⟩) 1 1 [.int .i64 k] rfl (fun h => by cases h) rfl (fun ad had => by cases had; exact new_one rfl) (by simp [Value.oneCell']) (by unfold maxLen; omega) (by omega) (by simp; omega) ?_)
        intro u' w1 hown' hgrow _
        have hb' : Below w.heap.size w w1 := Below.grown (hb.alloc hsz _) hgrow (by simp; omega) (fun kk e => (hown.lt kk e).1)
        have HO : Hid (w1.ownsRow w.heap.size 3 1 u' (xs ++ [(k : Int)]).length ((xs ++ [(k : Int)]).map (Value.int .i64))) := own_snoc hown'
        clear hgrow hown hown'
        go_wp2_with fail
        go_roundw
        case measure => simp [intOf]; omega
        case rel => exact ⟨k + 1, xs ++ [(k : Int)], by omega, by go_num, by simp; omega, HM.out, HO.out, hb'⟩
    · have HM : Hid (rdsI E 0 = xs) := hn.out.trans (by rw [drop_nil hlt]; simp [rdsI, rdsX])
      clear hn hc ha
      go_wp2_with fail
      go_ret
      exact ⟨_, rfl, by rw [HM.out]; exact owns_int hown, hb⟩

theorem int_cells {w : World} {v : Value} {l : List Int} {ao : Option Addr} {b off cap : Nat} (h : SlAt w 1 IntC v l ao b off cap) : ∀ ad, ao = some ad → ∀ j u, (l.map (Value.int .i64))[j]? = some u → w.cell? (ad.add j) = some u := by
  intro ad had j u hj
  rw [List.getElem?_map] at hj
  obtain ⟨x, hx, rfl⟩ := Option.map_eq_some_iff.1 hj
  have hk : j < l.length := (List.getElem?_eq_some_iff.1 hx).1
  rw [h.ha (ne_nil hk)] at had
  cases had
  have hC := h.hc j x hx
  unfold IntC at hC
  rw [Nat.mul_one] at hC
  rw [Addr.add_lit]; exact hC

set_option maxHeartbeats 1000000 in
theorem longer_any (l : List Int) (hl : l.length ≤ 100000) (x : Int) (v : Value) (w : World) (h : IntAt w v l) :
    Calls Try.prog 87 #[v, .int .i64 x] w fun e w' => ∃ u, e = .returned u ∧ IntOwn w.heap.size w' u (l ++ [x]) ∧ Below w.heap.size w w' := by
  obtain ⟨ao, b, off, cap, hs⟩ := h
  have hv := hs.hv
  subst hv
  have HS : Hid (SlAt w 1 IntC (.slice ao l.length cap) l ao b off cap) := hs
  clear hs
  obtain ⟨i0, hi, hz0, hz1, hz2⟩ := info_parts Try.info3
  have HI : Hid (Try.prog.info? 3 = some i0 ∧ i0.zero = some (.int .i64 0) ∧ i0.size = 1 ∧ i0.bytes = 8) := ⟨hi, hz0, hz1, hz2⟩
  clear hi hz0 hz1 hz2
  go_enter Try.func87, Try.ntmps87
  go_wp2_with (at_builtin; refine append_new _ rfl (.tmp 6) (.tmp 7) 37 rfl w.heap.size 3 i0 (.int .i64 0) 1 8 Try.underlying37 HI.out.1 HI.out.2.1 HI.out.2.2.1 HI.out.2.2.2 rfl (by decide) (.slice none 0 0) 0 [] rfl (World.ownsRow_nil _ _ _ _) ao l.length cap (l.map (Value.int .i64)) rfl (fun h => ⟨by rw [(HS.out.hn h).1]; rfl, (HS.out.hn h).2⟩) (by simp) (int_cells HS.out) (ints_oneCell .i64 l) (by unfold maxLen; omega) (by omega) (Nat.le_refl _) ?_)
  intro v1 w1 hown1 hgrow1 _
  have hb1 : Below w.heap.size w w1 := Below.grown (Below.refl _ _) hgrow1 (Nat.le_refl _) (fun kk e => by simp [Value.ownBlock] at e)
  have hw1 : w1.ownsRow w.heap.size 3 1 v1 l.length (l.map (Value.int .i64)) := by simpa using hown1
  have hs1 := hb1.size
  clear hown1 hgrow1
  go_wp2_with (at_builtin; refine append_new _ rfl (.tmp 9) (.tmp 11) 37 rfl w.heap.size 3 i0 (.int .i64 0) 1 8 Try.underlying37 HI.out.1 HI.out.2.1 HI.out.2.2.1 HI.out.2.2.2 rfl (by decide) v1 l.length (l.map (Value.int .i64)) rfl (hw1.alloc _) (some ⟨w1.heap.size, 0, none⟩) 1 1 [.int .i64 x] rfl (fun h => by cases h) rfl (fun ad had => by cases had; exact new_one rfl) (by simp [Value.oneCell']) (by unfold maxLen; omega) (by omega) (by simp; omega) ?_)
  intro v2 w2 hown2 hgrow2 _
  have hb2 : Below w.heap.size w w2 := Below.grown (hb1.alloc hs1 _) hgrow2 (by simp; omega) (fun kk e => (hw1.lt kk e).1)
  have hw2 : w2.ownsRow w.heap.size 3 1 v2 (l ++ [x]).length ((l ++ [x]).map (Value.int .i64)) := own_snoc hown2
  clear hown2 hgrow2 hw1
  go_wp2_with fail
  go_ret
  exact ⟨_, rfl, owns_own hw2, hb2⟩

end Go.Proofs.Ytomijmikkbhgmaa
