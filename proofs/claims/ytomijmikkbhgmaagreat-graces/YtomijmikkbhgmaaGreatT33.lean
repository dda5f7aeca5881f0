import Derived.Test.YtomijmikkbhgmaaGreatT32
import Derived.Test.YtomijmikkbhgmaaGreatLu
import Derived.Deep.QuietTactic
import Derived.BigQuiet
import Derived.Test.YtomijmikkbhgmaaGreatT30
import Derived.Test.YtomijmikkbhgmaaGreatT31
namespace Go.Proofs.YtomijmikkbhgmaaGreat
open Go.RowKit

/-- The events, where Check says OK. -/
def evsR (T : List (List Ins)) (c : List Atm) : List Evt := if (chk T c).1 == 0 then evsT T 0 else []
/-- How many candidates, where Check says OK. -/
def sizR (T : List (List Ins)) (c : List Atm) : Nat := if (chk T c).1 == 0 then cap2 (sizeN (evsT T 0)) else 0

theorem chk_zero {T : List (List Ins)} {c : List Atm} (h : ((chk T c).1 == 0) = true) : sizeB T c = true := by
  cases hs : sizeB T c
  · rw [chk_size hs] at h; simp at h
  · rfl

theorem ev4_nil (w : World) : Ev4At w (.slice none 0 0) [] := ⟨none, 0, 0, 0, rfl, fun h => absurd rfl h, fun _ => ⟨rfl, rfl⟩, fun k x h => by simp at h⟩

set_option maxHeartbeats 1000000 in
theorem eventsP_any (T : List (List Ins)) (fa : Bool) (c : List Atm) (v vt vc : Value) (w : World) (h : TestAt w v T fa c vt vc) :
    Calls Tryz.prog 61 #[v] w fun e w' => ∃ u, e = .returned (.tuple #[u, .int .i64 (chk T c).1]) ∧ Ev4At w' u (evsR T c) ∧ Below w.heap.size w w' := by
  have HT : Hid (TestAt w v T fa c vt vc) := h
  obtain ⟨hv, _, _⟩ := h
  subst hv
  have HZ : Hid (((chk T c).1 == 0) = true → sizeB T c = true) := chk_zero
  have HE : Hid (evsR T c = if (chk T c).1 == 0 then evsT T 0 else []) := rfl
  generalize hq : chk T c = q at HZ HE
  have HQ : Hid (chk T c = q) := hq
  clear hq
  generalize evsR T c = E at HE
  go_enter Tryz.func61, Tryz.ntmps61
  go_wp2_with fail
  refine (find_any T fa c _ vt vc _ (HT.out.keep (below_alloc _ _))).mono ?_
  rw [HQ.out]
  rintro e w3 ⟨rfl, hb3⟩
  unfold fault2
  have hs3 : w.heap.size < w3.heap.size := by have := hb3.size; simp at this; omega
  have e0 := keep_cell hb3 (b := w.heap.size) (off := 0) (u := vt) (by simp)
  have hbw3 := below_more (below_alloc _ _) hb3
  clear hb3
  cases hz : q.1 == 0
  · have hz2 : (q.1 != 0) = true := by simp [bne, hz]
    have HE2 : Hid (E = []) := HE.out.trans (by rw [hz]; rfl)
    clear HE
    go_wp2_with fail
    go_quiet (fail)
    go_wp2_with fail
    go_ret2
    exact ⟨_, rfl, by rw [HE2.out]; exact ev4_nil _, below_drewN (hbw3.alloc hbw3.size _) _⟩
  · have hz2 : (q.1 != 0) = false := by simp [bne, hz]
    have HE2 : Hid (E = evsT T 0) := HE.out.trans (by rw [hz]; rfl)
    have hq0 : q.1 = 0 := by simpa using hz
    obtain ⟨h2, hL, _⟩ := sizeB_parts (HZ.out hz)
    have HL : Hid (lensB T = true) := hL
    have HQ0 : Hid (q.1 = 0) := hq0
    clear HE hL hq0
    go_wp2_with fail
    refine (list_any T vt _ (HT.out.ht.keep (hbw3.alloc hbw3.size _)) h2 HL.out).mono ?_
    rintro e w5 ⟨u, rfl, hu, hb5⟩
    go_wp2_with fail
    go_ret2
    exact ⟨u, by rw [HQ0.out]; rfl, by rw [HE2.out]; exact hu, below_more (hbw3.alloc hbw3.size _) hb5⟩

set_option maxHeartbeats 1000000 in
theorem sizeP_any (T : List (List Ins)) (fa : Bool) (c : List Atm) (v vt vc : Value) (w : World) (h : TestAt w v T fa c vt vc) :
    Calls Tryz.prog 65 #[v] w fun e w' => e = .returned (.tuple #[.int .i64 (sizR T c : Nat), .int .i64 (chk T c).1]) ∧ Below w.heap.size w w' := by
  have HT : Hid (TestAt w v T fa c vt vc) := h
  obtain ⟨hv, _, _⟩ := h
  subst hv
  have HZ : Hid (((chk T c).1 == 0) = true → sizeB T c = true) := chk_zero
  have HE : Hid (sizR T c = if (chk T c).1 == 0 then cap2 (sizeN (evsT T 0)) else 0) := rfl
  generalize hq : chk T c = q at HZ HE
  have HQ : Hid (chk T c = q) := hq
  clear hq
  generalize sizR T c = E at HE
  go_enter Tryz.func65, Tryz.ntmps65
  go_wp2_with fail
  refine (find_any T fa c _ vt vc _ (HT.out.keep (below_alloc _ _))).mono ?_
  rw [HQ.out]
  rintro e w3 ⟨rfl, hb3⟩
  unfold fault2
  have hs3 : w.heap.size < w3.heap.size := by have := hb3.size; simp at this; omega
  have e0 := keep_cell hb3 (b := w.heap.size) (off := 0) (u := vt) (by simp)
  have hbw3 := below_more (below_alloc _ _) hb3
  clear hb3
  cases hz : q.1 == 0
  · have hz2 : (q.1 != 0) = true := by simp [bne, hz]
    have HE2 : Hid (E = 0) := HE.out.trans (by rw [hz]; rfl)
    clear HE
    go_wp2_with fail
    go_quiet (fail)
    go_wp2_with fail
    go_ret2
    exact ⟨by rw [HE2.out]; rfl, below_drewN (hbw3.alloc hbw3.size _) _⟩
  · have hz2 : (q.1 != 0) = false := by simp [bne, hz]
    have HE2 : Hid (E = cap2 (sizeN (evsT T 0))) := HE.out.trans (by rw [hz]; rfl)
    have hq0 : q.1 = 0 := by simpa using hz
    obtain ⟨h2, hL, _⟩ := sizeB_parts (HZ.out hz)
    have HL : Hid (lensB T = true) := hL
    have HQ0 : Hid (q.1 = 0) := hq0
    have hEl : (evsT T 0).length ≤ 96 := by have := evsT_len T 0 HL.out; omega
    clear HE hL hq0
    go_wp2_with fail
    refine (list_any T vt _ (HT.out.ht.keep (hbw3.alloc hbw3.size _)) h2 HL.out).mono ?_
    rintro e w5 ⟨u, rfl, hu, hb5⟩
    have hbw5 := below_more (hbw3.alloc hbw3.size _) hb5
    clear hb5
    go_wp2_with fail
    refine (countP_any _ hEl _ _ hu).mono ?_
    rintro e w6 ⟨rfl, hb6⟩
    go_wp2_with fail
    go_ret2
    exact ⟨by rw [HQ0.out, HE2.out]; rfl, below_more hbw5 hb6⟩

set_option maxHeartbeats 1000000 in
theorem sizeR_any (T : List (List Ins)) (fa : Bool) (c : List Atm) (v vt vc : Value) (w : World) (h : TestAt w v T fa c vt vc) :
    Calls Tryz.prog 66 #[v] w fun e w' => e = .returned (.tuple #[.int .i64 (sizR T c : Nat), .int .i64 (chk T c).1]) ∧ Below w.heap.size w w' := by
  have HT : Hid (TestAt w v T fa c vt vc) := h
  obtain ⟨hv, _, _⟩ := h
  subst hv
  have HZ : Hid (((chk T c).1 == 0) = true → sizeB T c = true) := chk_zero
  have HE : Hid (sizR T c = if (chk T c).1 == 0 then cap2 (sizeN (evsT T 0)) else 0) := rfl
  generalize hq : chk T c = q at HZ HE
  have HQ : Hid (chk T c = q) := hq
  clear hq
  generalize sizR T c = E at HE
  go_enter Tryz.func66, Tryz.ntmps66
  go_wp2_with fail
  refine (checkR_any T fa c _ vt vc _ (HT.out.keep (below_alloc _ _))).mono ?_
  rw [HQ.out]
  rintro e w3 ⟨rfl, hb3⟩
  have e0 := keep_cell hb3 (b := w.heap.size) (off := 0) (u := vt) (by simp)
  have e1 := keep_cell hb3 (b := w.heap.size) (off := 1) (u := .bool fa) (by simp)
  have e2 := keep_cell hb3 (b := w.heap.size) (off := 2) (u := vc) (by simp)
  have hbw3 := below_more (below_alloc _ _) hb3
  clear hb3
  cases hz : q.1 == 0
  · have hz2 : (q.1 != 0) = true := by simp [bne, hz]
    have HE2 : Hid (E = 0) := HE.out.trans (by rw [hz]; rfl)
    clear HE
    go_wp2_with fail
    go_ret2
    exact ⟨by rw [HE2.out]; rfl, hbw3⟩
  · have hz2 : (q.1 != 0) = false := by simp [bne, hz]
    have HE2 : Hid (E = cap2 (sizeN (evsT T 0))) := HE.out.trans (by rw [hz]; rfl)
    have hq0 : q.1 = 0 := by simpa using hz
    obtain ⟨h2, hL, _⟩ := sizeB_parts (HZ.out hz)
    have HL : Hid (lensB T = true) := hL
    have HQ0 : Hid (q.1 = 0) := hq0
    have hEl : (evsT T 0).length ≤ 96 := by have := evsT_len T 0 HL.out; omega
    clear HE hL hq0
    go_wp2_with fail
    refine (events_any T fa c _ vt vc _ (HT.out.keep hbw3) h2 HL.out).mono ?_
    rintro e w5 ⟨u, rfl, hu, hb5⟩
    have hbw5 := below_more hbw3 hb5
    clear hb5
    go_wp2_with fail
    refine (size_any _ hEl _ _ hu).mono ?_
    rintro e w6 ⟨rfl, hb6⟩
    go_wp2_with fail
    go_ret2
    exact ⟨by rw [HQ0.out, HE2.out]; rfl, below_more hbw5 hb6⟩

end Go.Proofs.YtomijmikkbhgmaaGreat

namespace Go.Proofs.YtomijmikkbhgmaaGreat
open Go.RowKit

theorem lens_all {T : List (List Ins)} (h : lensB T = true) : ∀ l ∈ T, l.length ≤ 12 := by
  induction T with
  | nil => intro l hl; cases hl
  | cons a T ih =>
    simp only [lensB, Bool.and_eq_true, decide_eq_true_eq] at h
    intro l hl
    rcases List.mem_cons.1 hl with rfl | hl
    · exact h.1
    · exact ih h.2 l hl

/-- What is so where Check says OK. -/
structure Fits (T : List (List Ins)) : Prop where
  short : Short T
  lens : lensB T = true
  el : (evsT T 0).length ≤ 96
  locs : ∀ y ∈ evsT T 0, locB y.loc = true

theorem fits_of {T : List (List Ins)} {c : List Atm} (h : ((chk T c).1 == 0) = true) : Fits T := by
  obtain ⟨h2, hL, _⟩ := sizeB_parts (chk_zero h)
  have hel := evsT_len T 0 hL
  exact ⟨⟨h2, lens_all hL⟩, hL, by omega, evsT_locs (chk_locs h)⟩

/-- What Judge answers. -/
def JOut (T : List (List Ins)) (c : List Atm) (x : Exe) (r er : Int) : Prop :=
  ((chk T c).1 ≠ 0 ∧ r = 0 ∧ er = (chk T c).1) ∨ ((chk T c).1 = 0 ∧ ((exeB (evsT T 0) x = false ∧ r = 0 ∧ er = 7) ∨
    (exeB (evsT T 0) x = true ∧ er = 0 ∧ JudIs (Cyc (evsT T 0).length (cohA (evsT T 0) x)) (tornB (evsT T 0) x) (Cyc (evsT T 0).length (kepA T (evsT T 0) x)) (¬ Parts (evsT T 0).length (mtL (thoL 2 (evsT T 0) 0) (thoL 3 (evsT T 0) 0) (thoL 4 (evsT T 0) 0)) (kepA T (evsT T 0) x)) r)))

theorem JOut.one {T : List (List Ins)} {c : List Atm} {x : Exe} {r er r' er' : Int} (h : JOut T c x r er) (k : JOut T c x r' er') : r = r' ∧ er = er' := by
  rcases h with ⟨h1, h2, h3⟩ | ⟨h1, ⟨h2, h3, h4⟩ | ⟨h2, h3, h4⟩⟩ <;>
  rcases k with ⟨k1, k2, k3⟩ | ⟨k1, ⟨k2, k3, k4⟩ | ⟨k2, k3, k4⟩⟩ <;>
  first
    | exact absurd k1 h1
    | exact absurd h1 k1
    | exact ⟨h2.trans k2.symm, h3.trans k3.symm⟩
    | exact ⟨h3.trans k3.symm, h4.trans k4.symm⟩
    | (rw [h2] at k2; cases k2; done)
    | exact ⟨h4.one k4, h3.trans k3.symm⟩

set_option maxRecDepth 20000 in
set_option maxHeartbeats 1000000 in
theorem judgeP_any (T : List (List Ins)) (fa : Bool) (c : List Atm) (vt vc : Value) (x : Exe) (vf vo : Value) (w : World) (h : TestAt w (.agg #[vt, .bool fa, vc]) T fa c vt vc) (hx : ExeAt w vf vo x) :
    Calls Tryz.prog 30 #[.agg #[vt, .bool fa, vc], .agg #[vf, vo]] w fun e w' => ∃ r er : Int, e = .returned (.tuple #[.int .i64 r, .int .i64 er]) ∧ JOut T c x r er ∧ Below w.heap.size w w' := by
  have HT : Hid (TestAt w (.agg #[vt, .bool fa, vc]) T fa c vt vc ∧ ExeAt w vf vo x) := ⟨h, hx⟩
  have HFT : Hid (((chk T c).1 == 0) = true → Fits T) := fits_of
  have HMT : Hid (((chk T c).1 == 0) = true → Mts (evsT T 0)) := mts_of
  have HJ : Hid (∀ r er, JOut T c x r er ↔ ((chk T c).1 ≠ 0 ∧ r = 0 ∧ er = (chk T c).1) ∨ ((chk T c).1 = 0 ∧ ((exeB (evsT T 0) x = false ∧ r = 0 ∧ er = 7) ∨ (exeB (evsT T 0) x = true ∧ er = 0 ∧ JudIs (Cyc (evsT T 0).length (cohA (evsT T 0) x)) (tornB (evsT T 0) x) (Cyc (evsT T 0).length (kepA T (evsT T 0) x)) (¬ Parts (evsT T 0).length (mtL (thoL 2 (evsT T 0) 0) (thoL 3 (evsT T 0) 0) (thoL 4 (evsT T 0) 0)) (kepA T (evsT T 0) x)) r)))) := fun _ _ => Iff.rfl
  generalize JOut T c x = J at HJ ⊢
  obtain ⟨aof, capf, hvf⟩ := hx.f.form
  obtain ⟨aoo, bo, offo, capo, hvo, _⟩ := hx.o
  subst hvf hvo
  generalize hq : chk T c = q at HFT HMT HJ
  have HQ : Hid (chk T c = q) := hq
  clear hq h hx
  go_enter Tryz.func30, Tryz.ntmps30
  go_wp2_with fail
  have hba := below_two w (.cells #[vt, .bool fa, vc] 25) (.cells #[.slice aof x.from'.length capf, .slice aoo x.order.length capo] 29)
  refine (find_any T fa c _ vt vc _ (HT.out.1.keep hba)).mono ?_
  rw [HQ.out]
  rintro e w3 ⟨rfl, hb3⟩
  unfold fault2
  have hbw3 := below_more hba hb3
  have t0 := keep_cell hb3 (b := w.heap.size) (off := 0) (u := vt) (by simp)
  have x0 := keep_cell hb3 (b := w.heap.size + 1) (off := 0) (u := .slice aof x.from'.length capf) (by simp)
  have x1 := keep_cell hb3 (b := w.heap.size + 1) (off := 1) (u := .slice aoo x.order.length capo) (by simp)
  have s0 := World.block_lt_of_cell? _ _ t0
  have s1 := World.block_lt_of_cell? _ _ x0
  simp only at s0 s1
  clear hb3
  cases hz : q.1 == 0
  · have hz2 : (q.1 != 0) = true := by simp [bne, hz]
    have HM : Hid (J 0 q.1) := (HJ.out 0 q.1).2 (.inl ⟨by simpa using hz, rfl, rfl⟩)
    clear HJ
    go_wp2_with fail
    go_quiet (fail)
    go_wp2_with fail
    go_ret2
    exact ⟨_, _, rfl, HM.out, below_drewN (hbw3.alloc hbw3.size _) _⟩
  · have hz2 : (q.1 != 0) = false := by simp [bne, hz]
    have hq0 : q.1 = 0 := by simpa using hz
    have HF : Hid (Fits T) := HFT.out hz
    have HJ2 : Hid (∀ r er, ((exeB (evsT T 0) x = false ∧ r = 0 ∧ er = 7) ∨ (exeB (evsT T 0) x = true ∧ er = 0 ∧ JudIs (Cyc (evsT T 0).length (cohA (evsT T 0) x)) (tornB (evsT T 0) x) (Cyc (evsT T 0).length (kepA T (evsT T 0) x)) (¬ Parts (evsT T 0).length (mtL (thoL 2 (evsT T 0) 0) (thoL 3 (evsT T 0) 0) (thoL 4 (evsT T 0) 0)) (kepA T (evsT T 0) x)) r)) → J r er) := fun r er h => (HJ.out r er).2 (.inr ⟨hq0, h⟩)
    clear HJ hq0
    have hbw4 := hbw3.alloc hbw3.size (.cells #[.int .i64 q.1, .int .i64 q.2] 84)
    have hb34 := below_alloc w3 (.cells #[.int .i64 q.1, .int .i64 q.2] 84)
    go_wp2_with fail
    refine (list_cap T vt _ (HT.out.1.ht.keep hbw4) HF.out.short.t4 HF.out.lens).mono ?_
    generalize hEE : evsT T 0 = E at HJ2
    have HEE : Hid (E = evsT T 0 ∧ E.length ≤ 96 ∧ (∀ y ∈ E, locB y.loc = true) ∧ EvsIn T E ∧ Mts E) := ⟨hEE.symm, by rw [← hEE]; exact HF.out.el, by rw [← hEE]; exact HF.out.locs, by rw [← hEE]; exact evsIn_T T, by rw [← hEE]; exact HMT.out hz⟩
    rintro e w5 ⟨u5, rfl, hu5, hb5⟩
    have HU5 : Hid (Ev4Cap w5 u5 E) := hu5
    have hbw5 := below_more hbw4 hb5
    have hb35 := below_more hb34 hb5
    replace t0 := keep_cell hb35 t0
    replace x0 := keep_cell hb35 x0
    replace x1 := keep_cell hb35 x1
    clear hu5 hb5 hb34 hb35 hbw4 hEE hbw3
    go_wp2_with fail
    refine (has_any E HEE.out.2.1 x _ _ _ w5 HU5.out.at' (HT.out.2.keep hbw5)).mono ?_
    generalize hXB : exeB E x = XB at HJ2
    have HXB : Hid (exeB E x = XB) := hXB
    clear hXB
    rintro e w6 ⟨rfl, hb6⟩
    have hbw6 := below_more hbw5 hb6
    cases XB
    · have HM : Hid (J 0 7) := HJ2.out 0 7 (.inl ⟨rfl, rfl, rfl⟩)
      clear HJ2
      go_wp2_with fail
      go_ret2
      exact ⟨_, _, rfl, HM.out, hbw6⟩
    · replace t0 := keep_cell hb6 t0
      replace x0 := keep_cell hb6 x0
      replace x1 := keep_cell hb6 x1
      have HOF : Hid (Calls Tryz.prog 54 #[vt, u5, .agg #[.slice aof x.from'.length capf, .slice aoo x.order.length capo]] w6 fun e w' => ∃ r : Int, e = .returned (.int .i64 r) ∧ J r 0 ∧ Below w6.heap.size w6 w') := by
        obtain ⟨hE, hl, hloc, hin, hM⟩ := HEE.out
        have hx := isEx_of HXB.out
        have hrk := hx.ranks hl hloc
        obtain ⟨j1, j2, j3, j4⟩ := judge_same' hE hl hloc hx
        have hfl : x.from'.length ≤ 96 := by have := hx.f; have := rdsX_len E 0; omega
        refine (of_any T HF.out.short vt E hl hin hM x hfl (by have := hx.o3; omega) (hx.xok hl hloc).l96 hrk.bound u5 _ _ w6 (HT.out.1.ht.keep hbw6) (HU5.out.keep hb6) (HT.out.2.keep hbw6)).mono ?_
        rintro e w' ⟨r, he, hj, hb⟩
        exact ⟨r, he, HJ2.out r 0 (.inr ⟨rfl, rfl, hj.congr' j1 j2 j3 j4⟩), hb⟩
      clear HJ2
      go_wp2_with fail
      refine HOF.out.mono ?_
      rintro e w7 ⟨r, rfl, hj, hb7⟩
      have HM : Hid (J r 0) := hj
      clear hj
      go_wp2_with fail
      go_ret2
      exact ⟨_, _, rfl, HM.out, below_more hbw6 hb7⟩

set_option maxRecDepth 20000 in
set_option maxHeartbeats 1000000 in
theorem judgeR_any (T : List (List Ins)) (fa : Bool) (c : List Atm) (vt vc : Value) (x : Exe) (vf vo : Value) (w : World) (h : TestAt w (.agg #[vt, .bool fa, vc]) T fa c vt vc) (hx : ExeC w vf vo x) :
    Calls Tryz.prog 31 #[.agg #[vt, .bool fa, vc], .agg #[vf, vo]] w fun e w' => ∃ r er : Int, e = .returned (.tuple #[.int .i64 r, .int .i64 er]) ∧ JOut T c x r er ∧ Below w.heap.size w w' := by
  have HT : Hid (TestAt w (.agg #[vt, .bool fa, vc]) T fa c vt vc ∧ ExeC w vf vo x) := ⟨h, hx⟩
  have HFT : Hid (((chk T c).1 == 0) = true → Fits T) := fits_of
  have HMT : Hid (((chk T c).1 == 0) = true → Mts (evsT T 0)) := mts_of
  have HJ : Hid (∀ r er, JOut T c x r er ↔ ((chk T c).1 ≠ 0 ∧ r = 0 ∧ er = (chk T c).1) ∨ ((chk T c).1 = 0 ∧ ((exeB (evsT T 0) x = false ∧ r = 0 ∧ er = 7) ∨ (exeB (evsT T 0) x = true ∧ er = 0 ∧ JudIs (Cyc (evsT T 0).length (cohA (evsT T 0) x)) (tornB (evsT T 0) x) (Cyc (evsT T 0).length (kepA T (evsT T 0) x)) (¬ Parts (evsT T 0).length (mtL (thoL 2 (evsT T 0) 0) (thoL 3 (evsT T 0) 0) (thoL 4 (evsT T 0) 0)) (kepA T (evsT T 0) x)) r)))) := fun _ _ => Iff.rfl
  generalize JOut T c x = J at HJ ⊢
  obtain ⟨aof, capf, hvf⟩ := hx.f.form
  obtain ⟨aoo, bo, offo, capo, hso⟩ := hx.o
  have hvo := hso.hv
  subst hvf hvo
  generalize hq : chk T c = q at HFT HMT HJ
  have HQ : Hid (chk T c = q) := hq
  clear hq h hx hso
  go_enter Tryz.func31, Tryz.ntmps31
  go_wp2_with fail
  have hba := below_two w (.cells #[vt, .bool fa, vc] 25) (.cells #[.slice aof x.from'.length capf, .slice aoo x.order.length capo] 29)
  refine (checkR_any T fa c _ vt vc _ (HT.out.1.keep hba)).mono ?_
  rw [HQ.out]
  rintro e w3 ⟨rfl, hb3⟩
  have hbw3 := below_more hba hb3
  have t0 := keep_cell hb3 (b := w.heap.size) (off := 0) (u := vt) (by simp)
  have t1 := keep_cell hb3 (b := w.heap.size) (off := 1) (u := .bool fa) (by simp)
  have t2 := keep_cell hb3 (b := w.heap.size) (off := 2) (u := vc) (by simp)
  have x0 := keep_cell hb3 (b := w.heap.size + 1) (off := 0) (u := .slice aof x.from'.length capf) (by simp)
  have x1 := keep_cell hb3 (b := w.heap.size + 1) (off := 1) (u := .slice aoo x.order.length capo) (by simp)
  clear hb3
  cases hz : q.1 == 0
  · have hz2 : (q.1 != 0) = true := by simp [bne, hz]
    have HM : Hid (J 0 q.1) := (HJ.out 0 q.1).2 (.inl ⟨by simpa using hz, rfl, rfl⟩)
    clear HJ
    go_wp2_with fail
    go_ret2
    exact ⟨_, _, rfl, HM.out, hbw3⟩
  · have hz2 : (q.1 != 0) = false := by simp [bne, hz]
    have hq0 : q.1 = 0 := by simpa using hz
    have HF : Hid (Fits T) := HFT.out hz
    have HJ2 : Hid (∀ r er, ((exeB (evsT T 0) x = false ∧ r = 0 ∧ er = 7) ∨ (exeB (evsT T 0) x = true ∧ er = 0 ∧ JudIs (Cyc (evsT T 0).length (cohA (evsT T 0) x)) (tornB (evsT T 0) x) (Cyc (evsT T 0).length (kepA T (evsT T 0) x)) (¬ Parts (evsT T 0).length (mtL (thoL 2 (evsT T 0) 0) (thoL 3 (evsT T 0) 0) (thoL 4 (evsT T 0) 0)) (kepA T (evsT T 0) x)) r)) → J r er) := fun r er h => (HJ.out r er).2 (.inr ⟨hq0, h⟩)
    clear HJ hq0
    go_wp2_with fail
    refine (events_any T fa c _ vt vc w3 (HT.out.1.keep hbw3) HF.out.short.t4 HF.out.lens).mono ?_
    generalize hEE : evsT T 0 = E at HJ2
    have HEE : Hid (E = evsT T 0 ∧ E.length ≤ 96 ∧ (∀ y ∈ E, locB y.loc = true) ∧ EvsIn T E ∧ Mts E) := ⟨hEE.symm, by rw [← hEE]; exact HF.out.el, by rw [← hEE]; exact HF.out.locs, by rw [← hEE]; exact evsIn_T T, by rw [← hEE]; exact HMT.out hz⟩
    rintro e w5 ⟨u5, rfl, hu5, hb5⟩
    have HU5 : Hid (Ev9At w5 u5 E) := hu5
    have hbw5 := below_more hbw3 hb5
    replace t0 := keep_cell hb5 t0
    replace t1 := keep_cell hb5 t1
    replace t2 := keep_cell hb5 t2
    replace x0 := keep_cell hb5 x0
    replace x1 := keep_cell hb5 x1
    clear hu5 hb5 hEE hbw3
    go_wp2_with fail
    refine (execution_any E HEE.out.2.1 x _ _ _ w5 HU5.out (HT.out.2.at'.keep hbw5)).mono ?_
    generalize hXB : exeB E x = XB at HJ2
    have HXB : Hid (exeB E x = XB) := hXB
    clear hXB
    rintro e w6 ⟨rfl, hb6⟩
    have hbw6 := below_more hbw5 hb6
    cases XB
    · have HM : Hid (J 0 7) := HJ2.out 0 7 (.inl ⟨rfl, rfl, rfl⟩)
      clear HJ2
      go_wp2_with fail
      go_ret2
      exact ⟨_, _, rfl, HM.out, hbw6⟩
    · replace t0 := keep_cell hb6 t0
      replace t1 := keep_cell hb6 t1
      replace t2 := keep_cell hb6 t2
      replace x0 := keep_cell hb6 x0
      replace x1 := keep_cell hb6 x1
      have HOF : Hid (Calls Tryz.prog 56 #[.agg #[vt, .bool fa, vc], u5, .agg #[.slice aof x.from'.length capf, .slice aoo x.order.length capo]] w6 fun e w' => ∃ r : Int, e = .returned (.int .i64 r) ∧ J r 0 ∧ Below w6.heap.size w6 w') := by
        obtain ⟨hE, hl, hloc, hin, hM⟩ := HEE.out
        have hx := isEx_of HXB.out
        refine (judge_any T HF.out.short fa c vt vc E hl hin hloc hM x (hx.xok hl hloc) u5 _ _ w6 (HT.out.1.keep hbw6) (HU5.out.keep hb6) (HT.out.2.keep hbw6)).mono ?_
        rintro e w' ⟨r, he, hj, hb⟩
        exact ⟨r, he, HJ2.out r 0 (.inr ⟨rfl, rfl, hj⟩), hb⟩
      clear HJ2
      go_wp2_with fail
      refine HOF.out.mono ?_
      rintro e w7 ⟨r, rfl, hj, hb7⟩
      have HM : Hid (J r 0) := hj
      clear hj
      go_wp2_with fail
      go_ret2
      exact ⟨_, _, rfl, HM.out, below_more hbw6 hb7⟩

end Go.Proofs.YtomijmikkbhgmaaGreat
