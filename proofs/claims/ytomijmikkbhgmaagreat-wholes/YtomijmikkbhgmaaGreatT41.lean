import Derived.Test.YtomijmikkbhgmaaGreatT36
import Derived.Test.YtomijmikkbhgmaaGreatT39
import Derived.Test.YtomijmikkbhgmaaGreatT40
import Derived.Test.YtomijmikkbhgmaaGreatT37
import Derived.Test.YtomijmikkbhgmaaGreatTb
import Derived.Test.YtomijmikkbhgmaaGreatT31
import Derived.Test.YtomijmikkbhgmaaGreatT3
import Derived.Deep.QuietTactic
import Derived.BigQuiet
namespace Go.Proofs.YtomijmikkbhgmaaGreat
open Go.RowKit

theorem lens_all {T : List (List Ins)} (h : lensB T = true) : ∀ l ∈ T, l.length ≤ 12 := by
  induction T with
  | nil => intro l hl; cases hl
  | cons a T ih =>
    simp only [lensB, Bool.and_eq_true, decide_eq_true_eq] at h
    intro l hl
    rcases List.mem_cons.1 hl with rfl | hl
    · exact h.1
    · exact ih h.2 l hl

/-- What is so where Check says OK. -/
structure Fits (T : List (List Ins)) : Prop where
  short : Short T
  lens : lensB T = true
  el : (evsT T 0).length ≤ 96
  locs : ∀ y ∈ evsT T 0, locB y.loc = true

theorem fits_of {T : List (List Ins)} {c : List Atm} (h : ((chk T c).1 == 0) = true) : Fits T := by
  obtain ⟨h2, hL, _⟩ := sizeB_parts (chk_zero h)
  have hel := evsT_len T 0 hL
  exact ⟨⟨h2, lens_all hL⟩, hL, by omega, evsT_locs (chk_locs h)⟩

/-- What Judge answers. -/
def JOut (T : List (List Ins)) (c : List Atm) (x : Exe) (r er : Int) : Prop :=
  ((chk T c).1 ≠ 0 ∧ r = 0 ∧ er = (chk T c).1) ∨ ((chk T c).1 = 0 ∧ ((exeB (evsT T 0) x = false ∧ r = 0 ∧ er = 7) ∨
    (exeB (evsT T 0) x = true ∧ er = 0 ∧ JudIs (Cyc (evsT T 0).length (cohA (evsT T 0) x)) (tornB (evsT T 0) x) (Cyc (evsT T 0).length (kepA T (evsT T 0) x)) (¬ Parts (evsT T 0).length (mtL (thoL 2 (evsT T 0) 0) (thoL 3 (evsT T 0) 0) (thoL 4 (evsT T 0) 0)) (kepA T (evsT T 0) x)) r)))

theorem JOut.one {T : List (List Ins)} {c : List Atm} {x : Exe} {r er r' er' : Int} (h : JOut T c x r er) (k : JOut T c x r' er') : r = r' ∧ er = er' := by
  rcases h with ⟨h1, h2, h3⟩ | ⟨h1, ⟨h2, h3, h4⟩ | ⟨h2, h3, h4⟩⟩ <;>
  rcases k with ⟨k1, k2, k3⟩ | ⟨k1, ⟨k2, k3, k4⟩ | ⟨k2, k3, k4⟩⟩ <;>
  first
    | exact absurd k1 h1
    | exact absurd h1 k1
    | exact ⟨h2.trans k2.symm, h3.trans k3.symm⟩
    | exact ⟨h3.trans k3.symm, h4.trans k4.symm⟩
    | (rw [h2] at k2; cases k2; done)
    | exact ⟨h4.one k4, h3.trans k3.symm⟩

set_option maxRecDepth 20000 in
set_option maxHeartbeats 1000000 in
theorem judgeP_any (T : List (List Ins)) (fa : Bool) (c : List Atm) (vt vc : Value) (x : Exe) (vf vo : Value) (w : World) (h : TestAt w (.agg #[vt, .bool fa, vc]) T fa c vt vc) (hx : ExeAt w vf vo x) :
    Calls Tryz.prog 30 #[.agg #[vt, .bool fa, vc], .agg #[vf, vo]] w fun e w' => ∃ r er : Int, e = .returned (.tuple #[.int .i64 r, .int .i64 er]) ∧ JOut T c x r er ∧ Below w.heap.size w w' := by
  have HT : Hid (TestAt w (.agg #[vt, .bool fa, vc]) T fa c vt vc ∧ ExeAt w vf vo x) := ⟨h, hx⟩
  have HFT : Hid (((chk T c).1 == 0) = true → Fits T) := fits_of
  have HMT : Hid (((chk T c).1 == 0) = true → Mts (evsT T 0)) := mts_of
  have HJ : Hid (∀ r er, JOut T c x r er ↔ ((chk T c).1 ≠ 0 ∧ r = 0 ∧ er = (chk T c).1) ∨ ((chk T c).1 = 0 ∧ ((exeB (evsT T 0) x = false ∧ r = 0 ∧ er = 7) ∨ (exeB (evsT T 0) x = true ∧ er = 0 ∧ JudIs (Cyc (evsT T 0).length (cohA (evsT T 0) x)) (tornB (evsT T 0) x) (Cyc (evsT T 0).length (kepA T (evsT T 0) x)) (¬ Parts (evsT T 0).length (mtL (thoL 2 (evsT T 0) 0) (thoL 3 (evsT T 0) 0) (thoL 4 (evsT T 0) 0)) (kepA T (evsT T 0) x)) r)))) := fun _ _ => Iff.rfl
  generalize JOut T c x = J at HJ ⊢
  obtain ⟨aof, capf, hvf⟩ := hx.f.form
  obtain ⟨aoo, bo, offo, capo, hvo, _⟩ := hx.o
  subst hvf hvo
  generalize hq : chk T c = q at HFT HMT HJ
  have HQ : Hid (chk T c = q) := hq
  clear hq h hx
  go_enter Tryz.func30, Tryz.ntmps30
  go_wp2_with fail
  have hba := below_two w (.cells #[vt, .bool fa, vc] 25) (.cells #[.slice aof x.from'.length capf, .slice aoo x.order.length capo] 29)
  refine (find_any T fa c _ vt vc _ (HT.out.1.keep hba)).mono ?_
  rw [HQ.out]
  rintro e w3 ⟨rfl, hb3⟩
  unfold fault2
  have hbw3 := below_more hba hb3
  have t0 := keep_cell hb3 (b := w.heap.size) (off := 0) (u := vt) (by simp)
  have x0 := keep_cell hb3 (b := w.heap.size + 1) (off := 0) (u := .slice aof x.from'.length capf) (by simp)
  have x1 := keep_cell hb3 (b := w.heap.size + 1) (off := 1) (u := .slice aoo x.order.length capo) (by simp)
  have s0 := World.block_lt_of_cell? _ _ t0
  have s1 := World.block_lt_of_cell? _ _ x0
  simp only at s0 s1
  clear hb3
  cases hz : q.1 == 0
  · have hz2 : (q.1 != 0) = true := by simp [bne, hz]
    have HM : Hid (J 0 q.1) := (HJ.out 0 q.1).2 (.inl ⟨by simpa using hz, rfl, rfl⟩)
    clear HJ
    go_wp2_with fail
    go_quiet (fail)
    go_wp2_with fail
    go_ret2
    exact ⟨_, _, rfl, HM.out, below_drewN (hbw3.alloc hbw3.size _) _⟩
  · have hz2 : (q.1 != 0) = false := by simp [bne, hz]
    have hq0 : q.1 = 0 := by simpa using hz
    have HF : Hid (Fits T) := HFT.out hz
    have HJ2 : Hid (∀ r er, ((exeB (evsT T 0) x = false ∧ r = 0 ∧ er = 7) ∨ (exeB (evsT T 0) x = true ∧ er = 0 ∧ JudIs (Cyc (evsT T 0).length (cohA (evsT T 0) x)) (tornB (evsT T 0) x) (Cyc (evsT T 0).length (kepA T (evsT T 0) x)) (¬ Parts (evsT T 0).length (mtL (thoL 2 (evsT T 0) 0) (thoL 3 (evsT T 0) 0) (thoL 4 (evsT T 0) 0)) (kepA T (evsT T 0) x)) r)) → J r er) := fun r er h => (HJ.out r er).2 (.inr ⟨hq0, h⟩)
    clear HJ hq0
    have hbw4 := hbw3.alloc hbw3.size (.cells #[.int .i64 q.1, .int .i64 q.2] 84)
    have hb34 := below_alloc w3 (.cells #[.int .i64 q.1, .int .i64 q.2] 84)
    go_wp2_with fail
    refine (list_cap T vt _ (HT.out.1.ht.keep hbw4) HF.out.short.t4 HF.out.lens).mono ?_
    generalize hEE : evsT T 0 = E at HJ2
    have HEE : Hid (E = evsT T 0 ∧ E.length ≤ 96 ∧ (∀ y ∈ E, locB y.loc = true) ∧ EvsIn T E ∧ Mts E) := ⟨hEE.symm, by rw [← hEE]; exact HF.out.el, by rw [← hEE]; exact HF.out.locs, by rw [← hEE]; exact evsIn_T T, by rw [← hEE]; exact HMT.out hz⟩
    rintro e w5 ⟨u5, rfl, hu5, hb5⟩
    have HU5 : Hid (Ev4Cap w5 u5 E) := hu5
    have hbw5 := below_more hbw4 hb5
    have hb35 := below_more hb34 hb5
    replace t0 := keep_cell hb35 t0
    replace x0 := keep_cell hb35 x0
    replace x1 := keep_cell hb35 x1
    clear hu5 hb5 hb34 hb35 hbw4 hEE hbw3
    go_wp2_with fail
    refine (has_any E HEE.out.2.1 x _ _ _ w5 HU5.out.at' (HT.out.2.keep hbw5)).mono ?_
    generalize hXB : exeB E x = XB at HJ2
    have HXB : Hid (exeB E x = XB) := hXB
    clear hXB
    rintro e w6 ⟨rfl, hb6⟩
    have hbw6 := below_more hbw5 hb6
    cases XB
    · have HM : Hid (J 0 7) := HJ2.out 0 7 (.inl ⟨rfl, rfl, rfl⟩)
      clear HJ2
      go_wp2_with fail
      go_ret2
      exact ⟨_, _, rfl, HM.out, hbw6⟩
    · replace t0 := keep_cell hb6 t0
      replace x0 := keep_cell hb6 x0
      replace x1 := keep_cell hb6 x1
      have HOF : Hid (Calls Tryz.prog 54 #[vt, u5, .agg #[.slice aof x.from'.length capf, .slice aoo x.order.length capo]] w6 fun e w' => ∃ r : Int, e = .returned (.int .i64 r) ∧ J r 0 ∧ Below w6.heap.size w6 w') := by
        obtain ⟨hE, hl, hloc, hin, hM⟩ := HEE.out
        have hx := isEx_of HXB.out
        have hrk := hx.ranks hl hloc
        obtain ⟨j1, j2, j3, j4⟩ := judge_same' hE hl hloc hx
        have hfl : x.from'.length ≤ 96 := by have := hx.f; have := rdsX_len E 0; omega
        refine (of_any T HF.out.short vt E hl hin hM x hfl (by have := hx.o3; omega) (hx.xok hl hloc).l96 hrk.bound u5 _ _ w6 (HT.out.1.ht.keep hbw6) (HU5.out.keep hb6) (HT.out.2.keep hbw6)).mono ?_
        rintro e w' ⟨r, he, hj, hb⟩
        exact ⟨r, he, HJ2.out r 0 (.inr ⟨rfl, rfl, hj.congr' j1 j2 j3 j4⟩), hb⟩
      clear HJ2
      go_wp2_with fail
      refine HOF.out.mono ?_
      rintro e w7 ⟨r, rfl, hj, hb7⟩
      have HM : Hid (J r 0) := hj
      clear hj
      go_wp2_with fail
      go_ret2
      exact ⟨_, _, rfl, HM.out, below_more hbw6 hb7⟩

set_option maxRecDepth 20000 in
set_option maxHeartbeats 1000000 in
theorem judgeR_any (T : List (List Ins)) (fa : Bool) (c : List Atm) (vt vc : Value) (x : Exe) (vf vo : Value) (w : World) (h : TestAt w (.agg #[vt, .bool fa, vc]) T fa c vt vc) (hx : ExeC w vf vo x) :
    Calls Tryz.prog 31 #[.agg #[vt, .bool fa, vc], .agg #[vf, vo]] w fun e w' => ∃ r er : Int, e = .returned (.tuple #[.int .i64 r, .int .i64 er]) ∧ JOut T c x r er ∧ Below w.heap.size w w' := by
  have HT : Hid (TestAt w (.agg #[vt, .bool fa, vc]) T fa c vt vc ∧ ExeC w vf vo x) := ⟨h, hx⟩
  have HFT : Hid (((chk T c).1 == 0) = true → Fits T) := fits_of
  have HMT : Hid (((chk T c).1 == 0) = true → Mts (evsT T 0)) := mts_of
  have HJ : Hid (∀ r er, JOut T c x r er ↔ ((chk T c).1 ≠ 0 ∧ r = 0 ∧ er = (chk T c).1) ∨ ((chk T c).1 = 0 ∧ ((exeB (evsT T 0) x = false ∧ r = 0 ∧ er = 7) ∨ (exeB (evsT T 0) x = true ∧ er = 0 ∧ JudIs (Cyc (evsT T 0).length (cohA (evsT T 0) x)) (tornB (evsT T 0) x) (Cyc (evsT T 0).length (kepA T (evsT T 0) x)) (¬ Parts (evsT T 0).length (mtL (thoL 2 (evsT T 0) 0) (thoL 3 (evsT T 0) 0) (thoL 4 (evsT T 0) 0)) (kepA T (evsT T 0) x)) r)))) := fun _ _ => Iff.rfl
  generalize JOut T c x = J at HJ ⊢
  obtain ⟨aof, capf, hvf⟩ := hx.f.form
  obtain ⟨aoo, bo, offo, capo, hso⟩ := hx.o
  have hvo := hso.hv
  subst hvf hvo
  generalize hq : chk T c = q at HFT HMT HJ
  have HQ : Hid (chk T c = q) := hq
  clear hq h hx hso
  go_enter Tryz.func31, Tryz.ntmps31
  go_wp2_with fail
  have hba := below_two w (.cells #[vt, .bool fa, vc] 25) (.cells #[.slice aof x.from'.length capf, .slice aoo x.order.length capo] 29)
  refine (checkR_any T fa c _ vt vc _ (HT.out.1.keep hba)).mono ?_
  rw [HQ.out]
  rintro e w3 ⟨rfl, hb3⟩
  have hbw3 := below_more hba hb3
  have t0 := keep_cell hb3 (b := w.heap.size) (off := 0) (u := vt) (by simp)
  have t1 := keep_cell hb3 (b := w.heap.size) (off := 1) (u := .bool fa) (by simp)
  have t2 := keep_cell hb3 (b := w.heap.size) (off := 2) (u := vc) (by simp)
  have x0 := keep_cell hb3 (b := w.heap.size + 1) (off := 0) (u := .slice aof x.from'.length capf) (by simp)
  have x1 := keep_cell hb3 (b := w.heap.size + 1) (off := 1) (u := .slice aoo x.order.length capo) (by simp)
  clear hb3
  cases hz : q.1 == 0
  · have hz2 : (q.1 != 0) = true := by simp [bne, hz]
    have HM : Hid (J 0 q.1) := (HJ.out 0 q.1).2 (.inl ⟨by simpa using hz, rfl, rfl⟩)
    clear HJ
    go_wp2_with fail
    go_ret2
    exact ⟨_, _, rfl, HM.out, hbw3⟩
  · have hz2 : (q.1 != 0) = false := by simp [bne, hz]
    have hq0 : q.1 = 0 := by simpa using hz
    have HF : Hid (Fits T) := HFT.out hz
    have HJ2 : Hid (∀ r er, ((exeB (evsT T 0) x = false ∧ r = 0 ∧ er = 7) ∨ (exeB (evsT T 0) x = true ∧ er = 0 ∧ JudIs (Cyc (evsT T 0).length (cohA (evsT T 0) x)) (tornB (evsT T 0) x) (Cyc (evsT T 0).length (kepA T (evsT T 0) x)) (¬ Parts (evsT T 0).length (mtL (thoL 2 (evsT T 0) 0) (thoL 3 (evsT T 0) 0) (thoL 4 (evsT T 0) 0)) (kepA T (evsT T 0) x)) r)) → J r er) := fun r er h => (HJ.out r er).2 (.inr ⟨hq0, h⟩)
    clear HJ hq0
    go_wp2_with fail
    refine (events_any T fa c _ vt vc w3 (HT.out.1.keep hbw3) HF.out.short.t4 HF.out.lens).mono ?_
    generalize hEE : evsT T 0 = E at HJ2
    have HEE : Hid (E = evsT T 0 ∧ E.length ≤ 96 ∧ (∀ y ∈ E, locB y.loc = true) ∧ EvsIn T E ∧ Mts E) := ⟨hEE.symm, by rw [← hEE]; exact HF.out.el, by rw [← hEE]; exact HF.out.locs, by rw [← hEE]; exact evsIn_T T, by rw [← hEE]; exact HMT.out hz⟩
    rintro e w5 ⟨u5, rfl, hu5, hb5⟩
    have HU5 : Hid (Ev9At w5 u5 E) := hu5
    have hbw5 := below_more hbw3 hb5
    replace t0 := keep_cell hb5 t0
    replace t1 := keep_cell hb5 t1
    replace t2 := keep_cell hb5 t2
    replace x0 := keep_cell hb5 x0
    replace x1 := keep_cell hb5 x1
    clear hu5 hb5 hEE hbw3
    go_wp2_with fail
    refine (execution_any E HEE.out.2.1 x _ _ _ w5 HU5.out (HT.out.2.at'.keep hbw5)).mono ?_
    generalize hXB : exeB E x = XB at HJ2
    have HXB : Hid (exeB E x = XB) := hXB
    clear hXB
    rintro e w6 ⟨rfl, hb6⟩
    have hbw6 := below_more hbw5 hb6
    cases XB
    · have HM : Hid (J 0 7) := HJ2.out 0 7 (.inl ⟨rfl, rfl, rfl⟩)
      clear HJ2
      go_wp2_with fail
      go_ret2
      exact ⟨_, _, rfl, HM.out, hbw6⟩
    · replace t0 := keep_cell hb6 t0
      replace t1 := keep_cell hb6 t1
      replace t2 := keep_cell hb6 t2
      replace x0 := keep_cell hb6 x0
      replace x1 := keep_cell hb6 x1
      have HOF : Hid (Calls Tryz.prog 56 #[.agg #[vt, .bool fa, vc], u5, .agg #[.slice aof x.from'.length capf, .slice aoo x.order.length capo]] w6 fun e w' => ∃ r : Int, e = .returned (.int .i64 r) ∧ J r 0 ∧ Below w6.heap.size w6 w') := by
        obtain ⟨hE, hl, hloc, hin, hM⟩ := HEE.out
        have hx := isEx_of HXB.out
        refine (judge_any T HF.out.short fa c vt vc E hl hin hloc hM x (hx.xok hl hloc) u5 _ _ w6 (HT.out.1.keep hbw6) (HU5.out.keep hb6) (HT.out.2.keep hbw6)).mono ?_
        rintro e w' ⟨r, he, hj, hb⟩
        exact ⟨r, he, HJ2.out r 0 (.inr ⟨rfl, rfl, hj⟩), hb⟩
      clear HJ2
      go_wp2_with fail
      refine HOF.out.mono ?_
      rintro e w7 ⟨r, rfl, hj, hb7⟩
      have HM : Hid (J r 0) := hj
      clear hj
      go_wp2_with fail
      go_ret2
      exact ⟨_, _, rfl, HM.out, below_more hbw6 hb7⟩

end Go.Proofs.YtomijmikkbhgmaaGreat

namespace Go.Proofs.YtomijmikkbhgmaaGreat
open Go.RowKit

/-- The state of an execution. -/
def stX (T : List (List Ins)) (E : List Evt) (x : Exe) : List Int := staL T.length E (frS E x) x

theorem stX_len (T : List (List Ins)) (E : List Evt) (x : Exe) : (stX T E x).length = 3 * T.length + 3 := staL_len _ _ _ _
theorem stX_ne (T : List (List Ins)) (E : List Evt) (x : Exe) : stX T E x ≠ [] := by
  intro h
  have := stX_len T E x
  rw [h] at this
  simp at this

/-- What State tells. -/
def StOut (T : List (List Ins)) (c : List Atm) (x : Exe) (w : World) (u : Value) (er : Int) : Prop := ∃ r jr, JOut T c x r jr ∧
  ((jr ≠ 0 ∧ er = jr ∧ u = .slice none 0 0) ∨ (jr = 0 ∧ r ≠ 0 ∧ er = 8 ∧ u = .slice none 0 0) ∨ (jr = 0 ∧ r = 0 ∧ er = 0 ∧ T.length ≤ 4 ∧ IntAt w u (stX T (evsT T 0) x)))

theorem StOut.same {T : List (List Ins)} {c : List Atm} {x : Exe} {w w' : World} {u u' : Value} {er er' : Int} (h : StOut T c x w u er) (k : StOut T c x w' u' er') : er = er' ∧ ∃ l, l.length ≤ 100 ∧ IntAt w u l ∧ IntAt w' u' l := by
  obtain ⟨r, jr, hj, h⟩ := h
  obtain ⟨r', jr', kj, k⟩ := k
  obtain ⟨rfl, rfl⟩ := hj.one kj
  have hl := stX_len T (evsT T 0) x
  have n1 : ∀ w, IntAt w (.slice none 0 0) [] := fun w => (intCap_nil w).at'
  rcases h with ⟨h1, h2, rfl⟩ | ⟨h1, h2, h3, rfl⟩ | ⟨h1, h2, h3, h4, h5⟩ <;> rcases k with ⟨k1, k2, rfl⟩ | ⟨k1, k2, k3, rfl⟩ | ⟨k1, k2, k3, k4, k5⟩ <;>
  first
    | exact absurd k1 h1
    | exact absurd h1 k1
    | exact absurd k2 h2
    | exact absurd h2 k2
    | exact ⟨h2.trans k2.symm, [], by simp, n1 _, n1 _⟩
    | exact ⟨h3.trans k3.symm, [], by simp, n1 _, n1 _⟩
    | exact ⟨h3.trans k3.symm, _, by omega, h5, k5⟩

theorem JOut.ok {T : List (List Ins)} {c : List Atm} {x : Exe} {r : Int} (h : JOut T c x r 0) : ((chk T c).1 == 0) = true ∧ exeB (evsT T 0) x = true ∧ JudIs (Cyc (evsT T 0).length (cohA (evsT T 0) x)) (tornB (evsT T 0) x) (Cyc (evsT T 0).length (kepA T (evsT T 0) x)) (¬ Parts (evsT T 0).length (mtL (thoL 2 (evsT T 0) 0) (thoL 3 (evsT T 0) 0) (thoL 4 (evsT T 0) 0)) (kepA T (evsT T 0) x)) r := by
  rcases h with ⟨h1, _, h3⟩ | ⟨h1, ⟨_, _, h4⟩ | ⟨h2, _, h4⟩⟩
  · exact absurd h3.symm h1
  · cases h4
  · exact ⟨by simpa using h1, h2, h4⟩

theorem JudIs.cyc0 {P : Prop} {t : Bool} {Q S : Prop} (h : JudIs P t Q S 0) : ¬ Q := by
  rcases h with ⟨h, _⟩ | ⟨_, ⟨h, _⟩ | ⟨_, ⟨h, _⟩ | ⟨h, _⟩⟩⟩
  · cases h
  · cases h
  · cases h
  · exact h

/-- The same, its list a new one. -/
def StOutN (B : Nat) (T : List (List Ins)) (c : List Atm) (x : Exe) (w : World) (u : Value) (er : Int) : Prop := ∃ r jr, JOut T c x r jr ∧
  ((jr ≠ 0 ∧ er = jr ∧ u = .slice none 0 0) ∨ (jr = 0 ∧ r ≠ 0 ∧ er = 8 ∧ u = .slice none 0 0) ∨ (jr = 0 ∧ r = 0 ∧ er = 0 ∧ T.length ≤ 4 ∧ IntNew B w u (stX T (evsT T 0) x)))
theorem StOutN.at' {B : Nat} {T : List (List Ins)} {c : List Atm} {x : Exe} {w : World} {u : Value} {er : Int} (h : StOutN B T c x w u er) : StOut T c x w u er := by
  obtain ⟨r, jr, hj, h | h | ⟨h1, h2, h3, h4, h5⟩⟩ := h
  · exact ⟨r, jr, hj, .inl h⟩
  · exact ⟨r, jr, hj, .inr (.inl h)⟩
  · exact ⟨r, jr, hj, .inr (.inr ⟨h1, h2, h3, h4, h5.at'⟩)⟩

set_option maxRecDepth 20000 in
set_option maxHeartbeats 2000000 in
theorem stateP_new (T : List (List Ins)) (fa : Bool) (c : List Atm) (vt vc : Value) (x : Exe) (vf vo : Value) (w : World) (h : TestAt w (.agg #[vt, .bool fa, vc]) T fa c vt vc) (hx : ExeAt w vf vo x) :
    Calls Tryz.prog 16 #[.agg #[vt, .bool fa, vc], .agg #[vf, vo]] w fun e w' => ∃ (u : Value) (er : Int), e = .returned (.tuple #[u, .int .i64 er]) ∧ StOutN w.heap.size T c x w' u er ∧ Below w.heap.size w w' := by
  have HJ : Hid (∀ w', Below w.heap.size w w' → Calls Tryz.prog 30 #[.agg #[vt, .bool fa, vc], .agg #[vf, vo]] w' fun e w'' => ∃ r er : Int, e = .returned (.tuple #[.int .i64 r, .int .i64 er]) ∧ JOut T c x r er ∧ Below w'.heap.size w' w'') := fun w' hb => judgeP_any T fa c vt vc x vf vo w' (h.keep hb) (hx.keep hb)
  have HLS : Hid (∀ w', JOut T c x 0 0 → Below w.heap.size w w' → Calls Tryz.prog 39 #[vt] w' fun e w'' => ∃ u, e = .returned u ∧ Ev4At w'' u (evsT T 0) ∧ Below w'.heap.size w' w'') := fun w' hj hb => by
    have hF := fits_of hj.ok.1
    refine (list_cap T vt w' (h.ht.keep hb) hF.short.t4 hF.lens).mono ?_
    rintro e w'' ⟨u, he, hu, hb'⟩
    exact ⟨u, he, hu.at', hb'⟩
  have HOF : Hid (∀ (u : Value) (w' : World), JOut T c x 0 0 → Below w.heap.size w w' → Ev4At w' u (evsT T 0) → Calls Tryz.prog 40 #[vt, u, .agg #[vf, vo]] w' fun e w'' => ∃ v, e = .returned v ∧ (T.length ≤ 4 ∧ IntNew w.heap.size w'' v (stX T (evsT T 0) x)) ∧ Below w'.heap.size w' w'') := fun u w' hj hb hu => by
    obtain ⟨hz, hxb, hjj⟩ := hj.ok
    have hF := fits_of hz
    have hxx := isEx_of hxb
    refine (stateOf_any T hF.short vt (evsT T 0) hF.el (evsIn_T T) x hxx u vf vo w' (h.ht.keep hb) hu (hx.keep hb)).mono ?_
    rintro e w'' ⟨v, he, hv, hb'⟩
    rw [sta_same rfl hF.el hF.locs hxx hjj.cyc0] at hv
    exact ⟨v, he, ⟨hF.short.t4, hv.less hb.size⟩, hb'⟩
  have HSO : Hid (∀ w' u er, StOutN w.heap.size T c x w' u er ↔ ∃ r jr, JOut T c x r jr ∧ ((jr ≠ 0 ∧ er = jr ∧ u = .slice none 0 0) ∨ (jr = 0 ∧ r ≠ 0 ∧ er = 8 ∧ u = .slice none 0 0) ∨ (jr = 0 ∧ r = 0 ∧ er = 0 ∧ T.length ≤ 4 ∧ IntNew w.heap.size w' u (stX T (evsT T 0) x)))) := fun _ _ _ => Iff.rfl
  generalize StOutN w.heap.size T c x = SO at HSO ⊢
  generalize stX T (evsT T 0) x = st at HSO HOF
  generalize evsT T 0 = E at HLS HOF
  generalize JOut T c x = J at HJ HLS HOF HSO
  clear h hx
  go_enter Tryz.func16, Tryz.ntmps16
  go_wp2_with fail
  have hba := below_two w (.cells #[vt, .bool fa, vc] 25) (.cells #[vf, vo] 29)
  refine (HJ.out _ hba).mono ?_
  rintro e w3 ⟨r, jr, rfl, hjr, hb3⟩
  have hbw3 := below_more hba hb3
  have t0 := keep_cell hb3 (b := w.heap.size) (off := 0) (u := vt) (by simp)
  have x0 := keep_cell hb3 (b := w.heap.size + 1) (off := 0) (u := vf) (by simp)
  have x1 := keep_cell hb3 (b := w.heap.size + 1) (off := 1) (u := vo) (by simp)
  have HJR : Hid (J r jr) := hjr
  clear hjr hb3 HJ
  cases hz : jr == 0
  · have hz2 : (jr != 0) = true := by simp [bne, hz]
    have hz3 : jr ≠ 0 := by simpa using hz
    go_wp2_with fail
    go_ret2
    exact ⟨_, _, rfl, (HSO.out _ _ _).2 ⟨r, jr, HJR.out, .inl ⟨hz3, rfl, rfl⟩⟩, hbw3⟩
  · have hz2 : (jr != 0) = false := by simp [bne, hz]
    have hz3 : jr = 0 := by simpa using hz
    subst hz3
    cases hr : r == 0
    · have hr2 : (r != 0) = true := by simp [bne, hr]
      have hr3 : r ≠ 0 := by simpa using hr
      go_wp2_with fail
      go_ret2
      exact ⟨_, _, rfl, (HSO.out _ _ _).2 ⟨r, 0, HJR.out, .inr (.inl ⟨rfl, hr3, rfl, rfl⟩)⟩, hbw3⟩
    · have hr3 : r = 0 := by simpa using hr
      subst hr3
      go_wp2_with fail
      refine (HLS.out w3 HJR.out hbw3).mono ?_
      rintro e w5 ⟨u5, rfl, hu5, hb5⟩
      have hbw5 := below_more hbw3 hb5
      replace t0 := keep_cell hb5 t0
      replace x0 := keep_cell hb5 x0
      replace x1 := keep_cell hb5 x1
      have HU5 : Hid (Ev4At w5 u5 E) := hu5
      clear hu5 hb5 HLS
      go_wp2_with fail
      refine (HOF.out u5 w5 HJR.out hbw5 HU5.out).mono ?_
      rintro e w6 ⟨v6, rfl, hv6, hb6⟩
      have HV6 : Hid (T.length ≤ 4 ∧ IntNew w.heap.size w6 v6 st) := hv6
      have hbw6 := below_more hbw5 hb6
      clear hv6 t0 x0 x1 hb6
      go_wp2_with fail
      go_ret2
      exact ⟨_, _, rfl, (HSO.out _ _ _).2 ⟨0, 0, HJR.out, .inr (.inr ⟨rfl, rfl, rfl, HV6.out.1, HV6.out.2⟩)⟩, hbw6⟩

theorem stateP_any (T : List (List Ins)) (fa : Bool) (c : List Atm) (vt vc : Value) (x : Exe) (vf vo : Value) (w : World) (h : TestAt w (.agg #[vt, .bool fa, vc]) T fa c vt vc) (hx : ExeAt w vf vo x) :
    Calls Tryz.prog 16 #[.agg #[vt, .bool fa, vc], .agg #[vf, vo]] w fun e w' => ∃ (u : Value) (er : Int), e = .returned (.tuple #[u, .int .i64 er]) ∧ StOut T c x w' u er ∧ Below w.heap.size w w' := by
  refine (stateP_new T fa c vt vc x vf vo w h hx).mono ?_
  rintro e w' ⟨u, er, h1, h2, h3⟩
  exact ⟨u, er, h1, h2.at', h3⟩

theorem stateR_any (T : List (List Ins)) (fa : Bool) (c : List Atm) (vt vc : Value) (x : Exe) (vf vo : Value) (w : World) (h : TestAt w (.agg #[vt, .bool fa, vc]) T fa c vt vc) (hx : ExeC w vf vo x) :
    Calls Tryz.prog 19 #[.agg #[vt, .bool fa, vc], .agg #[vf, vo]] w fun e w' => ∃ (u : Value) (er : Int), e = .returned (.tuple #[u, .int .i64 er]) ∧ StOut T c x w' u er ∧ Below w.heap.size w w' := by
  refine (stateR_of T fa c vt vc x vf vo w h hx.at' (JOut T c x) (fun w' hb => judgeR_any T fa c vt vc x vf vo w' (h.keep hb) (hx.keep hb)) (fun r hr => ?_)).mono ?_
  · obtain ⟨hz, hxb, _⟩ := hr.ok
    have hF := fits_of hz
    exact ⟨hF.short.t4, hF.lens, hF.el, isEx_of hxb⟩
  · rintro e w' ⟨r, jr, u, er, he, hj, hs, hb⟩
    refine ⟨u, er, he, ⟨r, jr, hj, ?_⟩, hb⟩
    rcases hs with hs | hs | ⟨h1, h2, h3, h4⟩
    · exact .inl hs
    · exact .inr (.inl hs)
    · subst h1
      exact .inr (.inr ⟨rfl, h2, h3, (fits_of hj.ok.1).short.t4, h4.at'⟩)

end Go.Proofs.YtomijmikkbhgmaaGreat

namespace Go.Proofs.YtomijmikkbhgmaaGreat
open Go.RowKit

/-- The choices: the number, and how many rows of choices are open. -/
structure Chs (w : World) (B n wt : Nat) : Prop where
  c0 : w.cell? ⟨B, 0, none⟩ = some (.int .i64 n)
  c1 : w.cell? ⟨B, 1, none⟩ = some (.int .i64 wt)
  z0 : w.frozen? ⟨B, 0, none⟩ = false
  z1 : w.frozen? ⟨B, 1, none⟩ = false

theorem Chs.lt {w : World} {B n wt : Nat} (h : Chs w B n wt) : B < w.heap.size := World.block_lt_of_cell? w _ h.c0
theorem Chs.keep {w w' : World} {B n wt : Nat} (h : Chs w B n wt) (hb : w'.heap[B]? = w.heap[B]?) : Chs w' B n wt :=
  ⟨(World.cell?_of_block (w := w) hb).trans h.c0, (World.cell?_of_block (w := w) hb).trans h.c1, (World.frozen?_of_block (w := w) hb).trans h.z0, (World.frozen?_of_block (w := w) hb).trans h.z1⟩
theorem Chs.below {w w' : World} {B n wt : Nat} (h : Chs w B n wt) (hb : Below w.heap.size w w') : Chs w' B n wt := h.keep (hb.block B h.lt)

set_option maxHeartbeats 1000000 in
theorem next_any (B n wt m : Nat) (w : World) (h : Chs w B n wt) (hm : 1 ≤ m) (hmw : m ≤ wt) (hwt : wt ≤ 2001) (hn : n ≤ 2001) :
    Calls Tryz.prog 167 #[.pointer (some ⟨B, 0, none⟩), .int .i64 m] w fun e w' => e = .returned (.int .i64 (n / (wt / m) % m : Nat)) ∧ Chs w' B n (wt / m) ∧ Only B w w' := by
  have hl := h.lt
  obtain ⟨c0, c1, z0, z1⟩ := h
  have hq1 : 1 ≤ wt / m := (Nat.le_div_iff_mul_le hm).2 (by omega)
  have hq2 : wt / m ≤ 2001 := Nat.le_trans (Nat.div_le_self _ _) hwt
  have hd2 : n / (wt / m) ≤ 2001 := Nat.le_trans (Nat.div_le_self _ _) hn
  have eq : (wt : Int) / (m : Int) = ((wt / m : Nat) : Int) := by simp
  generalize wt / m = q at eq hq1 hq2 hd2 ⊢
  have ed : (n : Int) / (q : Int) = ((n / q : Nat) : Int) := by simp
  generalize n / q = d at ed hd2 ⊢
  have er : (d : Int) % (m : Int) = ((d % m : Nat) : Int) := by simp
  generalize d % m = r at er ⊢
  go_enter Tryz.func167, Tryz.ntmps167
  go_wp2_with fail
  go_quiet (fail)
  go_wp2_with fail
  go_ret
  refine ⟨ret_int er, ?_, ?_⟩
  · have hs : Chs (w.setCell ⟨B, 1, none⟩ (.int .i64 q)) B n q := ⟨by simp [go_sem, c0], by simp [go_sem, c1], by simp [go_sem, z0], by simp [go_sem, z1]⟩
    exact ⟨by simpa [go_sem] using hs.c0, by simpa [go_sem] using hs.c1, by simpa [go_sem] using hs.z0, by simpa [go_sem] using hs.z1⟩
  · refine ⟨rfl, rfl, rfl, by simp [World.setCell], fun k hk hn => ?_⟩
    exact Below.heap_setCell w ⟨B, 1, none⟩ _ k hn

/-- What 'without' has gathered behind k rounds. -/
def wo (l : List Int) (at' k : Nat) : List Int := (l.take k).eraseIdx at'

theorem wo_skip {l : List Int} {at' k : Nat} {x : Int} (hx : l[k]? = some x) (h : k = at') : wo l at' (k + 1) = wo l at' k := by
  unfold wo
  rw [take_snoc hx]
  subst h
  have hk : k ≤ l.length := by have := (List.getElem?_eq_some_iff.1 hx).1; omega
  have hl : (l.take k).length = k := by simp; omega
  rw [List.eraseIdx_append_of_length_le (by omega), hl, List.eraseIdx_of_length_le (l := l.take k) (by omega), Nat.sub_self]
  simp

theorem wo_take {l : List Int} {at' k : Nat} {x : Int} (hx : l[k]? = some x) (h : k ≠ at') : wo l at' (k + 1) = wo l at' k ++ [x] := by
  unfold wo
  rw [take_snoc hx]
  have hk : k < l.length := (List.getElem?_eq_some_iff.1 hx).1
  have hl : (l.take k).length = k := by simp; omega
  by_cases hlt : at' < k
  · rw [List.eraseIdx_append_of_lt_length (by omega)]
  · rw [List.eraseIdx_append_of_length_le (by omega), hl, List.eraseIdx_of_length_le (l := l.take k) (by omega), List.eraseIdx_of_length_le (by simp; omega)]

theorem wo_done (l : List Int) (at' : Nat) : wo l at' l.length = l.eraseIdx at' := by unfold wo; rw [List.take_length]

set_option maxHeartbeats 1000000 in
theorem without_any (l : List Int) (hl : l.length ≤ 96) (at' : Nat) (v : Value) (w : World) (h : IntAt w v l) :
    Calls Tryz.prog 168 #[v, .int .i64 at'] w fun e w' => ∃ u, e = .returned u ∧ IntNew w.heap.size w' u (l.eraseIdx at') ∧ Below w.heap.size w w' := by
  obtain ⟨ao, b, off, cap, hv, ha, _, hc⟩ := h
  subst hv
  obtain ⟨i0, hi, hz0, hz1, hz2⟩ := info_parts Tryz.info3
  have HI : Hid (Tryz.prog.info? 3 = some i0 ∧ i0.zero = some (.int .i64 0) ∧ i0.size = 1 ∧ i0.bytes = 8) := ⟨hi, hz0, hz1, hz2⟩
  clear hi hz0 hz1 hz2
  have HC : Hid (∀ k x, l[k]? = some x → IntC w b (off + k * 1) x) := hc
  clear hc
  go_enter Tryz.func168, Tryz.ntmps168
  go_wp2_with fail
  go_loopw [5, 10] (fun u i wr => ∃ (k : Nat) (xs : List Int), k ≤ l.length ∧ i = .int .i64 k ∧ xs.length ≤ k ∧ Hid (wo l at' k = xs) ∧ wr.ownsRow w.heap.size 3 1 u xs.length (xs.map (Value.int .i64)) ∧ Below w.heap.size w wr) (fun _ i _ => l.length - (intOf i).toNat)
  case atStart => exact ⟨0, [], Nat.zero_le _, rfl, Nat.le_refl _, by unfold Hid wo; simp, World.ownsRow_nil _ _ _ _, Below.refl _ _⟩
  case round =>
    obtain ⟨k, xs, hk, rfl, hxk, hn, hown, hb⟩ := hrel
    have hsz := hb.size
    by_cases hlt : k < l.length
    · obtain ⟨x, hx⟩ := get_of_lt hlt
      obtain rfl := ha (ne_nil hlt)
      have c0 := intC_keeps _ _ _ _ _ hb (HC.out k x hx)
      unfold IntC at c0
      rw [Nat.mul_one] at c0
      have hbl := World.block_lt_of_cell? _ _ c0
      have HX : Hid (l[k]? = some x) := hx
      clear hx ha
      by_cases hat : k = at'
      · subst hat
        have hbe : ((k : Int) != (k : Int)) = false := by simp
        have HM : Hid (wo l k (k + 1) = xs) := (wo_skip HX.out rfl).trans hn.out
        clear hn
        go_wp2_with fail
        go_roundw
        case measure => simp [intOf]; omega
        case rel => exact ⟨k + 1, xs, by omega, by go_num, by omega, HM.out, hown, hb⟩
      · have hbe : ((k : Int) != (at' : Int)) = true := by rw [bne_iff_ne]; omega
        have HM : Hid (wo l at' (k + 1) = xs ++ [x]) := (wo_take HX.out hat).trans (by rw [hn.out])
        clear hn
        go_wp2_with (at_builtin; refine append_new _ rfl (.tmp 18) (.tmp 20) 26 rfl w.heap.size 3 i0 (.int .i64 0) 1 8 Tryz.underlying26 HI.out.1 HI.out.2.1 HI.out.2.2.1 HI.out.2.2.2 rfl (by decide) u5 xs.length (xs.map (Value.int .i64)) rfl (hown.alloc _) (some ⟨wr.heap.size, 0, none⟩) 1 1 [.int .i64 x] rfl (fun h => by cases h) rfl (fun ad had => by cases had; exact new_one rfl) (by simp [Value.oneCell']) (by unfold maxLen; omega) (by omega) (by simp; omega) ?_)
        intro u' w1 hown' hgrow _
        have hb' : Below w.heap.size w w1 := Below.grown (hb.alloc hsz _) hgrow (by simp; omega) (fun kk e => (hown.lt kk e).1)
        have HO : Hid (w1.ownsRow w.heap.size 3 1 u' (xs ++ [x]).length ((xs ++ [x]).map (Value.int .i64))) := own_snoc hown'
        clear hgrow hown hown'
        go_wp2_with fail
        go_roundw
        case measure => simp [intOf]; omega
        case rel => exact ⟨k + 1, xs ++ [x], by omega, by go_num, by simp; omega, HM.out, HO.out, hb'⟩
    · have hkl : k = l.length := by omega
      subst hkl
      have HF : Hid (l.eraseIdx at' = xs) := (wo_done l at').symm.trans hn.out
      clear hn ha
      go_wp2_with fail
      go_ret
      exact ⟨_, rfl, by rw [HF.out]; exact owns_int hown, hb⟩

end Go.Proofs.YtomijmikkbhgmaaGreat
