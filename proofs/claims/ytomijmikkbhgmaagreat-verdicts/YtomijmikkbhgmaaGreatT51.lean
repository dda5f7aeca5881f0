import Derived.Test.YtomijmikkbhgmaaGreatT50
import Derived.Test.YtomijmikkbhgmaaGreatT7
import Derived.Test.YtomijmikkbhgmaaGreatLt
namespace Go.Proofs.YtomijmikkbhgmaaGreat
open Go.RowKit

set_option maxRecDepth 20000 in
set_option maxHeartbeats 4000000 in
theorem verdictP_any (T : List (List Ins)) (fa : Bool) (c : List Atm) (al : Nat → Bool) (hal : Als T (evsT T 0) al) (vt vc : Value) (w : World) (h : TestAt w (.agg #[vt, .bool fa, vc]) T fa c vt vc) :
    Calls Tryz.prog 24 #[.agg #[vt, .bool fa, vc]] w fun e w' => e = .returned (verV T c fa al) ∧ Below w.heap.size w w' := by
  have HT : Hid (TestAt w (.agg #[vt, .bool fa, vc]) T fa c vt vc) := h
  have HLS : Hid (((chk T c).1 == 0) = true → ∀ w', Below w.heap.size w w' → Calls Tryz.prog 39 #[vt] w' fun e w'' => ∃ u, e = .returned u ∧ Ev4Cap w'' u (evsT T 0) ∧ Below w'.heap.size w' w'') := fun hz w' hb => list_cap T vt w' (h.ht.keep hb) (fits_of hz).short.t4 (fits_of hz).lens
  have HOF : Hid (((chk T c).1 == 0) = true → ∀ (u : Value) (w' : World), Below w.heap.size w w' → Ev4Cap w' u (evsT T 0) → Calls Tryz.prog 49 #[.agg #[vt, .bool fa, vc], u] w' fun e w'' => e = .returned (repV (gdN T.length c (optL al T (evsT T 0) (sizeN (evsT T 0)))) (bdN T.length c (optL al T (evsT T 0) (sizeN (evsT T 0)))) fa) ∧ Below w'.heap.size w' w'') := fun hz u w' hb hu => verdictOf_any T fa c hz al hal vt vc u w' (h.keep hb) hu
  have HJ : Hid (verV T c fa al = if (chk T c).1 == 0 then .tuple #[repV (gdN T.length c (optL al T (evsT T 0) (sizeN (evsT T 0)))) (bdN T.length c (optL al T (evsT T 0) (sizeN (evsT T 0)))) fa, .int .i64 0] else .tuple #[noRep, .int .i64 (chk T c).1]) := rfl
  generalize verV T c fa al = J at HJ ⊢
  generalize gdN T.length c (optL al T (evsT T 0) (sizeN (evsT T 0))) = G at HJ HOF
  generalize bdN T.length c (optL al T (evsT T 0) (sizeN (evsT T 0))) = Bd at HJ HOF
  generalize evsT T 0 = E at HLS HOF
  have HRP : Hid (repV G Bd fa = .agg #[.int .i64 (if G == 0 then 0 else if Bd == 0 then 2 else 1), .int .i64 G, .int .i64 Bd, .bool (if fa then Bd == 0 else decide (0 < G))]) := rfl
  generalize repV G Bd fa = RP at HJ HOF HRP
  generalize (if G == 0 then (0 : Int) else if Bd == 0 then 2 else 1) = nm at HRP
  generalize (if fa then Bd == 0 else decide (0 < G)) = hd at HRP
  have hrp := HRP.out
  subst hrp
  clear HRP
  generalize hq : chk T c = q at HLS HOF HJ
  have HQ : Hid (chk T c = q) := hq
  clear hq h
  go_enter Tryz.func24, Tryz.ntmps24
  go_wp2_with fail
  have hba := below_two w (.cells #[vt, .bool fa, vc] 25) (.cells #[.int .i64 0, .int .i64 0, .int .i64 0, .bool false] 60)
  refine (find_any T fa c _ vt vc _ (HT.out.keep hba)).mono ?_
  rw [HQ.out]
  rintro e w3 ⟨rfl, hb3⟩
  unfold fault2
  have hbw3 := below_more hba hb3
  have t0 := keep_cell hb3 (b := w.heap.size) (off := 0) (u := vt) (by simp)
  have t1 := keep_cell hb3 (b := w.heap.size) (off := 1) (u := .bool fa) (by simp)
  have t2 := keep_cell hb3 (b := w.heap.size) (off := 2) (u := vc) (by simp)
  have HR3 : Hid (RepC w3 (w.heap.size + 1) 0 0 0 false) := by
    refine RepC.keep (w := (w.alloc (.cells #[vt, .bool fa, vc] 25)).alloc (.cells #[.int .i64 0, .int .i64 0, .int .i64 0, .bool false] 60)) ⟨?_, ?_, ?_, ?_, ?_, ?_, ?_, ?_⟩ hb3 <;> simp
  have s0 := World.block_lt_of_cell? _ _ t0
  simp only at s0
  have s3 := HR3.out.lt
  clear hb3
  cases hz : q.1 == 0
  · have hz2 : (q.1 != 0) = true := by simp [bne, hz]
    have HM : Hid (J = .tuple #[noRep, .int .i64 q.1]) := HJ.out.trans (by rw [hz]; rfl)
    obtain ⟨c0, c1, c2, c3, f0, f1, f2, f3⟩ := HR3.out
    clear HJ
    go_wp2_with fail
    go_region
    all_goals
      go_wp2_with fail
      refine bodyPost_ret (v := .tuple #[.agg #[.int .i64 0, .int .i64 0, .int .i64 0, .bool false], .int .i64 q.1]) (by simp [results, Tryz.results24, go_sem, *]) rfl ⟨by rw [HM.out]; rfl, ?_⟩
      exact Below.drew ((((((hbw3.setCell (by simp) _).setCell (by simp) _).setCell (by simp) _).setCell (by simp) _).alloc (by simp [World.setCell]; omega) _))
  · have hz2 : (q.1 != 0) = false := by simp [bne, hz]
    have HM : Hid (J = .tuple #[.agg #[.int .i64 nm, .int .i64 G, .int .i64 Bd, .bool hd], .int .i64 0]) := HJ.out.trans (by rw [hz]; rfl)
    have HL2 : Hid (∀ w', Below w.heap.size w w' → Calls Tryz.prog 39 #[vt] w' fun e w'' => ∃ u, e = .returned u ∧ Ev4Cap w'' u E ∧ Below w'.heap.size w' w'') := HLS.out hz
    have HO2 : Hid (∀ (u : Value) (w' : World), Below w.heap.size w w' → Ev4Cap w' u E → Calls Tryz.prog 49 #[.agg #[vt, .bool fa, vc], u] w' fun e w'' => e = .returned (.agg #[.int .i64 nm, .int .i64 G, .int .i64 Bd, .bool hd]) ∧ Below w'.heap.size w' w'') := HOF.out hz
    clear HJ HLS HOF
    have hbw4 := hbw3.alloc hbw3.size (.cells #[.int .i64 q.1, .int .i64 q.2] 84)
    have hb34 := below_alloc w3 (.cells #[.int .i64 q.1, .int .i64 q.2] 84)
    go_wp2_with fail
    refine (HL2.out _ hbw4).mono ?_
    rintro e w5 ⟨u5, rfl, hu5, hb5⟩
    have HU5 : Hid (Ev4Cap w5 u5 E) := hu5
    have hbw5 := below_more hbw4 hb5
    have hb35 := below_more hb34 hb5
    replace t0 := keep_cell hb35 t0
    replace t1 := keep_cell hb35 t1
    replace t2 := keep_cell hb35 t2
    have HR5 : Hid (RepC w5 (w.heap.size + 1) 0 0 0 false) := HR3.out.keep hb35
    clear hu5 hb5 hb34 hbw4 hbw3 hb35 HR3
    go_wp2_with fail
    refine (HO2.out u5 w5 hbw5 HU5.out).mono ?_
    rintro e w6 ⟨rfl, hb6⟩
    have hbw6 := below_more hbw5 hb6
    obtain ⟨c0, c1, c2, c3, f0, f1, f2, f3⟩ := HR5.out.keep hb6
    clear hb6 t0 t1 t2 HR5
    go_wp2_with fail
    refine bodyPost_ret (v := .tuple #[.agg #[.int .i64 nm, .int .i64 G, .int .i64 Bd, .bool hd], .int .i64 0]) (by simp [results, Tryz.results24, go_sem, *]) rfl ⟨by rw [HM.out], ?_⟩
    exact (((hbw6.setCell (by simp) _).setCell (by simp) _).setCell (by simp) _).setCell (by simp) _

set_option maxRecDepth 20000 in
set_option maxHeartbeats 4000000 in
theorem witnessP_any (T : List (List Ins)) (fa : Bool) (c : List Atm) (al : Nat → Bool) (hal : Als T (evsT T 0) al) (vt vc : Value) (w : World) (h : TestAt w (.agg #[vt, .bool fa, vc]) T fa c vt vc) :
    Calls Tryz.prog 27 #[.agg #[vt, .bool fa, vc]] w fun e w' => ∃ (n : Int) (vf vo : Value) (er : Int), e = .returned (.tuple #[.int .i64 n, .agg #[vf, vo], .int .i64 er]) ∧ WOut T c fa al w' n vf vo er ∧ Below w.heap.size w w' := by
  have HT : Hid (TestAt w (.agg #[vt, .bool fa, vc]) T fa c vt vc) := h
  have HLS : Hid (((chk T c).1 == 0) = true → ∀ w', Below w.heap.size w w' → Calls Tryz.prog 39 #[vt] w' fun e w'' => ∃ u, e = .returned u ∧ Ev4Cap w'' u (evsT T 0) ∧ Below w'.heap.size w' w'') := fun hz w' hb => list_cap T vt w' (h.ht.keep hb) (fits_of hz).short.t4 (fits_of hz).lens
  have HOF : Hid (((chk T c).1 == 0) = true → ∀ (u : Value) (w' : World), Below w.heap.size w w' → Ev4Cap w' u (evsT T 0) → Calls Tryz.prog 51 #[.agg #[vt, .bool fa, vc], u] w' fun e w'' => ∃ (n : Int) (vf vo u : Value), e = .returned (.agg #[.int .i64 n, vf, vo, u]) ∧ WX (evsT T 0) (witL T.length c fa (optL al T (evsT T 0) (sizeN (evsT T 0))) 0) w'' n vf vo ∧ (∃ a l p, u = .slice a l p) ∧ Below w'.heap.size w' w'') := fun hz u w' hb hu => verdictWit_any T fa c hz al hal vt vc u w' (h.keep hb) hu
  have HJ : Hid (∀ w' n vf vo er, WOut T c fa al w' n vf vo er ↔ ((chk T c).1 ≠ 0 ∧ n = 0 ∧ er = (chk T c).1 ∧ ExeAt w' vf vo ⟨[], []⟩) ∨ ((chk T c).1 = 0 ∧ er = 0 ∧
    ((witL T.length c fa (optL al T (evsT T 0) (sizeN (evsT T 0))) 0 = none ∧ n = -1 ∧ ExeAt w' vf vo ⟨[], []⟩) ∨
      ∃ k, witL T.length c fa (optL al T (evsT T 0) (sizeN (evsT T 0))) 0 = some k ∧ n = (k : Int) ∧ ExeAt w' vf vo (exN (evsT T 0) k)))) := fun _ _ _ _ _ => Iff.rfl
  generalize WOut T c fa al = J at HJ ⊢
  generalize witL T.length c fa (optL al T (evsT T 0) (sizeN (evsT T 0))) 0 = WL at HJ HOF
  generalize evsT T 0 = E at HLS HOF HJ
  generalize hq : chk T c = q at HLS HOF HJ
  have HQ : Hid (chk T c = q) := hq
  clear hq h
  go_enter Tryz.func27, Tryz.ntmps27
  go_wp2_with fail
  refine (find_any T fa c _ vt vc _ (HT.out.keep (below_two _ _ _))).mono ?_
  rw [HQ.out]
  rintro e w3 ⟨rfl, hb3⟩
  unfold fault2
  have hbw3 := below_more (below_two w (.cells #[vt, .bool fa, vc] 25) (.cells #[.slice none 0 0, .slice none 0 0] 29)) hb3
  simp only [World.size_alloc] at hb3
  have HNC : Hid (∀ o z, w3.cell? ⟨w.heap.size + 1, o, none⟩ = some z → z = .slice none 0 0 ∧ o < 2) := nil_cells hb3
  obtain ⟨t0, t1, t2, d0, d1, f0, f1, s2, s3⟩ := own5 hb3
  clear hb3
  cases hz : q.1 == 0
  · have hz2 : (q.1 != 0) = true := by simp [bne, hz]
    have HM : Hid (∀ w', J w' 0 (.slice none 0 0) (.slice none 0 0) q.1) := fun w' => (HJ.out w' _ _ _ _).2 (.inl ⟨by simpa using hz, rfl, rfl, exe_nil _⟩)
    clear HJ
    go_wp2_with fail
    go_region
    all_goals
      go_wp2_with fail
      refine bodyPost_ret (v := .tuple #[.int .i64 0, .agg #[.slice none 0 0, .slice none 0 0], .int .i64 q.1]) (by simp [results, Tryz.results27, go_sem, *]) rfl ⟨_, _, _, _, rfl, HM.out _, ?_⟩
      exact Below.drew ((((hbw3.setCell (by simp) _).setCell (by simp) _).alloc (by simp [World.setCell]; omega) _))
  · have hz2 : (q.1 != 0) = false := by simp [bne, hz]
    have hq0 : q.1 = 0 := by simpa using hz
    have HJN : Hid (∀ w', WL = none → J w' (-1) (.slice none 0 0) (.slice none 0 0) 0) := fun w' hn => (HJ.out w' _ _ _ _).2 (.inr ⟨hq0, rfl, .inl ⟨hn, rfl, exe_nil _⟩⟩)
    have HJS : Hid (∀ w' k vf vo, WL = some k → ExeAt w' vf vo (exN E k) → J w' (k : Int) vf vo 0) := fun w' k vf vo hn hx => (HJ.out w' _ _ _ _).2 (.inr ⟨hq0, rfl, .inr ⟨k, hn, rfl, hx⟩⟩)
    have HL2 : Hid (∀ w', Below w.heap.size w w' → Calls Tryz.prog 39 #[vt] w' fun e w'' => ∃ u, e = .returned u ∧ Ev4Cap w'' u E ∧ Below w'.heap.size w' w'') := HLS.out hz
    have HO2 : Hid (∀ (u : Value) (w' : World), Below w.heap.size w w' → Ev4Cap w' u E → Calls Tryz.prog 51 #[.agg #[vt, .bool fa, vc], u] w' fun e w'' => ∃ (n : Int) (vf vo u : Value), e = .returned (.agg #[.int .i64 n, vf, vo, u]) ∧ WX E WL w'' n vf vo ∧ (∃ a l p, u = .slice a l p) ∧ Below w'.heap.size w' w'') := HOF.out hz
    clear HJ HLS HOF hq0
    have hbw4 := hbw3.alloc hbw3.size (.cells #[.int .i64 q.1, .int .i64 q.2] 84)
    have hb34 := below_alloc w3 (.cells #[.int .i64 q.1, .int .i64 q.2] 84)
    go_wp2_with fail
    refine (HL2.out _ hbw4).mono ?_
    rintro e w5 ⟨u5, rfl, hu5, hb5⟩
    have HU5 : Hid (Ev4Cap w5 u5 E) := hu5
    have hbw5 := below_more hbw4 hb5
    have hb35 := below_more hb34 hb5
    replace t0 := keep_cell hb35 t0
    replace t1 := keep_cell hb35 t1
    replace t2 := keep_cell hb35 t2
    clear hu5 hb5 hb34 hbw4 hbw3
    go_wp2_with fail
    refine (HO2.out u5 w5 hbw5 HU5.out).mono ?_
    rintro e w6 ⟨n, vf, vo, u6, rfl, hwx, ⟨a6, l6, p6, rfl⟩, hb6⟩
    have hbw6 := below_more hbw5 hb6
    have hb36 := below_more hb35 hb6
    replace d0 := keep_cell hb36 d0
    replace d1 := keep_cell hb36 d1
    replace f0 := (hb36.frozen (p := ⟨w.heap.size + 1, 0, none⟩) s3).trans f0
    replace f1 := (hb36.frozen (p := ⟨w.heap.size + 1, 1, none⟩) s3).trans f1
    have HNC6 : Hid (∀ o z, w6.cell? ⟨w.heap.size + 1, o, none⟩ = some z → z = .slice none 0 0 ∧ o < 2) := fun o z hz => HNC.out o z (by rw [← hb36.cell (p := ⟨w.heap.size + 1, o, none⟩) s3]; exact hz)
    have s6 : w.heap.size + 1 < w6.heap.size := Nat.lt_of_lt_of_le s3 hb36.size
    clear t0 t1 t2 HNC hb36 hb35 hb6 s2 s3
    rcases hwx with ⟨h1, rfl, rfl, rfl⟩ | ⟨k, h1, rfl, hx⟩
    · have HW : Hid (WL = none) := h1
      clear h1
      go_wp2_with fail
      go_region
      all_goals
        go_wp2_with fail
        refine bodyPost_ret (v := .tuple #[.int .i64 (-1), .agg #[.slice none 0 0, .slice none 0 0], .int .i64 0]) (by simp [results, Tryz.results27, go_sem, *]) rfl ⟨_, _, _, _, rfl, HJN.out _ HW.out, ?_⟩
        exact Below.drew ((((hbw6.setCell (by simp) _).setCell (by simp) _).alloc (by simp [World.setCell]; omega) _))
    · have HW : Hid (WL = some k) := h1
      obtain ⟨aof, cf, hff⟩ := hx.f.form
      obtain ⟨aoo, bo, oo, co, hso⟩ := hx.o
      have hfo := hso.hv
      subst hff hfo
      have HXX : Hid (ExeAt w6 (.slice aof (exN E k).from'.length cf) (.slice aoo (exN E k).order.length co) (exN E k)) := hx
      have HO3 : Hid ((exN E k).order.length = 3) := by show _ = _; rfl
      generalize hl1 : (exN E k).from'.length = l1 at HXX
      generalize hl2 : (exN E k).order.length = l2 at HXX
      clear h1 hx hso hl1 hl2
      go_wp2_with fail
      go_region
      all_goals
        go_wp2_with fail
        refine bodyPost_ret (v := .tuple #[.int .i64 k, .agg #[.slice aof l1 cf, .slice aoo l2 co], .int .i64 0]) (by simp [results, Tryz.results27, go_sem, *]) rfl ⟨_, _, _, _, rfl, HJS.out _ k _ _ HW.out ?_, ?_⟩
        · refine ExeAt.keep (w := (w6.setCell ⟨w.heap.size + 1, 0, none⟩ (.slice aof l1 cf)).setCell ⟨w.heap.size + 1, 1, none⟩ (.slice aoo l2 co)) (exe_store HXX.out HO3.out HNC6.out (fun b hb => by rw [Below.heap_setCell _ _ _ _ hb, Below.heap_setCell _ _ _ _ hb])) ?_
          exact (below_alloc _ _).drew
        · exact Below.drew ((((hbw6.setCell (by simp) _).setCell (by simp) _).alloc (by simp [World.setCell]; omega) _))

set_option maxRecDepth 20000 in
set_option maxHeartbeats 1000000 in
theorem sameReport_any (a b c : Int) (d : Bool) (w : World) :
    Calls Tryz.prog 26 #[.agg #[.int .i64 a, .int .i64 b, .int .i64 c, .bool d], .agg #[.int .i64 a, .int .i64 b, .int .i64 c, .bool d]] w fun e w' => e = .returned (.bool true) ∧ Below w.heap.size w w' := by
  have e1 : (a == a) = true := by simp
  have e2 : (b == b) = true := by simp
  have e3 : (c == c) = true := by simp
  cases d
  · go_enter Tryz.func26, Tryz.ntmps26
    go_wp2_with fail
    go_ret
    exact ⟨rfl, below_two _ _ _⟩
  · go_enter Tryz.func26, Tryz.ntmps26
    go_wp2_with fail
    go_ret
    exact ⟨rfl, below_two _ _ _⟩

theorem WOut.same {T : List (List Ins)} {c : List Atm} {fa : Bool} {al : Nat → Bool} {w w' : World} {n n' : Int} {vf vo vf' vo' : Value} {er er' : Int} (h : WOut T c fa al w n vf vo er) (k : WOut T c fa al w' n' vf' vo' er') : n = n' ∧ er = er' ∧ ∃ x : Exe, (x.from'.length ≤ 100000 ∧ x.order.length ≤ 100000 ∧ ∀ y ∈ x.order, y.length ≤ 100000) ∧ ExeAt w vf vo x ∧ ExeAt w' vf' vo' x := by
  have z0 : (⟨[], []⟩ : Exe).from'.length ≤ 100000 ∧ (⟨[], []⟩ : Exe).order.length ≤ 100000 ∧ ∀ y ∈ (⟨[], []⟩ : Exe).order, y.length ≤ 100000 := ⟨by simp, by simp, fun y hy => by cases hy⟩
  rcases h with ⟨h1, h2, h3, h4⟩ | ⟨h1, h2, h3⟩ <;> rcases k with ⟨k1, k2, k3, k4⟩ | ⟨k1, k2, k3⟩
  · exact ⟨h2.trans k2.symm, h3.trans k3.symm, _, z0, h4, k4⟩
  · exact absurd k1 h1
  · exact absurd h1 k1
  · rcases h3 with ⟨a1, a2, a3⟩ | ⟨p, a1, a2, a3⟩ <;> rcases k3 with ⟨b1, b2, b3⟩ | ⟨q, b1, b2, b3⟩
    · exact ⟨a2.trans b2.symm, h2.trans k2.symm, _, z0, a3, b3⟩
    · rw [a1] at b1; cases b1
    · rw [a1] at b1; cases b1
    · rw [a1] at b1
      cases b1
      refine ⟨a2.trans b2.symm, h2.trans k2.symm, _, ?_, a3, b3⟩
      have hz : ((chk T c).1 == 0) = true := by simpa using h1
      have hE := (fits_of hz).el
      have hx := exN_isEx (evsT T 0) p
      refine ⟨?_, by have := hx.o3; omega, fun y hy => ?_⟩
      · have h4 := hx.f; have h5 := rdsX_len (evsT T 0) 0; omega
      · obtain ⟨j, hj⟩ := List.mem_iff_getElem?.1 hy
        have := hx.len hE hj
        omega

end Go.Proofs.YtomijmikkbhgmaaGreat

namespace Go.Proofs.YtomijmikkbhgmaaGreat
open Go.RowKit

theorem verV_form (T : List (List Ins)) (c : List Atm) (fa : Bool) (al : Nat → Bool) : ∃ (a b d : Int) (e : Bool) (er : Int), verV T c fa al = .tuple #[.agg #[.int .i64 a, .int .i64 b, .int .i64 d, .bool e], .int .i64 er] := by
  unfold verV
  split
  · exact ⟨_, _, _, _, _, rfl⟩
  · exact ⟨_, _, _, _, _, rfl⟩

set_option maxRecDepth 20000 in
set_option maxHeartbeats 4000000 in
theorem decided_any (T : List (List Ins)) (fa : Bool) (c : List Atm) (vt vc : Value) (w : World) (h : TestAt w (.agg #[vt, .bool fa, vc]) T fa c vt vc) :
    Calls Tryz.prog 12 #[.agg #[vt, .bool fa, vc]] w fun e w' => e = .returned (.bool true) ∧ Below w.heap.size w w' := by
  obtain ⟨al, hal⟩ := als_ex T (evsT T 0)
  have HC1 : Hid (∀ w', Below w.heap.size w w' → Calls Tryz.prog 17 #[.agg #[vt, .bool fa, vc]] w' fun e w'' => ∃ vt' vc', e = .returned (.agg #[vt', .bool fa, vc']) ∧ Hid (TestAt w'' (.agg #[vt', .bool fa, vc']) T fa c vt' vc') ∧ Below w'.heap.size w' w'') := fun w' hb => copy_any T fa c _ vt vc w' (h.keep hb)
  have HV1 : Hid (∀ w' vt' vc', TestAt w' (.agg #[vt', .bool fa, vc']) T fa c vt' vc' → Calls Tryz.prog 24 #[.agg #[vt', .bool fa, vc']] w' fun e w'' => e = .returned (verV T c fa al) ∧ Below w'.heap.size w' w'') := fun w' vt' vc' ht => verdictP_any T fa c al hal vt' vc' w' ht
  have HV2 : Hid (∀ w', Below w.heap.size w w' → Calls Tryz.prog 25 #[.agg #[vt, .bool fa, vc]] w' fun e w'' => e = .returned (verV T c fa al) ∧ Below w'.heap.size w' w'') := fun w' hb => verdictR_any T fa c al hal vt vc w' (h.keep hb)
  have HW1 : Hid (∀ w' vt' vc', TestAt w' (.agg #[vt', .bool fa, vc']) T fa c vt' vc' → Calls Tryz.prog 27 #[.agg #[vt', .bool fa, vc']] w' fun e w'' => ∃ (n : Int) (vf vo : Value) (er : Int), e = .returned (.tuple #[.int .i64 n, .agg #[vf, vo], .int .i64 er]) ∧ WOut T c fa al w'' n vf vo er ∧ Below w'.heap.size w' w'') := fun w' vt' vc' ht => witnessP_any T fa c al hal vt' vc' w' ht
  have HW2 : Hid (∀ w', Below w.heap.size w w' → Calls Tryz.prog 28 #[.agg #[vt, .bool fa, vc]] w' fun e w'' => ∃ (n : Int) (vf vo : Value) (er : Int), e = .returned (.tuple #[.int .i64 n, .agg #[vf, vo], .int .i64 er]) ∧ WOut T c fa al w'' n vf vo er ∧ Below w'.heap.size w' w'') := fun w' hb => witnessR_any T fa c al hal vt vc w' (h.keep hb)
  have HONE : Hid (∀ w1 w2 n vf vo er n' vf' vo' er', WOut T c fa al w1 n vf vo er → WOut T c fa al w2 n' vf' vo' er' → (n = n' ∧ er = er' ∧ (∃ a l p, vf = .slice a l p) ∧ (∃ a l p, vo = .slice a l p) ∧ (∃ a l p, vf' = .slice a l p) ∧ (∃ a l p, vo' = .slice a l p)) ∧ ∀ w3, Below w1.heap.size w1 w3 → Below w2.heap.size w2 w3 → Calls Tryz.prog 29 #[.agg #[vf, vo], .agg #[vf', vo']] w3 fun e w'' => e = .returned (.bool true) ∧ Below w3.heap.size w3 w'') := fun w1 w2 n vf vo er n' vf' vo' er' h k => by
    obtain ⟨e1, e2, x, ⟨l1, l2, l3⟩, hx, hx'⟩ := h.same k
    obtain ⟨a1, p1, f1⟩ := hx.f.form
    obtain ⟨a2, b2, o2, p2, hs2⟩ := hx.o
    obtain ⟨a3, p3, f3⟩ := hx'.f.form
    obtain ⟨a4, b4, o4, p4, hs4⟩ := hx'.o
    exact ⟨⟨e1, e2, ⟨a1, _, p1, f1⟩, ⟨a2, _, p2, hs2.hv⟩, ⟨a3, _, p3, f3⟩, ⟨a4, _, p4, hs4.hv⟩⟩, fun w3 hb1 hb2 => sameExec_any x l1 l2 l3 _ _ _ _ w3 (hx.keep hb1) (hx'.keep hb2)⟩
  obtain ⟨ra, rb, rd, re, er, hver⟩ := verV_form T c fa al
  rw [hver] at HV1 HV2
  generalize WOut T c fa al = J at HW1 HW2 HONE
  obtain ⟨ht0, aot, bt, offt, capt, htv, _⟩ := h.ht.opened
  obtain ⟨hc0, aoc, bc, offc, capc, hsc⟩ := h.hc
  have hcv := hsc.hv
  subst htv hcv
  clear h hsc hal hver
  have HSR : Hid (∀ w', Calls Tryz.prog 26 #[.agg #[.int .i64 ra, .int .i64 rb, .int .i64 rd, .bool re], .agg #[.int .i64 ra, .int .i64 rb, .int .i64 rd, .bool re]] w' fun e w'' => e = .returned (.bool true) ∧ Below w'.heap.size w' w'') := fun w' => sameReport_any ra rb rd re w'
  have k0 : (er == er) = true := by simp
  go_enter Tryz.func12, Tryz.ntmps12
  go_wp2_with fail
  have hba := below_alloc w (.cells #[.slice aot T.length capt, .bool fa, .slice aoc c.length capc] 25)
  refine (HC1.out _ hba).mono ?_
  rintro e w3 ⟨vt3, vc3, rfl, ht3, hb3⟩
  go_wp2_with fail
  refine (HV1.out w3 vt3 vc3 ht3.out).mono ?_
  rintro e w4 ⟨rfl, hb4⟩
  have hb34 := below_more hb3 hb4
  have t0 := keep_cell hb34 (b := w.heap.size) (off := 0) (u := .slice aot T.length capt) (by simp)
  have t1 := keep_cell hb34 (b := w.heap.size) (off := 1) (u := .bool fa) (by simp)
  have t2 := keep_cell hb34 (b := w.heap.size) (off := 2) (u := .slice aoc c.length capc) (by simp)
  have hbw4 := below_more hba hb34
  have m0 := World.block_lt_of_cell? _ _ t0
  simp only at m0
  clear ht3 hb3 hb4 hb34
  -- the report in a block of its own
  have hba4 := below_alloc w4 (.cells #[.int .i64 ra, .int .i64 rb, .int .i64 rd, .bool re] 60)
  have hbw5 := below_more hbw4 hba4
  go_wp2_with fail
  refine (HV2.out _ hbw5).mono ?_
  rintro e w6 ⟨rfl, hb6⟩
  have x0 := keep_cell hb6 (b := w4.heap.size) (off := 0) (u := .int .i64 ra) (by simp)
  have x1 := keep_cell hb6 (b := w4.heap.size) (off := 1) (u := .int .i64 rb) (by simp)
  have x2 := keep_cell hb6 (b := w4.heap.size) (off := 2) (u := .int .i64 rd) (by simp)
  have x3 := keep_cell hb6 (b := w4.heap.size) (off := 3) (u := .bool re) (by simp)
  have hb46 := below_more hba4 hb6
  replace t0 := keep_cell hb46 t0
  replace t1 := keep_cell hb46 t1
  replace t2 := keep_cell hb46 t2
  have hbw6 := below_more hbw4 hb46
  have mx := World.block_lt_of_cell? _ _ x0
  simp only at mx
  generalize w4.heap.size = B4 at x0 x1 x2 x3 mx m0 ⊢
  have hba6 := below_alloc w6 (.cells #[.int .i64 ra, .int .i64 rb, .int .i64 rd, .bool re] 60)
  clear hb6 hba4 hbw5 hb46 hbw4
  go_wp2_with fail
  refine (HSR.out _).mono ?_
  rintro e w7 ⟨rfl, hb7⟩
  have hb67 := below_more hba6 hb7
  replace t0 := keep_cell hb67 t0
  replace t1 := keep_cell hb67 t1
  replace t2 := keep_cell hb67 t2
  have hbw7 := below_more hbw6 hb67
  clear x0 x1 x2 x3 hb7 hb67 hba6 hbw6 mx
  go_wp2_with fail
  refine (HC1.out w7 hbw7).mono ?_
  rintro e w8 ⟨vt8, vc8, rfl, ht8, hb8⟩
  go_wp2_with fail
  refine (HW1.out w8 vt8 vc8 ht8.out).mono ?_
  rintro e w9 ⟨n9, vf9, vo9, er9, rfl, hj9, hb9⟩
  have hb79 := below_more hb8 hb9
  replace t0 := keep_cell hb79 t0
  replace t1 := keep_cell hb79 t1
  replace t2 := keep_cell hb79 t2
  have hbw9 := below_more hbw7 hb79
  clear ht8 hb8 hb9 hb79 hbw7
  obtain ⟨⟨_, _, ⟨a1, l1, p1, hf9⟩, ⟨a2, l2, p2, ho9⟩, _, _⟩, _⟩ := HONE.out _ _ _ _ _ _ _ _ _ _ hj9 hj9
  subst hf9 ho9
  have HJ9 : Hid (J w9 n9 (.slice a1 l1 p1) (.slice a2 l2 p2) er9) := hj9
  clear hj9
  have hba9 := below_alloc w9 (.cells #[.slice a1 l1 p1, .slice a2 l2 p2] 29)
  have hbw10 := below_more hbw9 hba9
  have m9 := World.block_lt_of_cell? _ _ t0
  simp only at m9
  go_wp2_with fail
  refine (HW2.out _ hbw10).mono ?_
  rintro e w11 ⟨n11, vf11, vo11, er11, rfl, hj11, hb11⟩
  have y0 := keep_cell hb11 (b := w9.heap.size) (off := 0) (u := .slice a1 l1 p1) (by simp)
  have y1 := keep_cell hb11 (b := w9.heap.size) (off := 1) (u := .slice a2 l2 p2) (by simp)
  have hb911 := below_more hba9 hb11
  obtain ⟨⟨e1, e2, _, _, ⟨a3, l3, p3, hf11⟩, ⟨a4, l4, p4, ho11⟩⟩, hse⟩ := HONE.out _ _ _ _ _ _ _ _ _ _ HJ9.out hj11
  subst hf11 ho11 e1 e2
  have hba11 := below_alloc w11 (.cells #[.slice a3 l3 p3, .slice a4 l4 p4] 29)
  have HSE : Hid (Calls Tryz.prog 29 #[.agg #[.slice a1 l1 p1, .slice a2 l2 p2], .agg #[.slice a3 l3 p3, .slice a4 l4 p4]] (w11.alloc (.cells #[.slice a3 l3 p3, .slice a4 l4 p4] 29)) fun e w'' => e = .returned (.bool true) ∧ Below (w11.alloc (.cells #[.slice a3 l3 p3, .slice a4 l4 p4] 29)).heap.size (w11.alloc (.cells #[.slice a3 l3 p3, .slice a4 l4 p4] 29)) w'') := hse _ (below_more hb911 hba11) hba11
  have hbw12 := below_more (below_more hbw9 hb911) hba11
  have my := World.block_lt_of_cell? _ _ y0
  simp only at my
  generalize w9.heap.size = B9 at y0 y1 my ⊢
  have k1 : (n9 == n9) = true := by simp
  have k2 : (er9 == er9) = true := by simp
  clear hse hj11 HJ9 t0 t1 t2 hb11
  go_wp2_with fail
  refine HSE.out.mono ?_
  rintro e w13 ⟨rfl, hb13⟩
  go_wp2_with fail
  go_ret
  exact ⟨rfl, below_more hbw12 hb13⟩

end Go.Proofs.YtomijmikkbhgmaaGreat
