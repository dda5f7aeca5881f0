import Derived.Test.YtomijmikkbhgmabGreatT46
import Derived.Test.YtomijmikkbhgmabGreatT7
import Derived.Test.YtomijmikkbhgmabGreatT13
namespace Go.Proofs.YtomijmikkbhgmabGreat
open Go.RowKit

set_option maxRecDepth 20000 in
set_option maxHeartbeats 4000000 in
theorem verdictP_any (T : List (List Ins)) (fa : Bool) (c : List Atm) (al : Nat → Bool) (hal : Als T (evsT T 0) al) (vt vc : Value) (w : World) (h : TestAt w (.agg #[vt, .bool fa, vc]) T fa c vt vc) :
    Calls Tryz.prog 9 #[.agg #[vt, .bool fa, vc]] w fun e w' => e = .returned (verV T c fa al) ∧ Below w.heap.size w w' := by
  have HT : Hid (TestAt w (.agg #[vt, .bool fa, vc]) T fa c vt vc) := h
  have HLS : Hid (((chk T c).1 == 0) = true → ∀ w', Below w.heap.size w w' → Calls Tryz.prog 19 #[vt] w' fun e w'' => ∃ u, e = .returned u ∧ Ev4Cap w'' u (evsT T 0) ∧ Below w'.heap.size w' w'') := fun hz w' hb => list_cap T vt w' (h.ht.keep hb) (fits_of hz).short.t4 (fits_of hz).lens
  have HOF : Hid (((chk T c).1 == 0) = true → ∀ (u : Value) (w' : World), Below w.heap.size w w' → Ev4Cap w' u (evsT T 0) → Calls Tryz.prog 24 #[.agg #[vt, .bool fa, vc], u] w' fun e w'' => e = .returned (repV (gdN T.length c (optL al T (evsT T 0) (sizeN (evsT T 0)))) (bdN T.length c (optL al T (evsT T 0) (sizeN (evsT T 0)))) fa) ∧ Below w'.heap.size w' w'') := fun hz u w' hb hu => verdictOf_any T fa c hz al hal vt vc u w' (h.keep hb) hu
  have HJ : Hid (verV T c fa al = if (chk T c).1 == 0 then .tuple #[repV (gdN T.length c (optL al T (evsT T 0) (sizeN (evsT T 0)))) (bdN T.length c (optL al T (evsT T 0) (sizeN (evsT T 0)))) fa, .int .i64 0] else .tuple #[noRep, .int .i64 (chk T c).1]) := rfl
  generalize verV T c fa al = J at HJ ⊢
  generalize gdN T.length c (optL al T (evsT T 0) (sizeN (evsT T 0))) = G at HJ HOF
  generalize bdN T.length c (optL al T (evsT T 0) (sizeN (evsT T 0))) = Bd at HJ HOF
  generalize evsT T 0 = E at HLS HOF
  have HRP : Hid (repV G Bd fa = .agg #[.int .i64 (if G == 0 then 0 else if Bd == 0 then 2 else 1), .int .i64 G, .int .i64 Bd, .bool (if fa then Bd == 0 else decide (0 < G))]) := rfl
  generalize repV G Bd fa = RP at HJ HOF HRP
  generalize (if G == 0 then (0 : Int) else if Bd == 0 then 2 else 1) = nm at HRP
  generalize (if fa then Bd == 0 else decide (0 < G)) = hd at HRP
  have hrp := HRP.out
  subst hrp
  clear HRP
  generalize hq : chk T c = q at HLS HOF HJ
  have HQ : Hid (chk T c = q) := hq
  clear hq h
  go_enter Tryz.func9, Tryz.ntmps9
  go_wp2_with fail
  have hba := below_two w (.cells #[vt, .bool fa, vc] 25) (.cells #[.int .i64 0, .int .i64 0, .int .i64 0, .bool false] 42)
  refine (find_any T fa c _ vt vc _ (HT.out.keep hba)).mono ?_
  rw [HQ.out]
  rintro e w3 ⟨rfl, hb3⟩
  unfold fault2
  have hbw3 := below_more hba hb3
  have t0 := keep_cell hb3 (b := w.heap.size) (off := 0) (u := vt) (by simp)
  have t1 := keep_cell hb3 (b := w.heap.size) (off := 1) (u := .bool fa) (by simp)
  have t2 := keep_cell hb3 (b := w.heap.size) (off := 2) (u := vc) (by simp)
  have HR3 : Hid (RepC w3 (w.heap.size + 1) 0 0 0 false) := by
    refine RepC.keep (w := (w.alloc (.cells #[vt, .bool fa, vc] 25)).alloc (.cells #[.int .i64 0, .int .i64 0, .int .i64 0, .bool false] 42)) ⟨?_, ?_, ?_, ?_, ?_, ?_, ?_, ?_⟩ hb3 <;> simp
  have s0 := World.block_lt_of_cell? _ _ t0
  simp only at s0
  have s3 := HR3.out.lt
  clear hb3
  cases hz : q.1 == 0
  · have hz2 : (q.1 != 0) = true := by simp [bne, hz]
    have HM : Hid (J = .tuple #[noRep, .int .i64 q.1]) := HJ.out.trans (by rw [hz]; rfl)
    obtain ⟨c0, c1, c2, c3, f0, f1, f2, f3⟩ := HR3.out
    clear HJ
    go_wp2_with fail
    go_region
    all_goals
      go_wp2_with fail
      refine bodyPost_ret (v := .tuple #[.agg #[.int .i64 0, .int .i64 0, .int .i64 0, .bool false], .int .i64 q.1]) (by simp [results, Tryz.results9, go_sem, *]) rfl ⟨by rw [HM.out]; rfl, ?_⟩
      exact Below.drew ((((((hbw3.setCell (by simp) _).setCell (by simp) _).setCell (by simp) _).setCell (by simp) _).alloc (by simp [World.setCell]; omega) _))
  · have hz2 : (q.1 != 0) = false := by simp [bne, hz]
    have HM : Hid (J = .tuple #[.agg #[.int .i64 nm, .int .i64 G, .int .i64 Bd, .bool hd], .int .i64 0]) := HJ.out.trans (by rw [hz]; rfl)
    have HL2 : Hid (∀ w', Below w.heap.size w w' → Calls Tryz.prog 19 #[vt] w' fun e w'' => ∃ u, e = .returned u ∧ Ev4Cap w'' u E ∧ Below w'.heap.size w' w'') := HLS.out hz
    have HO2 : Hid (∀ (u : Value) (w' : World), Below w.heap.size w w' → Ev4Cap w' u E → Calls Tryz.prog 24 #[.agg #[vt, .bool fa, vc], u] w' fun e w'' => e = .returned (.agg #[.int .i64 nm, .int .i64 G, .int .i64 Bd, .bool hd]) ∧ Below w'.heap.size w' w'') := HOF.out hz
    clear HJ HLS HOF
    have hbw4 := hbw3.alloc hbw3.size (.cells #[.int .i64 q.1, .int .i64 q.2] 60)
    have hb34 := below_alloc w3 (.cells #[.int .i64 q.1, .int .i64 q.2] 60)
    go_wp2_with fail
    refine (HL2.out _ hbw4).mono ?_
    rintro e w5 ⟨u5, rfl, hu5, hb5⟩
    have HU5 : Hid (Ev4Cap w5 u5 E) := hu5
    have hbw5 := below_more hbw4 hb5
    have hb35 := below_more hb34 hb5
    replace t0 := keep_cell hb35 t0
    replace t1 := keep_cell hb35 t1
    replace t2 := keep_cell hb35 t2
    have HR5 : Hid (RepC w5 (w.heap.size + 1) 0 0 0 false) := HR3.out.keep hb35
    clear hu5 hb5 hb34 hbw4 hbw3 hb35 HR3
    go_wp2_with fail
    refine (HO2.out u5 w5 hbw5 HU5.out).mono ?_
    rintro e w6 ⟨rfl, hb6⟩
    have hbw6 := below_more hbw5 hb6
    obtain ⟨c0, c1, c2, c3, f0, f1, f2, f3⟩ := HR5.out.keep hb6
    clear hb6 t0 t1 t2 HR5
    go_wp2_with fail
    refine bodyPost_ret (v := .tuple #[.agg #[.int .i64 nm, .int .i64 G, .int .i64 Bd, .bool hd], .int .i64 0]) (by simp [results, Tryz.results9, go_sem, *]) rfl ⟨by rw [HM.out], ?_⟩
    exact (((hbw6.setCell (by simp) _).setCell (by simp) _).setCell (by simp) _).setCell (by simp) _

set_option maxRecDepth 20000 in
set_option maxHeartbeats 4000000 in
theorem witnessP_any (T : List (List Ins)) (fa : Bool) (c : List Atm) (al : Nat → Bool) (hal : Als T (evsT T 0) al) (vt vc : Value) (w : World) (h : TestAt w (.agg #[vt, .bool fa, vc]) T fa c vt vc) :
    Calls Tryz.prog 11 #[.agg #[vt, .bool fa, vc]] w fun e w' => ∃ (n : Int) (vf vo : Value) (er : Int), e = .returned (.tuple #[.int .i64 n, .agg #[vf, vo], .int .i64 er]) ∧ WOut T c fa al w' n vf vo er ∧ Below w.heap.size w w' := by
  have HT : Hid (TestAt w (.agg #[vt, .bool fa, vc]) T fa c vt vc) := h
  have HLS : Hid (((chk T c).1 == 0) = true → ∀ w', Below w.heap.size w w' → Calls Tryz.prog 19 #[vt] w' fun e w'' => ∃ u, e = .returned u ∧ Ev4Cap w'' u (evsT T 0) ∧ Below w'.heap.size w' w'') := fun hz w' hb => list_cap T vt w' (h.ht.keep hb) (fits_of hz).short.t4 (fits_of hz).lens
  have HOF : Hid (((chk T c).1 == 0) = true → ∀ (u : Value) (w' : World), Below w.heap.size w w' → Ev4Cap w' u (evsT T 0) → Calls Tryz.prog 25 #[.agg #[vt, .bool fa, vc], u] w' fun e w'' => ∃ (n : Int) (vf vo u : Value), e = .returned (.agg #[.int .i64 n, vf, vo, u]) ∧ WX (evsT T 0) (witL T.length c fa (optL al T (evsT T 0) (sizeN (evsT T 0))) 0) w'' n vf vo ∧ (∃ a l p, u = .slice a l p) ∧ Below w'.heap.size w' w'') := fun hz u w' hb hu => verdictWit_any T fa c hz al hal vt vc u w' (h.keep hb) hu
  have HJ : Hid (∀ w' n vf vo er, WOut T c fa al w' n vf vo er ↔ ((chk T c).1 ≠ 0 ∧ n = 0 ∧ er = (chk T c).1 ∧ ExeAt w' vf vo ⟨[], []⟩) ∨ ((chk T c).1 = 0 ∧ er = 0 ∧
    ((witL T.length c fa (optL al T (evsT T 0) (sizeN (evsT T 0))) 0 = none ∧ n = -1 ∧ ExeAt w' vf vo ⟨[], []⟩) ∨
      ∃ k, witL T.length c fa (optL al T (evsT T 0) (sizeN (evsT T 0))) 0 = some k ∧ n = (k : Int) ∧ ExeAt w' vf vo (exN (evsT T 0) k)))) := fun _ _ _ _ _ => Iff.rfl
  generalize WOut T c fa al = J at HJ ⊢
  generalize witL T.length c fa (optL al T (evsT T 0) (sizeN (evsT T 0))) 0 = WL at HJ HOF
  generalize evsT T 0 = E at HLS HOF HJ
  generalize hq : chk T c = q at HLS HOF HJ
  have HQ : Hid (chk T c = q) := hq
  clear hq h
  go_enter Tryz.func11, Tryz.ntmps11
  go_wp2_with fail
  refine (find_any T fa c _ vt vc _ (HT.out.keep (below_two _ _ _))).mono ?_
  rw [HQ.out]
  rintro e w3 ⟨rfl, hb3⟩
  unfold fault2
  have hbw3 := below_more (below_two w (.cells #[vt, .bool fa, vc] 25) (.cells #[.slice none 0 0, .slice none 0 0] 47)) hb3
  simp only [World.size_alloc] at hb3
  have HNC : Hid (∀ o z, w3.cell? ⟨w.heap.size + 1, o, none⟩ = some z → z = .slice none 0 0 ∧ o < 2) := nil_cells hb3
  obtain ⟨t0, t1, t2, d0, d1, f0, f1, s2, s3⟩ := own5 hb3
  clear hb3
  cases hz : q.1 == 0
  · have hz2 : (q.1 != 0) = true := by simp [bne, hz]
    have HM : Hid (∀ w', J w' 0 (.slice none 0 0) (.slice none 0 0) q.1) := fun w' => (HJ.out w' _ _ _ _).2 (.inl ⟨by simpa using hz, rfl, rfl, exe_nil _⟩)
    clear HJ
    go_wp2_with fail
    go_region
    all_goals
      go_wp2_with fail
      refine bodyPost_ret (v := .tuple #[.int .i64 0, .agg #[.slice none 0 0, .slice none 0 0], .int .i64 q.1]) (by simp [results, Tryz.results11, go_sem, *]) rfl ⟨_, _, _, _, rfl, HM.out _, ?_⟩
      exact Below.drew ((((hbw3.setCell (by simp) _).setCell (by simp) _).alloc (by simp [World.setCell]; omega) _))
  · have hz2 : (q.1 != 0) = false := by simp [bne, hz]
    have hq0 : q.1 = 0 := by simpa using hz
    have HJN : Hid (∀ w', WL = none → J w' (-1) (.slice none 0 0) (.slice none 0 0) 0) := fun w' hn => (HJ.out w' _ _ _ _).2 (.inr ⟨hq0, rfl, .inl ⟨hn, rfl, exe_nil _⟩⟩)
    have HJS : Hid (∀ w' k vf vo, WL = some k → ExeAt w' vf vo (exN E k) → J w' (k : Int) vf vo 0) := fun w' k vf vo hn hx => (HJ.out w' _ _ _ _).2 (.inr ⟨hq0, rfl, .inr ⟨k, hn, rfl, hx⟩⟩)
    have HL2 : Hid (∀ w', Below w.heap.size w w' → Calls Tryz.prog 19 #[vt] w' fun e w'' => ∃ u, e = .returned u ∧ Ev4Cap w'' u E ∧ Below w'.heap.size w' w'') := HLS.out hz
    have HO2 : Hid (∀ (u : Value) (w' : World), Below w.heap.size w w' → Ev4Cap w' u E → Calls Tryz.prog 25 #[.agg #[vt, .bool fa, vc], u] w' fun e w'' => ∃ (n : Int) (vf vo u : Value), e = .returned (.agg #[.int .i64 n, vf, vo, u]) ∧ WX E WL w'' n vf vo ∧ (∃ a l p, u = .slice a l p) ∧ Below w'.heap.size w' w'') := HOF.out hz
    clear HJ HLS HOF hq0
    have hbw4 := hbw3.alloc hbw3.size (.cells #[.int .i64 q.1, .int .i64 q.2] 60)
    have hb34 := below_alloc w3 (.cells #[.int .i64 q.1, .int .i64 q.2] 60)
    go_wp2_with fail
    refine (HL2.out _ hbw4).mono ?_
    rintro e w5 ⟨u5, rfl, hu5, hb5⟩
    have HU5 : Hid (Ev4Cap w5 u5 E) := hu5
    have hbw5 := below_more hbw4 hb5
    have hb35 := below_more hb34 hb5
    replace t0 := keep_cell hb35 t0
    replace t1 := keep_cell hb35 t1
    replace t2 := keep_cell hb35 t2
    clear hu5 hb5 hb34 hbw4 hbw3
    go_wp2_with fail
    refine (HO2.out u5 w5 hbw5 HU5.out).mono ?_
    rintro e w6 ⟨n, vf, vo, u6, rfl, hwx, ⟨a6, l6, p6, rfl⟩, hb6⟩
    have hbw6 := below_more hbw5 hb6
    have hb36 := below_more hb35 hb6
    replace d0 := keep_cell hb36 d0
    replace d1 := keep_cell hb36 d1
    replace f0 := (hb36.frozen (p := ⟨w.heap.size + 1, 0, none⟩) s3).trans f0
    replace f1 := (hb36.frozen (p := ⟨w.heap.size + 1, 1, none⟩) s3).trans f1
    have HNC6 : Hid (∀ o z, w6.cell? ⟨w.heap.size + 1, o, none⟩ = some z → z = .slice none 0 0 ∧ o < 2) := fun o z hz => HNC.out o z (by rw [← hb36.cell (p := ⟨w.heap.size + 1, o, none⟩) s3]; exact hz)
    have s6 : w.heap.size + 1 < w6.heap.size := Nat.lt_of_lt_of_le s3 hb36.size
    clear t0 t1 t2 HNC hb36 hb35 hb6 s2 s3
    rcases hwx with ⟨h1, rfl, rfl, rfl⟩ | ⟨k, h1, rfl, hx⟩
    · have HW : Hid (WL = none) := h1
      clear h1
      go_wp2_with fail
      go_region
      all_goals
        go_wp2_with fail
        refine bodyPost_ret (v := .tuple #[.int .i64 (-1), .agg #[.slice none 0 0, .slice none 0 0], .int .i64 0]) (by simp [results, Tryz.results11, go_sem, *]) rfl ⟨_, _, _, _, rfl, HJN.out _ HW.out, ?_⟩
        exact Below.drew ((((hbw6.setCell (by simp) _).setCell (by simp) _).alloc (by simp [World.setCell]; omega) _))
    · have HW : Hid (WL = some k) := h1
      obtain ⟨aof, cf, hff⟩ := hx.f.form
      obtain ⟨aoo, bo, oo, co, hso⟩ := hx.o
      have hfo := hso.hv
      subst hff hfo
      have HXX : Hid (ExeAt w6 (.slice aof (exN E k).from'.length cf) (.slice aoo (exN E k).order.length co) (exN E k)) := hx
      have HO3 : Hid ((exN E k).order.length = 3) := by show _ = _; rfl
      generalize hl1 : (exN E k).from'.length = l1 at HXX
      generalize hl2 : (exN E k).order.length = l2 at HXX
      clear h1 hx hso hl1 hl2
      go_wp2_with fail
      go_region
      all_goals
        go_wp2_with fail
        refine bodyPost_ret (v := .tuple #[.int .i64 k, .agg #[.slice aof l1 cf, .slice aoo l2 co], .int .i64 0]) (by simp [results, Tryz.results11, go_sem, *]) rfl ⟨_, _, _, _, rfl, HJS.out _ k _ _ HW.out ?_, ?_⟩
        · refine ExeAt.keep (w := (w6.setCell ⟨w.heap.size + 1, 0, none⟩ (.slice aof l1 cf)).setCell ⟨w.heap.size + 1, 1, none⟩ (.slice aoo l2 co)) (exe_store HXX.out HO3.out HNC6.out (fun b hb => by rw [Below.heap_setCell _ _ _ _ hb, Below.heap_setCell _ _ _ _ hb])) ?_
          exact (below_alloc _ _).drew
        · exact Below.drew ((((hbw6.setCell (by simp) _).setCell (by simp) _).alloc (by simp [World.setCell]; omega) _))

theorem WOut.same {T : List (List Ins)} {c : List Atm} {fa : Bool} {al : Nat → Bool} {w w' : World} {n n' : Int} {vf vo vf' vo' : Value} {er er' : Int} (h : WOut T c fa al w n vf vo er) (k : WOut T c fa al w' n' vf' vo' er') : n = n' ∧ er = er' ∧ ∃ x : Exe, (x.from'.length ≤ 100000 ∧ x.order.length ≤ 100000 ∧ ∀ y ∈ x.order, y.length ≤ 100000) ∧ ExeAt w vf vo x ∧ ExeAt w' vf' vo' x := by
  have z0 : (⟨[], []⟩ : Exe).from'.length ≤ 100000 ∧ (⟨[], []⟩ : Exe).order.length ≤ 100000 ∧ ∀ y ∈ (⟨[], []⟩ : Exe).order, y.length ≤ 100000 := ⟨by simp, by simp, fun y hy => by cases hy⟩
  rcases h with ⟨h1, h2, h3, h4⟩ | ⟨h1, h2, h3⟩ <;> rcases k with ⟨k1, k2, k3, k4⟩ | ⟨k1, k2, k3⟩
  · exact ⟨h2.trans k2.symm, h3.trans k3.symm, _, z0, h4, k4⟩
  · exact absurd k1 h1
  · exact absurd h1 k1
  · rcases h3 with ⟨a1, a2, a3⟩ | ⟨p, a1, a2, a3⟩ <;> rcases k3 with ⟨b1, b2, b3⟩ | ⟨q, b1, b2, b3⟩
    · exact ⟨a2.trans b2.symm, h2.trans k2.symm, _, z0, a3, b3⟩
    · rw [a1] at b1; cases b1
    · rw [a1] at b1; cases b1
    · rw [a1] at b1
      cases b1
      refine ⟨a2.trans b2.symm, h2.trans k2.symm, _, ?_, a3, b3⟩
      have hz : ((chk T c).1 == 0) = true := by simpa using h1
      have hE := (fits_of hz).el
      have hx := exN_isEx (evsT T 0) p
      refine ⟨?_, by have := hx.o3; omega, fun y hy => ?_⟩
      · have h4 := hx.f; have h5 := rdsX_len (evsT T 0) 0; omega
      · obtain ⟨j, hj⟩ := List.mem_iff_getElem?.1 hy
        have := hx.len hE hj
        omega

end Go.Proofs.YtomijmikkbhgmabGreat

namespace Go.Proofs.YtomijmikkbhgmabGreat
open Go.RowKit

theorem IntAt.opened {w : World} {v : Value} {l : List Int} (h : IntAt w v l) : ∃ ao b off cap, SlAt w 1 IntC v l ao b off cap := h

set_option maxHeartbeats 1000000 in
theorem place_any (x : Exe) (h1 : x.from'.length ≤ 1000) (h2 : x.order.length ≤ 1000) (h3 : ∀ y ∈ x.order, y.length ≤ 1000) (vf vo : Value) (w : World) (h : ExeAt w vf vo x) :
    Calls Tryz.prog 14 #[.agg #[vf, vo]] w fun e w' => ∃ u, e = .returned u ∧ IntAt w' u (plc x) ∧ Below w.heap.size w w' := by
  obtain ⟨ao, b, off, cap, hs⟩ := h.f
  obtain ⟨ao2, b2, off2, cap2, hv2, ha2, _, hc2⟩ := h.o
  have hv := hs.hv
  subst hv hv2
  have HS : Hid (SlAt w 1 IntC (.slice ao x.from'.length cap) x.from' ao b off cap) := hs
  have HC : Hid (∀ k y, x.order[k]? = some y → LC w b2 (off2 + k * 1) y) := hc2
  have H3 : Hid (∀ y ∈ x.order, y.length ≤ 1000) := h3
  have HP : Hid (plc x = x.from' ++ x.order.flatten) := rfl
  generalize plc x = P at HP ⊢
  clear hs hc2 h h3
  obtain ⟨i0, hi, hz0, hz1, hz2⟩ := info_parts Tryz.info3
  have HI : Hid (Tryz.prog.info? 3 = some i0 ∧ i0.zero = some (.int .i64 0) ∧ i0.size = 1 ∧ i0.bytes = 8) := ⟨hi, hz0, hz1, hz2⟩
  clear hi hz0 hz1 hz2
  go_enter Tryz.func14, Tryz.ntmps14
  go_wp2_with (at_builtin; refine append_new _ rfl (.tmp 5) (.tmp 7) 37 rfl (w.heap.size + 1) 3 i0 (.int .i64 0) 1 8 Tryz.underlying37 HI.out.1 HI.out.2.1 HI.out.2.2.1 HI.out.2.2.2 rfl (by decide) (.slice none 0 0) 0 [] rfl (World.ownsRow_nil _ _ _ _) ao x.from'.length cap (x.from'.map (Value.int .i64)) rfl (fun h => ⟨by rw [(HS.out.hn h).1]; rfl, (HS.out.hn h).2⟩) (by simp) (int_cells (HS.out.keep intC_keeps (below_alloc _ _))) (ints_oneCell .i64 x.from') (by unfold maxLen; omega) (by omega) (by simp) ?_)
  intro v1 w1 hown1 hgrow1 _
  have hb1 : Below (w.heap.size + 1) (w.alloc (.cells #[.slice ao x.from'.length cap, .slice ao2 x.order.length cap2] 47)) w1 := Below.grown (Below.refl _ _) hgrow1 (by simp) (fun kk e => by simp [Value.ownBlock] at e)
  have hw1 : w1.ownsRow (w.heap.size + 1) 3 1 v1 x.from'.length (x.from'.map (Value.int .i64)) := by simpa using hown1
  have e1 := hb1.cell (p := ⟨w.heap.size, 1, none⟩) (by simp)
  simp at e1
  have hbw1 : Below w.heap.size w w1 := (below_alloc _ _).trans (hb1.mono (by omega))
  have hs1 := hb1.size
  simp at hs1
  clear hown1 hgrow1 hb1
  go_wp2_with fail
  go_loopw [3, 4] (fun u i wr => ∃ (k : Nat) (xs : List Int), k ≤ x.order.length ∧ i = .int .i64 k ∧ xs.length ≤ 1000 + k * 1000 ∧ Hid (P = xs ++ (x.order.drop k).flatten) ∧ wr.ownsRow (w.heap.size + 1) 3 1 u xs.length (xs.map (Value.int .i64)) ∧ Below w.heap.size w wr ∧ wr.cell? ⟨w.heap.size, 1, none⟩ = some (.slice ao2 x.order.length cap2) ∧ w.heap.size + 1 ≤ wr.heap.size) (fun _ i _ => x.order.length - (intOf i).toNat)
  case atStart => exact ⟨0, x.from', Nat.zero_le _, rfl, by omega, HP.out, hw1, hbw1, e1, hs1⟩
  case round =>
    clear hw1 hbw1 e1 hs1
    obtain ⟨k, xs, hk, rfl, hxk, hn, hown, hb, e1, hsz⟩ := hrel
    by_cases hlt : k < x.order.length
    · obtain ⟨y, hy⟩ := get_of_lt hlt
      obtain rfl := ha2 (ne_nil hlt)
      obtain ⟨u1, c0, i1⟩ := lc_keeps _ _ _ _ _ hb (HC.out k y hy)
      rw [Nat.mul_one] at c0
      obtain ⟨ao3, b3, off3, cap3, hs3⟩ := i1
      have hv3 := hs3.hv
      subst hv3
      have HS3 : Hid (SlAt wr 1 IntC (.slice ao3 y.length cap3) y ao3 b3 off3 cap3) := hs3
      have hyl := H3.out y (List.mem_of_getElem? hy)
      have HM : Hid (P = (xs ++ y) ++ (x.order.drop (k + 1)).flatten) := hn.out.trans (by rw [drop_cons hy]; simp)
      have hkI : (k : Int) < (x.order.length : Int) := by omega
      clear hn hy hs3
      go_wp2_with (at_builtin; refine append_new _ rfl (.tmp 16) (.tmp 21) 37 rfl (w.heap.size + 1) 3 i0 (.int .i64 0) 1 8 Tryz.underlying37 HI.out.1 HI.out.2.1 HI.out.2.2.1 HI.out.2.2.2 rfl (by decide) u3 xs.length (xs.map (Value.int .i64)) rfl hown ao3 y.length cap3 (y.map (Value.int .i64)) rfl (fun h => ⟨by rw [(HS3.out.hn h).1]; rfl, (HS3.out.hn h).2⟩) (by simp) (int_cells HS3.out) (ints_oneCell .i64 y) (by unfold maxLen; omega) (by omega) hsz ?_)
      intro u' w2 hown' hgrow _
      have hb' : Below w.heap.size w w2 := Below.grown hb hgrow (by omega) (fun kk e => by have := (hown.lt kk e).1; omega)
      have hb'' : Below (w.heap.size + 1) wr w2 := Below.grown (Below.refl _ _) hgrow hsz (fun kk e => (hown.lt kk e).1)
      have HO : Hid (w2.ownsRow (w.heap.size + 1) 3 1 u' (xs ++ y).length ((xs ++ y).map (Value.int .i64))) := by
        show w2.ownsRow _ _ _ _ _ _
        rw [List.length_append, List.map_append]; exact hown'
      have e2 : w2.cell? ⟨w.heap.size, 1, none⟩ = some (.slice (some ⟨b2, off2, none⟩) x.order.length cap2) := (hb''.cell (p := ⟨w.heap.size, 1, none⟩) (by simp)).trans e1
      have hs2 : w.heap.size + 1 ≤ w2.heap.size := Nat.le_trans hsz hb''.size
      clear hgrow hown hown' hb'' e1
      go_wp2_with fail
      go_roundw
      case measure => simp [intOf]; omega
      case rel => exact ⟨k + 1, xs ++ y, by omega, by go_num, by simp; omega, HM.out, HO.out, hb', e2, hs2⟩
    · have HM : Hid (P = xs) := hn.out.trans (by rw [drop_nil hlt]; simp)
      clear hn
      go_wp2_with fail
      go_ret
      exact ⟨_, rfl, by rw [HM.out]; exact (owns_int hown).at', hb⟩

end Go.Proofs.YtomijmikkbhgmabGreat
