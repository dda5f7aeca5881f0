import Derived.Test.YtbmlmplbhgahpaaNd
import Derived.Test.YtbmlmplbhgahpaaMa
namespace Go.Proofs.Ytbmlmplbhgahpaa
open Go.RowKit

def cErr (T : List (List Ins)) (c : List Atm) (n : Int) : Int := if (chk T c).1 == 0 then (if 0 ≤ n ∧ n < (sizeN (evsT T 0) : Int) then 0 else 6) else (chk T c).1
def cExe (T : List (List Ins)) (c : List Atm) (n : Int) : Exe := if (chk T c).1 == 0 then (if 0 ≤ n ∧ n < (sizeN (evsT T 0) : Int) then exN (evsT T 0) n.toNat else ⟨[], []⟩) else ⟨[], []⟩

theorem chk_many_no {T : List (List Ins)} {c : List Atm} (h : ((chk T c).1 == 0) = true) : sizeN (evsT T 0) ≤ 2000 := by
  have hs := chk_zero h
  cases hi : insF T 0 with
  | some p => rw [chk_ins hs hi] at h; simp at h
  | none =>
    cases hn : nstF T 0 with
    | some p => rw [chk_nst hs hi hn] at h; simp at h
    | none =>
      cases ha : atmF c 0 T.length with
      | some p => rw [chk_atm hs hi hn ha] at h; simp at h
      | none =>
        cases hm : manyB T
        · unfold manyB at hm
          simp only [Bool.or_eq_false_iff, decide_eq_false_iff_not] at hm
          have := hm.2
          unfold cap2 at this
          split at this <;> omega
        · rw [chk_many hs hi hn ha hm] at h; simp at h

theorem exe_nil (w : World) : ExeAt w (.slice none 0 0) (.slice none 0 0) ⟨[], []⟩ :=
  ⟨(intAt_nil w 0).at', none, 0, 0, 0, rfl, fun h => absurd rfl h, fun _ => ⟨rfl, rfl⟩, fun k x h => by simp at h⟩

/-- Two cells that hold no numbers, and no third one: an execution doesn't lie there. -/
theorem exe_store {w w' : World} {vf vo : Value} {x : Exe} {R : Nat} (h : ExeAt w vf vo x) (h3 : x.order.length = 3) (hR : ∀ o z, w.cell? ⟨R, o, none⟩ = some z → z = .slice none 0 0 ∧ o < 2) (hk : ∀ b : Nat, b ≠ R → w'.heap[b]? = w.heap[b]?) : ExeAt w' vf vo x := by
  have hI : ∀ (u : Value) (l : List Int), IntAt w u l → IntAt w' u l := by
    intro u l hu
    obtain ⟨ao, b, off, cap, hv, ha, hn, hc⟩ := hu
    refine ⟨ao, b, off, cap, hv, ha, hn, fun k y hy => ?_⟩
    have hc1 := hc k y hy
    unfold IntC at hc1
    have hb : b ≠ R := fun e => by subst e; have := (hR _ _ hc1).1; cases this
    exact cell_heap (hk b hb) hc1
  refine ⟨hI _ _ h.f, ?_⟩
  obtain ⟨ao, b, off, cap, hv, ha, hn, hc⟩ := h.o
  refine ⟨ao, b, off, cap, hv, ha, hn, fun k y hy => ?_⟩
  have hb : b ≠ R := by
    obtain ⟨z, hz⟩ := get_of_lt (l := x.order) (k := 2) (by omega)
    obtain ⟨u, h1, _⟩ := hc 2 z hz
    intro e
    subst e
    have := (hR _ _ h1).2
    omega
  obtain ⟨u, h1, h2⟩ := hc k y hy
  exact ⟨u, cell_heap (hk b hb) h1, hI _ _ h2⟩

theorem nil_cells {w w3 : World} {x : Obj} {t : TypeId} (hb : Below (w.heap.size + 2) ((w.alloc x).alloc (.cells #[.slice none 0 0, .slice none 0 0] t)) w3) : ∀ o z, w3.cell? ⟨w.heap.size + 1, o, none⟩ = some z → z = .slice none 0 0 ∧ o < 2 := by
  intro o z hz
  rw [hb.cell (p := ⟨w.heap.size + 1, o, none⟩) (by simp)] at hz
  have e : w.heap.size + 1 = (w.alloc x).heap.size := by simp
  rw [e, cell_of_row _ _ o _ t (0, 0) (heap_alloc_new _ _)] at hz
  match o, hz with
  | 0, hz => simp at hz; exact ⟨hz.symm, by omega⟩
  | 1, hz => simp at hz; exact ⟨hz.symm, by omega⟩
  | o + 2, hz => simp at hz

set_option maxHeartbeats 2000000 in
theorem candP_any (T : List (List Ins)) (fa : Bool) (c : List Atm) (v vt vc : Value) (n : Int) (w : World) (h : TestAt w v T fa c vt vc) :
    Calls Try.prog 15 #[v, .int .i64 n] w fun e w' => ∃ vf vo, e = .returned (.tuple #[.agg #[vf, vo], .int .i64 (cErr T c n)]) ∧ ExeAt w' vf vo (cExe T c n) ∧ Below w.heap.size w w' := by
  have HT : Hid (TestAt w v T fa c vt vc) := h
  obtain ⟨hv, _, _⟩ := h
  subst hv
  have HZ : Hid (((chk T c).1 == 0) = true → sizeB T c = true ∧ sizeN (evsT T 0) ≤ 2000) := fun h => ⟨chk_zero h, chk_many_no h⟩
  have HE : Hid (cErr T c n = if (chk T c).1 == 0 then (if 0 ≤ n ∧ n < (sizeN (evsT T 0) : Int) then 0 else 6) else (chk T c).1) := rfl
  have HX : Hid (cExe T c n = if (chk T c).1 == 0 then (if 0 ≤ n ∧ n < (sizeN (evsT T 0) : Int) then exN (evsT T 0) n.toNat else ⟨[], []⟩) else ⟨[], []⟩) := rfl
  generalize hq : chk T c = q at HZ HE HX
  have HQ : Hid (chk T c = q) := hq
  clear hq
  generalize cErr T c n = er at HE
  generalize cExe T c n = ex at HX
  go_enter Try.func15, Try.ntmps15
  go_wp2_with fail
  refine (find_any T fa c _ vt vc _ (HT.out.keep (below_two _ _ _))).mono ?_
  rw [HQ.out]
  rintro e w3 ⟨rfl, hb3⟩
  unfold fault2
  simp only [World.size_alloc] at hb3
  obtain ⟨g0, g1, g2, d0, d1, f0, f1, s2, s3⟩ := own5 hb3
  have hbw3 : Below w.heap.size w w3 := (below_two _ _ _).trans (hb3.mono (by omega))
  have HNC : Hid (∀ o z, w3.cell? ⟨w.heap.size + 1, o, none⟩ = some z → z = .slice none 0 0 ∧ o < 2) := nil_cells hb3
  clear hb3 g1 g2
  cases hz : q.1 == 0
  · have hz2 : (q.1 != 0) = true := by simp [bne, hz]
    have HE2 : Hid (er = q.1) := HE.out.trans (by rw [hz]; rfl)
    have HX2 : Hid (ex = ⟨[], []⟩) := HX.out.trans (by rw [hz]; rfl)
    clear HE HX
    go_wp2_with fail
    go_region
    all_goals
      go_wp2_with fail
      refine bodyPost_ret (v := .tuple #[.agg #[.slice none 0 0, .slice none 0 0], .int .i64 q.1]) (by simp [results, Try.results15, go_sem, *]) rfl ⟨_, _, by rw [HE2.out], by rw [HX2.out]; exact exe_nil _, ?_⟩
      exact Below.drew ((((hbw3.setCell (by simp) _).setCell (by simp) _).alloc (by simp [World.setCell]; omega) _))
  · have hz2 : (q.1 != 0) = false := by simp [bne, hz]
    have hq0 : q.1 = 0 := by simpa using hz
    obtain ⟨hsb, hN⟩ := HZ.out hz
    obtain ⟨h2, hL, _⟩ := sizeB_parts hsb
    have HL : Hid (lensB T = true) := hL
    have hEl : (evsT T 0).length ≤ 96 := by have := evsT_len T 0 HL.out; omega
    have HE2 : Hid (er = if 0 ≤ n ∧ n < (sizeN (evsT T 0) : Int) then 0 else 6) := HE.out.trans (by rw [hz]; rfl)
    have HX2 : Hid (ex = if 0 ≤ n ∧ n < (sizeN (evsT T 0) : Int) then exN (evsT T 0) n.toNat else ⟨[], []⟩) := HX.out.trans (by rw [hz]; rfl)
    clear HE HX hL hq0 hsb
    go_wp2_with fail
    refine (list_any T vt _ (HT.out.ht.keep (hbw3.alloc hbw3.size _)) h2 HL.out).mono ?_
    generalize evsT T 0 = E at hEl hN HE2 HX2
    rintro e w5 ⟨u, rfl, hu, hb5⟩
    have k5 := below_more (below_alloc w3 _) hb5
    have hbw5 := below_more hbw3 k5
    have HNC5 : Hid (∀ o z, w5.cell? ⟨w.heap.size + 1, o, none⟩ = some z → z = .slice none 0 0 ∧ o < 2) := fun o z hz => HNC.out o z (by rw [← k5.cell (p := ⟨w.heap.size + 1, o, none⟩) s3]; exact hz)
    replace d0 := keep_cell k5 d0
    replace d1 := keep_cell k5 d1
    replace f0 := (k5.frozen (p := ⟨w.heap.size + 1, 0, none⟩) s3).trans f0
    replace f1 := (k5.frozen (p := ⟨w.heap.size + 1, 1, none⟩) s3).trans f1
    have s5 : w.heap.size + 1 < w5.heap.size := by have := k5.size; omega
    clear hb5 k5 HNC g0 s3
    by_cases hn : 0 ≤ n ∧ n < (sizeN E : Int)
    · obtain ⟨n', hn'⟩ := Int.eq_ofNat_of_zero_le hn.1
      subst hn'
      have HE3 : Hid (er = 0) := HE2.out.trans (if_pos hn)
      have HX3 : Hid (ex = exN E n') := HX2.out.trans (by rw [if_pos hn]; simp)
      have hlt : n' < sizeN E := by omega
      clear HE2 HX2 hn
      go_wp2_with fail
      refine (nth_yes E hEl u n' _ hu hlt hN).mono ?_
      rintro e w6 ⟨vf, vo, rfl, hx, hb6⟩
      have HNC6 : Hid (∀ o z, w6.cell? ⟨w.heap.size + 1, o, none⟩ = some z → z = .slice none 0 0 ∧ o < 2) := fun o z hz => HNC5.out o z (by rw [← hb6.cell (p := ⟨w.heap.size + 1, o, none⟩) s5]; exact hz)
      have hbw6 := below_more hbw5 hb6
      replace d0 := keep_cell hb6 d0
      replace d1 := keep_cell hb6 d1
      replace f0 := (hb6.frozen (p := ⟨w.heap.size + 1, 0, none⟩) s5).trans f0
      replace f1 := (hb6.frozen (p := ⟨w.heap.size + 1, 1, none⟩) s5).trans f1
      obtain ⟨aof, cf, hff⟩ := hx.f.form
      obtain ⟨aoo, bo, oo, co, hso⟩ := hx.o
      have hfo := hso.hv
      subst hff hfo
      have HXX : Hid (ExeAt w6 (.slice aof (exN E n').from'.length cf) (.slice aoo (exN E n').order.length co) (exN E n')) := hx
      generalize hl1 : (exN E n').from'.length = l1 at HXX
      generalize hl2 : (exN E n').order.length = l2 at HXX
      have HL2 : Hid (l2 = 3) := hl2.symm
      clear hx hso hb6 HNC5 hl1 hl2
      go_wp2_with fail
      refine bodyPost_ret (v := .tuple #[.agg #[.slice aof l1 cf, .slice aoo l2 co], .int .i64 0]) (by simp [results, Try.results15, go_sem, *]) rfl ⟨_, _, by rw [HE3.out], ?_, ?_⟩
      · rw [HX3.out]
        exact exe_store HXX.out rfl HNC6.out (fun b hb => by rw [Below.heap_setCell _ _ _ _ hb, Below.heap_setCell _ _ _ _ hb])
      · exact (hbw6.setCell (by simp) _).setCell (by simp) _
    · have HE3 : Hid (er = 6) := HE2.out.trans (if_neg hn)
      have HX3 : Hid (ex = ⟨[], []⟩) := HX2.out.trans (if_neg hn)
      clear HE2 HX2
      go_wp2_with fail
      refine (nth_no E hEl u n _ hu (by omega) hN).mono ?_
      rintro e w6 ⟨rfl, hb6⟩
      unfold noExe
      have hbw6 := below_more hbw5 hb6
      replace d0 := keep_cell hb6 d0
      replace d1 := keep_cell hb6 d1
      replace f0 := (hb6.frozen (p := ⟨w.heap.size + 1, 0, none⟩) s5).trans f0
      replace f1 := (hb6.frozen (p := ⟨w.heap.size + 1, 1, none⟩) s5).trans f1
      clear hb6
      go_wp2_with fail
      refine bodyPost_ret (v := .tuple #[.agg #[.slice none 0 0, .slice none 0 0], .int .i64 6]) (by simp [results, Try.results15, go_sem, *]) rfl ⟨_, _, by rw [HE3.out], by rw [HX3.out]; exact exe_nil _, ?_⟩
      exact (hbw6.setCell (by simp) _).setCell (by simp) _

end Go.Proofs.Ytbmlmplbhgahpaa
