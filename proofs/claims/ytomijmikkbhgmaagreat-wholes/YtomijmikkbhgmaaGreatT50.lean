import Derived.Test.YtomijmikkbhgmaaGreatT43
import Derived.Test.YtomijmikkbhgmaaGreatOe
import Derived.Test.YtomijmikkbhgmaaGreatT49
namespace Go.Proofs.YtomijmikkbhgmaaGreat
open Go.RowKit

set_option maxHeartbeats 2000000 in
theorem candR_any (T : List (List Ins)) (fa : Bool) (c : List Atm) (v vt vc : Value) (n : Int) (w : World) (h : TestAt w v T fa c vt vc) :
    Calls Tryz.prog 68 #[v, .int .i64 n] w fun e w' => ∃ vf vo, e = .returned (.tuple #[.agg #[vf, vo], .int .i64 (cErr T c n)]) ∧ ExeAt w' vf vo (cExe T c n) ∧ Below w.heap.size w w' := by
  have HT : Hid (TestAt w v T fa c vt vc) := h
  obtain ⟨hv, _, _⟩ := h
  subst hv
  have HZ : Hid (((chk T c).1 == 0) = true → sizeB T c = true ∧ sizeN (evsT T 0) ≤ 2000) := fun h => ⟨chk_zero h, chk_many_no h⟩
  have HE : Hid (cErr T c n = if (chk T c).1 == 0 then (if 0 ≤ n ∧ n < (sizeN (evsT T 0) : Int) then 0 else 6) else (chk T c).1) := rfl
  have HX : Hid (cExe T c n = if (chk T c).1 == 0 then (if 0 ≤ n ∧ n < (sizeN (evsT T 0) : Int) then exN (evsT T 0) n.toNat else ⟨[], []⟩) else ⟨[], []⟩) := rfl
  generalize hq : chk T c = q at HZ HE HX
  have HQ : Hid (chk T c = q) := hq
  clear hq
  generalize cErr T c n = er at HE
  generalize cExe T c n = ex at HX
  go_enter Tryz.func68, Tryz.ntmps68
  go_wp2_with fail
  refine (checkR_any T fa c _ vt vc _ (HT.out.keep (below_two _ _ _))).mono ?_
  rw [HQ.out]
  rintro e w3 ⟨rfl, hb3⟩
  simp only [World.size_alloc] at hb3
  obtain ⟨g0, g1, g2, d0, d1, f0, f1, s2, s3⟩ := own5 hb3
  have hbw3 : Below w.heap.size w w3 := (below_two _ _ _).trans (hb3.mono (by omega))
  have HNC : Hid (∀ o z, w3.cell? ⟨w.heap.size + 1, o, none⟩ = some z → z = .slice none 0 0 ∧ o < 2) := nil_cells hb3
  clear hb3
  cases hz : q.1 == 0
  · have hz2 : (q.1 != 0) = true := by simp [bne, hz]
    have HE2 : Hid (er = q.1) := HE.out.trans (by rw [hz]; rfl)
    have HX2 : Hid (ex = ⟨[], []⟩) := HX.out.trans (by rw [hz]; rfl)
    clear HE HX
    go_wp2_with fail
    refine bodyPost_ret (v := .tuple #[.agg #[.slice none 0 0, .slice none 0 0], .int .i64 q.1]) (by simp [results, Tryz.results68, go_sem, *]) rfl ⟨_, _, by rw [HE2.out], by rw [HX2.out]; exact exe_nil _, ?_⟩
    exact (hbw3.setCell (by simp) _).setCell (by simp) _
  · have hz2 : (q.1 != 0) = false := by simp [bne, hz]
    obtain ⟨hsb, hN⟩ := HZ.out hz
    obtain ⟨h2, hL, _⟩ := sizeB_parts hsb
    have HL : Hid (lensB T = true) := hL
    have hEl : (evsT T 0).length ≤ 96 := by have := evsT_len T 0 HL.out; omega
    have HE2 : Hid (er = if 0 ≤ n ∧ n < (sizeN (evsT T 0) : Int) then 0 else 6) := HE.out.trans (by rw [hz]; rfl)
    have HX2 : Hid (ex = if 0 ≤ n ∧ n < (sizeN (evsT T 0) : Int) then exN (evsT T 0) n.toNat else ⟨[], []⟩) := HX.out.trans (by rw [hz]; rfl)
    clear HE HX hL hsb
    go_wp2_with fail
    refine (events_any T fa c _ vt vc _ (HT.out.keep hbw3) h2 HL.out).mono ?_
    generalize evsT T 0 = E at hEl hN HE2 HX2
    rintro e w5 ⟨u, rfl, hu, k5⟩
    have hbw5 := below_more hbw3 k5
    have HNC5 : Hid (∀ o z, w5.cell? ⟨w.heap.size + 1, o, none⟩ = some z → z = .slice none 0 0 ∧ o < 2) := fun o z hz => HNC.out o z (by rw [← k5.cell (p := ⟨w.heap.size + 1, o, none⟩) s3]; exact hz)
    replace d0 := keep_cell k5 d0
    replace d1 := keep_cell k5 d1
    replace f0 := (k5.frozen (p := ⟨w.heap.size + 1, 0, none⟩) s3).trans f0
    replace f1 := (k5.frozen (p := ⟨w.heap.size + 1, 1, none⟩) s3).trans f1
    have s5 : w.heap.size + 1 < w5.heap.size := by have := k5.size; omega
    clear k5 HNC g0 g1 g2 s3
    go_wp2_with fail
    refine (candidates_any E hEl u _ hu hN).mono ?_
    have hXl : (exs E).length = sizeN E := exs_len E
    have HXA : Hid (∀ k, k < sizeN E → (exs E)[k]? = some (exN E k)) := fun k hk => exs_at E k hk
    generalize exs E = XS at hXl HXA
    rintro e w6 ⟨u8, rfl, hu8, hb6⟩
    obtain ⟨ao8, b8, off8, cap8, hs8⟩ := hu8
    have hv8 := hs8.hv
    rw [hXl] at hv8
    subst hv8
    have HS8 : Hid (SlAt w6 2 XC (.slice ao8 (sizeN E) cap8) XS ao8 b8 off8 cap8) := hs8
    have HNC6 : Hid (∀ o z, w6.cell? ⟨w.heap.size + 1, o, none⟩ = some z → z = .slice none 0 0 ∧ o < 2) := fun o z hz => HNC5.out o z (by rw [← hb6.cell (p := ⟨w.heap.size + 1, o, none⟩) s5]; exact hz)
    have hbw6 := below_more hbw5 hb6
    replace d0 := keep_cell hb6 d0
    replace d1 := keep_cell hb6 d1
    replace f0 := (hb6.frozen (p := ⟨w.heap.size + 1, 0, none⟩) s5).trans f0
    replace f1 := (hb6.frozen (p := ⟨w.heap.size + 1, 1, none⟩) s5).trans f1
    have s6 : w.heap.size + 1 < w6.heap.size := by have := hb6.size; omega
    have HXL : Hid (XS.length = sizeN E) := hXl
    generalize hSN : sizeN E = S at HE2 HX2 hN HXA HS8 HXL
    clear hs8 hb6 HNC5 s5 hXl hSN
    by_cases hn : 0 ≤ n ∧ n < (S : Int)
    · obtain ⟨n', hn'⟩ := Int.eq_ofNat_of_zero_le hn.1
      subst hn'
      have HE3 : Hid (er = 0) := HE2.out.trans (if_pos hn)
      have HX3 : Hid (ex = exN E n') := HX2.out.trans (by rw [if_pos hn]; simp)
      have hlt : n' < S := by omega
      have hnI : (n' : Int) < (S : Int) := by omega
      obtain ⟨vf, vo, c0, c1, hxc⟩ := HS8.out.hc n' _ (HXA.out n' hlt)
      have hx := hxc.at'
      have ha8 := HS8.out.ha (by intro h0; have := HXL.out; rw [h0] at this; simp at this; omega)
      subst ha8
      obtain ⟨aof, cf, hff⟩ := hx.f.form
      obtain ⟨aoo, bo, oo, co, hso⟩ := hx.o
      have hfo := hso.hv
      subst hff hfo
      have HXX : Hid (ExeAt w6 (.slice aof (exN E n').from'.length cf) (.slice aoo (exN E n').order.length co) (exN E n')) := hx
      generalize hl1 : (exN E n').from'.length = l1 at HXX c0
      generalize hl2 : (exN E n').order.length = l2 at HXX c1
      have m8 := World.block_lt_of_cell? _ _ c0
      clear HE2 HX2 hn hx hxc hso hl1 hl2
      go_wp2_with fail
      refine bodyPost_ret (v := .tuple #[.agg #[.slice aof l1 cf, .slice aoo l2 co], .int .i64 0]) (by simp [results, Tryz.results68, go_sem, *]) rfl ⟨_, _, by rw [HE3.out], ?_, ?_⟩
      · rw [HX3.out]
        exact exe_store HXX.out rfl HNC6.out (fun b hb => by rw [Below.heap_setCell _ _ _ _ hb, Below.heap_setCell _ _ _ _ hb])
      · exact (hbw6.setCell (by simp) _).setCell (by simp) _
    · have HE3 : Hid (er = 6) := HE2.out.trans (if_neg hn)
      have HX3 : Hid (ex = ⟨[], []⟩) := HX2.out.trans (if_neg hn)
      clear HE2 HX2
      by_cases hneg : n < 0
      · clear hn
        go_wp2_with fail
        refine bodyPost_ret (v := .tuple #[.agg #[.slice none 0 0, .slice none 0 0], .int .i64 6]) (by simp [results, Tryz.results68, go_sem, *]) rfl ⟨_, _, by rw [HE3.out], by rw [HX3.out]; exact exe_nil _, ?_⟩
        exact (hbw6.setCell (by simp) _).setCell (by simp) _
      · have hge : (S : Int) ≤ n := by omega
        clear hn
        go_wp2_with fail
        refine bodyPost_ret (v := .tuple #[.agg #[.slice none 0 0, .slice none 0 0], .int .i64 6]) (by simp [results, Tryz.results68, go_sem, *]) rfl ⟨_, _, by rw [HE3.out], by rw [HX3.out]; exact exe_nil _, ?_⟩
        exact (hbw6.setCell (by simp) _).setCell (by simp) _

end Go.Proofs.YtomijmikkbhgmaaGreat

namespace Go.Proofs.YtomijmikkbhgmaaGreat
open Go.RowKit

/-- The first allowed candidate that decides. -/
def witL (n : Nat) (c : List Atm) (fa : Bool) : List (Option (List Int)) → Nat → Option Nat
  | [], _ => none
  | none :: L, i => witL n c fa L (i + 1)
  | some l :: L, i => if metB n c l != fa then some i else witL n c fa L (i + 1)
theorem witL_yes {n : Nat} {c : List Atm} {fa : Bool} {l : List Int} (h : (metB n c l != fa) = true) (L : List (Option (List Int))) (i : Nat) : witL n c fa (some l :: L) i = some i := by rw [witL, if_pos h]
theorem witL_no {n : Nat} {c : List Atm} {fa : Bool} {l : List Int} (h : (metB n c l != fa) = false) (L : List (Option (List Int))) (i : Nat) : witL n c fa (some l :: L) i = witL n c fa L (i + 1) := by rw [witL, if_neg (by simp [h])]

/-- What Witness tells. -/
def WOut (T : List (List Ins)) (c : List Atm) (fa : Bool) (al : Nat → Bool) (w : World) (n : Int) (vf vo : Value) (er : Int) : Prop :=
  ((chk T c).1 ≠ 0 ∧ n = 0 ∧ er = (chk T c).1 ∧ ExeAt w vf vo ⟨[], []⟩) ∨ ((chk T c).1 = 0 ∧ er = 0 ∧
    ((witL T.length c fa (optL al T (evsT T 0) (sizeN (evsT T 0))) 0 = none ∧ n = -1 ∧ ExeAt w vf vo ⟨[], []⟩) ∨
      ∃ k, witL T.length c fa (optL al T (evsT T 0) (sizeN (evsT T 0))) 0 = some k ∧ n = (k : Int) ∧ ExeAt w vf vo (exN (evsT T 0) k)))

set_option maxRecDepth 20000 in
set_option maxHeartbeats 4000000 in
theorem witnessR_any (T : List (List Ins)) (fa : Bool) (c : List Atm) (al : Nat → Bool) (hal : Als T (evsT T 0) al) (vt vc : Value) (w : World) (h : TestAt w (.agg #[vt, .bool fa, vc]) T fa c vt vc) :
    Calls Tryz.prog 28 #[.agg #[vt, .bool fa, vc]] w fun e w' => ∃ (n : Int) (vf vo : Value) (er : Int), e = .returned (.tuple #[.int .i64 n, .agg #[vf, vo], .int .i64 er]) ∧ WOut T c fa al w' n vf vo er ∧ Below w.heap.size w w' := by
  have HT : Hid (TestAt w (.agg #[vt, .bool fa, vc]) T fa c vt vc) := h
  have HALL : Hid (((chk T c).1 == 0) = true → ∀ w', Below w.heap.size w w' → Calls Tryz.prog 46 #[.agg #[vt, .bool fa, vc]] w' fun e w'' => ∃ u s, e = .returned (.tuple #[u, s]) ∧ XAt w'' u (exs (evsT T 0)) ∧ OptAt w'' s (optL al T (evsT T 0) (sizeN (evsT T 0))) ∧ Below w'.heap.size w' w'') := fun hz w' hb => all_any T fa c hz al hal vt vc w' (h.keep hb)
  have HOK : Hid (((chk T c).1 == 0) = true → T.length ≤ 4 ∧ AtmsOk T.length c ∧ (optL al T (evsT T 0) (sizeN (evsT T 0))).length ≤ 2000 ∧ ∀ o ∈ optL al T (evsT T 0) (sizeN (evsT T 0)), StOk (3 * T.length + 3) o) := fun hz => ⟨(fits_of hz).short.t4, chk_atms hz, by rw [optL_len]; exact chk_many_no hz, optL_ok hz al _⟩
  have HXS : Hid ((exs (evsT T 0)).length = (optL al T (evsT T 0) (sizeN (evsT T 0))).length ∧ ∀ n, n < (optL al T (evsT T 0) (sizeN (evsT T 0))).length → (exs (evsT T 0))[n]? = some (exN (evsT T 0) n)) := by rw [optL_len]; exact ⟨exs_len _, fun n hn => exs_at _ n hn⟩
  have HJ : Hid (∀ w' n vf vo er, WOut T c fa al w' n vf vo er ↔ ((chk T c).1 ≠ 0 ∧ n = 0 ∧ er = (chk T c).1 ∧ ExeAt w' vf vo ⟨[], []⟩) ∨ ((chk T c).1 = 0 ∧ er = 0 ∧
    ((witL T.length c fa (optL al T (evsT T 0) (sizeN (evsT T 0))) 0 = none ∧ n = -1 ∧ ExeAt w' vf vo ⟨[], []⟩) ∨
      ∃ k, witL T.length c fa (optL al T (evsT T 0) (sizeN (evsT T 0))) 0 = some k ∧ n = (k : Int) ∧ ExeAt w' vf vo (exN (evsT T 0) k)))) := fun _ _ _ _ _ => Iff.rfl
  have HO3 : Hid (∀ k, (exN (evsT T 0) k).order.length = 3) := fun k => rfl
  generalize WOut T c fa al = J at HJ ⊢
  generalize optL al T (evsT T 0) (sizeN (evsT T 0)) = L at HALL HOK HJ HXS
  generalize exN (evsT T 0) = XN at HXS HJ HO3
  generalize exs (evsT T 0) = XS at HALL HXS
  generalize hq : chk T c = q at HALL HOK HJ
  have HQ : Hid (chk T c = q) := hq
  clear hq h
  go_enter Tryz.func28, Tryz.ntmps28
  go_wp2_with fail
  refine (checkR_any T fa c _ vt vc _ (HT.out.keep (below_two _ _ _))).mono ?_
  rw [HQ.out]
  rintro e w3 ⟨rfl, hb3⟩
  have hbw3 := below_more (below_two w (.cells #[vt, .bool fa, vc] 25) (.cells #[.slice none 0 0, .slice none 0 0] 29)) hb3
  simp only [World.size_alloc] at hb3
  have HNC : Hid (∀ o z, w3.cell? ⟨w.heap.size + 1, o, none⟩ = some z → z = .slice none 0 0 ∧ o < 2) := nil_cells hb3
  obtain ⟨t0, t1, t2, d0, d1, f0, f1, s2, s3⟩ := own5 hb3
  clear hb3
  cases hz : q.1 == 0
  · have hz2 : (q.1 != 0) = true := by simp [bne, hz]
    have HM : Hid (∀ w', J w' 0 (.slice none 0 0) (.slice none 0 0) q.1) := fun w' => (HJ.out w' _ _ _ _).2 (.inl ⟨by simpa using hz, rfl, rfl, exe_nil _⟩)
    clear HJ
    go_wp2_with fail
    refine bodyPost_ret (v := .tuple #[.int .i64 0, .agg #[.slice none 0 0, .slice none 0 0], .int .i64 q.1]) (by simp [results, Tryz.results28, go_sem, *]) rfl ⟨_, _, _, _, rfl, HM.out _, ?_⟩
    exact (hbw3.setCell (by simp) _).setCell (by simp) _
  · have hz2 : (q.1 != 0) = false := by simp [bne, hz]
    have hq0 : q.1 = 0 := by simpa using hz
    obtain ⟨hT4, hAt, hL2, hLok⟩ := HOK.out hz
    have HJN : Hid (∀ w', witL T.length c fa L 0 = none → J w' (-1) (.slice none 0 0) (.slice none 0 0) 0) := fun w' hn => (HJ.out w' _ _ _ _).2 (.inr ⟨hq0, rfl, .inl ⟨hn, rfl, exe_nil _⟩⟩)
    have HJS : Hid (∀ w' k vf vo, witL T.length c fa L 0 = some k → ExeAt w' vf vo (XN k) → J w' (k : Int) vf vo 0) := fun w' k vf vo hn hx => (HJ.out w' _ _ _ _).2 (.inr ⟨hq0, rfl, .inr ⟨k, hn, rfl, hx⟩⟩)
    have HLS : Hid (∀ l, some l ∈ L → l.length = 3 * T.length + 3) := fun l hl => (hLok _ hl l rfl).1
    have HMT : Hid (∀ (s : List Int) (v : Value) (w' : World), s.length = 3 * T.length + 3 → Below w.heap.size w w' → IntAt w' v s → Calls Tryz.prog 50 #[.agg #[vt, .bool fa, vc], v] w' fun e w'' => e = .returned (.bool (metB T.length c s)) ∧ Below w'.heap.size w' w'') := fun s v w' hs hb hv => met_any T hT4 fa c hAt vt vc s hs v w' (HT.out.keep hb) hv
    have HA : Hid (∀ w', Below w.heap.size w w' → Calls Tryz.prog 46 #[.agg #[vt, .bool fa, vc]] w' fun e w'' => ∃ u s, e = .returned (.tuple #[u, s]) ∧ XAt w'' u XS ∧ OptAt w'' s L ∧ Below w'.heap.size w' w'') := HALL.out hz
    have q1 : ∀ (w : World) (a : Addr) (n c n' c' : Nat), (binOp .eql 26 (.slice (some a) n c) (.slice none n' c')).run Tryz.prog w = .ok (.bool false) w := fun w a n c n' c' => Lib.run_eql_slice_nil w _ _ (some a) n c n' c' Tryz.underlying26
    have q2 : ∀ (w : World) (n c n' c' : Nat), (binOp .eql 26 (.slice none n c) (.slice none n' c')).run Tryz.prog w = .ok (.bool true) w := fun w n c n' c' => Lib.run_eql_slice_nil w _ _ none n c n' c' Tryz.underlying26
    clear HJ HALL HOK hLok hAt hq0
    go_wp2_with fail
    refine (HA.out w3 hbw3).mono ?_
    rintro e w4 ⟨ux, us, rfl, hux, hus, hb4⟩
    have hbw4 := below_more hbw3 hb4
    obtain ⟨aoX, bX, offX, capX, hsX⟩ := hux
    have hvX := hsX.hv
    rw [HXS.out.1] at hvX
    subst hvX
    have HSX : Hid (SlAt w4 2 XC (.slice aoX L.length capX) XS aoX bX offX capX) := hsX
    obtain ⟨aoS, bS, offS, capS, hvS, haS, _, hcS⟩ := hus
    subst hvS
    have HSC : Hid (∀ k o, L[k]? = some o → ∃ u, w4.cell? ⟨bS, offS + k, none⟩ = some u ∧ OptV w4 u o) := fun k o hk => by
      obtain ⟨u, h1, h2⟩ := hcS k o hk
      rw [Nat.mul_one] at h1
      exact ⟨u, h1, h2⟩
    have HNC4 : Hid (∀ w', Below w4.heap.size w4 w' → ∀ o z, w'.cell? ⟨w.heap.size + 1, o, none⟩ = some z → z = .slice none 0 0 ∧ o < 2) := fun w' hb o z hz => HNC.out o z (by rw [← hb4.cell (p := ⟨w.heap.size + 1, o, none⟩) s3, ← hb.cell (p := ⟨w.heap.size + 1, o, none⟩) (Nat.lt_of_lt_of_le s3 hb4.size)]; exact hz)
    have HK : Hid (∀ w', Below w4.heap.size w4 w' → (w'.cell? ⟨w.heap.size, 0, none⟩ = some vt ∧ w'.cell? ⟨w.heap.size, 1, none⟩ = some (.bool fa) ∧ w'.cell? ⟨w.heap.size, 2, none⟩ = some vc) ∧ (w'.cell? ⟨w.heap.size + 1, 0, none⟩ = some (.slice none 0 0) ∧ w'.cell? ⟨w.heap.size + 1, 1, none⟩ = some (.slice none 0 0)) ∧ (w'.frozen? ⟨w.heap.size + 1, 0, none⟩ = false ∧ w'.frozen? ⟨w.heap.size + 1, 1, none⟩ = false) ∧ w.heap.size + 1 < w'.heap.size) := fun w' hb => by
      have hb' := below_more hb4 hb
      exact ⟨⟨keep_cell hb' t0, keep_cell hb' t1, keep_cell hb' t2⟩, ⟨keep_cell hb' d0, keep_cell hb' d1⟩, ⟨(hb'.frozen (p := ⟨w.heap.size + 1, 0, none⟩) s3).trans f0, (hb'.frozen (p := ⟨w.heap.size + 1, 1, none⟩) s3).trans f1⟩, Nat.lt_of_lt_of_le s3 hb'.size⟩
    have HB : Hid (witL T.length c fa L 0 = witL T.length c fa (L.drop 0) 0) := rfl
    clear hcS t0 t1 t2 d0 d1 f0 f1 s2 s3 hb4 hbw3 HA hsX HNC
    generalize witL T.length c fa L 0 = WL at HB HJN HJS
    go_wp2_with fail
    go_loopw [9] (fun i wr => ∃ k : Nat, k ≤ L.length ∧ i = .int .i64 k ∧ Hid (WL = witL T.length c fa (L.drop k) k) ∧ Below w4.heap.size w4 wr) (fun i _ => L.length - (intOf i).toNat)
    case atStart => exact ⟨0, Nat.zero_le _, rfl, HB.out, Below.refl _ _⟩
    case round =>
      clear HB
      obtain ⟨k, hk, rfl, hn, hb⟩ := hrel
      have hbw := below_more hbw4 hb
      by_cases hkl : k < L.length
      · obtain ⟨o, ho⟩ := get_of_lt hkl
        obtain rfl := haS (ne_nil hkl)
        obtain ⟨uo, c0, huo⟩ := HSC.out k o ho
        replace c0 := keep_cell hb c0
        have HN : Hid (WL = witL T.length c fa (o :: L.drop (k + 1)) k) := hn.out.trans (by rw [drop_cons ho])
        have hkI : (k : Int) < (L.length : Int) := by omega
        have hmem := List.mem_of_getElem? ho
        clear ho hn
        cases o with
        | none =>
          have hu0 : uo = .slice none 0 0 := huo
          subst hu0
          have HN2 : Hid (WL = witL T.length c fa (L.drop (k + 1)) (k + 1)) := HN.out
          clear huo hmem HN
          go_wp2_with fail
          go_roundw
          case measure => simp [intOf]; omega
          case rel => exact ⟨k + 1, by omega, by go_num, HN2.out, hb⟩
        | some l =>
          obtain ⟨al', capl, hul⟩ := OptV.form huo
          subst hul
          have hll := HLS.out l hmem
          have HM1 : Hid (∀ w', Below wr.heap.size wr w' → Calls Tryz.prog 50 #[.agg #[vt, .bool fa, vc], .slice (some al') l.length capl] w' fun e w'' => e = .returned (.bool (metB T.length c l)) ∧ Below w'.heap.size w' w'') := fun w' hb' => HMT.out l _ w' hll (below_more hbw hb') (huo.1.keep (below_more hb hb'))
          obtain ⟨⟨t0, t1, t2⟩, _, _, _⟩ := HK.out wr hb
          have HGY : Hid ((metB T.length c l != fa) = true → WL = some k) := fun hm => HN.out.trans (witL_yes hm _ _)
          have HGN : Hid ((metB T.length c l != fa) = false → WL = witL T.length c fa (L.drop (k + 1)) (k + 1)) := fun hm => HN.out.trans (witL_no hm _ _)
          generalize metB T.length c l = mt at HM1 HGY HGN
          clear huo hmem hll HN
          go_wp2_with fail
          have g0 := grown_cell t0
          have g1 := grown_cell t1
          have g2 := grown_cell t2
          have g3 := grown_cell c0
          have hnw := grw_some wr
          refine wp_region_grown (by kernel_rfl) (by kernel_rfl) ?_
          repeat (go_big_quiet_step ((go_at_call 50; exact grown_call (HM1.out _ (Grw.low _)))))
          refine wpQuiet_nil ?_
          intro w7 hw7
          obtain ⟨⟨w7', hb7⟩, rfl⟩ := hw7
          have hb47 := below_more hb hb7
          have hbw7 := below_more hbw4 hb47
          clear g0 g1 g2 g3 HM1 hnw t0 t1 t2 c0 hb hb7 hbw
          obtain ⟨⟨t0, t1, t2⟩, ⟨d0, d1⟩, ⟨f0, f1⟩, s7⟩ := HK.out w7 hb47
          cases hmf : (mt != fa)
          · have HN2 : Hid (WL = witL T.length c fa (L.drop (k + 1)) (k + 1)) := HGN.out hmf
            clear HGY HGN
            have e : mt = fa := by simpa using hmf
            clear hmf
            subst e
            cases mt
            all_goals
              go_wp2_with fail
              go_roundw
              case measure => simp [intOf]; omega
              case rel => exact ⟨k + 1, by omega, by go_num, HN2.out, hb47⟩
          · have HN2 : Hid (WL = some k) := HGY.out hmf
            obtain ⟨vf, vo, x0, x1, hxc⟩ := HSX.out.hc k _ (HXS.out.2 k hkl)
            have haX := HSX.out.ha (by intro h0; have := HXS.out.1; rw [h0] at this; simp at this; omega)
            subst haX
            have hxa := hxc.at'.keep hb47
            obtain ⟨aof, cf, hff⟩ := hxa.f.form
            obtain ⟨aoo, bo, oo, co, hso⟩ := hxa.o
            have hfo := hso.hv
            subst hff hfo
            have HXX : Hid (ExeAt w7 (.slice aof (XN k).from'.length cf) (.slice aoo (XN k).order.length co) (XN k)) := hxa
            replace x0 := keep_cell hb47 x0
            replace x1 := keep_cell hb47 x1
            have HL3 : Hid ((XN k).order.length = 3) := HO3.out k
            generalize hl1 : (XN k).from'.length = l1 at HXX x0
            generalize hl2 : (XN k).order.length = l2 at HXX x1
            have HN7 := HNC4.out w7 hb47
            have HNC7 : Hid (∀ o z, w7.cell? ⟨w.heap.size + 1, o, none⟩ = some z → z = .slice none 0 0 ∧ o < 2) := HN7
            have mx := World.block_lt_of_cell? _ _ x0
            simp only at mx
            have hbX : bX ≠ w.heap.size + 1 := fun e => by
              have := (HN7 (offX + k * 2 + 1) _ (by rw [← e]; exact x1)).1
              have h3 := HL3.out
              rw [hl2] at h3
              subst h3
              simp at this
            clear HGY HGN hxc hxa hso hl1 hl2 HN7 t0 t2
            have e : mt = !fa := by revert hmf; cases mt <;> cases fa <;> simp
            clear hmf
            subst e
            cases fa
            all_goals
              go_wp2_with fail
              go_region
              all_goals
                go_wp2_with fail
                refine bodyPost_ret (v := .tuple #[.int .i64 k, .agg #[.slice aof l1 cf, .slice aoo l2 co], .int .i64 0]) (by simp [results, Tryz.results28, go_sem, *]) rfl ⟨_, _, _, _, rfl, HJS.out _ k _ _ HN2.out ?_, ?_⟩
                · exact exe_store HXX.out HL3.out HNC7.out (fun b hb => by first | rw [Below.heap_setCell _ _ _ _ hb, Below.heap_setCell _ _ _ _ hb] | (show ((w7.setCell _ _).setCell _ _).heap[b]? = _; rw [Below.heap_setCell _ _ _ _ hb, Below.heap_setCell _ _ _ _ hb]))
                · first | exact (hbw7.drew.setCell (by simp) _).setCell (by simp) _ | exact Below.drew ((hbw7.setCell (by simp) _).setCell (by simp) _)
      · have HN2 : Hid (WL = none) := hn.out.trans (by rw [drop_nil hkl]; rfl)
        have hkI : (L.length : Int) ≤ (k : Int) := by omega
        obtain ⟨_, ⟨d0, d1⟩, ⟨f0, f1⟩, s7⟩ := HK.out wr hb
        clear hn
        go_wp2_with fail
        refine bodyPost_ret (v := .tuple #[.int .i64 (-1), .agg #[.slice none 0 0, .slice none 0 0], .int .i64 0]) (by simp [results, Tryz.results28, go_sem, *]) rfl ⟨_, _, _, _, rfl, HJN.out _ HN2.out, ?_⟩
        exact (hbw.setCell (by simp) _).setCell (by simp) _

end Go.Proofs.YtomijmikkbhgmaaGreat
