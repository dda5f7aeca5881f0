import Derived.Test.YtomijmikkbhgmaaGreatSh
namespace Go.Proofs.YtomijmikkbhgmaaGreat
open Go.RowKit

/-- In how many allowed candidates the condition holds, and in how many not. -/
def gdN (n : Nat) (c : List Atm) (L : List (Option (List Int))) : Nat := ((L.filterMap id).filter fun s => metB n c s).length
def bdN (n : Nat) (c : List Atm) (L : List (Option (List Int))) : Nat := ((L.filterMap id).filter fun s => !metB n c s).length
theorem gdN_none (n : Nat) (c : List Atm) (L : List (Option (List Int))) : gdN n c (L ++ [none]) = gdN n c L ∧ bdN n c (L ++ [none]) = bdN n c L := by
  unfold gdN bdN; rw [List.filterMap_append]; simp
theorem gdN_yes {n : Nat} {c : List Atm} {l : List Int} (h : metB n c l = true) (L : List (Option (List Int))) : gdN n c (L ++ [some l]) = gdN n c L + 1 ∧ bdN n c (L ++ [some l]) = bdN n c L := by
  unfold gdN bdN; rw [List.filterMap_append]; simp [h]
theorem gdN_no {n : Nat} {c : List Atm} {l : List Int} (h : metB n c l = false) (L : List (Option (List Int))) : gdN n c (L ++ [some l]) = gdN n c L ∧ bdN n c (L ++ [some l]) = bdN n c L + 1 := by
  unfold gdN bdN; rw [List.filterMap_append]; simp [h]
theorem gdN_le (n : Nat) (c : List Atm) (L : List (Option (List Int))) : gdN n c L ≤ L.length ∧ bdN n c L ≤ L.length := by
  unfold gdN bdN
  exact ⟨Nat.le_trans (List.length_filter_le _ _) (List.length_filterMap_le _ _), Nat.le_trans (List.length_filter_le _ _) (List.length_filterMap_le _ _)⟩

/-- A report. -/
def repV (g b : Nat) (fa : Bool) : Value := .agg #[.int .i64 (if g == 0 then 0 else if b == 0 then 2 else 1), .int .i64 g, .int .i64 b, .bool (if fa then b == 0 else decide (0 < g))]
def noRep : Value := .agg #[.int .i64 0, .int .i64 0, .int .i64 0, .bool false]
def verV (T : List (List Ins)) (c : List Atm) (fa : Bool) (al : Nat → Bool) : Value :=
  if (chk T c).1 == 0 then .tuple #[repV (gdN T.length c (optL al T (evsT T 0) (sizeN (evsT T 0)))) (bdN T.length c (optL al T (evsT T 0) (sizeN (evsT T 0)))) fa, .int .i64 0] else .tuple #[noRep, .int .i64 (chk T c).1]

/-- A report in a block of its own. -/
structure RepC (w : World) (R : Nat) (v : Int) (g b : Nat) (h : Bool) : Prop where
  c0 : w.cell? ⟨R, 0, none⟩ = some (.int .i64 v)
  c1 : w.cell? ⟨R, 1, none⟩ = some (.int .i64 g)
  c2 : w.cell? ⟨R, 2, none⟩ = some (.int .i64 b)
  c3 : w.cell? ⟨R, 3, none⟩ = some (.bool h)
  f0 : w.frozen? ⟨R, 0, none⟩ = false
  f1 : w.frozen? ⟨R, 1, none⟩ = false
  f2 : w.frozen? ⟨R, 2, none⟩ = false
  f3 : w.frozen? ⟨R, 3, none⟩ = false
theorem RepC.lt {w : World} {R : Nat} {v : Int} {g b : Nat} {h : Bool} (k : RepC w R v g b h) : R < w.heap.size := World.block_lt_of_cell? w _ k.c0
theorem RepC.keep {w w' : World} {R : Nat} {v : Int} {g b : Nat} {h : Bool} (k : RepC w R v g b h) (hb : Below w.heap.size w w') : RepC w' R v g b h :=
  ⟨keep_cell hb k.c0, keep_cell hb k.c1, keep_cell hb k.c2, keep_cell hb k.c3, (hb.frozen (p := ⟨R, 0, none⟩) k.lt).trans k.f0, (hb.frozen (p := ⟨R, 1, none⟩) k.lt).trans k.f1, (hb.frozen (p := ⟨R, 2, none⟩) k.lt).trans k.f2, (hb.frozen (p := ⟨R, 3, none⟩) k.lt).trans k.f3⟩

set_option maxRecDepth 20000 in
set_option maxHeartbeats 4000000 in
theorem verdictR_any (T : List (List Ins)) (fa : Bool) (c : List Atm) (al : Nat → Bool) (hal : Als T (evsT T 0) al) (vt vc : Value) (w : World) (h : TestAt w (.agg #[vt, .bool fa, vc]) T fa c vt vc) :
    Calls Tryz.prog 25 #[.agg #[vt, .bool fa, vc]] w fun e w' => e = .returned (verV T c fa al) ∧ Below w.heap.size w w' := by
  have HT : Hid (TestAt w (.agg #[vt, .bool fa, vc]) T fa c vt vc) := h
  have HALL : Hid (((chk T c).1 == 0) = true → ∀ w', Below w.heap.size w w' → Calls Tryz.prog 46 #[.agg #[vt, .bool fa, vc]] w' fun e w'' => ∃ u s, e = .returned (.tuple #[u, s]) ∧ OptAt w'' s (optL al T (evsT T 0) (sizeN (evsT T 0))) ∧ Below w'.heap.size w' w'') := fun hz w' hb => (all_any T fa c hz al hal vt vc w' (h.keep hb)).mono fun e w'' ⟨u, s, he, _, hs, hb'⟩ => ⟨u, s, he, hs, hb'⟩
  have HOK : Hid (((chk T c).1 == 0) = true → T.length ≤ 4 ∧ AtmsOk T.length c ∧ (optL al T (evsT T 0) (sizeN (evsT T 0))).length ≤ 2000 ∧ ∀ o ∈ optL al T (evsT T 0) (sizeN (evsT T 0)), StOk (3 * T.length + 3) o) := fun hz => ⟨(fits_of hz).short.t4, chk_atms hz, by rw [optL_len]; exact chk_many_no hz, optL_ok hz al _⟩
  have HJ : Hid (verV T c fa al = if (chk T c).1 == 0 then .tuple #[repV (gdN T.length c (optL al T (evsT T 0) (sizeN (evsT T 0)))) (bdN T.length c (optL al T (evsT T 0) (sizeN (evsT T 0)))) fa, .int .i64 0] else .tuple #[noRep, .int .i64 (chk T c).1]) := rfl
  generalize verV T c fa al = J at HJ ⊢
  generalize optL al T (evsT T 0) (sizeN (evsT T 0)) = L at HALL HOK HJ
  generalize hq : chk T c = q at HALL HOK HJ
  have HQ : Hid (chk T c = q) := hq
  clear hq h
  go_enter Tryz.func25, Tryz.ntmps25
  go_wp2_with fail
  have hba := below_two w (.cells #[vt, .bool fa, vc] 25) (.cells #[.int .i64 0, .int .i64 0, .int .i64 0, .bool false] 60)
  refine (checkR_any T fa c _ vt vc _ (HT.out.keep hba)).mono ?_
  rw [HQ.out]
  rintro e w3 ⟨rfl, hb3⟩
  have hbw3 := below_more hba hb3
  have t0 := keep_cell hb3 (b := w.heap.size) (off := 0) (u := vt) (by simp)
  have t1 := keep_cell hb3 (b := w.heap.size) (off := 1) (u := .bool fa) (by simp)
  have t2 := keep_cell hb3 (b := w.heap.size) (off := 2) (u := vc) (by simp)
  have HR3 : Hid (RepC w3 (w.heap.size + 1) 0 0 0 false) := by
    refine RepC.keep (w := (w.alloc (.cells #[vt, .bool fa, vc] 25)).alloc (.cells #[.int .i64 0, .int .i64 0, .int .i64 0, .bool false] 60)) ⟨?_, ?_, ?_, ?_, ?_, ?_, ?_, ?_⟩ hb3 <;> simp
  clear hb3
  cases hz : q.1 == 0
  · have hz2 : (q.1 != 0) = true := by simp [bne, hz]
    have HM : Hid (J = .tuple #[noRep, .int .i64 q.1]) := HJ.out.trans (by rw [hz]; rfl)
    obtain ⟨c0, c1, c2, c3, f0, f1, f2, f3⟩ := HR3.out
    clear HJ
    go_wp2_with fail
    refine bodyPost_ret (v := .tuple #[.agg #[.int .i64 0, .int .i64 0, .int .i64 0, .bool false], .int .i64 q.1]) (by simp [results, Tryz.results25, go_sem, *]) rfl ⟨by rw [HM.out]; rfl, ?_⟩
    exact (((hbw3.setCell (by simp) _).setCell (by simp) _).setCell (by simp) _).setCell (by simp) _
  · have hz2 : (q.1 != 0) = false := by simp [bne, hz]
    obtain ⟨hT4, hAt, hL2, hLok⟩ := HOK.out hz
    have HM : Hid (J = .tuple #[repV (gdN T.length c L) (bdN T.length c L) fa, .int .i64 0]) := HJ.out.trans (by rw [hz]; rfl)
    have HLS : Hid (∀ l, some l ∈ L → l.length = 3 * T.length + 3) := fun l hl => (hLok _ hl l rfl).1
    have HMT : Hid (∀ (s : List Int) (v : Value) (w' : World), s.length = 3 * T.length + 3 → Below w.heap.size w w' → IntAt w' v s → Calls Tryz.prog 50 #[.agg #[vt, .bool fa, vc], v] w' fun e w'' => e = .returned (.bool (metB T.length c s)) ∧ Below w'.heap.size w' w'') := fun s v w' hs hb hv => met_any T hT4 fa c hAt vt vc s hs v w' (HT.out.keep hb) hv
    have HA : Hid (∀ w', Below w.heap.size w w' → Calls Tryz.prog 46 #[.agg #[vt, .bool fa, vc]] w' fun e w'' => ∃ u s, e = .returned (.tuple #[u, s]) ∧ OptAt w'' s L ∧ Below w'.heap.size w' w'') := HALL.out hz
    have HGL : Hid (∀ k, gdN T.length c (L.take k) ≤ 2000 ∧ bdN T.length c (L.take k) ≤ 2000) := fun k => by
      have h1 := gdN_le T.length c (L.take k)
      have h2 := List.length_take_le k L
      have h3 : (L.take k).length ≤ L.length := by rw [List.length_take]; omega
      exact ⟨by omega, by omega⟩
    have q1 : ∀ (w : World) (a : Addr) (n c n' c' : Nat), (binOp .eql 26 (.slice (some a) n c) (.slice none n' c')).run Tryz.prog w = .ok (.bool false) w := fun w a n c n' c' => Lib.run_eql_slice_nil w _ _ (some a) n c n' c' Tryz.underlying26
    have q2 : ∀ (w : World) (n c n' c' : Nat), (binOp .eql 26 (.slice none n c) (.slice none n' c')).run Tryz.prog w = .ok (.bool true) w := fun w n c n' c' => Lib.run_eql_slice_nil w _ _ none n c n' c' Tryz.underlying26
    clear HJ HALL HOK hLok hAt
    go_wp2_with fail
    refine (HA.out w3 hbw3).mono ?_
    rintro e w4 ⟨ux, us, rfl, hus, hb4⟩
    have hbw4 := below_more hbw3 hb4
    obtain ⟨aoS, bS, offS, capS, hvS, haS, _, hcS⟩ := hus
    subst hvS
    have HSC : Hid (∀ k o, L[k]? = some o → ∃ u, w4.cell? ⟨bS, offS + k, none⟩ = some u ∧ OptV w4 u o) := fun k o hk => by
      obtain ⟨u, h1, h2⟩ := hcS k o hk
      rw [Nat.mul_one] at h1
      exact ⟨u, h1, h2⟩
    have HK : Hid (∀ w', Below w4.heap.size w4 w' → w'.cell? ⟨w.heap.size, 0, none⟩ = some vt ∧ w'.cell? ⟨w.heap.size, 1, none⟩ = some (.bool fa) ∧ w'.cell? ⟨w.heap.size, 2, none⟩ = some vc) := fun w' hb => ⟨keep_cell hb (keep_cell hb4 t0), keep_cell hb (keep_cell hb4 t1), keep_cell hb (keep_cell hb4 t2)⟩
    have HR4 : Hid (RepC w4 (w.heap.size + 1) 0 0 0 false) := HR3.out.keep hb4
    clear hcS t0 t1 t2 hb4 hbw3 HA HR3
    go_wp2_with fail
    go_loopw [9] (fun i wr => ∃ k : Nat, k ≤ L.length ∧ i = .int .i64 k ∧ Hid (RepC wr w4.heap.size 1 (gdN T.length c (L.take k)) (bdN T.length c (L.take k)) false) ∧ Below w4.heap.size w4 wr) (fun i _ => L.length - (intOf i).toNat)
    case atStart =>
      refine ⟨0, Nat.zero_le _, rfl, ?_, ?_⟩
      · show RepC _ _ _ 0 0 _
        refine ⟨?_, ?_, ?_, ?_, ?_, ?_, ?_, ?_⟩ <;> simp [go_sem]
      · exact below_alloc _ _
    case round =>
      obtain ⟨k, hk, rfl, hR, hb⟩ := hrel
      have hbw := below_more hbw4 hb
      obtain ⟨hg2, hb2⟩ := HGL.out k
      by_cases hkl : k < L.length
      · obtain ⟨o, ho⟩ := get_of_lt hkl
        obtain rfl := haS (ne_nil hkl)
        obtain ⟨uo, c0, huo⟩ := HSC.out k o ho
        replace c0 := keep_cell hb c0
        have htk : Hid (L.take (k + 1) = L.take k ++ [o]) := by show _ = _; rw [List.take_add_one, ho]; rfl
        have hkI : (k : Int) < (L.length : Int) := by omega
        have hmem := List.mem_of_getElem? ho
        clear ho
        cases o with
        | none =>
          have hu0 : uo = .slice none 0 0 := huo
          subst hu0
          have HN : Hid (gdN T.length c (L.take (k + 1)) = gdN T.length c (L.take k) ∧ bdN T.length c (L.take (k + 1)) = bdN T.length c (L.take k)) := by rw [htk.out]; exact gdN_none _ _ _
          clear huo hmem
          go_wp2_with fail
          go_roundw
          case measure => simp [intOf]; omega
          case rel => exact ⟨k + 1, by omega, by go_num, by rw [HN.out.1, HN.out.2]; exact hR.out, hb⟩
        | some l =>
          obtain ⟨al', capl, hul⟩ := OptV.form huo
          subst hul
          have hll := HLS.out l hmem
          have HM1 : Hid (∀ w', Below wr.heap.size wr w' → Calls Tryz.prog 50 #[.agg #[vt, .bool fa, vc], .slice (some al') l.length capl] w' fun e w'' => e = .returned (.bool (metB T.length c l)) ∧ Below w'.heap.size w' w'') := fun w' hb' => HMT.out l _ w' hll (below_more hbw hb') (huo.1.keep (below_more hb hb'))
          obtain ⟨t0, t1, t2⟩ := HK.out wr hb
          have HGY : Hid (metB T.length c l = true → gdN T.length c (L.take (k + 1)) = gdN T.length c (L.take k) + 1 ∧ bdN T.length c (L.take (k + 1)) = bdN T.length c (L.take k)) := fun hm => by rw [htk.out]; exact gdN_yes hm _
          have HGN : Hid (metB T.length c l = false → gdN T.length c (L.take (k + 1)) = gdN T.length c (L.take k) ∧ bdN T.length c (L.take (k + 1)) = bdN T.length c (L.take k) + 1) := fun hm => by rw [htk.out]; exact gdN_no hm _
          generalize metB T.length c l = mt at HM1 HGY HGN
          generalize gdN T.length c (L.take k) = g at hR HGY HGN hg2
          generalize bdN T.length c (L.take k) = bd at hR HGY HGN hb2
          clear huo hmem hll
          go_wp2_with fail
          have g0 := grown_cell t0
          have g1 := grown_cell t1
          have g2 := grown_cell t2
          have g3 := grown_cell c0
          have hnw := grw_some wr
          refine wp_region_grown (by kernel_rfl) (by kernel_rfl) ?_
          repeat (go_big_quiet_step ((go_at_call 50; exact grown_call (HM1.out _ (Grw.low _)))))
          refine wpQuiet_nil ?_
          intro w7 hw7
          obtain ⟨⟨w7', hb7⟩, rfl⟩ := hw7
          obtain ⟨c0, c1, c2, c3, f0, f1, f2, f3⟩ := hR.out.keep hb7
          have hb47 := below_more hb hb7
          clear g0 g1 g2 g3 HM1 hnw t0 t1 t2 hR
          cases mt
          · have HN := HGN.out rfl
            obtain ⟨hn1, hn2⟩ := HN
            have HN2 : Hid (gdN T.length c (L.take (k + 1)) = g ∧ bdN T.length c (L.take (k + 1)) = bd + 1) := ⟨hn1, hn2⟩
            have hwr : IntKind.i64.wrap ((bd : Int) + 1) = ((bd + 1 : Nat) : Int) := by rw [IntKind.wrap_i64]; omega
            clear hn1 hn2 HGY HGN
            go_wp2_with fail
            go_roundw
            case measure => simp [intOf]; omega
            case rel =>
              refine ⟨k + 1, by omega, by go_num, ?_, hb47.setCell (by simp) _⟩
              show RepC _ _ _ _ _ _
              rw [HN2.out.1, HN2.out.2]
              refine ⟨?_, ?_, ?_, ?_, ?_, ?_, ?_, ?_⟩ <;> simp [go_sem, *]
          · have HN := HGY.out rfl
            obtain ⟨hn1, hn2⟩ := HN
            have HN2 : Hid (gdN T.length c (L.take (k + 1)) = g + 1 ∧ bdN T.length c (L.take (k + 1)) = bd) := ⟨hn1, hn2⟩
            have hwr : IntKind.i64.wrap ((g : Int) + 1) = ((g + 1 : Nat) : Int) := by rw [IntKind.wrap_i64]; omega
            clear hn1 hn2 HGY HGN
            go_wp2_with fail
            go_roundw
            case measure => simp [intOf]; omega
            case rel =>
              refine ⟨k + 1, by omega, by go_num, ?_, hb47.setCell (by simp) _⟩
              show RepC _ _ _ _ _ _
              rw [HN2.out.1, HN2.out.2]
              refine ⟨?_, ?_, ?_, ?_, ?_, ?_, ?_, ?_⟩ <;> simp [go_sem, *]
      · have htk : L.take k = L := List.take_of_length_le (by omega)
        rw [htk] at hR hg2 hb2
        have hkI : (L.length : Int) ≤ (k : Int) := by omega
        generalize gdN T.length c L = g at hR HM hg2
        generalize bdN T.length c L = bd at hR HM hb2
        obtain ⟨c0, c1, c2, c3, f0, f1, f2, f3⟩ := hR.out
        have hRlt := hR.out.lt
        obtain ⟨r0, r1, r2, r3, s0, s1, s2, s3⟩ := HR4.out.keep hb
        have hrlt := (HR4.out.keep hb).lt
        obtain ⟨t0, t1, t2⟩ := HK.out wr hb
        have hs4 := HR4.out.lt
        clear hR htk
        have hsz4 := hbw4.size
        have hnR : w.heap.size + 1 ≠ w4.heap.size := by omega
        have e1 : ∀ u, (wr.setCell ⟨w4.heap.size, 0, none⟩ u).cell? ⟨w4.heap.size, 3, none⟩ = some (.bool false) := fun u => by simp [go_sem, c3]
        have e2 : ∀ u v, ((wr.setCell ⟨w4.heap.size, 0, none⟩ u).setCell ⟨w4.heap.size, 0, none⟩ v).cell? ⟨w4.heap.size, 3, none⟩ = some (.bool false) := fun u v => by simp [go_sem, c3]
        rcases Nat.eq_zero_or_pos g with hg0 | hg0
        · subst hg0
          rcases Nat.eq_zero_or_pos bd with hb0 | hb0
          · subst hb0
            cases fa
            · go_wp2_with fail
              refine bodyPost_ret (v := .tuple #[.agg #[.int .i64 0, .int .i64 0, .int .i64 0, .bool false], .int .i64 0]) (by simp [results, Tryz.results25, go_sem, *]) rfl ⟨by rw [HM.out]; rfl, ?_⟩
              repeat (refine Below.setCell ?_ (by first | (simp; done) | (simp; omega) | omega) _)
              exact hbw
            · go_wp2_with fail
              refine bodyPost_ret (v := .tuple #[.agg #[.int .i64 0, .int .i64 0, .int .i64 0, .bool true], .int .i64 0]) (by simp [results, Tryz.results25, go_sem, *]) rfl ⟨by rw [HM.out]; rfl, ?_⟩
              repeat (refine Below.setCell ?_ (by first | (simp; done) | (simp; omega) | omega) _)
              exact hbw
          · have hbe : ((bd : Int) == 0) = false := by simp; omega
            have hbn : (bd == 0) = false := by simp; omega
            cases fa
            · go_wp2_with fail
              refine bodyPost_ret (v := .tuple #[.agg #[.int .i64 0, .int .i64 0, .int .i64 bd, .bool false], .int .i64 0]) (by simp [results, Tryz.results25, go_sem, *]) rfl ⟨by rw [HM.out]; simp [repV], ?_⟩
              repeat (refine Below.setCell ?_ (by first | (simp; done) | (simp; omega) | omega) _)
              exact hbw
            · go_wp2_with fail
              refine bodyPost_ret (v := .tuple #[.agg #[.int .i64 0, .int .i64 0, .int .i64 bd, .bool false], .int .i64 0]) (by simp [results, Tryz.results25, go_sem, *]) rfl ⟨by rw [HM.out]; simp [repV, hbn], ?_⟩
              repeat (refine Below.setCell ?_ (by first | (simp; done) | (simp; omega) | omega) _)
              exact hbw
        · have hge : ((g : Int) == 0) = false := by simp; omega
          have hgn : (g == 0) = false := by simp; omega
          have hgI : (0 : Int) < (g : Int) := by omega
          rcases Nat.eq_zero_or_pos bd with hb0 | hb0
          · subst hb0
            cases fa
            · go_wp2_with fail
              refine bodyPost_ret (v := .tuple #[.agg #[.int .i64 2, .int .i64 g, .int .i64 0, .bool true], .int .i64 0]) (by simp [results, Tryz.results25, go_sem, *]) rfl ⟨by rw [HM.out]; simp [repV, hgn, hg0], ?_⟩
              repeat (refine Below.setCell ?_ (by first | (simp; done) | (simp; omega) | omega) _)
              exact hbw
            · go_wp2_with fail
              refine bodyPost_ret (v := .tuple #[.agg #[.int .i64 2, .int .i64 g, .int .i64 0, .bool true], .int .i64 0]) (by simp [results, Tryz.results25, go_sem, *]) rfl ⟨by rw [HM.out]; simp [repV, hgn], ?_⟩
              repeat (refine Below.setCell ?_ (by first | (simp; done) | (simp; omega) | omega) _)
              exact hbw
          · have hbe : ((bd : Int) == 0) = false := by simp; omega
            have hbn : (bd == 0) = false := by simp; omega
            cases fa
            · go_wp2_with fail
              refine bodyPost_ret (v := .tuple #[.agg #[.int .i64 1, .int .i64 g, .int .i64 bd, .bool true], .int .i64 0]) (by simp [results, Tryz.results25, go_sem, *]) rfl ⟨by rw [HM.out]; simp [repV, hgn, hbn, hg0], ?_⟩
              repeat (refine Below.setCell ?_ (by first | (simp; done) | (simp; omega) | omega) _)
              exact hbw
            · go_wp2_with fail
              refine bodyPost_ret (v := .tuple #[.agg #[.int .i64 1, .int .i64 g, .int .i64 bd, .bool false], .int .i64 0]) (by simp [results, Tryz.results25, go_sem, *]) rfl ⟨by rw [HM.out]; simp [repV, hgn, hbn], ?_⟩
              repeat (refine Below.setCell ?_ (by first | (simp; done) | (simp; omega) | omega) _)
              exact hbw

end Go.Proofs.YtomijmikkbhgmaaGreat
