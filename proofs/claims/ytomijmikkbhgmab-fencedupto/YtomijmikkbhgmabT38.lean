import Derived.Test.YtomijmikkbhgmabT22
import Derived.Test.YtomijmikkbhgmabT37
import Derived.Test.YtomijmikkbhgmabT30
import Derived.Test.YtomijmikkbhgmabT29
namespace Go.Proofs.Ytomijmikkbhgmab
open Go.RowKit

theorem Try.infoRowsT : (Try.prog.info? 62).map (fun i => (i.zero, i.size, i.bytes)) = some (some (.slice none 0 0), 1, 24) := by kernel_rfl
theorem Try.infoIntsT : (Try.prog.info? 39).map (fun i => (i.zero, i.size, i.bytes)) = some (some (.slice none 0 0), 1, 24) := by kernel_rfl

/-- What byTurns answers. -/
def ByOut (T : List (List Ins)) (w : World) (e : Ending) (w' : World) : Prop := ∃ u L, e = .returned u ∧ LstAt w' u L ∧ (∀ l ∈ L, l.length = 3 * T.length + 3) ∧ L.length ≤ 3532201250001 ∧ (∀ l, l ∈ L ↔ ∃ R M, Run T R M ∧ DoneM T M ∧ l = tailM T.length M) ∧ Below w.heap.size w w'

set_option maxRecDepth 20000 in
set_option maxHeartbeats 8000000 in
theorem byTurns_any (T : List (List Ins)) (fa : Bool) (c : List Atm) (hz : ((chk T c).1 == 0) = true) (vt vc : Value) (w : World) (h : TestAt w (.agg #[vt, .bool fa, vc]) T fa c vt vc) :
    Calls Try.prog 25 #[.agg #[vt, .bool fa, vc]] w (ByOut T w) := by
  obtain ⟨hT1, hT4, hL12⟩ := chk_lens hz
  have hmay := chk_may hz
  have hszN := chk_many_no hz
  have HPRE : Hid (((chk T c).1 == 0) = true ∧ (∀ l ∈ T, l.length ≤ 12) ∧ (∀ l ∈ T, ∀ x ∈ l, mayB x = true) ∧ sizeN (evsT T 0) ≤ 2000) := ⟨hz, hL12, hmay, hszN⟩
  have hP4 : prdN T T.length ≤ 390625 := prd_4 hL12 hT4
  have hP1 := prd_pos T T.length
  have HSTD : Hid (∀ M, Pcs T M → stdN T M T.length < prdN T T.length) := fun M hM => std_lt hM (Nat.le_refl _)
  clear hz hmay hszN hL12
  have HTT : Hid (∀ w', Below w.heap.size w w' → TestAt w' (.agg #[vt, .bool fa, vc]) T fa c vt vc) := fun w' hb => h.keep hb
  obtain ⟨ht0, aot, bt, offt, capt, htv, hta, _, htc⟩ := h.ht.opened
  obtain ⟨hc0, aoc, bc, offc, capc, hsc⟩ := h.hc
  have hcv := hsc.hv
  subst htv hcv
  have hba := below_alloc w (.cells #[.slice aot T.length capt, .bool fa, .slice aoc c.length capc] 25)
  have hbox : (w.alloc (.cells #[.slice aot T.length capt, .bool fa, .slice aoc c.length capc] 25)).heap[w.heap.size]? = some (.cells #[.slice aot T.length capt, .bool fa, .slice aoc c.length capc] 25 (0, 0)) := heap_alloc_new w _
  clear h hsc htc hta
  obtain ⟨w1, hw1⟩ : ∃ x, x = w.alloc (.cells #[.slice aot T.length capt, .bool fa, .slice aoc c.length capc] 25) := ⟨_, rfl⟩
  have hBX : Hid (∀ w', Below w1.heap.size w1 w' → w'.heap[w.heap.size]? = some (.cells #[.slice aot T.length capt, .bool fa, .slice aoc c.length capc] 25 (0, 0)) ∧ w'.cell? ⟨w.heap.size, 0, none⟩ = some (.slice aot T.length capt) ∧ w'.cell? ⟨w.heap.size, 1, none⟩ = some (.bool fa) ∧ w'.cell? ⟨w.heap.size, 2, none⟩ = some (.slice aoc c.length capc)) := fun w' hb => by
    rw [← hw1] at hbox
    have e := (hb.block _ (heap_lt hbox)).trans hbox
    exact ⟨e, by rw [cell_of_row _ _ 0 _ _ _ e]; rfl, by rw [cell_of_row _ _ 1 _ _ _ e]; rfl, by rw [cell_of_row _ _ 2 _ _ _ e]; rfl⟩
  go_enter Try.func25, Try.ntmps25
  go_upto_region 2 with fail
  rw [← hw1] at hba ⊢
  clear hw1 hbox
  obtain ⟨_, t0, t1, t2⟩ := hBX.out w1 (Below.refl _ _)
  have HSG : Hid (Calls Try.prog 42 #[.agg #[.slice aot T.length capt, .bool fa, .slice aoc c.length capc]] w1 fun e w' => e = .returned (.int .i64 ((prdN T T.length : Nat) : Int)) ∧ Below w1.heap.size w1 w') := standings_any T fa c hT4 HPRE.out.2.1 _ _ w1 (HTT.out w1 hba)
  go_wp2_with fail
  refine HSG.out.mono ?_
  rintro e w2 ⟨rfl, hb2⟩
  clear HSG t0 t1 t2
  obtain ⟨i1, hi1, hy0, hy1, hy2⟩ := info_parts Try.infoRowsT
  generalize hPd : prdN T T.length = P at *
  have HPD : Hid (prdN T T.length = P) := hPd
  clear hPd
  obtain ⟨w3, hm, hown3, hg3⟩ := run_make_full (P := Try.prog) w2 w.heap.size 80 62 i1 (.slice none 0 0) 1 Try.underlying80 hi1 hy0 hy1 .i64 .i64 P (by rw [hy2]; omega) (by unfold maxLen; omega) (by have := hba.size; have := hb2.size; omega)
  clear hi1 hy0 hy1 hy2
  have hb23 : Below w2.heap.size w2 w3 := ⟨hg3.os, hg3.tape, hg3.output, hg3.size, fun j hj => hg3.block j hj (by simp)⟩
  have hb13 := below_more hb2 hb23
  obtain ⟨_, t0, t1, t2⟩ := hBX.out w3 hb13
  have hbw3 := below_more hba hb13
  have HTAB : Hid (TabAt w.heap.size w3 w2.heap.size P (fun _ => .slice none 0 0)) := by
    unfold Hid TabAt
    have e1 : (madeCells (Value.slice none 0 0).cells (P * 1)).toList = (List.range P).map fun _ => Value.slice none 0 0 := by
      rw [Nat.mul_one]
      show (madeCells #[.slice none 0 0] _).toList = _
      rw [toList_madeCells_one]
      apply List.ext_getElem?
      intro j
      by_cases hj : j < P
      · rw [List.getElem?_replicate_of_lt hj, List.getElem?_map, List.getElem?_range hj]; rfl
      · rw [List.getElem?_eq_none (by simp; omega), List.getElem?_eq_none (by simp; omega)]
    rw [← e1]
    exact hown3
  have HFI : Hid (Calls Try.prog 43 #[.agg #[.slice aot T.length capt, .bool fa, .slice aoc c.length capc]] w3 fun e w' => ∃ u, e = .returned u ∧ OwnI w3.heap.size w' u (encM T.length moZ) ∧ Below w3.heap.size w3 w') := first_any T fa c hT4 _ _ w3 (HTT.out w3 hbw3)
  clear hown3 hg3
  generalize hTB : w2.heap.size = tb at *
  clear hTB
  go_wp2_with fail
  refine HFI.out.mono ?_
  rintro e w4 ⟨u4, rfl, hu4, hb4⟩
  have HM4 : Hid (MoAt w4 u4 (encM T.length moZ)) := hu4.mo (by rw [enc_len]; omega)
  obtain ⟨g4, cap4, hf4⟩ := own_some2 hu4 (by rw [enc_len]; omega)
  subst hf4
  rw [enc_len] at HM4 ⊢
  clear hu4 HFI t0 t1 t2
  have hb14 := below_more hb13 hb4
  have hbw4 := below_more hba hb14
  have hb45 := below_alloc w4 (.cells #[.slice (some ⟨g4, 0, none⟩) (5 * T.length + 3) cap4] 39)
  have HM5 : Hid (BM w (w4.alloc (.cells #[.slice (some ⟨g4, 0, none⟩) (5 * T.length + 3) cap4] 39)) #[.slice aot T.length capt, .bool fa, .slice aoc c.length capc] P tb (upd (fun _ => .slice none 0 0) 1 (.slice (some ⟨w4.heap.size, 0, none⟩) 1 1)) (L0 T)) := by
    refine ⟨below_more hbw4 hb45, (hBX.out _ (below_more hb14 hb45)).1, rows_start (HM4.out.keep hb45) hbw4.size (heap_alloc_new w4 _), ?_⟩
    exact ((HTAB.out.keep hb4).keep hb45).congr fun p _ => by rw [upd_ne _ _ (by omega)]
  clear HTAB HM4 hb4 hb14 hbw4 hb45 hb13 hb23 hb2 hbw3
  go_wp2_with fail
  generalize hG : w4.heap.size = gs at *
  clear hG hBX
  have HBI : Hid (BI T P (L0 T) 0 0 0) := bi_start T P
  have HV5 : Hid (∃ V : Nat → Value, V = upd (fun _ => .slice none 0 0) 1 (.slice (some ⟨gs, 0, none⟩) 1 1) ∧ V 0 = .slice none 0 0 ∧ V 1 = .slice (some ⟨gs, 0, none⟩) 1 1) := ⟨_, rfl, upd_ne _ _ (by omega), upd_self _ _ _⟩
  obtain ⟨V5, hV5, hV50, hV51⟩ := HV5.out
  rw [← hV5] at HM5
  clear HV5 hV5
  generalize hbx : #[Value.slice aot T.length capt, .bool fa, .slice aoc c.length capc] = box at HM5
  have HBOX : Hid (box[0]? = some (.slice aot T.length capt) ∧ box[1]? = some (.bool fa) ∧ box[2]? = some (.slice aoc c.length capc)) := by rw [← hbx]; exact ⟨rfl, rfl, rfl⟩
  have HTC : Hid (∀ (w' : World) (V : Nat → Value) (L : Nat → List (List Int)), BM w w' box P tb V L → w'.cell? ⟨w.heap.size, 0, none⟩ = some (.slice aot T.length capt) ∧ w'.cell? ⟨w.heap.size, 1, none⟩ = some (.bool fa) ∧ w'.cell? ⟨w.heap.size, 2, none⟩ = some (.slice aoc c.length capc)) := fun w' V L hB => ⟨(hB.cell 0).trans HBOX.out.1, (hB.cell 1).trans HBOX.out.2.1, (hB.cell 2).trans HBOX.out.2.2⟩
  clear hbx HBOX
  generalize w4.alloc (.cells #[.slice (some ⟨g4, 0, none⟩) (5 * T.length + 3) cap4] 39) = w5 at *
  have HL1 : Hid ((L0 T 1).length = 1) := by unfold Hid L0; rw [upd_self]; rfl
  go_loopw [3, 5, 6] (fun x y z wr => ∃ (k : Nat) (V : Nat → Value) (L : Nat → List (List Int)), x = V 0 ∧ y = V 1 ∧ z = .int .i64 k ∧ k ≤ (L 1).length ∧ Hid (BI T P L k k 0) ∧ Hid (BM w wr box P tb V L)) (fun _ _ z _ => 3532201250002 - (intOf z).toNat)
  case atStart => exact ⟨0, V5, L0 T, hV50.symm, hV51.symm, rfl, Nat.zero_le _, HBI.out, HM5.out⟩
  case round =>
    clear HM5 HBI HL1 hV50 hV51
    obtain ⟨k, V, L, rfl, rfl, rfl, hk, HB, HM⟩ := hrel
    have hbd := HB.out.bound HPRE.out.1 hT4 HPRE.out.2.2.2
    obtain ⟨us1, ho1, hu1⟩ := HM.out.rows.row 1 (by omega)
    obtain ⟨us0, ho0, hu0⟩ := HM.out.rows.row 0 (by omega)
    obtain ⟨S', hS'⟩ := HB.out.hd
    have hSpos : 0 < (L 1).length := by rw [hS']; simp
    obtain ⟨g1, cap1, hV1⟩ := own_some2 ho1 hSpos
    obtain ⟨a0, cap0, hV0⟩ := own_form1' ho0
    clear hS' S'
    by_cases hlt : k < (L 1).length
    · have hkI : (k : Int) < ((L 1).length : Int) := by omega
      obtain ⟨m, hm⟩ := get_of_lt hlt
      obtain ⟨R, M, hR, rfl⟩ := HB.out.run m (List.mem_of_getElem? hm)
      have hul : us1.length = (L 1).length := by have := ho1.1; omega
      obtain ⟨u, hu⟩ := get_of_lt (l := us1) (k := k) (by omega)
      have hmo := hu1 k u _ hu hm
      have cs := ho1.cells (g := g1) (by rw [hV1]; rfl) k u hu
      rw [Addr.add_lit, Nat.zero_add] at cs
      obtain ⟨gm, om, capm, hf, hcm⟩ := hmo.form
      rw [enc_len] at hf hcm
      subst hf
      have HMO : Hid (MoAt wr (.slice (some ⟨gm, om, none⟩) (5 * T.length + 3) capm) (encM T.length M)) := hmo
      have HR : Hid (Run T R M ∧ (L 1)[k]? = some (encM T.length M) ∧ Pcs T M) := ⟨hR, hm, (run_ok hR).pcs⟩
      have HV : Hid (V 1 = .slice (some ⟨g1, 0, none⟩) (L 1).length cap1 ∧ V 0 = .slice a0 (L 0).length cap0) := ⟨hV1, hV0⟩
      obtain ⟨t0, t1, t2⟩ := HTC.out wr V L HM.out
      have HDN : Hid (Calls Try.prog 44 #[.agg #[.slice aot T.length capt, .bool fa, .slice aoc c.length capc], .slice (some ⟨gm, om, none⟩) (5 * T.length + 3) capm] wr.drew fun e w' => e = .returned (.bool (doneB T M T.length)) ∧ Below wr.drew.heap.size wr.drew w') := done_any T fa c hT4 HPRE.out.2.1 M _ _ _ wr.drew (HTT.out _ HM.out.low.drew) (hmo.keep (Below.refl _ _).drew).at'
      clear ho1 hu1 ho0 hu0 hul hu hmo hm hR
      rw [hV1, hV0]
      clear hV1 hV0
      generalize hS1 : (L 1).length = n1 at *
      have HS1 : Hid ((L 1).length = n1) := hS1
      generalize hS0 : (L 0).length = n0 at *
      have HS0 : Hid ((L 0).length = n0) := hS0
      have he3 : n0 ≤ k := by have := HB.out.e3; omega
      clear hS1 hS0
      generalize hN5 : 5 * T.length + 3 = N5 at *
      have HN5 : Hid (5 * T.length + 3 = N5) := hN5
      clear hN5
      go_upto_region 7 with fail
      refine wp_region_still_tail 5 (by kernel_rfl) (by kernel_rfl) ?_
      simp only [List.take_succ_cons, List.take_zero, List.drop_succ_cons, List.drop_zero]
      repeat still_step
      refine wpStill_nil ?_
      go_upto_if 32 with (go_at_call 44; refine HDN.out.mono ?_; rintro e w6 ⟨rfl, hb6⟩)
      have HM6 : Hid (BM w w6 box P tb V L) := HM.out.drew.keep hb6
      have HMO6 : Hid (MoAt w6 (.slice (some ⟨gm, om, none⟩) N5 capm) (encM T.length M)) := (HMO.out.keep (Below.refl _ _).drew).keep hb6
      have cs6 := keep_cell (w := wr.drew) hb6 cs
      clear HDN t0 t1 t2 cs hb6 HM HMO
      obtain ⟨t0, t1, t2⟩ := HTC.out w6 V L HM6.out
      generalize hdb : doneB T M T.length = db at *
      go_cut [3, 8, 9] from 33 to 50 (fun x _ _ wc => ∃ (V' : Nat → Value) (L' : Nat → List (List Int)), x = V' 0 ∧ Hid (V' 1 = V 1 ∧ L' 1 = L 1) ∧ Hid (BI T P L' k (k + 1) 0) ∧ Hid (BM w wc box P tb V' L'))
      case first =>
        cases db
        · have HN : Hid (BI T P L k (k + 1) 0) := HB.out.not_done HR.out.2.1 (fun hd => by rw [doneB_iff.2 hd] at hdb; cases hdb)
          clear hdb
          go_wp2_with fail
          go_meet
          case rel => exact ⟨V, L, HV.out.2.symm, ⟨rfl, rfl⟩, HN.out, HM6.out⟩
        · have HD : Hid (DoneM T M) := doneB_iff.1 hdb
          clear hdb
          have h2a : 2 * (T.length : Int) ≤ (N5 : Int) := by have := HN5.out; omega
          have h2b : (N5 : Int) ≤ (capm : Int) := by omega
          have h2c : ¬ capm = 2 * T.length := by have := HN5.out; omega
          have h2d : (2 * (T.length : Int)).toNat = 2 * T.length := by omega
          have h2e : (0 : Int) ≤ 2 * (T.length : Int) := by omega
          have HMC : Hid (MoAt w6 (.slice (some ⟨gm, om + 2 * T.length, none⟩) (N5 - 2 * T.length) (capm - 2 * T.length)) (tailM T.length M)) := by
            have e : (encM T.length M).length = N5 := (enc_len _ _).trans HN5.out
            have q := HMO6.out
            unfold Hid
            rw [← e] at q ⊢
            have := q.cut (d := 2 * T.length) (by rw [enc_len]; omega)
            rw [enc_drop] at this
            exact this
          have HH : Hid (∀ w', Below w6.heap.size w6 w' → Calls Try.prog 45 #[.slice a0 n0 cap0, .slice (some ⟨gm, om + 2 * T.length, none⟩) (N5 - 2 * T.length) (capm - 2 * T.length)] w' fun e w'' => e = .returned (.bool (hasL (L 0) (tailM T.length M))) ∧ Below w'.heap.size w' w'') := fun w' hb => by
            have hlst : LstAt w' (V 0) (L 0) := (HM6.out.keep hb).rows.at' (by omega)
            rw [HV.out.2] at hlst
            exact hasK_any (L 0) (by rw [HS0.out]; omega) (fun m hm => by have := HB.out.lens.2 m hm; omega) (tailM T.length M) (by rw [tail_len]; omega) _ _ w' hlst (HMC.out.keep hb).at'
          go_upto_region 9 with fail
          go_quiet (fail)
          go_wp2_with fail
          have hbq : Below w6.heap.size w6 (w6.drewN nq) := below_drewN (Below.refl _ _) _
          refine (HH.out _ hbq).mono ?_
          rintro e w7 ⟨rfl, hb7⟩
          have hb67 := below_more hbq hb7
          have HM7 : Hid (BM w w7 box P tb V L) := HM6.out.keep hb67
          have HMC7 : Hid (MoAt w7 (.slice (some ⟨gm, om + 2 * T.length, none⟩) (N5 - 2 * T.length) (capm - 2 * T.length)) (tailM T.length M)) := HMC.out.keep hb67
          clear HH HMC HM6 HMO6 hb7 hbq hb67 t0 t1 t2 cs6
          cases hhas : hasL (L 0) (tailM T.length M)
          · have HNE : Hid (BI T P (upd L 0 (L 0 ++ [tailM T.length M])) k (k + 1) 0) := HB.out.new_end HR.out.1 HR.out.2.1 HD.out
            obtain ⟨us0, ho0, hu0⟩ := HM7.out.rows.row 0 (by omega)
            have HO0 : Hid (w7.ownsRow w.heap.size 39 1 (.slice a0 n0 cap0) n0 us0) := by have := ho0; rw [HV.out.2, HS0.out] at this; exact this
            have HUU : Hid (w7.ownsRow w.heap.size 39 1 (V 0) (L 0).length us0 ∧ ∀ (k : Nat) (u : Value) (l : List Int), us0[k]? = some u → (L 0)[k]? = some l → MoAt w7 u l) := ⟨ho0, hu0⟩
            have hlow := HM7.out.low.size
            clear ho0 hu0 hhas
            obtain ⟨i2, hj1, hy0, hy1, hy2⟩ := info_parts Try.infoIntsT
            have HI2 : Hid (Try.prog.info? 39 = some i2 ∧ i2.zero = some (.slice none 0 0) ∧ i2.size = 1 ∧ i2.bytes = 24) := ⟨hj1, hy0, hy1, hy2⟩
            clear hj1 hy0 hy1 hy2
            generalize om + 2 * T.length = om2 at *
            generalize N5 - 2 * T.length = N2 at *
            generalize capm - 2 * T.length = cap2 at *
            go_wp2_with (at_builtin; refine append_new _ rfl _ _ 62 rfl w.heap.size 39 i2 (.slice none 0 0) 1 24 Try.underlying62 HI2.out.1 HI2.out.2.1 HI2.out.2.2.1 HI2.out.2.2.2 rfl (by decide) (.slice a0 n0 cap0) n0 us0 rfl (HO0.out.alloc _) (some ⟨w7.heap.size, 0, none⟩) 1 1 [.slice (some ⟨gm, om2, none⟩) N2 cap2] rfl (fun h => by cases h) rfl (fun ad had => by cases had; exact new_one rfl) (by simp [Value.oneCell']) (by unfold maxLen; omega) (by omega) (by simp; omega) ?_)
            intro V8 w8 hown8 hgrow8 hap8
            have HM8 : Hid (BM w w8 box P tb (upd V 0 V8) (upd L 0 (L 0 ++ [tailM T.length M]))) := by
              refine HM7.out.app2 (i := 0) (by omega) HUU.out.1 HUU.out.2 HMC7.out (by rw [HS0.out]; exact hown8) (by rw [HV.out.2]; exact hgrow8) (by rw [HV.out.2]; simpa using hap8)
            obtain ⟨a8, c8, hf8⟩ := own_form1' hown8
            have HF8 : Hid (upd V 0 V8 0 = .slice a8 (n0 + 1) c8) := by unfold Hid; rw [upd_self]; exact hf8
            rw [hf8]
            clear hown8 hgrow8 hap8 HO0 HUU
            go_wp2_with fail
            go_meet
            case rel => exact ⟨upd V 0 V8, upd L 0 (L 0 ++ [tailM T.length M]), HF8.out.symm, ⟨upd_ne _ _ (by omega), upd_ne _ _ (by omega)⟩, HNE.out, HM8.out⟩
          · have HNE : Hid (BI T P L k (k + 1) 0) := HB.out.old_end HR.out.2.1 (hasL_iff.1 hhas)
            clear hhas
            go_wp2_with fail
            go_meet
            case rel => exact ⟨V, L, HV.out.2.symm, ⟨rfl, rfl⟩, HNE.out, HM7.out⟩
      case rest =>
        clear HM6 HMO6 HB cs6 t0 t1 t2 hdb
        obtain ⟨V2, L2, hx, HE, HB2, HM2⟩ := hcut
        subst hx
        have HLK : Hid ((L2 1)[k]? = some (encM T.length M) ∧ (L2 1).length = n1) := ⟨by rw [HE.out.2]; exact HR.out.2.1, by rw [HE.out.2]; exact HS1.out⟩
        have hV21 : V2 1 = .slice (some ⟨g1, 0, none⟩) n1 cap1 := HE.out.1.trans HV.out.1
        go_wp2_with fail
        go_loopw [5, 10] (fun y z wi => ∃ (i : Nat) (V3 : Nat → Value) (L3 : Nat → List (List Int)), y = V3 1 ∧ z = .int .i64 i ∧ i ≤ T.length ∧ Hid (V3 0 = V2 0 ∧ (L3 1)[k]? = some (encM T.length M)) ∧ n1 ≤ (L3 1).length ∧ Hid (BI T P L3 k (k + 1) i) ∧ Hid (BM w wi box P tb V3 L3)) (fun _ z _ => T.length - (intOf z).toNat)
        case atStart => exact ⟨0, V2, L2, hV21.symm, rfl, Nat.zero_le _, ⟨rfl, HLK.out.1⟩, by rw [HLK.out.2]; exact Nat.le_refl _, HB2.out, HM2.out⟩
        case round =>
          clear HB2 HM2 HLK hV21
          obtain ⟨wi, hwi⟩ : ∃ x, x = wr := ⟨_, rfl⟩
          rw [← hwi] at hrel ⊢
          clear hwi
          obtain ⟨i, V3, L3, rfl, rfl, hi, HVL, hn1, HB3, HM3⟩ := hrel
          have hbd3 := HB3.out.bound HPRE.out.1 hT4 HPRE.out.2.2.2
          obtain ⟨t0, t1, t2⟩ := HTC.out wi V3 L3 HM3.out
          obtain ⟨us1, ho1, hu1⟩ := HM3.out.rows.row 1 (by omega)
          obtain ⟨g3, cap3, hV31⟩ := own_some2 ho1 (by omega)
          by_cases hil : i < T.length
          · have hiI : (i : Int) < (T.length : Int) := by omega
            have hul : us1.length = (L3 1).length := by have := ho1.1; omega
            obtain ⟨u, hu⟩ := get_of_lt (l := us1) (k := k) (by omega)
            have hmo := hu1 k u _ hu HVL.out.2
            have cs := ho1.cells (g := g3) (by rw [hV31]; rfl) k u hu
            rw [Addr.add_lit, Nat.zero_add] at cs
            obtain ⟨gn, on', capn, hf, hcn⟩ := hmo.form
            rw [enc_len, HN5.out] at hf hcn
            subst hf
            have HNX : Hid (Calls Try.prog 46 #[.agg #[.slice aot T.length capt, .bool fa, .slice aoc c.length capc], .slice (some ⟨gn, on', none⟩) N5 capn, .int .i64 i] wi.drew (NxOut T M i wi.drew)) := nextK_any T fa c hT4 HPRE.out.2.1 HPRE.out.2.2.1 M HR.out.2.2 i hil _ _ _ wi.drew (HTT.out _ HM3.out.low.drew) (hmo.keep (Below.refl _ _).drew).at'
            have HV3 : Hid (V3 1 = .slice (some ⟨g3, 0, none⟩) (L3 1).length cap3) := hV31
            clear ho1 hu1 hul hu hmo
            rw [hV31]
            clear hV31
            generalize hS3 : (L3 1).length = n3 at *
            have HS3 : Hid ((L3 1).length = n3) := hS3
            clear hS3
            have hkI3 : (k : Int) < (n3 : Int) := by omega
            go_upto_region 16 with fail
            refine wp_region_still_tail 6 (by kernel_rfl) (by kernel_rfl) ?_
            simp only [List.take_succ_cons, List.take_zero, List.drop_succ_cons, List.drop_zero]
            repeat still_step
            refine wpStill_nil ?_
            go_upto_region 17 with (go_at_call 46; refine HNX.out.mono ?_; rintro e w7 ⟨hb7, hcase⟩; rcases hcase with ⟨hno, rfl⟩ | ⟨M', u', hst, rfl, hown⟩)
            · have HM7 : Hid (BM w w7 box P tb V3 L3) := HM3.out.drew.keep hb7
              have HN : Hid (BI T P L3 k (k + 1) (i + 1)) := HB3.out.no_step HPRE.out.2.2.1 HVL.out.2 hno
              clear hno hb7 HNX t0 t1 t2 cs HM3 HB3
              go_wp2_with fail
              go_roundw
              case measure => simp [intOf]; omega
              case rel => exact ⟨i + 1, V3, L3, HV3.out.symm, by go_num, by omega, HVL.out, by rw [HS3.out]; exact hn1, HN.out, HM7.out⟩
            · have HM7 : Hid (BM w w7 box P tb V3 L3) := HM3.out.drew.keep hb7
              have hmo7 := hown.mo (by rw [enc_len]; omega)
              obtain ⟨gu, capu, hfu⟩ := own_some2 hown (by rw [enc_len]; omega)
              rw [enc_len, HN5.out] at hfu
              subst hfu
              have HMO7 : Hid (MoAt w7 (.slice (some ⟨gu, 0, none⟩) N5 capu) (encM T.length M')) := hmo7
              obtain ⟨li, hli⟩ := get_of_lt hil
              have hP' : Pcs T M' := by
                obtain ⟨x, hx, hk'⟩ := step_kind hli hst
                exact HR.out.2.2.step hli hx hk'
              have hpP : stdN T M' T.length < P := HSTD.out M' hP'
              have HST : Hid (stepMo T M i = some M') := hst
              have HSD : Hid (Calls Try.prog 47 #[.agg #[.slice aot T.length capt, .bool fa, .slice aoc c.length capc], .slice (some ⟨gu, 0, none⟩) N5 capu] w7 fun e w' => e = .returned (.int .i64 ((stdN T M' T.length : Nat) : Int)) ∧ Below w7.heap.size w7 w') := standing_any T fa c hT4 HPRE.out.2.1 M' hP' _ _ _ w7 (HTT.out _ HM7.out.low) hmo7.at'
              clear hb7 HNX t0 t1 t2 cs HM3 hown hst hmo7 hli hP'
              obtain ⟨t0, t1, t2⟩ := HTC.out w7 V3 L3 HM7.out
              generalize hpp : stdN T M' T.length = p at *
              have HPP : Hid (stdN T M' T.length = p) := hpp
              clear hpp
              have hpI : (p : Int) < (P : Int) := by omega
              go_upto_region 19 with (go_at_call 47; refine HSD.out.mono ?_; rintro e w8 ⟨rfl, hb8⟩)
              have HM8 : Hid (BM w w8 box P tb V3 L3) := HM7.out.keep hb8
              have HMO8 : Hid (MoAt w8 (.slice (some ⟨gu, 0, none⟩) N5 capu) (encM T.length M')) := HMO7.out.keep hb8
              clear HM7 HMO7 HSD hb8 t0 t1 t2
              obtain ⟨us8, ho8, -⟩ := HM8.out.rows.row (p + 2) (by omega)
              obtain ⟨a8, cap8, hV8⟩ := own_form1' ho8
              have c8 := (HM8.out.tab.cell hpP).1
              rw [hV8] at c8
              have HV8 : Hid (V3 (p + 2) = .slice a8 (L3 (p + 2)).length cap8) := hV8
              have hrl := HB3.out.rowlen hpP
              rw [HS3.out] at hrl
              have HHS : Hid (Calls Try.prog 45 #[.slice a8 (L3 (p + 2)).length cap8, .slice (some ⟨gu, 0, none⟩) N5 capu] w8 fun e w'' => e = .returned (.bool (hasL (L3 (p + 2)) (encM T.length M'))) ∧ Below w8.heap.size w8 w'') := by
                have hlst : LstAt w8 (V3 (p + 2)) (L3 (p + 2)) := HM8.out.rows.at' (by omega)
                rw [hV8] at hlst
                exact hasK_any (L3 (p + 2)) (by omega) (fun m hm => by have := HB3.out.lens.1 p hpP m hm; omega) (encM T.length M') (by rw [enc_len]; omega) _ _ w8 hlst HMO8.out.at'
              clear ho8 hV8
              generalize hnp : (L3 (p + 2)).length = np at *
              have HNP : Hid ((L3 (p + 2)).length = np) := hnp
              clear hnp
              go_upto_region 20 with (go_at_call 45; refine HHS.out.mono ?_; rintro e w9 ⟨rfl, hb9⟩)
              have HM9 : Hid (BM w w9 box P tb V3 L3) := HM8.out.keep hb9
              have HMO9 : Hid (MoAt w9 (.slice (some ⟨gu, 0, none⟩) N5 capu) (encM T.length M')) := HMO8.out.keep hb9
              clear HM8 HMO8 HHS hb9 c8
              cases hhas : hasL (L3 (p + 2)) (encM T.length M')
              · have HNE : Hid (BI T P (upd (upd L3 (p + 2) (L3 (p + 2) ++ [encM T.length M'])) 1 (L3 1 ++ [encM T.length M'])) k (k + 1) (i + 1)) := by
                  have hnin : encM T.length M' ∉ L3 (p + 2) := fun q => by rw [hasL_iff.2 q] at hhas; cases hhas
                  have := HB3.out.new_step HPRE.out.2.2.1 HR.out.1 hil HVL.out.2 HST.out (by rw [HPP.out]; exact hpP) (by rw [HPP.out]; exact hnin)
                  rw [HPP.out] at this
                  exact this
                obtain ⟨us9, ho9, hu9⟩ := HM9.out.rows.row (p + 2) (by omega)
                have HO9 : Hid (w9.ownsRow w.heap.size 39 1 (.slice a8 np cap8) np us9) := by have := ho9; rw [HV8.out, HNP.out] at this; exact this
                have HUU : Hid (w9.ownsRow w.heap.size 39 1 (V3 (p + 2)) (L3 (p + 2)).length us9 ∧ ∀ (k : Nat) (u : Value) (l : List Int), us9[k]? = some u → (L3 (p + 2))[k]? = some l → MoAt w9 u l) := ⟨ho9, hu9⟩
                have hlow := HM9.out.low.size
                have c9 := (HM9.out.tab.cell hpP).1
                rw [HV8.out] at c9
                clear ho9 hu9 hhas
                obtain ⟨i2, hj1, hy0, hy1, hy2⟩ := info_parts Try.infoIntsT
                have HI2 : Hid (Try.prog.info? 39 = some i2 ∧ i2.zero = some (.slice none 0 0) ∧ i2.size = 1 ∧ i2.bytes = 24) := ⟨hj1, hy0, hy1, hy2⟩
                clear hj1 hy0 hy1 hy2
                go_wp2_with (at_builtin; refine append_new _ rfl _ _ 62 rfl w.heap.size 39 i2 (.slice none 0 0) 1 24 Try.underlying62 HI2.out.1 HI2.out.2.1 HI2.out.2.2.1 HI2.out.2.2.2 rfl (by decide) (.slice a8 np cap8) np us9 rfl (HO9.out.alloc _) (some ⟨w9.heap.size, 0, none⟩) 1 1 [.slice (some ⟨gu, 0, none⟩) N5 capu] rfl (fun h => by cases h) rfl (fun ad had => by cases had; exact new_one rfl) (by simp [Value.oneCell']) (by unfold maxLen; omega) (by omega) (by simp; omega) ?_)
                intro VA wA hownA hgrowA hapA
                obtain ⟨aA, cA, hfA⟩ := own_form1' hownA
                subst hfA
                have HQ : Hid (BM w (wA.setCell ⟨tb, p, none⟩ (.slice aA (np + 1) cA)) box P tb (upd V3 (p + 2) (.slice aA (np + 1) cA)) (upd L3 (p + 2) (L3 (p + 2) ++ [encM T.length M'])) ∧ wA.cell? ⟨tb, p, none⟩ = some (V3 (p + 2)) ∧ wA.frozen? ⟨tb, p, none⟩ = false ∧ MoAt (wA.setCell ⟨tb, p, none⟩ (.slice aA (np + 1) cA)) (.slice (some ⟨gu, 0, none⟩) N5 capu) (encM T.length M')) := HM9.out.app3 hpP HUU.out.1 HUU.out.2 HMO9.out (by rw [HNP.out]; exact hownA) (by rw [HV8.out]; exact hgrowA) (by rw [HV8.out]; simpa using hapA)
                have cA0 := HQ.out.2.1
                rw [HV8.out] at cA0
                have fA0 := HQ.out.2.2.1
                have HMB : Hid (BM w (wA.setCell ⟨tb, p, none⟩ (.slice aA (np + 1) cA)) box P tb (upd V3 (p + 2) (.slice aA (np + 1) cA)) (upd L3 (p + 2) (L3 (p + 2) ++ [encM T.length M']))) := HQ.out.1
                have HMOB : Hid (MoAt (wA.setCell ⟨tb, p, none⟩ (.slice aA (np + 1) cA)) (.slice (some ⟨gu, 0, none⟩) N5 capu) (encM T.length M')) := HQ.out.2.2.2
                clear hownA hgrowA hapA HO9 HUU HQ c9 HM9 HMO9
                go_upto_region 22 with fail
                obtain ⟨wB, hwB⟩ : ∃ x, x = wA.setCell ⟨tb, p, none⟩ (.slice aA (np + 1) cA) := ⟨_, rfl⟩
                rw [← hwB] at HMB HMOB ⊢
                clear hwB cA0 fA0
                have HVB : Hid (upd V3 (p + 2) (.slice aA (np + 1) cA) 1 = .slice (some ⟨g3, 0, none⟩) n3 cap3 ∧ upd L3 (p + 2) (L3 (p + 2) ++ [encM T.length M']) 1 = L3 1) := ⟨by rw [upd_ne _ _ (by omega)]; exact HV3.out, upd_ne _ _ (by omega)⟩
                obtain ⟨usB, hoB, huB⟩ := HMB.out.rows.row 1 (by omega)
                have HOB : Hid (wB.ownsRow w.heap.size 39 1 (.slice (some ⟨g3, 0, none⟩) n3 cap3) n3 usB) := by have := hoB; rw [HVB.out.1, HVB.out.2, HS3.out] at this; exact this
                have HUB : Hid (wB.ownsRow w.heap.size 39 1 (upd V3 (p + 2) (.slice aA (np + 1) cA) 1) (upd L3 (p + 2) (L3 (p + 2) ++ [encM T.length M']) 1).length usB ∧ ∀ (k : Nat) (u : Value) (l : List Int), usB[k]? = some u → (upd L3 (p + 2) (L3 (p + 2) ++ [encM T.length M']) 1)[k]? = some l → MoAt wB u l) := ⟨hoB, huB⟩
                have hlowB := HMB.out.low.size
                clear hoB huB
                go_wp2_with (at_builtin; refine append_new _ rfl _ _ 62 rfl w.heap.size 39 i2 (.slice none 0 0) 1 24 Try.underlying62 HI2.out.1 HI2.out.2.1 HI2.out.2.2.1 HI2.out.2.2.2 rfl (by decide) (.slice (some ⟨g3, 0, none⟩) n3 cap3) n3 usB rfl (HOB.out.alloc _) (some ⟨wB.heap.size, 0, none⟩) 1 1 [.slice (some ⟨gu, 0, none⟩) N5 capu] rfl (fun h => by cases h) rfl (fun ad had => by cases had; exact new_one rfl) (by simp [Value.oneCell']) (by unfold maxLen; omega) (by omega) (by simp; omega) ?_)
                intro VC wC hownC hgrowC hapC
                obtain ⟨aC, cC, hfC⟩ := own_form1' hownC
                subst hfC
                have HMC : Hid (BM w wC box P tb (upd (upd V3 (p + 2) (.slice aA (np + 1) cA)) 1 (.slice aC (n3 + 1) cC)) (upd (upd L3 (p + 2) (L3 (p + 2) ++ [encM T.length M'])) 1 (L3 1 ++ [encM T.length M']))) := by
                  have q := HMB.out.app2 (i := 1) (by omega) HUB.out.1 HUB.out.2 HMOB.out (by rw [HVB.out.2, HS3.out]; exact hownC) (by rw [HVB.out.1]; exact hgrowC) (by rw [HVB.out.1]; simpa using hapC)
                  rw [HVB.out.2] at q
                  exact q
                clear hownC hgrowC hapC HOB HUB HMB HMOB
                have HLL : Hid ((L3 1 ++ [encM T.length M'])[k]? = some (encM T.length M) ∧ (L3 1 ++ [encM T.length M']).length = n3 + 1) := ⟨by rw [List.getElem?_append_left (by rw [HS3.out]; omega)]; exact HVL.out.2, by rw [List.length_append, HS3.out]; rfl⟩
                go_wp2_with fail
                go_roundw
                case measure => simp [intOf]; omega
                case rel => exact ⟨i + 1, _, _, (upd_self _ _ _).symm, by go_num, by omega, ⟨by rw [upd_ne _ _ (by omega), upd_ne _ _ (by omega)]; exact HVL.out.1, by rw [upd_self]; exact HLL.out.1⟩, by rw [upd_self, HLL.out.2]; omega, HNE.out, HMC.out⟩
              · have HN : Hid (BI T P L3 k (k + 1) (i + 1)) := HB3.out.old_step HPRE.out.2.2.1 HVL.out.2 HST.out (List.mem_of_mem_tail (HB3.out.t2 p _ hpP (hasL_iff.1 hhas)))
                clear hhas
                go_wp2_with fail
                go_roundw
                case measure => simp [intOf]; omega
                case rel => exact ⟨i + 1, V3, L3, HV3.out.symm, by go_num, by omega, HVL.out, by rw [HS3.out]; exact hn1, HN.out, HM9.out⟩
          · have hiI : ¬ (i : Int) < (T.length : Int) := by omega
            obtain rfl : i = T.length := by omega
            have HN : Hid (BI T P L3 (k + 1) (k + 1) 0) := HB3.out.next
            clear ho1 hu1
            go_wp2_with fail
            go_roundw
            case measure => simp [intOf]; omega
            case rel => exact ⟨k + 1, V3, L3, HVL.out.1.symm, rfl, by go_num, by omega, HN.out, HM3.out⟩
    · have hkI : ¬ (k : Int) < ((L 1).length : Int) := by omega
      have HF : Hid (LstAt wr (V 0) (L 0) ∧ (∀ l ∈ L 0, l.length = 3 * T.length + 3) ∧ (L 0).length ≤ 3532201250001 ∧ (∀ l, l ∈ L 0 ↔ ∃ R M, Run T R M ∧ DoneM T M ∧ l = tailM T.length M) ∧ Below w.heap.size w wr) := ⟨HM.out.rows.at' (by omega), HB.out.lens.2, by have := HB.out.e3; omega, fun l => HB.out.finish (by omega) l, HM.out.low⟩
      clear ho1 hu1 ho0 hu0
      rw [hV1]
      rw [hV0] at HF ⊢
      go_wp2_with fail
      go_ret
      exact ⟨_, _, rfl, HF.out⟩

end Go.Proofs.Ytomijmikkbhgmab

namespace Go.Proofs.Ytomijmikkbhgmab

theorem alw_four {T : List (List Ins)} {E : List Evt} {x : Exe} (ha : Alw T E x) : ¬ Cyc E.length (cohA E x) ∧ tornB E x = false ∧ ¬ Cyc E.length (kepA T E x) ∧ Parts E.length (mtL (thoL 2 E 0) (thoL 3 E 0) (thoL 4 E 0)) (kepA T E x) := by
  have hal := alB_iff.2 ha
  unfold alB at hal
  have h0 : ∀ n A, (!cycB n A) = true ↔ ¬ Cyc n A := fun n A => by rw [← cycB_iff (n := n) (A := A)]; simp
  simp only [Bool.and_eq_true, h0, partsB_iff, Bool.not_eq_true'] at hal
  obtain ⟨⟨⟨a1, a2⟩, a3⟩, a4⟩ := hal
  exact ⟨a1, a2, a3, a4⟩

/-- The instruction of an event. -/
theorem evsI_split {i : Nat} {l : List Ins} {j r : Nat} {y : Evt} (h : (evsI i l j)[r]? = some y) : ∃ (p t : Nat) (x : Ins) (kd : Int), l[p]? = some x ∧ (kindsOf x.op)[t]? = some kd ∧ y = ⟨(i : Int), ((j + p : Nat) : Int), kd, x.loc, x⟩ ∧ r = (evsI 0 (l.take p) 0).length + t := by
  induction l generalizing j r with
  | nil => simp [evsI] at h
  | cons x l ih =>
    rw [evsI] at h
    have hk : (evsK i j x (kindsOf x.op)).length = (kindsOf x.op).length := by unfold evsK; simp
    by_cases hr : r < (kindsOf x.op).length
    · rw [List.getElem?_append_left (by rw [hk]; exact hr)] at h
      obtain ⟨kd, hkd⟩ := get_of_lt hr
      unfold evsK at h
      rw [List.getElem?_map, hkd] at h
      refine ⟨0, r, x, kd, rfl, hkd, ?_, by simp [evsI]⟩
      have := (Option.some.inj h).symm
      rw [this]
      rfl
    · rw [List.getElem?_append_right (by rw [hk]; omega), hk] at h
      obtain ⟨p, t, z, kd, h1, h2, h3, h4⟩ := ih h
      refine ⟨p + 1, t, z, kd, by simpa using h1, h2, ?_, ?_⟩
      · rw [h3, show j + 1 + p = j + (p + 1) by omega]
      · rw [List.take_succ_cons, evsI, List.length_append, evsI_len0 0 0 _ (0 + 1) 0]
        have : (evsK 0 0 x (kindsOf x.op)).length = (kindsOf x.op).length := by unfold evsK; simp
        omega

theorem evsI_take_le {l : List Ins} {p q : Nat} (h : p ≤ q) : (evsI 0 (l.take p) 0).length ≤ (evsI 0 (l.take q) 0).length := by
  induction l generalizing p q with
  | nil => simp
  | cons x l ih =>
    cases p with
    | zero => simp [evsI]
    | succ p =>
      cases q with
      | zero => omega
      | succ q =>
        rw [List.take_succ_cons, List.take_succ_cons, evsI, evsI, List.length_append, List.length_append, evsI_len0 0 0 (l.take p) (0 + 1) 0, evsI_len0 0 0 (l.take q) (0 + 1) 0]
        have := ih (p := p) (q := q) (by omega)
        omega
theorem evsI_take_next {l : List Ins} {p : Nat} {x : Ins} (h : l[p]? = some x) : (evsI 0 (l.take (p + 1)) 0).length = (evsI 0 (l.take p) 0).length + (kindsOf x.op).length := by
  have := evc_next (l := l) (q := 2 * p) (x := x) (by rw [show 2 * p / 2 = p by omega]; exact h) (by omega)
  unfold evc at this
  rw [show (2 * p + 2) / 2 = p + 1 by omega, show 2 * p / 2 = p by omega] at this
  omega

/-- Between every two instructions there is a Full Fence. -/
def Fen (T : List (List Ins)) : Prop := ∀ l ∈ T, ∀ p x, l[p]? = some x → p % 2 = 1 → x = ⟨4, 0, 0, 0, 0⟩

theorem fen_keeps {T : List (List Ins)} (hf : Fen T) {a b : Nat} {ya yb : Evt} (ha : (evsT T 0)[a]? = some ya) (hb : (evsT T 0)[b]? = some yb) (ht : ya.thread = yb.thread) (hab : a < b) : keepP T (evsT T 0) a b ya yb = true := by
  obtain ⟨i, r, l, q1⟩ := at_of ha
  obtain ⟨j, r', l', q2⟩ := at_of hb
  have hij : j = i := by rw [q1.th, q2.th] at ht; omega
  subst hij
  have hl := q1.1
  rw [q2.1] at hl
  cases hl
  have hrr : r < r' := by have := q1.2.2; have := q2.2.2; omega
  obtain ⟨p, t, x, kd, h1, h2, h3, h4⟩ := evsI_split q1.2.1
  obtain ⟨p', t', x', kd', h1', h2', h3', h4'⟩ := evsI_split q2.2.1
  rw [Nat.zero_add] at h3 h3'
  have hlt := (List.getElem?_eq_some_iff.1 h2).1
  have hlt' := (List.getElem?_eq_some_iff.1 h2').1
  have hgd : T.getD ya.thread.toNat [] = l := by
    rw [h3]
    show T.getD ((j : Int)).toNat [] = l
    rw [Int.toNat_natCast, List.getD_eq_getElem?_getD, q1.1]
    rfl
  unfold keepP keepB
  rw [hgd]
  have hpp : p ≤ p' := by
    rcases Nat.lt_or_ge p' p with q | q
    · have e1 := evsI_take_next h1'
      have e2 := evsI_take_le (l := l) (p := p' + 1) (q := p) (by omega)
      omega
    · exact q
  rcases Nat.lt_or_eq_of_le hpp with hlt2 | heq
  · -- two instructions
    have even : ∀ (p : Nat) (x : Ins) (t : Nat), l[p]? = some x → t < (kindsOf x.op).length → p % 2 = 0 := fun p x t hp ht' => by
      by_cases ho : p % 2 = 1
      · have := hf l (List.mem_of_getElem? q1.1) p x hp ho
        rw [this] at ht'
        have : (kindsOf 4).length = 0 := rfl
        simp only [this] at ht'
        omega
      · omega
    have ep := even p x t h1 hlt
    have ep' := even p' x' t' h1' hlt'
    have hpl := (List.getElem?_eq_some_iff.1 h1').1
    obtain ⟨z, hz⟩ := get_of_lt (l := l) (k := p + 1) (by omega)
    have hz4 := hf l (List.mem_of_getElem? q1.1) (p + 1) z hz (by omega)
    have hfb : fenB l ya yb = true := by
      unfold fenB
      rw [h3, h3']
      show (((l.take ((p' : Nat) : Int).toNat).drop (((p : Nat) : Int).toNat + 1)).any _) = true
      rw [Int.toNat_natCast, Int.toNat_natCast]
      refine List.any_eq_true.2 ⟨z, List.mem_of_getElem? (i := 0) (by rw [List.getElem?_drop, Nat.add_zero, List.getElem?_take_of_lt (by omega)]; exact hz), ?_⟩
      unfold fen1
      rw [hz4]
      rfl
    rw [hfb]
    simp [ht]
  · subst heq
    rw [h1] at h1'
    cases h1'
    have htt : t < t' := by omega
    have h2k : 2 ≤ (kindsOf x.op).length := by omega
    have hop : x.op = 3 ∨ x.op = 7 := by
      by_cases c3 : x.op = 3
      · exact .inl c3
      · by_cases c7 : x.op = 7
        · exact .inr c7
        · have := kinds_one c3 c7 (fun e => by rw [e] at h2k; simp at h2k)
          omega
    rcases hop with c3 | c7
    · rw [c3] at h2 h2' hlt hlt'
      have : (kindsOf 3).length = 2 := rfl
      rw [this] at hlt hlt'
      have ht0 : t = 0 := by omega
      have ht1 : t' = 1 := by omega
      subst ht0 ht1
      have k0 : kd = 0 := (Option.some.inj h2).symm
      have k1 : kd' = 1 := (Option.some.inj h2').symm
      have hlb : lastB (evsT T 0) a b yb = true := by
        unfold lastB
        rw [h3']
        simp only [k1, c3]
        have : ((a : Nat) : Int) = (b : Int) - 1 := by have := q1.2.2; have := q2.2.2; omega
        simp [this]
      rw [hlb]
      simp [ht]
    · rw [c7] at h2 h2' hlt hlt'
      have : (kindsOf 7).length = 2 := rfl
      rw [this] at hlt hlt'
      have ht0 : t = 0 := by omega
      subst ht0
      have k0 : kd = 4 := (Option.some.inj h2).symm
      have hmb : markB ya yb = true := by
        unfold markB
        rw [h3]
        simp [k0]
      rw [hmb]
      simp [ht]

theorem pick_in {m : Mt} (β : Bool) {A : List (Int × Int)} (h : pick β m ∈ A) : (m.e, m.f) ∈ A ∨ (m.s, m.b) ∈ A := by
  unfold pick at h
  cases β
  · exact .inl h
  · exact .inr h

/-- With Full Fences between all instructions what is allowed comes out by turns. -/
theorem fenced_turns {T : List (List Ins)} {c : List Atm} (hz : ((chk T c).1 == 0) = true) (hf : Fen T) {X : Exe} (hx : IsEx (evsT T 0) X) (ha : Alw T (evsT T 0) X) : ∃ R M, Run T R M ∧ DoneM T M ∧ stX T (evsT T 0) X = tailM T.length M := by
  obtain ⟨_, a2, _, a4⟩ := alw_four ha
  obtain ⟨β, hβ⟩ := (parts_iff _ _ _).1 a4
  refine order_turns hz hx a2 hβ (fun p hp => List.mem_append_left _ (List.mem_append_left _ hp)) (fun a b ya yb h1 h2 ht hab => ?_) (fun m hm => ?_)
  · refine List.mem_append_left _ (List.mem_append_right _ (allD_mem.2 ⟨(List.getElem?_eq_some_iff.1 h2).1, hab, ?_⟩))
    rw [pairB_get h1 h2]
    exact fen_keeps hf h1 h2 ht hab
  · obtain ⟨k, hk⟩ := List.getElem?_of_mem hm
    exact pick_in (β k) (List.mem_append_right _ (List.mem_of_getElem? (chS_get _ β k m hk)))

/-- On one location alone what is allowed comes out by turns. -/
theorem single_turns {T : List (List Ins)} {c : List Atm} (hz : ((chk T c).1 == 0) = true) (d : Int) (h1 : ∀ y ∈ evsT T 0, (y.kind = 0 ∨ y.kind = 1) ∧ y.loc = d) {X : Exe} (hx : IsEx (evsT T 0) X) (ha : Alw T (evsT T 0) X) : ∃ R M, Run T R M ∧ DoneM T M ∧ stX T (evsT T 0) X = tailM T.length M := by
  obtain ⟨a1, a2, _, _⟩ := alw_four ha
  refine order_turns hz hx a2 a1 (fun p hp => List.mem_append_left _ hp) (fun a b ya yb q1 q2 ht hab => ?_) (fun m hm => ?_)
  · refine List.mem_append_right _ (allD_mem.2 ⟨(List.getElem?_eq_some_iff.1 q2).1, hab, ?_⟩)
    rw [pairB_get q1 q2]
    obtain ⟨k1, l1⟩ := h1 ya (List.mem_of_getElem? q1)
    obtain ⟨k2, l2⟩ := h1 yb (List.mem_of_getElem? q2)
    unfold cohP memB
    rcases k1 with k1 | k1 <;> rcases k2 with k2 | k2 <;> simp [k1, k2, l1, l2, ht]
  · exfalso
    obtain ⟨_, h2, _⟩ := mt_mem.1 hm
    obtain ⟨k, y, q1, q2, _⟩ := thoL_mem h2
    rcases (h1 y (List.mem_of_getElem? q1)).1 with q | q <;> omega

/-! the outcomes are the states of what is allowed -/
theorem cas_mem {al : Nat → Bool} {N n : Nat} : n ∈ casN al N ↔ n < N ∧ al n = true := by
  unfold casN
  rw [List.mem_filter, List.mem_range]

theorem out_states {T : List (List Ins)} {c : List Atm} {al : Nat → Bool} (hal : Als T (evsT T 0) al) (h0 : (chk T c).1 = 0) (s : List Int) : s ∈ (outT al T).map (·.1) ↔ ∃ n, n < sizeN (evsT T 0) ∧ Alw T (evsT T 0) (exN (evsT T 0) n) ∧ stX T (evsT T 0) (exN (evsT T 0) n) = s := by
  have hf := outT_fit hal h0
  constructor
  · intro h
    obtain ⟨p, hp, rfl⟩ := List.mem_map.1 h
    have h1 := cnOu_at hf.srt hp
    have h2 := hf.pos p hp
    rw [outT_cnt] at h1
    obtain ⟨n, hn, e⟩ := List.mem_map.1 (cnSt_pos.1 (by rw [h1]; exact h2))
    obtain ⟨n1, n2⟩ := cas_mem.1 hn
    exact ⟨n, n1, (hal n n1).1 n2, e⟩
  · rintro ⟨n, n1, n2, rfl⟩
    obtain ⟨p, hp, e⟩ := cnOu_pos (K := outT al T) (t := stX T (evsT T 0) (exN (evsT T 0) n)) (by rw [outT_cnt]; exact cnSt_pos.2 (List.mem_map.2 ⟨n, cas_mem.2 ⟨n1, (hal n n1).2 n2⟩, rfl⟩))
    exact List.mem_map.2 ⟨p, hp, e⟩

end Go.Proofs.Ytomijmikkbhgmab

namespace Go.Proofs.Ytomijmikkbhgmab
open Go.RowKit

set_option maxRecDepth 20000 in
set_option maxHeartbeats 1000000 in
theorem statesK_any (K : List (List Int × Nat)) (hK : K.length ≤ 2000) (v : Value) (w : World) (hv : OutAt w v K) :
    Calls Try.prog 24 #[v] w fun e w' => ∃ u, e = .returned u ∧ LstAt w' u (K.map (·.1)) ∧ Below w.heap.size w w' := by
  obtain ⟨ao, b, off, cap, hu1, ha, _, hc⟩ := hv
  subst hu1
  have HC : Hid (∀ k p, K[k]? = some p → OutC w b (off + k * 2) p) := hc
  clear hc
  obtain ⟨i2, hj1, hy0, hy1, hy2⟩ := info_parts Try.infoIntsT
  have HI2 : Hid (Try.prog.info? 39 = some i2 ∧ i2.zero = some (.slice none 0 0) ∧ i2.size = 1 ∧ i2.bytes = 24) := ⟨hj1, hy0, hy1, hy2⟩
  clear hj1 hy0 hy1 hy2
  go_enter Try.func24, Try.ntmps24
  go_wp2_with fail
  go_loopw [3, 4] (fun x y wr => ∃ (k : Nat) (us : List Value), k ≤ K.length ∧ y = .int .i64 k ∧ Hid (wr.ownsRow w.heap.size 39 1 x k us ∧ ∀ (j : Nat) (u : Value) (p : List Int × Nat), us[j]? = some u → K[j]? = some p → IntAt w u p.1) ∧ Below w.heap.size w wr) (fun _ y _ => K.length - (intOf y).toNat)
  case atStart => exact ⟨0, [], Nat.zero_le _, rfl, ⟨World.ownsRow_nil _ _ _ _, fun j u p h => by simp at h⟩, Below.refl _ _⟩
  case round =>
    obtain ⟨k, us, hk, rfl, HO, hb⟩ := hrel
    obtain ⟨a3, cap3, hf3⟩ := own_form1' HO.out.1
    subst hf3
    by_cases hlt : k < K.length
    · have hkI : (k : Int) < (K.length : Int) := by omega
      obtain ⟨p, hp⟩ := get_of_lt hlt
      obtain rfl := ha (ne_nil hlt)
      obtain ⟨u1, c00, c01, hi1⟩ := HC.out k p hp
      have c0 := keep_cell hb c00
      have c1 := keep_cell hb c01
      obtain ⟨a1, p1, e1⟩ := hi1.form
      have HI1 : Hid (IntAt w u1 p.1) := hi1
      rw [e1] at c0
      have HE1 : Hid (u1 = .slice a1 p.1.length p1) := e1
      have HP : Hid (K[k]? = some p) := hp
      have hsz := hb.size
      clear c00 c01 hi1 e1 hp
      generalize p.1.length = lp at *
      go_wp2_with (at_builtin; refine append_new _ rfl _ _ 62 rfl w.heap.size 39 i2 (.slice none 0 0) 1 24 Try.underlying62 HI2.out.1 HI2.out.2.1 HI2.out.2.2.1 HI2.out.2.2.2 rfl (by decide) (.slice a3 k cap3) k us rfl (HO.out.1.alloc _) (some ⟨wr.heap.size, 0, none⟩) 1 1 [.slice a1 lp p1] rfl (fun h => by cases h) rfl (fun ad had => by cases had; exact new_one rfl) (by simp [Value.oneCell']) (by unfold maxLen; omega) (by omega) (by simp; omega) ?_)
      intro V8 w8 hown8 hgrow8 hap8
      have HO8 : Hid (w8.ownsRow w.heap.size 39 1 V8 (k + 1) (us ++ [.slice a1 lp p1]) ∧ ∀ (j : Nat) (u : Value) (q : List Int × Nat), (us ++ [.slice a1 lp p1])[j]? = some u → K[j]? = some q → IntAt w u q.1) := by
        refine ⟨hown8, fun j u q hu hq => ?_⟩
        have hul : us.length = k := by have := HO.out.1.1; omega
        by_cases hj : j < us.length
        · rw [List.getElem?_append_left hj] at hu
          exact HO.out.2 j u q hu hq
        · have hjl : j = us.length := by
            have := (List.getElem?_eq_some_iff.1 hu).1
            simp at this; omega
          subst hjl
          rw [List.getElem?_append_right (Nat.le_refl _), Nat.sub_self] at hu
          rw [hul, HP.out] at hq
          simp at hu hq
          subst hu hq
          rw [← HE1.out]
          exact HI1.out
      have hb8 : Below w.heap.size w w8 := grown_below hb hgrow8 fun b hb' => (HO.out.1.lt b hb').1
      obtain ⟨a8, c8, hf8⟩ := own_form1' hown8
      subst hf8
      clear hown8 hgrow8 hap8 HO c0 c1 hb
      go_wp2_with fail
      go_roundw
      case measure => simp [intOf]; omega
      case rel => exact ⟨k + 1, _, by omega, by go_num, HO8.out, hb8⟩
    · have hkI : ¬ (k : Int) < (K.length : Int) := by omega
      obtain rfl : k = K.length := by omega
      have HF : Hid (LstAt wr (.slice a3 K.length cap3) (K.map (·.1))) := by
        have ho := HO.out.1
        have hul : us.length = K.length := by have := ho.1; omega
        rcases ho.2 with ⟨hv, hn⟩ | ⟨g, cap', cur, hv, hg, hh, _⟩
        · have h0 : K = [] := List.eq_nil_of_length_eq_zero hn
          subst h0
          exact ⟨none, 0, 0, 0, by rw [hv]; rfl, fun h => absurd rfl h, fun _ => ⟨rfl, rfl⟩, fun k x h => by simp at h⟩
        · refine ⟨_, g, 0, cap', by rw [hv, List.length_map], fun _ => rfl, fun h => (by simp at h), fun j x hj => ?_⟩
          rw [List.getElem?_map] at hj
          cases hq : K[j]? with
          | none => rw [hq] at hj; cases hj
          | some q =>
            rw [hq] at hj
            have hxq : q.1 = x := by simpa using hj
            obtain ⟨u, hu⟩ := get_of_lt (l := us) (k := j) (by have := (List.getElem?_eq_some_iff.1 hq).1; omega)
            refine ⟨u, ?_, by rw [← hxq]; exact (HO.out.2 j u q hu hq).keep hb⟩
            have := ho.cells (g := g) (by rw [hv]; rfl) j u hu
            rw [Addr.add_lit] at this
            rw [Nat.mul_one]
            exact this
      clear HO
      go_wp2_with fail
      go_ret
      exact ⟨_, rfl, HF.out, hb⟩

/-- What comes out by turns is among the outcomes. -/
theorem turns_in {T : List (List Ins)} {c : List Atm} {al : Nat → Bool} (hal : Als T (evsT T 0) al) (hz : ((chk T c).1 == 0) = true) {L : List (List Int)} (hL : ∀ l, l ∈ L ↔ ∃ R M, Run T R M ∧ DoneM T M ∧ l = tailM T.length M) : (L.all fun m => hasL ((outT al T).map (·.1)) m) = true := by
  have h0 : (chk T c).1 = 0 := by simpa using hz
  rw [List.all_eq_true]
  intro l hl
  obtain ⟨R, M, hr, hd, rfl⟩ := (hL l).1 hl
  obtain ⟨n, n1, n2, n3⟩ := turns_sound hz hr hd
  exact hasL_iff.2 ((out_states hal h0 _).2 ⟨n, n1, n2, n3⟩)

/-- What is allowed comes out by turns. -/
def Comp (T : List (List Ins)) : Prop := ∀ X, IsEx (evsT T 0) X → Alw T (evsT T 0) X → ∃ R M, Run T R M ∧ DoneM T M ∧ stX T (evsT T 0) X = tailM T.length M
theorem outs_in {T : List (List Ins)} {c : List Atm} {al : Nat → Bool} (hal : Als T (evsT T 0) al) (hz : ((chk T c).1 == 0) = true) (hcp : Comp T) {L : List (List Int)} (hL : ∀ l, l ∈ L ↔ ∃ R M, Run T R M ∧ DoneM T M ∧ l = tailM T.length M) : (((outT al T).map (·.1)).all fun m => hasL L m) = true := by
  have h0 : (chk T c).1 = 0 := by simpa using hz
  rw [List.all_eq_true]
  intro s hs
  obtain ⟨n, n1, n2, rfl⟩ := (out_states hal h0 s).1 hs
  obtain ⟨R, M, m1, m2, m3⟩ := hcp _ (exN_isEx _ n) n2
  exact hasL_iff.2 ((hL _).2 ⟨R, M, m1, m2, m3⟩)

end Go.Proofs.Ytomijmikkbhgmab

namespace Go.Proofs.Ytomijmikkbhgmab
open Go.RowKit

set_option maxRecDepth 20000 in
set_option maxHeartbeats 2000000 in
theorem exactly_any (T : List (List Ins)) (fa : Bool) (c : List Atm) (hcp : ((chk T c).1 == 0) = true → Comp T) (vt vc : Value) (w : World) (h : TestAt w (.agg #[vt, .bool fa, vc]) T fa c vt vc) :
    Calls Try.prog 9 #[.agg #[vt, .bool fa, vc]] w fun e w' => e = .returned (.bool true) ∧ Below w.heap.size w w' := by
  obtain ⟨al, hal⟩ := als_ex T (evsT T 0)
  have hout : ∀ w', Below w.heap.size w w' → Calls Try.prog 13 #[.agg #[vt, .bool fa, vc]] w' fun e w'' => ∃ u, e = .returned (.tuple #[u, .bool true]) ∧ KOut T c al w'' u ∧ Below w'.heap.size w' w'' := fun w' hb => outcomesK_any T fa c al hal vt vc w' (h.keep hb)
  have HTT : Hid (∀ w', Below w.heap.size w w' → TestAt w' (.agg #[vt, .bool fa, vc]) T fa c vt vc) := fun w' hb => h.keep hb
  have nq1 : ∀ (w : World) (a : Addr) (n c n' c' : Nat), (binOp .eql 31 (.slice (some a) n c) (.slice none n' c')).run Try.prog w = .ok (.bool false) w := fun w a n c n' c' => Lib.run_eql_slice_nil w _ _ (some a) n c n' c' Try.underlying31
  have nq2 : ∀ (w : World) (n c n' c' : Nat), (binOp .eql 31 (.slice none n c) (.slice none n' c')).run Try.prog w = .ok (.bool true) w := fun w n c n' c' => Lib.run_eql_slice_nil w _ _ none n c n' c' Try.underlying31
  obtain ⟨ht0, aot, bt, offt, capt, htv, _⟩ := h.ht.opened
  obtain ⟨hc0, aoc, bc, offc, capc, hsc⟩ := h.hc
  have hcv := hsc.hv
  subst htv hcv
  clear hsc
  cases hz : (chk T c).1 == 0
  · have hne : (chk T c).1 ≠ 0 := by simpa using hz
    have HO : Hid (∀ w', Below w.heap.size w w' → Calls Try.prog 13 #[.agg #[.slice aot T.length capt, .bool fa, .slice aoc c.length capc]] w' fun e w'' => e = .returned (.tuple #[.slice none 0 0, .bool true]) ∧ Below w'.heap.size w' w'') := fun w' hb => (hout w' hb).mono fun e w'' ⟨u, he, hk, hb'⟩ => by
      rcases hk with ⟨_, rfl⟩ | ⟨h1, _⟩
      · exact ⟨he, hb'⟩
      · exact absurd h1 hne
    clear h hout hz hne hal hcp
    go_enter Try.func9, Try.ntmps9
    go_wp2_with fail
    have hba := below_alloc w (.cells #[.slice aot T.length capt, .bool fa, .slice aoc c.length capc] 25)
    refine (HO.out _ hba).mono ?_
    rintro e w3 ⟨rfl, hb3⟩
    have hbw3 := below_more hba hb3
    go_wp2_with fail
    go_ret
    exact ⟨rfl, hbw3⟩
  · have h0 : (chk T c).1 = 0 := by simpa using hz
    have hf := outT_fit hal h0
    have HO : Hid (∀ w', Below w.heap.size w w' → Calls Try.prog 13 #[.agg #[.slice aot T.length capt, .bool fa, .slice aoc c.length capc]] w' fun e w'' => ∃ u, e = .returned (.tuple #[u, .bool true]) ∧ Hid (OutAt w'' u (outT al T)) ∧ Below w'.heap.size w' w'') := fun w' hb => (hout w' hb).mono fun e w'' ⟨u, he, hk, hb'⟩ => by
      rcases hk with ⟨h1, _⟩ | ⟨_, h1⟩
      · exact absurd h0 h1
      · exact ⟨u, he, h1, hb'⟩
    have HKN : Hid (outT al T ≠ [] ∧ (outT al T).length ≤ 2000 ∧ ∀ p ∈ outT al T, p.1.length = 3 * T.length + 3) := ⟨hf.ne, hf.few, hf.len⟩
    have hT4 := (chk_lens hz).2.1
    have HBY : Hid (∀ w', Below w.heap.size w w' → Calls Try.prog 25 #[.agg #[.slice aot T.length capt, .bool fa, .slice aoc c.length capc]] w' (ByOut T w')) := fun w' hb => byTurns_any T fa c hz _ _ w' (h.keep hb)
    have HIN : Hid (∀ L : List (List Int), (∀ l, l ∈ L ↔ ∃ R M, Run T R M ∧ DoneM T M ∧ l = tailM T.length M) → (L.all fun m => hasL ((outT al T).map (·.1)) m) = true ∧ (((outT al T).map (·.1)).all fun m => hasL L m) = true) := fun L hL => ⟨turns_in hal hz hL, outs_in hal hz (hcp hz) hL⟩
    clear h hout hz h0 hal hcp hf
    generalize outT al T = K at *
    go_enter Try.func9, Try.ntmps9
    go_wp2_with fail
    have hba := below_alloc w (.cells #[.slice aot T.length capt, .bool fa, .slice aoc c.length capc] 25)
    refine (HO.out _ hba).mono ?_
    rintro e w3 ⟨u3, rfl, hu3, hb3⟩
    have hbw3 := below_more hba hb3
    have HTC : Hid (∀ w', Below w3.heap.size w3 w' → w'.cell? ⟨w.heap.size, 0, none⟩ = some (.slice aot T.length capt) ∧ w'.cell? ⟨w.heap.size, 1, none⟩ = some (.bool fa) ∧ w'.cell? ⟨w.heap.size, 2, none⟩ = some (.slice aoc c.length capc)) := fun w' hb => by
      have t0 := keep_cell hb3 (b := w.heap.size) (off := 0) (u := .slice aot T.length capt) (by simp)
      have t1 := keep_cell hb3 (b := w.heap.size) (off := 1) (u := .bool fa) (by simp)
      have t2 := keep_cell hb3 (b := w.heap.size) (off := 2) (u := .slice aoc c.length capc) (by simp)
      exact ⟨keep_cell hb t0, keep_cell hb t1, keep_cell hb t2⟩
    obtain ⟨r, cap, hform⟩ := hu3.out.form2 HKN.out.1
    subst hform
    have HST : Hid (Calls Try.prog 24 #[.slice (some r) K.length cap] w3 fun e w' => ∃ u, e = .returned u ∧ LstAt w' u (K.map (·.1)) ∧ Below w3.heap.size w3 w') := statesK_any K HKN.out.2.1 _ w3 hu3.out
    clear hu3 hb3
    generalize hln : K.length = ln at *
    have HLN : Hid (K.length = ln) := hln
    clear hln
    go_wp2_with fail
    refine HST.out.mono ?_
    rintro e w4 ⟨u4, rfl, hu4, hb4⟩
    have hbw4 := below_more hbw3 hb4
    obtain ⟨a4, b4, off4, cap4, hs4⟩ := hu4
    have hf4 := hs4.hv
    have HU4 : Hid (∀ w', Below w4.heap.size w4 w' → LstAt w' u4 (K.map (·.1))) := fun w' hb => LstAt.keep ⟨a4, b4, off4, cap4, hs4⟩ hb
    rw [List.length_map, HLN.out] at hf4
    subst hf4
    obtain ⟨t0, t1, t2⟩ := HTC.out w4 hb4
    clear hs4 HST
    go_wp2_with fail
    refine (HBY.out w4 hbw4).mono ?_
    rintro e w5 ⟨u5, L, rfl, hu5, hl5, hn5, hL5, hb5⟩
    have hbw5 := below_more hbw4 hb5
    have HW : Hid ((L.all fun m => hasL (K.map (·.1)) m) = true ∧ ((K.map (·.1)).all fun m => hasL L m) = true) := HIN.out L hL5
    have HBD : Hid (∀ w', Below w5.heap.size w5 w' → Calls Try.prog 26 #[u5, .slice a4 ln cap4] w' (fun e w'' => e = .returned (.bool true) ∧ Below w'.heap.size w' w'') ∧ Calls Try.prog 26 #[.slice a4 ln cap4, u5] w' (fun e w'' => e = .returned (.bool true) ∧ Below w'.heap.size w' w'')) := fun w' hb => by
      have q1 := withinK_any L (K.map (·.1)) (by omega) (by rw [List.length_map, HLN.out]; have := HKN.out.2.1; omega) (fun m hm => by have := hl5 m hm; omega) (fun m hm => by obtain ⟨p, hp, rfl⟩ := List.mem_map.1 hm; have := HKN.out.2.2 p hp; omega) _ _ w' (hu5.keep hb) (HU4.out w' (below_more hb5 hb))
      have q2 := withinK_any (K.map (·.1)) L (by rw [List.length_map, HLN.out]; have := HKN.out.2.1; omega) (by omega) (fun m hm => by obtain ⟨p, hp, rfl⟩ := List.mem_map.1 hm; have := HKN.out.2.2 p hp; omega) (fun m hm => by have := hl5 m hm; omega) _ _ w' (HU4.out w' (below_more hb5 hb)) (hu5.keep hb)
      rw [HW.out.1] at q1
      rw [HW.out.2] at q2
      exact ⟨q1, q2⟩
    obtain ⟨a5, b5, off5, cap5, hs5⟩ := hu5
    have hf5 := hs5.hv
    subst hf5
    clear hs5 hL5 hl5 HW t0 t1 t2 HBY
    generalize L.length = n5 at *
    go_wp2_with fail
    refine (HBD.out w5 (Below.refl _ _)).1.mono ?_
    rintro e w6 ⟨rfl, hb6⟩
    have hbw6 := below_more hbw5 hb6
    go_wp2_with fail
    refine (HBD.out w6 hb6).2.mono ?_
    rintro e w7 ⟨rfl, hb7⟩
    have hbw7 := below_more hbw6 hb7
    go_wp2_with fail
    go_ret
    exact ⟨rfl, hbw7⟩

end Go.Proofs.Ytomijmikkbhgmab
