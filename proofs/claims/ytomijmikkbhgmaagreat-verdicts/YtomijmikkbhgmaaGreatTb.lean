import Derived.Test.YtomijmikkbhgmaaGreatT18
import Derived.Test.YtomijmikkbhgmaaGreatT20
import Derived.Test.YtomijmikkbhgmaaGreatT37
namespace Go.Proofs.YtomijmikkbhgmaaGreat
open Go.RowKit

theorem srcL_mem {E : List Evt} {F : List Int} {f : Int} (h : f ∈ srcL E F) : f = -1 ∨ f ∈ F := by
  induction E generalizing F with
  | nil => cases h
  | cons y E ih =>
    cases hk : y.kind == 0
    · rw [srcL_not hk] at h
      rcases List.mem_cons.1 h with h | h
      · exact .inl h
      · exact ih h
    · cases F with
      | nil =>
        rw [srcL_out hk] at h
        rcases List.mem_cons.1 h with h | h
        · exact .inl h
        · exact ih h
      | cons a F =>
        rw [srcL_read hk] at h
        rcases List.mem_cons.1 h with h | h
        · exact .inr (by rw [h]; exact List.mem_cons_self ..)
        · rcases ih h with h | h
          · exact .inl h
          · exact .inr (List.mem_cons_of_mem _ h)

/-- Numbers by threads and registers: those of the first i threads, and of the next one the first r. -/
def regF (f : Nat → Nat → Int) (i r : Nat) : List Int := ((List.range i).flatMap fun i => (List.range 3).map (f i)) ++ (List.range r).map (f i)
theorem regF_step (f : Nat → Nat → Int) (i r : Nat) : regF f i (r + 1) = regF f i r ++ [f i r] := by unfold regF; rw [List.range_succ (n := r), List.map_append]; simp
theorem regF_next (f : Nat → Nat → Int) (i : Nat) : regF f (i + 1) 0 = regF f i 3 := by unfold regF; rw [List.range_succ (n := i), List.flatMap_append]; simp
theorem regF_len (f : Nat → Nat → Int) (i r : Nat) : (regF f i r).length = 3 * i + r := by
  unfold regF
  rw [List.length_append, List.length_map, List.length_range, flat_len _ 3 (fun _ => by simp), List.length_range]; omega

def regD (D : Nat) (E : List Evt) (S : Nat → Int) (i r : Nat) : Int := valN E S D (srcG (evtOf (i : Int) (r : Int)) E 0 (-1))
def locD (D : Nat) (E : List Evt) (S : Nat → Int) (x : Exe) (j : Nat) : Int := match (x.order.getD j []).getLast? with
  | none => 0
  | some w => valN E S D w
theorem staD_parts (D k : Nat) (E : List Evt) (S : Nat → Int) (x : Exe) : staD D k E S x = regF (regD D E S) k 0 ++ (List.range 3).map (locD D E S x) := by
  unfold regF
  rw [List.range_zero, List.map_nil, List.append_nil]
  rfl

set_option maxRecDepth 20000 in
set_option maxHeartbeats 4000000 in
theorem stateOf_any (T : List (List Ins)) (hS : Short T) (vt : Value) (E : List Evt) (hE : E.length ≤ 96) (hin : EvsIn T E) (x : Exe) (hx : IsEx E x) (v vf vo : Value) (w : World) (ht : ThrAt w vt T) (hev : Ev4At w v E) (hxa : ExeAt w vf vo x) :
    Calls Tryz.prog 40 #[vt, v, .agg #[vf, vo]] w fun e w' => ∃ u, e = .returned u ∧ IntNew w.heap.size w' u (staD E.length T.length E (srcS E x) x) ∧ Below w.heap.size w w' := by
  have hF96 : x.from'.length ≤ 96 := by have := hx.f; have := rdsX_len E 0; omega
  have hSl := srcL_len E x.from'
  have hSE : ∀ f ∈ srcL E x.from', EvI E.length f := fun f hf => by
    rcases srcL_mem hf with h | h
    · exact .inl h
    · exact hx.evI.1 f h
  have HSR : Hid (∀ w', Below w.heap.size w w' → Calls Tryz.prog 73 #[v, vf] w' fun e w'' => ∃ us, e = .returned us ∧ IntAt w'' us (srcL E x.from') ∧ Below w'.heap.size w' w'') := fun w' hb => by
    refine (sourcesJ_any E hE x.from' hF96 v vf w' (hev.keep hb) (hxa.f.keep hb)).mono ?_
    rintro e w'' ⟨he, hrow⟩
    have hl := hrow.list
    rw [range_getD _ _ hSl] at hl
    exact ⟨_, he, hl, hrow.hb⟩
  have HV : Hid (∀ (i : Int) (us : Value) (w' : World), EvI E.length i → Below w.heap.size w w' → IntAt w' us (srcL E x.from') → Calls Tryz.prog 75 #[vt, v, us, .int .i64 i] w' fun e w'' => e = .returned (.int .i64 (valN E (srcS E x) E.length i)) ∧ Below w'.heap.size w' w'') := fun i us w' hi hb hu => valueOf_any T hS vt E hE hin _ hSl hSE i hi v us w' (ht.keep hb) (hev.keep hb) hu
  have HH : Hid (∀ (i r : Nat) (w' : World), Below w.heap.size w w' → Calls Tryz.prog 74 #[vt, v, .int .i64 i, .int .i64 r, .int .i64 E.length] w' fun e w'' => e = .returned (.int .i64 (srcG (evtOf i r) E 0 (-1))) ∧ Below w'.heap.size w' w'') := fun i r w' hb => by
    have := lastRead_any T hS vt E hE hin E.length (Nat.le_refl _) (evtOf i r) v w' (ht.keep hb) (hev.keep hb)
    rw [List.take_length] at this
    exact this
  have HLO : Hid (∀ (l : List Int) (vl : Value) (w' : World), l.length ≤ 96 → IntAt w' vl l → Calls Tryz.prog 76 #[vl] w' fun e w'' => e = .returned (.int .i64 (lastI l)) ∧ Below w'.heap.size w' w'') := fun l vl w' hl hv => lastOf_any l (by omega) vl w' hv
  have HSRC : Hid (∀ i r : Nat, EvI E.length (srcG (evtOf i r) E 0 (-1))) := fun i r => srcE _
  have HRV : Hid (∀ i r : Nat, regD E.length E (srcS E x) i r = valN E (srcS E x) E.length (srcG (evtOf i r) E 0 (-1))) := fun _ _ => rfl
  have HST : Hid (staD E.length T.length E (srcS E x) x = regF (regD E.length E (srcS E x)) T.length 0 ++ (List.range 3).map (locD E.length E (srcS E x) x)) := staD_parts _ _ _ _ _
  have HLV : Hid (∀ (j : Nat) (l : List Int), x.order[j]? = some l → locD E.length E (srcS E x) x j = valN E (srcS E x) E.length (lastI l) ∧ EvI E.length (lastI l)) := fun j l hl => by
    unfold locD lastI
    rw [List.getD, hl]
    simp only [Option.getD_some]
    cases hg : l.getLast? with
    | none => exact ⟨(valN_neg E (srcS E x) E.length (i := -1) (by omega)).symm, .inl rfl⟩
    | some a => exact ⟨rfl, hx.evI.2 l (List.mem_of_getElem? hl) a (List.mem_of_getLast? hg)⟩
  have HL3 : Hid (x.order.length = 3 ∧ ∀ l ∈ x.order, l.length ≤ 96) := ⟨hx.o3, fun l hl => by
    obtain ⟨j, hj⟩ := List.mem_iff_getElem?.1 hl
    exact hx.len hE hj⟩
  have hT4 := hS.t4
  generalize srcL E x.from' = SL at *
  generalize srcS E x = S at *
  generalize staD E.length T.length E S x = STA at *
  generalize regD E.length E S = RD at *
  generalize locD E.length E S x = LD at *
  obtain ⟨aof, capf, hvf⟩ := hxa.f.form
  obtain ⟨aoo, bo, offo, capo, hvo, hao, _, hco⟩ := hxa.o
  have HO : Hid (∀ k l, x.order[k]? = some l → LC w bo (offo + k * 1) l) := hco
  obtain ⟨ao, b, off, cap, hv, ha, _, hc⟩ := hev
  obtain ⟨ht0, aot, bt, offt, capt, htv, _⟩ := ht.opened
  subst hv hvf hvo htv
  obtain rfl := hao (by intro h; have := HL3.out.1; rw [h] at this; simp at this)
  obtain ⟨i0, hi, hz0, hz1, hz2⟩ := info_parts Tryz.info3
  have HI : Hid (Tryz.prog.info? 3 = some i0 ∧ i0.zero = some (.int .i64 0) ∧ i0.size = 1 ∧ i0.bytes = 8) := ⟨hi, hz0, hz1, hz2⟩
  clear hi hz0 hz1 hz2 hx hc ha hco hao hin hSE hSl hF96 hxa ht
  go_enter Tryz.func40, Tryz.ntmps40
  go_wp2_with fail
  have hba := below_alloc w (.cells #[.slice aof x.from'.length capf, .slice (some ⟨bo, offo, none⟩) x.order.length capo] 29)
  refine (HSR.out _ hba).mono ?_
  rintro e W ⟨us, rfl, hus, hbW⟩
  have HUS : Hid (IntAt W us SL) := hus
  have x1 := keep_cell hbW (b := w.heap.size) (off := 1) (u := .slice (some ⟨bo, offo, none⟩) x.order.length capo) (by simp)
  have HX1 : Hid (W.cell? ⟨w.heap.size, 1, none⟩ = some (.slice (some ⟨bo, offo, none⟩) x.order.length capo)) := x1
  have hbaW := below_more hba hbW
  clear hus hbW x1 HSR
  go_wp2_with fail
  go_loopw [8, 23] (fun u i wr => ∃ k : Nat, k ≤ T.length ∧ i = .int .i64 k ∧ Hid (wr.ownsRow W.heap.size 3 1 u (regF RD k 0).length ((regF RD k 0).map (Value.int .i64))) ∧ Below W.heap.size W wr) (fun _ i _ => T.length - (intOf i).toNat)
  case atStart => exact ⟨0, Nat.zero_le _, rfl, World.ownsRow_nil _ _ _ _, Below.refl _ _⟩
  case round =>
    obtain ⟨k, hk, rfl, HOW, hb⟩ := hrel
    by_cases hlt : k < T.length
    · have hkI : (k : Int) < (T.length : Int) := by omega
      go_wp2_with fail
      go_loopw [8, 10] (fun u i wr => ∃ r : Nat, r ≤ 3 ∧ i = .int .i64 r ∧ Hid (wr.ownsRow W.heap.size 3 1 u (regF RD k r).length ((regF RD k r).map (Value.int .i64))) ∧ Below W.heap.size W wr) (fun _ i _ => 3 - (intOf i).toNat)
      case atStart => exact ⟨0, by omega, rfl, HOW.out, hb⟩
      case round =>
        clear HOW hb
        obtain ⟨r, hr3, rfl, hown, hb⟩ := hrel
        have hbw := below_more hbaW hb
        by_cases hr : r < 3
        · have hrI : (r : Int) < 3 := by omega
          have HSE : Hid (EvI E.length (srcG (evtOf k r) E 0 (-1))) := HSRC.out k r
          have HH1 := HH.out k r wr hbw
          have HR1 : Hid (regF RD k (r + 1) = regF RD k r ++ [valN E S E.length (srcG (evtOf k r) E 0 (-1))]) := by show _ = _; rw [regF_step, HRV.out]
          have hlen : (regF RD k r).length ≤ 100 := by rw [regF_len]; omega
          generalize srcG (evtOf k r) E 0 (-1) = sr at HSE HH1 HR1
          have HV1 : Hid (∀ w', Below wr.heap.size wr w' → Calls Tryz.prog 75 #[.slice aot T.length capt, .slice ao E.length cap, us, .int .i64 sr] w' fun e w'' => e = .returned (.int .i64 (valN E S E.length sr)) ∧ Below w'.heap.size w' w'') := fun w' hb' => HV.out sr us w' HSE.out (below_more hbw hb') (HUS.out.keep (below_more hb hb'))
          generalize valN E S E.length sr = val at HR1 HV1
          generalize regF RD k r = xs at hown HR1 hlen
          go_wp2_with fail
          refine HH1.mono ?_
          rintro e w6 ⟨rfl, hb6⟩
          clear HH1
          go_wp2_with fail
          refine (HV1.out w6 hb6).mono ?_
          rintro e w7 ⟨rfl, hb67⟩
          have hb7 := below_more hb6 hb67
          have HO7 : Hid (w7.ownsRow W.heap.size 3 1 u8 xs.length (xs.map (Value.int .i64))) := own_keep hown.out hb7
          have hb8 := below_more hb hb7
          have hs8 := hb8.size
          clear hb hb7 hb6 hb67
          go_wp2_with (at_builtin; refine append_new _ rfl _ _ 26 rfl W.heap.size 3 i0 (.int .i64 0) 1 8 Tryz.underlying26 HI.out.1 HI.out.2.1 HI.out.2.2.1 HI.out.2.2.2 rfl (by decide) _ xs.length (xs.map (Value.int .i64)) rfl (HO7.out.alloc _) (some ⟨w7.heap.size, 0, none⟩) 1 1 [.int .i64 val] rfl (fun h => by cases h) rfl (fun ad had => by cases had; exact new_one rfl) (by simp [Value.oneCell']) (by unfold maxLen; omega) (by omega) (by simp; omega) ?_)
          intro u' w9 hown' hgrow _
          have hb9 : Below W.heap.size W w9 := Below.grown (hb8.alloc hs8 _) hgrow (by simp; omega) (fun kk e => (HO7.out.lt kk e).1)
          have HO9 : Hid (w9.ownsRow W.heap.size 3 1 u' (regF RD k (r + 1)).length ((regF RD k (r + 1)).map (Value.int .i64))) := by rw [HR1.out]; exact own_snoc hown'
          clear hgrow hown'
          go_wp2_with fail
          go_roundw
          case measure => simp [intOf]; omega
          case rel => exact ⟨r + 1, by omega, by go_num, HO9.out, hb9⟩
        · have hr2 : r = 3 := by omega
          subst hr2
          have HO1 : Hid (wr.ownsRow W.heap.size 3 1 u8 (regF RD (k + 1) 0).length ((regF RD (k + 1) 0).map (Value.int .i64))) := by rw [regF_next]; exact hown.out
          clear hown
          go_wp2_with fail
          go_roundw
          case measure => simp [intOf]; omega
          case rel => exact ⟨k + 1, by omega, by go_num, HO1.out, hb⟩
    · have hkk : k = T.length := by omega
      have hkI : (T.length : Int) ≤ (k : Int) := by omega
      have HRG : Hid (STA = regF RD k 0 ++ (List.range 3).map LD) := by rw [hkk]; exact HST.out
      have hrgl : (regF RD k 0).length ≤ 100 := by rw [regF_len]; omega
      generalize regF RD k 0 = RG at HOW HRG hrgl
      clear hkk
      have HO0 : Hid (wr.ownsRow W.heap.size 3 1 u8 (RG ++ (List.range 0).map LD).length ((RG ++ (List.range 0).map LD).map (Value.int .i64))) := by
        show wr.ownsRow W.heap.size 3 1 u8 (RG ++ []).length ((RG ++ []).map (Value.int .i64))
        rw [List.append_nil]; exact HOW.out
      have x1 := keep_cell hb HX1.out
      clear HOW
      go_wp2_with fail
      clear x1
      go_loopw [8, 50] (fun u i wr => ∃ j : Nat, j ≤ 3 ∧ i = .int .i64 j ∧ Hid (wr.ownsRow W.heap.size 3 1 u (RG ++ (List.range j).map LD).length ((RG ++ (List.range j).map LD).map (Value.int .i64))) ∧ Below W.heap.size W wr) (fun _ i _ => 3 - (intOf i).toNat)
      case atStart => exact ⟨0, by omega, rfl, HO0.out, hb⟩
      case round =>
        clear HO0 hb
        obtain ⟨j, hj, rfl, hown, hb⟩ := hrel
        have hbw := below_more hbaW hb
        by_cases hj3 : j < 3
        · obtain ⟨l, hl⟩ := get_of_lt (l := x.order) (k := j) (by have := HL3.out.1; omega)
          have hl96 := HL3.out.2 l (List.mem_of_getElem? hl)
          obtain ⟨ul, c0, ivl⟩ := lc_keeps _ _ _ _ _ hbw (HO.out j l hl)
          rw [Nat.mul_one] at c0
          obtain ⟨aol, capl, hvl⟩ := ivl.form
          subst hvl
          have hjI : (j : Int) < (x.order.length : Int) := by have := HL3.out.1; omega
          obtain ⟨hlv, hle⟩ := HLV.out j l hl
          have HLS : Hid (RG ++ (List.range (j + 1)).map LD = (RG ++ (List.range j).map LD) ++ [valN E S E.length (lastI l)]) := by show _ = _; rw [List.range_succ (n := j), List.map_append, ← hlv]; simp
          have hxsl : (RG ++ (List.range j).map LD).length ≤ 200 := by rw [List.length_append, List.length_map, List.length_range]; omega
          have HL1 := HLO.out l (.slice aol l.length capl) wr hl96 ivl
          have HLE : Hid (EvI E.length (lastI l)) := hle
          generalize RG ++ (List.range j).map LD = xs at hown HLS hxsl
          generalize lastI l = la at HLS HL1 HLE
          have HV1 : Hid (∀ w', Below wr.heap.size wr w' → Calls Tryz.prog 75 #[.slice aot T.length capt, .slice ao E.length cap, us, .int .i64 la] w' fun e w'' => e = .returned (.int .i64 (valN E S E.length la)) ∧ Below w'.heap.size w' w'') := fun w' hb' => HV.out la us w' HLE.out (below_more hbw hb') (HUS.out.keep (below_more hb hb'))
          generalize valN E S E.length la = val at HLS HV1
          clear ivl hl hlv hle
          go_wp2_with fail
          refine HL1.mono ?_
          rintro e w6 ⟨rfl, hb6⟩
          clear HL1
          go_wp2_with fail
          refine (HV1.out w6 hb6).mono ?_
          rintro e w7 ⟨rfl, hb67⟩
          have hb7 := below_more hb6 hb67
          have HO7 : Hid (w7.ownsRow W.heap.size 3 1 u8 xs.length (xs.map (Value.int .i64))) := own_keep hown.out hb7
          have hb8 := below_more hb hb7
          have hs8 := hb8.size
          clear hb hb7 hb6 hb67 c0
          go_wp2_with (at_builtin; refine append_new _ rfl _ _ 26 rfl W.heap.size 3 i0 (.int .i64 0) 1 8 Tryz.underlying26 HI.out.1 HI.out.2.1 HI.out.2.2.1 HI.out.2.2.2 rfl (by decide) _ xs.length (xs.map (Value.int .i64)) rfl (HO7.out.alloc _) (some ⟨w7.heap.size, 0, none⟩) 1 1 [.int .i64 val] rfl (fun h => by cases h) rfl (fun ad had => by cases had; exact new_one rfl) (by simp [Value.oneCell']) (by unfold maxLen; omega) (by omega) (by simp; omega) ?_)
          intro u' w9 hown' hgrow _
          have hb9 : Below W.heap.size W w9 := Below.grown (hb8.alloc hs8 _) hgrow (by simp; omega) (fun kk e => (HO7.out.lt kk e).1)
          have HO9 : Hid (w9.ownsRow W.heap.size 3 1 u' (RG ++ (List.range (j + 1)).map LD).length ((RG ++ (List.range (j + 1)).map LD).map (Value.int .i64))) := by rw [HLS.out]; exact own_snoc hown'
          clear hgrow hown'
          go_wp2_with fail
          go_roundw
          case measure => simp [intOf]; omega
          case rel => exact ⟨j + 1, by omega, by go_num, HO9.out, hb9⟩
        · have hj2 : j = 3 := by omega
          subst hj2
          have hjI : (x.order.length : Int) ≤ 3 := by have := HL3.out.1; omega
          have hjI2 : ¬ ((3 : Int) < (x.order.length : Int)) := by omega
          go_wp2_with fail
          go_ret
          have hsz := hbaW.size
          exact ⟨_, rfl, by rw [HRG.out]; exact owns_int (own_base hown.out hsz), hbw⟩

end Go.Proofs.YtomijmikkbhgmaaGreat
