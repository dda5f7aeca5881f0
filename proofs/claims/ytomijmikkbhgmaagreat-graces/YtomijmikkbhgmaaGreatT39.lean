import Derived.Test.YtomijmikkbhgmaaGreatT36
import Derived.Test.YtomijmikkbhgmaaGreatT12
import Derived.Test.YtomijmikkbhgmaaGreatT37
import Derived.Test.YtomijmikkbhgmaaGreatT38
import Derived.Test.YtomijmikkbhgmaaGreatT33
import Derived.Test.YtomijmikkbhgmaaGreatT35
import Derived.Test.YtomijmikkbhgmaaGreatT8
namespace Go.Proofs.YtomijmikkbhgmaaGreat
open Go.RowKit

theorem srcL_mem {E : List Evt} {F : List Int} {f : Int} (h : f ∈ srcL E F) : f = -1 ∨ f ∈ F := by
  induction E generalizing F with
  | nil => cases h
  | cons y E ih =>
    cases hk : y.kind == 0
    · rw [srcL_not hk] at h
      rcases List.mem_cons.1 h with h | h
      · exact .inl h
      · exact ih h
    · cases F with
      | nil =>
        rw [srcL_out hk] at h
        rcases List.mem_cons.1 h with h | h
        · exact .inl h
        · exact ih h
      | cons a F =>
        rw [srcL_read hk] at h
        rcases List.mem_cons.1 h with h | h
        · exact .inr (by rw [h]; exact List.mem_cons_self ..)
        · rcases ih h with h | h
          · exact .inl h
          · exact .inr (List.mem_cons_of_mem _ h)

/-- Numbers by threads and registers: those of the first i threads, and of the next one the first r. -/
def regF (f : Nat → Nat → Int) (i r : Nat) : List Int := ((List.range i).flatMap fun i => (List.range 3).map (f i)) ++ (List.range r).map (f i)
theorem regF_step (f : Nat → Nat → Int) (i r : Nat) : regF f i (r + 1) = regF f i r ++ [f i r] := by unfold regF; rw [List.range_succ (n := r), List.map_append]; simp
theorem regF_next (f : Nat → Nat → Int) (i : Nat) : regF f (i + 1) 0 = regF f i 3 := by unfold regF; rw [List.range_succ (n := i), List.flatMap_append]; simp
theorem regF_len (f : Nat → Nat → Int) (i r : Nat) : (regF f i r).length = 3 * i + r := by
  unfold regF
  rw [List.length_append, List.length_map, List.length_range, flat_len _ 3 (fun _ => by simp), List.length_range]; omega

def regD (D : Nat) (E : List Evt) (S : Nat → Int) (i r : Nat) : Int := valN E S D (srcG (evtOf (i : Int) (r : Int)) E 0 (-1))
def locD (D : Nat) (E : List Evt) (S : Nat → Int) (x : Exe) (j : Nat) : Int := match (x.order.getD j []).getLast? with
  | none => 0
  | some w => valN E S D w
theorem staD_parts (D k : Nat) (E : List Evt) (S : Nat → Int) (x : Exe) : staD D k E S x = regF (regD D E S) k 0 ++ (List.range 3).map (locD D E S x) := by
  unfold regF
  rw [List.range_zero, List.map_nil, List.append_nil]
  rfl

set_option maxRecDepth 20000 in
set_option maxHeartbeats 4000000 in
theorem stateOf_any (T : List (List Ins)) (hS : Short T) (vt : Value) (E : List Evt) (hE : E.length ≤ 96) (hin : EvsIn T E) (x : Exe) (hx : IsEx E x) (v vf vo : Value) (w : World) (ht : ThrAt w vt T) (hev : Ev4At w v E) (hxa : ExeAt w vf vo x) :
    Calls Tryz.prog 40 #[vt, v, .agg #[vf, vo]] w fun e w' => ∃ u, e = .returned u ∧ IntNew w.heap.size w' u (staD E.length T.length E (srcS E x) x) ∧ Below w.heap.size w w' := by
  have hF96 : x.from'.length ≤ 96 := by have := hx.f; have := rdsX_len E 0; omega
  have hSl := srcL_len E x.from'
  have hSE : ∀ f ∈ srcL E x.from', EvI E.length f := fun f hf => by
    rcases srcL_mem hf with h | h
    · exact .inl h
    · exact hx.evI.1 f h
  have HSR : Hid (∀ w', Below w.heap.size w w' → Calls Tryz.prog 73 #[v, vf] w' fun e w'' => ∃ us, e = .returned us ∧ IntAt w'' us (srcL E x.from') ∧ Below w'.heap.size w' w'') := fun w' hb => by
    refine (sourcesJ_any E hE x.from' hF96 v vf w' (hev.keep hb) (hxa.f.keep hb)).mono ?_
    rintro e w'' ⟨he, hrow⟩
    have hl := hrow.list
    rw [range_getD _ _ hSl] at hl
    exact ⟨_, he, hl, hrow.hb⟩
  have HV : Hid (∀ (i : Int) (us : Value) (w' : World), EvI E.length i → Below w.heap.size w w' → IntAt w' us (srcL E x.from') → Calls Tryz.prog 75 #[vt, v, us, .int .i64 i] w' fun e w'' => e = .returned (.int .i64 (valN E (srcS E x) E.length i)) ∧ Below w'.heap.size w' w'') := fun i us w' hi hb hu => valueOf_any T hS vt E hE hin _ hSl hSE i hi v us w' (ht.keep hb) (hev.keep hb) hu
  have HH : Hid (∀ (i r : Nat) (w' : World), Below w.heap.size w w' → Calls Tryz.prog 74 #[vt, v, .int .i64 i, .int .i64 r, .int .i64 E.length] w' fun e w'' => e = .returned (.int .i64 (srcG (evtOf i r) E 0 (-1))) ∧ Below w'.heap.size w' w'') := fun i r w' hb => by
    have := lastRead_any T hS vt E hE hin E.length (Nat.le_refl _) (evtOf i r) v w' (ht.keep hb) (hev.keep hb)
    rw [List.take_length] at this
    exact this
  have HLO : Hid (∀ (l : List Int) (vl : Value) (w' : World), l.length ≤ 96 → IntAt w' vl l → Calls Tryz.prog 76 #[vl] w' fun e w'' => e = .returned (.int .i64 (lastI l)) ∧ Below w'.heap.size w' w'') := fun l vl w' hl hv => lastOf_any l (by omega) vl w' hv
  have HSRC : Hid (∀ i r : Nat, EvI E.length (srcG (evtOf i r) E 0 (-1))) := fun i r => srcE _
  have HRV : Hid (∀ i r : Nat, regD E.length E (srcS E x) i r = valN E (srcS E x) E.length (srcG (evtOf i r) E 0 (-1))) := fun _ _ => rfl
  have HST : Hid (staD E.length T.length E (srcS E x) x = regF (regD E.length E (srcS E x)) T.length 0 ++ (List.range 3).map (locD E.length E (srcS E x) x)) := staD_parts _ _ _ _ _
  have HLV : Hid (∀ (j : Nat) (l : List Int), x.order[j]? = some l → locD E.length E (srcS E x) x j = valN E (srcS E x) E.length (lastI l) ∧ EvI E.length (lastI l)) := fun j l hl => by
    unfold locD lastI
    rw [List.getD, hl]
    simp only [Option.getD_some]
    cases hg : l.getLast? with
    | none => exact ⟨(valN_neg E (srcS E x) E.length (i := -1) (by omega)).symm, .inl rfl⟩
    | some a => exact ⟨rfl, hx.evI.2 l (List.mem_of_getElem? hl) a (List.mem_of_getLast? hg)⟩
  have HL3 : Hid (x.order.length = 3 ∧ ∀ l ∈ x.order, l.length ≤ 96) := ⟨hx.o3, fun l hl => by
    obtain ⟨j, hj⟩ := List.mem_iff_getElem?.1 hl
    exact hx.len hE hj⟩
  have hT4 := hS.t4
  generalize srcL E x.from' = SL at *
  generalize srcS E x = S at *
  generalize staD E.length T.length E S x = STA at *
  generalize regD E.length E S = RD at *
  generalize locD E.length E S x = LD at *
  obtain ⟨aof, capf, hvf⟩ := hxa.f.form
  obtain ⟨aoo, bo, offo, capo, hvo, hao, _, hco⟩ := hxa.o
  have HO : Hid (∀ k l, x.order[k]? = some l → LC w bo (offo + k * 1) l) := hco
  obtain ⟨ao, b, off, cap, hv, ha, _, hc⟩ := hev
  obtain ⟨ht0, aot, bt, offt, capt, htv, _⟩ := ht.opened
  subst hv hvf hvo htv
  obtain rfl := hao (by intro h; have := HL3.out.1; rw [h] at this; simp at this)
  obtain ⟨i0, hi, hz0, hz1, hz2⟩ := info_parts Tryz.info3
  have HI : Hid (Tryz.prog.info? 3 = some i0 ∧ i0.zero = some (.int .i64 0) ∧ i0.size = 1 ∧ i0.bytes = 8) := ⟨hi, hz0, hz1, hz2⟩
  clear hi hz0 hz1 hz2 hx hc ha hco hao hin hSE hSl hF96 hxa ht
  go_enter Tryz.func40, Tryz.ntmps40
  go_wp2_with fail
  have hba := below_alloc w (.cells #[.slice aof x.from'.length capf, .slice (some ⟨bo, offo, none⟩) x.order.length capo] 29)
  refine (HSR.out _ hba).mono ?_
  rintro e W ⟨us, rfl, hus, hbW⟩
  have HUS : Hid (IntAt W us SL) := hus
  have x1 := keep_cell hbW (b := w.heap.size) (off := 1) (u := .slice (some ⟨bo, offo, none⟩) x.order.length capo) (by simp)
  have HX1 : Hid (W.cell? ⟨w.heap.size, 1, none⟩ = some (.slice (some ⟨bo, offo, none⟩) x.order.length capo)) := x1
  have hbaW := below_more hba hbW
  clear hus hbW x1 HSR
  go_wp2_with fail
  go_loopw [8, 23] (fun u i wr => ∃ k : Nat, k ≤ T.length ∧ i = .int .i64 k ∧ Hid (wr.ownsRow W.heap.size 3 1 u (regF RD k 0).length ((regF RD k 0).map (Value.int .i64))) ∧ Below W.heap.size W wr) (fun _ i _ => T.length - (intOf i).toNat)
  case atStart => exact ⟨0, Nat.zero_le _, rfl, World.ownsRow_nil _ _ _ _, Below.refl _ _⟩
  case round =>
    obtain ⟨k, hk, rfl, HOW, hb⟩ := hrel
    by_cases hlt : k < T.length
    · have hkI : (k : Int) < (T.length : Int) := by omega
      go_wp2_with fail
      go_loopw [8, 10] (fun u i wr => ∃ r : Nat, r ≤ 3 ∧ i = .int .i64 r ∧ Hid (wr.ownsRow W.heap.size 3 1 u (regF RD k r).length ((regF RD k r).map (Value.int .i64))) ∧ Below W.heap.size W wr) (fun _ i _ => 3 - (intOf i).toNat)
      case atStart => exact ⟨0, by omega, rfl, HOW.out, hb⟩
      case round =>
        clear HOW hb
        obtain ⟨r, hr3, rfl, hown, hb⟩ := hrel
        have hbw := below_more hbaW hb
        by_cases hr : r < 3
        · have hrI : (r : Int) < 3 := by omega
          have HSE : Hid (EvI E.length (srcG (evtOf k r) E 0 (-1))) := HSRC.out k r
          have HH1 := HH.out k r wr hbw
          have HR1 : Hid (regF RD k (r + 1) = regF RD k r ++ [valN E S E.length (srcG (evtOf k r) E 0 (-1))]) := by show _ = _; rw [regF_step, HRV.out]
          have hlen : (regF RD k r).length ≤ 100 := by rw [regF_len]; omega
          generalize srcG (evtOf k r) E 0 (-1) = sr at HSE HH1 HR1
          have HV1 : Hid (∀ w', Below wr.heap.size wr w' → Calls Tryz.prog 75 #[.slice aot T.length capt, .slice ao E.length cap, us, .int .i64 sr] w' fun e w'' => e = .returned (.int .i64 (valN E S E.length sr)) ∧ Below w'.heap.size w' w'') := fun w' hb' => HV.out sr us w' HSE.out (below_more hbw hb') (HUS.out.keep (below_more hb hb'))
          generalize valN E S E.length sr = val at HR1 HV1
          generalize regF RD k r = xs at hown HR1 hlen
          go_wp2_with fail
          refine HH1.mono ?_
          rintro e w6 ⟨rfl, hb6⟩
          clear HH1
          go_wp2_with fail
          refine (HV1.out w6 hb6).mono ?_
          rintro e w7 ⟨rfl, hb67⟩
          have hb7 := below_more hb6 hb67
          have HO7 : Hid (w7.ownsRow W.heap.size 3 1 u8 xs.length (xs.map (Value.int .i64))) := own_keep hown.out hb7
          have hb8 := below_more hb hb7
          have hs8 := hb8.size
          clear hb hb7 hb6 hb67
          go_wp2_with (at_builtin; refine append_new _ rfl _ _ 26 rfl W.heap.size 3 i0 (.int .i64 0) 1 8 Tryz.underlying26 HI.out.1 HI.out.2.1 HI.out.2.2.1 HI.out.2.2.2 rfl (by decide) _ xs.length (xs.map (Value.int .i64)) rfl (HO7.out.alloc _) (some ⟨w7.heap.size, 0, none⟩) 1 1 [.int .i64 val] rfl (fun h => by cases h) rfl (fun ad had => by cases had; exact new_one rfl) (by simp [Value.oneCell']) (by unfold maxLen; omega) (by omega) (by simp; omega) ?_)
          intro u' w9 hown' hgrow _
          have hb9 : Below W.heap.size W w9 := Below.grown (hb8.alloc hs8 _) hgrow (by simp; omega) (fun kk e => (HO7.out.lt kk e).1)
          have HO9 : Hid (w9.ownsRow W.heap.size 3 1 u' (regF RD k (r + 1)).length ((regF RD k (r + 1)).map (Value.int .i64))) := by rw [HR1.out]; exact own_snoc hown'
          clear hgrow hown'
          go_wp2_with fail
          go_roundw
          case measure => simp [intOf]; omega
          case rel => exact ⟨r + 1, by omega, by go_num, HO9.out, hb9⟩
        · have hr2 : r = 3 := by omega
          subst hr2
          have HO1 : Hid (wr.ownsRow W.heap.size 3 1 u8 (regF RD (k + 1) 0).length ((regF RD (k + 1) 0).map (Value.int .i64))) := by rw [regF_next]; exact hown.out
          clear hown
          go_wp2_with fail
          go_roundw
          case measure => simp [intOf]; omega
          case rel => exact ⟨k + 1, by omega, by go_num, HO1.out, hb⟩
    · have hkk : k = T.length := by omega
      have hkI : (T.length : Int) ≤ (k : Int) := by omega
      have HRG : Hid (STA = regF RD k 0 ++ (List.range 3).map LD) := by rw [hkk]; exact HST.out
      have hrgl : (regF RD k 0).length ≤ 100 := by rw [regF_len]; omega
      generalize regF RD k 0 = RG at HOW HRG hrgl
      clear hkk
      have HO0 : Hid (wr.ownsRow W.heap.size 3 1 u8 (RG ++ (List.range 0).map LD).length ((RG ++ (List.range 0).map LD).map (Value.int .i64))) := by
        show wr.ownsRow W.heap.size 3 1 u8 (RG ++ []).length ((RG ++ []).map (Value.int .i64))
        rw [List.append_nil]; exact HOW.out
      have x1 := keep_cell hb HX1.out
      clear HOW
      go_wp2_with fail
      clear x1
      go_loopw [8, 50] (fun u i wr => ∃ j : Nat, j ≤ 3 ∧ i = .int .i64 j ∧ Hid (wr.ownsRow W.heap.size 3 1 u (RG ++ (List.range j).map LD).length ((RG ++ (List.range j).map LD).map (Value.int .i64))) ∧ Below W.heap.size W wr) (fun _ i _ => 3 - (intOf i).toNat)
      case atStart => exact ⟨0, by omega, rfl, HO0.out, hb⟩
      case round =>
        clear HO0 hb
        obtain ⟨j, hj, rfl, hown, hb⟩ := hrel
        have hbw := below_more hbaW hb
        by_cases hj3 : j < 3
        · obtain ⟨l, hl⟩ := get_of_lt (l := x.order) (k := j) (by have := HL3.out.1; omega)
          have hl96 := HL3.out.2 l (List.mem_of_getElem? hl)
          obtain ⟨ul, c0, ivl⟩ := lc_keeps _ _ _ _ _ hbw (HO.out j l hl)
          rw [Nat.mul_one] at c0
          obtain ⟨aol, capl, hvl⟩ := ivl.form
          subst hvl
          have hjI : (j : Int) < (x.order.length : Int) := by have := HL3.out.1; omega
          obtain ⟨hlv, hle⟩ := HLV.out j l hl
          have HLS : Hid (RG ++ (List.range (j + 1)).map LD = (RG ++ (List.range j).map LD) ++ [valN E S E.length (lastI l)]) := by show _ = _; rw [List.range_succ (n := j), List.map_append, ← hlv]; simp
          have hxsl : (RG ++ (List.range j).map LD).length ≤ 200 := by rw [List.length_append, List.length_map, List.length_range]; omega
          have HL1 := HLO.out l (.slice aol l.length capl) wr hl96 ivl
          have HLE : Hid (EvI E.length (lastI l)) := hle
          generalize RG ++ (List.range j).map LD = xs at hown HLS hxsl
          generalize lastI l = la at HLS HL1 HLE
          have HV1 : Hid (∀ w', Below wr.heap.size wr w' → Calls Tryz.prog 75 #[.slice aot T.length capt, .slice ao E.length cap, us, .int .i64 la] w' fun e w'' => e = .returned (.int .i64 (valN E S E.length la)) ∧ Below w'.heap.size w' w'') := fun w' hb' => HV.out la us w' HLE.out (below_more hbw hb') (HUS.out.keep (below_more hb hb'))
          generalize valN E S E.length la = val at HLS HV1
          clear ivl hl hlv hle
          go_wp2_with fail
          refine HL1.mono ?_
          rintro e w6 ⟨rfl, hb6⟩
          clear HL1
          go_wp2_with fail
          refine (HV1.out w6 hb6).mono ?_
          rintro e w7 ⟨rfl, hb67⟩
          have hb7 := below_more hb6 hb67
          have HO7 : Hid (w7.ownsRow W.heap.size 3 1 u8 xs.length (xs.map (Value.int .i64))) := own_keep hown.out hb7
          have hb8 := below_more hb hb7
          have hs8 := hb8.size
          clear hb hb7 hb6 hb67 c0
          go_wp2_with (at_builtin; refine append_new _ rfl _ _ 26 rfl W.heap.size 3 i0 (.int .i64 0) 1 8 Tryz.underlying26 HI.out.1 HI.out.2.1 HI.out.2.2.1 HI.out.2.2.2 rfl (by decide) _ xs.length (xs.map (Value.int .i64)) rfl (HO7.out.alloc _) (some ⟨w7.heap.size, 0, none⟩) 1 1 [.int .i64 val] rfl (fun h => by cases h) rfl (fun ad had => by cases had; exact new_one rfl) (by simp [Value.oneCell']) (by unfold maxLen; omega) (by omega) (by simp; omega) ?_)
          intro u' w9 hown' hgrow _
          have hb9 : Below W.heap.size W w9 := Below.grown (hb8.alloc hs8 _) hgrow (by simp; omega) (fun kk e => (HO7.out.lt kk e).1)
          have HO9 : Hid (w9.ownsRow W.heap.size 3 1 u' (RG ++ (List.range (j + 1)).map LD).length ((RG ++ (List.range (j + 1)).map LD).map (Value.int .i64))) := by rw [HLS.out]; exact own_snoc hown'
          clear hgrow hown'
          go_wp2_with fail
          go_roundw
          case measure => simp [intOf]; omega
          case rel => exact ⟨j + 1, by omega, by go_num, HO9.out, hb9⟩
        · have hj2 : j = 3 := by omega
          subst hj2
          have hjI : (x.order.length : Int) ≤ 3 := by have := HL3.out.1; omega
          have hjI2 : ¬ ((3 : Int) < (x.order.length : Int)) := by omega
          go_wp2_with fail
          go_ret
          have hsz := hbaW.size
          exact ⟨_, rfl, by rw [HRG.out]; exact owns_int (own_base hown.out hsz), hbw⟩

end Go.Proofs.YtomijmikkbhgmaaGreat

namespace Go.Proofs.YtomijmikkbhgmaaGreat
open Go.RowKit

/-- The state of an execution. -/
def stX (T : List (List Ins)) (E : List Evt) (x : Exe) : List Int := staL T.length E (frS E x) x

theorem stX_len (T : List (List Ins)) (E : List Evt) (x : Exe) : (stX T E x).length = 3 * T.length + 3 := staL_len _ _ _ _
theorem stX_ne (T : List (List Ins)) (E : List Evt) (x : Exe) : stX T E x ≠ [] := by
  intro h
  have := stX_len T E x
  rw [h] at this
  simp at this

/-- What State tells. -/
def StOut (T : List (List Ins)) (c : List Atm) (x : Exe) (w : World) (u : Value) (er : Int) : Prop := ∃ r jr, JOut T c x r jr ∧
  ((jr ≠ 0 ∧ er = jr ∧ u = .slice none 0 0) ∨ (jr = 0 ∧ r ≠ 0 ∧ er = 8 ∧ u = .slice none 0 0) ∨ (jr = 0 ∧ r = 0 ∧ er = 0 ∧ T.length ≤ 4 ∧ IntAt w u (stX T (evsT T 0) x)))

theorem StOut.same {T : List (List Ins)} {c : List Atm} {x : Exe} {w w' : World} {u u' : Value} {er er' : Int} (h : StOut T c x w u er) (k : StOut T c x w' u' er') : er = er' ∧ ∃ l, l.length ≤ 100 ∧ IntAt w u l ∧ IntAt w' u' l := by
  obtain ⟨r, jr, hj, h⟩ := h
  obtain ⟨r', jr', kj, k⟩ := k
  obtain ⟨rfl, rfl⟩ := hj.one kj
  have hl := stX_len T (evsT T 0) x
  have n1 : ∀ w, IntAt w (.slice none 0 0) [] := fun w => (intCap_nil w).at'
  rcases h with ⟨h1, h2, rfl⟩ | ⟨h1, h2, h3, rfl⟩ | ⟨h1, h2, h3, h4, h5⟩ <;> rcases k with ⟨k1, k2, rfl⟩ | ⟨k1, k2, k3, rfl⟩ | ⟨k1, k2, k3, k4, k5⟩ <;>
  first
    | exact absurd k1 h1
    | exact absurd h1 k1
    | exact absurd k2 h2
    | exact absurd h2 k2
    | exact ⟨h2.trans k2.symm, [], by simp, n1 _, n1 _⟩
    | exact ⟨h3.trans k3.symm, [], by simp, n1 _, n1 _⟩
    | exact ⟨h3.trans k3.symm, _, by omega, h5, k5⟩

theorem JOut.ok {T : List (List Ins)} {c : List Atm} {x : Exe} {r : Int} (h : JOut T c x r 0) : ((chk T c).1 == 0) = true ∧ exeB (evsT T 0) x = true ∧ JudIs (Cyc (evsT T 0).length (cohA (evsT T 0) x)) (tornB (evsT T 0) x) (Cyc (evsT T 0).length (kepA T (evsT T 0) x)) (¬ Parts (evsT T 0).length (mtL (thoL 2 (evsT T 0) 0) (thoL 3 (evsT T 0) 0) (thoL 4 (evsT T 0) 0)) (kepA T (evsT T 0) x)) r := by
  rcases h with ⟨h1, _, h3⟩ | ⟨h1, ⟨_, _, h4⟩ | ⟨h2, _, h4⟩⟩
  · exact absurd h3.symm h1
  · cases h4
  · exact ⟨by simpa using h1, h2, h4⟩

theorem JudIs.cyc0 {P : Prop} {t : Bool} {Q S : Prop} (h : JudIs P t Q S 0) : ¬ Q := by
  rcases h with ⟨h, _⟩ | ⟨_, ⟨h, _⟩ | ⟨_, ⟨h, _⟩ | ⟨h, _⟩⟩⟩
  · cases h
  · cases h
  · cases h
  · exact h

/-- The same, its list a new one. -/
def StOutN (B : Nat) (T : List (List Ins)) (c : List Atm) (x : Exe) (w : World) (u : Value) (er : Int) : Prop := ∃ r jr, JOut T c x r jr ∧
  ((jr ≠ 0 ∧ er = jr ∧ u = .slice none 0 0) ∨ (jr = 0 ∧ r ≠ 0 ∧ er = 8 ∧ u = .slice none 0 0) ∨ (jr = 0 ∧ r = 0 ∧ er = 0 ∧ T.length ≤ 4 ∧ IntNew B w u (stX T (evsT T 0) x)))
theorem StOutN.at' {B : Nat} {T : List (List Ins)} {c : List Atm} {x : Exe} {w : World} {u : Value} {er : Int} (h : StOutN B T c x w u er) : StOut T c x w u er := by
  obtain ⟨r, jr, hj, h | h | ⟨h1, h2, h3, h4, h5⟩⟩ := h
  · exact ⟨r, jr, hj, .inl h⟩
  · exact ⟨r, jr, hj, .inr (.inl h)⟩
  · exact ⟨r, jr, hj, .inr (.inr ⟨h1, h2, h3, h4, h5.at'⟩)⟩

set_option maxRecDepth 20000 in
set_option maxHeartbeats 2000000 in
theorem stateP_new (T : List (List Ins)) (fa : Bool) (c : List Atm) (vt vc : Value) (x : Exe) (vf vo : Value) (w : World) (h : TestAt w (.agg #[vt, .bool fa, vc]) T fa c vt vc) (hx : ExeAt w vf vo x) :
    Calls Tryz.prog 16 #[.agg #[vt, .bool fa, vc], .agg #[vf, vo]] w fun e w' => ∃ (u : Value) (er : Int), e = .returned (.tuple #[u, .int .i64 er]) ∧ StOutN w.heap.size T c x w' u er ∧ Below w.heap.size w w' := by
  have HJ : Hid (∀ w', Below w.heap.size w w' → Calls Tryz.prog 30 #[.agg #[vt, .bool fa, vc], .agg #[vf, vo]] w' fun e w'' => ∃ r er : Int, e = .returned (.tuple #[.int .i64 r, .int .i64 er]) ∧ JOut T c x r er ∧ Below w'.heap.size w' w'') := fun w' hb => judgeP_any T fa c vt vc x vf vo w' (h.keep hb) (hx.keep hb)
  have HLS : Hid (∀ w', JOut T c x 0 0 → Below w.heap.size w w' → Calls Tryz.prog 39 #[vt] w' fun e w'' => ∃ u, e = .returned u ∧ Ev4At w'' u (evsT T 0) ∧ Below w'.heap.size w' w'') := fun w' hj hb => by
    have hF := fits_of hj.ok.1
    refine (list_cap T vt w' (h.ht.keep hb) hF.short.t4 hF.lens).mono ?_
    rintro e w'' ⟨u, he, hu, hb'⟩
    exact ⟨u, he, hu.at', hb'⟩
  have HOF : Hid (∀ (u : Value) (w' : World), JOut T c x 0 0 → Below w.heap.size w w' → Ev4At w' u (evsT T 0) → Calls Tryz.prog 40 #[vt, u, .agg #[vf, vo]] w' fun e w'' => ∃ v, e = .returned v ∧ (T.length ≤ 4 ∧ IntNew w.heap.size w'' v (stX T (evsT T 0) x)) ∧ Below w'.heap.size w' w'') := fun u w' hj hb hu => by
    obtain ⟨hz, hxb, hjj⟩ := hj.ok
    have hF := fits_of hz
    have hxx := isEx_of hxb
    refine (stateOf_any T hF.short vt (evsT T 0) hF.el (evsIn_T T) x hxx u vf vo w' (h.ht.keep hb) hu (hx.keep hb)).mono ?_
    rintro e w'' ⟨v, he, hv, hb'⟩
    rw [sta_same rfl hF.el hF.locs hxx hjj.cyc0] at hv
    exact ⟨v, he, ⟨hF.short.t4, hv.less hb.size⟩, hb'⟩
  have HSO : Hid (∀ w' u er, StOutN w.heap.size T c x w' u er ↔ ∃ r jr, JOut T c x r jr ∧ ((jr ≠ 0 ∧ er = jr ∧ u = .slice none 0 0) ∨ (jr = 0 ∧ r ≠ 0 ∧ er = 8 ∧ u = .slice none 0 0) ∨ (jr = 0 ∧ r = 0 ∧ er = 0 ∧ T.length ≤ 4 ∧ IntNew w.heap.size w' u (stX T (evsT T 0) x)))) := fun _ _ _ => Iff.rfl
  generalize StOutN w.heap.size T c x = SO at HSO ⊢
  generalize stX T (evsT T 0) x = st at HSO HOF
  generalize evsT T 0 = E at HLS HOF
  generalize JOut T c x = J at HJ HLS HOF HSO
  clear h hx
  go_enter Tryz.func16, Tryz.ntmps16
  go_wp2_with fail
  have hba := below_two w (.cells #[vt, .bool fa, vc] 25) (.cells #[vf, vo] 29)
  refine (HJ.out _ hba).mono ?_
  rintro e w3 ⟨r, jr, rfl, hjr, hb3⟩
  have hbw3 := below_more hba hb3
  have t0 := keep_cell hb3 (b := w.heap.size) (off := 0) (u := vt) (by simp)
  have x0 := keep_cell hb3 (b := w.heap.size + 1) (off := 0) (u := vf) (by simp)
  have x1 := keep_cell hb3 (b := w.heap.size + 1) (off := 1) (u := vo) (by simp)
  have HJR : Hid (J r jr) := hjr
  clear hjr hb3 HJ
  cases hz : jr == 0
  · have hz2 : (jr != 0) = true := by simp [bne, hz]
    have hz3 : jr ≠ 0 := by simpa using hz
    go_wp2_with fail
    go_ret2
    exact ⟨_, _, rfl, (HSO.out _ _ _).2 ⟨r, jr, HJR.out, .inl ⟨hz3, rfl, rfl⟩⟩, hbw3⟩
  · have hz2 : (jr != 0) = false := by simp [bne, hz]
    have hz3 : jr = 0 := by simpa using hz
    subst hz3
    cases hr : r == 0
    · have hr2 : (r != 0) = true := by simp [bne, hr]
      have hr3 : r ≠ 0 := by simpa using hr
      go_wp2_with fail
      go_ret2
      exact ⟨_, _, rfl, (HSO.out _ _ _).2 ⟨r, 0, HJR.out, .inr (.inl ⟨rfl, hr3, rfl, rfl⟩)⟩, hbw3⟩
    · have hr3 : r = 0 := by simpa using hr
      subst hr3
      go_wp2_with fail
      refine (HLS.out w3 HJR.out hbw3).mono ?_
      rintro e w5 ⟨u5, rfl, hu5, hb5⟩
      have hbw5 := below_more hbw3 hb5
      replace t0 := keep_cell hb5 t0
      replace x0 := keep_cell hb5 x0
      replace x1 := keep_cell hb5 x1
      have HU5 : Hid (Ev4At w5 u5 E) := hu5
      clear hu5 hb5 HLS
      go_wp2_with fail
      refine (HOF.out u5 w5 HJR.out hbw5 HU5.out).mono ?_
      rintro e w6 ⟨v6, rfl, hv6, hb6⟩
      have HV6 : Hid (T.length ≤ 4 ∧ IntNew w.heap.size w6 v6 st) := hv6
      have hbw6 := below_more hbw5 hb6
      clear hv6 t0 x0 x1 hb6
      go_wp2_with fail
      go_ret2
      exact ⟨_, _, rfl, (HSO.out _ _ _).2 ⟨0, 0, HJR.out, .inr (.inr ⟨rfl, rfl, rfl, HV6.out.1, HV6.out.2⟩)⟩, hbw6⟩

theorem stateP_any (T : List (List Ins)) (fa : Bool) (c : List Atm) (vt vc : Value) (x : Exe) (vf vo : Value) (w : World) (h : TestAt w (.agg #[vt, .bool fa, vc]) T fa c vt vc) (hx : ExeAt w vf vo x) :
    Calls Tryz.prog 16 #[.agg #[vt, .bool fa, vc], .agg #[vf, vo]] w fun e w' => ∃ (u : Value) (er : Int), e = .returned (.tuple #[u, .int .i64 er]) ∧ StOut T c x w' u er ∧ Below w.heap.size w w' := by
  refine (stateP_new T fa c vt vc x vf vo w h hx).mono ?_
  rintro e w' ⟨u, er, h1, h2, h3⟩
  exact ⟨u, er, h1, h2.at', h3⟩

theorem stateR_any (T : List (List Ins)) (fa : Bool) (c : List Atm) (vt vc : Value) (x : Exe) (vf vo : Value) (w : World) (h : TestAt w (.agg #[vt, .bool fa, vc]) T fa c vt vc) (hx : ExeC w vf vo x) :
    Calls Tryz.prog 19 #[.agg #[vt, .bool fa, vc], .agg #[vf, vo]] w fun e w' => ∃ (u : Value) (er : Int), e = .returned (.tuple #[u, .int .i64 er]) ∧ StOut T c x w' u er ∧ Below w.heap.size w w' := by
  refine (stateR_of T fa c vt vc x vf vo w h hx.at' (JOut T c x) (fun w' hb => judgeR_any T fa c vt vc x vf vo w' (h.keep hb) (hx.keep hb)) (fun r hr => ?_)).mono ?_
  · obtain ⟨hz, hxb, _⟩ := hr.ok
    have hF := fits_of hz
    exact ⟨hF.short.t4, hF.lens, hF.el, isEx_of hxb⟩
  · rintro e w' ⟨r, jr, u, er, he, hj, hs, hb⟩
    refine ⟨u, er, he, ⟨r, jr, hj, ?_⟩, hb⟩
    rcases hs with hs | hs | ⟨h1, h2, h3, h4⟩
    · exact .inl hs
    · exact .inr (.inl hs)
    · subst h1
      exact .inr (.inr ⟨rfl, h2, h3, (fits_of hj.ok.1).short.t4, h4.at'⟩)

end Go.Proofs.YtomijmikkbhgmaaGreat

namespace Go.Proofs.YtomijmikkbhgmaaGreat
open Go.RowKit

set_option maxRecDepth 20000 in
set_option maxHeartbeats 2000000 in
theorem stated_any (T : List (List Ins)) (fa : Bool) (c : List Atm) (vt vc : Value) (x : Exe) (hfit : XFits x) (vf vo : Value) (w : World) (h : TestAt w (.agg #[vt, .bool fa, vc]) T fa c vt vc) (hx : ExeC w vf vo x) :
    Calls Tryz.prog 10 #[.agg #[vt, .bool fa, vc], .agg #[vf, vo]] w fun e w' => e = .returned (.bool true) ∧ Below w.heap.size w w' := by
  have HC1 : Hid (∀ w', Below w.heap.size w w' → Calls Tryz.prog 17 #[.agg #[vt, .bool fa, vc]] w' fun e w'' => ∃ vt' vc', e = .returned (.agg #[vt', .bool fa, vc']) ∧ Hid (TestAt w'' (.agg #[vt', .bool fa, vc']) T fa c vt' vc') ∧ Below w'.heap.size w' w'') := fun w' hb => copy_any T fa c _ vt vc w' (h.keep hb)
  have HC2 : Hid (∀ w', Below w.heap.size w w' → Calls Tryz.prog 18 #[.agg #[vf, vo]] w' fun e w'' => ∃ vf' vo', e = .returned (.agg #[vf', vo']) ∧ Hid (ExeAt w'' vf' vo' x) ∧ Below w'.heap.size w' w'') := fun w' hb => copied_any x hfit vf vo w' (hx.at'.keep hb)
  have HC3 : Hid (∀ w' vt' vc' vf' vo', TestAt w' (.agg #[vt', .bool fa, vc']) T fa c vt' vc' → ExeAt w' vf' vo' x → Calls Tryz.prog 16 #[.agg #[vt', .bool fa, vc'], .agg #[vf', vo']] w' fun e w'' => ∃ (u : Value) (er : Int), e = .returned (.tuple #[u, .int .i64 er]) ∧ Hid (StOut T c x w'' u er) ∧ Below w'.heap.size w' w'') := fun w' vt' vc' vf' vo' ht hx => stateP_any T fa c vt' vc' x vf' vo' w' ht hx
  have HC4 : Hid (∀ w', Below w.heap.size w w' → Calls Tryz.prog 19 #[.agg #[vt, .bool fa, vc], .agg #[vf, vo]] w' fun e w'' => ∃ (u : Value) (er : Int), e = .returned (.tuple #[u, .int .i64 er]) ∧ Hid (StOut T c x w'' u er) ∧ Below w'.heap.size w' w'') := fun w' hb => stateR_any T fa c vt vc x vf vo w' (h.keep hb) (hx.keep hb)
  have HONE : Hid (∀ w1 w2 u er u' er', StOut T c x w1 u er → StOut T c x w2 u' er' → Below w1.heap.size w1 w2 → er = er' ∧ Calls Tryz.prog 20 #[u, u'] w2 fun e w'' => e = .returned (.bool true) ∧ Below w2.heap.size w2 w'') := fun w1 w2 u er u' er' h k hb => by
    obtain ⟨e, l, hl, hu, hu'⟩ := h.same k
    exact ⟨e, sameInts_any l (by omega) u u' w2 (hu.keep hb) hu'⟩
  generalize StOut T c x = J at HC3 HC4 HONE
  obtain ⟨aof, capf, hvf⟩ := hx.f.form
  obtain ⟨aoo, bo, offo, capo, hso⟩ := hx.o
  have hvo := hso.hv
  subst hvf hvo
  obtain ⟨ht0, aot, bt, offt, capt, htv, _⟩ := h.ht.opened
  obtain ⟨hc0, aoc, bc, offc, capc, hsc⟩ := h.hc
  have hcv := hsc.hv
  subst htv hcv
  clear hso hx h hsc
  go_enter Tryz.func10, Tryz.ntmps10
  go_upto_region 1 with fail
  have hba := below_two w (.cells #[.slice aot T.length capt, .bool fa, .slice aoc c.length capc] 25) (.cells #[.slice aof x.from'.length capf, .slice aoo x.order.length capo] 29)
  have HTX : Hid (∀ w', Below (w.heap.size + 1 + 1) ((w.alloc (.cells #[.slice aot T.length capt, .bool fa, .slice aoc c.length capc] 25)).alloc (.cells #[.slice aof x.from'.length capf, .slice aoo x.order.length capo] 29)) w' → w'.cell? ⟨w.heap.size, 0, none⟩ = some (.slice aot T.length capt) ∧ w'.cell? ⟨w.heap.size, 1, none⟩ = some (.bool fa) ∧ w'.cell? ⟨w.heap.size, 2, none⟩ = some (.slice aoc c.length capc) ∧ w'.cell? ⟨w.heap.size + 1, 0, none⟩ = some (.slice aof x.from'.length capf) ∧ w'.cell? ⟨w.heap.size + 1, 1, none⟩ = some (.slice aoo x.order.length capo)) := fun w' hb => by
    have h1 := hb.cell (p := ⟨w.heap.size, 0, none⟩) (by simp; omega)
    have h2 := hb.cell (p := ⟨w.heap.size, 1, none⟩) (by simp; omega)
    have h3 := hb.cell (p := ⟨w.heap.size, 2, none⟩) (by simp; omega)
    have h4 := hb.cell (p := ⟨w.heap.size + 1, 0, none⟩) (by simp)
    have h5 := hb.cell (p := ⟨w.heap.size + 1, 1, none⟩) (by simp)
    exact ⟨h1.trans (by simp), h2.trans (by simp), h3.trans (by simp), h4.trans (by simp), h5.trans (by simp)⟩
  have hsW : ((w.alloc (.cells #[.slice aot T.length capt, .bool fa, .slice aoc c.length capc] 25)).alloc (.cells #[.slice aof x.from'.length capf, .slice aoo x.order.length capo] 29)).heap.size = w.heap.size + 1 + 1 := by simp
  generalize (w.alloc (.cells #[.slice aot T.length capt, .bool fa, .slice aoc c.length capc] 25)).alloc (.cells #[.slice aof x.from'.length capf, .slice aoo x.order.length capo] 29) = W at hba HTX hsW ⊢
  rw [← hsW] at HTX
  obtain ⟨t0, t1, t2, x0, x1⟩ := HTX.out W (Below.refl _ _)
  clear hsW
  go_cut [5, 6] from 10 (fun j e wc => ∃ (u : Value) (er : Int), j = u ∧ e = .int .i64 er ∧ Hid (J wc u er) ∧ Below W.heap.size W wc)
  case first =>
    go_region_with (first
      | (go_at_call 17; refine (HC1.out _ hba.drew).mono ?_; rintro e w3 ⟨vt3, vc3, rfl, ht3, hb3⟩; have hbW3 := below_more (Below.refl W.heap.size W).drew hb3; obtain ⟨_, _, _, x03, x13⟩ := HTX.out w3 hbW3)
      | (go_at_call 18; refine (HC2.out _ (below_more hba hbW3)).mono ?_; rintro e w4 ⟨vf4, vo4, rfl, hx4, hb4⟩; have hbW4 := below_more hbW3 hb4)
      | (go_at_call 16; refine (HC3.out _ vt3 vc3 vf4 vo4 (ht3.out.keep hb4) hx4.out).mono ?_; rintro e w5 ⟨r, er, rfl, hj, hb5⟩; have hbW5 := below_more hbW4 hb5))
    all_goals
      go_wp2_with fail
      go_meet
      case rel => exact ⟨r, er, rfl, rfl, hj.out, hbW5⟩
  case rest =>
    obtain ⟨u, er, rfl, rfl, hj, hbc⟩ := hcut
    clear t0 t1 t2 x0 x1
    obtain ⟨t0, t1, t2, x0, x1⟩ := HTX.out wc hbc
    have HJ := hj
    clear hj
    go_wp2_with fail
    refine (HC4.out _ (below_more hba hbc)).mono ?_
    rintro e w6 ⟨u', er', rfl, hj', hb6⟩
    obtain ⟨e1, hsm⟩ := HONE.out _ _ _ _ _ _ HJ.out hj'.out hb6
    subst e1
    have HSM : Hid (Calls Tryz.prog 20 #[u5, u'] w6 fun e w'' => e = .returned (.bool true) ∧ Below w6.heap.size w6 w'') := hsm
    have k2 : (er == er) = true := by simp
    clear hj' t0 t1 t2 x0 x1 hsm
    go_wp2_with fail
    refine HSM.out.mono ?_
    rintro e w7 ⟨rfl, hb7⟩
    go_wp2_with fail
    go_ret
    exact ⟨rfl, below_more (below_more (below_more hba hbc) hb6) hb7⟩

end Go.Proofs.YtomijmikkbhgmaaGreat
