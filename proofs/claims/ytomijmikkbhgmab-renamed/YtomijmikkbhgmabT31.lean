import Derived.Test.YtomijmikkbhgmabT30
import Derived.Test.YtomijmikkbhgmabT13
import Derived.Test.YtomijmikkbhgmabT14
import Derived.Test.YtomijmikkbhgmabLm
import Derived.Test.YtomijmikkbhgmabT28
import Derived.Test.YtomijmikkbhgmabT19
import Derived.Test.YtomijmikkbhgmabT21
import Derived.Deep.RegionLaw
import Derived.Laws.BitsLemmas
import Derived.Laws.CopyOwn
namespace Go.Proofs.Ytomijmikkbhgmab

theorem picks_zip (E R : List Evt) (i : Nat) (F : List Int) (h : picks F (rdo E R)) : F.length = (rdsX R i).length ∧ ∀ q ∈ (rdsX R i).zip F, q.2 = -1 ∨ q.2 ∈ wrs E 0 q.1.2.loc := by
  induction R generalizing i F with
  | nil =>
    cases F with
    | nil => exact ⟨rfl, fun q hq => by simp [rdsX] at hq⟩
    | cons a F => exact absurd h (by simp [rdo, picks])
  | cons y R ih =>
    unfold rdo at h
    cases hk : y.kind == 0
    · rw [hk] at h
      rw [rdsX_mis hk]
      exact ih (i + 1) F (by simpa using h)
    · rw [hk] at h
      rw [rdsX_hit hk]
      cases F with
      | nil => exact absurd h (by simp [picks])
      | cons a F =>
        have h' : a ∈ -1 :: wrs E 0 y.loc ∧ picks F (rdo E R) := by simpa [picks] using h
        obtain ⟨k1, k2⟩ := ih (i + 1) F h'.2
        refine ⟨by simp [k1], fun q hq => ?_⟩
        rw [List.zip_cons_cons] at hq
        rcases List.mem_cons.1 hq with rfl | hq
        · rcases List.mem_cons.1 h'.1 with e | e
          · exact .inl e
          · exact .inr e
        · exact k2 q hq

theorem Drawn.isEx {E : List Evt} {x : Exe} (h : Drawn E x) : IsEx E x := by
  obtain ⟨h1, h2⟩ := picks_zip E E 0 x.from' h.f
  obtain ⟨a, b, c, ho, _⟩ := h.o
  refine ⟨h1, h2, by rw [ho]; rfl, fun j l hl => ?_⟩
  have hp := h.row hl
  exact ⟨hp.nodup_iff.2 (wrs_nodup E _), fun a => hp.mem_iff⟩

theorem exN_isEx (E : List Evt) (n : Nat) : IsEx E (exN E n) := (exN_drawn E n).isEx

theorem mayB_val {x : Ins} (h : mayB x = true) : 0 ≤ x.val ∧ x.val ≤ 1000 := by
  have h0 : valB x.val = true → 0 ≤ x.val ∧ x.val ≤ 1000 := fun e => by
    unfold valB at e
    simp only [Bool.and_eq_true, decide_eq_true_eq] at e
    omega
  have h1 : (x.val == 0) = true → 0 ≤ x.val ∧ x.val ≤ 1000 := fun e => by
    have : x.val = 0 := by simpa using e
    omega
  unfold mayB at h
  repeat' split at h
  all_goals first
    | (simp only [Bool.and_eq_true] at h; exact h0 h.1.2)
    | (simp only [Bool.and_eq_true] at h; exact h1 h.1.2)
    | simp at h

theorem insF_may {T : List (List Ins)} {i : Nat} (h : insF T i = none) : ∀ l ∈ T, ∀ x ∈ l, mayB x = true := by
  induction T generalizing i with
  | nil => simp
  | cons l T ih =>
    cases hb : badAt l 0 with
    | some j => rw [insF_bad hb] at h; cases h
    | none =>
      rw [insF_ok hb] at h
      intro m hm x hx
      rcases List.mem_cons.1 hm with rfl | hm
      · exact badAt_none hb x hx
      · exact ih h m hm x hx

theorem chk_may {T : List (List Ins)} {c : List Atm} (h : ((chk T c).1 == 0) = true) : ∀ l ∈ T, ∀ x ∈ l, mayB x = true := by
  unfold chk at h
  cases hs : sizeB T c
  · rw [hs] at h; simp at h
  · rw [hs] at h
    cases hi : insF T 0 with
    | none => exact insF_may hi
    | some p => rw [hi] at h; simp at h

theorem chk_atms {T : List (List Ins)} {c : List Atm} (h : ((chk T c).1 == 0) = true) : AtmsOk T.length c := by
  have hs := chk_zero h
  cases hi : insF T 0 with
  | some p => rw [chk_ins hs hi] at h; simp at h
  | none =>
    cases hn : nstF T 0 with
    | some p => rw [chk_nst hs hi hn] at h; simp at h
    | none =>
      cases ha : atmF c 0 T.length with
      | some p => rw [chk_atm hs hi hn ha] at h; simp at h
      | none => exact atms_ok ha

theorem chk_vals {T : List (List Ins)} {c : List Atm} (h : ((chk T c).1 == 0) = true) : ∀ y ∈ evsT T 0, 0 ≤ y.ins.val ∧ y.ins.val ≤ 1000 := by
  intro y hy
  obtain ⟨i, p, l, _, _, _, hl, hp, _⟩ := evsT_mem hy
  exact mayB_val (chk_may h l (List.mem_of_getElem? hl) y.ins (List.mem_of_getElem? hp))

end Go.Proofs.Ytomijmikkbhgmab

namespace Go.Proofs.Ytomijmikkbhgmab
open Go.RowKit

theorem IsEx.evI {E : List Evt} {x : Exe} (h : IsEx E x) : (∀ f ∈ x.from', EvI E.length f) ∧ ∀ l ∈ x.order, ∀ a ∈ l, EvI E.length a := by
  have hw : ∀ {a loc : Int}, a ∈ wrs E 0 loc → EvI E.length a := fun ha => by
    obtain ⟨i, y, h1, h2, _⟩ := wrs_iff.1 ha
    exact .inr ⟨i, h2, (List.getElem?_eq_some_iff.1 h1).1⟩
  constructor
  · intro f hf
    obtain ⟨j, hj⟩ := List.mem_iff_getElem?.1 hf
    have hjl : j < (rdsX E 0).length := by rw [← h.f]; exact (List.getElem?_eq_some_iff.1 hj).1
    obtain ⟨q, hq⟩ := get_of_lt hjl
    have hz : ((rdsX E 0).zip x.from')[j]? = some (q, f) := by rw [List.getElem?_zip_eq_some]; exact ⟨hq, hj⟩
    rcases h.fw (q, f) (List.mem_of_getElem? hz) with e | e
    · exact .inl e
    · exact hw e
  · intro l hl a ha
    obtain ⟨j, hj⟩ := List.mem_iff_getElem?.1 hl
    exact hw (((h.od j l hj).2 a).1 ha)

/-- What State tells, where Judge tells r and jr. -/
def SOut (T : List (List Ins)) (x : Exe) (B : Nat) (w : World) (r jr : Int) (u : Value) (er : Int) : Prop :=
  (jr ≠ 0 ∧ er = jr ∧ u = .slice none 0 0) ∨ (jr = 0 ∧ r ≠ 0 ∧ er = 8 ∧ u = .slice none 0 0) ∨
  (jr = 0 ∧ r = 0 ∧ er = 0 ∧ IntNew B w u (staL T.length (evsT T 0) (fun r => frG ((rdsX (evsT T 0) 0).zip x.from') (r : Int)) x))

theorem IntNew.less {B B' : Nat} {w : World} {v : Value} {l : List Int} (h : IntNew B w v l) (hb : B' ≤ B) : IntNew B' w v l := by
  obtain ⟨ao, b, off, cap, h, h1, h2⟩ := h
  exact ⟨ao, b, off, cap, h, Nat.le_trans hb h1, h2⟩

end Go.Proofs.Ytomijmikkbhgmab

namespace Go.Proofs.Ytomijmikkbhgmab
open Go.RowKit

theorem srcL_mem {E : List Evt} {F : List Int} {f : Int} (h : f ∈ srcL E F) : f = -1 ∨ f ∈ F := by
  induction E generalizing F with
  | nil => cases h
  | cons y E ih =>
    cases hk : y.kind == 0
    · rw [srcL_not hk] at h
      rcases List.mem_cons.1 h with h | h
      · exact .inl h
      · exact ih h
    · cases F with
      | nil =>
        rw [srcL_out hk] at h
        rcases List.mem_cons.1 h with h | h
        · exact .inl h
        · exact ih h
      | cons a F =>
        rw [srcL_read hk] at h
        rcases List.mem_cons.1 h with h | h
        · exact .inr (by rw [h]; exact List.mem_cons_self ..)
        · rcases ih h with h | h
          · exact .inl h
          · exact .inr (List.mem_cons_of_mem _ h)

/-- Numbers by threads and registers: those of the first i threads, and of the next one the first r. -/
def regF (f : Nat → Nat → Int) (i r : Nat) : List Int := ((List.range i).flatMap fun i => (List.range 3).map (f i)) ++ (List.range r).map (f i)
theorem regF_step (f : Nat → Nat → Int) (i r : Nat) : regF f i (r + 1) = regF f i r ++ [f i r] := by unfold regF; rw [List.range_succ (n := r), List.map_append]; simp
theorem regF_next (f : Nat → Nat → Int) (i : Nat) : regF f (i + 1) 0 = regF f i 3 := by unfold regF; rw [List.range_succ (n := i), List.flatMap_append]; simp
theorem regF_len (f : Nat → Nat → Int) (i r : Nat) : (regF f i r).length = 3 * i + r := by
  unfold regF
  rw [List.length_append, List.length_map, List.length_range, flat_len _ 3 (fun _ => by simp), List.length_range]; omega

def regD (D : Nat) (E : List Evt) (S : Nat → Int) (i r : Nat) : Int := valN E S D (srcG (evtOf (i : Int) (r : Int)) E 0 (-1))
def locD (D : Nat) (E : List Evt) (S : Nat → Int) (x : Exe) (j : Nat) : Int := match (x.order.getD j []).getLast? with
  | none => 0
  | some w => valN E S D w
theorem staD_parts (D k : Nat) (E : List Evt) (S : Nat → Int) (x : Exe) : staD D k E S x = regF (regD D E S) k 0 ++ (List.range 3).map (locD D E S x) := by
  unfold regF
  rw [List.range_zero, List.map_nil, List.append_nil]
  rfl

set_option maxRecDepth 20000 in
set_option maxHeartbeats 4000000 in
theorem stateOf_any (T : List (List Ins)) (hS : Short T) (vt : Value) (E : List Evt) (hE : E.length ≤ 96) (hin : EvsIn T E) (x : Exe) (hx : IsEx E x) (v vf vo : Value) (w : World) (ht : ThrAt w vt T) (hev : Ev4At w v E) (hxa : ExeAt w vf vo x) :
    Calls Try.prog 78 #[vt, v, .agg #[vf, vo]] w fun e w' => ∃ u, e = .returned u ∧ IntNew w.heap.size w' u (staD E.length T.length E (srcS E x) x) ∧ Below w.heap.size w w' := by
  have hF96 : x.from'.length ≤ 96 := by have := hx.f; have := rdsX_len E 0; omega
  have hSl := srcL_len E x.from'
  have hSE : ∀ f ∈ srcL E x.from', EvI E.length f := fun f hf => by
    rcases srcL_mem hf with h | h
    · exact .inl h
    · exact hx.evI.1 f h
  have HSR : Hid (∀ w', Below w.heap.size w w' → Calls Try.prog 95 #[v, vf] w' fun e w'' => ∃ us, e = .returned us ∧ IntAt w'' us (srcL E x.from') ∧ Below w'.heap.size w' w'') := fun w' hb => by
    refine (sourcesJ_any E hE x.from' hF96 v vf w' (hev.keep hb) (hxa.f.keep hb)).mono ?_
    rintro e w'' ⟨he, hrow⟩
    have hl := hrow.list
    rw [range_getD _ _ hSl] at hl
    exact ⟨_, he, hl, hrow.hb⟩
  have HV : Hid (∀ (i : Int) (us : Value) (w' : World), EvI E.length i → Below w.heap.size w w' → IntAt w' us (srcL E x.from') → Calls Try.prog 105 #[vt, v, us, .int .i64 i] w' fun e w'' => e = .returned (.int .i64 (valN E (srcS E x) E.length i)) ∧ Below w'.heap.size w' w'') := fun i us w' hi hb hu => valueOf_any T hS vt E hE hin _ hSl hSE i hi v us w' (ht.keep hb) (hev.keep hb) hu
  have HH : Hid (∀ (i r : Nat) (w' : World), Below w.heap.size w w' → Calls Try.prog 104 #[vt, v, .int .i64 i, .int .i64 r, .int .i64 E.length] w' fun e w'' => e = .returned (.int .i64 (srcG (evtOf i r) E 0 (-1))) ∧ Below w'.heap.size w' w'') := fun i r w' hb => by
    have := lastRead_any T hS vt E hE hin E.length (Nat.le_refl _) (evtOf i r) v w' (ht.keep hb) (hev.keep hb)
    rw [List.take_length] at this
    exact this
  have HLO : Hid (∀ (l : List Int) (vl : Value) (w' : World), l.length ≤ 96 → IntAt w' vl l → Calls Try.prog 106 #[vl] w' fun e w'' => e = .returned (.int .i64 (lastI l)) ∧ Below w'.heap.size w' w'') := fun l vl w' hl hv => lastOf_any l (by omega) vl w' hv
  have HSRC : Hid (∀ i r : Nat, EvI E.length (srcG (evtOf i r) E 0 (-1))) := fun i r => srcE _
  have HRV : Hid (∀ i r : Nat, regD E.length E (srcS E x) i r = valN E (srcS E x) E.length (srcG (evtOf i r) E 0 (-1))) := fun _ _ => rfl
  have HST : Hid (staD E.length T.length E (srcS E x) x = regF (regD E.length E (srcS E x)) T.length 0 ++ (List.range 3).map (locD E.length E (srcS E x) x)) := staD_parts _ _ _ _ _
  have HLV : Hid (∀ (j : Nat) (l : List Int), x.order[j]? = some l → locD E.length E (srcS E x) x j = valN E (srcS E x) E.length (lastI l) ∧ EvI E.length (lastI l)) := fun j l hl => by
    unfold locD lastI
    rw [List.getD, hl]
    simp only [Option.getD_some]
    cases hg : l.getLast? with
    | none => exact ⟨(valN_neg E (srcS E x) E.length (i := -1) (by omega)).symm, .inl rfl⟩
    | some a => exact ⟨rfl, hx.evI.2 l (List.mem_of_getElem? hl) a (List.mem_of_getLast? hg)⟩
  have HL3 : Hid (x.order.length = 3 ∧ ∀ l ∈ x.order, l.length ≤ 96) := ⟨hx.o3, fun l hl => by
    obtain ⟨j, hj⟩ := List.mem_iff_getElem?.1 hl
    exact hx.len hE hj⟩
  have hT4 := hS.t4
  generalize srcL E x.from' = SL at *
  generalize srcS E x = S at *
  generalize staD E.length T.length E S x = STA at *
  generalize regD E.length E S = RD at *
  generalize locD E.length E S x = LD at *
  obtain ⟨aof, capf, hvf⟩ := hxa.f.form
  obtain ⟨aoo, bo, offo, capo, hvo, hao, _, hco⟩ := hxa.o
  have HO : Hid (∀ k l, x.order[k]? = some l → LC w bo (offo + k * 1) l) := hco
  obtain ⟨ao, b, off, cap, hv, ha, _, hc⟩ := hev
  obtain ⟨ht0, aot, bt, offt, capt, htv, _⟩ := ht.opened
  subst hv hvf hvo htv
  obtain rfl := hao (by intro h; have := HL3.out.1; rw [h] at this; simp at this)
  obtain ⟨i0, hi, hz0, hz1, hz2⟩ := info_parts Try.info3
  have HI : Hid (Try.prog.info? 3 = some i0 ∧ i0.zero = some (.int .i64 0) ∧ i0.size = 1 ∧ i0.bytes = 8) := ⟨hi, hz0, hz1, hz2⟩
  clear hi hz0 hz1 hz2 hx hc ha hco hao hin hSE hSl hF96 hxa ht
  go_enter Try.func78, Try.ntmps78
  go_wp2_with fail
  have hba := below_alloc w (.cells #[.slice aof x.from'.length capf, .slice (some ⟨bo, offo, none⟩) x.order.length capo] 96)
  refine (HSR.out _ hba).mono ?_
  rintro e W ⟨us, rfl, hus, hbW⟩
  have HUS : Hid (IntAt W us SL) := hus
  have x1 := keep_cell hbW (b := w.heap.size) (off := 1) (u := .slice (some ⟨bo, offo, none⟩) x.order.length capo) (by simp)
  have HX1 : Hid (W.cell? ⟨w.heap.size, 1, none⟩ = some (.slice (some ⟨bo, offo, none⟩) x.order.length capo)) := x1
  have hbaW := below_more hba hbW
  clear hus hbW x1 HSR
  go_wp2_with fail
  go_loopw [8, 23] (fun u i wr => ∃ k : Nat, k ≤ T.length ∧ i = .int .i64 k ∧ Hid (wr.ownsRow W.heap.size 3 1 u (regF RD k 0).length ((regF RD k 0).map (Value.int .i64))) ∧ Below W.heap.size W wr) (fun _ i _ => T.length - (intOf i).toNat)
  case atStart => exact ⟨0, Nat.zero_le _, rfl, World.ownsRow_nil _ _ _ _, Below.refl _ _⟩
  case round =>
    obtain ⟨k, hk, rfl, HOW, hb⟩ := hrel
    by_cases hlt : k < T.length
    · have hkI : (k : Int) < (T.length : Int) := by omega
      go_wp2_with fail
      go_loopw [8, 10] (fun u i wr => ∃ r : Nat, r ≤ 3 ∧ i = .int .i64 r ∧ Hid (wr.ownsRow W.heap.size 3 1 u (regF RD k r).length ((regF RD k r).map (Value.int .i64))) ∧ Below W.heap.size W wr) (fun _ i _ => 3 - (intOf i).toNat)
      case atStart => exact ⟨0, by omega, rfl, HOW.out, hb⟩
      case round =>
        clear HOW hb
        obtain ⟨r, hr3, rfl, hown, hb⟩ := hrel
        have hbw := below_more hbaW hb
        by_cases hr : r < 3
        · have hrI : (r : Int) < 3 := by omega
          have HSE : Hid (EvI E.length (srcG (evtOf k r) E 0 (-1))) := HSRC.out k r
          have HH1 := HH.out k r wr hbw
          have HR1 : Hid (regF RD k (r + 1) = regF RD k r ++ [valN E S E.length (srcG (evtOf k r) E 0 (-1))]) := by show _ = _; rw [regF_step, HRV.out]
          have hlen : (regF RD k r).length ≤ 100 := by rw [regF_len]; omega
          generalize srcG (evtOf k r) E 0 (-1) = sr at HSE HH1 HR1
          have HV1 : Hid (∀ w', Below wr.heap.size wr w' → Calls Try.prog 105 #[.slice aot T.length capt, .slice ao E.length cap, us, .int .i64 sr] w' fun e w'' => e = .returned (.int .i64 (valN E S E.length sr)) ∧ Below w'.heap.size w' w'') := fun w' hb' => HV.out sr us w' HSE.out (below_more hbw hb') (HUS.out.keep (below_more hb hb'))
          generalize valN E S E.length sr = val at HR1 HV1
          generalize regF RD k r = xs at hown HR1 hlen
          go_wp2_with fail
          refine HH1.mono ?_
          rintro e w6 ⟨rfl, hb6⟩
          clear HH1
          go_wp2_with fail
          refine (HV1.out w6 hb6).mono ?_
          rintro e w7 ⟨rfl, hb67⟩
          have hb7 := below_more hb6 hb67
          have HO7 : Hid (w7.ownsRow W.heap.size 3 1 u8 xs.length (xs.map (Value.int .i64))) := own_keep hown.out hb7
          have hb8 := below_more hb hb7
          have hs8 := hb8.size
          clear hb hb7 hb6 hb67
          go_wp2_with (at_builtin; refine append_new _ rfl _ _ 39 rfl W.heap.size 3 i0 (.int .i64 0) 1 8 Try.underlying39 HI.out.1 HI.out.2.1 HI.out.2.2.1 HI.out.2.2.2 rfl (by decide) _ xs.length (xs.map (Value.int .i64)) rfl (HO7.out.alloc _) (some ⟨w7.heap.size, 0, none⟩) 1 1 [.int .i64 val] rfl (fun h => by cases h) rfl (fun ad had => by cases had; exact new_one rfl) (by simp [Value.oneCell']) (by unfold maxLen; omega) (by omega) (by simp; omega) ?_)
          intro u' w9 hown' hgrow _
          have hb9 : Below W.heap.size W w9 := Below.grown (hb8.alloc hs8 _) hgrow (by simp; omega) (fun kk e => (HO7.out.lt kk e).1)
          have HO9 : Hid (w9.ownsRow W.heap.size 3 1 u' (regF RD k (r + 1)).length ((regF RD k (r + 1)).map (Value.int .i64))) := by rw [HR1.out]; exact own_snoc hown'
          clear hgrow hown'
          go_wp2_with fail
          go_roundw
          case measure => simp [intOf]; omega
          case rel => exact ⟨r + 1, by omega, by go_num, HO9.out, hb9⟩
        · have hr2 : r = 3 := by omega
          subst hr2
          have HO1 : Hid (wr.ownsRow W.heap.size 3 1 u8 (regF RD (k + 1) 0).length ((regF RD (k + 1) 0).map (Value.int .i64))) := by rw [regF_next]; exact hown.out
          clear hown
          go_wp2_with fail
          go_roundw
          case measure => simp [intOf]; omega
          case rel => exact ⟨k + 1, by omega, by go_num, HO1.out, hb⟩
    · have hkk : k = T.length := by omega
      have hkI : (T.length : Int) ≤ (k : Int) := by omega
      have HRG : Hid (STA = regF RD k 0 ++ (List.range 3).map LD) := by rw [hkk]; exact HST.out
      have hrgl : (regF RD k 0).length ≤ 100 := by rw [regF_len]; omega
      generalize regF RD k 0 = RG at HOW HRG hrgl
      clear hkk
      have HO0 : Hid (wr.ownsRow W.heap.size 3 1 u8 (RG ++ (List.range 0).map LD).length ((RG ++ (List.range 0).map LD).map (Value.int .i64))) := by
        show wr.ownsRow W.heap.size 3 1 u8 (RG ++ []).length ((RG ++ []).map (Value.int .i64))
        rw [List.append_nil]; exact HOW.out
      have x1 := keep_cell hb HX1.out
      clear HOW
      go_wp2_with fail
      clear x1
      go_loopw [8, 50] (fun u i wr => ∃ j : Nat, j ≤ 3 ∧ i = .int .i64 j ∧ Hid (wr.ownsRow W.heap.size 3 1 u (RG ++ (List.range j).map LD).length ((RG ++ (List.range j).map LD).map (Value.int .i64))) ∧ Below W.heap.size W wr) (fun _ i _ => 3 - (intOf i).toNat)
      case atStart => exact ⟨0, by omega, rfl, HO0.out, hb⟩
      case round =>
        clear HO0 hb
        obtain ⟨j, hj, rfl, hown, hb⟩ := hrel
        have hbw := below_more hbaW hb
        by_cases hj3 : j < 3
        · obtain ⟨l, hl⟩ := get_of_lt (l := x.order) (k := j) (by have := HL3.out.1; omega)
          have hl96 := HL3.out.2 l (List.mem_of_getElem? hl)
          obtain ⟨ul, c0, ivl⟩ := lc_keeps _ _ _ _ _ hbw (HO.out j l hl)
          rw [Nat.mul_one] at c0
          obtain ⟨aol, capl, hvl⟩ := ivl.form
          subst hvl
          have hjI : (j : Int) < (x.order.length : Int) := by have := HL3.out.1; omega
          obtain ⟨hlv, hle⟩ := HLV.out j l hl
          have HLS : Hid (RG ++ (List.range (j + 1)).map LD = (RG ++ (List.range j).map LD) ++ [valN E S E.length (lastI l)]) := by show _ = _; rw [List.range_succ (n := j), List.map_append, ← hlv]; simp
          have hxsl : (RG ++ (List.range j).map LD).length ≤ 200 := by rw [List.length_append, List.length_map, List.length_range]; omega
          have HL1 := HLO.out l (.slice aol l.length capl) wr hl96 ivl
          have HLE : Hid (EvI E.length (lastI l)) := hle
          generalize RG ++ (List.range j).map LD = xs at hown HLS hxsl
          generalize lastI l = la at HLS HL1 HLE
          have HV1 : Hid (∀ w', Below wr.heap.size wr w' → Calls Try.prog 105 #[.slice aot T.length capt, .slice ao E.length cap, us, .int .i64 la] w' fun e w'' => e = .returned (.int .i64 (valN E S E.length la)) ∧ Below w'.heap.size w' w'') := fun w' hb' => HV.out la us w' HLE.out (below_more hbw hb') (HUS.out.keep (below_more hb hb'))
          generalize valN E S E.length la = val at HLS HV1
          clear ivl hl hlv hle
          go_wp2_with fail
          refine HL1.mono ?_
          rintro e w6 ⟨rfl, hb6⟩
          clear HL1
          go_wp2_with fail
          refine (HV1.out w6 hb6).mono ?_
          rintro e w7 ⟨rfl, hb67⟩
          have hb7 := below_more hb6 hb67
          have HO7 : Hid (w7.ownsRow W.heap.size 3 1 u8 xs.length (xs.map (Value.int .i64))) := own_keep hown.out hb7
          have hb8 := below_more hb hb7
          have hs8 := hb8.size
          clear hb hb7 hb6 hb67 c0
          go_wp2_with (at_builtin; refine append_new _ rfl _ _ 39 rfl W.heap.size 3 i0 (.int .i64 0) 1 8 Try.underlying39 HI.out.1 HI.out.2.1 HI.out.2.2.1 HI.out.2.2.2 rfl (by decide) _ xs.length (xs.map (Value.int .i64)) rfl (HO7.out.alloc _) (some ⟨w7.heap.size, 0, none⟩) 1 1 [.int .i64 val] rfl (fun h => by cases h) rfl (fun ad had => by cases had; exact new_one rfl) (by simp [Value.oneCell']) (by unfold maxLen; omega) (by omega) (by simp; omega) ?_)
          intro u' w9 hown' hgrow _
          have hb9 : Below W.heap.size W w9 := Below.grown (hb8.alloc hs8 _) hgrow (by simp; omega) (fun kk e => (HO7.out.lt kk e).1)
          have HO9 : Hid (w9.ownsRow W.heap.size 3 1 u' (RG ++ (List.range (j + 1)).map LD).length ((RG ++ (List.range (j + 1)).map LD).map (Value.int .i64))) := by rw [HLS.out]; exact own_snoc hown'
          clear hgrow hown'
          go_wp2_with fail
          go_roundw
          case measure => simp [intOf]; omega
          case rel => exact ⟨j + 1, by omega, by go_num, HO9.out, hb9⟩
        · have hj2 : j = 3 := by omega
          subst hj2
          have hjI : (x.order.length : Int) ≤ 3 := by have := HL3.out.1; omega
          have hjI2 : ¬ ((3 : Int) < (x.order.length : Int)) := by omega
          go_wp2_with fail
          go_ret
          have hsz := hbaW.size
          exact ⟨_, rfl, by rw [HRG.out]; exact owns_int (own_base hown.out hsz), hbw⟩

end Go.Proofs.Ytomijmikkbhgmab

namespace Go.Proofs.Ytomijmikkbhgmab
open Go.RowKit

theorem i64_and1 (n : Int) : bits .and .i64 n 1 = n % 2 := by
  have h1 : (BitVec.ofInt 64 1).toNat = 2 ^ 1 - 1 := by decide
  have key : (BitVec.ofInt 64 n &&& BitVec.ofInt 64 1).toNat = (n % ((2 ^ 64 : Nat) : Int)).toNat % 2 ^ 1 := by
    rw [BitVec.toNat_and, BitVec.toNat_ofInt, h1, Nat.and_two_pow_sub_one_eq_mod]
  show IntKind.i64.wrap ((BitVec.ofInt 64 n &&& BitVec.ofInt 64 1).toNat : Nat) = n % 2
  rw [key, IntKind.wrap_i64]
  omega

theorem chS_take {ms : List Mt} {β : Nat → Bool} {k : Nat} {m : Mt} (h : ms[k]? = some m) : (chS β ms).take (k + 1) = (chS β ms).take k ++ [pick (β k) m] := by
  rw [List.take_add_one, chS_get ms β k m h]; rfl

theorem pow_small {n : Nat} (h : n ≤ 6) : 2 ^ n ≤ 64 := by
  have : 2 ^ n ≤ 2 ^ 6 := Nat.pow_le_pow_right (by omega) h
  simpa using this

end Go.Proofs.Ytomijmikkbhgmab

namespace Go.Proofs.Ytomijmikkbhgmab
open Go.RowKit

theorem Try.sizeBool : (Try.prog.info? 4).map (·.size) = some 1 := by kernel_rfl

theorem mat_row {w : World} {bl n : Nat} {A : List (Int × Int)} {t : TypeId} (ht : t = 4) (h : w.heap[bl]? = some (.cells ((List.range (n * n)).map fun q => Value.bool (arwB A (q / n) (q % n))).toArray t (0, 0))) : MatAt w bl n A := by
  subst ht
  exact ⟨_, h, by simp, fun i hi => by simp [hi]⟩

set_option maxRecDepth 20000 in
set_option maxHeartbeats 1000000 in
theorem with_any (n : Nat) (hn : n ≤ 96) (_h0 : 0 < n) (A : List (Int × Int)) (p bl : Nat) (x y : Int) (w : World) (h : SetAt w p bl n A) :
    Calls Try.prog 117 #[.pointer (some ⟨p, 0, none⟩), .int .i64 x, .int .i64 y] w fun e w' => ∃ bl', e = .returned (.agg #[.int .i64 n, .slice (some ⟨bl', 0, none⟩) (n * n) (n * n)]) ∧ w.heap.size ≤ bl' ∧ MatAt w' bl' n (A ++ [(x, y)]) ∧ Below w.heap.size w w' := by
  have HS : Hid (SetAt w p bl n A) := h
  obtain ⟨c0, c1, _, _⟩ := h
  have m0 := World.block_lt_of_cell? _ _ c0
  simp only at m0
  go_enter Try.func117, Try.ntmps117
  go_wp2_with fail
  refine (new_any n hn _).mono ?_
  rintro e w2 ⟨rfl, hm2, hb2⟩
  rw [World.size_alloc] at hm2 hb2 ⊢
  have hs2 : w.heap.size + 1 + 1 < w2.heap.size := hm2.lt
  have hbw2 : Below w.heap.size w w2 := (below_alloc _ _).trans (hb2.mono (by omega))
  have d0 : w2.cell? ⟨w.heap.size, 0, none⟩ = some (.int .i64 0) := (hb2.cell (p := ⟨w.heap.size, 0, none⟩) (by simp)).trans (by simp)
  have d1 : w2.cell? ⟨w.heap.size, 1, none⟩ = some (.slice none 0 0) := (hb2.cell (p := ⟨w.heap.size, 1, none⟩) (by simp)).trans (by simp)
  have z0 : w2.frozen? ⟨w.heap.size, 0, none⟩ = false := (hb2.frozen (p := ⟨w.heap.size, 0, none⟩) (by simp)).trans (by simp)
  have z1 : w2.frozen? ⟨w.heap.size, 1, none⟩ = false := (hb2.frozen (p := ⟨w.heap.size, 1, none⟩) (by simp)).trans (by simp)
  have HD : Hid (w2.cell? ⟨w.heap.size, 0, none⟩ = some (.int .i64 0) ∧ w2.cell? ⟨w.heap.size, 1, none⟩ = some (.slice none 0 0) ∧ w2.frozen? ⟨w.heap.size, 0, none⟩ = false ∧ w2.frozen? ⟨w.heap.size, 1, none⟩ = false) := ⟨d0, d1, z0, z1⟩
  clear hb2 c0 c1 d0 d1 z0 z1
  obtain ⟨bl', hbl⟩ : ∃ bl', w.heap.size + 1 + 1 = bl' := ⟨_, rfl⟩
  rw [hbl] at hm2 hs2 ⊢
  have hblw : w.heap.size < bl' := by omega
  clear hbl
  have hba := below_alloc w2 (.cells #[.int .i64 n, .slice (some ⟨bl', 0, none⟩) (n * n) (n * n)] 133)
  obtain ⟨cur, hcur, hcsz, _⟩ := hm2
  have HCUR : Hid ((w2.alloc (.cells #[.int .i64 n, .slice (some ⟨bl', 0, none⟩) (n * n) (n * n)] 133)).heap[bl']? = some (.cells cur 4 (0, 0))) := (hba.block bl' hs2).trans hcur
  obtain ⟨c0, c1, hmat, hne⟩ := (HS.out.keep hbw2).keep hba
  have HMAT : Hid (MatAt (w2.alloc (.cells #[.int .i64 n, .slice (some ⟨bl', 0, none⟩) (n * n) (n * n)] 133)) bl n A) := hmat
  have f0 : (w2.alloc (.cells #[.int .i64 n, .slice (some ⟨bl', 0, none⟩) (n * n) (n * n)] 133)).cell? ⟨w2.heap.size, 0, none⟩ = some (.int .i64 n) := by simp
  have f1 : (w2.alloc (.cells #[.int .i64 n, .slice (some ⟨bl', 0, none⟩) (n * n) (n * n)] 133)).cell? ⟨w2.heap.size, 1, none⟩ = some (.slice (some ⟨bl', 0, none⟩) (n * n) (n * n)) := by simp
  have hbW : Below w.heap.size w (w2.alloc (.cells #[.int .i64 n, .slice (some ⟨bl', 0, none⟩) (n * n) (n * n)] 133)) := below_more hbw2 hba
  have HDW : Hid ((w2.alloc (.cells #[.int .i64 n, .slice (some ⟨bl', 0, none⟩) (n * n) (n * n)] 133)).heap[w.heap.size]? = w2.heap[w.heap.size]?) := hba.block _ (by omega)
  have hsW : w2.heap.size < (w2.alloc (.cells #[.int .i64 n, .slice (some ⟨bl', 0, none⟩) (n * n) (n * n)] 133)).heap.size := by simp
  clear hcur hmat hba hbw2
  go_wp2_with fail
  generalize w2.alloc (.cells #[.int .i64 n, .slice (some ⟨bl', 0, none⟩) (n * n) (n * n)] 133) = W at *
  generalize w2.heap.size = p2 at *
  have HF : Hid (W.cell? ⟨p2, 0, none⟩ = some (.int .i64 n) ∧ W.cell? ⟨p2, 1, none⟩ = some (.slice (some ⟨bl', 0, none⟩) (n * n) (n * n))) := ⟨f0, f1⟩
  refine wp_region_still_tail 6 (by kernel_rfl) (by kernel_rfl) ?_
  simp only [List.take_succ_cons, List.take_zero, List.drop_succ_cons, List.drop_zero]
  repeat still_step
  refine wpStill_nil ?_
  obtain ⟨cs, hcs⟩ : ∃ cs, ((List.range (n * n)).map fun q => Value.bool (arwB A (q / n) (q % n))) = cs := ⟨_, rfl⟩
  have hcl : cs.length = n * n := by rw [← hcs, List.length_map, List.length_range]
  have HN : Hid (cs.length = Nat.min (n * n) (n * n)) := by rw [hcl]; exact (Nat.min_self _).symm
  have HSRC : Hid (∀ (j : Nat) (v : Value), cs[j]? = some v → W.drew.cell? ((⟨bl, 0, none⟩ : Addr).add j) = some v) := fun j v hj => by
    rw [← hcs, List.getElem?_map] at hj
    obtain ⟨q, hq, rfl⟩ := Option.map_eq_some_iff.1 hj
    have hql : j < n * n := by have := (List.getElem?_eq_some_iff.1 hq).1; simpa using this
    have hqj : q = j := by rw [List.getElem?_eq_getElem (by simpa using hql)] at hq; simpa using hq.symm
    subst hqj
    rw [Addr.add_lit, Nat.zero_add]
    exact World.rowIs.cell HMAT.out hql
  have HFIT : Hid (0 + cs.length ≤ cur.size) := by show 0 + cs.length ≤ cur.size; omega
  have HONE : Hid (∀ v ∈ cs, v.oneCell' = true) := fun v hv => by rw [← hcs] at hv; obtain ⟨q, _, rfl⟩ := List.mem_map.1 hv; rfl
  have HMT : Hid (∀ w' : World, w'.heap[bl']? = some (.cells cs.toArray 4 (0, 0)) → MatAt w' bl' n A) := fun w' hw' => mat_row rfl (by rw [hcs]; exact hw')
  have HARR : Hid ((cur.toList.take 0 ++ (cs ++ cur.toList.drop (0 + cs.length))).toArray = cs.toArray) := by
    show _ = _
    rw [List.take_zero, List.nil_append, List.drop_eq_nil_of_le (by simp; omega), List.append_nil]
  clear hcs
  refine wpList_copy_own rfl (.tmp 14) (.tmp 18) 131 131 rfl 4 Try.underlying131 Try.sizeBool bl' 0 (n * n) (n * n) ⟨bl, 0, none⟩ (n * n) (n * n) rfl rfl cur 4 HCUR.out cs HN.out HSRC.out HFIT.out HONE.out ?_
  rw [HARR.out]
  have hoth : ∀ k, k ≠ bl' → (W.drew.setRow bl' cs.toArray).heap[k]? = W.heap[k]? := fun k hk => setRow_other W.drew bl' k _ hk
  have HST : Hid (SetAt (W.drew.setRow bl' cs.toArray) p2 bl' n A) := ⟨cell_heap (hoth p2 (by omega)) HF.out.1, cell_heap (hoth p2 (by omega)) HF.out.2, HMT.out _ (setRow_heap W.drew bl' cur _ _ _ HCUR.out), by omega⟩
  have HON : Hid (Only bl' W (W.drew.setRow bl' cs.toArray)) := ⟨rfl, rfl, rfl, by simp [World.setRow], fun k _ hk => hoth k hk⟩
  clear hoth HMT HARR HONE HFIT HSRC HN HMAT HCUR HF f0 f1 c0 c1
  go_wp2_with fail
  generalize W.drew.setRow bl' cs.toArray = W4 at HST HON ⊢
  refine (add_any n hn A p2 bl' x y W4 HST.out).mono ?_
  rintro e w5 ⟨r5, rfl, hset5, hon5⟩
  have hon : Only bl' W w5 := HON.out.trans hon5
  obtain ⟨s0, s1, hmat5, _⟩ := hset5
  have HMAT : Hid (MatAt w5 bl' n (A ++ [(x, y)])) := hmat5
  have hblk : w5.heap[w.heap.size]? = w2.heap[w.heap.size]? := (hon.block w.heap.size (by have := hbW.size; omega) (by omega)).trans HDW.out
  have d0 := (World.cell?_of_block (w := w2) (a := ⟨w.heap.size, 0, none⟩) hblk).trans HD.out.1
  have d1 := (World.cell?_of_block (w := w2) (a := ⟨w.heap.size, 1, none⟩) hblk).trans HD.out.2.1
  have z0 := (World.frozen?_of_block (w := w2) (a := ⟨w.heap.size, 0, none⟩) hblk).trans HD.out.2.2.1
  have z1 := (World.frozen?_of_block (w := w2) (a := ⟨w.heap.size, 1, none⟩) hblk).trans HD.out.2.2.2
  have hb5 : Below w.heap.size w w5 := hbW.trans (hon.below (by omega) hbW.size)
  clear hmat5 hblk HST HON hon5
  go_wp2_with fail
  refine bodyPost_ret (v := .agg #[.int .i64 n, .slice (some ⟨bl', 0, none⟩) (n * n) (n * n)]) (by simp [results, Try.results117, go_sem, *]) rfl ⟨bl', rfl, by omega, ?_, (hb5.setCell (Nat.le_refl _) _).setCell (Nat.le_refl _) _⟩
  exact World.rowIs.setOther (World.rowIs.setOther HMAT.out (by simp; omega) _) (by simp; omega) _

end Go.Proofs.Ytomijmikkbhgmab
