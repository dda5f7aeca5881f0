import Derived.Test.YtomijmikkbhgmaaMa
import Derived.Test.YtomijmikkbhgmaaLt
import Derived.Test.YtomijmikkbhgmaaT16
import Derived.Test.YtomijmikkbhgmaaT17
import Derived.Test.YtomijmikkbhgmaaT18
import Derived.Test.YtomijmikkbhgmaaPe
import Derived.Test.YtomijmikkbhgmaaPf
namespace Go.Proofs.Ytomijmikkbhgmaa
open Go.RowKit

/-- What is said of a test that may be. -/
structure Num (T : List (List Ins)) (c : List Atm) (E : List Evt) (S : Nat) : Prop where
  h2 : T.length ≤ 4
  hL : lensB T = true
  locs : ∀ l ∈ T, ∀ x ∈ l, locB x.loc = true
  elocs : ∀ y ∈ E, locB y.loc = true
  evs : evsR T c = E
  siz : sizR T c = S
  rem : remL (tly T) = S
  le : S ≤ 2000
  el : E.length ≤ 96
  ok : ∀ k, k < S → cErr T c (k : Int) = 0 ∧ cExe T c (k : Int) = exN E k
  low : cErr T c (-1) = 6
  high : cErr T c (S : Int) = 6
  next : ∀ k, k + 1 < S → lx (plc (exN E k)) (plc (exN E (k + 1))) = true

theorem num_of {T : List (List Ins)} {c : List Atm} (h : ((chk T c).1 == 0) = true) : Num T c (evsT T 0) (sizeN (evsT T 0)) := by
  obtain ⟨h2, hL, _⟩ := sizeB_parts (chk_zero h)
  have hN := chk_many_no h
  have hl := chk_locs h
  have he := evsT_locs (i := 0) hl
  have hel := evsT_len T 0 hL
  refine ⟨h2, hL, hl, he, ?_, ?_, (sizeN_remL T he).symm, hN, by omega, fun k hk => ⟨?_, ?_⟩, ?_, ?_, exN_next _⟩
  · unfold evsR; rw [h]; rfl
  · unfold sizR; rw [h]; exact cap2_of_le (by omega)
  · unfold cErr; rw [h, if_pos rfl, if_pos (by omega)]
  · unfold cExe; rw [h, if_pos rfl, if_pos (by omega)]; simp
  · unfold cErr; rw [h, if_pos rfl, if_neg (by omega)]
  · unfold cErr; rw [h, if_pos rfl, if_neg (by omega)]

theorem plc_len {E : List Evt} (hE : E.length ≤ 96) (k : Nat) : (plc (exN E k)).length ≤ 100000 := by
  have h1 := (exN_drawn E k).flen hE
  have h2 := (exN_drawn E k).len hE
  unfold plc
  rw [List.length_append]; omega

theorem tly_le {T : List (List Ins)} (h2 : T.length ≤ 4) (hL : lensB T = true) : ∀ p ∈ tly T, p.1 ≤ 96 ∧ p.2 ≤ 96 := by
  intro p hp
  have h0 := cw_le 0 T hL; have h1 := cw_le 1 T hL; have h3 := cw_le 2 T hL
  unfold tly at hp
  simp only [List.mem_cons, List.not_mem_nil, or_false] at hp
  rcases hp with rfl | rfl | rfl <;> simp only <;> omega

theorem int_nil (w : World) : IntAt w (.slice none 0 0) [] := ⟨none, 0, 0, 0, rfl, fun h => absurd rfl h, fun _ => ⟨rfl, rfl⟩, fun k x h => by simp at h⟩

set_option maxRecDepth 20000 in
set_option maxHeartbeats 2000000 in
theorem numbered_any (T : List (List Ins)) (fa : Bool) (c : List Atm) (v vt vc : Value) (w : World) (h : TestAt w v T fa c vt vc) :
    Calls Try.prog 7 #[v] w fun e w' => e = .returned (.bool true) ∧ Below w.heap.size w w' := by
  have HT : Hid (TestAt w v T fa c vt vc) := h
  obtain ⟨hv, _, _⟩ := h
  subst hv
  have HZ : Hid (((chk T c).1 == 0) = true → Num T c (evsT T 0) (sizeN (evsT T 0))) := num_of
  have HZ0 : Hid (((chk T c).1 == 0) = false → sizR T c = 0) := fun h => by unfold sizR; rw [h]; rfl
  generalize hq : chk T c = q at HZ HZ0
  have HQ : Hid (chk T c = q) := hq
  generalize hs : sizR T c = s at HZ0
  have HS : Hid (sizR T c = s) := hs
  clear hq hs
  go_enter Try.func7, Try.ntmps7
  go_wp2_with fail
  refine (asked_any T fa c _ vt vc _ (HT.out.keep (below_alloc _ _))).mono ?_
  rw [HQ.out]
  rintro e w1 ⟨rfl, hb1⟩
  have e0 := keep_cell hb1 (b := w.heap.size) (off := 0) (u := vt) (by simp)
  have e1 := keep_cell hb1 (b := w.heap.size) (off := 1) (u := .bool fa) (by simp)
  have e2 := keep_cell hb1 (b := w.heap.size) (off := 2) (u := vc) (by simp)
  have hbw1 := below_more (below_alloc _ _) hb1
  clear hb1
  go_wp2_with fail
  refine (copy_any T fa c _ vt vc _ (HT.out.keep hbw1)).mono ?_
  rintro e w2 ⟨vt2, vc2, rfl, ht2, hb2⟩
  replace e0 := keep_cell hb2 e0
  replace e1 := keep_cell hb2 e1
  replace e2 := keep_cell hb2 e2
  have hbw2 := below_more hbw1 hb2
  clear hb2 hbw1
  go_wp2_with fail
  refine (sizeP_any T fa c _ vt2 vc2 _ ht2).mono ?_
  rw [HQ.out, HS.out]
  rintro e w3 ⟨rfl, hb3⟩
  replace e0 := keep_cell hb3 e0
  replace e1 := keep_cell hb3 e1
  replace e2 := keep_cell hb3 e2
  have hbw3 := below_more hbw2 hb3
  clear hb3 hbw2 ht2
  have k0 : (q.1 != q.1) = false := by simp
  cases hz : q.1 == 0
  · have hz2 : (q.1 != 0) = true := by simp [bne, hz]
    have hs0 := HZ0.out hz
    subst hs0
    go_wp2_with fail
    go_ret
    exact ⟨rfl, hbw3⟩
  · have hz2 : (q.1 != 0) = false := by simp [bne, hz]
    have hq0 : q.1 = 0 := by simpa using hz
    have hnum := HZ.out hz
    generalize evsT T 0 = E at hnum
    generalize sizeN E = S at hnum
    have HN : Hid (Num T c E S) := hnum
    have hsS : s = S := HS.out.symm.trans HN.out.siz
    subst hsS
    have hS := HN.out.le
    have HQ0 : Hid (q.1 = 0) := hq0
    clear HZ HZ0 hnum hq0
    go_wp2_with fail
    refine (tallied_any T fa c _ vt vc _ (HT.out.keep hbw3) HN.out.h2 HN.out.hL HN.out.locs).mono ?_
    rintro e w4 ⟨vw, vr, rfl, hvw, hvr, hb4⟩
    replace e0 := keep_cell hb4 e0
    replace e1 := keep_cell hb4 e1
    replace e2 := keep_cell hb4 e2
    have hbw4 := below_more hbw3 hb4
    have HVW : Hid (IntAt w4 vw ((tly T).map fun p => (p.1 : Int)) ∧ IntAt w4 vr ((tly T).map fun p => (p.2 : Int))) := ⟨hvw, hvr⟩
    obtain ⟨ao4, cap4, hf4⟩ := hvw.form
    obtain ⟨ao5, cap5, hf5⟩ := hvr.form
    subst hf4 hf5
    clear hb4 hbw3 hvw hvr
    generalize ((tly T).map fun p => (p.1 : Int)).length = n4 at HVW ⊢
    generalize ((tly T).map fun p => (p.2 : Int)).length = n5 at HVW ⊢
    go_wp2_with fail
    refine (ways_any (tly T) rfl (by rw [HN.out.rem]; exact hS) (tly_le HN.out.h2 HN.out.hL) _ _ _ (HVW.out.1.keep (below_alloc _ _)) (HVW.out.2.keep (below_alloc _ _))).mono ?_
    rw [HN.out.rem]
    rintro e w5 ⟨rfl, hb5⟩
    have k5 := below_more (below_alloc w4 _) hb5
    replace e0 := keep_cell k5 e0
    replace e1 := keep_cell k5 e1
    replace e2 := keep_cell k5 e2
    have hbw5 := below_more hbw4 k5
    clear hb5 k5 hbw4 HVW
    go_wp2_with fail
    refine (copy_any T fa c _ vt vc _ (HT.out.keep hbw5)).mono ?_
    rintro e w6 ⟨vt6, vc6, rfl, ht6, hb6⟩
    replace e0 := keep_cell hb6 e0
    replace e1 := keep_cell hb6 e1
    replace e2 := keep_cell hb6 e2
    have hbw6 := below_more hbw5 hb6
    clear hb6 hbw5
    go_wp2_with fail
    refine (eventsP_any T fa c _ vt6 vc6 _ ht6).mono ?_
    rw [HQ.out, HN.out.evs]
    rintro e w7 ⟨lv, rfl, hlv, hb7⟩
    replace e0 := keep_cell hb7 e0
    replace e1 := keep_cell hb7 e1
    replace e2 := keep_cell hb7 e2
    have hbw7 := below_more hbw6 hb7
    have HLV : Hid (Ev4At w7 lv E) := hlv
    have HT7 : Hid (TestAt w7 (.agg #[vt, .bool fa, vc]) T fa c vt vc) := HT.out.keep hbw7
    have HE7 : Hid (w7.cell? ⟨w.heap.size, 0, none⟩ = some vt ∧ w7.cell? ⟨w.heap.size, 1, none⟩ = some (.bool fa) ∧ w7.cell? ⟨w.heap.size, 2, none⟩ = some vc) := ⟨e0, e1, e2⟩
    clear hb7 hbw6 ht6 hlv
    have k1 : ((s : Int) != (s : Int)) = false := by simp
    go_wp2_with fail
    clear e0 e1 e2
    go_loopw [10, 11] (fun bv i wr => ∃ k : Nat, k ≤ s ∧ i = .int .i64 k ∧ Hid (∃ L, IntAt wr bv L ∧ (0 < k → L = plc (exN E (k - 1)))) ∧ Below w7.heap.size w7 wr) (fun _ i _ => s - (intOf i).toNat)
    case atStart => exact ⟨0, Nat.zero_le _, rfl, ⟨[], int_nil _, fun h => by omega⟩, Below.refl _ _⟩
    case round =>
      obtain ⟨k, hk, rfl, hbv, hb⟩ := hrel
      obtain ⟨e0, e1, e2⟩ := HE7.out
      replace e0 := keep_cell hb e0
      replace e1 := keep_cell hb e1
      replace e2 := keep_cell hb e2
      by_cases hlt : k < s
      · have hkI : (k : Int) < (s : Int) := by omega
        go_wp2_with fail
        refine (copy_any T fa c _ vt vc _ (HT7.out.keep hb)).mono ?_
        rintro e w8 ⟨vt8, vc8, rfl, ht8, hb8⟩
        have hbw8 := below_more hb hb8
        go_wp2_with fail
        refine (candP_any T fa c _ vt8 vc8 (k : Int) _ ht8).mono ?_
        rw [(HN.out.ok k hlt).1, (HN.out.ok k hlt).2]
        rintro e w9 ⟨vf, vo, rfl, hx9, hb9⟩
        have hb89 := below_more hb8 hb9
        have hbw9 := below_more hb hb89
        have HBV : Hid (∃ L, IntAt w9 u10 L ∧ (0 < k → L = plc (exN E (k - 1)))) := by
          obtain ⟨L, h1, h2⟩ := hbv.out
          exact ⟨L, h1.keep hb89, h2⟩
        obtain ⟨aof, cf, hff⟩ := hx9.f.form
        obtain ⟨aoo, bo, oo, co, hso⟩ := hx9.o
        have hfo := hso.hv
        subst hff hfo
        have HX : Hid (ExeAt w9 (.slice aof (exN E k).from'.length cf) (.slice aoo (exN E k).order.length co) (exN E k)) := hx9
        generalize (exN E k).from'.length = l1 at HX ⊢
        generalize (exN E k).order.length = l2 at HX ⊢
        clear hx9 hso hb8 hb9 hb89 hbw8 ht8 e0 e1 e2 hbv hb
        go_wp2_with fail
        have ba : Below w9.heap.size w9 (w9.alloc (.cells #[.slice aof l1 cf, .slice aoo l2 co] 40)) := below_alloc _ _
        refine (drawn_any E HN.out.el HN.out.elocs (exN E k) (exN_drawn E k) lv _ _ _ (HLV.out.keep (below_more hbw9 ba)) (HX.out.keep ba)).mono ?_
        rintro e w10 ⟨rfl, hb10⟩
        have b10 := below_more ba hb10
        have e3 := keep_cell hb10 (b := w9.heap.size) (off := 0) (u := .slice aof l1 cf) (by simp)
        have e4 := keep_cell hb10 (b := w9.heap.size) (off := 1) (u := .slice aoo l2 co) (by simp)
        have hbw10 := below_more hbw9 b10
        have HX10 : Hid (ExeAt w10 (.slice aof l1 cf) (.slice aoo l2 co) (exN E k)) := HX.out.keep b10
        have HBV10 : Hid (∃ L, IntAt w10 u10 L ∧ (0 < k → L = plc (exN E (k - 1)))) := by
          obtain ⟨L, h1, h2⟩ := HBV.out
          exact ⟨L, h1.keep b10, h2⟩
        clear hb10 b10 ba HX HBV hbw9
        go_wp2_with fail
        refine (place_any (exN E k) (by have := (exN_drawn E k).flen HN.out.el; omega) (by have := ((exN_drawn E k).len HN.out.el).1; omega) (fun y hy => by have := ((exN_drawn E k).len HN.out.el).2.2 y hy; omega) _ _ _ HX10.out).mono ?_
        rintro e w11 ⟨pv, rfl, hpv, hb11⟩
        have hbw11 := below_more hbw10 hb11
        have HPV : Hid (IntAt w11 pv (plc (exN E k))) := hpv
        have HBV11 : Hid (∃ L, IntAt w11 u10 L ∧ (0 < k → L = plc (exN E (k - 1)))) := by
          obtain ⟨L, h1, h2⟩ := HBV10.out
          exact ⟨L, h1.keep hb11, h2⟩
        clear hb11 hpv HBV10 HX10 hbw10 e3 e4
        by_cases hk0 : k = 0
        · subst hk0
          go_wp2_with fail
          go_roundw
          case measure => simp [intOf]; omega
          case rel => exact ⟨1, by omega, by go_num, ⟨_, HPV.out, fun _ => rfl⟩, hbw11⟩
        · have hkI0 : (0 : Int) < (k : Int) := by omega
          obtain ⟨L, hL, hLe⟩ := HBV11.out
          have hLL := hLe (by omega)
          subst hLL
          have HLS : Hid (IntAt w11 u10 (plc (exN E (k - 1)))) := hL
          have HLX : Hid (lx (plc (exN E (k - 1))) (plc (exN E k)) = true) := by
            have := HN.out.next (k - 1) (by omega)
            rw [show k - 1 + 1 = k by omega] at this
            exact this
          clear hL hLe HBV11
          go_wp2_with fail
          refine (less_any _ _ (plc_len HN.out.el _) (plc_len HN.out.el _) HLX.out _ _ _ HLS.out HPV.out).mono ?_
          rintro e w12 ⟨rfl, hb12⟩
          have hbw12 := below_more hbw11 hb12
          have HPV12 : Hid (IntAt w12 pv (plc (exN E k))) := HPV.out.keep hb12
          clear hb12 HPV HLS
          go_wp2_with fail
          go_roundw
          case measure => simp [intOf]; omega
          case rel => exact ⟨k + 1, by omega, by go_num, ⟨_, HPV12.out, fun _ => by rw [Nat.add_sub_cancel]⟩, hbw12⟩
      · have hkI : (s : Int) ≤ (k : Int) := by omega
        clear hbv
        go_wp2_with fail
        refine (copy_any T fa c _ vt vc _ (HT7.out.keep hb)).mono ?_
        rintro e w8 ⟨vt8, vc8, rfl, ht8, hb8⟩
        go_wp2_with fail
        refine (candP_any T fa c _ vt8 vc8 (-1) _ ht8).mono ?_
        rw [HN.out.low]
        generalize cExe T c (-1) = x9
        rintro e w9 ⟨vf, vo, rfl, hx9, hb9⟩
        have hb89 := below_more hb8 hb9
        replace e0 := keep_cell hb89 e0
        replace e1 := keep_cell hb89 e1
        replace e2 := keep_cell hb89 e2
        have hbw9 := below_more hb hb89
        obtain ⟨aof, cf, hff⟩ := hx9.f.form
        obtain ⟨aoo, bo, oo, co, hso⟩ := hx9.o
        have hfo := hso.hv
        subst hff hfo
        have m9 := World.block_lt_of_cell? _ _ e0
        generalize x9.from'.length = l1
        generalize x9.order.length = l2
        clear hb8 hb9 hb89 ht8 hx9 hso hb
        go_wp2_with fail
        have ba : Below w9.heap.size w9 (w9.alloc (.cells #[.slice aof l1 cf, .slice aoo l2 co] 40)) := below_alloc _ _
        have hbwa := below_more hbw9 ba
        refine (copy_any T fa c _ vt vc _ (HT7.out.keep hbwa)).mono ?_
        rintro e w10 ⟨vt10, vc10, rfl, ht10, hb10⟩
        go_wp2_with fail
        refine (candP_any T fa c _ vt10 vc10 (s : Int) _ ht10).mono ?_
        rw [HN.out.high]
        generalize cExe T c (s : Int) = x11
        rintro e w11 ⟨vf2, vo2, rfl, hx11, hb11⟩
        have hbw11 := below_more hbwa (below_more hb10 hb11)
        obtain ⟨aof2, cf2, hff⟩ := hx11.f.form
        obtain ⟨aoo2, bo2, oo2, co2, hso⟩ := hx11.o
        have hfo := hso.hv
        subst hff hfo
        generalize x11.from'.length = l3
        generalize x11.order.length = l4
        clear hb10 hb11 ht10 hx11 hso e0 e1 e2 hbwa ba
        go_wp2_with fail
        go_ret
        exact ⟨rfl, below_more hbw7 (hbw11.alloc hbw11.size _)⟩

end Go.Proofs.Ytomijmikkbhgmaa
