import Derived.Test.YtomijmikkbhgmaaGreatT49
import Derived.Test.YtomijmikkbhgmaaGreatT50
namespace Go.Proofs.YtomijmikkbhgmaaGreat
open Go.RowKit

def gdS (n : Nat) (c : List Atm) (S : List (List Int)) : Nat := (S.filter fun s => metB n c s).length
def bdS (n : Nat) (c : List Atm) (S : List (List Int)) : Nat := (S.filter fun s => !metB n c s).length
theorem gdS_yes {n : Nat} {c : List Atm} {l : List Int} (h : metB n c l = true) (S : List (List Int)) : gdS n c (S ++ [l]) = gdS n c S + 1 ∧ bdS n c (S ++ [l]) = bdS n c S := by
  unfold gdS bdS; simp [h]
theorem gdS_no {n : Nat} {c : List Atm} {l : List Int} (h : metB n c l = false) (S : List (List Int)) : gdS n c (S ++ [l]) = gdS n c S ∧ bdS n c (S ++ [l]) = bdS n c S + 1 := by
  unfold gdS bdS; simp [h]
theorem gdS_le (n : Nat) (c : List Atm) (S : List (List Int)) : gdS n c S ≤ S.length ∧ bdS n c S ≤ S.length := ⟨List.length_filter_le _ _, List.length_filter_le _ _⟩

/-- What is needed of cases. -/
theorem cas_parts {T : List (List Ins)} {E : List Evt} {B : Nat} {w : World} {b off n : Nat} (h : CasC T E B w b off n) : ∃ a1 n1 p1 a2 n2 p2 a3 p3, w.cell? ⟨b, off, none⟩ = some (.int .i64 n) ∧ w.cell? ⟨b, off + 1, none⟩ = some (.slice a1 n1 p1) ∧ w.cell? ⟨b, off + 2, none⟩ = some (.slice a2 n2 p2) ∧ w.cell? ⟨b, off + 3, none⟩ = some (.slice a3 (stX T E (exN E n)).length p3) ∧ StabB T E B w (.slice a1 n1 p1) (.slice a2 n2 p2) (.slice a3 (stX T E (exN E n)).length p3) n := by
  obtain ⟨vf, vo, u, h1, h2, h3, h4, h56⟩ := h
  obtain ⟨h5, h6⟩ := h56.now
  obtain ⟨a1, p1, e1⟩ := h5.f.form
  obtain ⟨a2, b2, o2, p2, hs2⟩ := h5.o
  have e2 := hs2.hv
  obtain ⟨a3, p3, e3⟩ := h6.form
  subst e1 e2 e3
  exact ⟨a1, _, p1, a2, _, p2, a3, p3, h1, h2, h3, h4, h56⟩

set_option maxRecDepth 20000 in
set_option maxHeartbeats 4000000 in
theorem verdictOf_any (T : List (List Ins)) (fa : Bool) (c : List Atm) (hz : ((chk T c).1 == 0) = true) (al : Nat → Bool) (hal : Als T (evsT T 0) al) (vt vc v : Value) (w : World) (h : TestAt w (.agg #[vt, .bool fa, vc]) T fa c vt vc) (hv : Ev4Cap w v (evsT T 0)) :
    Calls Tryz.prog 49 #[.agg #[vt, .bool fa, vc], v] w fun e w' => e = .returned (repV (gdN T.length c (optL al T (evsT T 0) (sizeN (evsT T 0)))) (bdN T.length c (optL al T (evsT T 0) (sizeN (evsT T 0)))) fa) ∧ Below w.heap.size w w' := by
  have HCS : Hid (∀ w', Below w.heap.size w w' → Calls Tryz.prog 85 #[vt, v] w' fun e w'' => ∃ u, e = .returned u ∧ CasAt T (evsT T 0) w'.heap.size w'' u (casN al (sizeN (evsT T 0))) ∧ Below w'.heap.size w' w'') := fun w' hb => cases_any T c hz al hal vt v w' (h.ht.keep hb) (hv.keep hb)
  have hT4 := (fits_of hz).short.t4
  have hAt := chk_atms hz
  have hN := chk_many_no hz
  have hC2 : (casN al (sizeN (evsT T 0))).length ≤ 2000 := Nat.le_trans (casN_len _ _) hN
  have HHD : Hid (∀ (s : List Int) (vs : Value) (w' : World), s.length = 3 * T.length + 3 → Below w.heap.size w w' → IntAt w' vs s → Calls Tryz.prog 95 #[.agg #[vt, .bool fa, vc], vs] w' fun e w'' => e = .returned (.bool (metB T.length c s)) ∧ Below w'.heap.size w' w'') := fun s vs w' hs hb hi => holdsP_any T hT4 fa c hAt vt vc s hs vs w' (h.keep hb) hi
  generalize hst : (fun n => stX T (evsT T 0) (exN (evsT T 0) n)) = st
  have hst' : ∀ n, stX T (evsT T 0) (exN (evsT T 0) n) = st n := fun n => by rw [← hst]
  have HGB : Hid (gdN T.length c (optL al T (evsT T 0) (sizeN (evsT T 0))) = gdS T.length c ((casN al (sizeN (evsT T 0))).map st) ∧ bdN T.length c (optL al T (evsT T 0) (sizeN (evsT T 0))) = bdS T.length c ((casN al (sizeN (evsT T 0))).map st)) := by
    unfold gdN bdN gdS bdS
    rw [casN_states, hst]
    exact ⟨rfl, rfl⟩
  have HSL : Hid (∀ n, (st n).length = 3 * T.length + 3) := fun n => by rw [← hst']; exact stX_len _ _ _
  have HKN : Hid (∀ B w' b off n, CasC T (evsT T 0) B w' b off n → ∃ a1 n1 p1 a2 n2 p2 a3 p3, w'.cell? ⟨b, off, none⟩ = some (.int .i64 n) ∧ w'.cell? ⟨b, off + 1, none⟩ = some (.slice a1 n1 p1) ∧ w'.cell? ⟨b, off + 2, none⟩ = some (.slice a2 n2 p2) ∧ w'.cell? ⟨b, off + 3, none⟩ = some (.slice a3 (st n).length p3) ∧ IntAt w' (.slice a3 (st n).length p3) (st n)) := fun B w' b off n hc => by
    obtain ⟨a1, n1, p1, a2, n2, p2, a3, p3, k1, k2, k3, k4, k5⟩ := cas_parts hc
    have k6 := k5.now.2
    rw [hst'] at k4 k6
    exact ⟨a1, n1, p1, a2, n2, p2, a3, p3, k1, k2, k3, k4, k6⟩
  generalize gdN T.length c (optL al T (evsT T 0) (sizeN (evsT T 0))) = G at HGB ⊢
  generalize bdN T.length c (optL al T (evsT T 0) (sizeN (evsT T 0))) = Bd at HGB ⊢
  obtain ⟨_, aoT, bT, offT, capT, hvT, _⟩ := h.ht
  obtain ⟨hc0, aoc, bc, offc, capc, hsc⟩ := h.hc
  have hcv := hsc.hv
  obtain ⟨ao, b, off, cap, ⟨hv1, _, _, _⟩, _⟩ := hv
  subst hv1 hvT hcv
  clear hz hal hN hst hst' h hsc hAt
  generalize evsT T 0 = E at *
  generalize casN al (sizeN E) = C at *
  have HTK : Hid (∀ (k n : Nat), C[k]? = some n → (C.map st).take (k + 1) = (C.map st).take k ++ [st n]) := fun k n hk => by rw [List.take_add_one, List.getElem?_map, hk]; rfl
  have HGL : Hid (∀ k, gdS T.length c ((C.map st).take k) ≤ 2000 ∧ bdS T.length c ((C.map st).take k) ≤ 2000) := fun k => by
    have h1 := gdS_le T.length c ((C.map st).take k)
    have h3 : ((C.map st).take k).length ≤ 2000 := by rw [List.length_take, List.length_map]; omega
    exact ⟨by omega, by omega⟩
  go_enter Tryz.func49, Tryz.ntmps49
  go_wp2_with fail
  have hba := below_two w (.cells #[.slice aoT T.length capT, .bool fa, .slice aoc c.length capc] 25) (.cells #[.int .i64 0, .int .i64 0, .int .i64 0, .bool false] 60)
  refine (HCS.out _ hba).mono ?_
  rintro e w3 ⟨uc, rfl, hcs, hb3⟩
  have hbw3 := below_more hba hb3
  have t0 := keep_cell hb3 (b := w.heap.size) (off := 0) (u := .slice aoT T.length capT) (by simp)
  have t1 := keep_cell hb3 (b := w.heap.size) (off := 1) (u := .bool fa) (by simp)
  have t2 := keep_cell hb3 (b := w.heap.size) (off := 2) (u := .slice aoc c.length capc) (by simp)
  have HR3 : Hid (RepC w3 (w.heap.size + 1) 0 0 0 false) := by
    refine RepC.keep (w := (w.alloc (.cells #[.slice aoT T.length capT, .bool fa, .slice aoc c.length capc] 25)).alloc (.cells #[.int .i64 0, .int .i64 0, .int .i64 0, .bool false] 60)) ⟨?_, ?_, ?_, ?_, ?_, ?_, ?_, ?_⟩ hb3 <;> simp
  obtain ⟨aoC, bC, offC, capC, hvC, haC, _, hcC⟩ := hcs
  subst hvC
  have HCC : Hid (∀ (k n : Nat), C[k]? = some n → ∃ a1 n1 p1 a2 n2 p2 a3 p3, w3.cell? ⟨bC, offC + k * 4, none⟩ = some (.int .i64 n) ∧ w3.cell? ⟨bC, offC + k * 4 + 1, none⟩ = some (.slice a1 n1 p1) ∧ w3.cell? ⟨bC, offC + k * 4 + 2, none⟩ = some (.slice a2 n2 p2) ∧ w3.cell? ⟨bC, offC + k * 4 + 3, none⟩ = some (.slice a3 (st n).length p3) ∧ IntAt w3 (.slice a3 (st n).length p3) (st n)) := fun k n hk => HKN.out _ _ _ _ _ (hcC k n hk)
  have HK : Hid (∀ w', Below w3.heap.size w3 w' → w'.cell? ⟨w.heap.size, 0, none⟩ = some (.slice aoT T.length capT) ∧ w'.cell? ⟨w.heap.size, 1, none⟩ = some (.bool fa) ∧ w'.cell? ⟨w.heap.size, 2, none⟩ = some (.slice aoc c.length capc)) := fun w' hb => ⟨keep_cell hb t0, keep_cell hb t1, keep_cell hb t2⟩
  clear hcC HCS HKN t0 t1 t2 hb3 hba
  go_wp2_with fail
  go_loopw [5, 6, 15] (fun x y i wr => ∃ k : Nat, k ≤ C.length ∧ i = .int .i64 k ∧ x = .int .i64 ((gdS T.length c ((C.map st).take k) : Nat) : Int) ∧ y = .int .i64 ((bdS T.length c ((C.map st).take k) : Nat) : Int) ∧ Below w3.heap.size w3 wr) (fun _ _ i _ => C.length - (intOf i).toNat)
  case atStart => exact ⟨0, Nat.zero_le _, rfl, rfl, rfl, Below.refl _ _⟩
  case round =>
    obtain ⟨k, hk, rfl, rfl, rfl, hb⟩ := hrel
    obtain ⟨hg2, hb2⟩ := HGL.out k
    have hbw := below_more hbw3 hb
    obtain ⟨t0, t1, t2⟩ := HK.out wr hb
    by_cases hlt : k < C.length
    · obtain ⟨n, hn⟩ := get_of_lt hlt
      obtain rfl := haC (ne_nil hlt)
      obtain ⟨a1, n1, p1, a2, n2, p2, a3, p3, c0, c1, c2, c3, hus⟩ := HCC.out k n hn
      have htk := HTK.out k n hn
      have HYES : Hid (metB T.length c (st n) = true → gdS T.length c ((C.map st).take (k + 1)) = gdS T.length c ((C.map st).take k) + 1 ∧ bdS T.length c ((C.map st).take (k + 1)) = bdS T.length c ((C.map st).take k)) := fun hm => by rw [htk]; exact gdS_yes hm _
      have HNO : Hid (metB T.length c (st n) = false → gdS T.length c ((C.map st).take (k + 1)) = gdS T.length c ((C.map st).take k) ∧ bdS T.length c ((C.map st).take (k + 1)) = bdS T.length c ((C.map st).take k) + 1) := fun hm => by rw [htk]; exact gdS_no hm _
      have HH1 : Hid (∀ w', Below wr.heap.size wr w' → Calls Tryz.prog 95 #[.agg #[.slice aoT T.length capT, .bool fa, .slice aoc c.length capc], .slice a3 (st n).length p3] w' fun e w'' => e = .returned (.bool (metB T.length c (st n))) ∧ Below w'.heap.size w' w'') := fun w' hb' => HHD.out (st n) _ w' (HSL.out n) (below_more hbw hb') (hus.keep (below_more hb hb'))
      generalize metB T.length c (st n) = mt at HYES HNO HH1
      have d0 := keep_cell hb c0
      have d1 := keep_cell hb c1
      have d2 := keep_cell hb c2
      have d3 := keep_cell hb c3
      have hkI : (k : Int) < (C.length : Int) := by omega
      generalize (st n).length = ln at *
      generalize gdS T.length c ((C.map st).take k) = g at *
      generalize bdS T.length c ((C.map st).take k) = bd at *
      clear hus htk c0 c1 c2 c3 hn
      have hm0 := World.block_lt_of_cell? _ _ t0
      simp only at hm0
      go_wp2_with fail
      have hba2 := below_alloc wr (.cells #[.int .i64 n, .slice a1 n1 p1, .slice a2 n2 p2, .slice a3 ln p3] 96)
      refine (HH1.out _ hba2).mono ?_
      rintro e w5 ⟨rfl, hb5⟩
      have hb35 := below_more (below_more hb hba2) hb5
      clear d0 d1 d2 d3 t0 t1 t2 hb5 hba2 HH1
      cases mt
      · obtain ⟨e1, e2⟩ := HNO.out rfl
        have HE : Hid (gdS T.length c ((C.map st).take (k + 1)) = g ∧ bdS T.length c ((C.map st).take (k + 1)) = bd + 1) := ⟨e1, e2⟩
        have hwr : IntKind.i64.wrap ((bd : Int) + 1) = ((bd + 1 : Nat) : Int) := by rw [IntKind.wrap_i64]; omega
        clear e1 e2 HYES HNO
        go_wp2_with fail
        go_roundw
        case measure => simp [intOf]; omega
        case rel => exact ⟨k + 1, by omega, by go_num, by rw [HE.out.1], by rw [HE.out.2]; go_num, hb35⟩
      · obtain ⟨e1, e2⟩ := HYES.out rfl
        have HE : Hid (gdS T.length c ((C.map st).take (k + 1)) = g + 1 ∧ bdS T.length c ((C.map st).take (k + 1)) = bd) := ⟨e1, e2⟩
        have hwr : IntKind.i64.wrap ((g : Int) + 1) = ((g + 1 : Nat) : Int) := by rw [IntKind.wrap_i64]; omega
        clear e1 e2 HYES HNO
        go_wp2_with fail
        go_roundw
        case measure => simp [intOf]; omega
        case rel => exact ⟨k + 1, by omega, by go_num, by rw [HE.out.1]; go_num, by rw [HE.out.2], hb35⟩
    · have htk : (C.map st).take k = C.map st := List.take_of_length_le (by rw [List.length_map]; omega)
      rw [htk] at hg2 hb2
      rw [htk]
      have hkI : (C.length : Int) ≤ (k : Int) := by omega
      obtain ⟨e1, e2⟩ := HGB.out
      rw [← e1, ← e2]
      rw [← e1] at hg2
      rw [← e2] at hb2
      have HNM : Hid (∀ w', Calls Tryz.prog 96 #[.int .i64 G, .int .i64 Bd] w' fun e w'' => e = .returned (.int .i64 (if G == 0 then 0 else if Bd == 0 then 2 else 1)) ∧ Below w'.heap.size w' w'') := fun w' => named_any G Bd w'
      have HRP : Hid (repV G Bd fa = .agg #[.int .i64 (if G == 0 then 0 else if Bd == 0 then 2 else 1), .int .i64 G, .int .i64 Bd, .bool (if fa then Bd == 0 else decide (0 < G))]) := rfl
      generalize (if G == 0 then (0 : Int) else if Bd == 0 then 2 else 1) = nm at HNM HRP
      obtain ⟨r0, r1, r2, r3, s0, s1, s2, s3⟩ := HR3.out.keep hb
      have HRB : Hid (RepC wr (w.heap.size + 1) 0 0 0 false) := HR3.out.keep hb
      clear htk e1 e2 r0 r1 r2 r3 s0 s1 s2 s3 t0 t2
      go_wp2_with fail
      refine (HNM.out wr).mono ?_
      rintro e w5 ⟨rfl, hb5⟩
      replace t1 := keep_cell hb5 t1
      have hrk := HRB.out.keep hb5
      have hrl := hrk.lt
      obtain ⟨r0, r1, r2, r3, s0, s1, s2, s3⟩ := hrk
      have hbw5 := below_more hbw hb5
      have hm1 := World.block_lt_of_cell? _ _ t1
      simp only at hm1
      clear HRB hb5
      cases fa
      · rcases Nat.eq_zero_or_pos G with hg0 | hg0
        · subst hg0
          go_wp2_with fail
          refine bodyPost_ret (v := .agg #[.int .i64 nm, .int .i64 0, .int .i64 Bd, .bool false]) (by simp [results, Tryz.results49, go_sem, *]) rfl ⟨by rw [HRP.out]; rfl, ?_⟩
          refine Below.alloc ?_ (by have := hbw5.size; first | (simp; done) | (simp; omega)) _
          repeat (refine Below.setCell ?_ (by first | (simp; done) | (simp; omega) | omega) _)
          exact hbw5
        · have hgI : (0 : Int) < (G : Int) := by omega
          go_wp2_with fail
          refine bodyPost_ret (v := .agg #[.int .i64 nm, .int .i64 G, .int .i64 Bd, .bool true]) (by simp [results, Tryz.results49, go_sem, *]) rfl ⟨by rw [HRP.out]; simp [hg0], ?_⟩
          refine Below.alloc ?_ (by have := hbw5.size; first | (simp; done) | (simp; omega)) _
          repeat (refine Below.setCell ?_ (by first | (simp; done) | (simp; omega) | omega) _)
          exact hbw5
      · rcases Nat.eq_zero_or_pos Bd with hb0 | hb0
        · subst hb0
          go_wp2_with fail
          refine bodyPost_ret (v := .agg #[.int .i64 nm, .int .i64 G, .int .i64 0, .bool true]) (by simp [results, Tryz.results49, go_sem, *]) rfl ⟨by rw [HRP.out]; rfl, ?_⟩
          refine Below.alloc ?_ (by have := hbw5.size; first | (simp; done) | (simp; omega)) _
          repeat (refine Below.setCell ?_ (by first | (simp; done) | (simp; omega) | omega) _)
          exact hbw5
        · have hbe : ((Bd : Int) == 0) = false := by simp; omega
          have hbn : (Bd == 0) = false := by simp; omega
          go_wp2_with fail
          refine bodyPost_ret (v := .agg #[.int .i64 nm, .int .i64 G, .int .i64 Bd, .bool false]) (by simp [results, Tryz.results49, go_sem, *]) rfl ⟨by rw [HRP.out]; simp [hbn], ?_⟩
          refine Below.alloc ?_ (by have := hbw5.size; first | (simp; done) | (simp; omega)) _
          repeat (refine Below.setCell ?_ (by first | (simp; done) | (simp; omega) | omega) _)
          exact hbw5

end Go.Proofs.YtomijmikkbhgmaaGreat

namespace Go.Proofs.YtomijmikkbhgmaaGreat
open Go.RowKit

theorem find_hit {α : Type} {p : α → Bool} {a : α} (h : p a = true) (l : List α) : (a :: l).find? p = some a := List.find?_cons_of_pos h
theorem find_mis {α : Type} {p : α → Bool} {a : α} (h : p a = false) (l : List α) : (a :: l).find? p = l.find? p := List.find?_cons_of_neg (by simp [h])

theorem witL_find (al : Nat → Bool) (st : Nat → List Int) (n : Nat) (c : List Atm) (fa : Bool) (m i : Nat) : witL n c fa ((List.range' i m).map fun k => if al k then some (st k) else none) i = ((List.range' i m).filter al).find? fun k => metB n c (st k) != fa := by
  induction m generalizing i with
  | zero => rfl
  | succ m ih =>
    rw [List.range'_succ, List.map_cons]
    cases h : al i
    · rw [List.filter_cons_of_neg (by simp [h])]
      simp only [Bool.false_eq_true, if_false]
      rw [witL]
      exact ih (i + 1)
    · rw [List.filter_cons_of_pos h]
      simp only [if_true]
      cases hm : (metB n c (st i) != fa)
      · rw [witL_no hm, find_mis (p := fun k => metB n c (st k) != fa) hm]
        exact ih (i + 1)
      · rw [witL_yes hm, find_hit (p := fun k => metB n c (st k) != fa) hm]
theorem wit_same (al : Nat → Bool) (T : List (List Ins)) (E : List Evt) (c : List Atm) (fa : Bool) (N : Nat) : witL T.length c fa (optL al T E N) 0 = (casN al N).find? fun k => metB T.length c (stX T E (exN E k)) != fa := by
  unfold optL casN
  rw [List.range_eq_range']
  exact witL_find al _ _ _ _ _ _

/-- A case in a block of its own. -/
structure CasB (w : World) (R : Nat) : Prop where
  c0 : w.cell? ⟨R, 0, none⟩ = some (.int .i64 0)
  c1 : w.cell? ⟨R, 1, none⟩ = some (.slice none 0 0)
  c2 : w.cell? ⟨R, 2, none⟩ = some (.slice none 0 0)
  c3 : w.cell? ⟨R, 3, none⟩ = some (.slice none 0 0)
  f0 : w.frozen? ⟨R, 0, none⟩ = false
  f1 : w.frozen? ⟨R, 1, none⟩ = false
  f2 : w.frozen? ⟨R, 2, none⟩ = false
  f3 : w.frozen? ⟨R, 3, none⟩ = false
theorem CasB.lt {w : World} {R : Nat} (k : CasB w R) : R < w.heap.size := World.block_lt_of_cell? w _ k.c0
theorem CasB.keep {w w' : World} {R : Nat} (k : CasB w R) (hb : Below w.heap.size w w') : CasB w' R :=
  ⟨keep_cell hb k.c0, keep_cell hb k.c1, keep_cell hb k.c2, keep_cell hb k.c3, (hb.frozen (p := ⟨R, 0, none⟩) k.lt).trans k.f0, (hb.frozen (p := ⟨R, 1, none⟩) k.lt).trans k.f1, (hb.frozen (p := ⟨R, 2, none⟩) k.lt).trans k.f2, (hb.frozen (p := ⟨R, 3, none⟩) k.lt).trans k.f3⟩

/-- What verdict.Witness tells. -/
def WX (E : List Evt) (wl : Option Nat) (w : World) (n : Int) (vf vo : Value) : Prop := (wl = none ∧ n = -1 ∧ vf = .slice none 0 0 ∧ vo = .slice none 0 0) ∨ ∃ k, wl = some k ∧ n = (k : Int) ∧ ExeAt w vf vo (exN E k)

set_option maxRecDepth 20000 in
set_option maxHeartbeats 4000000 in
theorem verdictWit_any (T : List (List Ins)) (fa : Bool) (c : List Atm) (hz : ((chk T c).1 == 0) = true) (al : Nat → Bool) (hal : Als T (evsT T 0) al) (vt vc v : Value) (w : World) (h : TestAt w (.agg #[vt, .bool fa, vc]) T fa c vt vc) (hv : Ev4Cap w v (evsT T 0)) :
    Calls Tryz.prog 51 #[.agg #[vt, .bool fa, vc], v] w fun e w' => ∃ (n : Int) (vf vo u : Value), e = .returned (.agg #[.int .i64 n, vf, vo, u]) ∧ WX (evsT T 0) (witL T.length c fa (optL al T (evsT T 0) (sizeN (evsT T 0))) 0) w' n vf vo ∧ (∃ a l p, u = .slice a l p) ∧ Below w.heap.size w w' := by
  have HCS : Hid (∀ w', Below w.heap.size w w' → Calls Tryz.prog 85 #[vt, v] w' fun e w'' => ∃ u, e = .returned u ∧ CasAt T (evsT T 0) w'.heap.size w'' u (casN al (sizeN (evsT T 0))) ∧ Below w'.heap.size w' w'') := fun w' hb => cases_any T c hz al hal vt v w' (h.ht.keep hb) (hv.keep hb)
  have hT4 := (fits_of hz).short.t4
  have hAt := chk_atms hz
  have hN := chk_many_no hz
  have hC2 : (casN al (sizeN (evsT T 0))).length ≤ 2000 := Nat.le_trans (casN_len _ _) hN
  have HHD : Hid (∀ (s : List Int) (vs : Value) (w' : World), s.length = 3 * T.length + 3 → Below w.heap.size w w' → IntAt w' vs s → Calls Tryz.prog 95 #[.agg #[vt, .bool fa, vc], vs] w' fun e w'' => e = .returned (.bool (metB T.length c s)) ∧ Below w'.heap.size w' w'') := fun s vs w' hs hb hi => holdsP_any T hT4 fa c hAt vt vc s hs vs w' (h.keep hb) hi
  generalize hst : (fun n => stX T (evsT T 0) (exN (evsT T 0) n)) = st
  have hst' : ∀ n, stX T (evsT T 0) (exN (evsT T 0) n) = st n := fun n => by rw [← hst]
  have HWL : Hid (witL T.length c fa (optL al T (evsT T 0) (sizeN (evsT T 0))) 0 = (casN al (sizeN (evsT T 0))).find? fun k => metB T.length c (st k) != fa) := by
    show _ = _
    rw [wit_same, ← hst]
  have HSL : Hid (∀ n, (st n).length = 3 * T.length + 3) := fun n => by rw [← hst']; exact stX_len _ _ _
  have HKN : Hid (∀ B w' b off n, CasC T (evsT T 0) B w' b off n → ∃ a1 n1 p1 a2 n2 p2 a3 p3, w'.cell? ⟨b, off, none⟩ = some (.int .i64 n) ∧ w'.cell? ⟨b, off + 1, none⟩ = some (.slice a1 n1 p1) ∧ w'.cell? ⟨b, off + 2, none⟩ = some (.slice a2 n2 p2) ∧ w'.cell? ⟨b, off + 3, none⟩ = some (.slice a3 (st n).length p3) ∧ IntAt w' (.slice a3 (st n).length p3) (st n) ∧ ∀ w'' : World, w'.heap.size ≤ w''.heap.size → (∀ b : Nat, B ≤ b → b < w'.heap.size → w''.heap[b]? = w'.heap[b]?) → ExeAt w'' (.slice a1 n1 p1) (.slice a2 n2 p2) (exN (evsT T 0) n)) := fun B w' b off n hc => by
    obtain ⟨a1, n1, p1, a2, n2, p2, a3, p3, k1, k2, k3, k4, k5⟩ := cas_parts hc
    have k6 := k5.now.2
    rw [hst'] at k4 k6
    exact ⟨a1, n1, p1, a2, n2, p2, a3, p3, k1, k2, k3, k4, k6, fun w'' h1 h2 => (k5 w'' h1 h2).1⟩
  generalize witL T.length c fa (optL al T (evsT T 0) (sizeN (evsT T 0))) 0 = WL at HWL ⊢
  have HWX : Hid (∀ w' n vf vo, WX (evsT T 0) WL w' n vf vo ↔ (WL = none ∧ n = -1 ∧ vf = .slice none 0 0 ∧ vo = .slice none 0 0) ∨ ∃ k, WL = some k ∧ n = (k : Int) ∧ ExeAt w' vf vo (exN (evsT T 0) k)) := fun _ _ _ _ => Iff.rfl
  generalize WX (evsT T 0) WL = WXX at HWX ⊢
  obtain ⟨_, aoT, bT, offT, capT, hvT, _⟩ := h.ht
  obtain ⟨hc0, aoc, bc, offc, capc, hsc⟩ := h.hc
  have hcv := hsc.hv
  obtain ⟨ao, b, off, cap, ⟨hv1, _, _, _⟩, _⟩ := hv
  subst hv1 hvT hcv
  clear hz hal hN hst hst' h hsc hAt
  generalize evsT T 0 = E at *
  generalize casN al (sizeN E) = C at *
  go_enter Tryz.func51, Tryz.ntmps51
  go_wp2_with fail
  have hba := below_two w (.cells #[.slice aoT T.length capT, .bool fa, .slice aoc c.length capc] 25) (.cells #[.int .i64 0, .slice none 0 0, .slice none 0 0, .slice none 0 0] 96)
  refine (HCS.out _ hba).mono ?_
  rintro e w3 ⟨uc, rfl, hcs, hb3⟩
  have hbw3 := below_more hba hb3
  have t0 := keep_cell hb3 (b := w.heap.size) (off := 0) (u := .slice aoT T.length capT) (by simp)
  have t1 := keep_cell hb3 (b := w.heap.size) (off := 1) (u := .bool fa) (by simp)
  have t2 := keep_cell hb3 (b := w.heap.size) (off := 2) (u := .slice aoc c.length capc) (by simp)
  have HR3 : Hid (CasB w3 (w.heap.size + 1)) := by
    refine CasB.keep (w := (w.alloc (.cells #[.slice aoT T.length capT, .bool fa, .slice aoc c.length capc] 25)).alloc (.cells #[.int .i64 0, .slice none 0 0, .slice none 0 0, .slice none 0 0] 96)) ⟨?_, ?_, ?_, ?_, ?_, ?_, ?_, ?_⟩ hb3 <;> simp
  obtain ⟨aoC, bC, offC, capC, hvC, haC, _, hcC⟩ := hcs
  subst hvC
  have HCC : Hid (∀ (k n : Nat), C[k]? = some n → ∃ a1 n1 p1 a2 n2 p2 a3 p3, w3.cell? ⟨bC, offC + k * 4, none⟩ = some (.int .i64 n) ∧ w3.cell? ⟨bC, offC + k * 4 + 1, none⟩ = some (.slice a1 n1 p1) ∧ w3.cell? ⟨bC, offC + k * 4 + 2, none⟩ = some (.slice a2 n2 p2) ∧ w3.cell? ⟨bC, offC + k * 4 + 3, none⟩ = some (.slice a3 (st n).length p3) ∧ IntAt w3 (.slice a3 (st n).length p3) (st n) ∧ ∀ w'' : World, w3.heap.size ≤ w''.heap.size → (∀ b : Nat, w.heap.size + 2 ≤ b → b < w3.heap.size → w''.heap[b]? = w3.heap[b]?) → ExeAt w'' (.slice a1 n1 p1) (.slice a2 n2 p2) (exN E n)) := fun k n hk => by
    have := HKN.out _ _ _ _ _ (hcC k n hk)
    simp only [World.size_alloc] at this
    exact this
  have HK : Hid (∀ w', Below w3.heap.size w3 w' → w'.cell? ⟨w.heap.size, 0, none⟩ = some (.slice aoT T.length capT) ∧ w'.cell? ⟨w.heap.size, 1, none⟩ = some (.bool fa) ∧ w'.cell? ⟨w.heap.size, 2, none⟩ = some (.slice aoc c.length capc)) := fun w' hb => ⟨keep_cell hb t0, keep_cell hb t1, keep_cell hb t2⟩
  have HW0 : Hid (WL = (C.drop 0).find? fun k => metB T.length c (st k) != fa) := HWL.out
  clear hcC HCS HKN t0 t1 t2 hb3 hba HWL
  go_wp2_with fail
  go_loopw [12] (fun i wr => ∃ k : Nat, k ≤ C.length ∧ i = .int .i64 k ∧ Hid (WL = (C.drop k).find? fun k => metB T.length c (st k) != fa) ∧ Below w3.heap.size w3 wr) (fun i _ => C.length - (intOf i).toNat)
  case atStart => exact ⟨0, Nat.zero_le _, rfl, HW0.out, Below.refl _ _⟩
  case round =>
    clear HW0
    obtain ⟨k, hk, rfl, hn0, hb⟩ := hrel
    have hbw := below_more hbw3 hb
    obtain ⟨t0, t1, t2⟩ := HK.out wr hb
    by_cases hlt : k < C.length
    · obtain ⟨n, hn⟩ := get_of_lt hlt
      obtain rfl := haC (ne_nil hlt)
      obtain ⟨a1, n1, p1, a2, n2, p2, a3, p3, c0, c1, c2, c3, hus, hstb⟩ := HCC.out k n hn
      have HSTB : Hid (∀ w'' : World, w3.heap.size ≤ w''.heap.size → (∀ b : Nat, w.heap.size + 2 ≤ b → b < w3.heap.size → w''.heap[b]? = w3.heap[b]?) → ExeAt w'' (.slice a1 n1 p1) (.slice a2 n2 p2) (exN E n)) := hstb
      have HYES : Hid ((metB T.length c (st n) != fa) = true → WL = some n) := fun hm => hn0.out.trans (by rw [drop_cons hn, find_hit (p := fun k => metB T.length c (st k) != fa) hm])
      have HNO : Hid ((metB T.length c (st n) != fa) = false → WL = (C.drop (k + 1)).find? fun k => metB T.length c (st k) != fa) := fun hm => hn0.out.trans (by rw [drop_cons hn, find_mis (p := fun k => metB T.length c (st k) != fa) hm])
      have HH1 : Hid (∀ w', Below wr.heap.size wr w' → Calls Tryz.prog 95 #[.agg #[.slice aoT T.length capT, .bool fa, .slice aoc c.length capc], .slice a3 (st n).length p3] w' fun e w'' => e = .returned (.bool (metB T.length c (st n))) ∧ Below w'.heap.size w' w'') := fun w' hb' => HHD.out (st n) _ w' (HSL.out n) (below_more hbw hb') (hus.keep (below_more hb hb'))
      generalize metB T.length c (st n) = mt at HYES HNO HH1
      have d0 := keep_cell hb c0
      have d1 := keep_cell hb c1
      have d2 := keep_cell hb c2
      have d3 := keep_cell hb c3
      have hkI : (k : Int) < (C.length : Int) := by omega
      generalize (st n).length = ln at *
      clear hus c0 c1 c2 c3 hn hstb hn0
      have hm0 := World.block_lt_of_cell? _ _ t0
      simp only at hm0
      go_wp2_with fail
      have hba2 := below_alloc wr (.cells #[.int .i64 n, .slice a1 n1 p1, .slice a2 n2 p2, .slice a3 ln p3] 96)
      have x0 : (wr.alloc (.cells #[.int .i64 n, .slice a1 n1 p1, .slice a2 n2 p2, .slice a3 ln p3] 96)).cell? ⟨wr.heap.size, 0, none⟩ = some (.int .i64 n) := by simp
      have x1 : (wr.alloc (.cells #[.int .i64 n, .slice a1 n1 p1, .slice a2 n2 p2, .slice a3 ln p3] 96)).cell? ⟨wr.heap.size, 1, none⟩ = some (.slice a1 n1 p1) := by simp
      have x2 : (wr.alloc (.cells #[.int .i64 n, .slice a1 n1 p1, .slice a2 n2 p2, .slice a3 ln p3] 96)).cell? ⟨wr.heap.size, 2, none⟩ = some (.slice a2 n2 p2) := by simp
      have x3 : (wr.alloc (.cells #[.int .i64 n, .slice a1 n1 p1, .slice a2 n2 p2, .slice a3 ln p3] 96)).cell? ⟨wr.heap.size, 3, none⟩ = some (.slice a3 ln p3) := by simp
      replace t0 := keep_cell hba2 t0
      replace t1 := keep_cell hba2 t1
      replace t2 := keep_cell hba2 t2
      have hb1a := below_more hb hba2
      generalize wr.alloc (.cells #[.int .i64 n, .slice a1 n1 p1, .slice a2 n2 p2, .slice a3 ln p3] 96) = W1 at hba2 x0 x1 x2 x3 t0 t1 t2 hb1a ⊢
      have hBx : wr.heap.size ≠ w.heap.size + 1 := by have := HR3.out.lt; have := hb.size; omega
      have HH2 : Hid (∀ w', Below W1.heap.size W1 w' → Calls Tryz.prog 95 #[.agg #[.slice aoT T.length capT, .bool fa, .slice aoc c.length capc], .slice a3 ln p3] w' fun e w'' => e = .returned (.bool mt) ∧ Below w'.heap.size w' w'') := fun w' hb' => HH1.out w' (below_more hba2 hb')
      generalize wr.heap.size = Bx at x0 x1 x2 x3 hBx ⊢
      clear d0 d1 d2 d3 HH1 hba2 hb
      have g0 := grown_cell t0
      have g1 := grown_cell t1
      have g2 := grown_cell t2
      have g3 := grown_cell x3
      have hnw := grw_some W1
      cases hmf : (mt != fa)
      · have HN2 : Hid (WL = (C.drop (k + 1)).find? fun k => metB T.length c (st k) != fa) := HNO.out hmf
        clear HYES HNO
        have e : mt = fa := by simpa using hmf
        clear hmf
        subst e
        cases mt
        all_goals
          go_wp2_with fail
          refine wp_region_grown (by kernel_rfl) (by kernel_rfl) ?_
          repeat (go_big_quiet_step ((go_at_call 95; exact grown_call (HH2.out _ (Grw.low _)))))
          refine wpQuiet_nil ?_
          intro w7 hw7
          obtain ⟨⟨w7', hb7⟩, rfl⟩ := hw7
          clear g0 g1 g2 g3
          go_wp2_with fail
          go_roundw
          case measure => simp [intOf]; omega
          case rel => exact ⟨k + 1, by omega, by go_num, HN2.out, below_more hb1a hb7⟩
      · have HN2 : Hid (WL = some n) := HYES.out hmf
        clear HYES HNO
        have e : mt = !fa := by revert hmf; cases mt <;> cases fa <;> simp
        clear hmf
        subst e
        cases fa
        all_goals
          go_wp2_with fail
          refine wp_region_grown (by kernel_rfl) (by kernel_rfl) ?_
          repeat (go_big_quiet_step ((go_at_call 95; exact grown_call (HH2.out _ (Grw.low _)))))
          refine wpQuiet_nil ?_
          intro w7 hw7
          obtain ⟨⟨w7', hb7⟩, rfl⟩ := hw7
          replace x0 := keep_cell hb7 x0
          replace x1 := keep_cell hb7 x1
          replace x2 := keep_cell hb7 x2
          replace x3 := keep_cell hb7 x3
          have hb37 := below_more hb1a hb7
          have hbw7 := below_more hbw3 hb37
          have hcb := HR3.out.keep hb37
          have hcl := HR3.out.lt
          obtain ⟨r0, r1, r2, r3, s0, s1, s2, s3⟩ := hcb
          clear g0 g1 g2 g3
          go_wp2_with fail
          refine bodyPost_ret (v := .agg #[.int .i64 n, .slice a1 n1 p1, .slice a2 n2 p2, .slice a3 ln p3]) (by simp [results, Tryz.results51, go_sem, *]) rfl ⟨_, _, _, _, rfl, (HWX.out _ _ _ _).2 (.inr ⟨n, HN2.out, rfl, HSTB.out _ ?_ (fun b hb1 hb2 => ?_)⟩), ⟨_, _, _, rfl⟩, ?_⟩
          · have := hb37.size; simp [World.setCell]; omega
          · have hne : b ≠ w.heap.size + 1 := by omega
            rw [Below.heap_setCell _ _ _ _ hne, Below.heap_setCell _ _ _ _ hne, Below.heap_setCell _ _ _ _ hne, Below.heap_setCell _ _ _ _ hne, hb37.block b hb2]
          · exact (((hbw7.setCell (by simp) _).setCell (by simp) _).setCell (by simp) _).setCell (by simp) _
    · have HN2 : Hid (WL = none) := hn0.out.trans (by rw [drop_nil hlt]; rfl)
      have hkI : (C.length : Int) ≤ (k : Int) := by omega
      obtain ⟨r0, r1, r2, r3, s0, s1, s2, s3⟩ := HR3.out.keep hb
      clear hn0
      go_wp2_with fail
      refine bodyPost_ret (v := .agg #[.int .i64 (-1), .slice none 0 0, .slice none 0 0, .slice none 0 0]) (by simp [results, Tryz.results51, go_sem, *]) rfl ⟨_, _, _, _, rfl, (HWX.out _ _ _ _).2 (.inl ⟨HN2.out, rfl, rfl, rfl⟩), ⟨_, _, _, rfl⟩, ?_⟩
      exact (((hbw.setCell (by simp) _).setCell (by simp) _).setCell (by simp) _).setCell (by simp) _

end Go.Proofs.YtomijmikkbhgmaaGreat
