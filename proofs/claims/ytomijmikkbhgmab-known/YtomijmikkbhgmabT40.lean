import Derived.Test.YtomijmikkbhgmabT39
import Derived.Test.YtomijmikkbhgmabT6
import Derived.Test.YtomijmikkbhgmabUe
namespace Go.Proofs.Ytomijmikkbhgmab
open Go.RowKit

def gdS (n : Nat) (c : List Atm) (S : List (List Int)) : Nat := (S.filter fun s => metB n c s).length
def bdS (n : Nat) (c : List Atm) (S : List (List Int)) : Nat := (S.filter fun s => !metB n c s).length
theorem gdS_yes {n : Nat} {c : List Atm} {l : List Int} (h : metB n c l = true) (S : List (List Int)) : gdS n c (S ++ [l]) = gdS n c S + 1 ∧ bdS n c (S ++ [l]) = bdS n c S := by
  unfold gdS bdS; simp [h]
theorem gdS_no {n : Nat} {c : List Atm} {l : List Int} (h : metB n c l = false) (S : List (List Int)) : gdS n c (S ++ [l]) = gdS n c S ∧ bdS n c (S ++ [l]) = bdS n c S + 1 := by
  unfold gdS bdS; simp [h]
theorem gdS_le (n : Nat) (c : List Atm) (S : List (List Int)) : gdS n c S ≤ S.length ∧ bdS n c S ≤ S.length := ⟨List.length_filter_le _ _, List.length_filter_le _ _⟩

/-- What is needed of cases. -/
theorem cas_parts {T : List (List Ins)} {E : List Evt} {B : Nat} {w : World} {b off n : Nat} (h : CasC T E B w b off n) : ∃ a1 n1 p1 a2 n2 p2 a3 p3, w.cell? ⟨b, off, none⟩ = some (.int .i64 n) ∧ w.cell? ⟨b, off + 1, none⟩ = some (.slice a1 n1 p1) ∧ w.cell? ⟨b, off + 2, none⟩ = some (.slice a2 n2 p2) ∧ w.cell? ⟨b, off + 3, none⟩ = some (.slice a3 (stX T E (exN E n)).length p3) ∧ StabB T E B w (.slice a1 n1 p1) (.slice a2 n2 p2) (.slice a3 (stX T E (exN E n)).length p3) n := by
  obtain ⟨vf, vo, u, h1, h2, h3, h4, h56⟩ := h
  obtain ⟨h5, h6⟩ := h56.now
  obtain ⟨a1, p1, e1⟩ := h5.f.form
  obtain ⟨a2, b2, o2, p2, hs2⟩ := h5.o
  have e2 := hs2.hv
  obtain ⟨a3, p3, e3⟩ := h6.form
  subst e1 e2 e3
  exact ⟨a1, _, p1, a2, _, p2, a3, p3, h1, h2, h3, h4, h56⟩

set_option maxRecDepth 20000 in
set_option maxHeartbeats 4000000 in
theorem verdictOf_any (T : List (List Ins)) (fa : Bool) (c : List Atm) (hz : ((chk T c).1 == 0) = true) (al : Nat → Bool) (hal : Als T (evsT T 0) al) (vt vc v : Value) (w : World) (h : TestAt w (.agg #[vt, .bool fa, vc]) T fa c vt vc) (hv : Ev4Cap w v (evsT T 0)) :
    Calls Try.prog 41 #[.agg #[vt, .bool fa, vc], v] w fun e w' => e = .returned (repV (gdN T.length c (optL al T (evsT T 0) (sizeN (evsT T 0)))) (bdN T.length c (optL al T (evsT T 0) (sizeN (evsT T 0)))) fa) ∧ Below w.heap.size w w' := by
  have HCS : Hid (∀ w', Below w.heap.size w w' → Calls Try.prog 56 #[vt, v] w' fun e w'' => ∃ u, e = .returned u ∧ CasAt T (evsT T 0) w'.heap.size w'' u (casN al (sizeN (evsT T 0))) ∧ Below w'.heap.size w' w'') := fun w' hb => cases_any T c hz al hal vt v w' (h.ht.keep hb) (hv.keep hb)
  have hT4 := (fits_of hz).short.t4
  have hAt := chk_atms hz
  have hN := chk_many_no hz
  have hC2 : (casN al (sizeN (evsT T 0))).length ≤ 2000 := Nat.le_trans (casN_len _ _) hN
  have HHD : Hid (∀ (s : List Int) (vs : Value) (w' : World), s.length = 3 * T.length + 3 → Below w.heap.size w w' → IntAt w' vs s → Calls Try.prog 61 #[.agg #[vt, .bool fa, vc], vs] w' fun e w'' => e = .returned (.bool (metB T.length c s)) ∧ Below w'.heap.size w' w'') := fun s vs w' hs hb hi => holdsP_any T hT4 fa c hAt vt vc s hs vs w' (h.keep hb) hi
  generalize hst : (fun n => stX T (evsT T 0) (exN (evsT T 0) n)) = st
  have hst' : ∀ n, stX T (evsT T 0) (exN (evsT T 0) n) = st n := fun n => by rw [← hst]
  have HGB : Hid (gdN T.length c (optL al T (evsT T 0) (sizeN (evsT T 0))) = gdS T.length c ((casN al (sizeN (evsT T 0))).map st) ∧ bdN T.length c (optL al T (evsT T 0) (sizeN (evsT T 0))) = bdS T.length c ((casN al (sizeN (evsT T 0))).map st)) := by
    unfold gdN bdN gdS bdS
    rw [casN_states, hst]
    exact ⟨rfl, rfl⟩
  have HSL : Hid (∀ n, (st n).length = 3 * T.length + 3) := fun n => by rw [← hst']; exact stX_len _ _ _
  have HKN : Hid (∀ B w' b off n, CasC T (evsT T 0) B w' b off n → ∃ a1 n1 p1 a2 n2 p2 a3 p3, w'.cell? ⟨b, off, none⟩ = some (.int .i64 n) ∧ w'.cell? ⟨b, off + 1, none⟩ = some (.slice a1 n1 p1) ∧ w'.cell? ⟨b, off + 2, none⟩ = some (.slice a2 n2 p2) ∧ w'.cell? ⟨b, off + 3, none⟩ = some (.slice a3 (st n).length p3) ∧ IntAt w' (.slice a3 (st n).length p3) (st n)) := fun B w' b off n hc => by
    obtain ⟨a1, n1, p1, a2, n2, p2, a3, p3, k1, k2, k3, k4, k5⟩ := cas_parts hc
    have k6 := k5.now.2
    rw [hst'] at k4 k6
    exact ⟨a1, n1, p1, a2, n2, p2, a3, p3, k1, k2, k3, k4, k6⟩
  generalize gdN T.length c (optL al T (evsT T 0) (sizeN (evsT T 0))) = G at HGB ⊢
  generalize bdN T.length c (optL al T (evsT T 0) (sizeN (evsT T 0))) = Bd at HGB ⊢
  obtain ⟨_, aoT, bT, offT, capT, hvT, _⟩ := h.ht
  obtain ⟨hc0, aoc, bc, offc, capc, hsc⟩ := h.hc
  have hcv := hsc.hv
  obtain ⟨ao, b, off, cap, ⟨hv1, _, _, _⟩, _⟩ := hv
  subst hv1 hvT hcv
  clear hz hal hN hst hst' h hsc hAt
  generalize evsT T 0 = E at *
  generalize casN al (sizeN E) = C at *
  have HTK : Hid (∀ (k n : Nat), C[k]? = some n → (C.map st).take (k + 1) = (C.map st).take k ++ [st n]) := fun k n hk => by rw [List.take_add_one, List.getElem?_map, hk]; rfl
  have HGL : Hid (∀ k, gdS T.length c ((C.map st).take k) ≤ 2000 ∧ bdS T.length c ((C.map st).take k) ≤ 2000) := fun k => by
    have h1 := gdS_le T.length c ((C.map st).take k)
    have h3 : ((C.map st).take k).length ≤ 2000 := by rw [List.length_take, List.length_map]; omega
    exact ⟨by omega, by omega⟩
  go_enter Try.func41, Try.ntmps41
  go_wp2_with fail
  have hba := below_two w (.cells #[.slice aoT T.length capT, .bool fa, .slice aoc c.length capc] 25) (.cells #[.int .i64 0, .int .i64 0, .int .i64 0, .bool false] 58)
  refine (HCS.out _ hba).mono ?_
  rintro e w3 ⟨uc, rfl, hcs, hb3⟩
  have hbw3 := below_more hba hb3
  have t0 := keep_cell hb3 (b := w.heap.size) (off := 0) (u := .slice aoT T.length capT) (by simp)
  have t1 := keep_cell hb3 (b := w.heap.size) (off := 1) (u := .bool fa) (by simp)
  have t2 := keep_cell hb3 (b := w.heap.size) (off := 2) (u := .slice aoc c.length capc) (by simp)
  have HR3 : Hid (RepC w3 (w.heap.size + 1) 0 0 0 false) := by
    refine RepC.keep (w := (w.alloc (.cells #[.slice aoT T.length capT, .bool fa, .slice aoc c.length capc] 25)).alloc (.cells #[.int .i64 0, .int .i64 0, .int .i64 0, .bool false] 58)) ⟨?_, ?_, ?_, ?_, ?_, ?_, ?_, ?_⟩ hb3 <;> simp
  obtain ⟨aoC, bC, offC, capC, hvC, haC, _, hcC⟩ := hcs
  subst hvC
  have HCC : Hid (∀ (k n : Nat), C[k]? = some n → ∃ a1 n1 p1 a2 n2 p2 a3 p3, w3.cell? ⟨bC, offC + k * 4, none⟩ = some (.int .i64 n) ∧ w3.cell? ⟨bC, offC + k * 4 + 1, none⟩ = some (.slice a1 n1 p1) ∧ w3.cell? ⟨bC, offC + k * 4 + 2, none⟩ = some (.slice a2 n2 p2) ∧ w3.cell? ⟨bC, offC + k * 4 + 3, none⟩ = some (.slice a3 (st n).length p3) ∧ IntAt w3 (.slice a3 (st n).length p3) (st n)) := fun k n hk => HKN.out _ _ _ _ _ (hcC k n hk)
  have HK : Hid (∀ w', Below w3.heap.size w3 w' → w'.cell? ⟨w.heap.size, 0, none⟩ = some (.slice aoT T.length capT) ∧ w'.cell? ⟨w.heap.size, 1, none⟩ = some (.bool fa) ∧ w'.cell? ⟨w.heap.size, 2, none⟩ = some (.slice aoc c.length capc)) := fun w' hb => ⟨keep_cell hb t0, keep_cell hb t1, keep_cell hb t2⟩
  clear hcC HCS HKN t0 t1 t2 hb3 hba
  go_wp2_with fail
  go_loopw [5, 6, 15] (fun x y i wr => ∃ k : Nat, k ≤ C.length ∧ i = .int .i64 k ∧ x = .int .i64 ((gdS T.length c ((C.map st).take k) : Nat) : Int) ∧ y = .int .i64 ((bdS T.length c ((C.map st).take k) : Nat) : Int) ∧ Below w3.heap.size w3 wr) (fun _ _ i _ => C.length - (intOf i).toNat)
  case atStart => exact ⟨0, Nat.zero_le _, rfl, rfl, rfl, Below.refl _ _⟩
  case round =>
    obtain ⟨k, hk, rfl, rfl, rfl, hb⟩ := hrel
    obtain ⟨hg2, hb2⟩ := HGL.out k
    have hbw := below_more hbw3 hb
    obtain ⟨t0, t1, t2⟩ := HK.out wr hb
    by_cases hlt : k < C.length
    · obtain ⟨n, hn⟩ := get_of_lt hlt
      obtain rfl := haC (ne_nil hlt)
      obtain ⟨a1, n1, p1, a2, n2, p2, a3, p3, c0, c1, c2, c3, hus⟩ := HCC.out k n hn
      have htk := HTK.out k n hn
      have HYES : Hid (metB T.length c (st n) = true → gdS T.length c ((C.map st).take (k + 1)) = gdS T.length c ((C.map st).take k) + 1 ∧ bdS T.length c ((C.map st).take (k + 1)) = bdS T.length c ((C.map st).take k)) := fun hm => by rw [htk]; exact gdS_yes hm _
      have HNO : Hid (metB T.length c (st n) = false → gdS T.length c ((C.map st).take (k + 1)) = gdS T.length c ((C.map st).take k) ∧ bdS T.length c ((C.map st).take (k + 1)) = bdS T.length c ((C.map st).take k) + 1) := fun hm => by rw [htk]; exact gdS_no hm _
      have HH1 : Hid (∀ w', Below wr.heap.size wr w' → Calls Try.prog 61 #[.agg #[.slice aoT T.length capT, .bool fa, .slice aoc c.length capc], .slice a3 (st n).length p3] w' fun e w'' => e = .returned (.bool (metB T.length c (st n))) ∧ Below w'.heap.size w' w'') := fun w' hb' => HHD.out (st n) _ w' (HSL.out n) (below_more hbw hb') (hus.keep (below_more hb hb'))
      generalize metB T.length c (st n) = mt at HYES HNO HH1
      have d0 := keep_cell hb c0
      have d1 := keep_cell hb c1
      have d2 := keep_cell hb c2
      have d3 := keep_cell hb c3
      have hkI : (k : Int) < (C.length : Int) := by omega
      generalize (st n).length = ln at *
      generalize gdS T.length c ((C.map st).take k) = g at *
      generalize bdS T.length c ((C.map st).take k) = bd at *
      clear hus htk c0 c1 c2 c3 hn
      have hm0 := World.block_lt_of_cell? _ _ t0
      simp only at hm0
      go_wp2_with fail
      have hba2 := below_alloc wr (.cells #[.int .i64 n, .slice a1 n1 p1, .slice a2 n2 p2, .slice a3 ln p3] 98)
      refine (HH1.out _ hba2).mono ?_
      rintro e w5 ⟨rfl, hb5⟩
      have hb35 := below_more (below_more hb hba2) hb5
      clear d0 d1 d2 d3 t0 t1 t2 hb5 hba2 HH1
      cases mt
      · obtain ⟨e1, e2⟩ := HNO.out rfl
        have HE : Hid (gdS T.length c ((C.map st).take (k + 1)) = g ∧ bdS T.length c ((C.map st).take (k + 1)) = bd + 1) := ⟨e1, e2⟩
        have hwr : IntKind.i64.wrap ((bd : Int) + 1) = ((bd + 1 : Nat) : Int) := by rw [IntKind.wrap_i64]; omega
        clear e1 e2 HYES HNO
        go_wp2_with fail
        go_roundw
        case measure => simp [intOf]; omega
        case rel => exact ⟨k + 1, by omega, by go_num, by rw [HE.out.1], by rw [HE.out.2]; go_num, hb35⟩
      · obtain ⟨e1, e2⟩ := HYES.out rfl
        have HE : Hid (gdS T.length c ((C.map st).take (k + 1)) = g + 1 ∧ bdS T.length c ((C.map st).take (k + 1)) = bd) := ⟨e1, e2⟩
        have hwr : IntKind.i64.wrap ((g : Int) + 1) = ((g + 1 : Nat) : Int) := by rw [IntKind.wrap_i64]; omega
        clear e1 e2 HYES HNO
        go_wp2_with fail
        go_roundw
        case measure => simp [intOf]; omega
        case rel => exact ⟨k + 1, by omega, by go_num, by rw [HE.out.1]; go_num, by rw [HE.out.2], hb35⟩
    · have htk : (C.map st).take k = C.map st := List.take_of_length_le (by rw [List.length_map]; omega)
      rw [htk] at hg2 hb2
      rw [htk]
      have hkI : (C.length : Int) ≤ (k : Int) := by omega
      obtain ⟨e1, e2⟩ := HGB.out
      rw [← e1, ← e2]
      rw [← e1] at hg2
      rw [← e2] at hb2
      have HNM : Hid (∀ w', Calls Try.prog 62 #[.int .i64 G, .int .i64 Bd] w' fun e w'' => e = .returned (.int .i64 (if G == 0 then 0 else if Bd == 0 then 2 else 1)) ∧ Below w'.heap.size w' w'') := fun w' => named_any G Bd w'
      have HRP : Hid (repV G Bd fa = .agg #[.int .i64 (if G == 0 then 0 else if Bd == 0 then 2 else 1), .int .i64 G, .int .i64 Bd, .bool (if fa then Bd == 0 else decide (0 < G))]) := rfl
      generalize (if G == 0 then (0 : Int) else if Bd == 0 then 2 else 1) = nm at HNM HRP
      obtain ⟨r0, r1, r2, r3, s0, s1, s2, s3⟩ := HR3.out.keep hb
      have HRB : Hid (RepC wr (w.heap.size + 1) 0 0 0 false) := HR3.out.keep hb
      clear htk e1 e2 r0 r1 r2 r3 s0 s1 s2 s3 t0 t2
      go_wp2_with fail
      refine (HNM.out wr).mono ?_
      rintro e w5 ⟨rfl, hb5⟩
      replace t1 := keep_cell hb5 t1
      have hrk := HRB.out.keep hb5
      have hrl := hrk.lt
      obtain ⟨r0, r1, r2, r3, s0, s1, s2, s3⟩ := hrk
      have hbw5 := below_more hbw hb5
      have hm1 := World.block_lt_of_cell? _ _ t1
      simp only at hm1
      clear HRB hb5
      cases fa
      · rcases Nat.eq_zero_or_pos G with hg0 | hg0
        · subst hg0
          go_wp2_with fail
          refine bodyPost_ret (v := .agg #[.int .i64 nm, .int .i64 0, .int .i64 Bd, .bool false]) (by simp [results, Try.results41, go_sem, *]) rfl ⟨by rw [HRP.out]; rfl, ?_⟩
          refine Below.alloc ?_ (by have := hbw5.size; first | (simp; done) | (simp; omega)) _
          repeat (refine Below.setCell ?_ (by first | (simp; done) | (simp; omega) | omega) _)
          exact hbw5
        · have hgI : (0 : Int) < (G : Int) := by omega
          go_wp2_with fail
          refine bodyPost_ret (v := .agg #[.int .i64 nm, .int .i64 G, .int .i64 Bd, .bool true]) (by simp [results, Try.results41, go_sem, *]) rfl ⟨by rw [HRP.out]; simp [hg0], ?_⟩
          refine Below.alloc ?_ (by have := hbw5.size; first | (simp; done) | (simp; omega)) _
          repeat (refine Below.setCell ?_ (by first | (simp; done) | (simp; omega) | omega) _)
          exact hbw5
      · rcases Nat.eq_zero_or_pos Bd with hb0 | hb0
        · subst hb0
          go_wp2_with fail
          refine bodyPost_ret (v := .agg #[.int .i64 nm, .int .i64 G, .int .i64 0, .bool true]) (by simp [results, Try.results41, go_sem, *]) rfl ⟨by rw [HRP.out]; rfl, ?_⟩
          refine Below.alloc ?_ (by have := hbw5.size; first | (simp; done) | (simp; omega)) _
          repeat (refine Below.setCell ?_ (by first | (simp; done) | (simp; omega) | omega) _)
          exact hbw5
        · have hbe : ((Bd : Int) == 0) = false := by simp; omega
          have hbn : (Bd == 0) = false := by simp; omega
          go_wp2_with fail
          refine bodyPost_ret (v := .agg #[.int .i64 nm, .int .i64 G, .int .i64 Bd, .bool false]) (by simp [results, Try.results41, go_sem, *]) rfl ⟨by rw [HRP.out]; simp [hbn], ?_⟩
          refine Below.alloc ?_ (by have := hbw5.size; first | (simp; done) | (simp; omega)) _
          repeat (refine Below.setCell ?_ (by first | (simp; done) | (simp; omega) | omega) _)
          exact hbw5

end Go.Proofs.Ytomijmikkbhgmab

namespace Go.Proofs.Ytomijmikkbhgmab
open Go.RowKit

theorem find_hit {α : Type} {p : α → Bool} {a : α} (h : p a = true) (l : List α) : (a :: l).find? p = some a := List.find?_cons_of_pos h
theorem find_mis {α : Type} {p : α → Bool} {a : α} (h : p a = false) (l : List α) : (a :: l).find? p = l.find? p := List.find?_cons_of_neg (by simp [h])

theorem witL_find (al : Nat → Bool) (st : Nat → List Int) (n : Nat) (c : List Atm) (fa : Bool) (m i : Nat) : witL n c fa ((List.range' i m).map fun k => if al k then some (st k) else none) i = ((List.range' i m).filter al).find? fun k => metB n c (st k) != fa := by
  induction m generalizing i with
  | zero => rfl
  | succ m ih =>
    rw [List.range'_succ, List.map_cons]
    cases h : al i
    · rw [List.filter_cons_of_neg (by simp [h])]
      simp only [Bool.false_eq_true, if_false]
      rw [witL]
      exact ih (i + 1)
    · rw [List.filter_cons_of_pos h]
      simp only [if_true]
      cases hm : (metB n c (st i) != fa)
      · rw [witL_no hm, find_mis (p := fun k => metB n c (st k) != fa) hm]
        exact ih (i + 1)
      · rw [witL_yes hm, find_hit (p := fun k => metB n c (st k) != fa) hm]
theorem wit_same (al : Nat → Bool) (T : List (List Ins)) (E : List Evt) (c : List Atm) (fa : Bool) (N : Nat) : witL T.length c fa (optL al T E N) 0 = (casN al N).find? fun k => metB T.length c (stX T E (exN E k)) != fa := by
  unfold optL casN
  rw [List.range_eq_range']
  exact witL_find al _ _ _ _ _ _

/-- A case in a block of its own. -/
structure CasB (w : World) (R : Nat) : Prop where
  c0 : w.cell? ⟨R, 0, none⟩ = some (.int .i64 0)
  c1 : w.cell? ⟨R, 1, none⟩ = some (.slice none 0 0)
  c2 : w.cell? ⟨R, 2, none⟩ = some (.slice none 0 0)
  c3 : w.cell? ⟨R, 3, none⟩ = some (.slice none 0 0)
  f0 : w.frozen? ⟨R, 0, none⟩ = false
  f1 : w.frozen? ⟨R, 1, none⟩ = false
  f2 : w.frozen? ⟨R, 2, none⟩ = false
  f3 : w.frozen? ⟨R, 3, none⟩ = false
theorem CasB.lt {w : World} {R : Nat} (k : CasB w R) : R < w.heap.size := World.block_lt_of_cell? w _ k.c0
theorem CasB.keep {w w' : World} {R : Nat} (k : CasB w R) (hb : Below w.heap.size w w') : CasB w' R :=
  ⟨keep_cell hb k.c0, keep_cell hb k.c1, keep_cell hb k.c2, keep_cell hb k.c3, (hb.frozen (p := ⟨R, 0, none⟩) k.lt).trans k.f0, (hb.frozen (p := ⟨R, 1, none⟩) k.lt).trans k.f1, (hb.frozen (p := ⟨R, 2, none⟩) k.lt).trans k.f2, (hb.frozen (p := ⟨R, 3, none⟩) k.lt).trans k.f3⟩

/-- What verdict.Witness tells. -/
def WX (E : List Evt) (wl : Option Nat) (w : World) (n : Int) (vf vo : Value) : Prop := (wl = none ∧ n = -1 ∧ vf = .slice none 0 0 ∧ vo = .slice none 0 0) ∨ ∃ k, wl = some k ∧ n = (k : Int) ∧ ExeAt w vf vo (exN E k)

end Go.Proofs.Ytomijmikkbhgmab

namespace Go.Proofs.Ytomijmikkbhgmab
open Go.RowKit

set_option maxRecDepth 20000 in
set_option maxHeartbeats 4000000 in
theorem verdictP_any (T : List (List Ins)) (fa : Bool) (c : List Atm) (al : Nat → Bool) (hal : Als T (evsT T 0) al) (vt vc : Value) (w : World) (h : TestAt w (.agg #[vt, .bool fa, vc]) T fa c vt vc) :
    Calls Try.prog 23 #[.agg #[vt, .bool fa, vc]] w fun e w' => e = .returned (verV T c fa al) ∧ Below w.heap.size w w' := by
  have HT : Hid (TestAt w (.agg #[vt, .bool fa, vc]) T fa c vt vc) := h
  have HLS : Hid (((chk T c).1 == 0) = true → ∀ w', Below w.heap.size w w' → Calls Try.prog 32 #[vt] w' fun e w'' => ∃ u, e = .returned u ∧ Ev4Cap w'' u (evsT T 0) ∧ Below w'.heap.size w' w'') := fun hz w' hb => list_cap T vt w' (h.ht.keep hb) (fits_of hz).short.t4 (fits_of hz).lens
  have HOF : Hid (((chk T c).1 == 0) = true → ∀ (u : Value) (w' : World), Below w.heap.size w w' → Ev4Cap w' u (evsT T 0) → Calls Try.prog 41 #[.agg #[vt, .bool fa, vc], u] w' fun e w'' => e = .returned (repV (gdN T.length c (optL al T (evsT T 0) (sizeN (evsT T 0)))) (bdN T.length c (optL al T (evsT T 0) (sizeN (evsT T 0)))) fa) ∧ Below w'.heap.size w' w'') := fun hz u w' hb hu => verdictOf_any T fa c hz al hal vt vc u w' (h.keep hb) hu
  have HJ : Hid (verV T c fa al = if (chk T c).1 == 0 then .tuple #[repV (gdN T.length c (optL al T (evsT T 0) (sizeN (evsT T 0)))) (bdN T.length c (optL al T (evsT T 0) (sizeN (evsT T 0)))) fa, .int .i64 0] else .tuple #[noRep, .int .i64 (chk T c).1]) := rfl
  generalize verV T c fa al = J at HJ ⊢
  generalize gdN T.length c (optL al T (evsT T 0) (sizeN (evsT T 0))) = G at HJ HOF
  generalize bdN T.length c (optL al T (evsT T 0) (sizeN (evsT T 0))) = Bd at HJ HOF
  generalize evsT T 0 = E at HLS HOF
  have HRP : Hid (repV G Bd fa = .agg #[.int .i64 (if G == 0 then 0 else if Bd == 0 then 2 else 1), .int .i64 G, .int .i64 Bd, .bool (if fa then Bd == 0 else decide (0 < G))]) := rfl
  generalize repV G Bd fa = RP at HJ HOF HRP
  generalize (if G == 0 then (0 : Int) else if Bd == 0 then 2 else 1) = nm at HRP
  generalize (if fa then Bd == 0 else decide (0 < G)) = hd at HRP
  have hrp := HRP.out
  subst hrp
  clear HRP
  generalize hq : chk T c = q at HLS HOF HJ
  have HQ : Hid (chk T c = q) := hq
  clear hq h
  go_enter Try.func23, Try.ntmps23
  go_wp2_with fail
  have hba := below_two w (.cells #[vt, .bool fa, vc] 25) (.cells #[.int .i64 0, .int .i64 0, .int .i64 0, .bool false] 58)
  refine (find_any T fa c _ vt vc _ (HT.out.keep hba)).mono ?_
  rw [HQ.out]
  rintro e w3 ⟨rfl, hb3⟩
  unfold fault2
  have hbw3 := below_more hba hb3
  have t0 := keep_cell hb3 (b := w.heap.size) (off := 0) (u := vt) (by simp)
  have t1 := keep_cell hb3 (b := w.heap.size) (off := 1) (u := .bool fa) (by simp)
  have t2 := keep_cell hb3 (b := w.heap.size) (off := 2) (u := vc) (by simp)
  have HR3 : Hid (RepC w3 (w.heap.size + 1) 0 0 0 false) := by
    refine RepC.keep (w := (w.alloc (.cells #[vt, .bool fa, vc] 25)).alloc (.cells #[.int .i64 0, .int .i64 0, .int .i64 0, .bool false] 58)) ⟨?_, ?_, ?_, ?_, ?_, ?_, ?_, ?_⟩ hb3 <;> simp
  have s0 := World.block_lt_of_cell? _ _ t0
  simp only at s0
  have s3 := HR3.out.lt
  clear hb3
  cases hz : q.1 == 0
  · have hz2 : (q.1 != 0) = true := by simp [bne, hz]
    have HM : Hid (J = .tuple #[noRep, .int .i64 q.1]) := HJ.out.trans (by rw [hz]; rfl)
    obtain ⟨c0, c1, c2, c3, f0, f1, f2, f3⟩ := HR3.out
    clear HJ
    go_wp2_with fail
    go_region
    all_goals
      go_wp2_with fail
      refine bodyPost_ret (v := .tuple #[.agg #[.int .i64 0, .int .i64 0, .int .i64 0, .bool false], .int .i64 q.1]) (by simp [results, Try.results23, go_sem, *]) rfl ⟨by rw [HM.out]; rfl, ?_⟩
      exact Below.drew ((((((hbw3.setCell (by simp) _).setCell (by simp) _).setCell (by simp) _).setCell (by simp) _).alloc (by simp [World.setCell]; omega) _))
  · have hz2 : (q.1 != 0) = false := by simp [bne, hz]
    have HM : Hid (J = .tuple #[.agg #[.int .i64 nm, .int .i64 G, .int .i64 Bd, .bool hd], .int .i64 0]) := HJ.out.trans (by rw [hz]; rfl)
    have HL2 : Hid (∀ w', Below w.heap.size w w' → Calls Try.prog 32 #[vt] w' fun e w'' => ∃ u, e = .returned u ∧ Ev4Cap w'' u E ∧ Below w'.heap.size w' w'') := HLS.out hz
    have HO2 : Hid (∀ (u : Value) (w' : World), Below w.heap.size w w' → Ev4Cap w' u E → Calls Try.prog 41 #[.agg #[vt, .bool fa, vc], u] w' fun e w'' => e = .returned (.agg #[.int .i64 nm, .int .i64 G, .int .i64 Bd, .bool hd]) ∧ Below w'.heap.size w' w'') := HOF.out hz
    clear HJ HLS HOF
    have hbw4 := hbw3.alloc hbw3.size (.cells #[.int .i64 q.1, .int .i64 q.2] 69)
    have hb34 := below_alloc w3 (.cells #[.int .i64 q.1, .int .i64 q.2] 69)
    go_wp2_with fail
    refine (HL2.out _ hbw4).mono ?_
    rintro e w5 ⟨u5, rfl, hu5, hb5⟩
    have HU5 : Hid (Ev4Cap w5 u5 E) := hu5
    have hbw5 := below_more hbw4 hb5
    have hb35 := below_more hb34 hb5
    replace t0 := keep_cell hb35 t0
    replace t1 := keep_cell hb35 t1
    replace t2 := keep_cell hb35 t2
    have HR5 : Hid (RepC w5 (w.heap.size + 1) 0 0 0 false) := HR3.out.keep hb35
    clear hu5 hb5 hb34 hbw4 hbw3 hb35 HR3
    go_wp2_with fail
    refine (HO2.out u5 w5 hbw5 HU5.out).mono ?_
    rintro e w6 ⟨rfl, hb6⟩
    have hbw6 := below_more hbw5 hb6
    obtain ⟨c0, c1, c2, c3, f0, f1, f2, f3⟩ := HR5.out.keep hb6
    clear hb6 t0 t1 t2 HR5
    go_wp2_with fail
    refine bodyPost_ret (v := .tuple #[.agg #[.int .i64 nm, .int .i64 G, .int .i64 Bd, .bool hd], .int .i64 0]) (by simp [results, Try.results23, go_sem, *]) rfl ⟨by rw [HM.out], ?_⟩
    exact (((hbw6.setCell (by simp) _).setCell (by simp) _).setCell (by simp) _).setCell (by simp) _

theorem WOut.same {T : List (List Ins)} {c : List Atm} {fa : Bool} {al : Nat → Bool} {w w' : World} {n n' : Int} {vf vo vf' vo' : Value} {er er' : Int} (h : WOut T c fa al w n vf vo er) (k : WOut T c fa al w' n' vf' vo' er') : n = n' ∧ er = er' ∧ ∃ x : Exe, (x.from'.length ≤ 100000 ∧ x.order.length ≤ 100000 ∧ ∀ y ∈ x.order, y.length ≤ 100000) ∧ ExeAt w vf vo x ∧ ExeAt w' vf' vo' x := by
  have z0 : (⟨[], []⟩ : Exe).from'.length ≤ 100000 ∧ (⟨[], []⟩ : Exe).order.length ≤ 100000 ∧ ∀ y ∈ (⟨[], []⟩ : Exe).order, y.length ≤ 100000 := ⟨by simp, by simp, fun y hy => by cases hy⟩
  rcases h with ⟨h1, h2, h3, h4⟩ | ⟨h1, h2, h3⟩ <;> rcases k with ⟨k1, k2, k3, k4⟩ | ⟨k1, k2, k3⟩
  · exact ⟨h2.trans k2.symm, h3.trans k3.symm, _, z0, h4, k4⟩
  · exact absurd k1 h1
  · exact absurd h1 k1
  · rcases h3 with ⟨a1, a2, a3⟩ | ⟨p, a1, a2, a3⟩ <;> rcases k3 with ⟨b1, b2, b3⟩ | ⟨q, b1, b2, b3⟩
    · exact ⟨a2.trans b2.symm, h2.trans k2.symm, _, z0, a3, b3⟩
    · rw [a1] at b1; cases b1
    · rw [a1] at b1; cases b1
    · rw [a1] at b1
      cases b1
      refine ⟨a2.trans b2.symm, h2.trans k2.symm, _, ?_, a3, b3⟩
      have hz : ((chk T c).1 == 0) = true := by simpa using h1
      have hE := (fits_of hz).el
      have hx := exN_isEx (evsT T 0) p
      refine ⟨?_, by have := hx.o3; omega, fun y hy => ?_⟩
      · have h4 := hx.f; have h5 := rdsX_len (evsT T 0) 0; omega
      · obtain ⟨j, hj⟩ := List.mem_iff_getElem?.1 hy
        have := hx.len hE hj
        omega

end Go.Proofs.Ytomijmikkbhgmab

namespace Go.Proofs.Ytomijmikkbhgmab
open Go.RowKit

theorem tabK_len : tabK.length = 16 := rfl
theorem tabK_small : (tabK.all fun k => k.bad != 0 && decide (k.good ≤ 1)) = true := by decide

theorem verV_known {k : Knw} (h : k ∈ tabK) : verV k.T k.c false (fun n => alB k.T (evsT k.T 0) (exN (evsT k.T 0) n)) = .tuple #[.agg #[.int .i64 (if k.good == 0 then 0 else 1), .int .i64 k.good, .int .i64 k.bad, .bool (decide (0 < k.good))], .int .i64 0] := by
  have h1 := List.all_eq_true.1 tabK_ok k h
  have h2 := List.all_eq_true.1 tabK_small k h
  unfold okK at h1
  simp only [Bool.and_eq_true, beq_iff_eq] at h1
  obtain ⟨e0, e1, e2⟩ := h1
  have hb : (k.bad == 0) = false := by simp at h2 ⊢; exact h2.1
  unfold verV
  rw [e0, e1, e2]
  simp only [beq_self_eq_true, if_true]
  unfold repV
  rw [hb]
  simp

set_option maxRecDepth 20000 in
set_option maxHeartbeats 4000000 in
theorem known_any (c : Int) (hc : -9223372036854775808 ≤ c ∧ c < 9223372036854775808) (w : World) : Calls Try.prog 8 #[.int .i64 c] w fun e w' => e = .returned (.bool true) ∧ Below w.heap.size w w' := by
  have HPK : Hid (∀ w', Calls Try.prog 12 #[.int .i64 c, .int .i64 16] w' fun e w'' => ∃ r : Nat, r < 16 ∧ e = .returned (.int .i64 r) ∧ Below w'.heap.size w' w'') := fun w' => pick_any c hc 16 (by omega) w'
  clear hc
  go_enter Try.func8, Try.ntmps8
  go_wp2_with fail
  refine (table_any w).mono ?_
  rintro e w1 ⟨b, rfl, HK, hb1⟩
  go_wp2_with fail
  refine (HPK.out w1).mono ?_
  rintro e w2 ⟨r, hr, rfl, hb2⟩
  obtain ⟨k, hk⟩ := get_of_lt (l := tabK) (k := r) (by rw [tabK_len]; exact hr)
  have hkm := List.mem_of_getElem? hk
  obtain ⟨vt, vc, k0, k1, k2, k3, k4, ht⟩ := HK.out r k hk
  obtain ⟨⟨a1, n1, p1, e1⟩, ⟨a2, n2, p2, e2⟩⟩ := test_form ht
  subst e1 e2
  have d0 := keep_cell hb2 k0
  have d1 := keep_cell hb2 k1
  have d2 := keep_cell hb2 k2
  have d3 := keep_cell hb2 k3
  have d4 := keep_cell hb2 k4
  have HV : Hid (∀ w', Below w2.heap.size w2 w' → Calls Try.prog 23 #[.agg #[.slice a1 n1 p1, .bool false, .slice a2 n2 p2]] w' fun e w'' => e = .returned (.tuple #[.agg #[.int .i64 (if k.good == 0 then 0 else 1), .int .i64 k.good, .int .i64 k.bad, .bool (decide (0 < k.good))], .int .i64 0]) ∧ Below w'.heap.size w' w'') := fun w' hb => by
    rw [← verV_known hkm]
    exact verdictP_any k.T false k.c _ (als_alB _ _) _ _ w' ((ht.keep hb2).keep hb)
  have hsm := List.all_eq_true.1 tabK_small k hkm
  have hg1 : k.good ≤ 1 := by simp at hsm; exact hsm.2
  have hrI : (r : Int) < 16 := by omega
  have hbw2 := below_more hb1 hb2
  generalize k.good = g at *
  generalize k.bad = bd at *
  have kb : ((bd : Int) == (bd : Int)) = true := by simp
  clear k0 k1 k2 k3 k4 ht HK hk hsm hkm HPK
  have hba := below_alloc w2 (.cells #[.slice a1 n1 p1, .bool false, .slice a2 n2 p2, .int .i64 g, .int .i64 bd] 56)
  have m0 := World.block_lt_of_cell? _ _ d0
  simp only at m0
  go_wp2_with fail
  refine (HV.out _ hba).mono ?_
  rintro e w4 ⟨rfl, hb4⟩
  have x3 := keep_cell hb4 (b := w2.heap.size) (off := 3) (u := .int .i64 g) (by simp)
  have x4 := keep_cell hb4 (b := w2.heap.size) (off := 4) (u := .int .i64 bd) (by simp)
  have hbw4 := below_more (below_more hbw2 hba) hb4
  have m4 := World.block_lt_of_cell? _ _ x3
  simp only at m4
  generalize w2.heap.size = B2 at x3 x4 m4 ⊢
  clear d0 d1 d2 d3 d4 hb4 hba HV
  have h01 : g = 0 ∨ g = 1 := by omega
  rcases h01 with rfl | rfl
  · go_wp2_with fail
    go_ret
    exact ⟨rfl, hbw4.alloc hbw4.size _⟩
  · go_wp2_with fail
    go_ret
    exact ⟨rfl, hbw4.alloc hbw4.size _⟩

end Go.Proofs.Ytomijmikkbhgmab
