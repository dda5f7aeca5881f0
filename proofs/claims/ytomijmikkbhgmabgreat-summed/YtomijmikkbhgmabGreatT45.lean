import Derived.Test.YtomijmikkbhgmabGreatT44
import Derived.Test.YtomijmikkbhgmabGreatT36
import Derived.Deep.CutRange
import Derived.Deep.RegionWith
namespace Go.Proofs.YtomijmikkbhgmabGreat
open Go.RowKit

def gdS (n : Nat) (c : List Atm) (S : List (List Int)) : Nat := (S.filter fun s => metB n c s).length
def bdS (n : Nat) (c : List Atm) (S : List (List Int)) : Nat := (S.filter fun s => !metB n c s).length
theorem gdS_yes {n : Nat} {c : List Atm} {l : List Int} (h : metB n c l = true) (S : List (List Int)) : gdS n c (S ++ [l]) = gdS n c S + 1 ∧ bdS n c (S ++ [l]) = bdS n c S := by
  unfold gdS bdS; simp [h]
theorem gdS_no {n : Nat} {c : List Atm} {l : List Int} (h : metB n c l = false) (S : List (List Int)) : gdS n c (S ++ [l]) = gdS n c S ∧ bdS n c (S ++ [l]) = bdS n c S + 1 := by
  unfold gdS bdS; simp [h]
theorem gdS_le (n : Nat) (c : List Atm) (S : List (List Int)) : gdS n c S ≤ S.length ∧ bdS n c S ≤ S.length := ⟨List.length_filter_le _ _, List.length_filter_le _ _⟩

/-- What is needed of cases. -/
theorem cas_parts {T : List (List Ins)} {E : List Evt} {B : Nat} {w : World} {b off n : Nat} (h : CasC T E B w b off n) : ∃ a1 n1 p1 a2 n2 p2 a3 p3, w.cell? ⟨b, off, none⟩ = some (.int .i64 n) ∧ w.cell? ⟨b, off + 1, none⟩ = some (.slice a1 n1 p1) ∧ w.cell? ⟨b, off + 2, none⟩ = some (.slice a2 n2 p2) ∧ w.cell? ⟨b, off + 3, none⟩ = some (.slice a3 (stX T E (exN E n)).length p3) ∧ StabB T E B w (.slice a1 n1 p1) (.slice a2 n2 p2) (.slice a3 (stX T E (exN E n)).length p3) n := by
  obtain ⟨vf, vo, u, h1, h2, h3, h4, h56⟩ := h
  obtain ⟨h5, h6⟩ := h56.now
  obtain ⟨a1, p1, e1⟩ := h5.f.form
  obtain ⟨a2, b2, o2, p2, hs2⟩ := h5.o
  have e2 := hs2.hv
  obtain ⟨a3, p3, e3⟩ := h6.form
  subst e1 e2 e3
  exact ⟨a1, _, p1, a2, _, p2, a3, p3, h1, h2, h3, h4, h56⟩

set_option maxRecDepth 20000 in
set_option maxHeartbeats 4000000 in
theorem verdictOf_any (T : List (List Ins)) (fa : Bool) (c : List Atm) (hz : ((chk T c).1 == 0) = true) (al : Nat → Bool) (hal : Als T (evsT T 0) al) (vt vc v : Value) (w : World) (h : TestAt w (.agg #[vt, .bool fa, vc]) T fa c vt vc) (hv : Ev4Cap w v (evsT T 0)) :
    Calls Tryz.prog 24 #[.agg #[vt, .bool fa, vc], v] w fun e w' => e = .returned (repV (gdN T.length c (optL al T (evsT T 0) (sizeN (evsT T 0)))) (bdN T.length c (optL al T (evsT T 0) (sizeN (evsT T 0)))) fa) ∧ Below w.heap.size w w' := by
  have HCS : Hid (∀ w', Below w.heap.size w w' → Calls Tryz.prog 43 #[vt, v] w' fun e w'' => ∃ u, e = .returned u ∧ CasAt T (evsT T 0) w'.heap.size w'' u (casN al (sizeN (evsT T 0))) ∧ Below w'.heap.size w' w'') := fun w' hb => cases_any T c hz al hal vt v w' (h.ht.keep hb) (hv.keep hb)
  have hT4 := (fits_of hz).short.t4
  have hAt := chk_atms hz
  have hN := chk_many_no hz
  have hC2 : (casN al (sizeN (evsT T 0))).length ≤ 2000 := Nat.le_trans (casN_len _ _) hN
  have HHD : Hid (∀ (s : List Int) (vs : Value) (w' : World), s.length = 3 * T.length + 3 → Below w.heap.size w w' → IntAt w' vs s → Calls Tryz.prog 44 #[.agg #[vt, .bool fa, vc], vs] w' fun e w'' => e = .returned (.bool (metB T.length c s)) ∧ Below w'.heap.size w' w'') := fun s vs w' hs hb hi => holdsP_any T hT4 fa c hAt vt vc s hs vs w' (h.keep hb) hi
  generalize hst : (fun n => stX T (evsT T 0) (exN (evsT T 0) n)) = st
  have hst' : ∀ n, stX T (evsT T 0) (exN (evsT T 0) n) = st n := fun n => by rw [← hst]
  have HGB : Hid (gdN T.length c (optL al T (evsT T 0) (sizeN (evsT T 0))) = gdS T.length c ((casN al (sizeN (evsT T 0))).map st) ∧ bdN T.length c (optL al T (evsT T 0) (sizeN (evsT T 0))) = bdS T.length c ((casN al (sizeN (evsT T 0))).map st)) := by
    unfold gdN bdN gdS bdS
    rw [casN_states, hst]
    exact ⟨rfl, rfl⟩
  have HSL : Hid (∀ n, (st n).length = 3 * T.length + 3) := fun n => by rw [← hst']; exact stX_len _ _ _
  have HKN : Hid (∀ B w' b off n, CasC T (evsT T 0) B w' b off n → ∃ a1 n1 p1 a2 n2 p2 a3 p3, w'.cell? ⟨b, off, none⟩ = some (.int .i64 n) ∧ w'.cell? ⟨b, off + 1, none⟩ = some (.slice a1 n1 p1) ∧ w'.cell? ⟨b, off + 2, none⟩ = some (.slice a2 n2 p2) ∧ w'.cell? ⟨b, off + 3, none⟩ = some (.slice a3 (st n).length p3) ∧ IntAt w' (.slice a3 (st n).length p3) (st n)) := fun B w' b off n hc => by
    obtain ⟨a1, n1, p1, a2, n2, p2, a3, p3, k1, k2, k3, k4, k5⟩ := cas_parts hc
    have k6 := k5.now.2
    rw [hst'] at k4 k6
    exact ⟨a1, n1, p1, a2, n2, p2, a3, p3, k1, k2, k3, k4, k6⟩
  generalize gdN T.length c (optL al T (evsT T 0) (sizeN (evsT T 0))) = G at HGB ⊢
  generalize bdN T.length c (optL al T (evsT T 0) (sizeN (evsT T 0))) = Bd at HGB ⊢
  obtain ⟨_, aoT, bT, offT, capT, hvT, _⟩ := h.ht
  obtain ⟨hc0, aoc, bc, offc, capc, hsc⟩ := h.hc
  have hcv := hsc.hv
  obtain ⟨ao, b, off, cap, ⟨hv1, _, _, _⟩, _⟩ := hv
  subst hv1 hvT hcv
  clear hz hal hN hst hst' h hsc hAt
  generalize evsT T 0 = E at *
  generalize casN al (sizeN E) = C at *
  have HTK : Hid (∀ (k n : Nat), C[k]? = some n → (C.map st).take (k + 1) = (C.map st).take k ++ [st n]) := fun k n hk => by rw [List.take_add_one, List.getElem?_map, hk]; rfl
  have HGL : Hid (∀ k, gdS T.length c ((C.map st).take k) ≤ 2000 ∧ bdS T.length c ((C.map st).take k) ≤ 2000) := fun k => by
    have h1 := gdS_le T.length c ((C.map st).take k)
    have h3 : ((C.map st).take k).length ≤ 2000 := by rw [List.length_take, List.length_map]; omega
    exact ⟨by omega, by omega⟩
  go_enter Tryz.func24, Tryz.ntmps24
  go_wp2_with fail
  have hba := below_two w (.cells #[.slice aoT T.length capT, .bool fa, .slice aoc c.length capc] 25) (.cells #[.int .i64 0, .int .i64 0, .int .i64 0, .bool false] 42)
  refine (HCS.out _ hba).mono ?_
  rintro e w3 ⟨uc, rfl, hcs, hb3⟩
  have hbw3 := below_more hba hb3
  have t0 := keep_cell hb3 (b := w.heap.size) (off := 0) (u := .slice aoT T.length capT) (by simp)
  have t1 := keep_cell hb3 (b := w.heap.size) (off := 1) (u := .bool fa) (by simp)
  have t2 := keep_cell hb3 (b := w.heap.size) (off := 2) (u := .slice aoc c.length capc) (by simp)
  have HR3 : Hid (RepC w3 (w.heap.size + 1) 0 0 0 false) := by
    refine RepC.keep (w := (w.alloc (.cells #[.slice aoT T.length capT, .bool fa, .slice aoc c.length capc] 25)).alloc (.cells #[.int .i64 0, .int .i64 0, .int .i64 0, .bool false] 42)) ⟨?_, ?_, ?_, ?_, ?_, ?_, ?_, ?_⟩ hb3 <;> simp
  obtain ⟨aoC, bC, offC, capC, hvC, haC, _, hcC⟩ := hcs
  subst hvC
  have HCC : Hid (∀ (k n : Nat), C[k]? = some n → ∃ a1 n1 p1 a2 n2 p2 a3 p3, w3.cell? ⟨bC, offC + k * 4, none⟩ = some (.int .i64 n) ∧ w3.cell? ⟨bC, offC + k * 4 + 1, none⟩ = some (.slice a1 n1 p1) ∧ w3.cell? ⟨bC, offC + k * 4 + 2, none⟩ = some (.slice a2 n2 p2) ∧ w3.cell? ⟨bC, offC + k * 4 + 3, none⟩ = some (.slice a3 (st n).length p3) ∧ IntAt w3 (.slice a3 (st n).length p3) (st n)) := fun k n hk => HKN.out _ _ _ _ _ (hcC k n hk)
  have HK : Hid (∀ w', Below w3.heap.size w3 w' → w'.cell? ⟨w.heap.size, 0, none⟩ = some (.slice aoT T.length capT) ∧ w'.cell? ⟨w.heap.size, 1, none⟩ = some (.bool fa) ∧ w'.cell? ⟨w.heap.size, 2, none⟩ = some (.slice aoc c.length capc)) := fun w' hb => ⟨keep_cell hb t0, keep_cell hb t1, keep_cell hb t2⟩
  clear hcC HCS HKN t0 t1 t2 hb3 hba
  go_wp2_with fail
  go_loopw [5, 6, 15] (fun x y i wr => ∃ k : Nat, k ≤ C.length ∧ i = .int .i64 k ∧ x = .int .i64 ((gdS T.length c ((C.map st).take k) : Nat) : Int) ∧ y = .int .i64 ((bdS T.length c ((C.map st).take k) : Nat) : Int) ∧ Below w3.heap.size w3 wr) (fun _ _ i _ => C.length - (intOf i).toNat)
  case atStart => exact ⟨0, Nat.zero_le _, rfl, rfl, rfl, Below.refl _ _⟩
  case round =>
    obtain ⟨k, hk, rfl, rfl, rfl, hb⟩ := hrel
    obtain ⟨hg2, hb2⟩ := HGL.out k
    have hbw := below_more hbw3 hb
    obtain ⟨t0, t1, t2⟩ := HK.out wr hb
    by_cases hlt : k < C.length
    · obtain ⟨n, hn⟩ := get_of_lt hlt
      obtain rfl := haC (ne_nil hlt)
      obtain ⟨a1, n1, p1, a2, n2, p2, a3, p3, c0, c1, c2, c3, hus⟩ := HCC.out k n hn
      have htk := HTK.out k n hn
      have HYES : Hid (metB T.length c (st n) = true → gdS T.length c ((C.map st).take (k + 1)) = gdS T.length c ((C.map st).take k) + 1 ∧ bdS T.length c ((C.map st).take (k + 1)) = bdS T.length c ((C.map st).take k)) := fun hm => by rw [htk]; exact gdS_yes hm _
      have HNO : Hid (metB T.length c (st n) = false → gdS T.length c ((C.map st).take (k + 1)) = gdS T.length c ((C.map st).take k) ∧ bdS T.length c ((C.map st).take (k + 1)) = bdS T.length c ((C.map st).take k) + 1) := fun hm => by rw [htk]; exact gdS_no hm _
      have HH1 : Hid (∀ w', Below wr.heap.size wr w' → Calls Tryz.prog 44 #[.agg #[.slice aoT T.length capT, .bool fa, .slice aoc c.length capc], .slice a3 (st n).length p3] w' fun e w'' => e = .returned (.bool (metB T.length c (st n))) ∧ Below w'.heap.size w' w'') := fun w' hb' => HHD.out (st n) _ w' (HSL.out n) (below_more hbw hb') (hus.keep (below_more hb hb'))
      generalize metB T.length c (st n) = mt at HYES HNO HH1
      have d0 := keep_cell hb c0
      have d1 := keep_cell hb c1
      have d2 := keep_cell hb c2
      have d3 := keep_cell hb c3
      have hkI : (k : Int) < (C.length : Int) := by omega
      generalize (st n).length = ln at *
      generalize gdS T.length c ((C.map st).take k) = g at *
      generalize bdS T.length c ((C.map st).take k) = bd at *
      clear hus htk c0 c1 c2 c3 hn
      have hm0 := World.block_lt_of_cell? _ _ t0
      simp only at hm0
      go_wp2_with fail
      have hba2 := below_alloc wr (.cells #[.int .i64 n, .slice a1 n1 p1, .slice a2 n2 p2, .slice a3 ln p3] 74)
      refine (HH1.out _ hba2).mono ?_
      rintro e w5 ⟨rfl, hb5⟩
      have hb35 := below_more (below_more hb hba2) hb5
      clear d0 d1 d2 d3 t0 t1 t2 hb5 hba2 HH1
      cases mt
      · obtain ⟨e1, e2⟩ := HNO.out rfl
        have HE : Hid (gdS T.length c ((C.map st).take (k + 1)) = g ∧ bdS T.length c ((C.map st).take (k + 1)) = bd + 1) := ⟨e1, e2⟩
        have hwr : IntKind.i64.wrap ((bd : Int) + 1) = ((bd + 1 : Nat) : Int) := by rw [IntKind.wrap_i64]; omega
        clear e1 e2 HYES HNO
        go_wp2_with fail
        go_roundw
        case measure => simp [intOf]; omega
        case rel => exact ⟨k + 1, by omega, by go_num, by rw [HE.out.1], by rw [HE.out.2]; go_num, hb35⟩
      · obtain ⟨e1, e2⟩ := HYES.out rfl
        have HE : Hid (gdS T.length c ((C.map st).take (k + 1)) = g + 1 ∧ bdS T.length c ((C.map st).take (k + 1)) = bd) := ⟨e1, e2⟩
        have hwr : IntKind.i64.wrap ((g : Int) + 1) = ((g + 1 : Nat) : Int) := by rw [IntKind.wrap_i64]; omega
        clear e1 e2 HYES HNO
        go_wp2_with fail
        go_roundw
        case measure => simp [intOf]; omega
        case rel => exact ⟨k + 1, by omega, by go_num, by rw [HE.out.1]; go_num, by rw [HE.out.2], hb35⟩
    · have htk : (C.map st).take k = C.map st := List.take_of_length_le (by rw [List.length_map]; omega)
      rw [htk] at hg2 hb2
      rw [htk]
      have hkI : (C.length : Int) ≤ (k : Int) := by omega
      obtain ⟨e1, e2⟩ := HGB.out
      rw [← e1, ← e2]
      rw [← e1] at hg2
      rw [← e2] at hb2
      have HNM : Hid (∀ w', Calls Tryz.prog 45 #[.int .i64 G, .int .i64 Bd] w' fun e w'' => e = .returned (.int .i64 (if G == 0 then 0 else if Bd == 0 then 2 else 1)) ∧ Below w'.heap.size w' w'') := fun w' => named_any G Bd w'
      have HRP : Hid (repV G Bd fa = .agg #[.int .i64 (if G == 0 then 0 else if Bd == 0 then 2 else 1), .int .i64 G, .int .i64 Bd, .bool (if fa then Bd == 0 else decide (0 < G))]) := rfl
      generalize (if G == 0 then (0 : Int) else if Bd == 0 then 2 else 1) = nm at HNM HRP
      obtain ⟨r0, r1, r2, r3, s0, s1, s2, s3⟩ := HR3.out.keep hb
      have HRB : Hid (RepC wr (w.heap.size + 1) 0 0 0 false) := HR3.out.keep hb
      clear htk e1 e2 r0 r1 r2 r3 s0 s1 s2 s3 t0 t2
      go_wp2_with fail
      refine (HNM.out wr).mono ?_
      rintro e w5 ⟨rfl, hb5⟩
      replace t1 := keep_cell hb5 t1
      have hrk := HRB.out.keep hb5
      have hrl := hrk.lt
      obtain ⟨r0, r1, r2, r3, s0, s1, s2, s3⟩ := hrk
      have hbw5 := below_more hbw hb5
      have hm1 := World.block_lt_of_cell? _ _ t1
      simp only at hm1
      clear HRB hb5
      cases fa
      · rcases Nat.eq_zero_or_pos G with hg0 | hg0
        · subst hg0
          go_wp2_with fail
          refine bodyPost_ret (v := .agg #[.int .i64 nm, .int .i64 0, .int .i64 Bd, .bool false]) (by simp [results, Tryz.results24, go_sem, *]) rfl ⟨by rw [HRP.out]; rfl, ?_⟩
          refine Below.alloc ?_ (by have := hbw5.size; first | (simp; done) | (simp; omega)) _
          repeat (refine Below.setCell ?_ (by first | (simp; done) | (simp; omega) | omega) _)
          exact hbw5
        · have hgI : (0 : Int) < (G : Int) := by omega
          go_wp2_with fail
          refine bodyPost_ret (v := .agg #[.int .i64 nm, .int .i64 G, .int .i64 Bd, .bool true]) (by simp [results, Tryz.results24, go_sem, *]) rfl ⟨by rw [HRP.out]; simp [hg0], ?_⟩
          refine Below.alloc ?_ (by have := hbw5.size; first | (simp; done) | (simp; omega)) _
          repeat (refine Below.setCell ?_ (by first | (simp; done) | (simp; omega) | omega) _)
          exact hbw5
      · rcases Nat.eq_zero_or_pos Bd with hb0 | hb0
        · subst hb0
          go_wp2_with fail
          refine bodyPost_ret (v := .agg #[.int .i64 nm, .int .i64 G, .int .i64 0, .bool true]) (by simp [results, Tryz.results24, go_sem, *]) rfl ⟨by rw [HRP.out]; rfl, ?_⟩
          refine Below.alloc ?_ (by have := hbw5.size; first | (simp; done) | (simp; omega)) _
          repeat (refine Below.setCell ?_ (by first | (simp; done) | (simp; omega) | omega) _)
          exact hbw5
        · have hbe : ((Bd : Int) == 0) = false := by simp; omega
          have hbn : (Bd == 0) = false := by simp; omega
          go_wp2_with fail
          refine bodyPost_ret (v := .agg #[.int .i64 nm, .int .i64 G, .int .i64 Bd, .bool false]) (by simp [results, Tryz.results24, go_sem, *]) rfl ⟨by rw [HRP.out]; simp [hbn], ?_⟩
          refine Below.alloc ?_ (by have := hbw5.size; first | (simp; done) | (simp; omega)) _
          repeat (refine Below.setCell ?_ (by first | (simp; done) | (simp; omega) | omega) _)
          exact hbw5

end Go.Proofs.YtomijmikkbhgmabGreat

namespace Go.Proofs.YtomijmikkbhgmabGreat
open Go.RowKit

def stK (al : Nat → Bool) (st : Nat → List Int) (k : Nat) : List (List Int) := (casN al k).map st
def ctK (al : Nat → Bool) (st : Nat → List Int) (k : Nat) : List (List Int × Nat) := (stK al st k).foldl addK []
def fstC (al cond : Nat → Bool) (k : Nat) : Int := match (casN al k).find? cond with
  | some j => (j : Int)
  | none => -1

theorem stK_yes {al : Nat → Bool} {k : Nat} (h : al k = true) (st : Nat → List Int) : stK al st (k + 1) = stK al st k ++ [st k] := by unfold stK; rw [casN_yes h]; simp
theorem stK_no {al : Nat → Bool} {k : Nat} (h : al k = false) (st : Nat → List Int) : stK al st (k + 1) = stK al st k := by unfold stK; rw [casN_no h]
theorem ctK_yes {al : Nat → Bool} {k : Nat} (h : al k = true) (st : Nat → List Int) : ctK al st (k + 1) = addK (ctK al st k) (st k) := by unfold ctK; rw [stK_yes h, List.foldl_append]; rfl
theorem ctK_no {al : Nat → Bool} {k : Nat} (h : al k = false) (st : Nat → List Int) : ctK al st (k + 1) = ctK al st k := by unfold ctK; rw [stK_no h]
theorem fstC_no {al : Nat → Bool} {k : Nat} (h : al k = false) (cond : Nat → Bool) : fstC al cond (k + 1) = fstC al cond k := by unfold fstC; rw [casN_no h]
theorem fstC_yes {al : Nat → Bool} {k : Nat} (h : al k = true) (mt : Nat → Bool) (fa : Bool) : fstC al (fun j => mt j != fa) (k + 1) = fstN (mt k) fa (fstC al (fun j => mt j != fa) k) k := by
  unfold fstC fstN
  rw [casN_yes h, List.find?_append]
  cases hf : (casN al k).find? fun j => mt j != fa with
  | some j =>
    have : ((j : Int) == -1) = false := by rw [beq_eq_false_iff_ne]; omega
    simp [this]
  | none =>
    cases hc : mt k != fa <;> simp [hc]

theorem ctK_sums (al : Nat → Bool) (st : Nat → List Int) (k : Nat) : Sums (ctK al st k) (stK al st k) := by
  induction k with
  | zero => exact Sums.nil
  | succ k ih =>
    cases h : al k
    · rw [ctK_no h, stK_no h]; exact ih
    · rw [ctK_yes h, stK_yes h]; exact ih.add _

theorem stK_len (al : Nat → Bool) (st : Nat → List Int) (k : Nat) : (stK al st k).length ≤ k := by unfold stK; rw [List.length_map]; exact casN_len al k

theorem cnSt_le' (L : List (List Int)) (t : List Int) : cnSt L t ≤ L.length := by
  induction L with
  | nil => simp [cnSt]
  | cons a L ih => rw [cnSt_cons, List.length_cons]; split <;> omega

theorem ctK_fit {n : Nat} (al : Nat → Bool) (st : Nat → List Int) (hst : ∀ k, (st k).length = n) (k : Nat) : (ctK al st k).length ≤ k ∧ (∀ p ∈ ctK al st k, p.2 ≤ k) ∧ ∀ p ∈ ctK al st k, p.1.length = n := by
  have hS := ctK_sums al st k
  have hl := stK_len al st k
  have hL : ∀ s ∈ stK al st k, s.length = n := fun s hs => by
    unfold stK at hs
    obtain ⟨j, _, rfl⟩ := List.mem_map.1 hs
    exact hst j
  refine ⟨?_, fun p hp => ?_, fun p hp => ?_⟩
  · have h1 := (sums_out hL hS).1
    have h2 := outK_len (stK al st k)
    omega
  · rw [hS.cnt p hp]
    have := cnSt_le' (stK al st k) p.1
    omega
  · exact hL _ ((hS.has _).1 (hasK_iff.2 ⟨p, hp, rfl⟩))

/-- What is counted of the candidates below k. -/
structure Gat (n : Nat) (fa : Bool) (c : List Atm) (al : Nat → Bool) (st : Nat → List Int) (G B : Nat → Nat) (F : Nat → Int) (KK : Nat → List (List Int × Nat)) : Prop where
  zer : G 0 = 0 ∧ B 0 = 0 ∧ F 0 = -1 ∧ KK 0 = []
  yes : ∀ k, al k = true → G (k + 1) = upN (metB n c (st k)) (G k) ∧ B (k + 1) = dnN (metB n c (st k)) (B k) ∧ F (k + 1) = fstN (metB n c (st k)) fa (F k) k ∧ KK (k + 1) = addK (KK k) (st k)
  no : ∀ k, al k = false → G (k + 1) = G k ∧ B (k + 1) = B k ∧ F (k + 1) = F k ∧ KK (k + 1) = KK k
  fit : ∀ k, G k ≤ k ∧ B k ≤ k ∧ (KK k).length ≤ k ∧ (∀ p ∈ KK k, p.2 ≤ k) ∧ ∀ p ∈ KK k, p.1.length = 3 * n + 3

theorem gat_of (n : Nat) (fa : Bool) (c : List Atm) (al : Nat → Bool) (st : Nat → List Int) (hst : ∀ k, (st k).length = 3 * n + 3) : Gat n fa c al st (fun k => gdS n c (stK al st k)) (fun k => bdS n c (stK al st k)) (fstC al fun j => metB n c (st j) != fa) (ctK al st) := by
  refine ⟨⟨rfl, rfl, rfl, rfl⟩, fun k hk => ⟨?_, ?_, fstC_yes hk (fun j => metB n c (st j)) fa, ctK_yes hk st⟩, fun k hk => ⟨?_, ?_, fstC_no hk _, ctK_no hk st⟩, fun k => ?_⟩
  · show gdS n c (stK al st (k + 1)) = _
    rw [stK_yes hk]
    cases hm : metB n c (st k)
    · rw [(gdS_no hm _).1]; rfl
    · rw [(gdS_yes hm _).1]; rfl
  · show bdS n c (stK al st (k + 1)) = _
    rw [stK_yes hk]
    cases hm : metB n c (st k)
    · rw [(gdS_no hm _).2]; rfl
    · rw [(gdS_yes hm _).2]; rfl
  · show gdS n c (stK al st (k + 1)) = _
    rw [stK_no hk]
  · show bdS n c (stK al st (k + 1)) = _
    rw [stK_no hk]
  · have h1 := gdS_le n c (stK al st k)
    have h2 := stK_len al st k
    have h3 := ctK_fit al st hst k
    exact ⟨by show gdS n c _ ≤ _; omega, by show bdS n c _ ≤ _; omega, h3⟩

end Go.Proofs.YtomijmikkbhgmabGreat

namespace Go.Proofs.YtomijmikkbhgmabGreat
open Go.RowKit

/-- What gathered hands back. -/
def GatOut (w : World) (g b : Nat) (f : Int) (K : List (List Int × Nat)) (e : Ending) (w' : World) : Prop :=
  ∃ R V O vs, e = .returned (.tuple #[.pointer (some ⟨R, 0, none⟩), .bool true]) ∧ SumAt (w.heap.size + 1) w' R g b f V O (K.map (·.1)) (K.map (·.2)) vs ∧ Below w.heap.size w w'

theorem JudIs.range {P : Prop} {t : Bool} {Q S : Prop} {r : Int} (h : JudIs P t Q S r) : 0 ≤ r ∧ r ≤ 4 := by
  rcases h with ⟨h, _⟩ | ⟨_, ⟨h, _⟩ | ⟨_, ⟨h, _⟩ | ⟨_, ⟨h, _⟩ | ⟨_, h⟩⟩⟩⟩ <;> omega

theorem shuf_of {l m : List Int} (h1 : l.Nodup) (h2 : m.Nodup) (h : ∀ a, a ∈ l ↔ a ∈ m) : shufB l m = true := by
  have hp := (List.perm_ext_iff_of_nodup h1 h2).2 h
  unfold shufB
  simp only [Bool.and_eq_true, beq_iff_eq, List.all_eq_true, List.contains_iff_mem]
  exact ⟨hp.length_eq, fun a ha => (h a).2 ha⟩

theorem IsEx.exeB {E : List Evt} {x : Exe} (h : IsEx E x) : exeB E x = true := by
  unfold Go.Proofs.YtomijmikkbhgmabGreat.exeB
  simp only [Bool.and_eq_true, beq_iff_eq, List.all_eq_true]
  refine ⟨⟨h.f, h.o3⟩, fun q hq => ?_, fun j hj => ?_⟩
  · unfold okFrom
    simp only [Bool.or_eq_true, List.contains_iff_mem, beq_iff_eq]
    exact (h.fw q hq).symm
  · have hj3 : j < x.order.length := by rw [h.o3]; rw [List.mem_range'_1] at hj; omega
    obtain ⟨l, hl⟩ := get_of_lt hj3
    unfold okOrd
    rw [List.getD, hl]
    obtain ⟨k1, k2⟩ := h.od j l hl
    exact shuf_of k1 (wrs_nodup E _) k2

/-- What Candidate, Judge and State say of the candidates of a test that may be. -/
structure Says (T : List (List Ins)) (fa : Bool) (c : List Atm) (N : Nat) (al : Nat → Bool) (ex : Nat → Exe) (st : Nat → List Int) (rj : Nat → Int) : Prop where
  cand : ∀ (k : Nat) (w : World) (vt vc : Value), k < N → TestAt w (.agg #[vt, .bool fa, vc]) T fa c vt vc → Calls Tryz.prog 12 #[.agg #[vt, .bool fa, vc], .int .i64 k] w fun e w' => ∃ vf vo, e = .returned (.tuple #[.agg #[vf, vo], .int .i64 0]) ∧ Hid (ExeAt w' vf vo (ex k)) ∧ Below w.heap.size w w'
  judge : ∀ (k : Nat) (w : World) (vt vc vf vo : Value), k < N → TestAt w (.agg #[vt, .bool fa, vc]) T fa c vt vc → ExeAt w vf vo (ex k) → Calls Tryz.prog 21 #[.agg #[vt, .bool fa, vc], .agg #[vf, vo]] w fun e w' => e = .returned (.tuple #[.int .i64 (rj k), .int .i64 0]) ∧ Below w.heap.size w w'
  yes : ∀ (k : Nat) (w : World) (vt vc vf vo : Value), k < N → al k = true → TestAt w (.agg #[vt, .bool fa, vc]) T fa c vt vc → ExeAt w vf vo (ex k) → Calls Tryz.prog 22 #[.agg #[vt, .bool fa, vc], .agg #[vf, vo]] w fun e w' => ∃ u, e = .returned (.tuple #[u, .int .i64 0]) ∧ Hid (IntNew w.heap.size w' u (st k)) ∧ Below w.heap.size w w'
  no : ∀ (k : Nat) (w : World) (vt vc vf vo : Value), k < N → al k = false → TestAt w (.agg #[vt, .bool fa, vc]) T fa c vt vc → ExeAt w vf vo (ex k) → Calls Tryz.prog 22 #[.agg #[vt, .bool fa, vc], .agg #[vf, vo]] w fun e w' => e = .returned (.tuple #[.slice none 0 0, .int .i64 8]) ∧ Below w.heap.size w w'
  rng : ∀ k, 0 ≤ rj k ∧ rj k ≤ 4
  zero : ∀ k, k < N → (rj k == 0) = al k

theorem says_of (T : List (List Ins)) (fa : Bool) (c : List Atm) (hz : ((chk T c).1 == 0) = true) (al : Nat → Bool) (hal : Als T (evsT T 0) al) : ∃ rj, Says T fa c (sizeN (evsT T 0)) al (exN (evsT T 0)) (fun k => stX T (evsT T 0) (exN (evsT T 0) k)) rj := by
  have h0 : (chk T c).1 = 0 := by simpa using hz
  obtain ⟨rj, hrj⟩ : ∃ rj : Nat → Int, ∀ n, JudIs (Cyc (evsT T 0).length (cohA (evsT T 0) (exN (evsT T 0) n))) (tornB (evsT T 0) (exN (evsT T 0) n)) (Cyc (evsT T 0).length (kepA T (evsT T 0) (exN (evsT T 0) n))) (¬ Parts (evsT T 0).length (mtL (thoL 2 (evsT T 0) 0) (thoL 3 (evsT T 0) 0) (thoL 4 (evsT T 0) 0)) (kepA T (evsT T 0) (exN (evsT T 0) n))) (rj n) :=
    ⟨fun n => Classical.choose (JudIs.ex _ _ _ _), fun n => Classical.choose_spec (JudIs.ex _ _ _ _)⟩
  have hF := fits_of hz
  have hexb : ∀ n, exeB (evsT T 0) (exN (evsT T 0) n) = true := fun n => (exN_isEx (evsT T 0) n).exeB
  have hone : ∀ n r er, JOut T c (exN (evsT T 0) n) r er → r = rj n ∧ er = 0 := fun n r er h => h.one (.inr ⟨h0, .inr ⟨hexb n, rfl, hrj n⟩⟩)
  have hzero : ∀ k, k < sizeN (evsT T 0) → (rj k == 0) = al k := fun n hn => by
    rw [Bool.eq_iff_iff, hal n hn, beq_iff_eq]
    exact (hrj n).zero
  refine ⟨rj, ⟨?_, ?_, ?_, ?_, fun k => (hrj k).range, hzero⟩⟩
  · intro k w vt vc hk ht
    refine (candP_any T fa c _ vt vc k w ht).mono ?_
    rintro e w' ⟨vf, vo, he, hx, hb⟩
    have e1 : cErr T c k = 0 := by unfold cErr; rw [if_pos hz, if_pos ⟨by omega, by omega⟩]
    have e2 : cExe T c k = exN (evsT T 0) k := by unfold cExe; rw [if_pos hz, if_pos ⟨by omega, by omega⟩]; rfl
    rw [e1] at he
    rw [e2] at hx
    exact ⟨vf, vo, he, hx, hb⟩
  · intro k w vt vc vf vo hk ht hx
    refine (judgeP_any T fa c vt vc _ vf vo w ht hx).mono ?_
    rintro e w' ⟨r, er, he, hj, hb⟩
    obtain ⟨rfl, rfl⟩ := hone k r er hj
    exact ⟨he, hb⟩
  · intro k w vt vc vf vo hk ha ht hx
    refine (stateP_new T fa c vt vc _ vf vo w ht hx).mono ?_
    rintro e w' ⟨u, er, he, ⟨r, jr, hj, hs⟩, hb⟩
    obtain ⟨rfl, rfl⟩ := hone k r jr hj
    have hr : rj k = 0 := by have := hzero k hk; rw [ha] at this; simpa using this
    rcases hs with ⟨h1, _⟩ | ⟨_, h1, _⟩ | ⟨_, _, rfl, _, h5⟩
    · exact absurd rfl h1
    · exact absurd hr h1
    · exact ⟨u, he, h5, hb⟩
  · intro k w vt vc vf vo hk ha ht hx
    refine (stateP_new T fa c vt vc _ vf vo w ht hx).mono ?_
    rintro e w' ⟨u, er, he, ⟨r, jr, hj, hs⟩, hb⟩
    obtain ⟨rfl, rfl⟩ := hone k r jr hj
    have hr : rj k ≠ 0 := by have := hzero k hk; rw [ha] at this; simpa using this
    rcases hs with ⟨h1, _⟩ | ⟨_, _, rfl, rfl⟩ | ⟨_, h1, _⟩
    · exact absurd rfl h1
    · exact ⟨he, hb⟩
    · exact absurd h1 hr

end Go.Proofs.YtomijmikkbhgmabGreat
