import Derived.Test.YtomijmikkbhgmaaGreatT34
import Derived.Test.YtomijmikkbhgmaaGreatT4
namespace Go.Proofs.YtomijmikkbhgmaaGreat
open Go.RowKit

theorem find_hit {α : Type} {p : α → Bool} {a : α} (h : p a = true) (l : List α) : (a :: l).find? p = some a := List.find?_cons_of_pos h
theorem find_mis {α : Type} {p : α → Bool} {a : α} (h : p a = false) (l : List α) : (a :: l).find? p = l.find? p := List.find?_cons_of_neg (by simp [h])

theorem witL_find (al : Nat → Bool) (st : Nat → List Int) (n : Nat) (c : List Atm) (fa : Bool) (m i : Nat) : witL n c fa ((List.range' i m).map fun k => if al k then some (st k) else none) i = ((List.range' i m).filter al).find? fun k => metB n c (st k) != fa := by
  induction m generalizing i with
  | zero => rfl
  | succ m ih =>
    rw [List.range'_succ, List.map_cons]
    cases h : al i
    · rw [List.filter_cons_of_neg (by simp [h])]
      simp only [Bool.false_eq_true, if_false]
      rw [witL]
      exact ih (i + 1)
    · rw [List.filter_cons_of_pos h]
      simp only [if_true]
      cases hm : (metB n c (st i) != fa)
      · rw [witL_no hm, find_mis (p := fun k => metB n c (st k) != fa) hm]
        exact ih (i + 1)
      · rw [witL_yes hm, find_hit (p := fun k => metB n c (st k) != fa) hm]
theorem wit_same (al : Nat → Bool) (T : List (List Ins)) (E : List Evt) (c : List Atm) (fa : Bool) (N : Nat) : witL T.length c fa (optL al T E N) 0 = (casN al N).find? fun k => metB T.length c (stX T E (exN E k)) != fa := by
  unfold optL casN
  rw [List.range_eq_range']
  exact witL_find al _ _ _ _ _ _

/-- A case in a block of its own. -/
structure CasB (w : World) (R : Nat) : Prop where
  c0 : w.cell? ⟨R, 0, none⟩ = some (.int .i64 0)
  c1 : w.cell? ⟨R, 1, none⟩ = some (.slice none 0 0)
  c2 : w.cell? ⟨R, 2, none⟩ = some (.slice none 0 0)
  c3 : w.cell? ⟨R, 3, none⟩ = some (.slice none 0 0)
  f0 : w.frozen? ⟨R, 0, none⟩ = false
  f1 : w.frozen? ⟨R, 1, none⟩ = false
  f2 : w.frozen? ⟨R, 2, none⟩ = false
  f3 : w.frozen? ⟨R, 3, none⟩ = false
theorem CasB.lt {w : World} {R : Nat} (k : CasB w R) : R < w.heap.size := World.block_lt_of_cell? w _ k.c0
theorem CasB.keep {w w' : World} {R : Nat} (k : CasB w R) (hb : Below w.heap.size w w') : CasB w' R :=
  ⟨keep_cell hb k.c0, keep_cell hb k.c1, keep_cell hb k.c2, keep_cell hb k.c3, (hb.frozen (p := ⟨R, 0, none⟩) k.lt).trans k.f0, (hb.frozen (p := ⟨R, 1, none⟩) k.lt).trans k.f1, (hb.frozen (p := ⟨R, 2, none⟩) k.lt).trans k.f2, (hb.frozen (p := ⟨R, 3, none⟩) k.lt).trans k.f3⟩

/-- What verdict.Witness tells. -/
def WX (E : List Evt) (wl : Option Nat) (w : World) (n : Int) (vf vo : Value) : Prop := (wl = none ∧ n = -1 ∧ vf = .slice none 0 0 ∧ vo = .slice none 0 0) ∨ ∃ k, wl = some k ∧ n = (k : Int) ∧ ExeAt w vf vo (exN E k)

/-- .. in lists of its own. -/
def WXF (B : Nat) (E : List Evt) (wl : Option Nat) (w : World) (n : Int) (vf vo : Value) : Prop := (wl = none ∧ n = -1 ∧ vf = .slice none 0 0 ∧ vo = .slice none 0 0) ∨ ∃ k, wl = some k ∧ n = (k : Int) ∧ ExeF B w vf vo (exN E k)
theorem WXF.at' {B : Nat} {E : List Evt} {wl : Option Nat} {w : World} {n : Int} {vf vo : Value} (h : WXF B E wl w n vf vo) : WX E wl w n vf vo := by
  rcases h with h | ⟨k, h1, h2, h3⟩
  · exact .inl h
  · exact .inr ⟨k, h1, h2, h3.new.at'⟩

set_option maxRecDepth 20000 in
set_option maxHeartbeats 4000000 in
theorem verdictWit_own (T : List (List Ins)) (fa : Bool) (c : List Atm) (hz : ((chk T c).1 == 0) = true) (al : Nat → Bool) (hal : Als T (evsT T 0) al) (vt vc v : Value) (w : World) (h : TestAt w (.agg #[vt, .bool fa, vc]) T fa c vt vc) (hv : Ev4Cap w v (evsT T 0)) :
    Calls Tryz.prog 51 #[.agg #[vt, .bool fa, vc], v] w fun e w' => ∃ (n : Int) (vf vo u : Value), e = .returned (.agg #[.int .i64 n, vf, vo, u]) ∧ WXF w.heap.size (evsT T 0) (witL T.length c fa (optL al T (evsT T 0) (sizeN (evsT T 0))) 0) w' n vf vo ∧ (∃ a l p, u = .slice a l p) ∧ Below w.heap.size w w' := by
  have HCS : Hid (∀ w', Below w.heap.size w w' → Calls Tryz.prog 85 #[vt, v] w' fun e w'' => ∃ u, e = .returned u ∧ CasAt T (evsT T 0) w'.heap.size w'' u (casN al (sizeN (evsT T 0))) ∧ Below w'.heap.size w' w'') := fun w' hb => cases_any T c hz al hal vt v w' (h.ht.keep hb) (hv.keep hb)
  have hT4 := (fits_of hz).short.t4
  have hAt := chk_atms hz
  have hN := chk_many_no hz
  have hC2 : (casN al (sizeN (evsT T 0))).length ≤ 2000 := Nat.le_trans (casN_len _ _) hN
  have HHD : Hid (∀ (s : List Int) (vs : Value) (w' : World), s.length = 3 * T.length + 3 → Below w.heap.size w w' → IntAt w' vs s → Calls Tryz.prog 95 #[.agg #[vt, .bool fa, vc], vs] w' fun e w'' => e = .returned (.bool (metB T.length c s)) ∧ Below w'.heap.size w' w'') := fun s vs w' hs hb hi => holdsP_any T hT4 fa c hAt vt vc s hs vs w' (h.keep hb) hi
  generalize hst : (fun n => stX T (evsT T 0) (exN (evsT T 0) n)) = st
  have hst' : ∀ n, stX T (evsT T 0) (exN (evsT T 0) n) = st n := fun n => by rw [← hst]
  have HWL : Hid (witL T.length c fa (optL al T (evsT T 0) (sizeN (evsT T 0))) 0 = (casN al (sizeN (evsT T 0))).find? fun k => metB T.length c (st k) != fa) := by
    show _ = _
    rw [wit_same, ← hst]
  have HSL : Hid (∀ n, (st n).length = 3 * T.length + 3) := fun n => by rw [← hst']; exact stX_len _ _ _
  have HKN : Hid (∀ B w' b off n, CasC T (evsT T 0) B w' b off n → ∃ a1 n1 p1 a2 n2 p2 a3 p3, w'.cell? ⟨b, off, none⟩ = some (.int .i64 n) ∧ w'.cell? ⟨b, off + 1, none⟩ = some (.slice a1 n1 p1) ∧ w'.cell? ⟨b, off + 2, none⟩ = some (.slice a2 n2 p2) ∧ w'.cell? ⟨b, off + 3, none⟩ = some (.slice a3 (st n).length p3) ∧ IntAt w' (.slice a3 (st n).length p3) (st n) ∧ ∀ w'' : World, w'.heap.size ≤ w''.heap.size → (∀ b : Nat, B ≤ b → b < w'.heap.size → w''.heap[b]? = w'.heap[b]?) → ExeF B w'' (.slice a1 n1 p1) (.slice a2 n2 p2) (exN (evsT T 0) n)) := fun B w' b off n hc => by
    obtain ⟨a1, n1, p1, a2, n2, p2, a3, p3, k1, k2, k3, k4, k5⟩ := cas_parts hc
    have k6 := k5.now.2
    rw [hst'] at k4 k6
    exact ⟨a1, n1, p1, a2, n2, p2, a3, p3, k1, k2, k3, k4, k6, fun w'' h1 h2 => (k5 w'' h1 h2).1⟩
  generalize witL T.length c fa (optL al T (evsT T 0) (sizeN (evsT T 0))) 0 = WL at HWL ⊢
  have HWX : Hid (∀ w' n vf vo, WXF w.heap.size (evsT T 0) WL w' n vf vo ↔ (WL = none ∧ n = -1 ∧ vf = .slice none 0 0 ∧ vo = .slice none 0 0) ∨ ∃ k, WL = some k ∧ n = (k : Int) ∧ ExeF w.heap.size w' vf vo (exN (evsT T 0) k)) := fun _ _ _ _ => Iff.rfl
  generalize WXF w.heap.size (evsT T 0) WL = WXX at HWX ⊢
  obtain ⟨_, aoT, bT, offT, capT, hvT, _⟩ := h.ht
  obtain ⟨hc0, aoc, bc, offc, capc, hsc⟩ := h.hc
  have hcv := hsc.hv
  obtain ⟨ao, b, off, cap, ⟨hv1, _, _, _⟩, _⟩ := hv
  subst hv1 hvT hcv
  clear hz hal hN hst hst' h hsc hAt
  generalize evsT T 0 = E at *
  generalize casN al (sizeN E) = C at *
  go_enter Tryz.func51, Tryz.ntmps51
  go_wp2_with fail
  have hba := below_two w (.cells #[.slice aoT T.length capT, .bool fa, .slice aoc c.length capc] 25) (.cells #[.int .i64 0, .slice none 0 0, .slice none 0 0, .slice none 0 0] 96)
  refine (HCS.out _ hba).mono ?_
  rintro e w3 ⟨uc, rfl, hcs, hb3⟩
  have hbw3 := below_more hba hb3
  have t0 := keep_cell hb3 (b := w.heap.size) (off := 0) (u := .slice aoT T.length capT) (by simp)
  have t1 := keep_cell hb3 (b := w.heap.size) (off := 1) (u := .bool fa) (by simp)
  have t2 := keep_cell hb3 (b := w.heap.size) (off := 2) (u := .slice aoc c.length capc) (by simp)
  have HR3 : Hid (CasB w3 (w.heap.size + 1)) := by
    refine CasB.keep (w := (w.alloc (.cells #[.slice aoT T.length capT, .bool fa, .slice aoc c.length capc] 25)).alloc (.cells #[.int .i64 0, .slice none 0 0, .slice none 0 0, .slice none 0 0] 96)) ⟨?_, ?_, ?_, ?_, ?_, ?_, ?_, ?_⟩ hb3 <;> simp
  obtain ⟨aoC, bC, offC, capC, hvC, haC, _, hcC⟩ := hcs
  subst hvC
  have HCC : Hid (∀ (k n : Nat), C[k]? = some n → ∃ a1 n1 p1 a2 n2 p2 a3 p3, w3.cell? ⟨bC, offC + k * 4, none⟩ = some (.int .i64 n) ∧ w3.cell? ⟨bC, offC + k * 4 + 1, none⟩ = some (.slice a1 n1 p1) ∧ w3.cell? ⟨bC, offC + k * 4 + 2, none⟩ = some (.slice a2 n2 p2) ∧ w3.cell? ⟨bC, offC + k * 4 + 3, none⟩ = some (.slice a3 (st n).length p3) ∧ IntAt w3 (.slice a3 (st n).length p3) (st n) ∧ ∀ w'' : World, w3.heap.size ≤ w''.heap.size → (∀ b : Nat, w.heap.size + 2 ≤ b → b < w3.heap.size → w''.heap[b]? = w3.heap[b]?) → ExeF (w.heap.size + 2) w'' (.slice a1 n1 p1) (.slice a2 n2 p2) (exN E n)) := fun k n hk => by
    have := HKN.out _ _ _ _ _ (hcC k n hk)
    simp only [World.size_alloc] at this
    exact this
  have HK : Hid (∀ w', Below w3.heap.size w3 w' → w'.cell? ⟨w.heap.size, 0, none⟩ = some (.slice aoT T.length capT) ∧ w'.cell? ⟨w.heap.size, 1, none⟩ = some (.bool fa) ∧ w'.cell? ⟨w.heap.size, 2, none⟩ = some (.slice aoc c.length capc)) := fun w' hb => ⟨keep_cell hb t0, keep_cell hb t1, keep_cell hb t2⟩
  have HW0 : Hid (WL = (C.drop 0).find? fun k => metB T.length c (st k) != fa) := HWL.out
  clear hcC HCS HKN t0 t1 t2 hb3 hba HWL
  go_wp2_with fail
  go_loopw [12] (fun i wr => ∃ k : Nat, k ≤ C.length ∧ i = .int .i64 k ∧ Hid (WL = (C.drop k).find? fun k => metB T.length c (st k) != fa) ∧ Below w3.heap.size w3 wr) (fun i _ => C.length - (intOf i).toNat)
  case atStart => exact ⟨0, Nat.zero_le _, rfl, HW0.out, Below.refl _ _⟩
  case round =>
    clear HW0
    obtain ⟨k, hk, rfl, hn0, hb⟩ := hrel
    have hbw := below_more hbw3 hb
    obtain ⟨t0, t1, t2⟩ := HK.out wr hb
    by_cases hlt : k < C.length
    · obtain ⟨n, hn⟩ := get_of_lt hlt
      obtain rfl := haC (ne_nil hlt)
      obtain ⟨a1, n1, p1, a2, n2, p2, a3, p3, c0, c1, c2, c3, hus, hstb⟩ := HCC.out k n hn
      have HSTB : Hid (∀ w'' : World, w3.heap.size ≤ w''.heap.size → (∀ b : Nat, w.heap.size + 2 ≤ b → b < w3.heap.size → w''.heap[b]? = w3.heap[b]?) → ExeF (w.heap.size + 2) w'' (.slice a1 n1 p1) (.slice a2 n2 p2) (exN E n)) := hstb
      have HYES : Hid ((metB T.length c (st n) != fa) = true → WL = some n) := fun hm => hn0.out.trans (by rw [drop_cons hn, find_hit (p := fun k => metB T.length c (st k) != fa) hm])
      have HNO : Hid ((metB T.length c (st n) != fa) = false → WL = (C.drop (k + 1)).find? fun k => metB T.length c (st k) != fa) := fun hm => hn0.out.trans (by rw [drop_cons hn, find_mis (p := fun k => metB T.length c (st k) != fa) hm])
      have HH1 : Hid (∀ w', Below wr.heap.size wr w' → Calls Tryz.prog 95 #[.agg #[.slice aoT T.length capT, .bool fa, .slice aoc c.length capc], .slice a3 (st n).length p3] w' fun e w'' => e = .returned (.bool (metB T.length c (st n))) ∧ Below w'.heap.size w' w'') := fun w' hb' => HHD.out (st n) _ w' (HSL.out n) (below_more hbw hb') (hus.keep (below_more hb hb'))
      generalize metB T.length c (st n) = mt at HYES HNO HH1
      have d0 := keep_cell hb c0
      have d1 := keep_cell hb c1
      have d2 := keep_cell hb c2
      have d3 := keep_cell hb c3
      have hkI : (k : Int) < (C.length : Int) := by omega
      generalize (st n).length = ln at *
      clear hus c0 c1 c2 c3 hn hstb hn0
      have hm0 := World.block_lt_of_cell? _ _ t0
      simp only at hm0
      go_wp2_with fail
      have hba2 := below_alloc wr (.cells #[.int .i64 n, .slice a1 n1 p1, .slice a2 n2 p2, .slice a3 ln p3] 96)
      have x0 : (wr.alloc (.cells #[.int .i64 n, .slice a1 n1 p1, .slice a2 n2 p2, .slice a3 ln p3] 96)).cell? ⟨wr.heap.size, 0, none⟩ = some (.int .i64 n) := by simp
      have x1 : (wr.alloc (.cells #[.int .i64 n, .slice a1 n1 p1, .slice a2 n2 p2, .slice a3 ln p3] 96)).cell? ⟨wr.heap.size, 1, none⟩ = some (.slice a1 n1 p1) := by simp
      have x2 : (wr.alloc (.cells #[.int .i64 n, .slice a1 n1 p1, .slice a2 n2 p2, .slice a3 ln p3] 96)).cell? ⟨wr.heap.size, 2, none⟩ = some (.slice a2 n2 p2) := by simp
      have x3 : (wr.alloc (.cells #[.int .i64 n, .slice a1 n1 p1, .slice a2 n2 p2, .slice a3 ln p3] 96)).cell? ⟨wr.heap.size, 3, none⟩ = some (.slice a3 ln p3) := by simp
      replace t0 := keep_cell hba2 t0
      replace t1 := keep_cell hba2 t1
      replace t2 := keep_cell hba2 t2
      have hb1a := below_more hb hba2
      generalize wr.alloc (.cells #[.int .i64 n, .slice a1 n1 p1, .slice a2 n2 p2, .slice a3 ln p3] 96) = W1 at hba2 x0 x1 x2 x3 t0 t1 t2 hb1a ⊢
      have hBx : wr.heap.size ≠ w.heap.size + 1 := by have := HR3.out.lt; have := hb.size; omega
      have HH2 : Hid (∀ w', Below W1.heap.size W1 w' → Calls Tryz.prog 95 #[.agg #[.slice aoT T.length capT, .bool fa, .slice aoc c.length capc], .slice a3 ln p3] w' fun e w'' => e = .returned (.bool mt) ∧ Below w'.heap.size w' w'') := fun w' hb' => HH1.out w' (below_more hba2 hb')
      generalize wr.heap.size = Bx at x0 x1 x2 x3 hBx ⊢
      clear d0 d1 d2 d3 HH1 hba2 hb
      have g0 := grown_cell t0
      have g1 := grown_cell t1
      have g2 := grown_cell t2
      have g3 := grown_cell x3
      have hnw := grw_some W1
      cases hmf : (mt != fa)
      · have HN2 : Hid (WL = (C.drop (k + 1)).find? fun k => metB T.length c (st k) != fa) := HNO.out hmf
        clear HYES HNO
        have e : mt = fa := by simpa using hmf
        clear hmf
        subst e
        cases mt
        all_goals
          go_wp2_with fail
          refine wp_region_grown (by kernel_rfl) (by kernel_rfl) ?_
          repeat (go_big_quiet_step ((go_at_call 95; exact grown_call (HH2.out _ (Grw.low _)))))
          refine wpQuiet_nil ?_
          intro w7 hw7
          obtain ⟨⟨w7', hb7⟩, rfl⟩ := hw7
          clear g0 g1 g2 g3
          go_wp2_with fail
          go_roundw
          case measure => simp [intOf]; omega
          case rel => exact ⟨k + 1, by omega, by go_num, HN2.out, below_more hb1a hb7⟩
      · have HN2 : Hid (WL = some n) := HYES.out hmf
        clear HYES HNO
        have e : mt = !fa := by revert hmf; cases mt <;> cases fa <;> simp
        clear hmf
        subst e
        cases fa
        all_goals
          go_wp2_with fail
          refine wp_region_grown (by kernel_rfl) (by kernel_rfl) ?_
          repeat (go_big_quiet_step ((go_at_call 95; exact grown_call (HH2.out _ (Grw.low _)))))
          refine wpQuiet_nil ?_
          intro w7 hw7
          obtain ⟨⟨w7', hb7⟩, rfl⟩ := hw7
          replace x0 := keep_cell hb7 x0
          replace x1 := keep_cell hb7 x1
          replace x2 := keep_cell hb7 x2
          replace x3 := keep_cell hb7 x3
          have hb37 := below_more hb1a hb7
          have hbw7 := below_more hbw3 hb37
          have hcb := HR3.out.keep hb37
          have hcl := HR3.out.lt
          obtain ⟨r0, r1, r2, r3, s0, s1, s2, s3⟩ := hcb
          clear g0 g1 g2 g3
          go_wp2_with fail
          refine bodyPost_ret (v := .agg #[.int .i64 n, .slice a1 n1 p1, .slice a2 n2 p2, .slice a3 ln p3]) (by simp [results, Tryz.results51, go_sem, *]) rfl ⟨_, _, _, _, rfl, (HWX.out _ _ _ _).2 (.inr ⟨n, HN2.out, rfl, (HSTB.out _ ?_ (fun b hb1 hb2 => ?_)).less (by omega)⟩), ⟨_, _, _, rfl⟩, ?_⟩
          · have := hb37.size; simp [World.setCell]; omega
          · have hne : b ≠ w.heap.size + 1 := by omega
            rw [Below.heap_setCell _ _ _ _ hne, Below.heap_setCell _ _ _ _ hne, Below.heap_setCell _ _ _ _ hne, Below.heap_setCell _ _ _ _ hne, hb37.block b hb2]
          · exact (((hbw7.setCell (by simp) _).setCell (by simp) _).setCell (by simp) _).setCell (by simp) _
    · have HN2 : Hid (WL = none) := hn0.out.trans (by rw [drop_nil hlt]; rfl)
      have hkI : (C.length : Int) ≤ (k : Int) := by omega
      obtain ⟨r0, r1, r2, r3, s0, s1, s2, s3⟩ := HR3.out.keep hb
      clear hn0
      go_wp2_with fail
      refine bodyPost_ret (v := .agg #[.int .i64 (-1), .slice none 0 0, .slice none 0 0, .slice none 0 0]) (by simp [results, Tryz.results51, go_sem, *]) rfl ⟨_, _, _, _, rfl, (HWX.out _ _ _ _).2 (.inl ⟨HN2.out, rfl, rfl, rfl⟩), ⟨_, _, _, rfl⟩, ?_⟩
      exact (((hbw.setCell (by simp) _).setCell (by simp) _).setCell (by simp) _).setCell (by simp) _

end Go.Proofs.YtomijmikkbhgmaaGreat

namespace Go.Proofs.YtomijmikkbhgmaaGreat
open Go.RowKit

set_option maxRecDepth 20000 in
set_option maxHeartbeats 4000000 in
theorem verdictP_any (T : List (List Ins)) (fa : Bool) (c : List Atm) (al : Nat → Bool) (hal : Als T (evsT T 0) al) (vt vc : Value) (w : World) (h : TestAt w (.agg #[vt, .bool fa, vc]) T fa c vt vc) :
    Calls Tryz.prog 24 #[.agg #[vt, .bool fa, vc]] w fun e w' => e = .returned (verV T c fa al) ∧ Below w.heap.size w w' := by
  have HT : Hid (TestAt w (.agg #[vt, .bool fa, vc]) T fa c vt vc) := h
  have HLS : Hid (((chk T c).1 == 0) = true → ∀ w', Below w.heap.size w w' → Calls Tryz.prog 39 #[vt] w' fun e w'' => ∃ u, e = .returned u ∧ Ev4Cap w'' u (evsT T 0) ∧ Below w'.heap.size w' w'') := fun hz w' hb => list_cap T vt w' (h.ht.keep hb) (fits_of hz).short.t4 (fits_of hz).lens
  have HOF : Hid (((chk T c).1 == 0) = true → ∀ (u : Value) (w' : World), Below w.heap.size w w' → Ev4Cap w' u (evsT T 0) → Calls Tryz.prog 49 #[.agg #[vt, .bool fa, vc], u] w' fun e w'' => e = .returned (repV (gdN T.length c (optL al T (evsT T 0) (sizeN (evsT T 0)))) (bdN T.length c (optL al T (evsT T 0) (sizeN (evsT T 0)))) fa) ∧ Below w'.heap.size w' w'') := fun hz u w' hb hu => verdictOf_any T fa c hz al hal vt vc u w' (h.keep hb) hu
  have HJ : Hid (verV T c fa al = if (chk T c).1 == 0 then .tuple #[repV (gdN T.length c (optL al T (evsT T 0) (sizeN (evsT T 0)))) (bdN T.length c (optL al T (evsT T 0) (sizeN (evsT T 0)))) fa, .int .i64 0] else .tuple #[noRep, .int .i64 (chk T c).1]) := rfl
  generalize verV T c fa al = J at HJ ⊢
  generalize gdN T.length c (optL al T (evsT T 0) (sizeN (evsT T 0))) = G at HJ HOF
  generalize bdN T.length c (optL al T (evsT T 0) (sizeN (evsT T 0))) = Bd at HJ HOF
  generalize evsT T 0 = E at HLS HOF
  have HRP : Hid (repV G Bd fa = .agg #[.int .i64 (if G == 0 then 0 else if Bd == 0 then 2 else 1), .int .i64 G, .int .i64 Bd, .bool (if fa then Bd == 0 else decide (0 < G))]) := rfl
  generalize repV G Bd fa = RP at HJ HOF HRP
  generalize (if G == 0 then (0 : Int) else if Bd == 0 then 2 else 1) = nm at HRP
  generalize (if fa then Bd == 0 else decide (0 < G)) = hd at HRP
  have hrp := HRP.out
  subst hrp
  clear HRP
  generalize hq : chk T c = q at HLS HOF HJ
  have HQ : Hid (chk T c = q) := hq
  clear hq h
  go_enter Tryz.func24, Tryz.ntmps24
  go_wp2_with fail
  have hba := below_two w (.cells #[vt, .bool fa, vc] 25) (.cells #[.int .i64 0, .int .i64 0, .int .i64 0, .bool false] 60)
  refine (find_any T fa c _ vt vc _ (HT.out.keep hba)).mono ?_
  rw [HQ.out]
  rintro e w3 ⟨rfl, hb3⟩
  unfold fault2
  have hbw3 := below_more hba hb3
  have t0 := keep_cell hb3 (b := w.heap.size) (off := 0) (u := vt) (by simp)
  have t1 := keep_cell hb3 (b := w.heap.size) (off := 1) (u := .bool fa) (by simp)
  have t2 := keep_cell hb3 (b := w.heap.size) (off := 2) (u := vc) (by simp)
  have HR3 : Hid (RepC w3 (w.heap.size + 1) 0 0 0 false) := by
    refine RepC.keep (w := (w.alloc (.cells #[vt, .bool fa, vc] 25)).alloc (.cells #[.int .i64 0, .int .i64 0, .int .i64 0, .bool false] 60)) ⟨?_, ?_, ?_, ?_, ?_, ?_, ?_, ?_⟩ hb3 <;> simp
  have s0 := World.block_lt_of_cell? _ _ t0
  simp only at s0
  have s3 := HR3.out.lt
  clear hb3
  cases hz : q.1 == 0
  · have hz2 : (q.1 != 0) = true := by simp [bne, hz]
    have HM : Hid (J = .tuple #[noRep, .int .i64 q.1]) := HJ.out.trans (by rw [hz]; rfl)
    obtain ⟨c0, c1, c2, c3, f0, f1, f2, f3⟩ := HR3.out
    clear HJ
    go_wp2_with fail
    go_region
    all_goals
      go_wp2_with fail
      refine bodyPost_ret (v := .tuple #[.agg #[.int .i64 0, .int .i64 0, .int .i64 0, .bool false], .int .i64 q.1]) (by simp [results, Tryz.results24, go_sem, *]) rfl ⟨by rw [HM.out]; rfl, ?_⟩
      exact Below.drew ((((((hbw3.setCell (by simp) _).setCell (by simp) _).setCell (by simp) _).setCell (by simp) _).alloc (by simp [World.setCell]; omega) _))
  · have hz2 : (q.1 != 0) = false := by simp [bne, hz]
    have HM : Hid (J = .tuple #[.agg #[.int .i64 nm, .int .i64 G, .int .i64 Bd, .bool hd], .int .i64 0]) := HJ.out.trans (by rw [hz]; rfl)
    have HL2 : Hid (∀ w', Below w.heap.size w w' → Calls Tryz.prog 39 #[vt] w' fun e w'' => ∃ u, e = .returned u ∧ Ev4Cap w'' u E ∧ Below w'.heap.size w' w'') := HLS.out hz
    have HO2 : Hid (∀ (u : Value) (w' : World), Below w.heap.size w w' → Ev4Cap w' u E → Calls Tryz.prog 49 #[.agg #[vt, .bool fa, vc], u] w' fun e w'' => e = .returned (.agg #[.int .i64 nm, .int .i64 G, .int .i64 Bd, .bool hd]) ∧ Below w'.heap.size w' w'') := HOF.out hz
    clear HJ HLS HOF
    have hbw4 := hbw3.alloc hbw3.size (.cells #[.int .i64 q.1, .int .i64 q.2] 84)
    have hb34 := below_alloc w3 (.cells #[.int .i64 q.1, .int .i64 q.2] 84)
    go_wp2_with fail
    refine (HL2.out _ hbw4).mono ?_
    rintro e w5 ⟨u5, rfl, hu5, hb5⟩
    have HU5 : Hid (Ev4Cap w5 u5 E) := hu5
    have hbw5 := below_more hbw4 hb5
    have hb35 := below_more hb34 hb5
    replace t0 := keep_cell hb35 t0
    replace t1 := keep_cell hb35 t1
    replace t2 := keep_cell hb35 t2
    have HR5 : Hid (RepC w5 (w.heap.size + 1) 0 0 0 false) := HR3.out.keep hb35
    clear hu5 hb5 hb34 hbw4 hbw3 hb35 HR3
    go_wp2_with fail
    refine (HO2.out u5 w5 hbw5 HU5.out).mono ?_
    rintro e w6 ⟨rfl, hb6⟩
    have hbw6 := below_more hbw5 hb6
    obtain ⟨c0, c1, c2, c3, f0, f1, f2, f3⟩ := HR5.out.keep hb6
    clear hb6 t0 t1 t2 HR5
    go_wp2_with fail
    refine bodyPost_ret (v := .tuple #[.agg #[.int .i64 nm, .int .i64 G, .int .i64 Bd, .bool hd], .int .i64 0]) (by simp [results, Tryz.results24, go_sem, *]) rfl ⟨by rw [HM.out], ?_⟩
    exact (((hbw6.setCell (by simp) _).setCell (by simp) _).setCell (by simp) _).setCell (by simp) _

/-- What Witness tells, in lists of its own. -/
def WOutF (B : Nat) (T : List (List Ins)) (c : List Atm) (fa : Bool) (al : Nat → Bool) (w : World) (n : Int) (vf vo : Value) (er : Int) : Prop :=
  ((chk T c).1 ≠ 0 ∧ n = 0 ∧ er = (chk T c).1 ∧ ExeF B w vf vo ⟨[], []⟩) ∨ ((chk T c).1 = 0 ∧ er = 0 ∧
    ((witL T.length c fa (optL al T (evsT T 0) (sizeN (evsT T 0))) 0 = none ∧ n = -1 ∧ ExeF B w vf vo ⟨[], []⟩) ∨
      ∃ k, witL T.length c fa (optL al T (evsT T 0) (sizeN (evsT T 0))) 0 = some k ∧ n = (k : Int) ∧ ExeF B w vf vo (exN (evsT T 0) k)))
theorem WOutF.at' {B : Nat} {T : List (List Ins)} {c : List Atm} {fa : Bool} {al : Nat → Bool} {w : World} {n : Int} {vf vo : Value} {er : Int} (h : WOutF B T c fa al w n vf vo er) : WOut T c fa al w n vf vo er := by
  rcases h with ⟨h1, h2, h3, h4⟩ | ⟨h1, h2, ⟨h3, h4, h5⟩ | ⟨k, h3, h4, h5⟩⟩
  · exact .inl ⟨h1, h2, h3, h4.new.at'⟩
  · exact .inr ⟨h1, h2, .inl ⟨h3, h4, h5.new.at'⟩⟩
  · exact .inr ⟨h1, h2, .inr ⟨k, h3, h4, h5.new.at'⟩⟩
set_option maxRecDepth 20000 in
set_option maxHeartbeats 4000000 in
theorem witnessP_own (T : List (List Ins)) (fa : Bool) (c : List Atm) (al : Nat → Bool) (hal : Als T (evsT T 0) al) (vt vc : Value) (w : World) (h : TestAt w (.agg #[vt, .bool fa, vc]) T fa c vt vc) :
    Calls Tryz.prog 27 #[.agg #[vt, .bool fa, vc]] w fun e w' => ∃ (n : Int) (vf vo : Value) (er : Int), e = .returned (.tuple #[.int .i64 n, .agg #[vf, vo], .int .i64 er]) ∧ WOutF w.heap.size T c fa al w' n vf vo er ∧ Below w.heap.size w w' := by
  have HT : Hid (TestAt w (.agg #[vt, .bool fa, vc]) T fa c vt vc) := h
  have HLS : Hid (((chk T c).1 == 0) = true → ∀ w', Below w.heap.size w w' → Calls Tryz.prog 39 #[vt] w' fun e w'' => ∃ u, e = .returned u ∧ Ev4Cap w'' u (evsT T 0) ∧ Below w'.heap.size w' w'') := fun hz w' hb => list_cap T vt w' (h.ht.keep hb) (fits_of hz).short.t4 (fits_of hz).lens
  have HOF : Hid (((chk T c).1 == 0) = true → ∀ (u : Value) (w' : World), Below w.heap.size w w' → Ev4Cap w' u (evsT T 0) → Calls Tryz.prog 51 #[.agg #[vt, .bool fa, vc], u] w' fun e w'' => ∃ (n : Int) (vf vo u : Value), e = .returned (.agg #[.int .i64 n, vf, vo, u]) ∧ WXF w'.heap.size (evsT T 0) (witL T.length c fa (optL al T (evsT T 0) (sizeN (evsT T 0))) 0) w'' n vf vo ∧ (∃ a l p, u = .slice a l p) ∧ Below w'.heap.size w' w'') := fun hz u w' hb hu => verdictWit_own T fa c hz al hal vt vc u w' (h.keep hb) hu
  have HJ : Hid (∀ w' n vf vo er, WOutF w.heap.size T c fa al w' n vf vo er ↔ ((chk T c).1 ≠ 0 ∧ n = 0 ∧ er = (chk T c).1 ∧ ExeF w.heap.size w' vf vo ⟨[], []⟩) ∨ ((chk T c).1 = 0 ∧ er = 0 ∧
    ((witL T.length c fa (optL al T (evsT T 0) (sizeN (evsT T 0))) 0 = none ∧ n = -1 ∧ ExeF w.heap.size w' vf vo ⟨[], []⟩) ∨
      ∃ k, witL T.length c fa (optL al T (evsT T 0) (sizeN (evsT T 0))) 0 = some k ∧ n = (k : Int) ∧ ExeF w.heap.size w' vf vo (exN (evsT T 0) k)))) := fun _ _ _ _ _ => Iff.rfl
  generalize WOutF w.heap.size T c fa al = J at HJ ⊢
  generalize witL T.length c fa (optL al T (evsT T 0) (sizeN (evsT T 0))) 0 = WL at HJ HOF
  generalize evsT T 0 = E at HLS HOF HJ
  generalize hq : chk T c = q at HLS HOF HJ
  have HQ : Hid (chk T c = q) := hq
  clear hq h
  go_enter Tryz.func27, Tryz.ntmps27
  go_wp2_with fail
  refine (find_any T fa c _ vt vc _ (HT.out.keep (below_two _ _ _))).mono ?_
  rw [HQ.out]
  rintro e w3 ⟨rfl, hb3⟩
  unfold fault2
  have hbw3 := below_more (below_two w (.cells #[vt, .bool fa, vc] 25) (.cells #[.slice none 0 0, .slice none 0 0] 29)) hb3
  simp only [World.size_alloc] at hb3
  obtain ⟨t0, t1, t2, d0, d1, f0, f1, s2, s3⟩ := own5 hb3
  clear hb3
  cases hz : q.1 == 0
  · have hz2 : (q.1 != 0) = true := by simp [bne, hz]
    have HM : Hid (∀ w', J w' 0 (.slice none 0 0) (.slice none 0 0) q.1) := fun w' => (HJ.out w' _ _ _ _).2 (.inl ⟨by simpa using hz, rfl, rfl, exeF_nil _ _⟩)
    clear HJ
    go_wp2_with fail
    go_region
    all_goals
      go_wp2_with fail
      refine bodyPost_ret (v := .tuple #[.int .i64 0, .agg #[.slice none 0 0, .slice none 0 0], .int .i64 q.1]) (by simp [results, Tryz.results27, go_sem, *]) rfl ⟨_, _, _, _, rfl, HM.out _, ?_⟩
      exact Below.drew ((((hbw3.setCell (by simp) _).setCell (by simp) _).alloc (by simp [World.setCell]; omega) _))
  · have hz2 : (q.1 != 0) = false := by simp [bne, hz]
    have hq0 : q.1 = 0 := by simpa using hz
    have HJN : Hid (∀ w', WL = none → J w' (-1) (.slice none 0 0) (.slice none 0 0) 0) := fun w' hn => (HJ.out w' _ _ _ _).2 (.inr ⟨hq0, rfl, .inl ⟨hn, rfl, exeF_nil _ _⟩⟩)
    have HJS : Hid (∀ w' k vf vo, WL = some k → ExeF w.heap.size w' vf vo (exN E k) → J w' (k : Int) vf vo 0) := fun w' k vf vo hn hx => (HJ.out w' _ _ _ _).2 (.inr ⟨hq0, rfl, .inr ⟨k, hn, rfl, hx⟩⟩)
    have HL2 : Hid (∀ w', Below w.heap.size w w' → Calls Tryz.prog 39 #[vt] w' fun e w'' => ∃ u, e = .returned u ∧ Ev4Cap w'' u E ∧ Below w'.heap.size w' w'') := HLS.out hz
    have HO2 : Hid (∀ (u : Value) (w' : World), Below w.heap.size w w' → Ev4Cap w' u E → Calls Tryz.prog 51 #[.agg #[vt, .bool fa, vc], u] w' fun e w'' => ∃ (n : Int) (vf vo u : Value), e = .returned (.agg #[.int .i64 n, vf, vo, u]) ∧ WXF w'.heap.size E WL w'' n vf vo ∧ (∃ a l p, u = .slice a l p) ∧ Below w'.heap.size w' w'') := HOF.out hz
    clear HJ HLS HOF hq0
    have hbw4 := hbw3.alloc hbw3.size (.cells #[.int .i64 q.1, .int .i64 q.2] 84)
    have hb34 := below_alloc w3 (.cells #[.int .i64 q.1, .int .i64 q.2] 84)
    go_wp2_with fail
    refine (HL2.out _ hbw4).mono ?_
    rintro e w5 ⟨u5, rfl, hu5, hb5⟩
    have HU5 : Hid (Ev4Cap w5 u5 E) := hu5
    have hbw5 := below_more hbw4 hb5
    have hb35 := below_more hb34 hb5
    replace t0 := keep_cell hb35 t0
    replace t1 := keep_cell hb35 t1
    replace t2 := keep_cell hb35 t2
    clear hu5 hb5 hb34 hbw4 hbw3
    go_wp2_with fail
    refine (HO2.out u5 w5 hbw5 HU5.out).mono ?_
    rintro e w6 ⟨n, vf, vo, u6, rfl, hwx, ⟨a6, l6, p6, rfl⟩, hb6⟩
    have hbw6 := below_more hbw5 hb6
    have hb36 := below_more hb35 hb6
    replace d0 := keep_cell hb36 d0
    replace d1 := keep_cell hb36 d1
    replace f0 := (hb36.frozen (p := ⟨w.heap.size + 1, 0, none⟩) s3).trans f0
    replace f1 := (hb36.frozen (p := ⟨w.heap.size + 1, 1, none⟩) s3).trans f1
    have s5 : w.heap.size + 1 < w5.heap.size := Nat.lt_of_lt_of_le s3 hb35.size
    have s6 : w.heap.size + 1 < w6.heap.size := Nat.lt_of_lt_of_le s3 hb36.size
    clear t0 t1 t2 hb36 hb35 hb6 s2 s3
    rcases hwx with ⟨h1, rfl, rfl, rfl⟩ | ⟨k, h1, rfl, hx⟩
    · have HW : Hid (WL = none) := h1
      clear h1
      go_wp2_with fail
      go_region
      all_goals
        go_wp2_with fail
        refine bodyPost_ret (v := .tuple #[.int .i64 (-1), .agg #[.slice none 0 0, .slice none 0 0], .int .i64 0]) (by simp [results, Tryz.results27, go_sem, *]) rfl ⟨_, _, _, _, rfl, HJN.out _ HW.out, ?_⟩
        exact Below.drew ((((hbw6.setCell (by simp) _).setCell (by simp) _).alloc (by simp [World.setCell]; omega) _))
    · have HW : Hid (WL = some k) := h1
      obtain ⟨aof, cf, hff⟩ := hx.new.at'.f.form
      obtain ⟨aoo, bo, oo, co, hso⟩ := hx.new.at'.o
      have hfo := hso.hv
      subst hff hfo
      have HXX : Hid (ExeF w5.heap.size w6 (.slice aof (exN E k).from'.length cf) (.slice aoo (exN E k).order.length co) (exN E k)) := hx
      generalize hl1 : (exN E k).from'.length = l1 at HXX
      generalize hl2 : (exN E k).order.length = l2 at HXX
      clear h1 hx hso hl1 hl2
      go_wp2_with fail
      go_region
      all_goals
        go_wp2_with fail
        refine bodyPost_ret (v := .tuple #[.int .i64 k, .agg #[.slice aof l1 cf, .slice aoo l2 co], .int .i64 0]) (by simp [results, Tryz.results27, go_sem, *]) rfl ⟨_, _, _, _, rfl, HJS.out _ k _ _ HW.out ?_, ?_⟩
        · refine (HXX.out.other fun b hb1 hb2 => ?_).less hbw5.size
          have hne : b ≠ w.heap.size + 1 := by omega
          refine (Below.block (B := w6.heap.size) (w := (w6.setCell ⟨w.heap.size + 1, 0, none⟩ (.slice aof l1 cf)).setCell ⟨w.heap.size + 1, 1, none⟩ (.slice aoo l2 co)) ((below_alloc _ _).mono (by simp [World.setCell])).drew b hb2).trans ?_
          all_goals rw [Below.heap_setCell _ _ _ _ hne, Below.heap_setCell _ _ _ _ hne]
        · exact Below.drew ((((hbw6.setCell (by simp) _).setCell (by simp) _).alloc (by simp [World.setCell]; omega) _))

set_option maxRecDepth 20000 in
set_option maxHeartbeats 1000000 in
theorem sameReport_any (a b c : Int) (d : Bool) (w : World) :
    Calls Tryz.prog 26 #[.agg #[.int .i64 a, .int .i64 b, .int .i64 c, .bool d], .agg #[.int .i64 a, .int .i64 b, .int .i64 c, .bool d]] w fun e w' => e = .returned (.bool true) ∧ Below w.heap.size w w' := by
  have e1 : (a == a) = true := by simp
  have e2 : (b == b) = true := by simp
  have e3 : (c == c) = true := by simp
  cases d
  · go_enter Tryz.func26, Tryz.ntmps26
    go_wp2_with fail
    go_ret
    exact ⟨rfl, below_two _ _ _⟩
  · go_enter Tryz.func26, Tryz.ntmps26
    go_wp2_with fail
    go_ret
    exact ⟨rfl, below_two _ _ _⟩

theorem WOut.same {T : List (List Ins)} {c : List Atm} {fa : Bool} {al : Nat → Bool} {w w' : World} {n n' : Int} {vf vo vf' vo' : Value} {er er' : Int} (h : WOut T c fa al w n vf vo er) (k : WOut T c fa al w' n' vf' vo' er') : n = n' ∧ er = er' ∧ ∃ x : Exe, (x.from'.length ≤ 100000 ∧ x.order.length ≤ 100000 ∧ ∀ y ∈ x.order, y.length ≤ 100000) ∧ ExeAt w vf vo x ∧ ExeAt w' vf' vo' x := by
  have z0 : (⟨[], []⟩ : Exe).from'.length ≤ 100000 ∧ (⟨[], []⟩ : Exe).order.length ≤ 100000 ∧ ∀ y ∈ (⟨[], []⟩ : Exe).order, y.length ≤ 100000 := ⟨by simp, by simp, fun y hy => by cases hy⟩
  rcases h with ⟨h1, h2, h3, h4⟩ | ⟨h1, h2, h3⟩ <;> rcases k with ⟨k1, k2, k3, k4⟩ | ⟨k1, k2, k3⟩
  · exact ⟨h2.trans k2.symm, h3.trans k3.symm, _, z0, h4, k4⟩
  · exact absurd k1 h1
  · exact absurd h1 k1
  · rcases h3 with ⟨a1, a2, a3⟩ | ⟨p, a1, a2, a3⟩ <;> rcases k3 with ⟨b1, b2, b3⟩ | ⟨q, b1, b2, b3⟩
    · exact ⟨a2.trans b2.symm, h2.trans k2.symm, _, z0, a3, b3⟩
    · rw [a1] at b1; cases b1
    · rw [a1] at b1; cases b1
    · rw [a1] at b1
      cases b1
      refine ⟨a2.trans b2.symm, h2.trans k2.symm, _, ?_, a3, b3⟩
      have hz : ((chk T c).1 == 0) = true := by simpa using h1
      have hE := (fits_of hz).el
      have hx := exN_isEx (evsT T 0) p
      refine ⟨?_, by have := hx.o3; omega, fun y hy => ?_⟩
      · have h4 := hx.f; have h5 := rdsX_len (evsT T 0) 0; omega
      · obtain ⟨j, hj⟩ := List.mem_iff_getElem?.1 hy
        have := hx.len hE hj
        omega

end Go.Proofs.YtomijmikkbhgmaaGreat
